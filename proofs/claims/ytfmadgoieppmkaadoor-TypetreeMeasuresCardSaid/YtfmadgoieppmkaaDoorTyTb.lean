/- Types: what the law's fixed types are. -/
import Derived.Test.YtfmadgoieppmkaaDoorTyTa
namespace Go.Proofs.YtfmadgoieppmkaaDoor
open Go.RowKit

theorem name_t : nameB tT = true := by decide +kernel
theorem empty_e : e0.toList.isEmpty = true := by decide +kernel
theorem right_loop : rightE (loopT 0 2) = 0 := by decide +kernel
theorem right_var : rightE (varT 0) = 4 := by decide +kernel
theorem right_bare : rightE bareT = 3 := by decide +kernel
theorem right_int : rightE (leafT 1) = 0 := by decide +kernel
theorem right_send : rightE (sendT 0 (leafT 1)) = 3 := by decide +kernel
theorem unfold_loop : Ty.put tT (loopT 0 2) (sendT 0 (varT 2)) = sendT 0 (loopT 2 2) := by rfl
theorem raise_loop : (loopT 0 2).raise 3 = loopT 3 2 := by rfl
theorem size_loop : (loopT 0 2).size = 4 := by rfl
theorem depth_loop : (loopT 0 2).depth = 3 := by rfl
theorem loop_ne_var : loopT 0 2 ≠ varT 0 := by intro h; have := congrArg Ty.k h; simp [loopT, varT, Ty.k] at this

end Go.Proofs.YtfmadgoieppmkaaDoor
