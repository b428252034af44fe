/- Types: sameness, by the program. -/
import Derived.Test.YticdkbcfahjpnaaTyD
namespace Go.Proofs.Yticdkbcfahjpnaa
open Go.RowKit

noncomputable def eqL (ts ts' : List Ty) : Bool := @decide (ts = ts') (Classical.propDecidable _)
theorem eqL_true {t u : List Ty} : eqL t u = true ↔ t = u := by unfold eqL; simp
theorem eqL_ne {t u : List Ty} (h : t ≠ u) : eqL t u = false := by
  cases e : eqL t u with
  | false => rfl
  | true => exact absurd (eqL_true.1 e) h

end Go.Proofs.Yticdkbcfahjpnaa
