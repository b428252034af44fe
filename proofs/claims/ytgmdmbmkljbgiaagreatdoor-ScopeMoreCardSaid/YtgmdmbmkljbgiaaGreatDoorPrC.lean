/- Processes: lists of values compared, by the program. -/
import Derived.Test.YtgmdmbmkljbgiaaGreatDoorPrM
import Derived.Test.YtgmdmbmkljbgiaaGreatDoorTyF
namespace Go.Proofs.YtgmdmbmkljbgiaaGreatDoor
open Go.RowKit

noncomputable def eqV (vs vs' : List Vl) : Bool := @decide (vs = vs') (Classical.propDecidable _)
theorem eqV_true {t u : List Vl} : eqV t u = true ↔ t = u := by unfold eqV; simp
theorem eqV_ne {t u : List Vl} (h : t ≠ u) : eqV t u = false := by
  cases e : eqV t u with
  | false => rfl
  | true => exact absurd (eqV_true.1 e) h

end Go.Proofs.YtgmdmbmkljbgiaaGreatDoor
