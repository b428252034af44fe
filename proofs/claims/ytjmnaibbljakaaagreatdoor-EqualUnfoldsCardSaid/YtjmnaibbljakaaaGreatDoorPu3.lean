/- Processes: the program's Right. (and what follows from it) -/
import Derived.Test.YtjmnaibbljakaaaGreatDoorPu2
import Derived.Deep.WholeRow

/- Processes: the program's Right. -/
namespace Go.Proofs.YtjmnaibbljakaaaGreatDoor
open Go.RowKit Go.Deep Go.Shelf
attribute [local go_sem] Oper.semAt_some

/-- A node is as its kind asks. -/
noncomputable def Pr.okN (p : Pr) : Bool := pknK p.k && p.shp
noncomputable def allN (l : List (Nat × Pr)) : Bool := l.all fun x => x.2.okN
noncomputable def prightE (p : Pr) : Int := if p.large then 2 else if allN (preP 1 p) then 0 else 3
theorem allN_snoc (l : List (Nat × Pr)) (x : Nat × Pr) : allN (l ++ [x]) = (allN l && x.2.okN) := by simp [allN]
theorem allN_prefix {l r : List (Nat × Pr)} (h : l <+: r) (hl : allN l = false) : allN r = false := by
  obtain ⟨s, rfl⟩ := h
  unfold allN at hl ⊢
  rw [List.all_append, hl, Bool.false_and]
/-- A piece of code ends, with this frame, in this world. -/
def EndsAt (A : Act) (W : World) : Exit → Act → World → Prop
  | .normal, a, w => a = A ∧ w = W
  | _, _, _ => False
end Go.Proofs.YtjmnaibbljakaaaGreatDoor
