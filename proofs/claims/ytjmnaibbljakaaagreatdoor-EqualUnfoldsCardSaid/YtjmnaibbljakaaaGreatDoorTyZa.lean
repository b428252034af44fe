/- Types: tooLarge. -/
import Derived.Test.YtjmnaibbljakaaaGreatDoorTyZ
namespace Go.Proofs.YtjmnaibbljakaaaGreatDoor
open Go.RowKit Go.Deep Go.Shelf
attribute [local go_sem] Oper.semAt_some

/-- Is a type too large? -/
def Ty.large (t : Ty) : Bool := decide (10000 < t.size ∨ 100 < t.depth)

theorem mdep_le_of_prefix {l r : List (List Ty × Int × Ty)} (h : l <+: r) : mdep l ≤ mdep r := by
  obtain ⟨s, rfl⟩ := h
  rw [mdep_append]; omega

end Go.Proofs.YtjmnaibbljakaaaGreatDoor
