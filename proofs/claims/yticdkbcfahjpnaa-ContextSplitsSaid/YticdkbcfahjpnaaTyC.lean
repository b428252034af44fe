/- Types: sameness, by the reference. -/
import Derived.Test.YticdkbcfahjpnaaTyB
import Derived.Lib.Strings
namespace Go.Proofs.Yticdkbcfahjpnaa
open Go.RowKit

theorem str_ne {s s' : ByteArray} (h : s ≠ s') : (s.toList != s'.toList) = true := by
  simp only [bne_iff_ne, ne_eq]
  intro e
  apply h
  rw [Lib.toList_data, Lib.toList_data] at e
  obtain ⟨⟨a⟩⟩ := s
  obtain ⟨⟨b⟩⟩ := s'
  simp at e
  rw [e]

/-- Are two types the same? -/
noncomputable def eqB (t u : Ty) : Bool := @decide (t = u) (Classical.propDecidable _)
theorem eqB_true {t u : Ty} : eqB t u = true ↔ t = u := by unfold eqB; simp
theorem eqB_self (t : Ty) : eqB t t = true := eqB_true.2 rfl
theorem eqB_ne {t u : Ty} (h : t ≠ u) : eqB t u = false := by
  cases e : eqB t u with
  | false => rfl
  | true => exact absurd (eqB_true.1 e) h
theorem eqB_comm (t u : Ty) : eqB t u = eqB u t := by
  by_cases h : t = u
  · rw [h]
  · rw [eqB_ne h, eqB_ne (Ne.symm h)]

/-- The contract of a function that compares types, at one type for the first. -/
def SameAt (f : Nat) (B : Nat → Prop) (t : Ty) : Prop := ∀ (u : Ty) (v v' : Value) (w : World), Low B w → TyVal B w v t → TyVal B w v' u → Calls Try.prog f #[v, v'] w fun e w' => e = .returned (.bool (eqB t u)) ∧ Below w.heap.size w w'

abbrev cell6 (k p : Int) (n : ByteArray) (s : Int) (lv kv : Value) : Obj := .cells #[.int .i64 k, .int .i64 p, .string n, .int .i64 s, lv, kv] 47
/-- The world in which both parameters are boxed. -/
abbrev box2 (w : World) (k p : Int) (n : ByteArray) (s : Int) (lv kv : Value) (k' p' : Int) (n' : ByteArray) (s' : Int) (lv' kv' : Value) : World := (w.alloc (cell6 k p n s lv kv)).alloc (cell6 k' p' n' s' lv' kv')
theorem box2_below (w : World) (o o' : Obj) : Below w.heap.size w ((w.alloc o).alloc o') := ((Below.refl _ _).alloc (Nat.le_refl _) _).alloc (by simp) _

end Go.Proofs.Yticdkbcfahjpnaa
