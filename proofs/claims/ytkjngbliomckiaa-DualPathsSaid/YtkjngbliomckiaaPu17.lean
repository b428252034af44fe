/- Duals: a list of bytes that came in. (and what follows from it) -/
import Derived.Test.YtkjngbliomckiaaPu16
import Derived.LaidLaws
import Derived.LaidMore
import Derived.MakeChecks
import Derived.OpenShut
import Derived.ChangeArms
import Derived.DataShut
import Derived.WalkKit
import Derived.ProofKit
import Derived.Deep.DeepHandedRow
import Derived.Deep.Slices
import Derived.Deep.Fields
import Derived.ChangeSame
import Derived.ChangeSlices
import Derived.Carry

/- Duals: a list of bytes that came in. -/
namespace Go.Proofs.Ytkjngbliomckiaa
open Go.ChangeShapes Go.WideShapes Go.ChangeAt Go.RowKit
open Go.Deep

set_option maxRecDepth 100000 in
/-- A list of bytes that came in. -/
theorem bytes_open {H : Type} {enc : TypeId × Value → H} {W : World} {base : Nat} {spare : Nat → Bool} {held : Bool} {v : Value} {d : DataW H} {p : List MemPlace} {b0 : Nat} (hv : Value.okWide Try.prog W .any b0 51 v) (h : DataW.Trod enc Try.prog W base spare held 51 v d p) :
    ∃ pa pn pc xs, v = .slice pa pn pc ∧ BySl W pa pn xs := by
  obtain ⟨a0, len0, cap0, rfl⟩ := okWide_slice Try.underlying51 hv
  obtain ⟨fuel, hf⟩ := h
  have hf' : DataW.trod enc Try.prog W base spare held fuel 51 [.slice a0 len0 cap0] = some (d, p) := hf
  rcases open_ints (k := .u8) Try.underlying51 Try.underlying5 (by kernel_rfl) hf' with ⟨e, _⟩ | ⟨a, len, cap, zs, e, _, hlc, hm, hzl, _, hcell, hx⟩
  · simp only [List.cons.injEq, Value.slice.injEq, and_true] at e
    obtain ⟨rfl, rfl, rfl⟩ := e
    exact ⟨_, _, _, [], rfl, rfl, fun j x hj => by simp at hj⟩
  · simp only [List.cons.injEq, Value.slice.injEq, and_true] at e
    obtain ⟨rfl, rfl, rfl⟩ := e
    have hz : len0 ≤ zs.length := by rw [hzl]; split <;> omega
    refine ⟨_, _, _, zs.take len0, rfl, by rw [List.length_take]; omega, fun j x hj => ?_⟩
    have hjl : j < len0 := by have := (List.getElem?_eq_some_iff.1 hj).1; rw [List.length_take] at this; omega
    have h0c := hcell 0 (by omega)
    rw [add_zero'] at h0c
    obtain ⟨e1, e2⟩ := addr_of_cell h0c
    have hc := hcell j (by omega)
    rw [List.getElem?_take_of_lt hjl] at hj
    have hzd : zs.getD j 0 = x := by rw [List.getD_eq_getElem?_getD, hj]; rfl
    rw [e1, add_block, hzd] at hc
    have hw := (Lit.wf_int_iff .u8 x).1 (hx x (List.mem_of_getElem? hj))
    exact ⟨a.block, a.off, by rw [← e1], e2, hc, hw⟩
end Go.Proofs.Ytkjngbliomckiaa
