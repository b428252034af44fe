/- Types: a list of types that came in as an argument. (and what follows from it) -/
import Derived.Test.YtkjngbliomckiaaPu2

/- Types: a list of types that came in as an argument. -/
namespace Go.Proofs.Ytkjngbliomckiaa
open Go.ChangeShapes Go.WideShapes Go.ChangeAt Go.RowKit Go.Deep

set_option maxRecDepth 100000 in
/-- A list of types that came in. -/
theorem types_open {H : Type} {enc : TypeId × Value → H} {W : World} {base : Nat} {spare : Nat → Bool} {held : Bool} {v : Value} {d : DataW H} {p : List MemPlace} {b0 : Nat} (hv : Value.okWide Try.prog W .any b0 22 v) (h : DataW.Trod enc Try.prog W base spare held 22 v d p) :
    ∃ ts, TySl (fun k => k < W.heap.size) W v ts := by
  obtain ⟨a0, len0, cap0, rfl⟩ := okWide_slice Try.underlying22 hv
  obtain ⟨fuel, hf⟩ := h
  have hf' : DataW.trod enc Try.prog W base spare held fuel 22 [.slice a0 len0 cap0] = some (d, p) := hf
  obtain ⟨a, len, cap, e, hl, hm, hi⟩ := slice_of Try.underlying22 hf'
  simp only [Value.slice.injEq] at e
  obtain ⟨rfl, rfl, rfl⟩ := e
  rw [tyCellsOf] at hi
  have each : ∀ i, i < len0 → ∃ t : Ty, t.fine ∧ ∃ b o, a0 = some ⟨b, o, none⟩ ∧ TyAt (fun k => k < W.heap.size) W t b (o + i * 6) := by
    intro i hin
    obtain ⟨ad, n, cs', y, rfl, hlt, hc, ht⟩ := hi i hin
    obtain ⟨ad0, n0, cs0, y0, e0, _, hc0, ht0⟩ := hi 0 (by omega)
    obtain rfl := Option.some.inj e0
    obtain ⟨t, lv, kv, rfl, hfine, hlies⟩ := ty_open n cs' y ht
    obtain ⟨_, hl6, hat⟩ := World.cells?_some hc
    obtain ⟨_, hl0, hat0⟩ := World.cells?_some hc0
    have h0 := hat0 0 (by omega)
    rw [Nat.zero_mul, add_zero', add_zero', List.getElem?_eq_getElem (by omega)] at h0
    obtain ⟨e1, e2⟩ := addr_of_cell h0
    rw [e1] at hat
    simp only [add_block] at hat
    refine ⟨t, hfine, ad.block, ad.off, by rw [← e1], ?_⟩
    refine tyAt_of e2 ?_ ?_ ?_ ?_ ?_ ?_ hlies
    · have := hat 0 (by omega); simpa [tyCells] using this
    · have := hat 1 (by omega); simpa [tyCells] using this
    · have := hat 2 (by omega); simpa [tyCells] using this
    · have := hat 3 (by omega); simpa [tyCells] using this
    · have := hat 4 (by omega); simpa [tyCells] using this
    · have := hat 5 (by omega); simpa [tyCells] using this
  obtain ⟨ts, htn, hts⟩ := choose_list _ len0 each
  refine ⟨ts, ?_, by show ts.length ≤ _; omega⟩
  show _ ∨ _
  cases ts with
  | nil => exact .inl ⟨⟨a0, cap0, by rw [← htn]; rfl⟩, rfl⟩
  | cons u0 r =>
    obtain ⟨_, b, o, rfl, hat0⟩ := hts 0 u0 rfl
    refine .inr ⟨b, o, cap0, by show Value.slice _ _ _ = Value.slice _ (u0 :: r).length _; rw [htn], (TyAt.eq.1 hat0).1, ?_⟩
    refine tysAt_of (fun i t hi' => ?_)
    obtain ⟨_, b', o', e, hat⟩ := hts i t hi'
    simp only [Option.some.injEq, Addr.mk.injEq, and_true] at e
    obtain ⟨rfl, rfl⟩ := e
    exact hat
end Go.Proofs.Ytkjngbliomckiaa
