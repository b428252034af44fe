/- Contexts: lists of entries, and references, that came in. (and what follows from it) -/
import Derived.Test.YticdkbcfahjpnaaPt10
import Derived.Test.YticdkbcfahjpnaaPt2

/- Contexts: lists of entries, and references, that came in. -/
namespace Go.Proofs.Yticdkbcfahjpnaa
open Go.ChangeShapes Go.WideShapes Go.ChangeAt Go.RowKit Go.Deep

theorem entCellsOf : Try.prog.cellsOf 30 = 3 := by kernel_rfl
theorem rentCellsOf : Try.prog.cellsOf 49 = 7 := by kernel_rfl
set_option maxRecDepth 100000 in
/-- A list of entries that came in. -/
theorem ents_open {H : Type} {enc : TypeId × Value → H} {W : World} {base : Nat} {spare : Nat → Bool} {held : Bool} {v : Value} {d : DataW H} {p : List MemPlace} {b0 : Nat} (hv : Value.okWide Try.prog W .any b0 22 v) (h : DataW.Trod enc Try.prog W base spare held 22 v d p) :
    ∃ es, EnSl (fun k => k < W.heap.size) W v es := by
  obtain ⟨a0, len0, cap0, rfl⟩ := okWide_slice Try.underlying22 hv
  obtain ⟨fuel, hf⟩ := h
  have hf' : DataW.trod enc Try.prog W base spare held fuel 22 [.slice a0 len0 cap0] = some (d, p) := hf
  obtain ⟨a, len, cap, e, hl, hm, hi⟩ := slice_of Try.underlying22 hf'
  simp only [Value.slice.injEq] at e
  obtain ⟨rfl, rfl, rfl⟩ := e
  rw [entCellsOf] at hi
  obtain ⟨es, hn, hrow, _⟩ := rows_of (fun (e : Ent) b o => EnAt W b o e) (by omega) hi (fun n cs y _ hcl ht => by
    obtain ⟨ys, n', hn', hD, hcl2, hyl, hf⟩ := DataW.trod_struct Try.underlying30 ht
    obtain ⟨x0, x1, x2, rfl⟩ := list3 hcl
    obtain ⟨y0, t0⟩ := fld hyl hf 0 rfl (c := 1) (by kernel_rfl) (ds := [x0]) rfl (t := 9) rfl
    obtain ⟨y1, t1⟩ := fld hyl hf 1 rfl (c := 2) (by kernel_rfl) (ds := [x1, x2]) rfl (t := 24) rfl
    obtain ⟨nm, hnm, _, _⟩ := DataW.trod_string Try.underlying9 t0
    simp only [List.cons.injEq, and_true] at hnm
    subst hnm
    obtain ⟨zs, m', _, _, _, hzl, hg⟩ := fields_of Try.underlying24 (by kernel_rfl) (by kernel_rfl) t1
    obtain ⟨u0, _, e0, _, r0⟩ := hg 0 _ rfl
    obtain ⟨u1, _, e1, _, r1⟩ := hg 1 _ rfl
    obtain ⟨k, hk, _, _⟩ := DataW.trod_int Try.underlying3 r0
    obtain ⟨s, hs, _, _⟩ := DataW.trod_int Try.underlying3 r1
    simp only [List.cons.injEq, and_true] at hk hs
    subst hk hs
    simp only [List.getElem?_cons_zero, List.getElem?_cons_succ, Option.some.injEq] at e0 e1
    subst e0 e1
    exact ⟨⟨nm, k, s⟩, fun b o _ hc => ⟨hc 0 _ rfl, hc 1 _ rfl, hc 2 _ rfl⟩⟩)
  refine ⟨es, ?_, by omega⟩
  rcases hrow with rfl | ⟨b, o, rfl, hb, hrow⟩
  · exact .inl ⟨⟨a0, cap0, by rw [← hn]; rfl⟩, rfl⟩
  · exact .inr ⟨b, o, cap0, by rw [hn], hb, hrow⟩
set_option maxRecDepth 100000 in
/-- A list of entries of the reference that came in. -/
theorem rents_open {H : Type} {enc : TypeId × Value → H} {W : World} {base : Nat} {spare : Nat → Bool} {held : Bool} {v : Value} {d : DataW H} {p : List MemPlace} {b0 : Nat} (hv : Value.okWide Try.prog W .any b0 32 v) (h : DataW.Trod enc Try.prog W base spare held 32 v d p) :
    ∃ ms, PmSl (fun k => k < W.heap.size) W v ms := by
  obtain ⟨a0, len0, cap0, rfl⟩ := okWide_slice Try.underlying32 hv
  obtain ⟨fuel, hf⟩ := h
  have hf' : DataW.trod enc Try.prog W base spare held fuel 32 [.slice a0 len0 cap0] = some (d, p) := hf
  obtain ⟨a, len, cap, e, hl, hm, hi⟩ := slice_of Try.underlying32 hf'
  simp only [Value.slice.injEq] at e
  obtain ⟨rfl, rfl, rfl⟩ := e
  rw [rentCellsOf] at hi
  obtain ⟨ms, hn, hrow, _⟩ := rows_of (fun (a : Pm) b o => PmAt (fun k => k < W.heap.size) W a b o) (by omega) hi (fun n cs y _ hcl ht => by
    obtain ⟨ys, n', hn', hD, hcl2, hyl, hf⟩ := DataW.trod_struct Try.underlying49 ht
    obtain ⟨a0, a1, a2, a3, a4, a5, a6, rfl⟩ := list7 hcl
    obtain ⟨y0, t0⟩ := fld hyl hf 0 rfl (c := 1) (by kernel_rfl) (ds := [a0]) rfl (t := 9) rfl
    obtain ⟨y1, t1⟩ := fld hyl hf 1 rfl (c := 6) (by kernel_rfl) (ds := [a1, a2, a3, a4, a5, a6]) rfl (t := 47) rfl
    obtain ⟨nm, hnm, _, hnz⟩ := DataW.trod_string Try.underlying9 t0
    simp only [List.cons.injEq, and_true] at hnm
    subst hnm
    obtain ⟨t, tl, tk, et, hft, hlt⟩ := ty_open _ _ _ t1
    simp only [tyCells, List.cons.injEq, and_true] at et
    obtain ⟨rfl, rfl, rfl, rfl, rfl, rfl⟩ := et
    refine ⟨⟨nm, t⟩, fun b o hb hc => ⟨hnz, hc 0 _ rfl, ?_⟩⟩
    exact tyAt_of hb (hc 1 _ rfl) (hc 2 _ rfl) (hc 3 _ rfl) (hc 4 _ rfl) (hc 5 _ rfl) (hc 6 _ rfl) hlt)
  refine ⟨ms, ?_, by omega⟩
  rcases hrow with rfl | ⟨b, o, rfl, hb, hrow⟩
  · exact .inl ⟨⟨a0, cap0, by rw [← hn]; rfl⟩, rfl⟩
  · exact .inr ⟨b, o, cap0, by rw [hn], hb, hrow⟩
set_option maxRecDepth 100000 in
/-- A reference that came in. -/
theorem ref_open {H : Type} {enc : TypeId × Value → H} {W : World} {base : Nat} {spare : Nat → Bool} {held : Bool} {v : Value} {d : DataW H} {p : List MemPlace} {b0 : Nat} (hv : Value.okWide Try.prog W .any b0 24 v) (h : DataW.Trod enc Try.prog W base spare held 24 v d p) :
    ∃ a s : Int, v = .agg #[.int .i64 a, .int .i64 s] := by
  obtain ⟨fuel, hf⟩ := h
  unfold Value.okWide at hv
  rw [Try.underlying24] at hv
  obtain ⟨cs, rfl, _, _⟩ := hv
  have hf' : DataW.trod enc Try.prog W base spare held fuel 24 cs.toList = some (d, p) := hf
  obtain ⟨zs, m', _, _, hl, hzl, hg⟩ := fields_of Try.underlying24 (by kernel_rfl) (by kernel_rfl) hf'
  obtain ⟨u0, _, e0, _, r0⟩ := hg 0 _ rfl
  obtain ⟨u1, _, e1, _, r1⟩ := hg 1 _ rfl
  obtain ⟨k, hk, _, _⟩ := DataW.trod_int Try.underlying3 r0
  obtain ⟨s, hs, _, _⟩ := DataW.trod_int Try.underlying3 r1
  simp only [List.cons.injEq, and_true] at hk hs
  subst hk hs
  refine ⟨k, s, ?_⟩
  have hl2 : cs.toList.length = 2 := hl
  have : cs.toList = [.int .i64 k, .int .i64 s] := by
    match hh : cs.toList, hl2 with
    | [x, y], _ =>
      rw [hh] at e0 e1
      simp only [List.getElem?_cons_zero, List.getElem?_cons_succ, Option.some.injEq] at e0 e1
      rw [e0, e1]
  rw [← Array.toList_inj.1 (show cs.toList = (#[.int .i64 k, .int .i64 s] : Array Value).toList from this)]
set_option maxRecDepth 100000 in
/-- A list of texts that came in. -/
theorem names_open {H : Type} {enc : TypeId × Value → H} {W : World} {base : Nat} {spare : Nat → Bool} {held : Bool} {v : Value} {d : DataW H} {p : List MemPlace} {b0 : Nat} (hv : Value.okWide Try.prog W .any b0 33 v) (h : DataW.Trod enc Try.prog W base spare held 33 v d p) :
    ∃ ls, StrSl (fun k => k < W.heap.size) W v ls := by
  obtain ⟨a0, len0, cap0, rfl⟩ := okWide_slice Try.underlying33 hv
  obtain ⟨fuel, hf⟩ := h
  exact strs_open hf
end Go.Proofs.Yticdkbcfahjpnaa
