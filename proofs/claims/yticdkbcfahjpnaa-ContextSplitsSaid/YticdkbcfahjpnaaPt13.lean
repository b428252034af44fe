/- Contexts: lists of entries, and references, that came in. (and what follows from it) -/
import Derived.Test.YticdkbcfahjpnaaPt10
import Derived.Test.YticdkbcfahjpnaaPt2
import Derived.Test.YticdkbcfahjpnaaPt5

/- Contexts: lists of entries, and references, that came in. -/
namespace Go.Proofs.Yticdkbcfahjpnaa
open Go.ChangeShapes Go.WideShapes Go.ChangeAt Go.RowKit Go.Deep

theorem entCellsOf : Try.prog.cellsOf 30 = 3 := by kernel_rfl
theorem rentCellsOf : Try.prog.cellsOf 49 = 7 := by kernel_rfl
set_option maxRecDepth 100000 in
/-- A list of entries that came in. -/
theorem ents_open {H : Type} {enc : TypeId × Value → H} {W : World} {base : Nat} {spare : Nat → Bool} {held : Bool} {v : Value} {d : DataW H} {p : List MemPlace} {b0 : Nat} (hv : Value.okWide Try.prog W .any b0 22 v) (h : DataW.Trod enc Try.prog W base spare held 22 v d p) :
    ∃ es, EnSl (fun k => k < W.heap.size) W v es := by
  obtain ⟨a0, len0, cap0, rfl⟩ := okWide_slice Try.underlying22 hv
  obtain ⟨fuel, hf⟩ := h
  have hf' : DataW.trod enc Try.prog W base spare held fuel 22 [.slice a0 len0 cap0] = some (d, p) := hf
  obtain ⟨a, len, cap, e, hl, hm, hi⟩ := slice_of Try.underlying22 hf'
  simp only [Value.slice.injEq] at e
  obtain ⟨rfl, rfl, rfl⟩ := e
  rw [entCellsOf] at hi
  obtain ⟨es, hn, hrow, _⟩ := rows_of (fun (e : Ent) b o => EnAt W b o e) (by omega) hi (fun n cs y _ hcl ht => by
    obtain ⟨ys, n', hn', hD, hcl2, hyl, hf⟩ := DataW.trod_struct Try.underlying30 ht
    obtain ⟨x0, x1, x2, rfl⟩ := list3 hcl
    obtain ⟨y0, t0⟩ := fld hyl hf 0 rfl (c := 1) (by kernel_rfl) (ds := [x0]) rfl (t := 9) rfl
    obtain ⟨y1, t1⟩ := fld hyl hf 1 rfl (c := 2) (by kernel_rfl) (ds := [x1, x2]) rfl (t := 24) rfl
    obtain ⟨nm, hnm, _, _⟩ := DataW.trod_string Try.underlying9 t0
    simp only [List.cons.injEq, and_true] at hnm
    subst hnm
    obtain ⟨zs, m', _, _, _, hzl, hg⟩ := fields_of Try.underlying24 (by kernel_rfl) (by kernel_rfl) t1
    obtain ⟨u0, _, e0, _, r0⟩ := hg 0 _ rfl
    obtain ⟨u1, _, e1, _, r1⟩ := hg 1 _ rfl
    obtain ⟨k, hk, _, _⟩ := DataW.trod_int Try.underlying3 r0
    obtain ⟨s, hs, _, _⟩ := DataW.trod_int Try.underlying3 r1
    simp only [List.cons.injEq, and_true] at hk hs
    subst hk hs
    simp only [List.getElem?_cons_zero, List.getElem?_cons_succ, Option.some.injEq] at e0 e1
    subst e0 e1
    exact ⟨⟨nm, k, s⟩, fun b o _ hc => ⟨hc 0 _ rfl, hc 1 _ rfl, hc 2 _ rfl⟩⟩)
  refine ⟨es, ?_, by omega⟩
  rcases hrow with rfl | ⟨b, o, rfl, hb, hrow⟩
  · exact .inl ⟨⟨a0, cap0, by rw [← hn]; rfl⟩, rfl⟩
  · exact .inr ⟨b, o, cap0, by rw [hn], hb, hrow⟩
set_option maxRecDepth 100000 in
/-- A list of entries of the reference that came in. -/
theorem rents_open {H : Type} {enc : TypeId × Value → H} {W : World} {base : Nat} {spare : Nat → Bool} {held : Bool} {v : Value} {d : DataW H} {p : List MemPlace} {b0 : Nat} (hv : Value.okWide Try.prog W .any b0 32 v) (h : DataW.Trod enc Try.prog W base spare held 32 v d p) :
    ∃ ms, PmSl (fun k => k < W.heap.size) W v ms := by
  obtain ⟨a0, len0, cap0, rfl⟩ := okWide_slice Try.underlying32 hv
  obtain ⟨fuel, hf⟩ := h
  have hf' : DataW.trod enc Try.prog W base spare held fuel 32 [.slice a0 len0 cap0] = some (d, p) := hf
  obtain ⟨a, len, cap, e, hl, hm, hi⟩ := slice_of Try.underlying32 hf'
  simp only [Value.slice.injEq] at e
  obtain ⟨rfl, rfl, rfl⟩ := e
  rw [rentCellsOf] at hi
  obtain ⟨ms, hn, hrow, _⟩ := rows_of (fun (a : Pm) b o => PmAt (fun k => k < W.heap.size) W a b o) (by omega) hi (fun n cs y _ hcl ht => by
    obtain ⟨ys, n', hn', hD, hcl2, hyl, hf⟩ := DataW.trod_struct Try.underlying49 ht
    obtain ⟨a0, a1, a2, a3, a4, a5, a6, rfl⟩ := list7 hcl
    obtain ⟨y0, t0⟩ := fld hyl hf 0 rfl (c := 1) (by kernel_rfl) (ds := [a0]) rfl (t := 9) rfl
    obtain ⟨y1, t1⟩ := fld hyl hf 1 rfl (c := 6) (by kernel_rfl) (ds := [a1, a2, a3, a4, a5, a6]) rfl (t := 47) rfl
    obtain ⟨nm, hnm, _, hnz⟩ := DataW.trod_string Try.underlying9 t0
    simp only [List.cons.injEq, and_true] at hnm
    subst hnm
    obtain ⟨t, tl, tk, et, hft, hlt⟩ := ty_open _ _ _ t1
    simp only [tyCells, List.cons.injEq, and_true] at et
    obtain ⟨rfl, rfl, rfl, rfl, rfl, rfl⟩ := et
    refine ⟨⟨nm, t⟩, fun b o hb hc => ⟨hnz, hc 0 _ rfl, ?_⟩⟩
    exact tyAt_of hb (hc 1 _ rfl) (hc 2 _ rfl) (hc 3 _ rfl) (hc 4 _ rfl) (hc 5 _ rfl) (hc 6 _ rfl) hlt)
  refine ⟨ms, ?_, by omega⟩
  rcases hrow with rfl | ⟨b, o, rfl, hb, hrow⟩
  · exact .inl ⟨⟨a0, cap0, by rw [← hn]; rfl⟩, rfl⟩
  · exact .inr ⟨b, o, cap0, by rw [hn], hb, hrow⟩
set_option maxRecDepth 100000 in
theorem rentBytesOf : Try.prog.bytesOf 49 = 104 := by kernel_rfl
set_option maxRecDepth 100000 in
/-- How long such a list can be. -/
theorem rents_reach {H : Type} {enc : TypeId × Value → H} {W : World} {base : Nat} {spare : Nat → Bool} {held : Bool} {v : Value} {d : DataW H} {p : List MemPlace} (h : DataW.Trod enc Try.prog W base spare held 32 v d p) (hr : ∀ n ∈ d.weights Try.prog 32, n ≤ reachBytes)
    {pa : Option Addr} {len c : Nat} (hv : v = .slice pa len c) : len * 88 ≤ 140737488355328 := by
  subst hv
  obtain ⟨fuel, hf⟩ := h
  have hf' : DataW.trod enc Try.prog W base spare held fuel 32 [.slice pa len c] = some (d, p) := hf
  rcases DataW.trod_slice Try.underlying32 hf' with ⟨hc, _⟩ | ⟨a, len', cap, elems, rest, n, _, hcs, hx, _, _, _, hlen, _⟩
  · simp only [List.cons.injEq, Value.slice.injEq, and_true] at hc
    omega
  · simp only [List.cons.injEq, Value.slice.injEq, and_true] at hcs
    obtain ⟨_, rfl, _⟩ := hcs
    obtain rfl : d = _ := congrArg Prod.fst hx
    rw [DataW.weights, Try.underlying32] at hr
    have h := hr _ (List.mem_cons_self)
    rw [rentBytesOf, List.length_map, List.length_map, hlen] at h
    unfold reachBytes at h
    omega
theorem reach_first {H : Type} {P : Program} {t : TypeId} {ts : List TypeId} {d : DataW H} {ds : List (DataW H)} (h : (DataW.weightsEach P (t :: ts) (d :: ds)).all (· ≤ reachBytes) = true) : ∀ n ∈ d.weights P t, n ≤ reachBytes := by
  intro n hn
  rw [DataW.weightsEach, List.all_append, Bool.and_eq_true] at h
  simpa using List.all_eq_true.1 h.1 n hn
set_option maxRecDepth 100000 in
/-- A reference that came in. -/
theorem ref_open {H : Type} {enc : TypeId × Value → H} {W : World} {base : Nat} {spare : Nat → Bool} {held : Bool} {v : Value} {d : DataW H} {p : List MemPlace} {b0 : Nat} (hv : Value.okWide Try.prog W .any b0 24 v) (h : DataW.Trod enc Try.prog W base spare held 24 v d p) :
    ∃ a s : Int, v = .agg #[.int .i64 a, .int .i64 s] := by
  obtain ⟨fuel, hf⟩ := h
  unfold Value.okWide at hv
  rw [Try.underlying24] at hv
  obtain ⟨cs, rfl, _, _⟩ := hv
  have hf' : DataW.trod enc Try.prog W base spare held fuel 24 cs.toList = some (d, p) := hf
  obtain ⟨zs, m', _, _, hl, hzl, hg⟩ := fields_of Try.underlying24 (by kernel_rfl) (by kernel_rfl) hf'
  obtain ⟨u0, _, e0, _, r0⟩ := hg 0 _ rfl
  obtain ⟨u1, _, e1, _, r1⟩ := hg 1 _ rfl
  obtain ⟨k, hk, _, _⟩ := DataW.trod_int Try.underlying3 r0
  obtain ⟨s, hs, _, _⟩ := DataW.trod_int Try.underlying3 r1
  simp only [List.cons.injEq, and_true] at hk hs
  subst hk hs
  refine ⟨k, s, ?_⟩
  have hl2 : cs.toList.length = 2 := hl
  have : cs.toList = [.int .i64 k, .int .i64 s] := by
    match hh : cs.toList, hl2 with
    | [x, y], _ =>
      rw [hh] at e0 e1
      simp only [List.getElem?_cons_zero, List.getElem?_cons_succ, Option.some.injEq] at e0 e1
      rw [e0, e1]
  rw [← Array.toList_inj.1 (show cs.toList = (#[.int .i64 k, .int .i64 s] : Array Value).toList from this)]
set_option maxRecDepth 100000 in
/-- A list of texts that came in. -/
theorem names_open {H : Type} {enc : TypeId × Value → H} {W : World} {base : Nat} {spare : Nat → Bool} {held : Bool} {v : Value} {d : DataW H} {p : List MemPlace} {b0 : Nat} (hv : Value.okWide Try.prog W .any b0 33 v) (h : DataW.Trod enc Try.prog W base spare held 33 v d p) :
    ∃ ls, StrSl (fun k => k < W.heap.size) W v ls := by
  obtain ⟨a0, len0, cap0, rfl⟩ := okWide_slice Try.underlying33 hv
  obtain ⟨fuel, hf⟩ := h
  exact strs_open hf
end Go.Proofs.Yticdkbcfahjpnaa

/- Unfolding by the reference: Raise, whose list of kids is a row of its own. -/
namespace Go.Proofs.Yticdkbcfahjpnaa
open Go.RowKit Go.Deep Go.Shelf

/-- A type in new memory, whose kids are a row of their own, beside all that hangs on them and the labels. -/
def TyRetK (w : World) (g : Ty) (e : Ending) (w' : World) : Prop :=
  ∃ la ln lc va vn vc m rows, e = .returned (.agg #[.int .i64 g.k, .int .i64 g.p, .string g.n, .int .i64 g.s, .slice la ln lc, .slice va vn vc]) ∧ g.n.size ≤ maxLen ∧ w.heap.size ≤ m ∧ m ≤ w'.heap.size ∧
    StrSl (Fresh w.heap.size m) w' (.slice la ln lc) g.ls ∧ Kids 47 6 GoodT m w' (.slice va vn vc) rows g.ts ∧ Below w.heap.size w w'
theorem TyRetK.ret {w w' : World} {g : Ty} {e : Ending} (h : TyRetK w g e w') (hm : g.ts.length ≤ maxLen) : TyRet w g e w' := by
  obtain ⟨la, ln, lc, va, vn, vc, m, rows, rfl, hn, h1, h2, hs, hk, hb⟩ := h
  exact ⟨la, ln, lc, va, vn, vc, rfl, ⟨_, _, rfl, hn, hs.mono (Fresh.mono (Nat.le_refl _) h2), (hk.tys hm).mono (Fresh.mono h1 (Nat.le_refl _))⟩, hb⟩
theorem Row.strsIn {base : Nat} {W : World} {v : Value} {l : List ByteArray} {B : Nat → Prop} (h : Row base W v l) (hl : l.length ≤ maxLen) (hB : ∀ k, v.ownBlock = some k → B k) : StrSl B W v l := by
  obtain ⟨h1, h2, h3⟩ := (h.strs hl).2
  refine ⟨?_, h2, h3⟩
  rcases h1 with h1 | ⟨b, o, c, rfl, _, h4⟩
  · exact .inl h1
  · exact .inr ⟨b, o, c, rfl, hB b rfl, h4⟩

set_option maxHeartbeats 8000000 in
set_option maxRecDepth 100000 in
theorem rraiseK_step (B : Nat → Prop) (j : Int) (k p s : Int) (n : ByteArray) (lv kv : Value) (ls : List ByteArray) (ts : List Ty) (hm : (Ty.mk k p n s ls ts).can j) (hnn : n.size ≤ maxLen) (w : World) (hB : Low B w) (hl : StrSl B w lv ls) (hk : TySl B w kv ts)
    (ih : ∀ t ∈ ts, ∀ (v : Value) (w : World), Low B w → TyVal B w v t → Calls Try.prog 54 #[v, .int .i64 j] w (TyRet w (t.raise j))) :
    Calls Try.prog 54 #[.agg #[.int .i64 k, .int .i64 p, .string n, .int .i64 s, lv, kv], .int .i64 j] w (TyRetK w ((Ty.mk k p n s ls ts).raise j)) := by
  simp only [Ty.can] at hm
  obtain ⟨hp, hm1, hm2, _⟩ := hm
  obtain ⟨l0, len0, cl0, rfl, hll, _, _⟩ := hl.open
  obtain ⟨k0, kn0, kc0, rfl, hkl, hkm, hkget⟩ := hk.open
  have hb0 := box2_below w (cell6 k p n s (.slice l0 len0 cl0) (.slice k0 kn0 kc0)) (cell6 0 0 ⟨#[]⟩ 0 (.slice none 0 0) (.slice none 0 0))
  obtain ⟨s0, s1⟩ := Six.two w (.int .i64 k) (.int .i64 p) (.string n) (.int .i64 s) (.slice l0 len0 cl0) (.slice k0 kn0 kc0) (.int .i64 0) (.int .i64 0) (.string ⟨#[]⟩) (.int .i64 0) (.slice none 0 0) (.slice none 0 0)
  obtain ⟨W2, hW2⟩ : ∃ W2, (w.alloc (cell6 k p n s (.slice l0 len0 cl0) (.slice k0 kn0 kc0))).alloc (cell6 0 0 ⟨#[]⟩ 0 (.slice none 0 0) (.slice none 0 0)) = W2 := ⟨_, rfl⟩
  have hs2 : W2.heap.size = w.heap.size + 2 := by rw [← hW2]; simp
  simp only [cell6] at hW2 hb0
  rw [hW2] at hb0 s0 s1
  have HL : Hid (∀ W, Below W2.heap.size W2 W → StrSl B W (.slice l0 len0 cl0) ls) := Lib.hid (fun W hW => hl.keep ((below_seq hb0 hW).keeps'.mono hB))
  have HK : Hid (∀ W : World, (∀ i, i < w.heap.size → W.heap[i]? = w.heap[i]?) → TySl B W (.slice k0 kn0 kc0) ts) := Lib.hid (fun W hW => hk.keep (fun i o hi ho _ => (hW i (hB i hi)).trans ho))
  have HS0 := Lib.hid s0
  have HS1 := Lib.hid s1
  have HB0 := Lib.hid hb0
  have HW2 := Lib.hid hW2
  have HIH := Lib.hid ih
  have HKL := Lib.hid hkl.out
  have HBB := Lib.hid hB
  have hll1 : 0 + ls.length ≤ 1000000000 := by omega
  have HNN := Lib.hid hnn
  clear hl hk s0 s1 hb0 hW2 ih hkget hll hB hkl hnn
  go_enter Try.func54, Try.ntmps54
  obtain ⟨⟨d0, d1, d2, d3, d4, d5⟩, hf⟩ := HS0.out.cells
  go_upto_region 1 with fail
  rw [HW2.out]
  clear HW2
  go_cut [5] from 6 (fun v wc => RaiseSt W2.heap.size W2 k p s n ls v wc)
  case first =>
    have HBr := Lib.hid (Below.refl W2.heap.size W2)
    go_region_held_law (fun W => W.cell? ⟨w.heap.size, 0, none⟩ = some (.int .i64 k) ∧ W.cell? ⟨w.heap.size, 1, none⟩ = some (.int .i64 p) ∧ W.cell? ⟨w.heap.size, 2, none⟩ = some (.string n) ∧ W.cell? ⟨w.heap.size, 3, none⟩ = some (.int .i64 s) ∧ W.cell? ⟨w.heap.size, 4, none⟩ = some (.slice l0 len0 cl0) ∧ W.cell? ⟨w.heap.size, 5, none⟩ = some (.slice k0 kn0 kc0))
      (first | go_keep | exact (HS0.out.to (by (repeat (first | with_reducible exact HBr.out | with_reducible exact HB1.out | with_reducible exact H7.out.2.2 | with_reducible exact H8.out.2.2 | with_reducible apply Below.drew | (with_reducible refine Below.setCell ?_ ?_ _; rotate_left; focus (first | omega | (simp; done) | (simp; omega))) | (with_reducible refine Below.alloc ?_ ?_ _; rotate_left; focus (first | omega | (simp; done) | (simp; omega))))))).cells.1 | fail)
      (first
        | (refine step_appS6 (by rfl) _ _ (by rfl) W2.heap.size [] (.slice (some ⟨w.heap.size + 2, 0, none⟩) 0 0) ?_ ?_ B l0 len0 cl0 ls ?_ ?_ hll1 ?_ (.tmp 5) (w.heap.size + 3) ?_ ?_ ls (List.nil_append _) W2 ?_ ?_
           · rfl
           · (repeat (first | (with_reducible refine Row.empty _ _ _ ?_ ?_ <;> first | omega | rfl | (simp; omega) | (simp; done)) | with_reducible refine Row.alloc ?_ _ | with_reducible refine Row.drew ?_))
           · rfl
           · exact HL.out _ (by (repeat (first | with_reducible exact HBr.out | with_reducible exact HB1.out | with_reducible exact H7.out.2.2 | with_reducible exact H8.out.2.2 | with_reducible apply Below.drew | (with_reducible refine Below.setCell ?_ ?_ _; rotate_left; focus (first | omega | (simp; done) | (simp; omega))) | (with_reducible refine Below.alloc ?_ ?_ _; rotate_left; focus (first | omega | (simp; done) | (simp; omega))))))
           · (first | omega | (simp; done) | (simp; omega))
           · rfl
           · repeat (first | with_reducible exact heap_new6 _ _ _ (by first | omega | (simp; done) | (simp; omega)) | with_reducible refine Eq.trans (heap_drew6 _ _) ?_ | with_reducible refine Eq.trans (Below.heap_alloc _ _ _ (by first | omega | (simp; done) | (simp; omega))) ?_)
           · (repeat (first | with_reducible exact HBr.out | with_reducible exact HB1.out | with_reducible exact H7.out.2.2 | with_reducible exact H8.out.2.2 | with_reducible apply Below.drew | (with_reducible refine Below.setCell ?_ ?_ _; rotate_left; focus (first | omega | (simp; done) | (simp; omega))) | (with_reducible refine Below.alloc ?_ ?_ _; rotate_left; focus (first | omega | (simp; done) | (simp; omega)))))
           intro ga gn gc w5 hb5 hr5 hx5
           obtain ⟨⟨q0, q1, q2, q3, q4, q5⟩, hfq⟩ := Six.cells hx5
           have HB1 := Lib.hid hb5
           have HR1 := Lib.hid hr5
           have HX1 := Lib.hid hx5
           have hz5 : W2.heap.size ≤ w5.heap.size := HB1.out.size
           clear hb5 hr5 hx5)
        | (refine step_appS6 (by rfl) _ _ (by rfl) W2.heap.size [] (.slice (some ⟨w.heap.size + 3, 0, none⟩) 0 0) ?_ ?_ B l0 len0 cl0 ls ?_ ?_ hll1 ?_ (.tmp 5) (w.heap.size + 2) ?_ ?_ ls (List.nil_append _) W2 ?_ ?_
           · rfl
           · (repeat (first | (with_reducible refine Row.empty _ _ _ ?_ ?_ <;> first | omega | rfl | (simp; omega) | (simp; done)) | with_reducible refine Row.alloc ?_ _ | with_reducible refine Row.drew ?_))
           · rfl
           · exact HL.out _ (by (repeat (first | with_reducible exact HBr.out | with_reducible exact HB1.out | with_reducible exact H7.out.2.2 | with_reducible exact H8.out.2.2 | with_reducible apply Below.drew | (with_reducible refine Below.setCell ?_ ?_ _; rotate_left; focus (first | omega | (simp; done) | (simp; omega))) | (with_reducible refine Below.alloc ?_ ?_ _; rotate_left; focus (first | omega | (simp; done) | (simp; omega))))))
           · (first | omega | (simp; done) | (simp; omega))
           · rfl
           · repeat (first | with_reducible exact heap_new6 _ _ _ (by first | omega | (simp; done) | (simp; omega)) | with_reducible refine Eq.trans (heap_drew6 _ _) ?_ | with_reducible refine Eq.trans (Below.heap_alloc _ _ _ (by first | omega | (simp; done) | (simp; omega))) ?_)
           · (repeat (first | with_reducible exact HBr.out | with_reducible exact HB1.out | with_reducible exact H7.out.2.2 | with_reducible exact H8.out.2.2 | with_reducible apply Below.drew | (with_reducible refine Below.setCell ?_ ?_ _; rotate_left; focus (first | omega | (simp; done) | (simp; omega))) | (with_reducible refine Below.alloc ?_ ?_ _; rotate_left; focus (first | omega | (simp; done) | (simp; omega)))))
           intro ga gn gc w5 hb5 hr5 hx5
           obtain ⟨⟨q0, q1, q2, q3, q4, q5⟩, hfq⟩ := Six.cells hx5
           have HB1 := Lib.hid hb5
           have HR1 := Lib.hid hr5
           have HX1 := Lib.hid hx5
           have hz5 : W2.heap.size ≤ w5.heap.size := HB1.out.size
           clear hb5 hr5 hx5)
        | (refine step_app (by rfl) _ _ (by rfl) W2.heap.size [] (.slice (some ⟨w.heap.size + 2, 0, none⟩) 0 0) ?_ ?_ B l0 len0 cl0 ls ?_ ?_ hll1 ?_ ls (List.nil_append _) ?_
           · rfl
           · (repeat (first | (with_reducible refine Row.empty _ _ _ ?_ ?_ <;> first | omega | rfl | (simp; omega) | (simp; done)) | with_reducible refine Row.alloc ?_ _ | with_reducible refine Row.drew ?_))
           · rfl
           · exact HL.out _ (by (repeat (first | with_reducible exact HBr.out | with_reducible exact HB1.out | with_reducible exact H7.out.2.2 | with_reducible exact H8.out.2.2 | with_reducible apply Below.drew | (with_reducible refine Below.setCell ?_ ?_ _; rotate_left; focus (first | omega | (simp; done) | (simp; omega))) | (with_reducible refine Below.alloc ?_ ?_ _; rotate_left; focus (first | omega | (simp; done) | (simp; omega))))))
           · (first | omega | (simp; done) | (simp; omega))
           intro ga gn gc w5 hrow hgrow
           have HB1 := Lib.hid (Below.grown (B := W2.heap.size) (a := W2) (by (repeat (first | with_reducible exact HBr.out | with_reducible exact HB1.out | with_reducible exact H7.out.2.2 | with_reducible exact H8.out.2.2 | with_reducible apply Below.drew | (with_reducible refine Below.setCell ?_ ?_ _; rotate_left; focus (first | omega | (simp; done) | (simp; omega))) | (with_reducible refine Below.alloc ?_ ?_ _; rotate_left; focus (first | omega | (simp; done) | (simp; omega)))))) hgrow (by first | omega | (simp; done) | (simp; omega)) (fun k e => by cases e; first | omega | (simp; done) | (simp; omega)))
           have HR1 := Lib.hid hrow
           have hz5 : W2.heap.size ≤ w5.heap.size := HB1.out.size
           clear hrow hgrow)
        | fail)
    all_goals (go_wp2_with fail)
    all_goals go_meet
    all_goals (first
      | exact ⟨_, ga, gn, gc, rfl, by omega, Lib.hid (Six.fill HX1.out _ _ _ _ _ _), Lib.hid (HR1.out.kept (fun q hq => heap_setCells_other (fun e => Row.ne_ty HR1.out HX1.out (by rw [hq, e])) [_, _, _, _, _, _] 0 _)), Lib.hid (by (repeat (first | with_reducible exact HB1.out | with_reducible apply Below.drew | (with_reducible refine Below.setCell ?_ ?_ _; rotate_left; focus (first | omega | (simp; done) | (simp; omega))) | (with_reducible refine Below.alloc ?_ ?_ _; rotate_left; focus (first | omega | (simp; done) | (simp; omega))))))⟩
      | exact ⟨_, ga, gn, gc, rfl, by omega, Lib.hid (Six.new _ _ _ _ _ _ _), Lib.hid (HR1.out.alloc _), Lib.hid (by (repeat (first | with_reducible exact HB1.out | with_reducible apply Below.drew | (with_reducible refine Below.setCell ?_ ?_ _; rotate_left; focus (first | omega | (simp; done) | (simp; omega))) | (with_reducible refine Below.alloc ?_ ?_ _; rotate_left; focus (first | omega | (simp; done) | (simp; omega))))))⟩
      | trace_state)
  case rest =>
    obtain ⟨bq, la, ln, lc, rfl, hbq, HX, HR, HB⟩ := hcut
    obtain ⟨W3, hW3⟩ : ∃ W3, W3 = wc := ⟨_, rfl⟩
    rw [← hW3] at HX HR HB ⊢
    clear hW3 wc
    have HS3 := Lib.hid (HS0.out.to HB.out)
    have hbx := HX.out.lt
    obtain ⟨act, hact⟩ : ∃ b, actB k = b := ⟨_, rfl⟩
    obtain ⟨p', hp'⟩ : ∃ x, (if actB k = true then p + j else p) = x := ⟨_, rfl⟩
    have HP := Lib.hid hp'
    go_upto_region 2 with fail
    go_cut [27] from 28 (fun b wr => b = .bool act ∧ W3 = wr)
    case first =>
      obtain ⟨⟨d0, d1, d2, d3, d4, d5⟩, hf⟩ := HS3.out.cells
      by_cases h4 : 4 ≤ k
      · by_cases h7 : k ≤ 7
        · obtain rfl : act = true := by rw [← hact]; simp [actB, h4, h7]
          go_wp2_with fail
          go_meet
          case rel => exact ⟨rfl, rfl⟩
        · obtain rfl : act = false := by rw [← hact]; simp [actB, h4, h7]
          go_wp2_with fail
          go_meet
          case rel => exact ⟨rfl, rfl⟩
      · obtain rfl : act = false := by rw [← hact]; simp [actB, h4]
        go_wp2_with fail
        go_meet
        case rel => exact ⟨rfl, rfl⟩
    case rest =>
      obtain ⟨rfl, rfl⟩ := hcut
      go_upto_if 27 with fail
      go_cut [5] from 28 (fun v wr => v = .pointer (some ⟨bq, 0, none⟩) ∧ Hid (Six wr bq (.int .i64 k) (.int .i64 p') (.string n) (.int .i64 s) (.slice la ln lc) (.slice none 0 0)) ∧ Hid (Row W2.heap.size wr (.slice la ln lc) ls) ∧ Hid (Below W2.heap.size W2 wr))
      case first =>
        obtain ⟨⟨d0, d1, d2, d3, d4, d5⟩, hf⟩ := HS3.out.cells
        obtain ⟨⟨e0, e1, e2, e3, e4, e5⟩, hf1⟩ := HX.out.cells
        cases act
        · rw [if_neg (by simp [hact])] at hp'
          subst hp'
          go_wp2_with fail
          go_meet
          case rel => exact ⟨rfl, HX, HR, HB⟩
        · obtain ⟨hlo, hhi⟩ := hp hact
          rw [if_pos hact] at hp'
          subst hp'
          go_wp2_with fail
          go_meet
          case rel => exact ⟨rfl, Lib.hid (set_block HX.out 1 _), Lib.hid (HR.out.kept (fun q hq => Below.heap_setCell _ _ _ q (by simp; exact fun e => Row.ne_ty HR.out HX.out (by rw [hq, e])))), Lib.hid (HB.out.setCell (p := ⟨bq, 1, none⟩) hbq _)⟩
      case rest =>
        clear HX HR HB HS3 hact hp'
        obtain ⟨rfl, HX, HR, HB⟩ := hcut
        obtain ⟨W4, hW4⟩ : ∃ W4, W4 = wc := ⟨_, rfl⟩
        rw [← hW4] at HX HR HB ⊢
        clear hW4 wc
        have hb4 : W2.heap.size ≤ W4.heap.size := HB.out.size
        have hbq4 : bq < W4.heap.size := HX.out.lt
        have hkn1 : kn0 ≤ 1048576 := by rw [HKL.out]; exact hm2
        have HLO : Hid (∀ wr, W4.grownBy wr (some bq) → ∀ i, i < W2.heap.size → wr.heap[i]? = W2.heap[i]?) := Lib.hid (fun wr hg i hi => (hg.block i (by omega) (fun e => by injection e; omega)).trans (HB.out.block i hi))
        have HX0 : Hid (∀ wr, W4.grownBy wr (some bq) → Six wr w.heap.size (.int .i64 k) (.int .i64 p) (.string n) (.int .i64 s) (.slice l0 len0 cl0) (.slice k0 kn0 kc0)) := Lib.hid (fun wr hg => (HLO.out wr hg _ (by omega)).trans HS0.out)
        have HX1 : Hid (∀ wr, W4.grownBy wr (some bq) → Six wr (w.heap.size + 1) (.int .i64 0) (.int .i64 0) (.string ⟨#[]⟩) (.int .i64 0) (.slice none 0 0) (.slice none 0 0)) := Lib.hid (fun wr hg => (HLO.out wr hg _ (by omega)).trans HS1.out)
        have HKW : Hid (∀ wr, W4.grownBy wr (some bq) → TySl B wr (.slice k0 kn0 kc0) ts) := Lib.hid (fun wr hg => HK.out wr (fun i hi => (HLO.out wr hg i (by omega)).trans (HB0.out.block i hi)))
        have HBW : Hid (∀ wr, W4.grownBy wr (some bq) → Low B wr) := Lib.hid (fun wr hg => HBB.out.le (by have := hg.size; omega))
        have HRW : Hid (∀ wr, W4.grownBy wr (some bq) → Row W2.heap.size wr (.slice la ln lc) ls) := Lib.hid (fun wr hg => HR.out.kept (fun q hq => hg.block q (HR.out.lt q hq).2 (fun e => Row.ne_ty HR.out HX.out (e.symm.trans hq.symm))))
        have HRS : Hid (∀ k, (Value.slice la ln lc).ownBlock = some k → k < W4.heap.size) := Lib.hid (fun k hk => (HR.out.lt k hk).2)
        clear HLO HR HS0 HS1 HK HL hbx
        clear d0 d1 d2 d3 d4 d5 hf
        go_wp2_with fail
        go_loopw [6] (fun i wr => ∃ (q : Nat) (va : Option Addr) (vn vc : Nat) (rows : List (List Value)), i = .int .i64 (q : Int) ∧ q ≤ kn0 ∧ Hid (W4.grownBy wr (some bq)) ∧ Hid (Six wr bq (.int .i64 k) (.int .i64 p') (.string n) (.int .i64 s) (.slice la ln lc) (.slice va vn vc)) ∧ Hid (Kids 47 6 GoodT W4.heap.size wr (.slice va vn vc) rows ((ts.take q).map (Ty.raise j)))) (fun i _ => kn0 - (intOf i).toNat)
        case atStart => exact ⟨0, none, 0, 0, [], rfl, by omega, Lib.hid ⟨rfl, rfl, rfl, Nat.le_refl _, fun _ _ _ => rfl⟩, HX, Lib.hid (Kids.nil _)⟩
        case round =>
          clear HX
          obtain ⟨q, va, vn, vc, rows, rfl, hq, HG, HX4, HKD⟩ := hrel
          obtain ⟨⟨a0, a1, a2, a3, a4, a5⟩, haf⟩ := (HX0.out wr HG.out).cells
          obtain ⟨⟨b0, b1, b2, b3, b4, b5⟩, hbf⟩ := HX4.out.cells
          have hwr4 := HG.out.size
          by_cases hlt : q < kn0
          · obtain ⟨t, htq⟩ : ∃ t, ts[q]? = some t := ⟨_, List.getElem?_eq_getElem (by rw [← HKL.out]; exact hlt)⟩
            obtain ⟨kb, ko, hk0, hkb, hty⟩ : ∃ kb ko, k0 = some ⟨kb, ko, none⟩ ∧ B kb ∧ TyAt B wr t kb (ko + q * 6) := by
              obtain ⟨pa, len, c, e, _, _, hget⟩ := (HKW.out wr HG.out).open
              injection e with e1 e2 e3
              obtain ⟨kb, ko, h1, h2, h3⟩ := hget q t htq
              exact ⟨kb, ko, by rw [e1]; exact h1, h2, h3⟩
            subst hk0
            obtain ⟨la1, ln1, lc1, ka1, kn1, kc1, ⟨e0, e1, e2, e3, e4, e5⟩, hval⟩ := hty.load'
            have hBr := HBW.out wr HG.out
            have hkbw : kb < w.heap.size := HBB.out kb hkb
            have HC : Hid (∀ W, Below wr.heap.size wr W → Calls Try.prog 54 #[.agg #[.int .i64 t.k, .int .i64 t.p, .string t.n, .int .i64 t.s, .slice la1 ln1 lc1, .slice ka1 kn1 kc1], .int .i64 j] W (TyRet W (t.raise j))) := Lib.hid (fun W hW => HIH.out t (List.mem_of_getElem? htq) _ W (hBr.le hW.size) (hval.to hBr hW))
            obtain ⟨i0, hi, hz0, hz1, hz2⟩ := info_parts tyInfo
            have hmap : ((ts.take q).map (Ty.raise j)).length + 1 ≤ 1048577 := by rw [List.length_map, List.length_take]; omega
            have hbqr : bq < wr.heap.size := by omega
            have HTQ := Lib.hid htq
            clear hty hval hkb htq
            go_wp2_with fail
            go_region_law
              (first
                | (go_simp
                   go_at_call 54
                   refine (HC.out _ (by (repeat (first | with_reducible exact Below.refl _ _ | with_reducible exact HB6.out | with_reducible exact HB5.out | with_reducible apply Below.drew | (with_reducible refine Below.setCell ?_ ?_ _; rotate_left; focus (first | omega | (simp; done) | (simp; omega))) | (with_reducible refine Below.alloc ?_ ?_ _; rotate_left; focus (first | omega | (simp; done) | (simp; omega))))))).mono ?_
                   rintro e w5 ⟨la5, ln5, lc5, ka5, kn5, kc5, rfl, hv5, hb5⟩
                   dsimp only
                   have HB5 : Hid (Below wr.heap.size wr w5) := Lib.hid (Below.trans (by (repeat (first | with_reducible exact Below.refl _ _ | with_reducible exact HB6.out | with_reducible exact HB5.out | with_reducible apply Below.drew | (with_reducible refine Below.setCell ?_ ?_ _; rotate_left; focus (first | omega | (simp; done) | (simp; omega))) | (with_reducible refine Below.alloc ?_ ?_ _; rotate_left; focus (first | omega | (simp; done) | (simp; omega)))))) hb5)
                   have HV5 : Hid (TyVal (Fresh wr.heap.size w5.heap.size) w5 (.agg #[.int .i64 (t.raise j).k, .int .i64 (t.raise j).p, .string (t.raise j).n, .int .i64 (t.raise j).s, .slice la5 ln5 lc5, .slice ka5 kn5 kc5]) (t.raise j)) := Lib.hid hv5
                   have b55 : w5.cell? ⟨bq, 5, none⟩ = some (.slice va vn vc) := (HB5.out.cell (p := ⟨bq, 5, none⟩) hbqr).trans b5
                   have hz5 := HB5.out.size
                   have hne5 := World.new_ne w5 _ b55
                   have hbq5 : bq < w5.heap.size := by omega
                   clear hv5 hb5)
                | (refine step_kid (by rfl) _ _ _ (by rfl) Try.underlying45 hi hz0 hz1 hz2 rfl (by decide) goodT HKD.out hwr4 HB5.out (by rfl) _ [.int .i64 (t.raise j).k, .int .i64 (t.raise j).p, .string (t.raise j).n, .int .i64 (t.raise j).s, .slice la5 ln5 lc5, .slice ka5 kn5 kc5] 1 (by rfl) ?_ 47 ?_ rfl ?_ hmap (by decide) (t.raise j) ⟨_, _, _, _, _, _, rfl, HV5.out⟩ ?_
                   · (repeat (first | with_reducible exact Below.refl _ _ | with_reducible apply Below.drew | (with_reducible refine Below.alloc ?_ ?_ _; rotate_left; focus (first | omega | (simp; done) | (simp; omega)))))
                   · (repeat (first | with_reducible exact heapN _ _ _ (by first | rfl | omega | (simp; done) | (simp; omega)) | with_reducible refine Eq.trans (heapD _ _) ?_))
                   · (intro u hu; simp only [List.mem_cons, List.not_mem_nil, or_false] at hu; rcases hu with rfl | rfl | rfl | rfl | rfl | rfl <;> rfl)
                   intro ga gn gc w6 rows2 hK6 hB6
                   have HB6 := Lib.hid hB6
                   have HK6 := Lib.hid hK6
                   have HX6 : Hid (Six w6 bq (.int .i64 k) (.int .i64 p') (.string n) (.int .i64 s) (.slice la ln lc) (.slice va vn vc)) := Lib.hid ((hB6.block bq hbq4).trans HX4.out)
                   obtain ⟨⟨g0, g1, g2, g3, g4, g5⟩, hgf⟩ := HX6.out.cells
                   clear hK6 hB6)
                | fail)
            all_goals
              go_wp2_with fail
              go_roundw
              case rel => exact ⟨q + 1, ga, gn, gc, rows2, by go_num, by omega, Lib.hid ⟨HB6.out.os.trans HG.out.os, HB6.out.tape.trans HG.out.tape, HB6.out.output.trans HG.out.output, by simp; exact Nat.le_trans HG.out.size HB6.out.size, fun i hi hne => (Below.heap_setCell _ _ _ i (by simp; exact fun e => hne (by rw [e]))).trans ((HB6.out.block i hi).trans (HG.out.block i hi hne))⟩, Lib.hid (HX6.out.set5 _), Lib.hid (by rw [take_snoc_get HTQ.out, List.map_append]; exact Kids.set goodT HK6.out hbq4 _)⟩
              case measure => simp [intOf]; omega
          · obtain rfl : q = kn0 := by omega
            have hrw : (Ty.mk k p n s ls ts).raise j = .mk k p' n s ls (Ty.raises j ts) := by rw [Ty.raise, HP.out]
            have hgs := HG.out.size
            obtain ⟨⟨c0, c1, c2, c3, c4, c5⟩, hcf⟩ := (HX1.out wr HG.out).cells
            go_wp2_with fail
            have ha := (Above.refl (w.heap.size + 2) wr).fill (c := w.heap.size + 1) (by omega) (.int .i64 k) (.int .i64 p') (.string n) (.int .i64 s) (.slice la ln lc) (.slice va vn vc)
            have hbw : Below w.heap.size w wr := (HB0.out.trans (HB.out.mono (by omega))).grown HG.out (by omega) (fun i e => by cases e; omega)
            have hbf2 := below_fill (c := w.heap.size + 1) hbw (by omega) (.int .i64 k) (.int .i64 p') (.string n) (.int .i64 s) (.slice la ln lc) (.slice va vn vc)
            have hky : Kids 47 6 GoodT W4.heap.size wr (.slice va vn vc) rows (Ty.raises j ts) := by
              have h := HKD.out
              rw [List.take_of_length_le (by rw [← HKL.out]; exact Nat.le_refl _), ← Ty.raises_map] at h
              exact h
            have hc4 : w.heap.size + 1 < W4.heap.size := by omega
            refine bodyPost_ret (v := .agg #[.int .i64 k, .int .i64 p', .string n, .int .i64 s, .slice la ln lc, .slice va vn vc]) (by simp [results, Try.results54, go_sem, c0, c1, c2, c3, c4, c5]) rfl (by rw [hrw]; exact ⟨la, ln, lc, va, vn, vc, W4.heap.size, rows, rfl, HNN.out, by omega, Nat.le_trans hgs ha.size, (((HRW.out wr HG.out).strsIn (B := Fresh W2.heap.size W4.heap.size) (by unfold maxLen; omega) (fun k hk => ⟨((HRW.out wr HG.out).lt k hk).1, HRS.out k hk⟩)).keep (ha.keeps.mono (Fresh.mono (by omega) hgs))).mono (Fresh.mono (by omega) (Nat.le_refl _)), (((((hky.set goodT hc4 _).set goodT hc4 _).set goodT hc4 _).set goodT hc4 _).set goodT hc4 _).set goodT hc4 _, hbf2⟩)

theorem rraiseK_any (B : Nat → Prop) (j : Int) (t : Ty) (hm : t.can j) (v : Value) (w : World) (hB : Low B w) (hv : TyVal B w v t) : Calls Try.prog 54 #[v, .int .i64 j] w (TyRetK w (t.raise j)) := by
  obtain ⟨k, p, n, s, ls, ts⟩ := t
  obtain ⟨lv, kv, rfl, hn, hl, hk⟩ := hv
  have hm' := hm
  simp only [Ty.can] at hm'
  exact rraiseK_step B j k p s n lv kv ls ts hm hn w hB hl hk (fun t ht => rraise_any B j t (Ty.cans_mem hm'.2.2.2 t ht))
end Go.Proofs.Yticdkbcfahjpnaa
