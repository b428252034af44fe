/- Unfolding by the reference: put. (and what follows from it) -/
import Derived.Test.YticdkbcfahjpnaaPt13
import Derived.Test.YticdkbcfahjpnaaPt8
import Derived.Test.YticdkbcfahjpnaaPt9

/- Unfolding by the reference: put. -/
namespace Go.Proofs.Yticdkbcfahjpnaa
open Go.RowKit Go.Deep Go.Shelf

theorem KRow.set6 {e : TypeId} {base : Nat} {W : World} {v : Value} {es : List (List Value)} (h : KRow base e 6 W v es) {j : Nat} {a0 a1 a2 a3 a4 a5 : Value} (hj : es[j]? = some [a0, a1, a2, a3, a4, a5]) {g n cap : Nat} (hv : v = .slice (some ⟨g, 0, none⟩) n cap) (u0 u1 u2 u3 u4 u5 : Value) :
    KRow base e 6 ((((((W.setCell ⟨g, j * 6, none⟩ u0).setCell ⟨g, j * 6 + 1, none⟩ u1).setCell ⟨g, j * 6 + 2, none⟩ u2).setCell ⟨g, j * 6 + 3, none⟩ u3).setCell ⟨g, j * 6 + 4, none⟩ u4).setCell ⟨g, j * 6 + 5, none⟩ u5) v (es.set j [u0, u1, u2, u3, u4, u5]) := by
  have hl := (List.getElem?_eq_some_iff.1 hj).1
  have h0 : GRow e 6 base W v es := ⟨h.own, h.len⟩
  have h1 := h0.set hj (i := 0) (by decide) hv u0
  have h2 := h1.set (j := j) (i := 1) (e := [u0, a1, a2, a3, a4, a5]) (by rw [List.getElem?_set_self hl]; rfl) (by decide) hv u1
  have h3 := h2.set (j := j) (i := 2) (e := [u0, u1, a2, a3, a4, a5]) (by rw [List.getElem?_set_self (by simpa using hl)]; rfl) (by decide) hv u2
  have h4 := h3.set (j := j) (i := 3) (e := [u0, u1, u2, a3, a4, a5]) (by rw [List.getElem?_set_self (by simpa using hl)]; rfl) (by decide) hv u3
  have h5 := h4.set (j := j) (i := 4) (e := [u0, u1, u2, u3, a4, a5]) (by rw [List.getElem?_set_self (by simpa using hl)]; rfl) (by decide) hv u4
  have h6 := h5.set (j := j) (i := 5) (e := [u0, u1, u2, u3, u4, a5]) (by rw [List.getElem?_set_self (by simpa using hl)]; rfl) (by decide) hv u5
  have h7 : GRow e 6 base ((((((W.setCell ⟨g, j * 6, none⟩ u0).setCell ⟨g, j * 6 + 1, none⟩ u1).setCell ⟨g, j * 6 + 2, none⟩ u2).setCell ⟨g, j * 6 + 3, none⟩ u3).setCell ⟨g, j * 6 + 4, none⟩ u4).setCell ⟨g, j * 6 + 5, none⟩ u5) v (es.set j [u0, u1, u2, u3, u4, u5]) := by simpa [List.set_set] using h6
  exact ⟨h7.own, h7.len⟩
theorem fill_oth {w : World} {g o k : Nat} (hk : k ≠ g) (u0 u1 u2 u3 u4 u5 : Value) : ((((((w.setCell ⟨g, o, none⟩ u0).setCell ⟨g, o + 1, none⟩ u1).setCell ⟨g, o + 2, none⟩ u2).setCell ⟨g, o + 3, none⟩ u3).setCell ⟨g, o + 4, none⟩ u4).setCell ⟨g, o + 5, none⟩ u5).heap[k]? = w.heap[k]? :=
  (set_oth _ _ _ hk).trans ((set_oth _ _ _ hk).trans ((set_oth _ _ _ hk).trans ((set_oth _ _ _ hk).trans ((set_oth _ _ _ hk).trans (set_oth _ _ _ hk)))))
theorem fill6_oth {w : World} {g k : Nat} (hk : k ≠ g) (u0 u1 u2 u3 u4 u5 : Value) : ((((((w.setCell ⟨g, 0, none⟩ u0).setCell ⟨g, 1, none⟩ u1).setCell ⟨g, 2, none⟩ u2).setCell ⟨g, 3, none⟩ u3).setCell ⟨g, 4, none⟩ u4).setCell ⟨g, 5, none⟩ u5).heap[k]? = w.heap[k]? :=
  (set_oth _ _ _ hk).trans ((set_oth _ _ _ hk).trans ((set_oth _ _ _ hk).trans ((set_oth _ _ _ hk).trans ((set_oth _ _ _ hk).trans (set_oth _ _ _ hk)))))
theorem below_fillo {B : Nat} {a b : World} (h : Below B a b) {g : Nat} (hg : B ≤ g) (o : Nat) (u0 u1 u2 u3 u4 u5 : Value) : Below B a ((((((b.setCell ⟨g, o, none⟩ u0).setCell ⟨g, o + 1, none⟩ u1).setCell ⟨g, o + 2, none⟩ u2).setCell ⟨g, o + 3, none⟩ u3).setCell ⟨g, o + 4, none⟩ u4).setCell ⟨g, o + 5, none⟩ u5) :=
  (((((h.setCell (p := ⟨g, _, none⟩) hg _).setCell (p := ⟨g, _, none⟩) hg _).setCell (p := ⟨g, _, none⟩) hg _).setCell (p := ⟨g, _, none⟩) hg _).setCell (p := ⟨g, _, none⟩) hg _).setCell (p := ⟨g, _, none⟩) hg _
/-- An element of the row is replaced. -/
theorem Kids.store {m g n cap j : Nat} {w W : World} {v : Value} {rows : List (List Value)} {gs : List Ty} {t t' : Ty} (h : Kids 47 6 GoodT m w v rows gs) (hj : gs[j]? = some t) (hv : v = .slice (some ⟨g, 0, none⟩) n cap) (u4 u5 : Value)
    (hg : GoodT (fun k => Fresh m w.heap.size k ∧ some k ≠ v.ownBlock) w [.int .i64 t'.k, .int .i64 t'.p, .string t'.n, .int .i64 t'.s, u4, u5] t')
    (hW : (((((w.setCell ⟨g, j * 6, none⟩ (.int .i64 t'.k)).setCell ⟨g, j * 6 + 1, none⟩ (.int .i64 t'.p)).setCell ⟨g, j * 6 + 2, none⟩ (.string t'.n)).setCell ⟨g, j * 6 + 3, none⟩ (.int .i64 t'.s)).setCell ⟨g, j * 6 + 4, none⟩ u4).setCell ⟨g, j * 6 + 5, none⟩ u5 = W) :
    Kids 47 6 GoodT m W v (rows.set j [.int .i64 t'.k, .int .i64 t'.p, .string t'.n, .int .i64 t'.s, u4, u5]) (gs.set j t') := by
  have hs : W.heap.size = w.heap.size := by rw [← hW]; simp [World.setCell]
  have hob : ∀ k, some k ≠ v.ownBlock → W.heap[k]? = w.heap[k]? := fun k hk => by
    rw [← hW]; exact fill_oth (fun e => hk (by rw [hv, e]; rfl)) _ _ _ _ _ _
  have hkp : Keeps (fun k => Fresh m w.heap.size k ∧ some k ≠ v.ownBlock) w W := fun k o hk ho _ => (hob k hk.2).trans ho
  obtain ⟨r, hr, la, ln, lc, ka, kn, kc, rfl, _⟩ := h.each j t hj
  have hjl := (List.getElem?_eq_some_iff.1 hj).1
  refine ⟨by rw [← hW]; exact h.row.set6 hr hv _ _ _ _ _ _, by rw [List.length_set, List.length_set]; exact h.len, fun i x hi => ?_⟩
  rw [hs]
  by_cases hij : i = j
  · subst hij
    rw [List.getElem?_set_self hjl] at hi
    obtain rfl := Option.some.inj hi
    exact ⟨_, by rw [List.getElem?_set_self (by rw [h.len]; exact hjl)], goodT.keep hkp hg⟩
  · rw [List.getElem?_set_ne (fun e => hij e.symm)] at hi
    obtain ⟨r', h1, h2⟩ := h.each i x hi
    exact ⟨r', by rw [List.getElem?_set_ne (fun e => hij e.symm)]; exact h1, goodT.keep hkp h2⟩
theorem puts_step (nm : ByteArray) (bt : Ty) {ts : List Ty} {j : Nat} {t : Ty} (h : ts[j]? = some t) : ((ts.take j).map (Ty.put nm bt) ++ ts.drop j).set j (Ty.put nm bt t) = (ts.take (j + 1)).map (Ty.put nm bt) ++ ts.drop (j + 1) := by
  have hj := (List.getElem?_eq_some_iff.1 h).1
  rw [List.set_append_right _ _ (by simp; omega), take_snoc_get h]
  have hd : ts.drop j = t :: ts.drop (j + 1) := by
    rw [List.drop_eq_getElem_cons hj]; rw [(List.getElem?_eq_some_iff.1 h).2]
  have hl : j - ((ts.take j).map (Ty.put nm bt)).length = 0 := by simp; omega
  rw [hl, hd, List.set_cons_zero, List.map_append]
  simp
theorem puts_at (nm : ByteArray) (bt : Ty) {ts : List Ty} {j : Nat} {t : Ty} (h : ts[j]? = some t) : ((ts.take j).map (Ty.put nm bt) ++ ts.drop j)[j]? = some t := by
  have hj := (List.getElem?_eq_some_iff.1 h).1
  rw [List.getElem?_append_right (by simp; omega)]
  have hl : j - ((ts.take j).map (Ty.put nm bt)).length = 0 := by simp; omega
  rw [hl, List.getElem?_drop, Nat.add_zero, h]

set_option maxHeartbeats 8000000 in
set_option maxRecDepth 100000 in
theorem rput_step (B : Nat → Prop) (nm : ByteArray) (bt : Ty) (P : Int) (h0P : 0 ≤ P) (hP : P ≤ 1000000000000000) (hbt : bt.bd P) (k p s : Int) (n : ByteArray) (lv kv byv : Value) (ls : List ByteArray) (ts : List Ty) (hm : (Ty.mk k p n s ls ts).bd P) (hnn : n.size ≤ maxLen) (w : World) (hB : Low B w) (hl : StrSl B w lv ls) (hk : TySl B w kv ts) (hby : TyVal B w byv bt)
    (ih : ∀ t ∈ ts, ∀ (v byv : Value) (w : World), Low B w → TyVal B w v t → TyVal B w byv bt → Calls Try.prog 53 #[v, .string nm, byv] w (TyRet w (Ty.put nm bt t))) :
    Calls Try.prog 53 #[.agg #[.int .i64 k, .int .i64 p, .string n, .int .i64 s, lv, kv], .string nm, byv] w (TyRet w (Ty.put nm bt (Ty.mk k p n s ls ts))) := by
  have hme : TyVal B w (.agg #[.int .i64 k, .int .i64 p, .string n, .int .i64 s, lv, kv]) (Ty.mk k p n s ls ts) := ⟨lv, kv, rfl, hnn, hl, hk⟩
  have hcan0 : (Ty.mk k p n s ls ts).can 0 := can_bd h0P hP (by decide) _ hm
  have hm' := hm
  simp only [Ty.bd] at hm'
  obtain ⟨_, hsh, hm1, hm2, _⟩ := hm'
  have hcanb : bt.can s := can_bd h0P hP hsh _ hbt
  obtain ⟨l0, len0, cl0, rfl, _, _, _⟩ := hl.open
  obtain ⟨k0, kn0, kc0, rfl, hkl, hkm, _⟩ := hk.open
  obtain ⟨bl, bk, rfl, hbn, hbl, hbk⟩ := hby
  have hby : TyVal B w (.agg #[.int .i64 bt.k, .int .i64 bt.p, .string bt.n, .int .i64 bt.s, bl, bk]) bt := ⟨bl, bk, rfl, hbn, hbl, hbk⟩
  obtain ⟨yk, hyk⟩ : ∃ x, bt.k = x := ⟨_, rfl⟩
  obtain ⟨yp, hyp⟩ : ∃ x, bt.p = x := ⟨_, rfl⟩
  obtain ⟨yn, hyn⟩ : ∃ x, bt.n = x := ⟨_, rfl⟩
  obtain ⟨ys, hys⟩ : ∃ x, bt.s = x := ⟨_, rfl⟩
  rw [hyk, hyp, hyn, hys] at hby ⊢
  clear hyk hyp hyn hys
  obtain ⟨ba, bn, bc, rfl, _, _, _⟩ := hbl.open
  obtain ⟨da, dn, dc, rfl, _, _, _⟩ := hbk.open
  obtain ⟨W3, hW3⟩ : ∃ W3, ((w.alloc (.cells #[.int .i64 k, .int .i64 p, .string n, .int .i64 s, .slice l0 len0 cl0, .slice k0 kn0 kc0] 47)).alloc (.cells #[.int .i64 yk, .int .i64 yp, .string yn, .int .i64 ys, .slice ba bn bc, .slice da dn dc] 47)).alloc (.cells #[.int .i64 0, .int .i64 0, .string ⟨#[]⟩, .int .i64 0, .slice none 0 0, .slice none 0 0] 47) = W3 := ⟨_, rfl⟩
  obtain ⟨hs3, hb3, x0, x1, x2⟩ := three_made hW3
  have HB3 := Lib.hid hb3
  have HS3 := Lib.hid hs3
  have HW3 := Lib.hid hW3
  have HX : Hid (∀ W : World, (∀ i, i < W3.heap.size → W.heap[i]? = W3.heap[i]?) → Six W w.heap.size (.int .i64 k) (.int .i64 p) (.string n) (.int .i64 s) (.slice l0 len0 cl0) (.slice k0 kn0 kc0) ∧ Six W (w.heap.size + 1) (.int .i64 yk) (.int .i64 yp) (.string yn) (.int .i64 ys) (.slice ba bn bc) (.slice da dn dc) ∧ Six W (w.heap.size + 2) (.int .i64 0) (.int .i64 0) (.string ⟨#[]⟩) (.int .i64 0) (.slice none 0 0) (.slice none 0 0)) :=
    Lib.hid (fun W hW => ⟨(hW _ (by omega)).trans x0, (hW _ (by omega)).trans x1, (hW _ (by omega)).trans x2⟩)
  have HLB : Hid (Low B w) := Lib.hid hB
  have HME : Hid (∀ W : World, (∀ i, i < w.heap.size → W.heap[i]? = w.heap[i]?) → TyVal B W (.agg #[.int .i64 k, .int .i64 p, .string n, .int .i64 s, .slice l0 len0 cl0, .slice k0 kn0 kc0]) (Ty.mk k p n s ls ts) ∧ TyVal B W (.agg #[.int .i64 yk, .int .i64 yp, .string yn, .int .i64 ys, .slice ba bn bc, .slice da dn dc]) bt ∧ TySl B W (.slice k0 kn0 kc0) ts) :=
    Lib.hid (fun W hW => by
      have hkp : Keeps B w W := fun i o hi ho _ => (hW i (hB i hi)).trans ho
      exact ⟨hme.keep hkp, hby.keep hkp, hk.keep hkp⟩)
  have HRA : Hid (Calls Try.prog 54 #[.agg #[.int .i64 yk, .int .i64 yp, .string yn, .int .i64 ys, .slice ba bn bc, .slice da dn dc], .int .i64 s] W3 (TyRet W3 (bt.raise s))) := Lib.hid (rraise_any B s bt hcanb _ W3 (hB.le hb3.size) (hby.to hB hb3))
  have HRK : Hid (Calls Try.prog 54 #[.agg #[.int .i64 k, .int .i64 p, .string n, .int .i64 s, .slice l0 len0 cl0, .slice k0 kn0 kc0], .int .i64 0] W3 (TyRetK W3 (Ty.mk k p n s ls ts))) := Lib.hid (by
    have h := rraiseK_any B 0 (Ty.mk k p n s ls ts) hcan0 _ W3 (hB.le hb3.size) (hme.to hB hb3)
    rwa [Ty.raise_0] at h)
  have HIH := Lib.hid ih
  have HKL := Lib.hid hkl.out
  have hkn1 : kn0 ≤ 1000000 := by rw [hkl.out]; exact hm2
  obtain ⟨r, hr⟩ : ∃ r, Ty.put nm bt (Ty.mk k p n s ls ts) = r := ⟨_, rfl⟩
  rw [hr]
  have HR := Lib.hid hr
  obtain ⟨c9, hc9⟩ : ∃ b, (decide (k = 9) && decide (n = nm)) = b := ⟨_, rfl⟩
  obtain ⟨c8, hc8⟩ : ∃ b, (decide (k = 8) && decide (n = nm)) = b := ⟨_, rfl⟩
  have HC9 := Lib.hid hc9
  have HC8 := Lib.hid hc8
  clear hme hcan0 hm hcanb hl hk hby hbl hbk hW3 hs3 hb3 x0 x1 x2 ih hB hr hbt hkl hkm hsh hbn hc9 hc8
  have HNN := Lib.hid hnn
  clear hnn
  go_enter Try.func53, Try.ntmps53
  go_upto_region 1 with fail
  rw [show ((w.alloc (.cells #[.int .i64 k, .int .i64 p, .string n, .int .i64 s, .slice l0 len0 cl0, .slice k0 kn0 kc0] 47)).alloc (.cells #[.int .i64 yk, .int .i64 yp, .string yn, .int .i64 ys, .slice ba bn bc, .slice da dn dc] 47)).alloc (.cells #[.int .i64 0, .int .i64 0, .string ⟨#[]⟩, .int .i64 0, .slice none 0 0, .slice none 0 0] 47) = W3 from HW3.out]
  go_cut [17] from 18 (fun b wr => b = .bool c9 ∧ W3 = wr)
  case first =>
    obtain ⟨⟨d0, d1, d2, d3, d4, d5⟩, _⟩ := (HX.out W3 (fun _ _ => rfl)).1.cells
    by_cases h9 : k = 9
    · subst h9
      by_cases hn : n = nm
      · have e : c9 = true := by rw [← HC9.out]; simp [hn]
        subst hn e
        go_wp2_with fail
        go_meet
        case rel => exact ⟨rfl, rfl⟩
      · have e : c9 = false := by rw [← HC9.out]; simp [hn]
        have h1 := str_ne hn
        have h2 : (n.toList == nm.toList) = false := by simpa using h1
        subst e
        clear hn
        go_wp2_with fail
        go_meet
        case rel => exact ⟨rfl, rfl⟩
    · have e : c9 = false := by rw [← HC9.out]; simp [h9]
      have h1 : (k == 9) = false := by simpa using h9
      subst e
      clear h9
      go_wp2_with fail
      go_meet
      case rel => exact ⟨rfl, rfl⟩
  case rest =>
    obtain ⟨rfl, rfl⟩ := hcut
    cases c9 with
    | true =>
      have HRR : Hid (r = bt.raise s) := Lib.hid (by
        have h := HC9.out
        simp only [Bool.and_eq_true, decide_eq_true_eq] at h
        rw [← HR.out, Ty.put, putC, if_pos h])
      rw [← HRR.out] at HRA
      clear HRK
      obtain ⟨⟨d0, d1, d2, d3, d4, d5⟩, _⟩ := (HX.out W3 (fun _ _ => rfl)).1.cells
      obtain ⟨⟨e0, e1, e2, e3, e4, e5⟩, _⟩ := (HX.out W3 (fun _ _ => rfl)).2.1.cells
      go_wp2_with (go_at_call 54; go_loud (refine HRA.out.mono ?_; rintro en w4 ⟨pa, pn, pc, qa, qn, qc, rfl, hv4, hb4⟩; have HV4 := Lib.hid hv4; have HB4 := Lib.hid hb4; obtain ⟨⟨z0, z1, z2, z3, z4, z5⟩, hzf⟩ := (HX.out w4 (fun i hi => HB4.out.block i hi)).2.2.cells; clear hv4 hb4))
      clear z0 z1 z2 z3 z4 z5 hzf d0 d1 d2 d3 d4 d5 e0 e1 e2 e3 e4 e5
      obtain ⟨⟨c0, c1, c2, c3, c4, c5⟩, _⟩ := (Six.fill (HX.out w4 (fun i hi => HB4.out.block i hi)).2.2 (.int .i64 r.k) (.int .i64 r.p) (.string r.n) (.int .i64 r.s) (.slice pa pn pc) (.slice qa qn qc)).cells
      obtain ⟨hv5, hb5⟩ := ret_fill (c := w.heap.size + 2) HB3.out (by omega) (by have := HS3.out; omega) HB4.out HV4.out (.int .i64 r.k) (.int .i64 r.p) (.string r.n) (.int .i64 r.s) (.slice pa pn pc) (.slice qa qn qc)
      refine bodyPost_ret (v := .agg #[.int .i64 r.k, .int .i64 r.p, .string r.n, .int .i64 r.s, .slice pa pn pc, .slice qa qn qc]) (by simp [results, Try.results53, go_sem, c0, c1, c2, c3, c4, c5]) rfl ?_
      exact ⟨pa, pn, pc, qa, qn, qc, rfl, hv5, hb5⟩
    | false =>
      clear HRA
      go_upto_region 3 with fail
      obtain ⟨⟨d0, d1, d2, d3, d4, d5⟩, _⟩ := (HX.out W3 (fun _ _ => rfl)).1.cells
      go_upto_region 4 with (go_at_call 54; go_loud (refine HRK.out.mono ?_; rintro en w4 ⟨pa, pn, pc, va, vn, vc, m, rows0, rfl, _, hm1, hm2, hst, hkd, hb4⟩; dsimp only [Ty.k, Ty.p, Ty.n, Ty.s, Ty.ls, Ty.ts] at hst hkd ⊢; have HST := Lib.hid hst; have HKD := Lib.hid hkd; have HB4 := Lib.hid hb4; clear hst hkd hb4))
      obtain ⟨W5, hW5⟩ : ∃ W5, w4.alloc (.cells #[.int .i64 k, .int .i64 p, .string n, .int .i64 s, .slice pa pn pc, .slice va vn vc] 47) = W5 := ⟨_, rfl⟩
      have hb5 : Below w4.heap.size w4 W5 := by rw [← hW5]; exact blkBelow w4 _ _
      have hs5 : W5.heap.size = w4.heap.size + 1 := by rw [← hW5]; simp
      have hx5 : Six W5 w4.heap.size (.int .i64 k) (.int .i64 p) (.string n) (.int .i64 s) (.slice pa pn pc) (.slice va vn vc) := by rw [← hW5]; exact Six.new _ _ _ _ _ _ _
      rw [hW5]
      have HX5 := Lib.hid hx5
      have HB5 := Lib.hid hb5
      have HB35 := Lib.hid (below_seq HB4.out hb5)
      have HKD5 := Lib.hid (HKD.out.to goodT hb5)
      have HG4 : Hid (∀ k, (Value.slice va vn vc).ownBlock = some k → k < w4.heap.size) := Lib.hid (fun k hk => (HKD.out.row.lt k hk).2)
      have HST5 := Lib.hid (HST.out.keep (hb5.keeps'.mono (fun k hk => Nat.lt_of_lt_of_le hk.2 hm2)))
      have h34 := HB4.out.size
      clear d0 d1 d2 d3 d4 d5 hx5 hb5 hW5 HRK HKD HST
      go_cut [32] from 33 (fun b wr => b = .bool c8 ∧ W5 = wr)
      case first =>
        obtain ⟨⟨d0, d1, d2, d3, d4, d5⟩, _⟩ := (HX.out W5 (fun i hi => HB35.out.block i hi)).1.cells
        by_cases h8 : k = 8
        · subst h8
          by_cases hn : n = nm
          · have e : c8 = true := by rw [← HC8.out]; simp [hn]
            subst hn e
            go_wp2_with fail
            go_meet
            case rel => exact ⟨rfl, rfl⟩
          · have e : c8 = false := by rw [← HC8.out]; simp [hn]
            have h1 := str_ne hn
            have h2 : (n.toList == nm.toList) = false := by simpa using h1
            subst e
            clear hn
            go_wp2_with fail
            go_meet
            case rel => exact ⟨rfl, rfl⟩
        · have e : c8 = false := by rw [← HC8.out]; simp [h8]
          have h1 : (k == 8) = false := by simpa using h8
          subst e
          clear h8
          go_wp2_with fail
          go_meet
          case rel => exact ⟨rfl, rfl⟩
      case rest =>
        obtain ⟨rfl, rfl⟩ := hcut
        cases c8 with
        | true =>
          have HRR : Hid (r = .mk k p n s ls ts) := Lib.hid (by
            have h := HC8.out
            have h9 := HC9.out
            simp only [Bool.and_eq_true, decide_eq_true_eq] at h
            rw [← HR.out, Ty.put, putC, if_neg (fun e => absurd (e.1.symm.trans h.1) (by decide)), if_pos h])
          have HV5 : Hid (TyVal (Fresh W3.heap.size W5.heap.size) W5 (.agg #[.int .i64 k, .int .i64 p, .string n, .int .i64 s, .slice pa pn pc, .slice va vn vc]) r) := Lib.hid (by
            rw [HRR.out]
            exact ⟨_, _, rfl, HNN.out, HST5.out.mono (Fresh.mono (Nat.le_refl _) (by omega)), (HKD5.out.tys (by show ts.length ≤ maxLen; unfold maxLen; rw [← HKL.out]; omega)).mono (Fresh.mono hm1 (Nat.le_refl _))⟩)
          obtain ⟨⟨d0, d1, d2, d3, d4, d5⟩, _⟩ := HX5.out.cells
          obtain ⟨⟨z0, z1, z2, z3, z4, z5⟩, hzf⟩ := (HX.out W5 (fun i hi => HB35.out.block i hi)).2.2.cells
          go_wp2_with fail
          clear z0 z1 z2 z3 z4 z5 hzf d0 d1 d2 d3 d4 d5
          obtain ⟨⟨c0, c1, c2, c3, c4, c5⟩, _⟩ := (Six.fill (HX.out W5 (fun i hi => HB35.out.block i hi)).2.2 (.int .i64 k) (.int .i64 p) (.string n) (.int .i64 s) (.slice pa pn pc) (.slice va vn vc)).cells
          obtain ⟨hv6, hb6⟩ := ret_fill (c := w.heap.size + 2) HB3.out (by omega) (by have := HS3.out; omega) HB35.out HV5.out (.int .i64 k) (.int .i64 p) (.string n) (.int .i64 s) (.slice pa pn pc) (.slice va vn vc)
          refine bodyPost_ret (v := .agg #[.int .i64 k, .int .i64 p, .string n, .int .i64 s, .slice pa pn pc, .slice va vn vc]) (by simp [results, Try.results53, go_sem, c0, c1, c2, c3, c4, c5]) rfl ?_
          rw [HRR.out] at hv6 ⊢
          exact ⟨pa, pn, pc, va, vn, vc, rfl, hv6, hb6⟩
        | false =>
          have HRR : Hid (r = .mk k p n s ls (Ty.puts nm bt ts)) := Lib.hid (by
            have h := HC8.out
            have h9 := HC9.out
            rw [← HR.out, Ty.put, putC, if_neg (fun e => by simp [e.1, e.2] at h9), if_neg (fun e => by simp [e.1, e.2] at h)])
          have hW3W : W3.heap.size = w.heap.size + 3 := HS3.out
          go_wp2_with fail
          go_loopw [8] (fun i wr => ∃ (j : Nat) (rows : List (List Value)), i = .int .i64 (j : Int) ∧ j ≤ kn0 ∧ Hid (Below W3.heap.size W3 wr) ∧ Hid (Six wr w4.heap.size (.int .i64 k) (.int .i64 p) (.string n) (.int .i64 s) (.slice pa pn pc) (.slice va vn vc)) ∧ Hid (StrSl (Fresh W3.heap.size m) wr (.slice pa pn pc) ls) ∧ Hid (Kids 47 6 GoodT m wr (.slice va vn vc) rows ((ts.take j).map (Ty.put nm bt) ++ ts.drop j)) ∧ W5.heap.size ≤ wr.heap.size) (fun i _ => kn0 - (intOf i).toNat)
          case atStart => exact ⟨0, rows0, rfl, by omega, HB35, HX5, HST5, Lib.hid (by simpa using HKD5.out), Nat.le_refl _⟩
          case round =>
            clear HX5 HKD5 HST5 HB35
            obtain ⟨j, rows, rfl, hj, HB, HX5, HST5, HKD, hszr⟩ := hrel
            obtain ⟨⟨d0, d1, d2, d3, d4, d5⟩, _⟩ := (HX.out wr (fun i hi => HB.out.block i hi)).1.cells
            by_cases hlt : j < kn0
            · obtain ⟨t, htq⟩ : ∃ t, ts[j]? = some t := ⟨_, List.getElem?_eq_getElem (by rw [← HKL.out]; exact hlt)⟩
              obtain ⟨_, hbyw, hksl⟩ := HME.out wr (fun i hi => (HB.out.block i (by omega)).trans (HB3.out.block i hi))
              obtain ⟨kb, ko, hk0, hkb, hty⟩ : ∃ kb ko, k0 = some ⟨kb, ko, none⟩ ∧ B kb ∧ TyAt B wr t kb (ko + j * 6) := by
                obtain ⟨pa, len, c, e, _, _, hget⟩ := hksl.open
                injection e with e1 e2 e3
                obtain ⟨kb, ko, h1, h2, h3⟩ := hget j t htq
                exact ⟨kb, ko, by rw [e1]; exact h1, h2, h3⟩
              subst hk0
              obtain ⟨la1, ln1, lc1, ka1, kn1, kc1, ⟨e0, e1, e2, e3, e4, e5⟩, hval⟩ := hty.load'
              have hkbw : kb < w.heap.size := HLB.out kb hkb
              have hLr : Low B wr := HLB.out.le (by omega)
              have HC : Hid (∀ W, Below wr.heap.size wr W → Calls Try.prog 53 #[.agg #[.int .i64 t.k, .int .i64 t.p, .string t.n, .int .i64 t.s, .slice la1 ln1 lc1, .slice ka1 kn1 kc1], .string nm, .agg #[.int .i64 yk, .int .i64 yp, .string yn, .int .i64 ys, .slice ba bn bc, .slice da dn dc]] W (TyRet W (Ty.put nm bt t))) := Lib.hid (fun W hW => HIH.out t (List.mem_of_getElem? htq) _ _ W (hLr.le hW.size) (hval.to hLr hW) (hbyw.to hLr hW))
              obtain ⟨g, cap, hva, hgm, hgl⟩ : ∃ g cap, (Value.slice va vn vc) = .slice (some ⟨g, 0, none⟩) kn0 cap ∧ m ≤ g ∧ g < wr.heap.size := by
                have hlen := HKD.out.len
                simp only [List.length_append, List.length_map, List.length_take, List.length_drop] at hlen
                have hk := HKL.out
                rcases HKD.out.row.parts with ⟨_, h0⟩ | ⟨g, c, h1, h2, h3, _⟩
                · rw [h0] at hlen; simp at hlen; omega
                · exact ⟨g, c, by rw [h1, show rows.length = kn0 by omega], h2, h3⟩
              simp only [Value.slice.injEq] at hva
              obtain ⟨hva1, hva2, hva3⟩ := hva
              obtain rfl := hva1
              obtain rfl := hva2.symm
              obtain rfl := hva3.symm
              have hgx : g ≠ w4.heap.size := fun e => by have := HG4.out g rfl; omega
              have HTQ := Lib.hid htq
              have HSS : Hid (∀ W : World, (∀ i, i ≠ g → i < wr.heap.size → W.heap[i]? = wr.heap[i]?) → W.cell? ⟨w4.heap.size, 5, none⟩ = some (.slice (some ⟨g, 0, none⟩) kn0 cap) ∧ W.cell? ⟨w.heap.size, 5, none⟩ = some (.slice (some ⟨kb, ko, none⟩) kn0 kc0) ∧ W.cell? ⟨kb, ko + j * 6, none⟩ = some (.int .i64 t.k) ∧ W.cell? ⟨kb, ko + j * 6 + 1, none⟩ = some (.int .i64 t.p) ∧ W.cell? ⟨kb, ko + j * 6 + 2, none⟩ = some (.string t.n) ∧ W.cell? ⟨kb, ko + j * 6 + 3, none⟩ = some (.int .i64 t.s) ∧ W.cell? ⟨kb, ko + j * 6 + 4, none⟩ = some (.slice la1 ln1 lc1) ∧ W.cell? ⟨kb, ko + j * 6 + 5, none⟩ = some (.slice ka1 kn1 kc1) ∧ W.cell? ⟨w.heap.size + 1, 0, none⟩ = some (.int .i64 yk) ∧ W.cell? ⟨w.heap.size + 1, 1, none⟩ = some (.int .i64 yp) ∧ W.cell? ⟨w.heap.size + 1, 2, none⟩ = some (.string yn) ∧ W.cell? ⟨w.heap.size + 1, 3, none⟩ = some (.int .i64 ys) ∧ W.cell? ⟨w.heap.size + 1, 4, none⟩ = some (.slice ba bn bc) ∧ W.cell? ⟨w.heap.size + 1, 5, none⟩ = some (.slice da dn dc)) := Lib.hid (fun W hW => by
                have hc : ∀ b i, b ≠ g → b < wr.heap.size → W.cell? ⟨b, i, none⟩ = wr.cell? ⟨b, i, none⟩ := fun b i h1 h2 => by simp only [World.cell?, hW b h1 h2]
                obtain ⟨⟨_, _, _, _, _, f5⟩, _⟩ := HX5.out.cells
                obtain ⟨⟨g0, g1, g2, g3, g4, g5⟩, _⟩ := (HX.out wr (fun i hi => HB.out.block i hi)).2.1.cells
                have hkg : kb ≠ g := by omega
                have hkl : kb < wr.heap.size := by omega
                have hwg : w.heap.size + 1 ≠ g := by omega
                have hwl : w.heap.size + 1 < wr.heap.size := by omega
                exact ⟨(hc _ _ (fun e => hgx e.symm) (by omega)).trans f5, (hc _ _ (by omega) (by omega)).trans d5, (hc _ _ hkg hkl).trans e0, (hc _ _ hkg hkl).trans e1, (hc _ _ hkg hkl).trans e2, (hc _ _ hkg hkl).trans e3, (hc _ _ hkg hkl).trans e4, (hc _ _ hkg hkl).trans e5, (hc _ _ hwg hwl).trans g0, (hc _ _ hwg hwl).trans g1, (hc _ _ hwg hwl).trans g2, (hc _ _ hwg hwl).trans g3, (hc _ _ hwg hwl).trans g4, (hc _ _ hwg hwl).trans g5⟩)
              clear htq hbyw hksl hty hval hkbw hLr hkb e0 e1 e2 e3 e4 e5
              go_upto_region 9 with fail
              refine wp_region_held_drew (S := fun W => W.cell? ⟨w4.heap.size, 5, none⟩ = some (.slice (some ⟨g, 0, none⟩) kn0 cap) ∧ W.cell? ⟨w.heap.size, 5, none⟩ = some (.slice (some ⟨kb, ko, none⟩) kn0 kc0) ∧ W.cell? ⟨kb, ko + j * 6, none⟩ = some (.int .i64 t.k) ∧ W.cell? ⟨kb, ko + j * 6 + 1, none⟩ = some (.int .i64 t.p) ∧ W.cell? ⟨kb, ko + j * 6 + 2, none⟩ = some (.string t.n) ∧ W.cell? ⟨kb, ko + j * 6 + 3, none⟩ = some (.int .i64 t.s) ∧ W.cell? ⟨kb, ko + j * 6 + 4, none⟩ = some (.slice la1 ln1 lc1) ∧ W.cell? ⟨kb, ko + j * 6 + 5, none⟩ = some (.slice ka1 kn1 kc1) ∧ W.cell? ⟨w.heap.size + 1, 0, none⟩ = some (.int .i64 yk) ∧ W.cell? ⟨w.heap.size + 1, 1, none⟩ = some (.int .i64 yp) ∧ W.cell? ⟨w.heap.size + 1, 2, none⟩ = some (.string yn) ∧ W.cell? ⟨w.heap.size + 1, 3, none⟩ = some (.int .i64 ys) ∧ W.cell? ⟨w.heap.size + 1, 4, none⟩ = some (.slice ba bn bc) ∧ W.cell? ⟨w.heap.size + 1, 5, none⟩ = some (.slice da dn dc)) (by kernel_rfl) (HSS.out wr (fun _ _ _ => rfl)) (fun hHeld => ?_)
              refine wpAnyH_take_l 0 (v := ?v0) rfl rfl (by kernel_rfl) (by kernel_rfl) (by kernel_rfl) (fun _ _ _ h => h) ?h0 (by assumption) ?r0
              case h0 => (intro w hSw; (try dsimp only at hSw); go_simp; try rfl)
              case' r0 => simp only [setD, List.set_cons_succ, List.set_cons_zero]
              refine wpAnyH_take_l 1 (v := ?v1) rfl rfl (by kernel_rfl) (by kernel_rfl) (by kernel_rfl) (fun _ _ _ h => h) ?h1 (by assumption) ?r1
              case h1 => (intro w hSw; (try dsimp only at hSw); go_simp; try rfl)
              case' r1 => simp only [setD, List.set_cons_succ, List.set_cons_zero]
              refine wpAnyH_take_l 2 (v := ?v2) rfl rfl (by kernel_rfl) (by kernel_rfl) (by kernel_rfl) (fun _ _ _ h => h) ?h2 (by assumption) ?r2
              case h2 => (intro w hSw; (try dsimp only at hSw); go_simp; try rfl)
              case' r2 => simp only [setD, List.set_cons_succ, List.set_cons_zero]
              refine wpAnyH_take_l 3 (v := ?v3) rfl rfl (by kernel_rfl) (by kernel_rfl) (by kernel_rfl) (fun _ _ _ h => h) ?h3 (by assumption) ?r3
              case h3 => (intro w hSw; (try dsimp only at hSw); go_simp; try rfl)
              case' r3 => simp only [setD, List.set_cons_succ, List.set_cons_zero]
              refine wpAnyH_take_l 4 (v := ?v4) rfl rfl (by kernel_rfl) (by kernel_rfl) (by kernel_rfl) (fun _ _ _ h => h) ?h4 (by assumption) ?r4
              case h4 => (intro w hSw; (try dsimp only at hSw); go_simp; try rfl)
              case' r4 => simp only [setD, List.set_cons_succ, List.set_cons_zero]
              refine wpAnyH_take_l 5 (v := ?v5) rfl rfl (by kernel_rfl) (by kernel_rfl) (by kernel_rfl) (fun _ _ _ h => h) ?h5 (by assumption) ?r5
              case h5 => (intro w hSw; (try dsimp only at hSw); go_simp; try rfl)
              case' r5 => simp only [setD, List.set_cons_succ, List.set_cons_zero]
              refine wpAnyH_take_l 6 (v := ?v6) rfl rfl (by kernel_rfl) (by kernel_rfl) (by kernel_rfl) (fun _ _ _ h => h) ?h6 (by assumption) ?r6
              case h6 => (intro w hSw; (try dsimp only at hSw); go_simp; try rfl)
              case' r6 => simp only [setD, List.set_cons_succ, List.set_cons_zero]
              refine wpAnyH_take_l 7 (v := ?v7) rfl rfl (by kernel_rfl) (by kernel_rfl) (by kernel_rfl) (fun _ _ _ h => h) ?h7 (by assumption) ?r7
              case h7 => (intro w hSw; (try dsimp only at hSw); go_simp; try rfl)
              case' r7 => simp only [setD, List.set_cons_succ, List.set_cons_zero]
              refine wpAnyH_take_l 8 (v := ?v8) rfl rfl (by kernel_rfl) (by kernel_rfl) (by kernel_rfl) (fun _ _ _ h => h) ?h8 (by assumption) ?r8
              case h8 => (intro w hSw; (try dsimp only at hSw); go_simp; try rfl)
              case' r8 => simp only [setD, List.set_cons_succ, List.set_cons_zero]
              refine wpAnyH_take_l 9 (v := ?v9) rfl rfl (by kernel_rfl) (by kernel_rfl) (by kernel_rfl) (fun _ _ _ h => h) ?h9 (by assumption) ?r9
              case h9 => (intro w hSw; (try dsimp only at hSw); go_simp; try rfl)
              case' r9 => simp only [setD, List.set_cons_succ, List.set_cons_zero]
              clear d0 d1 d2 d3 d4 d5
              refine wpAnyH_one 10 rfl rfl (by kernel_rfl) (fun K hK => ?_)
              have hK2 := hK.out
              clear hK
              simp only [setD, List.set_cons_succ, List.set_cons_zero] at hK2 ⊢
              go_simp
              refine (HC.out _ (Below.refl _ _).drew).mono ?_
              rintro en w6 ⟨xa, xn, xc, ua, un, uc, rfl, hv6, hb6⟩
              dsimp only
              have hb6r : Below wr.heap.size wr w6 := below_seq (Below.refl _ _).drew hb6
              have HB6 := Lib.hid hb6r
              have HV6 := Lib.hid hv6
              have HKD6 := Lib.hid (HKD.out.to goodT hb6r)
              obtain ⟨t', ht'⟩ : ∃ t', Ty.put nm bt t = t' := ⟨_, rfl⟩
              rw [ht'] at HV6 ⊢
              have HT' := Lib.hid ht'
              refine hK2 _ _ (HSS.out w6 (fun i _ hi => hb6r.block i hi)) (fun _ => ?_)
              clear hK2 K hb6 hv6 hb6r ht'
              have hjr := puts_at nm bt HTQ.out
              have HJR := Lib.hid hjr
              obtain ⟨row, hrow, oa, on, oc, pka, pkn, pkc, rfl, _⟩ := HKD6.out.each j t hjr
              have hG : GRow 47 6 m w6 (.slice (some ⟨g, 0, none⟩) kn0 cap) rows := ⟨HKD6.out.row.own, HKD6.out.row.len⟩
              have hfz : ∀ i, w6.frozen? ⟨g, i, none⟩ = false := by
                rcases hG.parts with ⟨e5, _⟩ | ⟨g5, c5, e5, _, _, _, h5⟩
                · cases e5
                · simp only [Value.slice.injEq, Option.some.injEq, Addr.mk.injEq, and_true] at e5
                  obtain ⟨rfl, -⟩ := e5
                  exact h5
              have hcell : ∀ i u, [Value.int .i64 t.k, .int .i64 t.p, .string t.n, .int .i64 t.s, .slice oa on oc, .slice pka pkn pkc][i]? = some u → w6.cell? ⟨g, j * 6 + i, none⟩ = some u := fun i u hu => by
                obtain ⟨g5, c5, e5, h5⟩ := hG.cell hrow hu
                simp only [Value.slice.injEq, Option.some.injEq, Addr.mk.injEq, and_true] at e5
                rw [e5.1]
                exact h5
              have q0 := hcell 0 _ rfl
              have q1 := hcell 1 _ rfl
              have q2 := hcell 2 _ rfl
              have q3 := hcell 3 _ rfl
              have q4 := hcell 4 _ rfl
              have q5 := hcell 5 _ rfl
              rw [Nat.add_zero] at q0
              clear hjr hrow hG hcell
              refine wpAnyH_take_l 11 (v := ?v11) rfl rfl (by kernel_rfl) (by kernel_rfl) (by kernel_rfl) (fun _ _ _ h => h) ?h11 (by assumption) ?r11
              case h11 => (intro w hSw; (try dsimp only at hSw); go_simp; try rfl)
              case' r11 => simp only [setD, List.set_cons_succ, List.set_cons_zero]
              refine wpAnyH_one 12 rfl rfl (by kernel_rfl) (fun K hK => ?_)
              have hK2 := hK.out
              clear hK
              simp only [setD] at hK2 ⊢
              go_simp
              clear q0 q1 q2 q3 q4 q5 hfz
              obtain ⟨W7, hW7⟩ : ∃ W7, (((((w6.setCell ⟨g, j * 6, none⟩ (.int .i64 t'.k)).setCell ⟨g, j * 6 + 1, none⟩ (.int .i64 t'.p)).setCell ⟨g, j * 6 + 2, none⟩ (.string t'.n)).setCell ⟨g, j * 6 + 3, none⟩ (.int .i64 t'.s)).setCell ⟨g, j * 6 + 4, none⟩ (.slice xa xn xc)).setCell ⟨g, j * 6 + 5, none⟩ (.slice ua un uc) = W7 := ⟨_, rfl⟩
              have hoth : ∀ k, k ≠ g → W7.heap[k]? = w6.heap[k]? := fun k hk => by rw [← hW7]; exact fill_oth hk _ _ _ _ _ _
              have hsz7 : W7.heap.size = w6.heap.size := by rw [← hW7]; simp [World.setCell]
              have h6z := HB6.out.size
              have HBN : Hid (Below W3.heap.size W3 W7) := Lib.hid (by
                have h := HB.out.trans (HB6.out.mono (by omega))
                rw [← hW7]
                exact below_fillo h (by omega) _ _ _ _ _ _ _)
              have HXN : Hid (Six W7 w4.heap.size (.int .i64 k) (.int .i64 p) (.string n) (.int .i64 s) (.slice pa pn pc) (.slice (some ⟨g, 0, none⟩) kn0 cap)) := Lib.hid ((hoth _ (fun e => hgx e.symm)).trans ((HB6.out.block _ (by omega)).trans HX5.out))
              have HSN : Hid (StrSl (Fresh W3.heap.size m) W7 (.slice pa pn pc) ls) := Lib.hid (HST5.out.keep (fun k o hk ho _ => (hoth k (by have := hk.2; omega)).trans ((HB6.out.block k (by have := hk.2; omega)).trans ho)))
              have HKN := Lib.hid (HKD6.out.store HJR.out rfl (.slice xa xn xc) (.slice ua un uc) ⟨_, _, _, _, _, _, rfl, HV6.out.mono (fun k hk => ⟨⟨by have := hk.1; simp at this; omega, hk.2⟩, fun e => by have := hk.1; simp at this; have e' : k = g := Option.some.inj e; omega⟩)⟩ hW7)
              rw [← HT'.out, puts_step nm bt HTQ.out, HT'.out] at HKN
              have HZN : Hid (W5.heap.size ≤ W7.heap.size) := Lib.hid (by omega)
              rw [hW7]
              refine hK2 undef W7 (HSS.out W7 (fun i hi hl => (hoth i hi).trans (HB6.out.block i hl))) (fun _ => ?_)
              clear hK2 K hW7 hoth hsz7 h6z
              refine wpAnyH_done (by kernel_rfl) ?_ _
              clear hHeld
              go_wp2_with fail
              go_roundw
              case rel => exact ⟨j + 1, _, by go_num, by omega, HBN, HXN, HSN, HKN, by have := HZN.out; omega⟩
              case measure => simp [intOf]; omega
            · obtain rfl : j = kn0 := by omega
              have HV5 : Hid (TyVal (Fresh W3.heap.size wr.heap.size) wr (.agg #[.int .i64 k, .int .i64 p, .string n, .int .i64 s, .slice pa pn pc, .slice va vn vc]) r) := Lib.hid (by
                have h := HKD.out
                rw [List.take_of_length_le (by rw [← HKL.out]; exact Nat.le_refl _), List.drop_eq_nil_of_le (by rw [← HKL.out]; exact Nat.le_refl _), List.append_nil, ← Ty.puts_map] at h
                rw [HRR.out]
                exact ⟨_, _, rfl, HNN.out, HST5.out.mono (Fresh.mono (Nat.le_refl _) (by omega)), (h.tys (by show (Ty.puts nm bt ts).length ≤ maxLen; rw [Ty.puts_map, List.length_map]; unfold maxLen; rw [← HKL.out]; omega)).mono (Fresh.mono hm1 (Nat.le_refl _))⟩)
              obtain ⟨⟨x0, x1, x2, x3, x4, x5⟩, _⟩ := HX5.out.cells
              obtain ⟨⟨z0, z1, z2, z3, z4, z5⟩, hzf⟩ := (HX.out wr (fun i hi => HB.out.block i hi)).2.2.cells
              go_wp2_with fail
              clear z0 z1 z2 z3 z4 z5 hzf d0 d1 d2 d3 d4 d5 x0 x1 x2 x3 x4 x5
              obtain ⟨⟨c0, c1, c2, c3, c4, c5⟩, _⟩ := (Six.fill (HX.out wr (fun i hi => HB.out.block i hi)).2.2 (.int .i64 k) (.int .i64 p) (.string n) (.int .i64 s) (.slice pa pn pc) (.slice va vn vc)).cells
              obtain ⟨hv6, hb6⟩ := ret_fill (c := w.heap.size + 2) HB3.out (by omega) (by have := HS3.out; omega) (HB.out.mono (Nat.le_refl _)) HV5.out (.int .i64 k) (.int .i64 p) (.string n) (.int .i64 s) (.slice pa pn pc) (.slice va vn vc)
              refine bodyPost_ret (v := .agg #[.int .i64 k, .int .i64 p, .string n, .int .i64 s, .slice pa pn pc, .slice va vn vc]) (by simp [results, Try.results53, go_sem, c0, c1, c2, c3, c4, c5]) rfl ?_
              rw [HRR.out] at hv6 ⊢
              exact ⟨pa, pn, pc, va, vn, vc, rfl, hv6, hb6⟩
theorem rput_any (B : Nat → Prop) (nm : ByteArray) (bt : Ty) (P : Int) (h0 : 0 ≤ P) (hP : P ≤ 1000000000000000) (hbt : bt.bd P) : ∀ t : Ty, t.bd P → ∀ (v byv : Value) (w : World), Low B w → TyVal B w v t → TyVal B w byv bt → Calls Try.prog 53 #[v, .string nm, byv] w (TyRet w (Ty.put nm bt t)) := by
  refine Ty.ind ?_
  intro k p n s ls ts ih hm v byv w hB hv hby
  obtain ⟨lv, kv, rfl, hn, hl, hk⟩ := hv
  have hm' := hm
  simp only [Ty.bd] at hm'
  exact rput_step B nm bt P h0 hP hbt k p s n lv kv byv ls ts hm hn w hB hl hk hby (fun t ht => ih t ht (Ty.bds_mem hm'.2.2.2.2 t ht))
end Go.Proofs.Yticdkbcfahjpnaa
