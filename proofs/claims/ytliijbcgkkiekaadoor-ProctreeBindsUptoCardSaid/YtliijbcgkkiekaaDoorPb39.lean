/- Processes: the law about binding, given that the fixed examples come out right. (and what follows from it) -/
import Derived.Test.YtliijbcgkkiekaaDoorPb38

/- Processes: the law about binding, given that the fixed examples come out right. -/
namespace Go.Proofs.YtliijbcgkkiekaaDoor
open Go.RowKit Go.Deep Go.Shelf

theorem SLies.len {W : World} {a : Option Addr} {n c : Nat} {l : List ByteArray} (h : SLies W (.slice a n c) l) : n = l.length := by
  obtain ⟨pa, len, cap, e, hl, _⟩ := StrSl.open h
  simp only [Value.slice.injEq] at e
  rw [e.2.1]; exact hl.out
theorem Pr.free_len (p : Pr) : p.free.length ≤ p.nms := by have := Pr.fw_len p (fun _ => 0) []; simp at this; exact this
theorem in_l {W : World} {v : Value} {l : List ByteArray} {s : ByteArray} {b : Bool} (h : SLies W v l) (hb : memB s l = b) : Calls Tryd.prog 39 #[.string s, v] W fun e w' => e = .returned (.bool b) ∧ W = w' := by
  rw [← hb]; exact prin_any _ s v l W h
theorem pfree_m {W : World} {v : Value} {p : Pr} (h : PLies W v p) (hs : p.size ≤ 1000000) (hd : p.depth ≤ 100000) (hn : p.nms ≤ 1000000000) : Calls Tryd.prog 37 #[v] W fun e w' => ∃ la ln lc, e = .returned (.slice la ln lc) ∧ SLies w' (.slice la ln lc) p.free ∧ Below W.heap.size W w' := pfree_l h hs hd hn rfl
theorem new_cells (w : World) (o : Obj) : (w.alloc o).heap[w.heap.size]? = some o := by rw [heap_push]; simp

set_option maxHeartbeats 16000000 in
set_option maxRecDepth 100000 in
theorem ProctreeBinds_of (haw : ∀ (E : Nat) (w : World), Env E w → Calls Tryd.prog 22 #[] w fun e w' => e = .returned (.bool true) ∧ Below w.heap.size w w')
    (p q : Pr) (v v' : Value) (c x : ByteArray) (hc : c.size ≤ maxLen) (hx : x.size ≤ maxLen) (hpn : p.nms ≤ 400000000) (hqn : q.nms ≤ 400000000) (E : Nat) (w : World) (he : Env E w) (h : PLies w v p) (h' : PLies w v' q) : Calls Tryd.prog 7 #[v, v', .string c, .string x] w fun e w' => e = .returned (.bool true) ∧ Below w.heap.size w w' := by
  have h0 := h
  have h0' := h'
  obtain ⟨lv, av, tl, tk, kv, rfl, _⟩ := h0
  obtain ⟨lv', av', tl', tk', kv', rfl, _⟩ := h0'
  obtain ⟨⟨la, ln, lc, rfl⟩, ⟨aa, an, ac, rfl⟩, ⟨ta, tn, tc, rfl⟩, ⟨ua, un, uc, rfl⟩, ⟨ka, kn, kc, rfl⟩⟩ := pr_slices h
  obtain ⟨⟨la', ln', lc', rfl⟩, ⟨aa', an', ac', rfl⟩, ⟨ta', tn', tc', rfl⟩, ⟨ua', un', uc', rfl⟩, ⟨ka', kn', kc', rfl⟩⟩ := pr_slices h'
  have hb0 := box2_below w (cell12 p (.slice la ln lc) (.slice aa an ac) (.slice ta tn tc) (.slice ua un uc) (.slice ka kn kc)) (cell12 q (.slice la' ln' lc') (.slice aa' an' ac') (.slice ta' tn' tc') (.slice ua' un' uc') (.slice ka' kn' kc'))
  have h12 := Twelve.two w (.int .i64 p.k) (.string p.c) (.string p.x) (.slice la ln lc) (.slice aa an ac) (.int .i64 p.t.k) (.int .i64 p.t.p) (.string p.t.n) (.int .i64 p.t.s) (.slice ta tn tc) (.slice ua un uc) (.slice ka kn kc) (.int .i64 q.k) (.string q.c) (.string q.x) (.slice la' ln' lc') (.slice aa' an' ac') (.int .i64 q.t.k) (.int .i64 q.t.p) (.string q.t.n) (.int .i64 q.t.s) (.slice ta' tn' tc') (.slice ua' un' uc') (.slice ka' kn' kc')
  have L0 := Lib.hid (h.to hb0)
  have L0' := Lib.hid (h'.to hb0)
  have H6 := Lib.hid h12.1
  have H6' := Lib.hid h12.2
  have HB0 := Lib.hid hb0
  have HE := Lib.hid (he.to hb0)
  have HAW := Lib.hid haw
  have HN := Lib.hid (And.intro hpn hqn)
  have HCX := Lib.hid (And.intro hc hx)
  clear h h' hb0 h12 he hpn hqn haw hc hx
  cases hfew : p.few 500 with
  | false =>
    have HF := Lib.hid hfew
    clear hfew
    go_enter Tryd.func7, Tryd.ntmps7
    go_wp2_with fail
    refine (HAW.out _ _ HE.out).mono ?_
    rintro e w1 ⟨rfl, hb1⟩
    obtain ⟨⟨c0, c1, c2, c3, c4, c5, c6, c7, c8, c9, c10, c11⟩, _⟩ := (H6.out.to hb1).cells
    go_wp2_with fail
    clear c0 c1 c2 c3 c4 c5 c6 c7 c8 c9 c10 c11
    refine (pfew_l (m := 500) (L0.out.to hb1) (by omega) HF.out).mono ?_
    rintro e w2 ⟨rfl, hb2⟩
    go_wp2_with fail
    refine (HAW.out _ _ (HE.out.to (below_seq hb1 hb2))).mono ?_
    rintro e w3 ⟨rfl, hb3⟩
    go_wp2_with fail
    go_ret
    exact ⟨rfl, below_seq HB0.out (below_seq hb1 (below_seq hb2 hb3))⟩
  | true =>
    have HF := Lib.hid hfew
    have HFS := Lib.hid (Pr.few_facts hfew)
    clear hfew
    cases hfew' : q.few 500 with
    | false =>
      have HF' := Lib.hid hfew'
      clear hfew'
      go_enter Tryd.func7, Tryd.ntmps7
      go_wp2_with fail
      refine (HAW.out _ _ HE.out).mono ?_
      rintro e w1 ⟨rfl, hb1⟩
      obtain ⟨⟨c0, c1, c2, c3, c4, c5, c6, c7, c8, c9, c10, c11⟩, _⟩ := (H6.out.to hb1).cells
      go_wp2_with fail
      clear c0 c1 c2 c3 c4 c5 c6 c7 c8 c9 c10 c11
      refine (pfew_l (m := 500) (L0.out.to hb1) (by omega) HF.out).mono ?_
      rintro e w2 ⟨rfl, hb2⟩
      have hb12 := below_seq hb1 hb2
      obtain ⟨⟨c0, c1, c2, c3, c4, c5, c6, c7, c8, c9, c10, c11⟩, _⟩ := (H6'.out.to hb12).cells
      go_wp2_with fail
      clear c0 c1 c2 c3 c4 c5 c6 c7 c8 c9 c10 c11
      refine (pfew_l (m := 500) (L0'.out.to hb12) (by omega) HF'.out).mono ?_
      rintro e w3 ⟨rfl, hb3⟩
      go_wp2_with fail
      refine (HAW.out _ _ (HE.out.to (below_seq hb12 hb3))).mono ?_
      rintro e w4 ⟨rfl, hb4⟩
      go_wp2_with fail
      go_ret
      exact ⟨rfl, below_seq HB0.out (below_seq hb12 (below_seq hb3 hb4))⟩
    | true =>
      have HF' := Lib.hid hfew'
      have HFS' := Lib.hid (Pr.few_facts hfew')
      clear hfew'
      go_enter Tryd.func7, Tryd.ntmps7
      go_wp2_with fail
      refine (HAW.out _ _ HE.out).mono ?_
      rintro e w1 ⟨rfl, hb1⟩
      obtain ⟨⟨c0, c1, c2, c3, c4, c5, c6, c7, c8, c9, c10, c11⟩, _⟩ := (H6.out.to hb1).cells
      go_wp2_with fail
      clear c0 c1 c2 c3 c4 c5 c6 c7 c8 c9 c10 c11
      refine (pfew_l (m := 500) (L0.out.to hb1) (by omega) HF.out).mono ?_
      rintro e w2 ⟨rfl, hb2⟩
      have hb12 := below_seq hb1 hb2
      obtain ⟨⟨c0, c1, c2, c3, c4, c5, c6, c7, c8, c9, c10, c11⟩, _⟩ := (H6'.out.to hb12).cells
      go_wp2_with fail
      clear c0 c1 c2 c3 c4 c5 c6 c7 c8 c9 c10 c11
      refine (pfew_l (m := 500) (L0'.out.to hb12) (by omega) HF'.out).mono ?_
      rintro e w3 ⟨rfl, hb3⟩
      have HB3 := Lib.hid (below_seq hb12 hb3)
      clear hb1 hb2 hb12 hb3
      -- the three processes that are made
      have ha3 : Below w3.heap.size w3 (w3.alloc (.cells #[.int .i64 p.k, .string p.c, .string p.x, .slice la ln lc, .slice aa an ac, .int .i64 p.t.k, .int .i64 p.t.p, .string p.t.n, .int .i64 p.t.s, .slice ta tn tc, .slice ua un uc, .slice ka kn kc] 36)) := blkBelow _ _ _
      have X1 : Hid (Calls Tryd.prog 37 #[.agg #[.int .i64 3, .string c, .string x, .slice none 0 0, .slice none 0 0, .int .i64 0, .int .i64 0, .string ⟨#[]⟩, .int .i64 0, .slice none 0 0, .slice none 0 0, .slice (some ⟨w3.heap.size, 0, none⟩) 1 1]] (w3.alloc (.cells #[.int .i64 p.k, .string p.c, .string p.x, .slice la ln lc, .slice aa an ac, .int .i64 p.t.k, .int .i64 p.t.p, .string p.t.n, .int .i64 p.t.s, .slice ta tn tc, .slice ua un uc, .slice ka kn kc] 36)) fun e w' => ∃ xa xn xc, e = .returned (.slice xa xn xc) ∧ SLies w' (.slice xa xn xc) (bRecv c x p).free ∧ Below (w3.alloc (.cells #[.int .i64 p.k, .string p.c, .string p.x, .slice la ln lc, .slice aa an ac, .int .i64 p.t.k, .int .i64 p.t.p, .string p.t.n, .int .i64 p.t.s, .slice ta tn tc, .slice ua un uc, .slice ka kn kc] 36)).heap.size (w3.alloc (.cells #[.int .i64 p.k, .string p.c, .string p.x, .slice la ln lc, .slice aa an ac, .int .i64 p.t.k, .int .i64 p.t.p, .string p.t.n, .int .i64 p.t.s, .slice ta tn tc, .slice ua un uc, .slice ka kn kc] 36)) w') :=
        Lib.hid (pfree_m (lies_recv HCX.out.1 HCX.out.2 (new_cells w3 _) ((L0.out.to HB3.out).to ha3)) (by rw [bRecv_size]; have := HFS.out; omega) (by rw [bRecv_depth]; have := HFS.out; omega) (by rw [bRecv_nms]; have := HN.out; omega))
      have HA3 := Lib.hid (below_seq HB3.out ha3)
      clear ha3
      obtain ⟨⟨c0, c1, c2, c3, c4, c5, c6, c7, c8, c9, c10, c11⟩, _⟩ := (H6.out.to HB3.out).cells
      have hl3 := (H6.out.to HB3.out).lt
      go_wp2_with fail
      clear c0 c1 c2 c3 c4 c5 c6 c7 c8 c9 c10 c11 hl3
      refine X1.out.mono ?_
      rintro e w4 ⟨ra, rn, rc, rfl, hs4, hb4⟩
      have HB4 := Lib.hid (below_seq HA3.out hb4)
      have S4 := Lib.hid hs4
      clear hs4 hb4 HA3 X1
      have ha4 : Below w4.heap.size w4 (w4.alloc (.cells #[.int .i64 p.k, .string p.c, .string p.x, .slice la ln lc, .slice aa an ac, .int .i64 p.t.k, .int .i64 p.t.p, .string p.t.n, .int .i64 p.t.s, .slice ta tn tc, .slice ua un uc, .slice ka kn kc] 36)) := blkBelow _ _ _
      have X2 : Hid (Calls Tryd.prog 37 #[.agg #[.int .i64 6, .string c, .string x, .slice none 0 0, .slice none 0 0, .int .i64 3, .int .i64 0, .string ⟨#[]⟩, .int .i64 0, .slice none 0 0, .slice none 0 0, .slice (some ⟨w4.heap.size, 0, none⟩) 1 1]] (w4.alloc (.cells #[.int .i64 p.k, .string p.c, .string p.x, .slice la ln lc, .slice aa an ac, .int .i64 p.t.k, .int .i64 p.t.p, .string p.t.n, .int .i64 p.t.s, .slice ta tn tc, .slice ua un uc, .slice ka kn kc] 36)) fun e w' => ∃ xa xn xc, e = .returned (.slice xa xn xc) ∧ SLies w' (.slice xa xn xc) (bNew c x p).free ∧ Below (w4.alloc (.cells #[.int .i64 p.k, .string p.c, .string p.x, .slice la ln lc, .slice aa an ac, .int .i64 p.t.k, .int .i64 p.t.p, .string p.t.n, .int .i64 p.t.s, .slice ta tn tc, .slice ua un uc, .slice ka kn kc] 36)).heap.size (w4.alloc (.cells #[.int .i64 p.k, .string p.c, .string p.x, .slice la ln lc, .slice aa an ac, .int .i64 p.t.k, .int .i64 p.t.p, .string p.t.n, .int .i64 p.t.s, .slice ta tn tc, .slice ua un uc, .slice ka kn kc] 36)) w') :=
        Lib.hid (pfree_m (lies_new HCX.out.1 HCX.out.2 (new_cells w4 _) ((L0.out.to HB4.out).to ha4)) (by rw [bNew_size]; have := HFS.out; omega) (by rw [bNew_depth]; have := HFS.out; omega) (by rw [bNew_nms]; have := HN.out; omega))
      have HA4 := Lib.hid ha4
      clear ha4
      obtain ⟨⟨c0, c1, c2, c3, c4, c5, c6, c7, c8, c9, c10, c11⟩, _⟩ := (H6.out.to HB4.out).cells
      have hl3 := (H6.out.to HB4.out).lt
      go_wp2_with fail
      clear c0 c1 c2 c3 c4 c5 c6 c7 c8 c9 c10 c11 hl3
      refine X2.out.mono ?_
      rintro e w5 ⟨na, nn, nc, rfl, hs5, hb5⟩
      have hb45 := below_seq HA4.out hb5
      have HB5 := Lib.hid (below_seq HB4.out hb45)
      have S5r := Lib.hid (SLies.to S4.out hb45)
      have S5n := Lib.hid hs5
      clear hs5 hb5 hb45 HA4 X2 S4
      have ha5 : Below w5.heap.size w5 (w5.alloc (.cells #[.int .i64 p.k, .string p.c, .string p.x, .slice la ln lc, .slice aa an ac, .int .i64 p.t.k, .int .i64 p.t.p, .string p.t.n, .int .i64 p.t.s, .slice ta tn tc, .slice ua un uc, .slice ka kn kc, .int .i64 q.k, .string q.c, .string q.x, .slice la' ln' lc', .slice aa' an' ac', .int .i64 q.t.k, .int .i64 q.t.p, .string q.t.n, .int .i64 q.t.s, .slice ta' tn' tc', .slice ua' un' uc', .slice ka' kn' kc'] 36)) := blkBelow _ _ _
      have X3 : Hid (Calls Tryd.prog 37 #[.agg #[.int .i64 7, .string ⟨#[]⟩, .string ⟨#[]⟩, .slice none 0 0, .slice none 0 0, .int .i64 0, .int .i64 0, .string ⟨#[]⟩, .int .i64 0, .slice none 0 0, .slice none 0 0, .slice (some ⟨w5.heap.size, 0, none⟩) 2 2]] (w5.alloc (.cells #[.int .i64 p.k, .string p.c, .string p.x, .slice la ln lc, .slice aa an ac, .int .i64 p.t.k, .int .i64 p.t.p, .string p.t.n, .int .i64 p.t.s, .slice ta tn tc, .slice ua un uc, .slice ka kn kc, .int .i64 q.k, .string q.c, .string q.x, .slice la' ln' lc', .slice aa' an' ac', .int .i64 q.t.k, .int .i64 q.t.p, .string q.t.n, .int .i64 q.t.s, .slice ta' tn' tc', .slice ua' un' uc', .slice ka' kn' kc'] 36)) fun e w' => ∃ xa xn xc, e = .returned (.slice xa xn xc) ∧ SLies w' (.slice xa xn xc) (parP p q).free ∧ Below (w5.alloc (.cells #[.int .i64 p.k, .string p.c, .string p.x, .slice la ln lc, .slice aa an ac, .int .i64 p.t.k, .int .i64 p.t.p, .string p.t.n, .int .i64 p.t.s, .slice ta tn tc, .slice ua un uc, .slice ka kn kc, .int .i64 q.k, .string q.c, .string q.x, .slice la' ln' lc', .slice aa' an' ac', .int .i64 q.t.k, .int .i64 q.t.p, .string q.t.n, .int .i64 q.t.s, .slice ta' tn' tc', .slice ua' un' uc', .slice ka' kn' kc'] 36)).heap.size (w5.alloc (.cells #[.int .i64 p.k, .string p.c, .string p.x, .slice la ln lc, .slice aa an ac, .int .i64 p.t.k, .int .i64 p.t.p, .string p.t.n, .int .i64 p.t.s, .slice ta tn tc, .slice ua un uc, .slice ka kn kc, .int .i64 q.k, .string q.c, .string q.x, .slice la' ln' lc', .slice aa' an' ac', .int .i64 q.t.k, .int .i64 q.t.p, .string q.t.n, .int .i64 q.t.s, .slice ta' tn' tc', .slice ua' un' uc', .slice ka' kn' kc'] 36)) w') :=
        Lib.hid (pfree_m (lies_par (new_cells w5 _) ((L0.out.to HB5.out).to ha5) ((L0'.out.to HB5.out).to ha5)) (by rw [parP_size]; have := HFS.out; have := HFS'.out; omega) (by rw [parP_depth]; have := HFS.out; have := HFS'.out; omega) (by rw [parP_nms]; have := HN.out; omega))
      have HA5 := Lib.hid ha5
      clear ha5
      obtain ⟨⟨c0, c1, c2, c3, c4, c5, c6, c7, c8, c9, c10, c11⟩, _⟩ := (H6.out.to HB5.out).cells
      obtain ⟨⟨d0, d1, d2, d3, d4, d5, d6, d7, d8, d9, d10, d11⟩, _⟩ := (H6'.out.to HB5.out).cells
      have hl3 := (H6.out.to HB5.out).lt
      have hl3' := (H6'.out.to HB5.out).lt
      go_wp2_with fail
      clear c0 c1 c2 c3 c4 c5 c6 c7 c8 c9 c10 c11 d0 d1 d2 d3 d4 d5 d6 d7 d8 d9 d10 d11 hl3 hl3'
      refine X3.out.mono ?_
      rintro e w6 ⟨oa, on, oc, rfl, hs6, hb6⟩
      have hb56 := below_seq HA5.out hb6
      have HB6 := Lib.hid (below_seq HB5.out hb56)
      have S6r := Lib.hid (SLies.to S5r.out hb56)
      have S6n := Lib.hid (SLies.to S5n.out hb56)
      have S6o := Lib.hid hs6
      clear hs6 hb6 hb56 HA5 X3 S5r S5n
      have X4 : Hid (Calls Tryd.prog 38 #[.agg #[.int .i64 p.k, .string p.c, .string p.x, .slice la ln lc, .slice aa an ac, .int .i64 p.t.k, .int .i64 p.t.p, .string p.t.n, .int .i64 p.t.s, .slice ta tn tc, .slice ua un uc, .slice ka kn kc]] w6 fun e w' => ∃ xa xn xc, e = .returned (.slice xa xn xc) ∧ SLies w' (.slice xa xn xc) p.free ∧ Below w6.heap.size w6 w') :=
        Lib.hid (rfree_l (L0.out.to HB6.out) (by have := HN.out; omega) (by have := HFS.out; omega) rfl)
      obtain ⟨⟨c0, c1, c2, c3, c4, c5, c6, c7, c8, c9, c10, c11⟩, _⟩ := (H6.out.to HB6.out).cells
      go_wp2_with fail
      clear c0 c1 c2 c3 c4 c5 c6 c7 c8 c9 c10 c11
      refine X4.out.mono ?_
      rintro e w7 ⟨fa, fn, fc, rfl, hs7, hb7⟩
      have HB7 := Lib.hid (below_seq HB6.out hb7)
      have S7r := Lib.hid (SLies.to S6r.out hb7)
      have S7n := Lib.hid (SLies.to S6n.out hb7)
      have S7o := Lib.hid (SLies.to S6o.out hb7)
      have S7f := Lib.hid hs7
      have hfn := hs7.len
      obtain ⟨pa1, len1, cap1, e1, hl1, hm1, hg1⟩ := StrSl.open hs7
      simp only [Value.slice.injEq] at e1
      obtain ⟨rfl, rfl, rfl⟩ := e1
      have HG := Lib.hid hg1
      have HFN := Lib.hid hfn
      have hfm : fn ≤ 400000000 := by rw [hfn]; exact Nat.le_trans p.free_len HN.out.1
      clear hs7 hb7 hg1 hl1 hfn X4 S6r S6n S6o
      go_wp2_with fail
      go_loop [13, 14] (fun n i => ∃ j : Nat, i = .int .i64 j ∧ j ≤ fn ∧ n = .int .i64 (restN c x p.free j : Nat)) (fun _ i => fn - (intOf i).toNat)
      case atStart => exact ⟨0, rfl, by omega, rfl⟩
      case round =>
        obtain ⟨j, rfl, hj, rfl⟩ := hrel
        by_cases hlt : j < fn
        · obtain ⟨s, hs⟩ : ∃ s, p.free[j]? = some s := ⟨_, List.getElem?_eq_getElem (by rw [← HFN.out]; exact hlt)⟩
          obtain ⟨_, kb, ko, rfl, hkb, q1⟩ := HG.out j s hs
          have hmem := List.mem_of_getElem? hs
          have hrl := restN_le c x p.free j
          have I3 : Hid (Calls Tryd.prog 39 #[.string s, .slice oa on oc] w7 fun e w' => e = .returned (.bool true) ∧ w7 = w') := Lib.hid (in_l S7o.out (memB_true.2 (mem_par.2 (.inl hmem))))
          obtain ⟨N, hN⟩ : ∃ N, restN c x p.free j = N := ⟨_, rfl⟩
          by_cases hsx : s = x
          · have e1 : (s.toList != x.toList) = false := by simp [hsx]
            have e2 : (s.toList == x.toList) = true := by simp [hsx]
            have HT := Lib.hid ((restN_no (c := c) (x := x) hs (fun h => h.1 hsx)).trans hN)
            rw [hN] at hrl ⊢
            clear hs hmem hsx hN
            go_wp2_with (go_at_call 39; refine I3.out.mono ?_; rintro e w' ⟨rfl, rfl⟩)
            go_round
            case rel => exact ⟨j + 1, by go_num, by omega, by rw [HT.out]⟩
            case measure => simp [intOf]; omega
          · have e1 := str_ne hsx
            have e2 : (s.toList == x.toList) = false := by simpa using e1
            have I1 : Hid (Calls Tryd.prog 39 #[.string s, .slice ra rn rc] w7 fun e w' => e = .returned (.bool true) ∧ w7 = w') := Lib.hid (in_l S7r.out (memB_true.2 (mem_recv.2 (.inr ⟨hmem, hsx⟩))))
            by_cases hsc : s = c
            · have e3 : (s.toList != c.toList) = false := by simp [hsc]
              have e4 : (s.toList == c.toList) = true := by simp [hsc]
              have HT := Lib.hid ((restN_no (c := c) (x := x) hs (fun h => h.2 hsc)).trans hN)
              rw [hN] at hrl ⊢
              clear hs hmem hsx hsc hN
              go_wp2_with (go_at_call 39; first | ((with_reducible refine I3.out.mono ?_); rintro e w' ⟨rfl, rfl⟩) | ((with_reducible refine I1.out.mono ?_); rintro e w' ⟨rfl, rfl⟩))
              go_round
              case rel => exact ⟨j + 1, by go_num, by omega, by rw [HT.out]⟩
              case measure => simp [intOf]; omega
            · have e3 := str_ne hsc
              have e4 : (s.toList == c.toList) = false := by simpa using e3
              have I2 : Hid (Calls Tryd.prog 39 #[.string s, .slice na nn nc] w7 fun e w' => e = .returned (.bool true) ∧ w7 = w') := Lib.hid (in_l S7n.out (memB_true.2 (mem_new.2 ⟨hmem, hsc, hsx⟩)))
              have HT := Lib.hid ((restN_yes (c := c) (x := x) hs hsx hsc).trans (by rw [hN]))
              rw [hN] at hrl ⊢
              clear hs hmem hsx hsc hN
              go_wp2_with (go_at_call 39; first | ((with_reducible refine I3.out.mono ?_); rintro e w' ⟨rfl, rfl⟩) | ((with_reducible refine I1.out.mono ?_); rintro e w' ⟨rfl, rfl⟩) | ((with_reducible refine I2.out.mono ?_); rintro e w' ⟨rfl, rfl⟩))
              go_round
              case rel => exact ⟨j + 1, by go_num, by omega, by rw [HT.out]; go_num⟩
              case measure => simp [intOf]; omega
        · obtain rfl : fn = j := by omega
          have X5 : Hid (Calls Tryd.prog 38 #[.agg #[.int .i64 q.k, .string q.c, .string q.x, .slice la' ln' lc', .slice aa' an' ac', .int .i64 q.t.k, .int .i64 q.t.p, .string q.t.n, .int .i64 q.t.s, .slice ta' tn' tc', .slice ua' un' uc', .slice ka' kn' kc']] w7 fun e w' => ∃ xa xn xc, e = .returned (.slice xa xn xc) ∧ SLies w' (.slice xa xn xc) q.free ∧ Below w7.heap.size w7 w') :=
            Lib.hid (rfree_l (L0'.out.to HB7.out) (by have := HN.out; omega) (by have := HFS'.out; omega) rfl)
          obtain ⟨⟨c0, c1, c2, c3, c4, c5, c6, c7, c8, c9, c10, c11⟩, _⟩ := (H6'.out.to HB7.out).cells
          have hrl := restN_le c x p.free fn
          have HL1 : Hid (rn = restN c x p.free fn + 1) := Lib.hid (by rw [S7r.out.len, len_recv, ← HFN.out])
          have HL2 : Hid (nn = restN c x p.free fn) := Lib.hid (by rw [S7n.out.len, len_new, ← HFN.out])
          obtain ⟨N, hN⟩ : ∃ N, restN c x p.free fn = N := ⟨_, rfl⟩
          rw [hN] at HL1 HL2 hrl ⊢
          clear hN
          go_wp2_with fail
          clear c0 c1 c2 c3 c4 c5 c6 c7 c8 c9 c10 c11
          refine X5.out.mono ?_
          rintro e w8 ⟨ga, gn, gc, rfl, hs8, hb8⟩
          have HB8 := Lib.hid (below_seq HB7.out hb8)
          have S8r := Lib.hid (SLies.to S7r.out hb8)
          have S8o := Lib.hid (SLies.to S7o.out hb8)
          obtain ⟨pa2, len2, cap2, e2, hl2, hm2, hg2⟩ := StrSl.open hs8
          simp only [Value.slice.injEq] at e2
          obtain ⟨rfl, rfl, rfl⟩ := e2
          have HG2 := Lib.hid hg2
          have HGN := Lib.hid hl2.out
          clear hs8 hb8 hg2 hl2 X5 S7r S7n S7o S7f HG
          go_wp2_with fail
          go_loop [16] (fun i => ∃ m : Nat, i = .int .i64 m ∧ m ≤ gn) (fun i => gn - (intOf i).toNat)
          case atStart => exact ⟨0, rfl, by omega⟩
          case round =>
            obtain ⟨m, rfl, hm⟩ := hrel
            by_cases hlt2 : m < gn
            · obtain ⟨s, hs⟩ : ∃ s, q.free[m]? = some s := ⟨_, List.getElem?_eq_getElem (by rw [← HGN.out]; exact hlt2)⟩
              obtain ⟨_, kb, ko, rfl, hkb, q1⟩ := HG2.out m s hs
              have I3 : Hid (Calls Tryd.prog 39 #[.string s, .slice oa on oc] w8 fun e w' => e = .returned (.bool true) ∧ w8 = w') := Lib.hid (in_l S8o.out (memB_true.2 (mem_par.2 (.inr (List.mem_of_getElem? hs)))))
              clear hs
              go_wp2_with (go_at_call 39; refine I3.out.mono ?_; rintro e w' ⟨rfl, rfl⟩)
              go_round
              case rel => exact ⟨m + 1, by go_num, by omega⟩
              case measure => simp [intOf]; omega
            · obtain rfl : gn = m := by omega
              have I4 : Hid (Calls Tryd.prog 39 #[.string c, .slice ra rn rc] w8 fun e w' => e = .returned (.bool true) ∧ w8 = w') := Lib.hid (in_l S8r.out (memB_true.2 (mem_recv.2 (.inl rfl))))
              have h1 := HL1.out
              have h2 := HL2.out
              have k1 : ((rn : Int) == (N : Int) + 1) = true := by simp; omega
              have k2 : ((nn : Int) == (N : Int)) = true := by simp; omega
              have k3 : ((rn : Int) = (N : Int) + 1) := by omega
              have k4 : ((nn : Int) = (N : Int)) := by omega
              have K := Lib.hid (And.intro k3 k4)
              clear h1 h2 k3 k4
              go_wp2_with (go_at_call 39; refine I4.out.mono ?_; rintro e w' ⟨rfl, rfl⟩)
              go_ret
              exact ⟨rfl, below_seq HB0.out HB8.out⟩

end Go.Proofs.YtliijbcgkkiekaaDoor
