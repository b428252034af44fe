/- Processes: the law about sizes, given that the fixed examples come out right. (and what follows from it) -/
import Derived.Test.YtliijbcgkkiekaaDoorPb30

/- Processes: the law about sizes, given that the fixed examples come out right. -/
namespace Go.Proofs.YtliijbcgkkiekaaDoor
open Go.RowKit Go.Deep Go.Shelf

theorem Twelve.two (w : World) (a0 a1 a2 a3 a4 a5 a6 a7 a8 a9 a10 a11 b0 b1 b2 b3 b4 b5 b6 b7 b8 b9 b10 b11 : Value) :
    Twelve ((w.alloc (.cells #[a0, a1, a2, a3, a4, a5, a6, a7, a8, a9, a10, a11] 36)).alloc (.cells #[b0, b1, b2, b3, b4, b5, b6, b7, b8, b9, b10, b11] 36)) w.heap.size a0 a1 a2 a3 a4 a5 a6 a7 a8 a9 a10 a11 ∧
    Twelve ((w.alloc (.cells #[a0, a1, a2, a3, a4, a5, a6, a7, a8, a9, a10, a11] 36)).alloc (.cells #[b0, b1, b2, b3, b4, b5, b6, b7, b8, b9, b10, b11] 36)) (w.heap.size + 1) b0 b1 b2 b3 b4 b5 b6 b7 b8 b9 b10 b11 := by
  unfold Twelve
  constructor <;> (simp only [heap_push, Array.getElem?_push, Array.size_push]; simp)
theorem pfew_l {W : World} {v : Value} {p : Pr} {m : Nat} {b : Bool} (h : PLies W v p) (hm : m ≤ 1000000) (hb : p.few m = b) : Calls Tryd.prog 23 #[v, .int .i64 m] W fun e w' => e = .returned (.bool b) ∧ Below W.heap.size W w' := by
  rw [← hb]; exact prfew_any _ p m hm v W (plow W) h

def bX : ByteArray := ⟨#[120]⟩
def parP (p q : Pr) : Pr := .mk 7 e0 e0 [] [] (leafT 0) [p, q]
def recvP (p : Pr) : Pr := .mk 3 bA bX [] [] (leafT 0) [p]
theorem parP_size (p q : Pr) : (parP p q).size = p.size + q.size + 1 := by rw [Pr.size_eq]; simp [parP, Pr.ps, Pr.sizes]
theorem parP_depth (p q : Pr) : (parP p q).depth = max p.depth q.depth + 1 := by rw [Pr.depth_eq]; simp [parP, Pr.ps, Pr.depths]
theorem parP_typ (p q : Pr) : (parP p q).typ = p.typ + q.typ := by rw [Pr.typ_eq]; simp [parP, Pr.ps, Pr.typs, Pr.typ0, Pr.k]
theorem recvP_size (p : Pr) : (recvP p).size = p.size + 1 := by rw [Pr.size_eq]; simp [recvP, Pr.ps, Pr.sizes]
theorem recvP_depth (p : Pr) : (recvP p).depth = p.depth + 1 := by rw [Pr.depth_eq]; simp [recvP, Pr.ps, Pr.depths]
theorem parP_good {p q : Pr} (h : PGood p) (h' : PGood q) : PGood (parP p q) := by
  refine ⟨?_, ?_⟩
  · simp only [parP, Pr.fine, Pr.fines]; exact ⟨by simp [In64], by simp [leafT, Ty.fine, Ty.fines, In64], h.1, h'.1, trivial⟩
  · simp only [parP, Pr.tf, Pr.tfs]; exact ⟨leaf_few 0, h.2, h'.2, trivial⟩

theorem prs_two {B : Nat → Prop} {W : World} {b : Nat} {p q : Pr} {lv av tl tk kv lv' av' tl' tk' kv' : Value} (hb : B b)
    (hh : W.heap[b]? = some (.cells #[.int .i64 p.k, .string p.c, .string p.x, lv, av, .int .i64 p.t.k, .int .i64 p.t.p, .string p.t.n, .int .i64 p.t.s, tl, tk, kv, .int .i64 q.k, .string q.c, .string q.x, lv', av', .int .i64 q.t.k, .int .i64 q.t.p, .string q.t.n, .int .i64 q.t.s, tl', tk', kv'] 36))
    (hv : PrVal B W (prAgg p lv av tl tk kv) p) (hv' : PrVal B W (prAgg q lv' av' tl' tk' kv') q) : PrSl B W (.slice (some ⟨b, 0, none⟩) 2 2) [p, q] := by
  refine ⟨.inr ⟨b, 0, 2, rfl, hb, ?_⟩, by simp [maxLen]⟩
  show PrAt B W p b 0 ∧ PrAt B W q b 12 ∧ True
  exact ⟨prAt_of hb (cell_of hh 0) (cell_of hh 1) (cell_of hh 2) (cell_of hh 3) (cell_of hh 4) (cell_of hh 5) (cell_of hh 6) (cell_of hh 7) (cell_of hh 8) (cell_of hh 9) (cell_of hh 10) (cell_of hh 11) hv,
    prAt_of hb (cell_of hh 12) (cell_of hh 13) (cell_of hh 14) (cell_of hh 15) (cell_of hh 16) (cell_of hh 17) (cell_of hh 18) (cell_of hh 19) (cell_of hh 20) (cell_of hh 21) (cell_of hh 22) (cell_of hh 23) hv', trivial⟩
theorem lies_g {W : World} {p : Pr} {lv av tl tk kv : Value} (h : PLies W (prAgg p lv av tl tk kv) p) : GLies W (pgAgg ⟨[], p⟩ sl0 lv av tl tk kv) ⟨[], p⟩ := ⟨_, _, _, _, _, _, rfl, nil_dfs _ _, h⟩
theorem ggood_of {p : Pr} (h : PGood p) (hs : p.size ≤ 1000000) (hd : p.depth ≤ 1000) : GGood ⟨[], p⟩ := by
  refine ⟨by simp, by simp, fun u hu => ?_⟩
  have : u = p := by simpa [Pg.bodies] using hu
  subst this
  exact ⟨h, hd, hs⟩
theorem total_of (p : Pr) : (Pg.mk [] p).total = p.size + p.typ := by rw [Pg.total_eq]; simp [sumN]
theorem Pr.typ_le : ∀ p : Pr, p.tf → p.typ ≤ 300 * p.size := by
  refine Pr.ind ?_
  intro k c x ls vs t ps ih htf
  have hl : ∀ l : List Pr, (∀ u ∈ l, u ∈ ps) → Pr.typs l ≤ 300 * Pr.sizes l := by
    intro l
    induction l with
    | nil => intro _; simp [Pr.typs, Pr.sizes]
    | cons u r ihl =>
      intro hu
      have h1 := ih u (hu u (by simp)) (Pr.tf_ps htf u (hu u (by simp)))
      have h2 := ihl (fun y hy => hu y (by simp [hy]))
      simp only [Pr.typs, Pr.sizes]; omega
  have h1 := hl ps (fun _ h => h)
  have h2 := (few_size (Pr.tf_t htf)).1
  simp only [Pr.t] at h2
  have h3 : (Pr.mk k c x ls vs t ps).typ0 ≤ t.size := by
    unfold Pr.typ0
    by_cases h6 : (Pr.mk k c x ls vs t ps).k = 6
    · rw [if_pos h6]; exact Nat.le_refl _
    · rw [if_neg h6]; exact Nat.zero_le _
  rw [Pr.typ_eq, Pr.size_eq]
  simp only [Pr.ps]; omega
/-- The four blocks of the law about sizes. -/
theorem made_two (w : World) (W : World) (p q : Pr) (lv av tl tk kv lv' av' tl' tk' kv' : Value) (h : PLies w (prAgg p lv av tl tk kv) p) (h' : PLies w (prAgg q lv' av' tl' tk' kv') q)
    (hW : ((((w.alloc (.cells #[.int .i64 p.k, .string p.c, .string p.x, lv, av, .int .i64 p.t.k, .int .i64 p.t.p, .string p.t.n, .int .i64 p.t.s, tl, tk, kv, .int .i64 q.k, .string q.c, .string q.x, lv', av', .int .i64 q.t.k, .int .i64 q.t.p, .string q.t.n, .int .i64 q.t.s, tl', tk', kv'] 36)).alloc
      (.cells #[.int .i64 7, .string ⟨#[]⟩, .string ⟨#[]⟩, sl0, sl0, .int .i64 0, .int .i64 0, .string ⟨#[]⟩, .int .i64 0, sl0, sl0, .slice (some ⟨w.heap.size, 0, none⟩) 2 2] 36)).alloc (cell12 p lv av tl tk kv)).alloc
      (.cells #[.int .i64 3, .string ⟨#[97]⟩, .string ⟨#[120]⟩, sl0, sl0, .int .i64 0, .int .i64 0, .string ⟨#[]⟩, .int .i64 0, sl0, sl0, sl1 (w.heap.size + 1 + 1)] 36)) = W) :
    (Twelve W (w.heap.size + 1) (.int .i64 7) (.string ⟨#[]⟩) (.string ⟨#[]⟩) sl0 sl0 (.int .i64 0) (.int .i64 0) (.string ⟨#[]⟩) (.int .i64 0) sl0 sl0 (.slice (some ⟨w.heap.size, 0, none⟩) 2 2) ∧
    Twelve W (w.heap.size + 1 + 1 + 1) (.int .i64 3) (.string ⟨#[97]⟩) (.string ⟨#[120]⟩) sl0 sl0 (.int .i64 0) (.int .i64 0) (.string ⟨#[]⟩) (.int .i64 0) sl0 sl0 (sl1 (w.heap.size + 1 + 1))) ∧
    PLies W (.agg #[.int .i64 7, .string ⟨#[]⟩, .string ⟨#[]⟩, sl0, sl0, .int .i64 0, .int .i64 0, .string ⟨#[]⟩, .int .i64 0, sl0, sl0, .slice (some ⟨w.heap.size, 0, none⟩) 2 2]) (parP p q) ∧
    PLies W (.agg #[.int .i64 3, .string ⟨#[97]⟩, .string ⟨#[120]⟩, sl0, sl0, .int .i64 0, .int .i64 0, .string ⟨#[]⟩, .int .i64 0, sl0, sl0, sl1 (w.heap.size + 1 + 1)]) (recvP p) ∧ Below w.heap.size w W := by
  have hs : W.heap.size = w.heap.size + 4 := by rw [← hW]; simp
  have hb : Below w.heap.size w W := by rw [← hW]; exact box4_below w _ _ _ _
  have k0 : W.heap[w.heap.size]? = some (.cells #[.int .i64 p.k, .string p.c, .string p.x, lv, av, .int .i64 p.t.k, .int .i64 p.t.p, .string p.t.n, .int .i64 p.t.s, tl, tk, kv, .int .i64 q.k, .string q.c, .string q.x, lv', av', .int .i64 q.t.k, .int .i64 q.t.p, .string q.t.n, .int .i64 q.t.s, tl', tk', kv'] 36) := by rw [← hW]; simp only [heap_push, Array.getElem?_push, Array.size_push]; simp; rw [if_neg (by omega), if_neg (by omega)]
  have k1 : Twelve W (w.heap.size + 1) (.int .i64 7) (.string ⟨#[]⟩) (.string ⟨#[]⟩) sl0 sl0 (.int .i64 0) (.int .i64 0) (.string ⟨#[]⟩) (.int .i64 0) sl0 sl0 (.slice (some ⟨w.heap.size, 0, none⟩) 2 2) := by unfold Twelve; rw [← hW]; simp only [heap_push, Array.getElem?_push, Array.size_push]; simp
  have k2 : W.heap[w.heap.size + 1 + 1]? = some (cell12 p lv av tl tk kv) := by rw [← hW]; simp only [heap_push, Array.getElem?_push, Array.size_push]; simp
  have k3 : Twelve W (w.heap.size + 1 + 1 + 1) (.int .i64 3) (.string ⟨#[97]⟩) (.string ⟨#[120]⟩) sl0 sl0 (.int .i64 0) (.int .i64 0) (.string ⟨#[]⟩) (.int .i64 0) sl0 sl0 (sl1 (w.heap.size + 1 + 1)) := by unfold Twelve; rw [← hW]; simp only [heap_push, Array.getElem?_push, Array.size_push]; simp
  have v1 := h.to hb
  have v2 := h'.to hb
  exact ⟨⟨k1, k3⟩, ⟨sl0, sl0, sl0, sl0, _, rfl, ⟨(by show (⟨#[]⟩ : ByteArray).size ≤ maxLen; decide), (by show (⟨#[]⟩ : ByteArray).size ≤ maxLen; decide)⟩, nil_strs _ _, nil_vls _ _, val_leaf _ _ 0 0 0 e0 (by decide), prs_two (by omega) k0 v1 v2⟩,
    ⟨sl0, sl0, sl0, sl0, _, rfl, ⟨(by show (⟨#[97]⟩ : ByteArray).size ≤ maxLen; decide), (by show (⟨#[120]⟩ : ByteArray).size ≤ maxLen; decide)⟩, nil_strs _ _, nil_vls _ _, val_leaf _ _ 0 0 0 e0 (by decide), prs_one (by omega) k2 v1⟩, hb⟩

set_option maxHeartbeats 16000000 in
set_option maxRecDepth 100000 in
theorem ProctreeSizes_of (haw : ∀ (E : Nat) (w : World), Env E w → Calls Tryd.prog 22 #[] w fun e w' => e = .returned (.bool true) ∧ Below w.heap.size w w')
    (p q : Pr) (v v' : Value) (hpf : p.fine) (hqf : q.fine) (E : Nat) (w : World) (he : Env E w) (h : PLies w v p) (h' : PLies w v' q) : Calls Tryd.prog 9 #[v, v'] w fun e w' => e = .returned (.bool true) ∧ Below w.heap.size w w' := by
  have h0 := h
  have h0' := h'
  obtain ⟨lv, av, tl, tk, kv, rfl, _⟩ := h0
  obtain ⟨lv', av', tl', tk', kv', rfl, _⟩ := h0'
  obtain ⟨⟨la, ln, lc, rfl⟩, ⟨aa, an, ac, rfl⟩, ⟨ta, tn, tc, rfl⟩, ⟨ua, un, uc, rfl⟩, ⟨ka, kn, kc, rfl⟩⟩ := pr_slices h
  obtain ⟨⟨la', ln', lc', rfl⟩, ⟨aa', an', ac', rfl⟩, ⟨ta', tn', tc', rfl⟩, ⟨ua', un', uc', rfl⟩, ⟨ka', kn', kc', rfl⟩⟩ := pr_slices h'
  have hb0 := box2_below w (cell12 p (.slice la ln lc) (.slice aa an ac) (.slice ta tn tc) (.slice ua un uc) (.slice ka kn kc)) (cell12 q (.slice la' ln' lc') (.slice aa' an' ac') (.slice ta' tn' tc') (.slice ua' un' uc') (.slice ka' kn' kc'))
  have h12 := Twelve.two w (.int .i64 p.k) (.string p.c) (.string p.x) (.slice la ln lc) (.slice aa an ac) (.int .i64 p.t.k) (.int .i64 p.t.p) (.string p.t.n) (.int .i64 p.t.s) (.slice ta tn tc) (.slice ua un uc) (.slice ka kn kc)
    (.int .i64 q.k) (.string q.c) (.string q.x) (.slice la' ln' lc') (.slice aa' an' ac') (.int .i64 q.t.k) (.int .i64 q.t.p) (.string q.t.n) (.int .i64 q.t.s) (.slice ta' tn' tc') (.slice ua' un' uc') (.slice ka' kn' kc')
  have L0 := Lib.hid (h.to hb0)
  have L0' := Lib.hid (h'.to hb0)
  have H6 := Lib.hid h12.1
  have H6' := Lib.hid h12.2
  have HB0 := Lib.hid hb0
  have HE := Lib.hid (he.to hb0)
  have HPF := Lib.hid (And.intro hpf hqf)
  have HAW := Lib.hid haw
  clear h h' hb0 h12 he hpf hqf haw
  cases hfew : p.few 500 with
  | false =>
    have HF := Lib.hid hfew
    clear hfew
    go_enter Tryd.func9, Tryd.ntmps9
    go_wp2_with fail
    refine (HAW.out _ _ HE.out).mono ?_
    rintro e w1 ⟨rfl, hb1⟩
    obtain ⟨⟨c0, c1, c2, c3, c4, c5, c6, c7, c8, c9, c10, c11⟩, _⟩ := (H6.out.to hb1).cells
    go_wp2_with fail
    clear c0 c1 c2 c3 c4 c5 c6 c7 c8 c9 c10 c11
    refine (pfew_l (m := 500) (L0.out.to hb1) (by omega) HF.out).mono ?_
    rintro e w2 ⟨rfl, hb2⟩
    go_wp2_with fail
    refine (HAW.out _ _ (HE.out.to (below_seq hb1 hb2))).mono ?_
    rintro e w3 ⟨rfl, hb3⟩
    go_wp2_with fail
    go_ret
    exact ⟨rfl, below_seq HB0.out (below_seq hb1 (below_seq hb2 hb3))⟩
  | true =>
    have HF := Lib.hid hfew
    have HFS := Lib.hid (Pr.few_facts hfew)
    clear hfew
    cases hfew' : q.few 500 with
    | false =>
      have HF' := Lib.hid hfew'
      clear hfew'
      go_enter Tryd.func9, Tryd.ntmps9
      go_wp2_with fail
      refine (HAW.out _ _ HE.out).mono ?_
      rintro e w1 ⟨rfl, hb1⟩
      obtain ⟨⟨c0, c1, c2, c3, c4, c5, c6, c7, c8, c9, c10, c11⟩, _⟩ := (H6.out.to hb1).cells
      go_wp2_with fail
      clear c0 c1 c2 c3 c4 c5 c6 c7 c8 c9 c10 c11
      refine (pfew_l (m := 500) (L0.out.to hb1) (by omega) HF.out).mono ?_
      rintro e w2 ⟨rfl, hb2⟩
      have hb12 := below_seq hb1 hb2
      obtain ⟨⟨c0, c1, c2, c3, c4, c5, c6, c7, c8, c9, c10, c11⟩, _⟩ := (H6'.out.to hb12).cells
      go_wp2_with fail
      clear c0 c1 c2 c3 c4 c5 c6 c7 c8 c9 c10 c11
      refine (pfew_l (m := 500) (L0'.out.to hb12) (by omega) HF'.out).mono ?_
      rintro e w3 ⟨rfl, hb3⟩
      go_wp2_with fail
      refine (HAW.out _ _ (HE.out.to (below_seq hb12 hb3))).mono ?_
      rintro e w4 ⟨rfl, hb4⟩
      go_wp2_with fail
      go_ret
      exact ⟨rfl, below_seq HB0.out (below_seq hb12 (below_seq hb3 hb4))⟩
    | true =>
      have HF' := Lib.hid hfew'
      have HFS' := Lib.hid (Pr.few_facts hfew')
      clear hfew'
      go_enter Tryd.func9, Tryd.ntmps9
      go_wp2_with fail
      refine (HAW.out _ _ HE.out).mono ?_
      rintro e w1 ⟨rfl, hb1⟩
      obtain ⟨⟨c0, c1, c2, c3, c4, c5, c6, c7, c8, c9, c10, c11⟩, _⟩ := (H6.out.to hb1).cells
      go_wp2_with fail
      clear c0 c1 c2 c3 c4 c5 c6 c7 c8 c9 c10 c11
      refine (pfew_l (m := 500) (L0.out.to hb1) (by omega) HF.out).mono ?_
      rintro e w2 ⟨rfl, hb2⟩
      have hb12 := below_seq hb1 hb2
      obtain ⟨⟨c0, c1, c2, c3, c4, c5, c6, c7, c8, c9, c10, c11⟩, _⟩ := (H6'.out.to hb12).cells
      go_wp2_with fail
      clear c0 c1 c2 c3 c4 c5 c6 c7 c8 c9 c10 c11
      refine (pfew_l (m := 500) (L0'.out.to hb12) (by omega) HF'.out).mono ?_
      rintro e w3 ⟨rfl, hb3⟩
      have hb13 := below_seq hb12 hb3
      obtain ⟨⟨c0, c1, c2, c3, c4, c5, c6, c7, c8, c9, c10, c11⟩, _⟩ := (H6.out.to hb13).cells
      obtain ⟨⟨d0, d1, d2, d3, d4, d5, d6, d7, d8, d9, d10, d11⟩, _⟩ := (H6'.out.to hb13).cells
      have hl6 := (H6.out.to hb13).lt
      have hl6' := (H6'.out.to hb13).lt
      go_wp2_with fail
      obtain ⟨W0, hW0⟩ : ∃ W0, _ = W0 := ⟨_, rfl⟩
      obtain ⟨⟨t5, t6⟩, l5, l6, hbm⟩ := made_two w3 W0 p q _ _ _ _ _ _ _ _ _ _ (L0.out.to hb13) (L0'.out.to hb13) hW0
      refine wp_at hW0 ?_
      clear hW0 c0 c1 c2 c3 c4 c5 c6 c7 c8 c9 c10 c11 d0 d1 d2 d3 d4 d5 d6 d7 d8 d9 d10 d11
      have hb4 := below_seq hb13 hbm
      have T2 := Lib.hid (H6.out.to hb4)
      have T3 := Lib.hid (H6'.out.to hb4)
      have T5 := Lib.hid t5
      have T6 := Lib.hid t6
      have L2 := Lib.hid (L0.out.to hb4)
      have L3 := Lib.hid (L0'.out.to hb4)
      have L5 := Lib.hid l5
      have L6 := Lib.hid l6
      have HBB := Lib.hid (below_seq HB0.out hb4)
      have hg : PGood p := ⟨HPF.out.1, HFS.out.2.2⟩
      have hg' : PGood q := ⟨HPF.out.2, HFS'.out.2.2⟩
      have hsz := HFS.out.1
      have hsz' := HFS'.out.1
      have hdp := HFS.out.2.1
      have hdp' := HFS'.out.2.1
      have hty := Pr.typ_le p hg.2
      have hty' := Pr.typ_le q hg'.2
      obtain ⟨a, ha⟩ : ∃ a : Int, (p.size : Int) = a := ⟨_, rfl⟩
      obtain ⟨b, hb⟩ : ∃ b : Int, (q.size : Int) = b := ⟨_, rfl⟩
      obtain ⟨d, hd⟩ : ∃ d : Int, (p.depth : Int) = d := ⟨_, rfl⟩
      obtain ⟨f, hf⟩ : ∃ f : Int, (q.depth : Int) = f := ⟨_, rfl⟩
      obtain ⟨t, ht⟩ : ∃ t : Int, ((p.size + p.typ : Nat) : Int) = t := ⟨_, rfl⟩
      obtain ⟨u, hu⟩ : ∃ u : Int, ((q.size + q.typ : Nat) : Int) = u := ⟨_, rfl⟩
      have X1 : Hid (∀ y : Later W0.heap.size W0, _) := Lib.hid (fun y => psize_l (c := a + b + 1) (L5.out.to y.2) (by rw [parP_size]; omega) (by rw [parP_depth]; omega) (by rw [parP_size]; omega))
      have X2 : Hid (∀ y : Later W0.heap.size W0, _) := Lib.hid (fun y => psize_l (c := a) (L2.out.to y.2) (by omega) (by omega) ha)
      have X3 : Hid (∀ y : Later W0.heap.size W0, _) := Lib.hid (fun y => psize_l (c := b) (L3.out.to y.2) (by omega) (by omega) hb)
      have X4 : Hid (∀ y : Later W0.heap.size W0, _) := Lib.hid (fun y => psize_l (c := a + 1) (L6.out.to y.2) (by rw [recvP_size]; omega) (by rw [recvP_depth]; omega) (by rw [recvP_size]; omega))
      have Y1 : Hid (∀ y : Later W0.heap.size W0, _) := Lib.hid (fun y => pdepth_l (c := (if d < f then f else d) + 1) (L5.out.to y.2) (by rw [parP_depth]; omega) (by rw [parP_depth]; split <;> omega))
      have Y2 : Hid (∀ y : Later W0.heap.size W0, _) := Lib.hid (fun y => pdepth_l (c := d) (L2.out.to y.2) (by omega) hd)
      have Y3 : Hid (∀ y : Later W0.heap.size W0, _) := Lib.hid (fun y => pdepth_l (c := f) (L3.out.to y.2) (by omega) hf)
      have Y4 : Hid (∀ y : Later W0.heap.size W0, _) := Lib.hid (fun y => pdepth_l (c := d + 1) (L6.out.to y.2) (by rw [recvP_depth]; omega) (by rw [recvP_depth]; omega))
      have Z1 : Hid (∀ y : Later W0.heap.size W0, Calls Tryd.prog 29 #[.agg #[sl0, .int .i64 7, .string ⟨#[]⟩, .string ⟨#[]⟩, sl0, sl0, .int .i64 0, .int .i64 0, .string ⟨#[]⟩, .int .i64 0, sl0, sl0, .slice (some ⟨w3.heap.size, 0, none⟩) 2 2]] y.1 fun e w' => e = .returned (.int .i64 (t + u + 1)) ∧ Below y.1.heap.size y.1 w') := Lib.hid (fun y => ptotal_l (c := t + u + 1) (lies_g (p := parP p q) (L5.out.to y.2)) (ggood_of (parP_good hg hg') (by rw [parP_size]; omega) (by rw [parP_depth]; omega)) (by rw [total_of, parP_size, parP_typ]; omega) (by rw [total_of, parP_size, parP_typ]; omega))
      have Z2 : Hid (∀ y : Later W0.heap.size W0, Calls Tryd.prog 29 #[.agg #[sl0, .int .i64 p.k, .string p.c, .string p.x, .slice la ln lc, .slice aa an ac, .int .i64 p.t.k, .int .i64 p.t.p, .string p.t.n, .int .i64 p.t.s, .slice ta tn tc, .slice ua un uc, .slice ka kn kc]] y.1 fun e w' => e = .returned (.int .i64 (t)) ∧ Below y.1.heap.size y.1 w') := Lib.hid (fun y => ptotal_l (c := t) (lies_g (p := p) (L2.out.to y.2)) (ggood_of hg (by omega) (by omega)) (by rw [total_of]; omega) (by rw [total_of]; omega))
      have Z3 : Hid (∀ y : Later W0.heap.size W0, Calls Tryd.prog 29 #[.agg #[sl0, .int .i64 q.k, .string q.c, .string q.x, .slice la' ln' lc', .slice aa' an' ac', .int .i64 q.t.k, .int .i64 q.t.p, .string q.t.n, .int .i64 q.t.s, .slice ta' tn' tc', .slice ua' un' uc', .slice ka' kn' kc']] y.1 fun e w' => e = .returned (.int .i64 (u)) ∧ Below y.1.heap.size y.1 w') := Lib.hid (fun y => ptotal_l (c := u) (lies_g (p := q) (L3.out.to y.2)) (ggood_of hg' (by omega) (by omega)) (by rw [total_of]; omega) (by rw [total_of]; omega))
      have ba : 0 ≤ a := by omega
      have ba' : a ≤ 1000000 := by omega
      have bb : 0 ≤ b := by omega
      have bb' : b ≤ 1000000 := by omega
      have bd : 0 ≤ d := by omega
      have bd' : d ≤ 1000000 := by omega
      have bf : 0 ≤ f := by omega
      have bf' : f ≤ 1000000 := by omega
      have bt : 0 ≤ t := by omega
      have bt' : t ≤ 1000000 := by omega
      have bu : 0 ≤ u := by omega
      have bu' : u ≤ 1000000 := by omega
      have c2 := fun y : Later W0.heap.size W0 => (T2.out.to y.2).cells.1
      have c3 := fun y : Later W0.heap.size W0 => (T3.out.to y.2).cells.1
      have c5 := fun y : Later W0.heap.size W0 => (T5.out.to y.2).cells.1
      have c6 := fun y : Later W0.heap.size W0 => (T6.out.to y.2).cells.1
      simp only [forall_and] at c2 c3 c5 c6
      obtain ⟨c20, c21, c22, c23, c24, c25, c26, c27, c28, c29, c2a, c2b⟩ := c2
      obtain ⟨c30, c31, c32, c33, c34, c35, c36, c37, c38, c39, c3a, c3b⟩ := c3
      obtain ⟨c50, c51, c52, c53, c54, c55, c56, c57, c58, c59, c5a, c5b⟩ := c5
      obtain ⟨c60, c61, c62, c63, c64, c65, c66, c67, c68, c69, c6a, c6b⟩ := c6
      clear t5 t6 l5 l6 hbm hb1 hb2 hb3 hb12 hb13 hb4 ha hb hd hf ht hu hsz hsz' hdp hdp' hty hty' hg hg' HFS HFS' HF HF' H6 H6' L0 L0' HB0 HE HPF HAW
      refine wp_region_later W0.heap.size W0 (by kernel_rfl) (by kernel_rfl) (Below.refl _ _) ?_
      repeat (go_big_quiet_step (first
        | (go_at_call 25; first | with_reducible exact later_call _ (Nat.le_refl _) (X1.out _) | with_reducible exact later_call _ (Nat.le_refl _) (X2.out _) | with_reducible exact later_call _ (Nat.le_refl _) (X3.out _) | with_reducible exact later_call _ (Nat.le_refl _) (X4.out _))
        | (go_at_call 27; first | with_reducible exact later_call _ (Nat.le_refl _) (Y1.out _) | with_reducible exact later_call _ (Nat.le_refl _) (Y2.out _) | with_reducible exact later_call _ (Nat.le_refl _) (Y3.out _) | with_reducible exact later_call _ (Nat.le_refl _) (Y4.out _))
        | (go_at_call 29; first | with_reducible exact later_call _ (Nat.le_refl _) (Z1.out _) | with_reducible exact later_call _ (Nat.le_refl _) (Z2.out _) | with_reducible exact later_call _ (Nat.le_refl _) (Z3.out _))))
      refine wpQuiet_nil ?_
      rintro _ ⟨⟨w5, hb5⟩, rfl⟩
      clear c20 c21 c22 c23 c24 c25 c26 c27 c28 c29 c2a c2b c30 c31 c32 c33 c34 c35 c36 c37 c38 c39 c3a c3b c50 c51 c52 c53 c54 c55 c56 c57 c58 c59 c5a c5b c60 c61 c62 c63 c64 c65 c66 c67 c68 c69 c6a c6b
      go_wp2_with fail
      all_goals
        go_ret
        exact ⟨rfl, below_seq HBB.out hb5⟩

end Go.Proofs.YtliijbcgkkiekaaDoor
