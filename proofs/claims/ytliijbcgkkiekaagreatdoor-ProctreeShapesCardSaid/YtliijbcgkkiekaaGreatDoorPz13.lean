/- Processes: Copy, walked. (and what follows from it) -/
import Derived.Test.YtliijbcgkkiekaaGreatDoorPz12
import Derived.Test.YtliijbcgkkiekaaGreatDoorPz7
import Derived.Deep.RegionWith

/- Processes: Copy, walked. -/
namespace Go.Proofs.YtliijbcgkkiekaaGreatDoor
open Go.RowKit Go.Deep

theorem ty_slices {B : Nat → Prop} {w : World} {t : Ty} {k p s : Int} {n : ByteArray} {tl tk : Value} (h : TyVal B w (.agg #[.int .i64 k, .int .i64 p, .string n, .int .i64 s, tl, tk]) t) : (∃ (a : Option Addr) (n c : Nat), tl = .slice a n c) ∧ ∃ (a : Option Addr) (n c : Nat), tk = .slice a n c := by
  obtain ⟨lv', kv', e, _, hl, hk2⟩ := h
  simp only [Value.agg.injEq, Array.mk.injEq, List.cons.injEq, and_true] at e
  obtain ⟨_, _, _, _, rfl, rfl⟩ := e
  obtain ⟨a, n, c, e, _⟩ := hl.open
  obtain ⟨a', n', c', e', _⟩ := hk2.open
  exact ⟨⟨a, n, c, e⟩, a', n', c', e'⟩
abbrev zero12 : Obj := .cells #[.int .i64 0, .string ⟨#[]⟩, .string ⟨#[]⟩, .slice none 0 0, .slice none 0 0, .int .i64 0, .int .i64 0, .string ⟨#[]⟩, .int .i64 0, .slice none 0 0, .slice none 0 0, .slice none 0 0] 29

theorem PFilled.keep {B : Nat → Prop} {g n k : Nat} {ps : List Pr} {w w' : World} (h : PFilled B g n ps k w) (hg : w'.heap[g]? = w.heap[g]?) (hs : w.heap.size ≤ w'.heap.size) (hB : Keeps B w w') (hF : Keeps (Fresh (g + 1) w.heap.size) w w') : PFilled B g n ps k w' := by
  obtain ⟨cs, hcs, hz⟩ := h.block
  have hc : ∀ (o : Nat) (v : Value), w.cell? ⟨g, o, none⟩ = some v → w'.cell? ⟨g, o, none⟩ = some v := fun o v hv => by
    rw [← hv]; unfold World.cell?; simp only [hg]
  refine ⟨⟨cs, hg.trans hcs, hz⟩, fun i t ht => ?_⟩
  obtain ⟨la, ln, lc, aa, an, ac, ta, tn, tc, ua, un, uc, ka, kn, kc, ⟨d0, d1, d2, d3, d4, d5, d6, d7, d8, d9, d10, d11⟩, hv⟩ := h.each i t ht
  refine ⟨la, ln, lc, aa, an, ac, ta, tn, tc, ua, un, uc, ka, kn, kc, ⟨hc _ _ d0, hc _ _ d1, hc _ _ d2, hc _ _ d3, hc _ _ d4, hc _ _ d5, hc _ _ d6, hc _ _ d7, hc _ _ d8, hc _ _ d9, hc _ _ d10, hc _ _ d11⟩, ?_⟩
  by_cases hi : i < k
  · rw [if_pos hi] at hv ⊢
    exact (hv.keep hF).mono (Fresh.mono (Nat.le_refl _) hs)
  · rw [if_neg hi] at hv ⊢
    exact hv.keep hB
/-- What stands while the Kids are copied. -/
structure CpSt (w : World) (m : Nat) (p : Pr) (lv av tl tk kv : Value) (wr : World) : Prop where
  own : Twelve wr w.heap.size (.int .i64 p.k) (.string p.c) (.string p.x) lv av (.int .i64 p.t.k) (.int .i64 p.t.p) (.string p.t.n) (.int .i64 p.t.s) tl tk kv
  res : Twelve wr (w.heap.size + 1) (.int .i64 0) (.string ⟨#[]⟩) (.string ⟨#[]⟩) (.slice none 0 0) (.slice none 0 0) (.int .i64 0) (.int .i64 0) (.string ⟨#[]⟩) (.int .i64 0) (.slice none 0 0) (.slice none 0 0) (.slice none 0 0)
  strs : StrSl (Fresh (w.heap.size + 2) m) wr lv p.ls
  vals : VlSl (Fresh (w.heap.size + 2) m) wr av p.vs
  ty : TyVal (Fresh (w.heap.size + 2) m) wr (.agg #[.int .i64 p.t.k, .int .i64 p.t.p, .string p.t.n, .int .i64 p.t.s, tl, tk]) p.t
  below : Below w.heap.size w wr
  low : w.heap.size + 2 ≤ m ∧ m ≤ wr.heap.size
theorem CpSt.to {w : World} {m : Nat} {p : Pr} {lv av tl tk kv : Value} {wr W : World} (h : CpSt w m p lv av tl tk kv wr) (hb : Below wr.heap.size wr W) : CpSt w m p lv av tl tk kv W := by
  have hk : Keeps (Fresh (w.heap.size + 2) m) wr W := hb.keeps'.mono (fun k hk => by have := hk.2; have := h.low.2; omega)
  exact ⟨h.own.to hb, h.res.to hb, h.strs.keep hk, h.vals.keep hk, h.ty.keep hk, below_seq h.below hb, h.low.1, Nat.le_trans h.low.2 hb.size⟩
theorem CpSt.stores {w : World} {m : Nat} {p : Pr} {lv av tl tk kv : Value} {wr : World} (h : CpSt w m p lv av tl tk kv wr) {g : Nat} (hg : m ≤ g) (vs : List Value) (o : Nat) : CpSt w m p lv av tl tk kv (wr.setCells g o vs) := by
  have hk : Keeps (Fresh (w.heap.size + 2) m) wr (wr.setCells g o vs) := keeps_setCells (fun k hk => by have := hk.2; omega) _ _
  have := h.low.1
  exact ⟨h.own.others (by omega) _ _, h.res.others (by omega) _ _, h.strs.keep hk, h.vals.keep hk, h.ty.keep hk, h.below.trans (below_setCells g (by omega) _ _ _), h.low.1, by rw [size_setCells]; exact h.low.2⟩

set_option maxHeartbeats 4000000 in
set_option maxRecDepth 100000 in
theorem pcopy_step (B : Nat → Prop) (p : Pr) (hm : p.mod) (ih : ∀ u ∈ p.ps, ∀ (v : Value) (w : World), Low B w → PrVal B w v u → Calls Tryz.prog 19 #[v] w (PrRet w u)) (v : Value) (w : World) (hB : Low B w) (hv : PrVal B w v p) :
    Calls Tryz.prog 19 #[v] w (PrRet w p) := by
  obtain ⟨lv, av, tl, tk, kv, rfl, hn, hl, ha, ht, hk⟩ := hv
  obtain ⟨la, ln, lc, rfl, _⟩ := hl.open
  obtain ⟨aa, an, ac, rfl, _⟩ := ha.open
  obtain ⟨ka, kn, kc, rfl, _⟩ := hk.open
  obtain ⟨⟨ta, tn, tc, rfl⟩, ua, un, uc, rfl⟩ := ty_slices ht
  have hm' : p.ls.length ≤ 1048576 ∧ p.vs.length ≤ 1048576 ∧ p.ps.length ≤ 65536 ∧ p.t.mod := by
    cases p; simp only [Pr.mod] at hm; exact ⟨hm.1, hm.2.1, hm.2.2.1, hm.2.2.2.1⟩
  obtain ⟨hm1, hm2, hm3, hm4⟩ := hm'
  have t0 : Twelve ((w.alloc (cell12 p (.slice la ln lc) (.slice aa an ac) (.slice ta tn tc) (.slice ua un uc) (.slice ka kn kc))).alloc zero12) w.heap.size (.int .i64 p.k) (.string p.c) (.string p.x) (.slice la ln lc) (.slice aa an ac) (.int .i64 p.t.k) (.int .i64 p.t.p) (.string p.t.n) (.int .i64 p.t.s) (.slice ta tn tc) (.slice ua un uc) (.slice ka kn kc) := (Twelve.new w _ _ _ _ _ _ _ _ _ _ _ _).to (blkBelow _ _ _)
  have t1 : Twelve ((w.alloc (cell12 p (.slice la ln lc) (.slice aa an ac) (.slice ta tn tc) (.slice ua un uc) (.slice ka kn kc))).alloc zero12) (w.heap.size + 1) (.int .i64 0) (.string ⟨#[]⟩) (.string ⟨#[]⟩) (.slice none 0 0) (.slice none 0 0) (.int .i64 0) (.int .i64 0) (.string ⟨#[]⟩) (.int .i64 0) (.slice none 0 0) (.slice none 0 0) (.slice none 0 0) := by
    have := Twelve.new (w.alloc (cell12 p (.slice la ln lc) (.slice aa an ac) (.slice ta tn tc) (.slice ua un uc) (.slice ka kn kc))) (.int .i64 0) (.string ⟨#[]⟩) (.string ⟨#[]⟩) (.slice none 0 0) (.slice none 0 0) (.int .i64 0) (.int .i64 0) (.string ⟨#[]⟩) (.int .i64 0) (.slice none 0 0) (.slice none 0 0) (.slice none 0 0)
    rwa [World.size_alloc] at this
  have hb0 : Below w.heap.size w ((w.alloc (cell12 p (.slice la ln lc) (.slice aa an ac) (.slice ta tn tc) (.slice ua un uc) (.slice ka kn kc))).alloc zero12) := ((Below.refl _ _).alloc (Nat.le_refl _) _).alloc (by simp) _
  have hs2 : ((w.alloc (cell12 p (.slice la ln lc) (.slice aa an ac) (.slice ta tn tc) (.slice ua un uc) (.slice ka kn kc))).alloc zero12).heap.size = w.heap.size + 2 := by simp
  obtain ⟨w2, hw2⟩ : ∃ w2, (w.alloc (cell12 p (.slice la ln lc) (.slice aa an ac) (.slice ta tn tc) (.slice ua un uc) (.slice ka kn kc))).alloc zero12 = w2 := ⟨_, rfl⟩
  rw [hw2] at t0 t1 hb0 hs2
  simp only [cell12, zero12] at hw2
  have HW2 := Lib.hid hw2
  have HIH := Lib.hid ih
  have HL := Lib.hid hl
  have HA := Lib.hid ha
  have HT := Lib.hid ht
  have HK := Lib.hid hk
  have HNS := Lib.hid hn
  obtain ⟨ps, hps⟩ : ∃ ps, p.ps = ps := ⟨_, rfl⟩
  rw [hps] at HK HIH hm3
  clear hl ha ht hk ih hm hw2 hn
  unfold prAgg
  go_enter Tryz.func19, Tryz.ntmps19
  go_wp2_with fail
  rw [HW2.out]
  -- the labels
  refine (strClone_any B _ p.ls hm1 w2 (HL.out.keep (hb0.keeps'.mono hB))).mono ?_
  rintro e w3 ⟨la', ln', lc', rfl, hs3, hb3⟩
  have T0 := Lib.hid ((t0.to hb3).set3 (.slice la' ln' lc'))
  have T1 := Lib.hid ((t1.to hb3).other (c := w.heap.size) (o := 3) (by omega) (.slice la' ln' lc'))
  have hz3 := hb3.size
  obtain ⟨⟨c0, c1, c2, c3, c4, c5, c6, c7, c8, c9, c10, c11⟩, hf⟩ := (t0.to hb3).cells
  have hab3 : Above (w.heap.size + 2) w3 (w3.setCell ⟨w.heap.size, 3, none⟩ (.slice la' ln' lc')) := (Above.refl _ _).set (by omega) _
  have HB3 := Lib.hid ((below_seq hb0 hb3).setCell (p := ⟨w.heap.size, 3, none⟩) (Nat.le_refl _) (.slice la' ln' lc'))
  have HS3 := Lib.hid ((hs3.mono (Fresh.mono (c := w.heap.size + 2) (d := w3.heap.size) (by omega) (Nat.le_refl _))).keep hab3.keeps)
  have hq3 : (w3.setCell ⟨w.heap.size, 3, none⟩ (.slice la' ln' lc')).heap.size = w3.heap.size := by simp
  clear hs3 hb3 t0 t1 hb0 hab3 HL
  go_wp2_with fail
  obtain ⟨w4, hw4⟩ : ∃ w4, w3.setCell ⟨w.heap.size, 3, none⟩ (.slice la' ln' lc') = w4 := ⟨_, rfl⟩
  rw [hw4] at T0 T1 HB3 HS3 hq3 ⊢
  clear hw4 c0 c1 c2 c3 c4 c5 c6 c7 c8 c9 c10 c11 hf
  -- the values
  refine (vlClone_any B _ p.vs hm2 w4 (HA.out.keep (HB3.out.keeps'.mono hB))).mono ?_
  rintro e w5 ⟨aa', an', ac', rfl, ha5, hb5⟩
  have T2 := Lib.hid ((T0.out.to hb5).set4 (.slice aa' an' ac'))
  have T3 := Lib.hid ((T1.out.to hb5).other (c := w.heap.size) (o := 4) (by omega) (.slice aa' an' ac'))
  have hz5 := hb5.size
  obtain ⟨⟨c0, c1, c2, c3, c4, c5, c6, c7, c8, c9, c10, c11⟩, hf⟩ := (T0.out.to hb5).cells
  have hab5 : Above (w.heap.size + 2) w5 (w5.setCell ⟨w.heap.size, 4, none⟩ (.slice aa' an' ac')) := (Above.refl _ _).set (by omega) _
  have HB5 := Lib.hid ((below_seq HB3.out hb5).setCell (p := ⟨w.heap.size, 4, none⟩) (Nat.le_refl _) (.slice aa' an' ac'))
  have HS5 := Lib.hid ((((HS3.out.keep (hb5.keeps'.mono (fun k hk => by have := hk.2; omega)))).mono (Fresh.mono (c := w.heap.size + 2) (d := w5.heap.size) (Nat.le_refl _) (by omega))).keep hab5.keeps)
  have HA5 := Lib.hid ((ha5.mono (Fresh.mono (c := w.heap.size + 2) (d := w5.heap.size) (by omega) (Nat.le_refl _))).keep hab5.keeps)
  have hq5 : (w5.setCell ⟨w.heap.size, 4, none⟩ (.slice aa' an' ac')).heap.size = w5.heap.size := by simp
  clear ha5 hb5 T0 T1 HB3 HS3 hab5 HA
  go_wp2_with fail
  obtain ⟨w6, hw6⟩ : ∃ w6, w5.setCell ⟨w.heap.size, 4, none⟩ (.slice aa' an' ac') = w6 := ⟨_, rfl⟩
  rw [hw6] at T2 T3 HB5 HS5 HA5 hq5 ⊢
  clear hw6 c0 c1 c2 c3 c4 c5 c6 c7 c8 c9 c10 c11 hf
  -- the type
  refine (copy_any B p.t hm4 _ w6 (hB.le HB5.out.size) (HT.out.keep (HB5.out.keeps'.mono hB))).mono ?_
  rintro e w7 ⟨ta', tn', tc', ua', un', uc', rfl, ht7, hb7⟩
  have T4 := Lib.hid ((T2.out.to hb7).setT (.int .i64 p.t.k) (.int .i64 p.t.p) (.string p.t.n) (.int .i64 p.t.s) (.slice ta' tn' tc') (.slice ua' un' uc'))
  have T5 := Lib.hid ((T3.out.to hb7).others (c := w.heap.size) (by omega) [.int .i64 p.t.k, .int .i64 p.t.p, .string p.t.n, .int .i64 p.t.s, .slice ta' tn' tc', .slice ua' un' uc'] 5)
  have hz7 := hb7.size
  obtain ⟨⟨c0, c1, c2, c3, c4, c5, c6, c7, c8, c9, c10, c11⟩, hf⟩ := (T2.out.to hb7).cells
  have hkp7 : Keeps (Fresh (w.heap.size + 2) w7.heap.size) w7 (w7.setCells w.heap.size 5 [.int .i64 p.t.k, .int .i64 p.t.p, .string p.t.n, .int .i64 p.t.s, .slice ta' tn' tc', .slice ua' un' uc']) := keeps_setCells (fun k hk => by have := hk.1; omega) _ _
  have HB7 := Lib.hid ((below_seq HB5.out hb7).trans (below_setCells w.heap.size (Nat.le_refl _) [.int .i64 p.t.k, .int .i64 p.t.p, .string p.t.n, .int .i64 p.t.s, .slice ta' tn' tc', .slice ua' un' uc'] 5 w7))
  have HS7 := Lib.hid ((((HS5.out.keep (hb7.keeps'.mono (fun k hk => by have := hk.2; omega)))).mono (Fresh.mono (c := w.heap.size + 2) (d := w7.heap.size) (Nat.le_refl _) (by omega))).keep hkp7)
  have HA7 := Lib.hid ((((HA5.out.keep (hb7.keeps'.mono (fun k hk => by have := hk.2; omega)))).mono (Fresh.mono (c := w.heap.size + 2) (d := w7.heap.size) (Nat.le_refl _) (by omega))).keep hkp7)
  have HT7 := Lib.hid ((ht7.mono (Fresh.mono (c := w.heap.size + 2) (d := w7.heap.size) (by omega) (Nat.le_refl _))).keep hkp7)
  have hq7 := size_setCells w.heap.size [.int .i64 p.t.k, .int .i64 p.t.p, .string p.t.n, .int .i64 p.t.s, .slice ta' tn' tc', .slice ua' un' uc'] 5 w7
  rw [setCells6] at T4 T5 HB7 HS7 HA7 HT7 hq7
  clear ht7 hb7 T2 T3 HB5 HS5 HA5 HT hkp7
  go_wp2_with fail
  obtain ⟨w8, hw8⟩ : ∃ w8, (((((w7.setCell ⟨w.heap.size, 5, none⟩ (.int .i64 p.t.k)).setCell ⟨w.heap.size, 5 + 1, none⟩ (.int .i64 p.t.p)).setCell ⟨w.heap.size, 5 + 2, none⟩ (.string p.t.n)).setCell ⟨w.heap.size, 5 + 3, none⟩ (.int .i64 p.t.s)).setCell ⟨w.heap.size, 5 + 4, none⟩ (.slice ta' tn' tc')).setCell ⟨w.heap.size, 5 + 5, none⟩ (.slice ua' un' uc') = w8 := ⟨_, rfl⟩
  rw [hw8] at T4 T5 HB7 HS7 HA7 HT7 hq7
  simp only [Nat.reduceAdd] at hw8
  rw [hw8]
  clear hw8 c0 c1 c2 c3 c4 c5 c6 c7 c8 c9 c10 c11 hf
  -- the Kids
  refine (prClone_any B _ ps hm3 w8 (hB.le HB7.out.size) (HK.out.keep (HB7.out.keeps'.mono hB))).mono ?_
  rintro e w9 ⟨hrow, hb9⟩
  have hrow' : ∃ ga cap, e = .returned (.slice ga ps.length cap) ∧ ((ps = [] ∧ True) ∨ ∃ g, ga = some ⟨g, 0, none⟩ ∧ w8.heap.size ≤ g ∧ g < w9.heap.size ∧ PFilled B g ps.length ps 0 w9) := by
    rcases hrow with ⟨a, c, rfl, rfl⟩ | ⟨g, cap, rfl, h1, h2, h3⟩
    · exact ⟨a, c, rfl, .inl ⟨rfl, trivial⟩⟩
    · exact ⟨_, cap, rfl, .inr ⟨g, rfl, h1, h2, h3⟩⟩
  clear hrow
  obtain ⟨ga, cap, rfl, hrow⟩ := hrow'
  obtain ⟨n, hnn⟩ : ∃ n, n = ps.length := ⟨_, rfl⟩
  rw [← hnn] at hrow hm3 ⊢
  have hz9 := hb9.size
  have S9 : CpSt w w8.heap.size p (.slice la' ln' lc') (.slice aa' an' ac') (.slice ta' tn' tc') (.slice ua' un' uc') (.slice ka kn kc) w8 := ⟨T4.out, T5.out, by rw [hq7]; exact HS7.out, by rw [hq7]; exact HA7.out, by rw [hq7]; exact HT7.out, HB7.out, by omega, Nat.le_refl _⟩
  have S10 := S9.to hb9
  have S11 : CpSt w w8.heap.size p (.slice la' ln' lc') (.slice aa' an' ac') (.slice ta' tn' tc') (.slice ua' un' uc') (.slice ga n cap) (w9.setCell ⟨w.heap.size, 11, none⟩ (.slice ga n cap)) := by
    have hk : Keeps (Fresh (w.heap.size + 2) w8.heap.size) w9 (w9.setCells w.heap.size 11 [.slice ga n cap]) := keeps_setCells (fun k hk => by have := hk.1; omega) _ _
    exact ⟨S10.own.set11 _, S10.res.other (by omega) _, S10.strs.keep hk, S10.vals.keep hk, S10.ty.keep hk, S10.below.setCell (p := ⟨w.heap.size, 11, none⟩) (Nat.le_refl _) _, S10.low.1, by simp; omega⟩
  have hrow2 : (ps = [] ∧ True) ∨ ∃ g, ga = some ⟨g, 0, none⟩ ∧ w8.heap.size ≤ g ∧ g < w9.heap.size ∧ PFilled B g n ps 0 (w9.setCell ⟨w.heap.size, 11, none⟩ (.slice ga n cap)) := by
    rcases hrow with h | ⟨g, h1, h2, h3, h4⟩
    · exact .inl h
    · refine .inr ⟨g, h1, h2, h3, h4.keep (Below.heap_setCell _ _ _ g (by simp; omega)) (by simp) ?_ ?_⟩
      · exact keeps_setCells (c := w.heap.size) (fun k hk => by have := hB k hk; omega) [.slice ga n cap] 11
      · exact keeps_setCells (c := w.heap.size) (fun k hk => by have := hk.1; omega) [.slice ga n cap] 11
  have HS := Lib.hid S11
  have HROW := Lib.hid hrow2
  have HN := Lib.hid hnn
  obtain ⟨⟨c0, c1, c2, c3, c4, c5, c6, c7, c8, c9, c10, c11⟩, hf⟩ := S10.own.cells
  clear S9 S10 S11 hrow2 hrow T4 T5 HB7 HS7 HA7 HT7 hb9 hnn HK
  go_wp2_with fail
  obtain ⟨w10, hw10⟩ : ∃ w10, w9.setCell ⟨w.heap.size, 11, none⟩ (.slice ga n cap) = w10 := ⟨_, rfl⟩
  have hz10 : w9.heap.size = w10.heap.size := by rw [← hw10]; simp
  rw [hw10] at HS HROW ⊢
  clear hw10 c0 c1 c2 c3 c4 c5 c6 c7 c8 c9 c10 c11 hf
  obtain ⟨m, hmm⟩ : ∃ m, w8.heap.size = m := ⟨_, rfl⟩
  rw [hmm] at HS HROW hz9
  go_loopw [24] (fun i wr => ∃ k : Nat, i = .int .i64 (k : Int) ∧ k ≤ n ∧ Hid (CpSt w m p (.slice la' ln' lc') (.slice aa' an' ac') (.slice ta' tn' tc') (.slice ua' un' uc') (.slice ga n cap) wr) ∧ Hid ((ps = [] ∧ True) ∨ ∃ g, ga = some ⟨g, 0, none⟩ ∧ m ≤ g ∧ g < wr.heap.size ∧ PFilled B g n ps k wr)) (fun i _ => n - (intOf i).toNat)
  case atStart => exact ⟨0, rfl, by omega, HS, Lib.hid (by rw [← hz10]; exact HROW.out)⟩
  case round =>
    clear HROW HS
    obtain ⟨k, rfl, hk, HS, HROW⟩ := hrel
    by_cases hlt : k < n
    · obtain ⟨t, htk⟩ : ∃ t, ps[k]? = some t := ⟨_, List.getElem?_eq_getElem (by rw [← HN.out]; exact hlt)⟩
      obtain ⟨g, hga, hgm, hgl, hpf⟩ : ∃ g, ga = some ⟨g, 0, none⟩ ∧ m ≤ g ∧ g < wr.heap.size ∧ PFilled B g n ps k wr := by
        rcases HROW.out with ⟨h, _⟩ | h
        · rw [h] at htk; cases htk
        · exact h
      subst hga
      obtain ⟨la2, ln2, lc2, aa2, an2, ac2, ta2, tn2, tc2, ua2, un2, uc2, ka2, kn2, kc2, ⟨d0, d1, d2, d3, d4, d5, d6, d7, d8, d9, d10, d11⟩, hval⟩ := hpf.each k t htk
      rw [if_neg (by omega)] at hval
      have hBr : Low B wr := hB.le HS.out.below.size
      have hbx := (blkBelow wr #[.int .i64 t.k, .string t.c, .string t.x, .slice la2 ln2 lc2, .slice aa2 an2 ac2, .int .i64 t.t.k, .int .i64 t.t.p, .string t.t.n, .int .i64 t.t.s, .slice ta2 tn2 tc2, .slice ua2 un2 uc2, .slice ka2 kn2 kc2] 29).drew
      have IH := Lib.hid (HIH.out t (List.mem_of_getElem? htk) _ _ (hBr.le hbx.size) (hval.to hBr hbx))
      have HPF := Lib.hid (hpf.to hBr hbx)
      have HS2 := Lib.hid (HS.out.to hbx)
      have HTK := Lib.hid htk
      have hblw := HS.out.below.size
      have hlow := HS.out.low
      have hlw0 : w.heap.size < wr.heap.size := by omega
      have hsz12 : ((wr.alloc (.cells #[.int .i64 t.k, .string t.c, .string t.x, .slice la2 ln2 lc2, .slice aa2 an2 ac2, .int .i64 t.t.k, .int .i64 t.t.p, .string t.t.n, .int .i64 t.t.s, .slice ta2 tn2 tc2, .slice ua2 un2 uc2, .slice ka2 kn2 kc2] 29)).drew).heap.size = wr.heap.size + 1 := by simp
      have c11 := HS.out.own.cells.1.2.2.2.2.2.2.2.2.2.2.2
      unfold prAgg at IH
      clear hpf hval hbx htk
      go_wp2_with fail
      go_region_with (go_at_call 19; refine IH.out.mono ?_; rintro e w11 ⟨la3, ln3, lc3, aa3, an3, ac3, ta3, tn3, tc3, ua3, un3, uc3, ka3, kn3, kc3, rfl, hv11, hb11⟩; have hpf := HPF.out.to (hBr.le (by rw [hsz12]; omega)) hb11; obtain ⟨cs, hcs, hcz⟩ := hpf.block; have hfz := frozen_of_block hcs; obtain ⟨x0, y0⟩ := cell_in hcs (j := k * 12) (by omega); obtain ⟨x1, y1⟩ := cell_in hcs (j := k * 12 + 1) (by omega); obtain ⟨x2, y2⟩ := cell_in hcs (j := k * 12 + 2) (by omega); obtain ⟨x3, y3⟩ := cell_in hcs (j := k * 12 + 3) (by omega); obtain ⟨x4, y4⟩ := cell_in hcs (j := k * 12 + 4) (by omega); obtain ⟨x5, y5⟩ := cell_in hcs (j := k * 12 + 5) (by omega); obtain ⟨x6, y6⟩ := cell_in hcs (j := k * 12 + 6) (by omega); obtain ⟨x7, y7⟩ := cell_in hcs (j := k * 12 + 7) (by omega); obtain ⟨x8, y8⟩ := cell_in hcs (j := k * 12 + 8) (by omega); obtain ⟨x9, y9⟩ := cell_in hcs (j := k * 12 + 9) (by omega); obtain ⟨x10, y10⟩ := cell_in hcs (j := k * 12 + 10) (by omega); obtain ⟨x11, y11⟩ := cell_in hcs (j := k * 12 + 11) (by omega); have z11 := (HS2.out.to hb11).own.cells.1.2.2.2.2.2.2.2.2.2.2.2; replace hcs := Lib.hid hcs)
      all_goals
        go_wp2_with fail
        have hs12 := hb11.size
        have hst := hpf.store HN.out (fun j hj => by have := hB j hj; omega) HTK.out (hv11.mono (Fresh.mono (c := g + 1) (d := w11.heap.size) (by rw [hsz12]; omega) (Nat.le_refl _)))
        have hss := (HS2.out.to hb11).stores hgm (prCellsL t (.slice la3 ln3 lc3) (.slice aa3 an3 ac3) (.slice ta3 tn3 tc3) (.slice ua3 un3 uc3) (.slice ka3 kn3 kc3)) (k * 12)
        have hgl2 : g < (w11.setCells g (k * 12) (prCellsL t (.slice la3 ln3 lc3) (.slice aa3 an3 ac3) (.slice ta3 tn3 tc3) (.slice ua3 un3 uc3) (.slice ka3 kn3 kc3))).heap.size := by rw [size_setCells]; omega
        unfold prCellsL at hst hss hgl2
        rw [setCells12] at hst hss hgl2
        go_roundw
        case rel => exact ⟨k + 1, by go_num, by omega, Lib.hid hss, Lib.hid (.inr ⟨g, rfl, hgm, hgl2, hst⟩)⟩
        case measure => simp [intOf]; omega
    · obtain rfl : k = n := by omega
      obtain ⟨⟨c0, c1, c2, c3, c4, c5, c6, c7, c8, c9, c10, c11⟩, hf⟩ := HS.out.own.cells
      obtain ⟨⟨e0, e1, e2, e3, e4, e5, e6, e7, e8, e9, e10, e11⟩, hf1⟩ := HS.out.res.cells
      have hlow := HS.out.low
      have hbl := HS.out.below
      have hfill := HS.out.res.fill (.int .i64 p.k) (.string p.c) (.string p.x) (.slice la' ln' lc') (.slice aa' an' ac') (.int .i64 p.t.k) (.int .i64 p.t.p) (.string p.t.n) (.int .i64 p.t.s) (.slice ta' tn' tc') (.slice ua' un' uc') (.slice ga k cap)
      have hkp : ∀ F : Nat → Prop, (∀ j, F j → j ≠ w.heap.size + 1) → Keeps F wr (wr.setCells (w.heap.size + 1) 0 [.int .i64 p.k, .string p.c, .string p.x, .slice la' ln' lc', .slice aa' an' ac', .int .i64 p.t.k, .int .i64 p.t.p, .string p.t.n, .int .i64 p.t.s, .slice ta' tn' tc', .slice ua' un' uc', .slice ga k cap]) := fun F hF => keeps_setCells hF _ _
      have hbb := hbl.trans (below_setCells (w.heap.size + 1) (by omega) [.int .i64 p.k, .string p.c, .string p.x, .slice la' ln' lc', .slice aa' an' ac', .int .i64 p.t.k, .int .i64 p.t.p, .string p.t.n, .int .i64 p.t.s, .slice ta' tn' tc', .slice ua' un' uc', .slice ga k cap] 0 wr)
      have hsz := size_setCells (w.heap.size + 1) [.int .i64 p.k, .string p.c, .string p.x, .slice la' ln' lc', .slice aa' an' ac', .int .i64 p.t.k, .int .i64 p.t.p, .string p.t.n, .int .i64 p.t.s, .slice ta' tn' tc', .slice ua' un' uc', .slice ga k cap] 0 wr
      have hgo : ∀ g, w.heap.size + 1 ≠ g → (wr.setCells (w.heap.size + 1) 0 [.int .i64 p.k, .string p.c, .string p.x, .slice la' ln' lc', .slice aa' an' ac', .int .i64 p.t.k, .int .i64 p.t.p, .string p.t.n, .int .i64 p.t.s, .slice ta' tn' tc', .slice ua' un' uc', .slice ga k cap]).heap[g]? = wr.heap[g]? := fun g hg => heap_setCells_other (fun e => hg e.symm) _ _ _
      rw [setCells12] at hfill hkp hbb hsz hgo
      simp only [Nat.zero_add] at hfill hkp hbb hsz hgo
      have HFI := Lib.hid hfill
      have HKP := Lib.hid hkp
      have HBB := Lib.hid hbb
      have HSZ := Lib.hid hsz
      have HGO := Lib.hid hgo
      clear hfill hkp hbb hsz hgo
      go_wp2_with fail
      obtain ⟨w12, hw12⟩ : ∃ x, ((((((((((((wr.setCell ⟨w.heap.size + 1, 0, none⟩ (.int .i64 p.k)).setCell ⟨w.heap.size + 1, 1, none⟩ (.string p.c)).setCell ⟨w.heap.size + 1, 2, none⟩ (.string p.x)).setCell ⟨w.heap.size + 1, 3, none⟩ (.slice la' ln' lc')).setCell ⟨w.heap.size + 1, 4, none⟩ (.slice aa' an' ac')).setCell ⟨w.heap.size + 1, 5, none⟩ (.int .i64 p.t.k)).setCell ⟨w.heap.size + 1, 6, none⟩ (.int .i64 p.t.p)).setCell ⟨w.heap.size + 1, 7, none⟩ (.string p.t.n)).setCell ⟨w.heap.size + 1, 8, none⟩ (.int .i64 p.t.s)).setCell ⟨w.heap.size + 1, 9, none⟩ (.slice ta' tn' tc')).setCell ⟨w.heap.size + 1, 10, none⟩ (.slice ua' un' uc')).setCell ⟨w.heap.size + 1, 11, none⟩ (.slice ga k cap)) = x := ⟨_, rfl⟩
      rw [hw12] at HFI HKP HBB HSZ HGO ⊢
      clear hw12 c0 c1 c2 c3 c4 c5 c6 c7 c8 c9 c10 c11 hf e0 e1 e2 e3 e4 e5 e6 e7 e8 e9 e10 e11 hf1
      obtain ⟨⟨f0, f1, f2, f3, f4, f5, f6, f7, f8, f9, f10, f11⟩, hf2⟩ := HFI.out.cells
      have hF := HKP.out (Fresh (w.heap.size + 2) m) (fun j hj => by have := hj.1; omega)
      have hFm : ∀ j, Fresh (w.heap.size + 2) m j → Fresh w.heap.size w12.heap.size j := Fresh.mono (by omega) (by rw [HSZ.out]; omega)
      have hpr : PrVal (Fresh w.heap.size w12.heap.size) w12 (prAgg p (.slice la' ln' lc') (.slice aa' an' ac') (.slice ta' tn' tc') (.slice ua' un' uc') (.slice ga k cap)) p := by
        refine ⟨_, _, _, _, _, rfl, HNS.out, (HS.out.strs.keep hF).mono hFm, (HS.out.vals.keep hF).mono hFm, (HS.out.ty.keep hF).mono hFm, ?_, by rw [hps, ← HN.out]; unfold maxLen; omega⟩
        rw [hps]
        rcases HROW.out with ⟨h, _⟩ | ⟨g, h, hgm, hgl, hpf⟩
        · left
          have hk0 : k = 0 := by rw [HN.out, h]; rfl
          exact ⟨⟨ga, cap, by rw [hk0]⟩, h⟩
        · right
          refine ⟨g, 0, cap, by rw [h, ← HN.out], ⟨by omega, by rw [HSZ.out]; exact hgl⟩, prsAt_of (fun i t hi => ?_)⟩
          have hik : i < k := by rw [HN.out]; exact (List.getElem?_eq_some_iff.1 hi).1
          obtain ⟨la2, ln2, lc2, aa2, an2, ac2, ta2, tn2, tc2, ua2, un2, uc2, ka2, kn2, kc2, ⟨d0, d1, d2, d3, d4, d5, d6, d7, d8, d9, d10, d11⟩, hval⟩ := hpf.each i t hi
          rw [if_pos hik] at hval
          have hc : ∀ (o : Nat) (v : Value), wr.cell? ⟨g, o, none⟩ = some v → w12.cell? ⟨g, o, none⟩ = some v := fun o v hv => by
            rw [← hv]; unfold World.cell?; simp only [HGO.out g (by omega)]
          rw [Nat.zero_add]
          exact prAt_of ⟨by omega, by rw [HSZ.out]; exact hgl⟩ (hc _ _ d0) (hc _ _ d1) (hc _ _ d2) (hc _ _ d3) (hc _ _ d4) (hc _ _ d5) (hc _ _ d6) (hc _ _ d7) (hc _ _ d8) (hc _ _ d9) (hc _ _ d10) (hc _ _ d11)
            ((hval.keep (HKP.out _ (fun j hj => by have := hj.1; omega))).mono (Fresh.mono (by omega) (by rw [HSZ.out]; exact Nat.le_refl _)))
      exact bodyPost_ret (v := (.agg #[.int .i64 p.k, .string p.c, .string p.x, .slice la' ln' lc', .slice aa' an' ac', .int .i64 p.t.k, .int .i64 p.t.p, .string p.t.n, .int .i64 p.t.s, .slice ta' tn' tc', .slice ua' un' uc', .slice ga k cap])) (by simp [results, Tryz.results19, go_sem, f0, f1, f2, f3, f4, f5, f6, f7, f8, f9, f10, f11]) rfl ⟨_, _, _, _, _, _, _, _, _, _, _, _, _, _, _, rfl, hpr, HBB.out⟩

theorem pcopy_any (B : Nat → Prop) : ∀ p : Pr, p.mod → ∀ (v : Value) (w : World), Low B w → PrVal B w v p → Calls Tryz.prog 19 #[v] w (PrRet w p) := by
  refine Pr.ind ?_
  intro k c x ls vs t ps ih hm v w hB hv
  have hm' := hm
  simp only [Pr.mod] at hm'
  exact pcopy_step B _ hm (fun u hu => ih u hu (Pr.mods_mem hm'.2.2.2.2 u hu)) v w hB hv

end Go.Proofs.YtliijbcgkkiekaaGreatDoor

/- Processes: the law's fixed processes, and what they are. -/
namespace Go.Proofs.YtliijbcgkkiekaaGreatDoor
open Go.RowKit Go.Deep Go.Shelf

abbrev bA : ByteArray := ⟨#[97]⟩
abbrev bB : ByteArray := ⟨#[98]⟩
abbrev bC : ByteArray := ⟨#[99]⟩
abbrev bD : ByteArray := ⟨#[100]⟩
def p1 : Pr := .mk 1 e0 e0 [] [] (leafT 0) []
def p2 : Pr := .mk 2 bC e0 [] [⟨1, bA, 0⟩] (leafT 0) [p1]
def p3 : Pr := .mk 6 bC bD [] [] (leafT 3) [p2]
def p4 : Pr := .mk 2 bA e0 [] [⟨1, bB, 0⟩] (leafT 0) [p3]
def pz : Pr := .mk 0 e0 e0 [] [] (leafT 0) []
def g4 : Pg := ⟨[], p4⟩
theorem size_p4 : p4.size = 4 := by rfl
theorem depth_p4 : p4.depth = 4 := by rfl
theorem p4_ne_p3 : p4 ≠ p3 := by intro h; have := congrArg Pr.k h; simp [p4, p3, Pr.k] at this
theorem leaf_few (k : Int) : (leafT k).few 300 = true := by
  have h0 : (leafT 0).few 300 = true := by decide +kernel
  exact h0
theorem good_pz : PGood pz := by
  refine ⟨?_, ?_⟩
  · simp [pz, leafT, Pr.fine, Pr.fines, Ty.fine, Ty.fines, In64]
  · simp [pz, Pr.tf, Pr.tfs, leaf_few]
theorem good_p4 : PGood p4 := by
  refine ⟨?_, ?_⟩
  · simp [p4, p3, p2, p1, leafT, Pr.fine, Pr.fines, Ty.fine, Ty.fines, In64]
  · simp [p4, p3, p2, p1, Pr.tf, Pr.tfs, leaf_few]
theorem mod_p4 : p4.mod := by simp [p4, p3, p2, p1, leafT, Pr.mod, Pr.mods, Ty.mod, Ty.mods, okI]
theorem nms_p4 : p4.nms ≤ 1000000000 := by decide
theorem ggood_g4 : GGood g4 := by
  refine ⟨by simp [g4], by simp [g4], fun p hp => ?_⟩
  have : p = p4 := by simpa [g4, Pg.bodies] using hp
  subst this
  exact ⟨good_p4, by decide, by decide⟩
theorem total_g4 : g4.total = 5 := by rw [Pg.total_eq]; rfl
theorem right_pz : prightE pz = 3 := by decide +kernel
theorem r4_leaf (k : Int) (c x : ByteArray) (ls : List ByteArray) (vs : List Vl) (ps : List Pr) (hk : k ≠ 6) : (Pr.mk k c x ls vs (leafT 0) ps).r4 = true := by
  unfold Pr.r4
  show (if k = 6 then _ else eqB (leafT 0) default) = true
  rw [if_neg hk]; exact eqB_self _
theorem ok_p1 : p1.okN = true := by
  have h : p1.r4 = true := r4_leaf _ _ _ _ _ _ (by decide)
  unfold Pr.okN Pr.shp; rw [h]; decide +kernel
theorem ok_p2 : p2.okN = true := by
  have h : p2.r4 = true := r4_leaf _ _ _ _ _ _ (by decide)
  unfold Pr.okN Pr.shp; rw [h]; decide +kernel
theorem ok_p3 : p3.okN = true := by decide +kernel
theorem ok_p4 : p4.okN = true := by
  have h : p4.r4 = true := r4_leaf _ _ _ _ _ _ (by decide)
  unfold Pr.okN Pr.shp; rw [h]; decide +kernel
theorem right_p4 : prightE p4 = 0 := by
  have h : preP 1 p4 = [(1, p4), (2, p3), (3, p2), (4, p1)] := by rfl
  have hl : p4.large = false := by decide +kernel
  unfold prightE
  rw [h, hl]
  simp [allN, ok_p1, ok_p2, ok_p3, ok_p4]
theorem free_p4 : p4.free = [bA, bB] := by decide +kernel
theorem prog_g4 : pprogE g4 = 0 := by
  have hm : g4.many = false := by unfold Pg.many; rw [total_g4]; rfl
  have hb : g4.bodies = [p4] := by rfl
  unfold pprogE
  rw [hm, hb]
  simp [firstR, right_p4, g4]

theorem nil_vls (B : Nat → Prop) (w : World) : VlSl B w (.slice none 0 0) [] := ⟨.inl ⟨⟨_, _, rfl⟩, rfl⟩, by simp [maxLen], fun s h => by cases h⟩
theorem nil_prs (B : Nat → Prop) (w : World) : PrSl B w (.slice none 0 0) [] := ⟨.inl ⟨⟨_, _, rfl⟩, rfl⟩, by simp [maxLen]⟩
theorem nil_dfs (B : Nat → Prop) (w : World) : DfSl B w (.slice none 0 0) [] := ⟨.inl ⟨⟨_, _, rfl⟩, rfl⟩, by simp [maxLen]⟩
/-- One process in a block of its own. -/
theorem prs_one {B : Nat → Prop} {W : World} {b : Nat} {p : Pr} {lv av tl tk kv : Value} (hb : B b) (hh : W.heap[b]? = some (cell12 p lv av tl tk kv)) (hv : PrVal B W (prAgg p lv av tl tk kv) p) : PrSl B W (.slice (some ⟨b, 0, none⟩) 1 1) [p] := by
  refine ⟨.inr ⟨b, 0, 1, rfl, hb, ?_⟩, by simp [maxLen]⟩
  show PrAt B W p b 0 ∧ True
  exact ⟨prAt_of hb (cell_of hh 0) (cell_of hh 1) (cell_of hh 2) (cell_of hh 3) (cell_of hh 4) (cell_of hh 5) (cell_of hh 6) (cell_of hh 7) (cell_of hh 8) (cell_of hh 9) (cell_of hh 10) (cell_of hh 11) hv, trivial⟩
theorem vls_one {B : Nat → Prop} {W : World} {b : Nat} {a : Vl} (hb : B b) (hh : W.heap[b]? = some (.cells #[.int .i64 a.k, .string a.n, .int .i64 a.x] 43)) (hn : a.n.size ≤ maxLen) : VlSl B W (.slice (some ⟨b, 0, none⟩) 1 1) [a] := by
  refine ⟨.inr ⟨b, 0, 1, rfl, hb, Nat.le_refl _, fun j x hj => ?_⟩, by simp [maxLen], fun x hx => by rw [List.mem_singleton.1 hx]; exact hn⟩
  cases j with
  | zero =>
    simp only [List.getElem?_cons_zero, Option.some.injEq] at hj
    subst hj
    exact ⟨cell_of hh 0, cell_of hh 1, cell_of hh 2⟩
  | succ j => simp at hj

abbrev sl0 : Value := .slice none 0 0
abbrev sl1 (b : Nat) : Value := .slice (some ⟨b, 0, none⟩) 1 1
/-- The nine blocks of the examples. -/
theorem made_ps (w : World) (W : World)
    (hW : (((((((((w.alloc (cell12 p1 sl0 sl0 sl0 sl0 sl0)).alloc (.cells #[.int .i64 1, .string bA, .int .i64 0] 43)).alloc (cell12 p1 sl0 sl0 sl0 sl0 sl0)).alloc (cell12 p2 sl0 (sl1 (w.heap.size + 1)) sl0 sl0 (sl1 (w.heap.size + 1 + 1)))).alloc
      (cell12 p2 sl0 (sl1 (w.heap.size + 1)) sl0 sl0 (sl1 (w.heap.size + 1 + 1)))).alloc (cell12 p3 sl0 sl0 sl0 sl0 (sl1 (w.heap.size + 1 + 1 + 1 + 1)))).alloc (.cells #[.int .i64 1, .string bB, .int .i64 0] 43)).alloc (cell12 p3 sl0 sl0 sl0 sl0 (sl1 (w.heap.size + 1 + 1 + 1 + 1)))).alloc
      (cell12 p4 sl0 (sl1 (w.heap.size + 1 + 1 + 1 + 1 + 1 + 1)) sl0 sl0 (sl1 (w.heap.size + 1 + 1 + 1 + 1 + 1 + 1 + 1)))) = W) :
    (W.heap[w.heap.size + 1 + 1 + 1 + 1 + 1]? = some (cell12 p3 sl0 sl0 sl0 sl0 (sl1 (w.heap.size + 1 + 1 + 1 + 1))) ∧ W.heap[w.heap.size + 1 + 1 + 1 + 1 + 1 + 1 + 1 + 1]? = some (cell12 p4 sl0 (sl1 (w.heap.size + 1 + 1 + 1 + 1 + 1 + 1)) sl0 sl0 (sl1 (w.heap.size + 1 + 1 + 1 + 1 + 1 + 1 + 1)))) ∧
    PLies W (prAgg p3 sl0 sl0 sl0 sl0 (sl1 (w.heap.size + 1 + 1 + 1 + 1))) p3 ∧ PLies W (prAgg p4 sl0 (sl1 (w.heap.size + 1 + 1 + 1 + 1 + 1 + 1)) sl0 sl0 (sl1 (w.heap.size + 1 + 1 + 1 + 1 + 1 + 1 + 1))) p4 ∧ Below w.heap.size w W := by
  have hs : W.heap.size = w.heap.size + 9 := by rw [← hW]; simp
  have k1 : W.heap[w.heap.size + 1]? = some (.cells #[.int .i64 1, .string bA, .int .i64 0] 43) := by rw [← hW]; simp only [heap_push, Array.getElem?_push, Array.size_push]; simp
  have k2 : W.heap[w.heap.size + 1 + 1]? = some (cell12 p1 sl0 sl0 sl0 sl0 sl0) := by rw [← hW]; simp only [heap_push, Array.getElem?_push, Array.size_push]; simp
  have k4 : W.heap[w.heap.size + 1 + 1 + 1 + 1]? = some (cell12 p2 sl0 (sl1 (w.heap.size + 1)) sl0 sl0 (sl1 (w.heap.size + 1 + 1))) := by rw [← hW]; simp only [heap_push, Array.getElem?_push, Array.size_push]; simp
  have k5 : W.heap[w.heap.size + 1 + 1 + 1 + 1 + 1]? = some (cell12 p3 sl0 sl0 sl0 sl0 (sl1 (w.heap.size + 1 + 1 + 1 + 1))) := by rw [← hW]; simp only [heap_push, Array.getElem?_push, Array.size_push]; simp
  have k6 : W.heap[w.heap.size + 1 + 1 + 1 + 1 + 1 + 1]? = some (.cells #[.int .i64 1, .string bB, .int .i64 0] 43) := by rw [← hW]; simp only [heap_push, Array.getElem?_push, Array.size_push]; simp
  have k7 : W.heap[w.heap.size + 1 + 1 + 1 + 1 + 1 + 1 + 1]? = some (cell12 p3 sl0 sl0 sl0 sl0 (sl1 (w.heap.size + 1 + 1 + 1 + 1))) := by rw [← hW]; simp only [heap_push, Array.getElem?_push, Array.size_push]; simp
  have k8 : W.heap[w.heap.size + 1 + 1 + 1 + 1 + 1 + 1 + 1 + 1]? = some (cell12 p4 sl0 (sl1 (w.heap.size + 1 + 1 + 1 + 1 + 1 + 1)) sl0 sl0 (sl1 (w.heap.size + 1 + 1 + 1 + 1 + 1 + 1 + 1))) := by rw [← hW]; simp only [heap_push, Array.getElem?_push, Array.size_push]; simp
  have hb : Below w.heap.size w W := by
    rw [← hW]
    exact (((((((((Below.refl _ _).alloc (by simp) _).alloc (by simp) _).alloc (by simp; omega) _).alloc (by simp; omega) _).alloc (by simp; omega) _).alloc (by simp; omega) _).alloc (by simp; omega) _).alloc (by simp; omega) _).alloc (by simp; omega) _
  have v1 : PLies W (prAgg p1 sl0 sl0 sl0 sl0 sl0) p1 := ⟨_, _, _, _, _, rfl, ⟨by decide, by decide⟩, nil_strs _ _, nil_vls _ _, val_leaf _ _ 0 0 0 e0 (by decide), nil_prs _ _⟩
  have v2 : PLies W (prAgg p2 sl0 (sl1 (w.heap.size + 1)) sl0 sl0 (sl1 (w.heap.size + 1 + 1))) p2 := ⟨_, _, _, _, _, rfl, ⟨by decide, by decide⟩, nil_strs _ _, vls_one (a := ⟨1, bA, 0⟩) (by omega) k1 (by decide), val_leaf _ _ 0 0 0 e0 (by decide), prs_one (by omega) k2 v1⟩
  have v3 : PLies W (prAgg p3 sl0 sl0 sl0 sl0 (sl1 (w.heap.size + 1 + 1 + 1 + 1))) p3 := ⟨_, _, _, _, _, rfl, ⟨by decide, by decide⟩, nil_strs _ _, nil_vls _ _, val_leaf _ _ 3 0 0 e0 (by decide), prs_one (by omega) k4 v2⟩
  have v4 : PLies W (prAgg p4 sl0 (sl1 (w.heap.size + 1 + 1 + 1 + 1 + 1 + 1)) sl0 sl0 (sl1 (w.heap.size + 1 + 1 + 1 + 1 + 1 + 1 + 1))) p4 := ⟨_, _, _, _, _, rfl, ⟨by decide, by decide⟩, nil_strs _ _, vls_one (a := ⟨1, bB, 0⟩) (by omega) k6 (by decide), val_leaf _ _ 0 0 0 e0 (by decide), prs_one (by omega) k7 v3⟩
  exact ⟨⟨k5, k8⟩, v3, v4, hb⟩
end Go.Proofs.YtliijbcgkkiekaaGreatDoor
