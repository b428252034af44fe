/- Unfolding by the reference: Unfold, Prio, Lowest. (and what follows from it) -/
import Derived.Test.YticdkbcfahjpnaaPt14
import Derived.Test.YticdkbcfahjpnaaPt8
import Derived.Test.YticdkbcfahjpnaaPt10
import Derived.Test.YticdkbcfahjpnaaPt2

/- Unfolding by the reference: Unfold, Prio, Lowest. -/
namespace Go.Proofs.Yticdkbcfahjpnaa
open Go.RowKit Go.Deep Go.Shelf

set_option maxHeartbeats 4000000 in
set_option maxRecDepth 100000 in
theorem runfold_any (_B : Nat → Prop) : ∀ (f : Nat) (P : Int) (t : Ty), t.rc = f → t.ch = true → 0 ≤ P → P + f * 1000000 ≤ 1000000000000 → t.bd P → ∀ (B : Nat → Prop) (v : Value) (w : World), Low B w → TyVal B w v t → Calls Try.prog 43 #[v] w (TyRet w (t.unf f)) := by
  intro f
  induction f with
  | zero =>
    intro P t hf hc h0 hP hbd B v w hB hv
    have h8 : t.k ≠ 8 := by
      obtain ⟨k, p, n, s, ls, ts⟩ := t
      intro h
      rw [show k = 8 from h, Ty.rc, if_pos rfl] at hf
      omega
    have hu : Ty.unf 0 t = t := by rw [Ty.unf]
    rw [hu]
    have hcan : t.can 0 := can_bd h0 (by omega) (by decide) _ hbd
    have hv0 := hv
    obtain ⟨lv, kv, rfl, _, hl, hk⟩ := hv
    obtain ⟨la, ln, lc, rfl, _⟩ := hl.open
    obtain ⟨ka, kn, kc, rfl, _⟩ := hk.open
    obtain ⟨W2, hW2⟩ : ∃ W2, (w.alloc (.cells #[.int .i64 t.k, .int .i64 t.p, .string t.n, .int .i64 t.s, .slice la ln lc, .slice ka kn kc] 47)).alloc (.cells #[.int .i64 0, .int .i64 0, .string ⟨#[]⟩, .int .i64 0, .slice none 0 0, .slice none 0 0] 47) = W2 := ⟨_, rfl⟩
    obtain ⟨hs2, hb2, x0, x1⟩ := two_made hW2
    have HRA : Hid (Calls Try.prog 54 #[.agg #[.int .i64 t.k, .int .i64 t.p, .string t.n, .int .i64 t.s, .slice la ln lc, .slice ka kn kc], .int .i64 0] W2 (TyRet W2 t)) := Lib.hid (by
      have h := rraise_any B 0 t hcan _ W2 (hB.le hb2.size) (hv0.to hB hb2)
      rwa [Ty.raise_0] at h)
    have HX1 : Hid (∀ W, Below W2.heap.size W2 W → Six W (w.heap.size + 1) (.int .i64 0) (.int .i64 0) (.string ⟨#[]⟩) (.int .i64 0) (.slice none 0 0) (.slice none 0 0)) := Lib.hid (fun W hW => (hW.block _ (by omega)).trans x1)
    obtain ⟨⟨d0, d1, d2, d3, d4, d5⟩, hdf⟩ := Six.cells (show Six W2 w.heap.size _ _ _ _ _ _ from x0)
    have hk8 : (t.k == 8) = false := by simpa using h8
    have HW2 := Lib.hid hW2
    have HB2 := Lib.hid hb2
    have HS2 := Lib.hid hs2
    clear hf hc h0 hP hbd hB hv0 hl hk hW2 hb2 x0 x1 hs2 hcan hu h8
    go_enter Try.func43, Try.ntmps43
    go_upto_region 1 with fail
    rw [show (w.alloc (.cells #[.int .i64 t.k, .int .i64 t.p, .string t.n, .int .i64 t.s, .slice la ln lc, .slice ka kn kc] 47)).alloc (.cells #[.int .i64 0, .int .i64 0, .string ⟨#[]⟩, .int .i64 0, .slice none 0 0, .slice none 0 0] 47) = W2 from HW2.out]
    go_upto_region 3 with fail
    go_wp2_with (go_at_call 54; go_loud (refine HRA.out.mono ?_; rintro en w3 ⟨pa, pn, pc, qa, qn, qc, rfl, hv3, hb3⟩; have HV3 := Lib.hid hv3; have HB3 := Lib.hid hb3; obtain ⟨⟨z0, z1, z2, z3, z4, z5⟩, hzf⟩ := (HX1.out w3 hb3).cells; clear hv3 hb3))
    clear z0 z1 z2 z3 z4 z5 hzf d0 d1 d2 d3 d4 d5 hdf
    obtain ⟨⟨c0, c1, c2, c3, c4, c5⟩, hcf⟩ := (Six.fill (HX1.out w3 HB3.out) (.int .i64 t.k) (.int .i64 t.p) (.string t.n) (.int .i64 t.s) (.slice pa pn pc) (.slice qa qn qc)).cells
    obtain ⟨hv4, hb4⟩ := ret_fill (c := w.heap.size + 1) HB2.out (Nat.le_succ _) (by have := HS2.out; omega) HB3.out HV3.out (.int .i64 t.k) (.int .i64 t.p) (.string t.n) (.int .i64 t.s) (.slice pa pn pc) (.slice qa qn qc)
    refine bodyPost_ret (v := .agg #[.int .i64 t.k, .int .i64 t.p, .string t.n, .int .i64 t.s, .slice pa pn pc, .slice qa qn qc]) (by simp [results, Try.results43, go_sem, c0, c1, c2, c3, c4, c5]) rfl ?_
    exact ⟨pa, pn, pc, qa, qn, qc, rfl, hv4, hb4⟩
  | succ f ihf =>
    intro P t hf hc h0 hP hbd B v w hB hv
    have h8 : t.k = 8 := by
      obtain ⟨k, p, n, s, ls, ts⟩ := t
      refine Classical.byContradiction fun h => ?_
      rw [Ty.rc, if_neg (show ¬ k = 8 from h)] at hf
      omega
    obtain ⟨b, hts, hbc, hun, hrc⟩ : ∃ b, t.ts = [b] ∧ b.ch = true ∧ t.unf (f + 1) = (Ty.put t.n t b).unf f ∧ b.rc = f := by
      obtain ⟨k, p, n, s, ls, ts⟩ := t
      obtain rfl : k = 8 := h8
      obtain ⟨b, rfl, hb⟩ := ch_8 hc
      rw [Ty.rc, if_pos rfl, Ty.rc1] at hf
      exact ⟨b, rfl, hb, by rw [Ty.unf, if_pos rfl]; rfl, by omega⟩
    have hbb : b.bd P := by
      obtain ⟨k, p, n, s, ls, ts⟩ := t
      obtain rfl : ts = [b] := hts
      simp only [Ty.bd, Ty.bds] at hbd
      exact hbd.2.2.2.2.1
    obtain ⟨_, _, hpr, hpc⟩ := put_hd t.n t b hbc
    rw [hun]
    have hv0 := hv
    obtain ⟨lv, kv, rfl, hnn, hl, hk⟩ := hv
    obtain ⟨la, ln, lc, rfl, _⟩ := hl.open
    obtain ⟨ka, kn, kc, rfl, hkl, _, hkg⟩ := hk.open
    obtain ⟨kb, ko, rfl, hkb, hty⟩ := hkg 0 b (by rw [hts]; rfl)
    have hkn : kn = 1 := by rw [hkl.out, hts]; rfl
    subst hkn
    obtain ⟨W2, hW2⟩ : ∃ W2, (w.alloc (.cells #[.int .i64 t.k, .int .i64 t.p, .string t.n, .int .i64 t.s, .slice la ln lc, .slice (some ⟨kb, ko, none⟩) 1 kc] 47)).alloc (.cells #[.int .i64 0, .int .i64 0, .string ⟨#[]⟩, .int .i64 0, .slice none 0 0, .slice none 0 0] 47) = W2 := ⟨_, rfl⟩
    obtain ⟨hs2, hb2, x0, x1⟩ := two_made hW2
    obtain ⟨ba, bn, bc, da, dn, dc, ⟨e0, e1, e2, e3, e4, e5⟩, hval⟩ := (hty.keep (hb2.keeps'.mono hB)).load'
    simp only [Nat.zero_mul, Nat.add_zero] at e0 e1 e2 e3 e4 e5
    have hkbl := hB kb hkb
    have HPU : Hid (∀ W, Below W2.heap.size W2 W → Calls Try.prog 53 #[.agg #[.int .i64 b.k, .int .i64 b.p, .string b.n, .int .i64 b.s, .slice ba bn bc, .slice da dn dc], .string t.n, .agg #[.int .i64 t.k, .int .i64 t.p, .string t.n, .int .i64 t.s, .slice la ln lc, .slice (some ⟨kb, ko, none⟩) 1 kc]] W (TyRet W (Ty.put t.n t b))) := Lib.hid (fun W hW => rput_any B t.n t P h0 (by omega) hbd b hbb _ _ W (hB.le (below_seq hb2 hW).size) (hval.to (hB.le hb2.size) hW) (hv0.to hB (below_seq hb2 hW)))
    obtain ⟨g, hg⟩ : ∃ g, Ty.put t.n t b = g := ⟨_, rfl⟩
    rw [hg] at hpr hpc HPU ⊢
    have hgb : g.bd (P + 1000000) := by rw [← hg]; exact put_bd h0 hbd b hbb
    have HIH : Hid (∀ (B : Nat → Prop) (v : Value) (w : World), Low B w → TyVal B w v g → Calls Try.prog 43 #[v] w (TyRet w (g.unf f))) := Lib.hid (fun B v w h1 h2 => ihf (P + 1000000) g (by omega) hpc (by omega) (by omega) hgb B v w h1 h2)
    obtain ⟨u, hu⟩ : ∃ u, g.unf f = u := ⟨_, rfl⟩
    rw [hu] at HIH ⊢
    have HX0 : Hid (∀ W : World, (∀ i, i ≤ w.heap.size → W.heap[i]? = W2.heap[i]?) → Six W w.heap.size (.int .i64 t.k) (.int .i64 t.p) (.string t.n) (.int .i64 t.s) (.slice la ln lc) (.slice (some ⟨kb, ko, none⟩) 1 kc)) := Lib.hid (fun W hW => (hW _ (Nat.le_refl _)).trans x0)
    have HX : Hid (∀ W, Below W2.heap.size W2 W → Six W w.heap.size (.int .i64 t.k) (.int .i64 t.p) (.string t.n) (.int .i64 t.s) (.slice la ln lc) (.slice (some ⟨kb, ko, none⟩) 1 kc) ∧ Six W (w.heap.size + 1) (.int .i64 0) (.int .i64 0) (.string ⟨#[]⟩) (.int .i64 0) (.slice none 0 0) (.slice none 0 0)) := Lib.hid (fun W hW => ⟨(hW.block _ (by omega)).trans x0, (hW.block _ (by omega)).trans x1⟩)
    have HEC : Hid (∀ W : World, (∀ i, i ≤ w.heap.size → W.heap[i]? = W2.heap[i]?) → W.cell? ⟨kb, ko, none⟩ = some (.int .i64 b.k) ∧ W.cell? ⟨kb, ko + 1, none⟩ = some (.int .i64 b.p) ∧ W.cell? ⟨kb, ko + 2, none⟩ = some (.string b.n) ∧ W.cell? ⟨kb, ko + 3, none⟩ = some (.int .i64 b.s) ∧ W.cell? ⟨kb, ko + 4, none⟩ = some (.slice ba bn bc) ∧ W.cell? ⟨kb, ko + 5, none⟩ = some (.slice da dn dc)) := Lib.hid (fun W hW => by
      have hc : ∀ i, W.cell? ⟨kb, i, none⟩ = W2.cell? ⟨kb, i, none⟩ := fun i => by simp only [World.cell?, hW kb (by omega)]
      exact ⟨(hc _).trans e0, (hc _).trans e1, (hc _).trans e2, (hc _).trans e3, (hc _).trans e4, (hc _).trans e5⟩)
    have hk8 : (t.k == 8) = true := by simpa using h8
    have HW2 := Lib.hid hW2
    have HB2 := Lib.hid hb2
    have HS2 := Lib.hid hs2
    obtain ⟨⟨d0, d1, d2, d3, d4, d5⟩, hdf⟩ := (HX.out W2 (Below.refl _ _)).1.cells
    clear hf hc h0 hP hbd hB hv0 hl hk hkl hkg hW2 hb2 x0 x1 hs2 hts hbc hun hrc hbb hpr hpc hg hgb hu hty hval hkb hkbl e0 e1 e2 e3 e4 e5 ihf h8 hnn
    go_enter Try.func43, Try.ntmps43
    go_upto_region 1 with fail
    rw [show (w.alloc (.cells #[.int .i64 t.k, .int .i64 t.p, .string t.n, .int .i64 t.s, .slice la ln lc, .slice (some ⟨kb, ko, none⟩) 1 kc] 47)).alloc (.cells #[.int .i64 0, .int .i64 0, .string ⟨#[]⟩, .int .i64 0, .slice none 0 0, .slice none 0 0] 47) = W2 from HW2.out]
    go_upto_region 2 with fail
    have HSS : Hid (∀ W : World, (∀ i, i ≤ w.heap.size → W.heap[i]? = W2.heap[i]?) → W.cell? ⟨w.heap.size, 0, none⟩ = some (.int .i64 t.k) ∧ W.cell? ⟨w.heap.size, 1, none⟩ = some (.int .i64 t.p) ∧ W.cell? ⟨w.heap.size, 2, none⟩ = some (.string t.n) ∧ W.cell? ⟨w.heap.size, 3, none⟩ = some (.int .i64 t.s) ∧ W.cell? ⟨w.heap.size, 4, none⟩ = some (.slice la ln lc) ∧ W.cell? ⟨w.heap.size, 5, none⟩ = some (.slice (some ⟨kb, ko, none⟩) 1 kc) ∧ W.cell? ⟨kb, ko, none⟩ = some (.int .i64 b.k) ∧ W.cell? ⟨kb, ko + 1, none⟩ = some (.int .i64 b.p) ∧ W.cell? ⟨kb, ko + 2, none⟩ = some (.string b.n) ∧ W.cell? ⟨kb, ko + 3, none⟩ = some (.int .i64 b.s) ∧ W.cell? ⟨kb, ko + 4, none⟩ = some (.slice ba bn bc) ∧ W.cell? ⟨kb, ko + 5, none⟩ = some (.slice da dn dc)) := Lib.hid (fun W hW => by
      obtain ⟨⟨a0, a1, a2, a3, a4, a5⟩, _⟩ := (HX0.out W hW).cells
      obtain ⟨b0, b1, b2, b3, b4, b5⟩ := HEC.out W hW
      exact ⟨a0, a1, a2, a3, a4, a5, b0, b1, b2, b3, b4, b5⟩)
    clear d0 d1 d2 d3 d4 d5 hdf
    refine wp_region_held_drew (S := fun W => W.cell? ⟨w.heap.size, 0, none⟩ = some (.int .i64 t.k) ∧ W.cell? ⟨w.heap.size, 1, none⟩ = some (.int .i64 t.p) ∧ W.cell? ⟨w.heap.size, 2, none⟩ = some (.string t.n) ∧ W.cell? ⟨w.heap.size, 3, none⟩ = some (.int .i64 t.s) ∧ W.cell? ⟨w.heap.size, 4, none⟩ = some (.slice la ln lc) ∧ W.cell? ⟨w.heap.size, 5, none⟩ = some (.slice (some ⟨kb, ko, none⟩) 1 kc) ∧ W.cell? ⟨kb, ko, none⟩ = some (.int .i64 b.k) ∧ W.cell? ⟨kb, ko + 1, none⟩ = some (.int .i64 b.p) ∧ W.cell? ⟨kb, ko + 2, none⟩ = some (.string b.n) ∧ W.cell? ⟨kb, ko + 3, none⟩ = some (.int .i64 b.s) ∧ W.cell? ⟨kb, ko + 4, none⟩ = some (.slice ba bn bc) ∧ W.cell? ⟨kb, ko + 5, none⟩ = some (.slice da dn dc)) (by kernel_rfl) (HSS.out W2 (fun _ _ => rfl)) (fun hHeld => ?_)
    refine wpAnyH_take_l 0 (v := ?v0) rfl rfl (by kernel_rfl) (by kernel_rfl) (by kernel_rfl) (fun _ _ _ h => h) ?h0 (by assumption) ?r0
    case h0 => (intro w hSw; (try dsimp only at hSw); go_simp; try rfl)
    case' r0 => simp only [setD, List.set_cons_succ, List.set_cons_zero]
    refine wpAnyH_take_l 1 (v := ?v1) rfl rfl (by kernel_rfl) (by kernel_rfl) (by kernel_rfl) (fun _ _ _ h => h) ?h1 (by assumption) ?r1
    case h1 => (intro w hSw; (try dsimp only at hSw); go_simp; try rfl)
    case' r1 => simp only [setD, List.set_cons_succ, List.set_cons_zero]
    refine wpAnyH_take_l 2 (v := ?v2) rfl rfl (by kernel_rfl) (by kernel_rfl) (by kernel_rfl) (fun _ _ _ h => h) ?h2 (by assumption) ?r2
    case h2 => (intro w hSw; (try dsimp only at hSw); go_simp; try rfl)
    case' r2 => simp only [setD, List.set_cons_succ, List.set_cons_zero]
    refine wpAnyH_take_l 3 (v := ?v3) rfl rfl (by kernel_rfl) (by kernel_rfl) (by kernel_rfl) (fun _ _ _ h => h) ?h3 (by assumption) ?r3
    case h3 => (intro w hSw; (try dsimp only at hSw); go_simp; try rfl)
    case' r3 => simp only [setD, List.set_cons_succ, List.set_cons_zero]
    refine wpAnyH_take_l 4 (v := ?v4) rfl rfl (by kernel_rfl) (by kernel_rfl) (by kernel_rfl) (fun _ _ _ h => h) ?h4 (by assumption) ?r4
    case h4 => (intro w hSw; (try dsimp only at hSw); go_simp; try rfl)
    case' r4 => simp only [setD, List.set_cons_succ, List.set_cons_zero]
    refine wpAnyH_take_l 5 (v := ?v5) rfl rfl (by kernel_rfl) (by kernel_rfl) (by kernel_rfl) (fun _ _ _ h => h) ?h5 (by assumption) ?r5
    case h5 => (intro w hSw; (try dsimp only at hSw); go_simp; try rfl)
    case' r5 => simp only [setD, List.set_cons_succ, List.set_cons_zero]
    refine wpAnyH_take_l 6 (v := ?v6) rfl rfl (by kernel_rfl) (by kernel_rfl) (by kernel_rfl) (fun _ _ _ h => h) ?h6 (by assumption) ?r6
    case h6 => (intro w hSw; (try dsimp only at hSw); go_simp; try rfl)
    case' r6 => simp only [setD, List.set_cons_succ, List.set_cons_zero]
    refine wpAnyH_one 7 rfl rfl (by kernel_rfl) (fun K hK => ?_)
    have hK2 := hK.out
    clear hK
    simp only [setD, List.set_cons_succ, List.set_cons_zero] at hK2 ⊢
    go_simp
    refine (HPU.out _ (Below.refl _ _).drew).mono ?_
    rintro en w3 ⟨pa, pn, pc, qa, qn, qc, rfl, hv3, hb3⟩
    dsimp only
    have hb23 : Below W2.heap.size W2 w3 := below_seq (Below.refl _ _).drew hb3
    have HB23 := Lib.hid hb23
    have HV3 := Lib.hid hv3
    refine hK2 _ _ (HSS.out w3 (fun i hi => hb23.block i (by have := HS2.out; omega))) (fun _ => ?_)
    clear hK2 K hb3 hv3 hb23
    refine wpAnyH_one 8 rfl rfl (by kernel_rfl) (fun K hK => ?_)
    have hK2 := hK.out
    clear hK
    simp only [setD, List.set_cons_succ, List.set_cons_zero] at hK2 ⊢
    go_simp
    refine (HIH.out _ _ w3 (fun _ h => h.2) HV3.out).mono ?_
    rintro en w4 ⟨ra, rn, rc, sa, sn, sc, rfl, hv4, hb4⟩
    dsimp only
    have hb24 : Below W2.heap.size W2 w4 := below_seq HB23.out hb4
    have HB24 := Lib.hid hb24
    have HB34 := Lib.hid hb4
    have HV4 := Lib.hid hv4
    refine hK2 _ _ (HSS.out w4 (fun i hi => hb24.block i (by have := HS2.out; omega))) (fun _ => ?_)
    obtain ⟨⟨z0, z1, z2, z3, z4, z5⟩, hzf⟩ := (HX.out w4 HB24.out).2.cells
    clear hK2 K hb4 hv4 hb24
    refine wpAnyH_one 9 rfl rfl (by kernel_rfl) (fun K hK => ?_)
    have hK2 := hK.out
    clear hK
    simp only [setD] at hK2 ⊢
    go_simp
    clear z0 z1 z2 z3 z4 z5 hzf
    have HV5 := Lib.hid (ret_fill (c := w.heap.size + 1) HB2.out (Nat.le_succ _) (by have := HS2.out; omega) HB24.out (HV4.out.mono (Fresh.mono HB23.out.size (Nat.le_refl _))) (.int .i64 u.k) (.int .i64 u.p) (.string u.n) (.int .i64 u.s) (.slice ra rn rc) (.slice sa sn sc))
    have HX5 := Lib.hid (Six.fill (HX.out w4 HB24.out).2 (.int .i64 u.k) (.int .i64 u.p) (.string u.n) (.int .i64 u.s) (.slice ra rn rc) (.slice sa sn sc))
    have HS5 := Lib.hid (HSS.out _ (fun i hi => (fill6_oth (w := w4) (g := w.heap.size + 1) (k := i) (by omega) (.int .i64 u.k) (.int .i64 u.p) (.string u.n) (.int .i64 u.s) (.slice ra rn rc) (.slice sa sn sc)).trans (HB24.out.block i (by have := HS2.out; omega))))
    obtain ⟨W5, hW5⟩ : ∃ W5, (((((w4.setCell ⟨w.heap.size + 1, 0, none⟩ (.int .i64 u.k)).setCell ⟨w.heap.size + 1, 1, none⟩ (.int .i64 u.p)).setCell ⟨w.heap.size + 1, 2, none⟩ (.string u.n)).setCell ⟨w.heap.size + 1, 3, none⟩ (.int .i64 u.s)).setCell ⟨w.heap.size + 1, 4, none⟩ (.slice ra rn rc)).setCell ⟨w.heap.size + 1, 5, none⟩ (.slice sa sn sc) = W5 := ⟨_, rfl⟩
    rw [hW5] at HV5 HX5 HS5 ⊢
    refine hK2 undef W5 HS5.out (fun _ => ?_)
    clear hK2 K hW5
    refine wpAnyH_done (by kernel_rfl) ?_ _
    clear hHeld
    obtain ⟨⟨c0, c1, c2, c3, c4, c5⟩, hcf⟩ := HX5.out.cells
    go_wp2_with fail
    refine bodyPost_ret (v := .agg #[.int .i64 u.k, .int .i64 u.p, .string u.n, .int .i64 u.s, .slice ra rn rc, .slice sa sn sc]) (by simp [results, Try.results43, go_sem, c0, c1, c2, c3, c4, c5]) rfl ?_
    exact ⟨ra, rn, rc, sa, sn, sc, rfl, HV5.out.1, HV5.out.2⟩

/-! ### The priority of a type -/
def priR : Option Int → Value
  | some p => .tuple #[.int .i64 p, .bool true]
  | none => .tuple #[.int .i64 0, .bool false]
/-- What is asked of a type that is unfolded. -/
def Ty.ufo (t : Ty) : Prop := t.ch = true ∧ t.bd 1000000 ∧ t.rc ≤ 10000
theorem ufo_of {t : Ty} (h : nodeR [] 0 false t = 0) (hs : t.size ≤ 1000) : t.ufo :=
  ⟨ch_of t (okg_of t [] 0 false h hs) (real_of t [] false h), bd_of t [] 0 false h (by omega), by have := rc_depth t; omega⟩
theorem unfold_any (t : Ty) (h : t.ufo) (B : Nat → Prop) (v : Value) (w : World) (hB : Low B w) (hv : TyVal B w v t) : Calls Try.prog 43 #[v] w (TyRet w (t.unf t.rc)) :=
  runfold_any B t.rc 1000000 t rfl h.1 (by decide) (by have := h.2.2; omega) h.2.1 B v w hB hv
set_option maxHeartbeats 4000000 in
set_option maxRecDepth 100000 in
theorem rprio08_any (t : Ty) (h : t.ufo) (B : Nat → Prop) (v : Value) (w : World) (hB : Low B w) (hv : TyVal B w v t) :
    Calls Try.prog 33 #[v] w fun e w' => e = .returned (priR t.pri) ∧ Below w.heap.size w w' := by
  obtain ⟨hk8, hp8⟩ := unf_hd t.rc t rfl h.1
  obtain ⟨u, hu⟩ : ∃ u, t.unf t.rc = u := ⟨_, rfl⟩
  rw [hu] at hk8 hp8
  have hv0 := hv
  obtain ⟨lv, kv, rfl, _, hl, hk⟩ := hv
  obtain ⟨la, ln, lc, rfl, _⟩ := hl.open
  obtain ⟨ka, kn, kc, rfl, _⟩ := hk.open
  obtain ⟨W1, hW1⟩ : ∃ W1, w.alloc (.cells #[.int .i64 t.k, .int .i64 t.p, .string t.n, .int .i64 t.s, .slice la ln lc, .slice ka kn kc] 47) = W1 := ⟨_, rfl⟩
  have hb1 : Below w.heap.size w W1 := by rw [← hW1]; exact blkBelow w _ _
  have x1 : Six W1 w.heap.size (.int .i64 t.k) (.int .i64 t.p) (.string t.n) (.int .i64 t.s) (.slice la ln lc) (.slice ka kn kc) := by rw [← hW1]; exact Six.new _ _ _ _ _ _ _
  have HU : Hid (Calls Try.prog 43 #[.agg #[.int .i64 t.k, .int .i64 t.p, .string t.n, .int .i64 t.s, .slice la ln lc, .slice ka kn kc]] W1 (TyRet W1 u)) := Lib.hid (by
    have h1 := unfold_any t h B _ W1 (hB.le hb1.size) (hv0.to hB hb1)
    rwa [hu] at h1)
  obtain ⟨⟨d0, d1, d2, d3, d4, d5⟩, _⟩ := x1.cells
  have hpr : t.pri = if actI u.k = true then some u.p else none := by rw [Ty.pri, hk8, hp8]
  obtain ⟨yk, hyk⟩ : ∃ x, u.k = x := ⟨_, rfl⟩
  obtain ⟨yp, hyp⟩ : ∃ x, u.p = x := ⟨_, rfl⟩
  obtain ⟨yn, hyn⟩ : ∃ x, u.n = x := ⟨_, rfl⟩
  obtain ⟨ys, hys⟩ : ∃ x, u.s = x := ⟨_, rfl⟩
  rw [hyk, hyp] at hpr
  obtain ⟨q, hq⟩ : ∃ q, t.pri = q := ⟨_, rfl⟩
  rw [hq] at hpr ⊢
  have HY := Lib.hid (And.intro hyk (And.intro hyp (And.intro hyn hys)))
  have HW1 := Lib.hid hW1
  have HB1 := Lib.hid hb1
  clear h hB hv0 hl hk hu hk8 hp8 hW1 hb1 x1 hyk hyp hyn hys hq
  go_enter Try.func33, Try.ntmps33
  go_upto_region 1 with fail
  rw [show w.alloc (.cells #[.int .i64 t.k, .int .i64 t.p, .string t.n, .int .i64 t.s, .slice la ln lc, .slice ka kn kc] 47) = W1 from HW1.out]
  go_upto_region 2 with (go_at_call 43; go_loud (refine HU.out.mono ?_; rintro en w3 ⟨pa, pn, pc, qa, qn, qc, rfl, _, hb3⟩; rw [HY.out.1, HY.out.2.1, HY.out.2.2.1, HY.out.2.2.2]; have HB3 := Lib.hid hb3; clear hb3))
  clear d0 d1 d2 d3 d4 d5
  obtain ⟨W4, hW4⟩ : ∃ W4, w3.alloc (.cells #[.int .i64 yk, .int .i64 yp, .string yn, .int .i64 ys, .slice pa pn pc, .slice qa qn qc] 47) = W4 := ⟨_, rfl⟩
  have hx4 : Six W4 w3.heap.size (.int .i64 yk) (.int .i64 yp) (.string yn) (.int .i64 ys) (.slice pa pn pc) (.slice qa qn qc) := by rw [← hW4]; exact Six.new _ _ _ _ _ _ _
  have HB4 : Hid (Below w.heap.size w W4) := Lib.hid (by rw [← hW4]; exact below_seq HB1.out (below_seq HB3.out (blkBelow w3 _ _)))
  obtain ⟨⟨d0, d1, d2, d3, d4, d5⟩, _⟩ := hx4.cells
  rw [hW4]
  clear hx4 hW4 HY HU
  by_cases h4 : 4 ≤ yk
  · by_cases h7 : yk ≤ 7
    · have ha : actI yk = true := by simp [actI, h4, h7]
      rw [if_pos ha] at hpr
      subst hpr
      have e1 : decide (4 ≤ yk) = true := by simpa using h4
      have e2 : decide (yk ≤ 7) = true := by simpa using h7
      clear ha
      go_wp2_with fail
      go_ret2
      exact ⟨rfl, HB4.out⟩
    · have ha : ¬ actI yk = true := by simp [actI, h4, h7]
      rw [if_neg ha] at hpr
      subst hpr
      have e1 : decide (4 ≤ yk) = true := by simpa using h4
      have e2 : decide (yk ≤ 7) = false := by simpa using h7
      clear ha
      go_wp2_with fail
      go_ret2
      exact ⟨rfl, HB4.out⟩
  · have ha : ¬ actI yk = true := by simp [actI, h4]
    rw [if_neg ha] at hpr
    subst hpr
    have e1 : decide (4 ≤ yk) = false := by simpa using h4
    clear ha
    go_wp2_with fail
    go_ret2
    exact ⟨rfl, HB4.out⟩

/-! ### .. and the least one -/
theorem pris_snoc {ts : List Ty} {j : Nat} {t : Ty} (h : ts[j]? = some t) : (ts.take (j + 1)).filterMap Ty.pri = (ts.take j).filterMap Ty.pri ++ t.pri.toList := by
  rw [take_snoc_get h, List.filterMap_append]
  cases e : t.pri <;> simp [e]
set_option maxHeartbeats 4000000 in
set_option maxRecDepth 100000 in
theorem rlowest_any (ts : List Ty) (h : ∀ t ∈ ts, t.ufo) (B : Nat → Prop) (v : Value) (w : World) (hB : Low B w) (hv : TySl B w v ts) :
    Calls Try.prog 36 #[v] w fun e w' => e = .returned (lowV (ts.filterMap Ty.pri)) ∧ Below w.heap.size w w' := by
  obtain ⟨pa, len, c, rfl, hlen, hmx, hget⟩ := hv.open
  have HG : Hid (∀ (j : Nat) (t : Ty), ts[j]? = some t → ∃ kb ko, pa = some ⟨kb, ko, none⟩ ∧ ∃ la ln lc ka kn kc, ∀ W, Below w.heap.size w W → (W.cell? ⟨kb, ko + j * 6, none⟩ = some (.int .i64 t.k) ∧ W.cell? ⟨kb, ko + j * 6 + 1, none⟩ = some (.int .i64 t.p) ∧ W.cell? ⟨kb, ko + j * 6 + 2, none⟩ = some (.string t.n) ∧ W.cell? ⟨kb, ko + j * 6 + 3, none⟩ = some (.int .i64 t.s) ∧ W.cell? ⟨kb, ko + j * 6 + 4, none⟩ = some (.slice la ln lc) ∧ W.cell? ⟨kb, ko + j * 6 + 5, none⟩ = some (.slice ka kn kc)) ∧
      Calls Try.prog 33 #[.agg #[.int .i64 t.k, .int .i64 t.p, .string t.n, .int .i64 t.s, .slice la ln lc, .slice ka kn kc]] W fun e w' => e = .returned (priR t.pri) ∧ Below W.heap.size W w') := Lib.hid (fun j t hj => by
    obtain ⟨kb, ko, e, hkb, hty⟩ := hget j t hj
    obtain ⟨la, ln, lc, ka, kn, kc, ⟨e0, e1, e2, e3, e4, e5⟩, hval⟩ := hty.load'
    have hl := hB kb hkb
    exact ⟨kb, ko, e, la, ln, lc, ka, kn, kc, fun W hW => ⟨⟨(hW.cell (p := ⟨kb, _, none⟩) hl).trans e0, (hW.cell (p := ⟨kb, _, none⟩) hl).trans e1, (hW.cell (p := ⟨kb, _, none⟩) hl).trans e2, (hW.cell (p := ⟨kb, _, none⟩) hl).trans e3, (hW.cell (p := ⟨kb, _, none⟩) hl).trans e4, (hW.cell (p := ⟨kb, _, none⟩) hl).trans e5⟩, rprio08_any t (h t (List.mem_of_getElem? hj)) B _ W (hB.le hW.size) (hval.to hB hW)⟩⟩)
  have HL : Hid (len = ts.length) := Lib.hid hlen.out
  clear hget hv hlen h hB
  go_enter Try.func36, Try.ntmps36
  go_wp2_with fail
  go_loopw [4, 5, 6] (fun mv sv i wr => ∃ (j : Nat) (l : List Int), i = .int .i64 j ∧ j ≤ len ∧ mv = .int .i64 (minF l) ∧ sv = .bool (!l.isEmpty) ∧ Hid (l = (ts.take j).filterMap Ty.pri) ∧ Hid (Below w.heap.size w wr)) (fun _ _ i _ => len - (intOf i).toNat)
  case atStart => exact ⟨0, [], rfl, Nat.zero_le _, rfl, rfl, Lib.hid rfl, Lib.hid (Below.refl _ _)⟩
  case round =>
    obtain ⟨j, l, rfl, hj, rfl, rfl, HLL, HBW⟩ := hrel
    by_cases hlt : j < len
    · obtain ⟨t, ht⟩ : ∃ t, ts[j]? = some t := ⟨_, List.getElem?_eq_getElem (by rw [← HL.out]; exact hlt)⟩
      obtain ⟨kb, ko, rfl, la, ln, lc, ka, kn, kc, hW⟩ := HG.out j t ht
      obtain ⟨⟨d0, d1, d2, d3, d4, d5⟩, hC⟩ := hW wr HBW.out
      have HC := Lib.hid hC
      have HSN : Hid ((ts.take (j + 1)).filterMap Ty.pri = l ++ t.pri.toList) := Lib.hid (by rw [HLL.out]; exact pris_snoc ht)
      obtain ⟨yk, hyk⟩ : ∃ x, t.k = x := ⟨_, rfl⟩
      obtain ⟨yp, hyp⟩ : ∃ x, t.p = x := ⟨_, rfl⟩
      obtain ⟨yn, hyn⟩ : ∃ x, t.n = x := ⟨_, rfl⟩
      obtain ⟨ys, hys⟩ : ∃ x, t.s = x := ⟨_, rfl⟩
      rw [hyk] at d0 HC
      rw [hyp] at d1 HC
      rw [hyn] at d2 HC
      rw [hys] at d3 HC
      clear hW hC ht hyk hyp hyn hys
      cases hp : t.pri with
      | none =>
        rw [hp] at HC HSN
        clear hp
        unfold priR at HC
        go_wp2_with (go_at_call 33; go_loud (refine HC.out.mono ?_; rintro en w3 ⟨rfl, hb3⟩; have HB3 := Lib.hid hb3; clear hb3 d0 d1 d2 d3 d4 d5))
        go_roundw
        case rel => exact ⟨j + 1, l, by go_num, by omega, rfl, rfl, Lib.hid (by rw [HSN.out]; simp), Lib.hid (below_seq HBW.out HB3.out)⟩
        case measure => simp [intOf]; omega
      | some p =>
        rw [hp] at HC HSN
        clear hp
        unfold priR at HC
        have hmn := minF_snoc l p
        have HSM : Hid ((!(l ++ [p]).isEmpty) = true) := Lib.hid (by simp)
        cases hle : l.isEmpty with
        | true =>
          rw [hle, if_pos rfl] at hmn
          have HMN := Lib.hid hmn
          clear hmn
          go_wp2_with (go_at_call 33; go_loud (refine HC.out.mono ?_; rintro en w3 ⟨rfl, hb3⟩; have HB3 := Lib.hid hb3; clear hb3 d0 d1 d2 d3 d4 d5))
          go_roundw
          case rel => exact ⟨j + 1, l ++ [p], by go_num, by omega, by rw [HMN.out], by rw [HSM.out], Lib.hid (by rw [HSN.out]; simp), Lib.hid (below_seq HBW.out HB3.out)⟩
          case measure => simp [intOf]; omega
        | false =>
          rw [hle, if_neg (by decide)] at hmn
          obtain ⟨m, hm⟩ : ∃ m, minF l = m := ⟨_, rfl⟩
          rw [hm] at hmn ⊢
          have HMN := Lib.hid hmn
          have HM0 := Lib.hid hm
          have HLE := Lib.hid hle
          clear hmn hm
          by_cases hlt2 : p < m
          · have e1 : decide (p < m) = true := by simpa using hlt2
            go_wp2_with (go_at_call 33; go_loud (refine HC.out.mono ?_; rintro en w3 ⟨rfl, hb3⟩; have HB3 := Lib.hid hb3; clear hb3 d0 d1 d2 d3 d4 d5))
            go_roundw
            case rel => exact ⟨j + 1, l ++ [p], by go_num, by omega, by rw [HMN.out, Int.min_eq_right (by omega)], by rw [HSM.out], Lib.hid (by rw [HSN.out]; simp), Lib.hid (below_seq HBW.out HB3.out)⟩
            case measure => simp [intOf]; omega
          · have e1 : decide (p < m) = false := by simpa using hlt2
            go_wp2_with (go_at_call 33; go_loud (refine HC.out.mono ?_; rintro en w3 ⟨rfl, hb3⟩; have HB3 := Lib.hid hb3; clear hb3 d0 d1 d2 d3 d4 d5))
            go_roundw
            case rel => exact ⟨j + 1, l ++ [p], by go_num, by omega, by rw [HMN.out, Int.min_eq_left (by omega)], by first | rw [HSM.out, HLE.out] | rw [HSM.out], Lib.hid (by rw [HSN.out]; simp), Lib.hid (below_seq HBW.out HB3.out)⟩
            case measure => simp [intOf]; omega
    · obtain rfl : j = len := by omega
      have HLF : Hid (ts.filterMap Ty.pri = l) := Lib.hid (by rw [HLL.out, List.take_of_length_le (by rw [HL.out]; exact Nat.le_refl _)])
      go_wp2_with fail
      go_ret2
      exact ⟨by rw [HLF.out]; rfl, HBW.out⟩
end Go.Proofs.Yticdkbcfahjpnaa

/- Contexts: the reference's entries: IsLive, Find, Split, Lowest. -/
namespace Go.Proofs.Yticdkbcfahjpnaa
open Go.RowKit Go.Deep Go.Shelf

/-- An entry of the reference with the two slices of its type. -/
structure PV where
  m : Pm
  la : Option Addr
  ln : Nat
  lc : Nat
  ka : Option Addr
  kn : Nat
  kc : Nat
abbrev tyC (p : PV) : List Value := [.int .i64 p.m.t.k, .int .i64 p.m.t.p, .string p.m.t.n, .int .i64 p.m.t.s, .slice p.la p.ln p.lc, .slice p.ka p.kn p.kc]
abbrev pvC (p : PV) : List Value := [.string p.m.n, .int .i64 p.m.t.k, .int .i64 p.m.t.p, .string p.m.t.n, .int .i64 p.m.t.s, .slice p.la p.ln p.lc, .slice p.ka p.kn p.kc]
abbrev tyV (p : PV) : Value := .agg #[.int .i64 p.m.t.k, .int .i64 p.m.t.p, .string p.m.t.n, .int .i64 p.m.t.s, .slice p.la p.ln p.lc, .slice p.ka p.kn p.kc]
/-- An entry of the reference lies from cell o of block b on. -/
def PvAt (w : World) (b o : Nat) (p : PV) : Prop := w.cell? ⟨b, o, none⟩ = some (.string p.m.n) ∧ w.cell? ⟨b, o + 1, none⟩ = some (.int .i64 p.m.t.k) ∧ w.cell? ⟨b, o + 2, none⟩ = some (.int .i64 p.m.t.p) ∧ w.cell? ⟨b, o + 3, none⟩ = some (.string p.m.t.n) ∧ w.cell? ⟨b, o + 4, none⟩ = some (.int .i64 p.m.t.s) ∧ w.cell? ⟨b, o + 5, none⟩ = some (.slice p.la p.ln p.lc) ∧ w.cell? ⟨b, o + 6, none⟩ = some (.slice p.ka p.kn p.kc)
/-- Entries of the reference, in this world and later. -/
structure PvSl (w : World) (pa : Option Addr) (len : Nat) (ps : List PV) : Prop where
  len : len = ps.length
  at_ : ∀ (j : Nat) (p : PV), ps[j]? = some p → p.m.n.size ≤ maxLen ∧ ∃ kb ko, pa = some ⟨kb, ko, none⟩ ∧ kb < w.heap.size ∧ ∀ W, Below w.heap.size w W → PvAt W kb (ko + j * 7) p ∧ TyVal (fun k => k < w.heap.size) W (tyV p) p.m.t
theorem PmSl.pv {w : World} {v : Value} {ms : List Pm} (h : PmSl (fun k => k < w.heap.size) w v ms) : ∃ pa len c ps, v = .slice pa len c ∧ len ≤ 9223372036854775807 ∧ ps.map PV.m = ms ∧ PvSl w pa len ps := by
  obtain ⟨pa, len, c, rfl, hlen, hmx, hget⟩ := h.open
  obtain ⟨ps, hn, hps⟩ := choose_list (fun j (p : PV) => ms[j]? = some p.m ∧ p.m.n.size ≤ maxLen ∧ ∃ kb ko, pa = some ⟨kb, ko, none⟩ ∧ kb < w.heap.size ∧ ∀ W, Below w.heap.size w W → PvAt W kb (ko + j * 7) p ∧ TyVal (fun k => k < w.heap.size) W (tyV p) p.m.t) ms.length (fun j hj => by
    obtain ⟨a, ha⟩ : ∃ a, ms[j]? = some a := ⟨_, List.getElem?_eq_getElem hj⟩
    obtain ⟨kb, ko, e, hkb, hns, hnm, hty⟩ := hget j a ha
    obtain ⟨la, ln, lc, ka, kn, kc, ⟨e0, e1, e2, e3, e4, e5⟩, hval⟩ := hty.load'
    refine ⟨⟨a, la, ln, lc, ka, kn, kc⟩, ha, hns, kb, ko, e, hkb, fun W hW => ?_⟩
    have hc : ∀ i, W.cell? ⟨kb, i, none⟩ = w.cell? ⟨kb, i, none⟩ := fun i => hW.cell (p := ⟨kb, i, none⟩) hkb
    exact ⟨⟨(hc _).trans hnm, (hc _).trans e0, (hc _).trans e1, (hc _).trans e2, (hc _).trans e3, (hc _).trans e4, (hc _).trans e5⟩, hval.keep (hW.keeps'.mono (fun k hk => hk))⟩)
  refine ⟨pa, len, c, ps, rfl, hmx, ?_, ⟨by rw [hlen.out, hn], fun j p hj => (hps j p hj).2⟩⟩
  refine List.ext_getElem? fun j => ?_
  rw [List.getElem?_map]
  cases hp : ps[j]? with
  | none =>
    have : ms.length ≤ j := by rw [← hn]; exact List.getElem?_eq_none_iff.1 hp
    rw [List.getElem?_eq_none this]; rfl
  | some p => exact (hps j p hp).1.symm
theorem PvSl.to {w w' : World} {pa : Option Addr} {len : Nat} {ps : List PV} (h : PvSl w pa len ps) (hb : Below w.heap.size w w') : PvSl w' pa len ps :=
  ⟨h.len, fun j p hj => by
    obtain ⟨h0, kb, ko, e, hkb, hW⟩ := h.at_ j p hj
    refine ⟨h0, kb, ko, e, Nat.lt_of_lt_of_le hkb hb.size, fun W hW' => ?_⟩
    obtain ⟨h1, h2⟩ := hW W (below_seq hb hW')
    exact ⟨h1, h2.mono (fun k hk => Nat.lt_of_lt_of_le hk hb.size)⟩⟩

/-! ### IsLive -/
set_option maxHeartbeats 2000000 in
theorem isLive_any (t : Ty) (h : t.ufo) (B : Nat → Prop) (v : Value) (w : World) (hB : Low B w) (hv : TyVal B w v t) :
    Calls Try.prog 16 #[v] w fun e w' => e = .returned (.bool t.pri.isSome) ∧ Below w.heap.size w w' := by
  have hv0 := hv
  obtain ⟨lv, kv, rfl, _, hl, hk⟩ := hv
  obtain ⟨la, ln, lc, rfl, _⟩ := hl.open
  obtain ⟨ka, kn, kc, rfl, _⟩ := hk.open
  obtain ⟨W1, hW1⟩ : ∃ W1, w.alloc (.cells #[.int .i64 t.k, .int .i64 t.p, .string t.n, .int .i64 t.s, .slice la ln lc, .slice ka kn kc] 47) = W1 := ⟨_, rfl⟩
  have hb1 : Below w.heap.size w W1 := by rw [← hW1]; exact blkBelow w _ _
  have x1 : Six W1 w.heap.size (.int .i64 t.k) (.int .i64 t.p) (.string t.n) (.int .i64 t.s) (.slice la ln lc) (.slice ka kn kc) := by rw [← hW1]; exact Six.new _ _ _ _ _ _ _
  have HP := Lib.hid (rprio08_any t h B _ W1 (hB.le hb1.size) (hv0.to hB hb1))
  obtain ⟨⟨d0, d1, d2, d3, d4, d5⟩, _⟩ := x1.cells
  obtain ⟨yk, hyk⟩ : ∃ x, t.k = x := ⟨_, rfl⟩
  obtain ⟨yp, hyp⟩ : ∃ x, t.p = x := ⟨_, rfl⟩
  obtain ⟨yn, hyn⟩ : ∃ x, t.n = x := ⟨_, rfl⟩
  obtain ⟨ys, hys⟩ : ∃ x, t.s = x := ⟨_, rfl⟩
  rw [hyk, hyp, hyn, hys] at hW1 HP ⊢
  rw [hyk] at d0
  rw [hyp] at d1
  rw [hyn] at d2
  rw [hys] at d3
  obtain ⟨q, hq⟩ : ∃ q, t.pri = q := ⟨_, rfl⟩
  rw [hq] at HP ⊢
  have HW1 := Lib.hid hW1
  have HB1 := Lib.hid hb1
  clear h hB hv0 hl hk hW1 hb1 x1 hyk hyp hyn hys hq
  cases q with
  | none =>
    unfold priR at HP
    go_enter Try.func16, Try.ntmps16
    go_upto_region 1 with fail
    rw [show w.alloc (.cells #[.int .i64 yk, .int .i64 yp, .string yn, .int .i64 ys, .slice la ln lc, .slice ka kn kc] 47) = W1 from HW1.out]
    go_wp2_with (go_at_call 33; go_loud (refine HP.out.mono ?_; rintro en w3 ⟨rfl, hb3⟩; have HB3 := Lib.hid hb3; clear hb3))
    go_ret
    exact ⟨rfl, below_seq HB1.out HB3.out⟩
  | some p =>
    unfold priR at HP
    go_enter Try.func16, Try.ntmps16
    go_upto_region 1 with fail
    rw [show w.alloc (.cells #[.int .i64 yk, .int .i64 yp, .string yn, .int .i64 ys, .slice la ln lc, .slice ka kn kc] 47) = W1 from HW1.out]
    go_wp2_with (go_at_call 33; go_loud (refine HP.out.mono ?_; rintro en w3 ⟨rfl, hb3⟩; have HB3 := Lib.hid hb3; clear hb3))
    go_ret
    exact ⟨rfl, below_seq HB1.out HB3.out⟩

/-! ### Find -/
def pvIs (nm : ByteArray) (p : PV) : Bool := decide (p.m.n = nm)
def zTy : Value := .agg #[.int .i64 0, .int .i64 0, .string ⟨#[]⟩, .int .i64 0, .slice none 0 0, .slice none 0 0]
/-- What Find of the reference answers. -/
def pvR : Option PV → Value
  | some p => .tuple #[tyV p, .bool true]
  | none => .tuple #[zTy, .bool false]
theorem findp_of {ps : List PV} {f : PV → Bool} {j : Nat} {p : PV} (h : ∀ (k : Nat) (p : PV), k < j → ps[k]? = some p → f p = false) (he : ps[j]? = some p) (hp : f p = true) : ps.find? f = some p := by
  induction ps generalizing j with
  | nil => simp at he
  | cons x r ih =>
    rw [List.find?_cons]
    cases j with
    | zero =>
      obtain rfl : x = p := by simpa using he
      rw [hp]
    | succ j =>
      rw [h 0 x (by omega) rfl]
      exact ih (fun k q hk hq => h (k + 1) q (Nat.succ_lt_succ hk) (by simpa using hq)) (by simpa using he)
theorem findp_no {ps : List PV} {f : PV → Bool} (h : ∀ (k : Nat) (p : PV), ps[k]? = some p → f p = false) : ps.find? f = none := by
  rw [List.find?_eq_none]
  intro x hx
  obtain ⟨k, hk⟩ := List.getElem?_of_mem hx
  simp [h k x hk]
set_option maxHeartbeats 4000000 in
set_option maxRecDepth 100000 in
theorem rfind13_any (ps : List PV) (nm : ByteArray) (pa : Option Addr) (len c : Nat) (w : World) (hk : PvSl w pa len ps) (hmx : len ≤ 9223372036854775807) :
    Calls Try.prog 19 #[.slice pa len c, .string nm] w fun e w' => e = .returned (pvR (ps.find? (pvIs nm))) ∧ Below w.heap.size w w' := by
  obtain ⟨W1, hW1⟩ : ∃ W1, w.alloc (.cells #[.int .i64 0, .int .i64 0, .string ⟨#[]⟩, .int .i64 0, .slice none 0 0, .slice none 0 0] 47) = W1 := ⟨_, rfl⟩
  have hb1 : Below w.heap.size w W1 := by rw [← hW1]; exact blkBelow w _ _
  have x1 : Six W1 w.heap.size (.int .i64 0) (.int .i64 0) (.string ⟨#[]⟩) (.int .i64 0) (.slice none 0 0) (.slice none 0 0) := by rw [← hW1]; exact Six.new _ _ _ _ _ _ _
  have HG : Hid (∀ (j : Nat) (p : PV), ps[j]? = some p → ∃ kb ko, pa = some ⟨kb, ko, none⟩ ∧ PvAt W1 kb (ko + j * 7) p) := Lib.hid (fun j p hj => by
    obtain ⟨_, kb, ko, e, _, hW⟩ := hk.at_ j p hj
    exact ⟨kb, ko, e, (hW W1 hb1).1⟩)
  have HX := Lib.hid x1
  have HW1 := Lib.hid hW1
  have HB1 := Lib.hid hb1
  have HL : Hid (len = ps.length) := Lib.hid hk.len
  obtain ⟨q, hq⟩ : ∃ q, ps.find? (pvIs nm) = q := ⟨_, rfl⟩
  rw [hq]
  have HQ := Lib.hid hq
  clear hk hW1 hb1 x1 hq
  go_enter Try.func19, Try.ntmps19
  go_upto_region 1 with fail
  rw [show w.alloc (.cells #[.int .i64 0, .int .i64 0, .string ⟨#[]⟩, .int .i64 0, .slice none 0 0, .slice none 0 0] 47) = W1 from HW1.out]
  go_wp2_with fail
  go_loopw [6] (fun i wr => ∃ j : Nat, i = .int .i64 j ∧ j ≤ len ∧ Hid (∀ (k : Nat) (p : PV), k < j → ps[k]? = some p → pvIs nm p = false) ∧ wr = W1) (fun i _ => len - (intOf i).toNat)
  case atStart => exact ⟨0, rfl, Nat.zero_le _, Lib.hid (fun k e hk => by omega), rfl⟩
  case round =>
    obtain ⟨j, rfl, hj, HA, rfl⟩ := hrel
    obtain ⟨⟨z0, z1, z2, z3, z4, z5⟩, hzf⟩ := HX.out.cells
    by_cases hlt : j < len
    · obtain ⟨p, hp⟩ : ∃ p, ps[j]? = some p := ⟨_, List.getElem?_eq_getElem (by rw [← HL.out]; exact hlt)⟩
      obtain ⟨kb, ko, rfl, d0, d1, d2, d3, d4, d5, d6⟩ := HG.out j p hp
      have HT := Lib.hid hp
      obtain ⟨yk, hyk⟩ : ∃ x, p.m.t.k = x := ⟨_, rfl⟩
      obtain ⟨yp, hyp⟩ : ∃ x, p.m.t.p = x := ⟨_, rfl⟩
      obtain ⟨yn, hyn⟩ : ∃ x, p.m.t.n = x := ⟨_, rfl⟩
      obtain ⟨ys, hys⟩ : ∃ x, p.m.t.s = x := ⟨_, rfl⟩
      have HTV : Hid (tyV p = .agg #[.int .i64 yk, .int .i64 yp, .string yn, .int .i64 ys, .slice p.la p.ln p.lc, .slice p.ka p.kn p.kc]) := Lib.hid (by rw [← hyk, ← hyp, ← hyn, ← hys])
      rw [hyk] at d1
      rw [hyp] at d2
      rw [hyn] at d3
      rw [hys] at d4
      obtain ⟨pn, hpn⟩ : ∃ x, p.m.n = x := ⟨_, rfl⟩
      rw [hpn] at d0
      clear hp hyk hyp hyn hys
      by_cases hen : pn = nm
      · have HRR : Hid (q = some p) := Lib.hid (by rw [← HQ.out]; exact findp_of HA.out HT.out (by simp [pvIs, hpn, hen]))
        rw [hen] at d0
        clear hen hpn
        go_wp2_with fail
        clear z0 z1 z2 z3 z4 z5 hzf
        obtain ⟨⟨u0, u1, u2, u3, u4, u5⟩, _⟩ := (Six.fill HX.out (.int .i64 yk) (.int .i64 yp) (.string yn) (.int .i64 ys) (.slice p.la p.ln p.lc) (.slice p.ka p.kn p.kc)).cells
        refine bodyPost_ret (v := .tuple #[.agg #[.int .i64 yk, .int .i64 yp, .string yn, .int .i64 ys, .slice p.la p.ln p.lc, .slice p.ka p.kn p.kc], .bool true]) (by simp [results, Try.results19, go_sem, u0, u1, u2, u3, u4, u5]) rfl ?_
        exact ⟨by rw [HRR.out, pvR, HTV.out], below_fill HB1.out (Nat.le_refl _) _ _ _ _ _ _⟩
      · have h1 := str_ne hen
        have h2 : (pn.toList == nm.toList) = false := by simpa using h1
        have HE : Hid (pvIs nm p = false) := Lib.hid (by simpa [pvIs, hpn] using hen)
        clear hen hpn
        go_wp2_with fail
        go_roundw
        case rel => exact ⟨j + 1, by go_num, by omega, Lib.hid (fun k x hk hx => by
          rcases Nat.lt_succ_iff_lt_or_eq.1 hk with h | rfl
          · exact HA.out k x h hx
          · obtain rfl := Option.some.inj (HT.out.symm.trans hx); exact HE.out), by trivial⟩
        case measure => simp [intOf]; omega
    · obtain rfl : j = len := by omega
      have HRR : Hid (q = none) := Lib.hid (by rw [← HQ.out]; exact findp_no (fun k e hk => HA.out k e (by rw [HL.out]; exact (List.getElem?_eq_some_iff.1 hk).1) hk))
      go_wp2_with fail
      clear z0 z1 z2 z3 z4 z5 hzf
      obtain ⟨⟨u0, u1, u2, u3, u4, u5⟩, _⟩ := (Six.fill HX.out (.int .i64 0) (.int .i64 0) (.string ⟨#[]⟩) (.int .i64 0) (.slice none 0 0) (.slice none 0 0)).cells
      refine bodyPost_ret (v := .tuple #[zTy, .bool false]) (by simp [results, Try.results19, go_sem, u0, u1, u2, u3, u4, u5, zTy]) rfl ?_
      exact ⟨by rw [HRR.out]; rfl, below_fill HB1.out (Nat.le_refl _) _ _ _ _ _ _⟩
end Go.Proofs.Yticdkbcfahjpnaa

/- Contexts: the reference's Split and Lowest. -/
namespace Go.Proofs.Yticdkbcfahjpnaa
open Go.RowKit Go.Deep Go.Shelf

theorem rentElem : ElemOf 32 49 7 := elemOf Try.underlying32 (z := .agg #[.string ⟨#[]⟩, .int .i64 0, .int .i64 0, .string ⟨#[]⟩, .int .i64 0, .slice none 0 0, .slice none 0 0]) (bytes := 104) (by kernel_rfl) (by decide) rfl (by decide)
theorem typElem : ElemOf 45 47 6 := elemOf Try.underlying45 (z := .agg #[.int .i64 0, .int .i64 0, .string ⟨#[]⟩, .int .i64 0, .slice none 0 0, .slice none 0 0]) (bytes := 88) (by kernel_rfl) (by decide) rfl (by decide)
theorem one_pv (p : PV) : ∀ e ∈ [pvC p], ∀ u ∈ e, u.oneCell' = true := by
  intro e he u hu
  rw [List.mem_singleton.1 he] at hu
  simp only [pvC, List.mem_cons, List.not_mem_nil, or_false] at hu
  rcases hu with rfl | rfl | rfl | rfl | rfl | rfl | rfl <;> rfl
theorem one_ty (p : PV) : ∀ e ∈ [tyC p], ∀ u ∈ e, u.oneCell' = true := by
  intro e he u hu
  rw [List.mem_singleton.1 he] at hu
  simp only [tyC, List.mem_cons, List.not_mem_nil, or_false] at hu
  rcases hu with rfl | rfl | rfl | rfl | rfl | rfl <;> rfl
/-- A row of types, read. -/
theorem GRow.tysOf {base : Nat} {w : World} {v : Value} {qs : List PV} (h : GRow 47 6 base w v (qs.map tyC)) (hl : qs.length ≤ maxLen) (hv : ∀ q ∈ qs, TyVal (fun k => k < w.heap.size) w (tyV q) q.m.t) : TySl (fun k => k < w.heap.size) w v (qs.map (fun q => q.m.t)) := by
  refine ⟨?_, by rw [List.length_map]; exact hl⟩
  rcases h.parts with ⟨rfl, h0⟩ | ⟨g, cap, rfl, h1, h2, _, _⟩
  · exact .inl ⟨⟨_, _, rfl⟩, by simpa using h0⟩
  · refine .inr ⟨g, 0, cap, by rw [List.length_map, List.length_map], h2, tysAt_of (fun j t hj => ?_)⟩
    rw [List.getElem?_map] at hj
    obtain ⟨q, hq, rfl⟩ := Option.map_eq_some_iff.1 hj
    have hes : (qs.map tyC)[j]? = some (tyC q) := by rw [List.getElem?_map, hq]; rfl
    have hc : ∀ i u, (tyC q)[i]? = some u → w.cell? ⟨g, j * 6 + i, none⟩ = some u := fun i u hu => by
      obtain ⟨_, _, e1, c0⟩ := h.cell hes hu
      simp only [Value.slice.injEq, Option.some.injEq, Addr.mk.injEq, and_true] at e1
      rw [e1.1]; exact c0
    rw [Nat.zero_add]
    exact tyAt_of h2 (hc 0 _ rfl) (hc 1 _ rfl) (hc 2 _ rfl) (hc 3 _ rfl) (hc 4 _ rfl) (hc 5 _ rfl) (hv q (List.mem_of_getElem? hq))
theorem filter_snoc {α : Type} {f : α → Bool} {l : List α} {j : Nat} {x : α} (h : l[j]? = some x) : (l.take (j + 1)).filter f = (l.take j).filter f ++ (if f x = true then [x] else []) := by
  rw [take_snoc_get h, List.filter_append]
  cases hp : f x <;> simp [hp]

/-- Two rows in different blocks: one is grown. -/
theorem two_app {el : TypeId} {sz base : Nat} {w w' : World} {vx vy vx' : Value} {ey : List (List Value)} (hy : GRow el sz base w vy ey) (hne : ∀ k, vx.ownBlock = some k → vy.ownBlock ≠ some k) (hg : w.grownBy w' vx.ownBlock) {n : Nat} (ho : vx'.ownBlock = vx.ownBlock ∨ vx'.ownBlock = some n) (hn : w.heap.size ≤ n) : GRow el sz base w' vy ey ∧ ∀ k, vx'.ownBlock = some k → vy.ownBlock ≠ some k := by
  refine ⟨hy.kept (fun k hk => hg.block k (hy.lt k hk).2 (fun e => hne k e.symm hk)), fun k h1 h2 => ?_⟩
  rcases ho with h | h
  · exact hne k (h.symm.trans h1) h2
  · have := (hy.lt k h2).2
    rw [h] at h1
    cases h1
    omega

/-! ### Split -/
def inA (ls : List ByteArray) (p : PV) : Bool := !p.m.t.pri.isSome || memB p.m.n ls
def inB' (ls : List ByteArray) (p : PV) : Bool := !p.m.t.pri.isSome || !memB p.m.n ls
set_option maxHeartbeats 8000000 in
set_option maxRecDepth 100000 in
theorem rsplit_any (ps : List PV) (ls : List ByteArray) (pa : Option Addr) (len c : Nat) (sv : Value) (w : World) (hk : PvSl w pa len ps) (hu : ∀ p ∈ ps, p.m.t.ufo) (hs : StrSl (fun k => k < w.heap.size) w sv ls) (hlen : len ≤ 1000000) :
    Calls Try.prog 14 #[.slice pa len c, sv] w fun e w' => ∃ a n c' a' n' c'', e = .returned (.tuple #[.slice a n c', .slice a' n' c'']) ∧ GRow 49 7 w.heap.size w' (.slice a n c') ((ps.filter (inA ls)).map pvC) ∧ GRow 49 7 w.heap.size w' (.slice a' n' c'') ((ps.filter (inB' ls)).map pvC) ∧ Below w.heap.size w w' := by
  have HG : Hid (∀ (j : Nat) (p : PV), ps[j]? = some p → ∃ kb ko, pa = some ⟨kb, ko, none⟩ ∧ ∀ W, Below w.heap.size w W → PvAt W kb (ko + j * 7) p ∧ Calls Try.prog 16 #[tyV p] W fun e w' => e = .returned (.bool p.m.t.pri.isSome) ∧ Below W.heap.size W w') := Lib.hid (fun j p hj => by
    obtain ⟨_, kb, ko, e, _, hW⟩ := hk.at_ j p hj
    refine ⟨kb, ko, e, fun W hb => ⟨(hW W hb).1, isLive_any _ (hu p (List.mem_of_getElem? hj)) _ _ W (fun k hk => hk) ((hW W hb).2.mono (fun k hk => Nat.lt_of_lt_of_le hk hb.size))⟩⟩)
  have HIN : Hid (∀ (s : ByteArray) (W : World), Below w.heap.size w W → Calls Try.prog 32 #[.string s, sv] W fun e w' => e = .returned (.bool (memB s ls)) ∧ W = w') := Lib.hid (fun s W hW => prin_any _ s sv ls W (hs.keep (hW.keeps'.mono (fun k hk => hk))))
  have HL : Hid (len = ps.length) := Lib.hid hk.len
  obtain ⟨sa, sn, sc, rfl, _⟩ := hs.open
  clear hk hu hs
  go_enter Try.func14, Try.ntmps14
  go_wp2_with fail
  go_loopw [6, 7, 8] (fun av bv i wr => ∃ (j : Nat) (xa : Option Addr) (xn xc : Nat) (ya : Option Addr) (yn yc : Nat), i = .int .i64 j ∧ j ≤ len ∧ av = .slice xa xn xc ∧ bv = .slice ya yn yc ∧ Hid (GRow 49 7 w.heap.size wr (.slice xa xn xc) (((ps.take j).filter (inA ls)).map pvC)) ∧ Hid (GRow 49 7 w.heap.size wr (.slice ya yn yc) (((ps.take j).filter (inB' ls)).map pvC)) ∧ Hid (∀ k, (Value.slice xa xn xc).ownBlock = some k → (Value.slice ya yn yc).ownBlock ≠ some k) ∧ Hid (Below w.heap.size w wr)) (fun _ _ i _ => len - (intOf i).toNat)
  case atStart => exact ⟨0, none, 0, 0, none, 0, 0, rfl, Nat.zero_le _, rfl, rfl, Lib.hid (by simpa using GRow.nil _ _ _ _), Lib.hid (by simpa using GRow.nil _ _ _ _), Lib.hid (fun k h => by cases h), Lib.hid (Below.refl _ _)⟩
  case round =>
    obtain ⟨j, xa, xn, xc, ya, yn, yc, rfl, hj, rfl, rfl, HRX, HRY, HNE, HBW⟩ := hrel
    by_cases hlt : j < len
    · obtain ⟨p, hp⟩ : ∃ p, ps[j]? = some p := ⟨_, List.getElem?_eq_getElem (by rw [← HL.out]; exact hlt)⟩
      obtain ⟨kb, ko, rfl, hW⟩ := HG.out j p hp
      obtain ⟨⟨d0, d1, d2, d3, d4, d5, d6⟩, hC⟩ := hW wr HBW.out
      have HFA : Hid ((ps.take (j + 1)).filter (inA ls) = (ps.take j).filter (inA ls) ++ (if inA ls p = true then [p] else [])) := Lib.hid (filter_snoc hp)
      have HFB : Hid ((ps.take (j + 1)).filter (inB' ls) = (ps.take j).filter (inB' ls) ++ (if inB' ls p = true then [p] else [])) := Lib.hid (filter_snoc hp)
      have hlr : (((ps.take j).filter (inA ls)).map pvC).length ≤ 1000000 ∧ (((ps.take j).filter (inB' ls)).map pvC).length ≤ 1000000 := by
        have h1 := List.length_filter_le (inA ls) (ps.take j)
        have h2 := List.length_filter_le (inB' ls) (ps.take j)
        rw [List.length_take] at h1 h2
        rw [List.length_map, List.length_map]
        exact ⟨by omega, by omega⟩
      obtain ⟨ra, hra⟩ : ∃ r, ((ps.take j).filter (inA ls)).map pvC = r := ⟨_, rfl⟩
      obtain ⟨rb, hrb⟩ : ∃ r, ((ps.take j).filter (inB' ls)).map pvC = r := ⟨_, rfl⟩
      have HFA' : Hid (((ps.take (j + 1)).filter (inA ls)).map pvC = ra ++ (if inA ls p = true then [pvC p] else [])) := Lib.hid (by
        rw [HFA.out, List.map_append, hra]; cases inA ls p <;> simp)
      have HFB' : Hid (((ps.take (j + 1)).filter (inB' ls)).map pvC = rb ++ (if inB' ls p = true then [pvC p] else [])) := Lib.hid (by
        rw [HFB.out, List.map_append, hrb]; cases inB' ls p <;> simp)
      rw [hra] at HRX hlr
      rw [hrb] at HRY hlr
      obtain ⟨yk, hyk⟩ : ∃ x, p.m.t.k = x := ⟨_, rfl⟩
      obtain ⟨yp, hyp⟩ : ∃ x, p.m.t.p = x := ⟨_, rfl⟩
      obtain ⟨yn, hyn⟩ : ∃ x, p.m.t.n = x := ⟨_, rfl⟩
      obtain ⟨ys, hys⟩ : ∃ x, p.m.t.s = x := ⟨_, rfl⟩
      obtain ⟨pn, hpn⟩ : ∃ x, p.m.n = x := ⟨_, rfl⟩
      have HTC : Hid (pvC p = [.string pn, .int .i64 yk, .int .i64 yp, .string yn, .int .i64 ys, .slice p.la p.ln p.lc, .slice p.ka p.kn p.kc]) := Lib.hid (by rw [pvC, hyk, hyp, hyn, hys, hpn])
      obtain ⟨L, hL⟩ : ∃ L, p.m.t.pri.isSome = L := ⟨_, rfl⟩
      obtain ⟨M, hM⟩ : ∃ M, memB pn ls = M := ⟨_, rfl⟩
      have HIA : Hid (inA ls p = (!L || M)) := Lib.hid (by rw [inA, hL, hpn, hM])
      have HIB : Hid (inB' ls p = (!L || !M)) := Lib.hid (by rw [inB', hL, hpn, hM])
      have HCL : Hid (Calls Try.prog 16 #[.agg #[.int .i64 yk, .int .i64 yp, .string yn, .int .i64 ys, .slice p.la p.ln p.lc, .slice p.ka p.kn p.kc]] wr fun e w' => e = .returned (.bool L) ∧ Below wr.heap.size wr w') := Lib.hid (by
        have h := hC
        rw [hL] at h
        rw [← hyk, ← hyp, ← hyn, ← hys]; exact h)
      rw [hpn] at d0
      rw [hyk] at d1
      rw [hyp] at d2
      rw [hyn] at d3
      rw [hys] at d4
      have HLR := Lib.hid hlr
      have HM := Lib.hid hM
      have HPN := Lib.hid hpn
      have HRD : Hid (∀ W, Below w.heap.size w W → W.cell? ⟨kb, ko + j * 7, none⟩ = some (.string pn) ∧ W.cell? ⟨kb, ko + j * 7 + 1, none⟩ = some (.int .i64 yk) ∧ W.cell? ⟨kb, ko + j * 7 + 2, none⟩ = some (.int .i64 yp) ∧ W.cell? ⟨kb, ko + j * 7 + 3, none⟩ = some (.string yn) ∧ W.cell? ⟨kb, ko + j * 7 + 4, none⟩ = some (.int .i64 ys) ∧ W.cell? ⟨kb, ko + j * 7 + 5, none⟩ = some (.slice p.la p.ln p.lc) ∧ W.cell? ⟨kb, ko + j * 7 + 6, none⟩ = some (.slice p.ka p.kn p.kc)) := Lib.hid (fun W hb => by
        have h := (hW W hb).1
        rw [PvAt, hpn, hyk, hyp, hyn, hys] at h
        exact h)
      clear hW hC hp hlr hra hrb hyk hyp hyn hys hL hM hpn HFA HFB
      go_upto_region 8 with (first | (go_at_call 16; go_loud (refine HCL.out.mono ?_; rintro en w3 ⟨rfl, hb3⟩; have HB3 := Lib.hid (below_seq HBW.out hb3); have HRX3 := Lib.hid (HRX.out.to hb3); have HRY3 := Lib.hid (HRY.out.to hb3); obtain ⟨q0, q1, q2, q3, q4, q5, q6⟩ := HRD.out w3 HB3.out; have HIM := Lib.hid (HIN.out pn w3 HB3.out); clear hb3 d0 d1 d2 d3 d4 d5 d6)) | (go_at_call 32; go_loud (refine HIM.out.mono ?_; rintro en w4 ⟨rfl, rfl⟩)))
      rw [HM.out]
      cases L with
      | false =>
        go_upto_region 9 with fail
        go_wp2_with (at_builtin; refine wpList_appG rentElem rfl _ _ rfl rfl (HRX3.out.alloc _) (some ⟨w3.heap.size, 0, none⟩) 1 1 [pvC p] rfl rfl (by intro e' he'; rw [List.mem_singleton.1 he']; rfl) (src_one (cs := pvC p) (by rw [HTC.out]; exact World.alloc_heap_new _ _)) (one_pv _) ?_ ?_ ?_)
        · have := HLR.out.1
          simp only [List.length_singleton]
          omega
        · have := HB3.out.size
          simp
          omega
        · intro ga gn gc w5 hrow hgrow hown
          have hb : Below w.heap.size w w5 := (HB3.out.alloc HB3.out.size _).grown hgrow (by have := HB3.out.size; simp; omega) (fun k hk => (HRX3.out.lt k hk).1)
          have h2 := two_app (HRY3.out.alloc _) HNE.out hgrow hown (by simp)
          obtain ⟨r0, r1, r2, r3, r4, r5, r6⟩ := HRD.out w5 hb
          have HRN := Lib.hid hrow
          have HRY5 := Lib.hid h2.1
          have HNE5 := Lib.hid h2.2
          have HBN := Lib.hid hb
          clear hrow hb hgrow hown h2 q0 q1 q2 q3 q4 q5 q6
          go_upto_region 11 with fail
          go_wp2_with (at_builtin; refine wpList_appG rentElem rfl _ _ rfl rfl (HRY5.out.alloc _) (some ⟨w5.heap.size, 0, none⟩) 1 1 [pvC p] rfl rfl (by intro e' he'; rw [List.mem_singleton.1 he']; rfl) (src_one (cs := pvC p) (by rw [HTC.out]; exact World.alloc_heap_new _ _)) (one_pv _) ?_ ?_ ?_)
          · have := HLR.out.2
            simp only [List.length_singleton]
            omega
          · have := HBN.out.size
            simp
            omega
          · intro gb gm gd w7 hrow hgrow hown
            have hb : Below w.heap.size w w7 := (HBN.out.alloc HBN.out.size _).grown hgrow (by have := HBN.out.size; simp; omega) (fun k hk => (HRY5.out.lt k hk).1)
            have h2 := two_app (HRN.out.alloc _) (fun k h1 h2 => HNE5.out k h2 h1) hgrow hown (by simp)
            have HRY7 := Lib.hid hrow
            have HRX7 := Lib.hid h2.1
            have HNE7 : Hid (∀ k, (Value.slice ga gn gc).ownBlock = some k → (Value.slice gb gm gd).ownBlock ≠ some k) := Lib.hid (fun k h1 h3 => h2.2 k h3 h1)
            have HB7 := Lib.hid hb
            clear hrow hb hgrow hown h2 r0 r1 r2 r3 r4 r5 r6
            go_wp2_with fail
            go_roundw
            case rel => exact ⟨j + 1, _, _, _, _, _, _, by go_num, by omega, rfl, rfl, Lib.hid (by rw [HFA'.out, HIA.out, if_pos (by simp)]; exact HRX7.out), Lib.hid (by rw [HFB'.out, HIB.out, if_pos (by simp)]; exact HRY7.out), HNE7, HB7⟩
            case measure => simp [intOf]; omega
      | true =>
        cases M with
        | true =>
          go_upto_region 9 with fail
          go_wp2_with (at_builtin; refine wpList_appG rentElem rfl _ _ rfl rfl (HRX3.out.alloc _) (some ⟨w3.heap.size, 0, none⟩) 1 1 [pvC p] rfl rfl (by intro e' he'; rw [List.mem_singleton.1 he']; rfl) (src_one (cs := pvC p) (by rw [HTC.out]; exact World.alloc_heap_new _ _)) (one_pv _) ?_ ?_ ?_)
          · have := HLR.out.1
            simp only [List.length_singleton]
            omega
          · have := HB3.out.size
            simp
            omega
          · intro ga gn gc w5 hrow hgrow hown
            have hb : Below w.heap.size w w5 := (HB3.out.alloc HB3.out.size _).grown hgrow (by have := HB3.out.size; simp; omega) (fun k hk => (HRX3.out.lt k hk).1)
            have h2 := two_app (HRY3.out.alloc _) HNE.out hgrow hown (by simp)
            have HRN := Lib.hid hrow
            have HRY5 := Lib.hid h2.1
            have HNE5 := Lib.hid h2.2
            have HBN := Lib.hid hb
            clear hrow hb hgrow hown h2 q0 q1 q2 q3 q4 q5 q6
            go_wp2_with fail
            go_roundw
            case rel => exact ⟨j + 1, _, _, _, _, _, _, by go_num, by omega, rfl, rfl, Lib.hid (by rw [HFA'.out, HIA.out, if_pos (by simp)]; exact HRN.out), Lib.hid (by rw [HFB'.out, HIB.out, if_neg (by simp), List.append_nil]; exact HRY5.out), HNE5, HBN⟩
            case measure => simp [intOf]; omega
        | false =>
          go_upto_region 11 with fail
          go_wp2_with (at_builtin; refine wpList_appG rentElem rfl _ _ rfl rfl (HRY3.out.alloc _) (some ⟨w3.heap.size, 0, none⟩) 1 1 [pvC p] rfl rfl (by intro e' he'; rw [List.mem_singleton.1 he']; rfl) (src_one (cs := pvC p) (by rw [HTC.out]; exact World.alloc_heap_new _ _)) (one_pv _) ?_ ?_ ?_)
          · have := HLR.out.2
            simp only [List.length_singleton]
            omega
          · have := HB3.out.size
            simp
            omega
          · intro gb gm gd w7 hrow hgrow hown
            have hb : Below w.heap.size w w7 := (HB3.out.alloc HB3.out.size _).grown hgrow (by have := HB3.out.size; simp; omega) (fun k hk => (HRY3.out.lt k hk).1)
            have h2 := two_app (HRX3.out.alloc _) (fun k h1 h2 => HNE.out k h2 h1) hgrow hown (by simp)
            have HRY7 := Lib.hid hrow
            have HRX7 := Lib.hid h2.1
            have HNE7 : Hid (∀ k, (Value.slice xa xn xc).ownBlock = some k → (Value.slice gb gm gd).ownBlock ≠ some k) := Lib.hid (fun k h1 h3 => h2.2 k h3 h1)
            have HB7 := Lib.hid hb
            clear hrow hb hgrow hown h2 q0 q1 q2 q3 q4 q5 q6
            go_wp2_with fail
            go_roundw
            case rel => exact ⟨j + 1, _, _, _, _, _, _, by go_num, by omega, rfl, rfl, Lib.hid (by rw [HFA'.out, HIA.out, if_neg (by simp), List.append_nil]; exact HRX7.out), Lib.hid (by rw [HFB'.out, HIB.out, if_pos (by simp)]; exact HRY7.out), HNE7, HB7⟩
            case measure => simp [intOf]; omega
    · obtain rfl : j = len := by omega
      go_wp2_with fail
      go_ret2
      have h1 := HRX.out
      have h2 := HRY.out
      rw [List.take_of_length_le (by rw [HL.out]; exact Nat.le_refl _)] at h1 h2
      exact ⟨_, _, _, _, _, _, rfl, h1, h2, HBW.out⟩

/-! ### Lowest -/
set_option maxHeartbeats 8000000 in
set_option maxRecDepth 100000 in
theorem rlowest13_any (ps : List PV) (nm : ByteArray) (pa : Option Addr) (len c : Nat) (w : World) (hk : PvSl w pa len ps) (hu : ∀ p ∈ ps, p.m.t.ufo) (hlen : len ≤ 1000000) :
    Calls Try.prog 21 #[.slice pa len c, .string nm] w fun e w' => e = .returned (lowV (((ps.filter (fun p => !pvIs nm p)).map (fun q => q.m.t)).filterMap Ty.pri)) ∧ Below w.heap.size w w' := by
  have HG : Hid (∀ (j : Nat) (p : PV), ps[j]? = some p → ∃ kb ko, pa = some ⟨kb, ko, none⟩ ∧ ∀ W, Below w.heap.size w W → PvAt W kb (ko + j * 7) p ∧ TyVal (fun k => k < w.heap.size) W (tyV p) p.m.t) := Lib.hid (fun j p hj => by
    obtain ⟨_, kb, ko, e, _, hW⟩ := hk.at_ j p hj
    exact ⟨kb, ko, e, hW⟩)
  have HL : Hid (len = ps.length) := Lib.hid hk.len
  have HU := Lib.hid hu
  clear hk hu
  go_enter Try.func21, Try.ntmps21
  go_wp2_with fail
  go_loopw [6, 7] (fun rv i wr => ∃ (j : Nat) (xa : Option Addr) (xn xc : Nat), i = .int .i64 j ∧ j ≤ len ∧ rv = .slice xa xn xc ∧ Hid (GRow 47 6 w.heap.size wr (.slice xa xn xc) (((ps.take j).filter (fun p => !pvIs nm p)).map tyC)) ∧ Hid (Below w.heap.size w wr)) (fun _ i _ => len - (intOf i).toNat)
  case atStart => exact ⟨0, none, 0, 0, rfl, Nat.zero_le _, rfl, Lib.hid (by simpa using GRow.nil _ _ _ _), Lib.hid (Below.refl _ _)⟩
  case round =>
    obtain ⟨j, xa, xn, xc, rfl, hj, rfl, HRW, HBW⟩ := hrel
    by_cases hlt : j < len
    · obtain ⟨p, hp⟩ : ∃ p, ps[j]? = some p := ⟨_, List.getElem?_eq_getElem (by rw [← HL.out]; exact hlt)⟩
      obtain ⟨kb, ko, rfl, hW⟩ := HG.out j p hp
      obtain ⟨⟨d0, d1, d2, d3, d4, d5, d6⟩, _⟩ := hW wr HBW.out
      have HFA : Hid (((ps.take (j + 1)).filter (fun p => !pvIs nm p)).map tyC = ((ps.take j).filter (fun p => !pvIs nm p)).map tyC ++ (if pvIs nm p = true then [] else [tyC p])) := Lib.hid (by
        rw [filter_snoc hp, List.map_append]
        cases hh : pvIs nm p <;> simp)
      have hlr : (((ps.take j).filter (fun p => !pvIs nm p)).map tyC).length ≤ 1000000 := by
        have h1 := List.length_filter_le (fun p => !pvIs nm p) (ps.take j)
        rw [List.length_take] at h1
        rw [List.length_map]; omega
      obtain ⟨rr, hrr⟩ : ∃ rr, ((ps.take j).filter (fun p => !pvIs nm p)).map tyC = rr := ⟨_, rfl⟩
      rw [hrr] at HRW HFA hlr
      obtain ⟨yk, hyk⟩ : ∃ x, p.m.t.k = x := ⟨_, rfl⟩
      obtain ⟨yp, hyp⟩ : ∃ x, p.m.t.p = x := ⟨_, rfl⟩
      obtain ⟨yn, hyn⟩ : ∃ x, p.m.t.n = x := ⟨_, rfl⟩
      obtain ⟨ys, hys⟩ : ∃ x, p.m.t.s = x := ⟨_, rfl⟩
      obtain ⟨pn, hpn⟩ : ∃ x, p.m.n = x := ⟨_, rfl⟩
      have HTC : Hid (tyC p = [.int .i64 yk, .int .i64 yp, .string yn, .int .i64 ys, .slice p.la p.ln p.lc, .slice p.ka p.kn p.kc]) := Lib.hid (by rw [tyC, hyk, hyp, hyn, hys])
      rw [hpn] at d0
      rw [hyk] at d1
      rw [hyp] at d2
      rw [hyn] at d3
      rw [hys] at d4
      have HLR := Lib.hid hlr
      clear hW hp hlr hrr hyk hyp hyn hys
      by_cases hen : pn = nm
      · have HE : Hid (pvIs nm p = true) := Lib.hid (by simp [pvIs, hpn, hen])
        rw [hen] at d0
        clear hen hpn
        go_wp2_with fail
        go_roundw
        case rel => exact ⟨j + 1, _, _, _, by go_num, by omega, rfl, Lib.hid (by rw [HFA.out, HE.out, if_pos rfl, List.append_nil]; exact HRW.out), HBW⟩
        case measure => simp [intOf]; omega
      · have h1 := str_ne hen
        have h2 : (pn.toList == nm.toList) = false := by simpa using h1
        have h3 : (pn.toList != nm.toList) = true := by simpa using h2
        have HE : Hid (pvIs nm p = false) := Lib.hid (by simpa [pvIs, hpn] using hen)
        clear hen hpn
        go_upto_region 6 with fail
        go_wp2_with (at_builtin; refine wpList_appG typElem rfl _ _ rfl rfl (HRW.out.alloc _) (some ⟨wr.heap.size, 0, none⟩) 1 1 [tyC p] rfl rfl (by intro e' he'; rw [List.mem_singleton.1 he']; rfl) (src_one (cs := tyC p) (by rw [HTC.out]; exact World.alloc_heap_new _ _)) (one_ty _) ?_ ?_ ?_)
        · have := HLR.out
          simp only [List.length_singleton]
          omega
        · have := HBW.out.size
          simp
          omega
        · intro ga gn gc w5 hrow hgrow _
          have hb : Below w.heap.size w w5 := (HBW.out.alloc HBW.out.size _).grown hgrow (by have := HBW.out.size; simp; omega) (fun k hk => (HRW.out.lt k hk).1)
          have HRN := Lib.hid hrow
          have HBN := Lib.hid hb
          clear hrow hb hgrow
          go_wp2_with fail
          go_roundw
          case rel => exact ⟨j + 1, _, _, _, by go_num, by omega, rfl, Lib.hid (by rw [HFA.out, HE.out, if_neg (by decide)]; exact HRN.out), HBN⟩
          case measure => simp [intOf]; omega
    · obtain rfl : j = len := by omega
      have h := HRW.out
      rw [List.take_of_length_le (by rw [HL.out]; exact Nat.le_refl _)] at h
      have hfl : (ps.filter (fun p => !pvIs nm p)).length ≤ maxLen := by
        have h1 := List.length_filter_le (fun p => !pvIs nm p) ps
        have := HL.out
        unfold maxLen; omega
      have HTS : Hid (TySl (fun k => k < wr.heap.size) wr (.slice xa xn xc) ((ps.filter (fun p => !pvIs nm p)).map (fun q => q.m.t))) := Lib.hid (h.tysOf hfl (fun q hq => by
        obtain ⟨i, hi⟩ := List.getElem?_of_mem (List.mem_filter.1 hq).1
        obtain ⟨_, _, _, hW⟩ := HG.out i q hi
        exact (hW wr HBW.out).2.mono (fun k hk => Nat.lt_of_lt_of_le hk HBW.out.size)))
      have HLQ := Lib.hid (rlowest_any _ (fun t ht => by
        obtain ⟨q, hq, rfl⟩ := List.mem_map.1 ht
        exact HU.out q (List.mem_filter.1 hq).1) _ _ wr (fun k hk => hk) HTS.out)
      obtain ⟨q, hq⟩ : ∃ q, ((ps.filter (fun p => !pvIs nm p)).map (fun q => q.m.t)).filterMap Ty.pri = q := ⟨_, rfl⟩
      rw [hq] at HLQ
      have HQ := Lib.hid hq
      unfold lowV at HLQ
      clear h hfl hq
      go_wp2_with (go_at_call 36; go_loud (refine HLQ.out.mono ?_; rintro en w6 ⟨rfl, hb6⟩; have HB6 := Lib.hid hb6; clear hb6))
      go_ret2
      exact ⟨by rw [HQ.out]; rfl, below_seq HBW.out HB6.out⟩
end Go.Proofs.Yticdkbcfahjpnaa

/- Contexts: the law's right. -/
namespace Go.Proofs.Yticdkbcfahjpnaa
open Go.RowKit Go.Deep Go.Shelf

/-- append, bounded by the bytes of an element. -/
theorem wpList_appB {sl el : TypeId} {sz base : Nat} {v : Value} {es : List (List Value)} {ops : Array Oper} {rest : List Oper} {o : Oper} {a : Act} {w : World} {Q : Exit → Act → World → Prop} (I : ElemOf sl el sz) (hgd : o.guard = none) (s x : Operand)
    (ho : o.op = .call { callee := .builtin .append, args := #[s, x], argTypes := #[sl, sl] })
    (hs : a.eval s = v) (h : GRow el sz base w v es) (b : Addr) (nc : Nat) (e : List Value) (hx : a.eval x = .slice (some b) 1 nc) (hlen : e.length = sz) (hsrc : ∀ j u, e[j]? = some u → w.cell? (b.add j) = some u) (hone : ∀ u ∈ e, u.oneCell' = true) (hB : ∀ i, Try.prog.info? el = some i → (es.length + 1) * i.bytes ≤ 140737488355328) (h63 : es.length + 1 ≤ maxLen) (hbase : base ≤ w.heap.size)
    (hk : ∀ ga gn gc w', GRow el sz base w' (.slice ga gn gc) (es ++ [e]) → w.grownBy w' v.ownBlock → wpList Try.prog ops Q rest (a.put o.dst (.slice ga gn gc)) w') : wpList Try.prog ops Q (o :: rest) a w := by
  refine wpList_plain hgd fun K hK => ?_
  obtain ⟨i0, z, hi, hz0, hz1, hz2, hz3⟩ := I.hi
  obtain ⟨v', w', hr, h2, h3, _, _⟩ := run_append_own_at (P := Try.prog) w base sl o.type el i0 z sz i0.bytes I.ht hi hz0 hz1 rfl hz3 I.hs _ _ _ h.own b 1 nc e (by rw [hlen, Nat.one_mul]) hsrc hone h63 (hB i0 hi) hbase
  have h2' : GRow el sz base w' v' (es ++ [e]) := ⟨by rw [List.length_append, List.flatten_append, List.flatten_singleton]; exact h2, fun u hu => by
    rcases List.mem_append.1 hu with hu | hu
    · exact h.len u hu
    · rw [List.mem_singleton.1 hu]; exact hlen⟩
  obtain ⟨ga, gn, gc, rfl⟩ := h2'.slice
  unfold Oper.wp execOp
  simp only [ho, resolve, invoke, builtin, Sem.run_bind, Sem.run_pure, Result.andThen_ok, List.map_toArray, List.map_cons, List.map_nil, hs, hx, hr]
  exact hK _ _ (hk ga gn gc w' h2' h3)
theorem src_each {w : World} {cs : List Value} {t : TypeId} {fr : Nat × Nat} {b : Nat} (h : w.heap[b]? = some (.cells cs.toArray t fr)) : ∀ j u, cs[j]? = some u → w.cell? ((⟨b, 0, none⟩ : Addr).add j) = some u := by
  intro j u hj
  have h1 : w.cell? ⟨b, j, none⟩ = some u := by
    simp only [World.cell?, h]
    simpa using hj
  cases j with
  | zero => simpa [Addr.add] using h1
  | succ j => simpa [Addr.add] using h1
theorem tyBytes : ∀ i, Try.prog.info? 47 = some i → i.bytes = 88 := by
  intro i h
  have h2 : (Try.prog.info? 47).map TypeInfo.bytes = some 88 := by kernel_rfl
  rw [h] at h2
  exact Option.some.inj h2

/-- The names differ. -/
def Diff (ps : List PV) : Prop := ∀ (i k : Nat) (p q : PV), k < i → ps[i]? = some p → ps[k]? = some q → q.m.n ≠ p.m.n
def Rgt (ps : List PV) : Prop := Diff ps ∧ fewB (ps.map (fun q => q.m.t)) 12 60 = true
theorem Diff.snoc {ps : List PV} {j : Nat} {p : PV} (h : Diff (ps.take j)) (hp : ps[j]? = some p) (hn : ∀ (b : Nat) (q : PV), b < j → ps[b]? = some q → q.m.n ≠ p.m.n) : Diff (ps.take (j + 1)) := by
  intro i k p' q' hki hi hk
  rw [List.getElem?_take] at hi hk
  have hij : i < j + 1 := by
    by_cases h : i < j + 1
    · exact h
    · rw [if_neg h] at hi; cases hi
  rw [if_pos hij] at hi
  rw [if_pos (by omega)] at hk
  by_cases he : i = j
  · subst he
    obtain rfl := Option.some.inj (hp.symm.trans hi)
    exact hn k q' hki hk
  · exact h i k p' q' hki (by rw [List.getElem?_take, if_pos (by omega)]; exact hi) (by rw [List.getElem?_take, if_pos (by omega)]; exact hk)
set_option maxHeartbeats 8000000 in
set_option maxRecDepth 100000 in
theorem right_any (ps : List PV) (pa : Option Addr) (len c : Nat) (w : World) (hk : PvSl w pa len ps) (hlen : len * 88 ≤ 140737488355328) :
    Calls Try.prog 11 #[.slice pa len c] w fun e w' => ∃ b, e = .returned (.bool b) ∧ (b = true ↔ Rgt ps) ∧ Below w.heap.size w w' := by
  have HG : Hid (∀ (j : Nat) (p : PV), ps[j]? = some p → ∃ kb ko, pa = some ⟨kb, ko, none⟩ ∧ ∀ W, Below w.heap.size w W → PvAt W kb (ko + j * 7) p ∧ TyVal (fun k => k < w.heap.size) W (tyV p) p.m.t) := Lib.hid (fun j p hj => by
    obtain ⟨_, kb, ko, e, _, hW⟩ := hk.at_ j p hj
    exact ⟨kb, ko, e, hW⟩)
  have HL : Hid (len = ps.length) := Lib.hid hk.len
  clear hk
  go_enter Try.func11, Try.ntmps11
  go_wp2_with fail
  go_loopw [3, 4] (fun rv i wr => ∃ (j : Nat) (xa : Option Addr) (xn xc : Nat), i = .int .i64 j ∧ j ≤ len ∧ rv = .slice xa xn xc ∧ Hid (GRow 47 6 w.heap.size wr (.slice xa xn xc) ((ps.take j).map tyC)) ∧ Hid (Diff (ps.take j)) ∧ Hid (Below w.heap.size w wr)) (fun _ i _ => len - (intOf i).toNat)
  case atStart => exact ⟨0, none, 0, 0, rfl, Nat.zero_le _, rfl, Lib.hid (by simpa using GRow.nil _ _ _ _), Lib.hid (by intro i k p q _ h; simp at h), Lib.hid (Below.refl _ _)⟩
  case round =>
    obtain ⟨j, xa, xn, xc, rfl, hj, rfl, HRW, HDF, HBW⟩ := hrel
    obtain ⟨wo, ho⟩ : ∃ wo, wo = wr := ⟨_, rfl⟩
    subst ho
    by_cases hlt : j < len
    · obtain ⟨p, hp⟩ : ∃ p, ps[j]? = some p := ⟨_, List.getElem?_eq_getElem (by rw [← HL.out]; exact hlt)⟩
      obtain ⟨kb, ko, rfl, hW⟩ := HG.out j p hp
      have HSN : Hid ((ps.take (j + 1)).map tyC = (ps.take j).map tyC ++ [tyC p]) := Lib.hid (by rw [take_snoc_get hp, List.map_append]; rfl)
      have hlr : ((ps.take j).map tyC).length = j := by
        have := HL.out
        rw [List.length_map, List.length_take]; omega
      obtain ⟨rr, hrr⟩ : ∃ rr, (ps.take j).map tyC = rr := ⟨_, rfl⟩
      rw [hrr] at HRW HSN hlr
      obtain ⟨yk, hyk⟩ : ∃ x, p.m.t.k = x := ⟨_, rfl⟩
      obtain ⟨yp, hyp⟩ : ∃ x, p.m.t.p = x := ⟨_, rfl⟩
      obtain ⟨yn, hyn⟩ : ∃ x, p.m.t.n = x := ⟨_, rfl⟩
      obtain ⟨ys, hys⟩ : ∃ x, p.m.t.s = x := ⟨_, rfl⟩
      obtain ⟨pn, hpn⟩ : ∃ x, p.m.n = x := ⟨_, rfl⟩
      have HTC : Hid (tyC p = [.int .i64 yk, .int .i64 yp, .string yn, .int .i64 ys, .slice p.la p.ln p.lc, .slice p.ka p.kn p.kc]) := Lib.hid (by rw [tyC, hyk, hyp, hyn, hys])
      have HRD : Hid (∀ W, Below w.heap.size w W → W.cell? ⟨kb, ko + j * 7, none⟩ = some (.string pn) ∧ W.cell? ⟨kb, ko + j * 7 + 1, none⟩ = some (.int .i64 yk) ∧ W.cell? ⟨kb, ko + j * 7 + 2, none⟩ = some (.int .i64 yp) ∧ W.cell? ⟨kb, ko + j * 7 + 3, none⟩ = some (.string yn) ∧ W.cell? ⟨kb, ko + j * 7 + 4, none⟩ = some (.int .i64 ys) ∧ W.cell? ⟨kb, ko + j * 7 + 5, none⟩ = some (.slice p.la p.ln p.lc) ∧ W.cell? ⟨kb, ko + j * 7 + 6, none⟩ = some (.slice p.ka p.kn p.kc)) := Lib.hid (fun W hb => by
        have h := (hW W hb).1
        rw [PvAt, hpn, hyk, hyp, hyn, hys] at h
        exact h)
      have HPN := Lib.hid hpn
      have HP := Lib.hid hp
      have HLR := Lib.hid hlr
      clear hW hp hlr hrr hyk hyp hyn hys hpn
      go_wp2_with fail
      go_loopw [5] (fun kv wr => ∃ k : Nat, kv = .int .i64 k ∧ k ≤ j ∧ Hid (∀ (b : Nat) (q : PV), b < k → ps[b]? = some q → q.m.n ≠ pn) ∧ Hid (GRow 47 6 w.heap.size wr (.slice xa xn xc) rr) ∧ Hid (Below w.heap.size w wr)) (fun kv _ => j - (intOf kv).toNat)
      case atStart => exact ⟨0, rfl, Nat.zero_le _, Lib.hid (fun b q h => by omega), HRW, HBW⟩
      case round =>
        obtain ⟨k, rfl, hkj, HA, HRI, HBI⟩ := hrel
        by_cases hlk : k < j
        · obtain ⟨q, hq⟩ : ∃ q, ps[k]? = some q := ⟨_, List.getElem?_eq_getElem (by rw [← HL.out]; omega)⟩
          obtain ⟨kb', ko', e, hW⟩ := HG.out k q hq
          simp only [Option.some.injEq, Addr.mk.injEq, and_true] at e
          obtain ⟨rfl, rfl⟩ := e
          have d0 := (hW wr HBI.out).1.1
          obtain ⟨f0, f1, f2, f3, f4, f5, f6⟩ := HRD.out wr HBI.out
          have HQ := Lib.hid hq
          have hkl : k < len := by omega
          obtain ⟨qn, hqn⟩ : ∃ x, q.m.n = x := ⟨_, rfl⟩
          rw [hqn] at d0
          have HQN := Lib.hid hqn
          clear hW hq hqn
          by_cases hen : qn = pn
          · have HEQ := Lib.hid hen
            rw [hen] at d0
            clear hen
            go_upto_region 8 with fail
            go_quiet (fail)
            go_wp2_with fail
            go_ret
            exact ⟨false, rfl, ⟨fun h => (by cases h), fun h => absurd (HQN.out.trans (HEQ.out.trans HPN.out.symm)) (h.1 j k p q hlk HP.out HQ.out)⟩, below_drewN HBI.out _⟩
          · have h1 := str_ne hen
            have h2 : (qn.toList == pn.toList) = false := by simpa using h1
            have HN := Lib.hid hen
            clear hen
            go_upto_region 8 with fail
            go_quiet (fail)
            go_wp2_with fail
            go_roundw
            case rel => exact ⟨k + 1, by go_num, by omega, Lib.hid (fun b x hb hx => by
              rcases Nat.lt_succ_iff_lt_or_eq.1 hb with h | rfl
              · exact HA.out b x h hx
              · obtain rfl := Option.some.inj (HQ.out.symm.trans hx); rw [HQN.out]; exact HN.out), Lib.hid (HRI.out.to (below_drewN (Below.refl _ _) _)), Lib.hid (below_drewN HBI.out _)⟩
            case measure => simp [intOf]; omega
        · obtain rfl : k = j := by omega
          obtain ⟨f0, f1, f2, f3, f4, f5, f6⟩ := HRD.out wr HBI.out
          go_upto_region 10 with fail
          go_wp2_with (at_builtin; refine wpList_appB typElem rfl _ _ rfl rfl (HRI.out.alloc _) ⟨wr.heap.size, 0, none⟩ 1 (tyC p) rfl rfl (src_each (cs := tyC p) (by rw [HTC.out]; exact World.alloc_heap_new _ _)) (one_ty p _ (List.mem_singleton.2 rfl)) ?_ ?_ ?_ ?_)
          · intro i hi
            rw [tyBytes i hi, HLR.out]
            omega
          · rw [HLR.out]
            unfold maxLen
            omega
          · have := HBI.out.size
            simp
            omega
          · intro ga gn gc w5 hrow hgrow
            have hb : Below w.heap.size w w5 := (HBI.out.alloc HBI.out.size _).grown hgrow (by have := HBI.out.size; simp; omega) (fun k hk => (HRI.out.lt k hk).1)
            have HRN := Lib.hid hrow
            have HBN := Lib.hid hb
            clear hrow hb hgrow
            go_wp2_with fail
            go_roundw
            case rel => exact ⟨k + 1, _, _, _, by go_num, by omega, rfl, Lib.hid (by rw [HSN.out]; exact HRN.out), Lib.hid (HDF.out.snoc HP.out (fun b q hb hq => by rw [HPN.out]; exact HA.out b q hb hq)), HBN⟩
            case measure => simp [intOf]; omega
    · obtain rfl : j = len := by omega
      have h := HRW.out
      have hd := HDF.out
      rw [List.take_of_length_le (by rw [HL.out]; exact Nat.le_refl _)] at h hd
      have HD := Lib.hid hd
      have HTS : Hid (TySl (fun k => k < wo.heap.size) wo (.slice xa xn xc) (ps.map (fun q => q.m.t))) := Lib.hid (h.tysOf (by have := HL.out; unfold maxLen; omega) (fun q hq => by
        obtain ⟨i, hi⟩ := List.getElem?_of_mem hq
        obtain ⟨_, _, _, hW⟩ := HG.out i q hi
        exact (hW wo HBW.out).2.mono (fun k hk => Nat.lt_of_lt_of_le hk HBW.out.size)))
      have HF := Lib.hid (few_any _ 12 60 (by decide) _ wo HTS.out)
      obtain ⟨fb, hfb⟩ : ∃ b, fewB (ps.map (fun q => q.m.t)) 12 60 = b := ⟨_, rfl⟩
      rw [hfb] at HF
      have HFB := Lib.hid hfb
      clear h hd hfb
      go_wp2_with (go_at_call 26; go_loud (refine HF.out.mono ?_; rintro en w6 ⟨rfl, hb6⟩; have HB6 := Lib.hid hb6; clear hb6))
      go_ret
      exact ⟨fb, rfl, ⟨fun h => ⟨HD.out, by rw [HFB.out]; exact h⟩, fun h => by rw [← HFB.out]; exact h.2⟩, below_seq HBW.out HB6.out⟩
theorem right_yes (ps : List PV) (pa : Option Addr) (len c : Nat) (w : World) (hk : PvSl w pa len ps) (hlen : len * 88 ≤ 140737488355328) (hr : Rgt ps) :
    Calls Try.prog 11 #[.slice pa len c] w fun e w' => e = .returned (.bool true) ∧ Below w.heap.size w w' :=
  (right_any ps pa len c w hk hlen).mono fun e w' h => by
    obtain ⟨b, rfl, h1, h2⟩ := h
    rw [h1.2 hr]; exact ⟨rfl, h2⟩
theorem right_no (ps : List PV) (pa : Option Addr) (len c : Nat) (w : World) (hk : PvSl w pa len ps) (hlen : len * 88 ≤ 140737488355328) (hr : ¬ Rgt ps) :
    Calls Try.prog 11 #[.slice pa len c] w fun e w' => e = .returned (.bool false) ∧ Below w.heap.size w w' :=
  (right_any ps pa len c w hk hlen).mono fun e w' h => by
    obtain ⟨b, rfl, h1, h2⟩ := h
    cases b with
    | false => exact ⟨rfl, h2⟩
    | true => exact absurd (h1.1 rfl) hr
end Go.Proofs.Yticdkbcfahjpnaa
