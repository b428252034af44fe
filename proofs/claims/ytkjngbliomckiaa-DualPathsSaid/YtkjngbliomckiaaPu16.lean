/- Duals: the law DualPaths. (and what follows from it) -/
import Derived.Test.YtkjngbliomckiaaPu12
import Derived.Test.YtkjngbliomckiaaPu15

/- Duals: the law DualPaths. -/
namespace Go.Proofs.Ytkjngbliomckiaa
open Go.RowKit Go.Deep Go.Shelf

/-- Numbers of one byte lie at an address. -/
def BySl (w : World) (pa : Option Addr) (pn : Nat) (xs : List Int) : Prop := pn = xs.length ∧ ∀ (j : Nat) (x : Int), xs[j]? = some x → ∃ b o, pa = some ⟨b, o, none⟩ ∧ b < w.heap.size ∧ w.cell? ⟨b, o + j, none⟩ = some (.int .u8 x) ∧ 0 ≤ x ∧ x ≤ 255
theorem zcalls_eq {P : Program} {f : FuncId} {vs : Array Value} {Q : Ending → World → Prop} {W W0 : World} (h : W = W0) (k : Calls P f vs W0 Q) : Calls P f vs W Q := by rw [h]; exact k
/-- The reference that is not a payload. -/
theorem refD_rest {g : GNode} (h : okN g) {N kk : Nat} {r : GRef} (hr : g.nx[kk]? = some r) (hk : g.ls = [] → kk = g.nx.length - 1) : refD g.k N kk r = ⟨r.n + N, r.s⟩ := by
  have hi := (List.getElem?_eq_some_iff.1 hr).1
  rcases h with ⟨_, _, h⟩ | ⟨_, h1, h⟩ | ⟨hk6, _, _⟩
  · rw [h] at hi; cases hi
  · exact if_neg (fun h0 => by have := hk h1; omega)
  · exact if_neg (fun h0 => by
      have := h0.2
      simp only [payB, decide_eq_true_eq] at this
      omega)
theorem nodeD_at {g : GNode} {N kk : Nat} {r : GRef} (hr : g.nx[kk]? = some r) : (nodeD N g).nx[kk]? = some (refD g.k N kk r) := by
  simp only [nodeD, List.getElem?_mapIdx, hr, Option.map_some]

set_option maxHeartbeats 32000000 in
set_option maxRecDepth 100000 in
theorem DualPaths_any (t0 : Ty) (v0 : Value) (pa : Option Addr) (pn pc : Nat) (xs : List Int) (w : World) (h0 : Lies w v0 t0) (hp : BySl w pa pn xs) :
    Calls Try.prog 6 #[v0, .slice pa pn pc] w fun e w' => e = .returned (.bool true) ∧ Below w.heap.size w w' := by
  have g0 := h0
  obtain ⟨lv, kv, rfl, _, hl0, hk0⟩ := g0
  obtain ⟨la, ln, lc, rfl, _⟩ := hl0.open
  obtain ⟨ka, kn, kc, rfl, _⟩ := hk0.open
  obtain ⟨W2, hW2⟩ : ∃ W2, w.alloc (.cells (tyCs t0 la ln lc ka kn kc).toArray 50) = W2 := ⟨_, rfl⟩
  have hb2 : Below w.heap.size w W2 := by rw [← hW2]; exact blkBelow w _ _
  have hs2 : W2.heap.size = w.heap.size + 1 := by rw [← hW2]; simp
  have x0 : W2.heap[w.heap.size]? = some (.cells (tyCs t0 la ln lc ka kn kc).toArray 50 (0, 0)) := by rw [← hW2]; exact World.alloc_heap_new _ _
  have HXA := Lib.hid (fun (W : World) (hW : Below W2.heap.size W2 W) => six_cells ((hW.block _ (by omega)).trans x0))
  have HLA := Lib.hid (fun (W : World) (hW : Below W2.heap.size W2 W) => h0.to (below_seq hb2 hW))
  have HAW := Lib.hid (fun (W : World) (_ : Below W2.heap.size W2 W) => dawake_any W)
  have HW2 := Lib.hid hW2
  have HB2 := Lib.hid hb2
  have HP := Lib.hid hp
  clear h0 hl0 hk0 hW2 hb2 x0 hp
  obtain ⟨sa, hsa⟩ : ∃ b, smallB t0 60 = b := ⟨_, rfl⟩
  obtain ⟨se, hse⟩ : ∃ b, decide (t0.k ≠ 1 ∧ t0.k ≠ 2) = b := ⟨_, rfl⟩
  have HSM := Lib.hid hsa
  have HSS := Lib.hid hse
  clear hsa hse
  have HMA : Hid (∀ W, Below W2.heap.size W2 W → Calls Try.prog 17 #[.agg (tyCs t0 la ln lc ka kn kc).toArray, .int .i64 60] W fun e w' => e = .returned (.bool sa) ∧ Below W.heap.size W w') := Lib.hid (fun W hW => by rw [← HSM.out]; exact small_any t0 60 (by decide) _ W (HLA.out W hW))
  have HSA : Hid (∀ W, Below W2.heap.size W2 W → Calls Try.prog 18 #[.agg (tyCs t0 la ln lc ka kn kc).toArray] W fun e w' => e = .returned (.bool se) ∧ Below W.heap.size W w') := Lib.hid (fun W hW => by rw [← HSS.out]; exact session_any t0 _ W (HLA.out W hW))
  cases sa
  · go_enter Try.func6, Try.ntmps6
    go_upto_region 1 with fail
    rw [show w.alloc (.cells #[.int .i64 t0.k, .int .i64 t0.p, .string t0.n, .int .i64 t0.s, .slice la ln lc, .slice ka kn kc] 50) = W2 from HW2.out]
    go_upto_region 2 with (first | (go_at_call 7; refine (HAW.out _ (Below.refl _ _)).mono ?_; rintro en w3 ⟨rfl, hb3⟩; obtain ⟨c0, c1, c2, c3, c4, c5⟩ := HXA.out w3 hb3; have HB3 := Lib.hid hb3; clear hb3) | (go_at_call 17; refine (HMA.out _ HB3.out).mono ?_; rintro en w4 ⟨rfl, hb4⟩; have HB4 := Lib.hid (below_seq HB3.out hb4); obtain ⟨d0, d1, d2, d3, d4, d5⟩ := HXA.out w4 HB4.out; clear c0 c1 c2 c3 c4 c5; clear hb4))
    go_wp2_with (go_at_call 7; refine (HAW.out _ HB4.out).mono ?_; rintro en w6 ⟨rfl, hb6⟩)
    go_ret
    exact ⟨rfl, below_seq HB2.out (below_seq HB4.out hb6)⟩
  cases se
  · go_enter Try.func6, Try.ntmps6
    go_upto_region 1 with fail
    rw [show w.alloc (.cells #[.int .i64 t0.k, .int .i64 t0.p, .string t0.n, .int .i64 t0.s, .slice la ln lc, .slice ka kn kc] 50) = W2 from HW2.out]
    go_upto_region 2 with (first | (go_at_call 7; refine (HAW.out _ (Below.refl _ _)).mono ?_; rintro en w3 ⟨rfl, hb3⟩; obtain ⟨c0, c1, c2, c3, c4, c5⟩ := HXA.out w3 hb3; have HB3 := Lib.hid hb3; clear hb3) | (go_at_call 17; refine (HMA.out _ HB3.out).mono ?_; rintro en w4 ⟨rfl, hb4⟩; have HB4 := Lib.hid (below_seq HB3.out hb4); obtain ⟨d0, d1, d2, d3, d4, d5⟩ := HXA.out w4 HB4.out; clear c0 c1 c2 c3 c4 c5; clear hb4) | (go_at_call 18; refine (HSA.out _ HB4.out).mono ?_; rintro en w5 ⟨rfl, hb5⟩; have HB5 := Lib.hid (below_seq HB4.out hb5); clear d0 d1 d2 d3 d4 d5; clear hb5))
    go_wp2_with (go_at_call 7; refine (HAW.out _ HB5.out).mono ?_; rintro en w6 ⟨rfl, hb6⟩)
    go_ret
    exact ⟨rfl, below_seq HB2.out (below_seq HB5.out hb6)⟩
  by_cases hpn : pn ≤ 20
  case neg =>
    have hd1 : decide (20 < pn) = true := by simp; omega
    have hd2 : decide ((20 : Int) < (pn : Int)) = true := by simp; omega
    go_enter Try.func6, Try.ntmps6
    go_upto_region 1 with fail
    rw [show w.alloc (.cells #[.int .i64 t0.k, .int .i64 t0.p, .string t0.n, .int .i64 t0.s, .slice la ln lc, .slice ka kn kc] 50) = W2 from HW2.out]
    go_upto_region 2 with (first | (go_at_call 7; refine (HAW.out _ (Below.refl _ _)).mono ?_; rintro en w3 ⟨rfl, hb3⟩; obtain ⟨c0, c1, c2, c3, c4, c5⟩ := HXA.out w3 hb3; have HB3 := Lib.hid hb3; clear hb3) | (go_at_call 17; refine (HMA.out _ HB3.out).mono ?_; rintro en w4 ⟨rfl, hb4⟩; have HB4 := Lib.hid (below_seq HB3.out hb4); obtain ⟨d0, d1, d2, d3, d4, d5⟩ := HXA.out w4 HB4.out; clear c0 c1 c2 c3 c4 c5; clear hb4) | (go_at_call 18; refine (HSA.out _ HB4.out).mono ?_; rintro en w5 ⟨rfl, hb5⟩; have HB5 := Lib.hid (below_seq HB4.out hb5); clear d0 d1 d2 d3 d4 d5; clear hb5))
    go_wp2_with (go_at_call 7; refine (HAW.out _ HB5.out).mono ?_; rintro en w6 ⟨rfl, hb6⟩)
    go_ret
    exact ⟨rfl, below_seq HB2.out (below_seq HB5.out hb6)⟩
  have hd1 : decide (20 < pn) = false := by simp; omega
  have hd2 : decide ((20 : Int) < (pn : Int)) = false := by simp; omega
  obtain ⟨hfa, hra⟩ : t0.few 60 = true ∧ rightE t0 = 0 := by have h := HSM.out; simpa [smallB] using h
  simp only [Ty.few, Bool.and_eq_true, decide_eq_true_eq] at hfa
  have hna := right_node hra
  have hok := okg_of t0 [] 0 false hna (by omega)
  have hrl := real_of t0 [] false hna
  have hR1 : gRefs [t0] = [⟨0, 0⟩] := by simp only [gRefs, Ty.prefs]; rw [real_pref t0 0 (fun _ => 0) hrl]
  have hright : ∀ t ∈ [t0], nodeR [] 0 false t = 0 := fun t ht => by rw [List.mem_singleton.1 ht]; exact hna
  have hokk : Ty.okgs [t0] := by simp only [Ty.okgs]; exact ⟨hok, trivial⟩
  have hgs : gNodes [t0] = t0.pnod 0 (fun _ => 0) := by simp [gNodes, Ty.pnods]
  have hg1 := real_gcnt t0 hok hrl
  have hg2 := t0.gcnt_le
  have hnl : (gNodes [t0]).length = t0.gcnt := by rw [hgs, pnod_ok t0 hok]
  have hnx : ∀ g ∈ gNodes [t0], g.nx.length ≤ 1000000 ∧ g.ls.length ≤ 400000000 := fun g hg => by
    have h1 := pnods_nx (fun _ => 0) [t0] 0 g hg
    have h2 := labels_all hright g hg
    simp only [Ty.sizes] at h1 h2
    exact ⟨by omega, by omega⟩
  have hwf := hwf_all hright hokk
  have hkn := okN_all hright
  have hsm := small_all hright
  have HGR : Hid (∀ W v, TySl (fun k => k < W.heap.size) W v [t0] → Calls Try.prog 9 #[v] W fun en w' => ∃ (na : Option Addr) (nn nc : Nat) (ra : Option Addr) (rn rc : Nat), en = .returned (.tuple #[grV na nn nc, .slice ra rn rc]) ∧ NodeSl (fun k => k < w'.heap.size) w' (.slice na nn nc) (gNodes [t0]) ∧ RefSl (fun k => k < w'.heap.size) w' (.slice ra rn rc) [⟨0, 0⟩] ∧ Below W.heap.size W w') := Lib.hid (fun W v hv => by
    have h := graph_any [t0] v W hv (by simp only [Ty.sizes]; omega) (fun t ht => by rw [List.mem_singleton.1 ht]; omega) hright (by omega) hnx (by rw [hR1]; decide)
    rw [hR1] at h
    exact h)
  obtain ⟨ns, hns⟩ : ∃ ns, gNodes [t0] = ns := ⟨_, rfl⟩
  rw [hns] at HGR hnl hnx hwf hkn hsm
  obtain ⟨N, hN⟩ : ∃ N, ns.length = N := ⟨_, rfl⟩
  have hN1 : 1 ≤ N ∧ N ≤ 60 := by omega
  have HNN := Lib.hid hN
  have HNX := Lib.hid hnx
  have HWF := Lib.hid hwf
  have HKN := Lib.hid hkn
  have HSL := Lib.hid hsm
  clear hfa hra hna hok hrl hR1 hright hokk hgs hg1 hg2 hnl hnx hwf hkn hsm hns hN
  go_enter Try.func6, Try.ntmps6
  go_upto_region 1 with fail
  rw [show w.alloc (.cells #[.int .i64 t0.k, .int .i64 t0.p, .string t0.n, .int .i64 t0.s, .slice la ln lc, .slice ka kn kc] 50) = W2 from HW2.out]
  go_upto_region 3 with (first | (go_at_call 7; refine (HAW.out _ (Below.refl _ _)).mono ?_; rintro en w3 ⟨rfl, hb3⟩; obtain ⟨c0, c1, c2, c3, c4, c5⟩ := HXA.out w3 hb3; have HB3 := Lib.hid hb3; clear hb3) | (go_at_call 17; refine (HMA.out _ HB3.out).mono ?_; rintro en w4 ⟨rfl, hb4⟩; have HB4 := Lib.hid (below_seq HB3.out hb4); obtain ⟨d0, d1, d2, d3, d4, d5⟩ := HXA.out w4 HB4.out; clear c0 c1 c2 c3 c4 c5; clear hb4) | (go_at_call 18; refine (HSA.out _ HB4.out).mono ?_; rintro en w5 ⟨rfl, hb5⟩; have HB5 := Lib.hid (below_seq HB4.out hb5); clear d0 d1 d2 d3 d4 d5; clear hb5))
  clear hd1 hd2
  obtain ⟨W6, hW6⟩ : ∃ W6, w5.alloc (.cells #[.int .i64 t0.k, .int .i64 t0.p, .string t0.n, .int .i64 t0.s, .slice la ln lc, .slice ka kn kc] 50) = W6 := ⟨_, rfl⟩
  have hb6 : Below w5.heap.size w5 W6 := by rw [← hW6]; exact blkBelow w5 _ _
  have hs6 : W6.heap.size = w5.heap.size + 1 := by rw [← hW6]; simp
  have x6 : W6.heap[w5.heap.size]? = some (.cells (tyCs t0 la ln lc ka kn kc).toArray 50 (0, 0)) := by rw [← hW6]; exact World.alloc_heap_new _ _
  have HBD := Lib.hid (HGR.out W6 (.slice (some ⟨w5.heap.size, 0, none⟩) 1 1) (one_type x6 (by omega) (HLA.out W6 (below_seq HB5.out hb6))))
  have HB6 : Hid (Below w.heap.size w W6) := Lib.hid (below_seq HB2.out (below_seq HB5.out hb6))
  have HW6 := Lib.hid hW6
  clear hb6 hs6 x6 hW6
  obtain ⟨c0, c1, c2, c3, c4, c5⟩ := HXA.out w5 HB5.out
  go_upto_region 4 with (go_at_call 9; go_loud (refine zcalls_eq HW6.out ?_; refine HBD.out.mono ?_; rintro en w7 ⟨na, nn, nc, ra, rn, rc, rfl, hn7, hr7, hb7⟩; have HN7 := Lib.hid hn7; have HR7 := Lib.hid hr7; have HB7 := Lib.hid (below_seq HB6.out hb7); clear hn7 hr7 hb7))
  clear c0 c1 c2 c3 c4 c5
  obtain ⟨W8, hW8⟩ : ∃ W8, w7.alloc (.cells #[.slice na nn nc] 27) = W8 := ⟨_, rfl⟩
  have hb8 : Below w7.heap.size w7 W8 := by rw [← hW8]; exact blkBelow w7 _ _
  have x8 : W8.heap[w7.heap.size]? = some (.cells #[.slice na nn nc] 27 (0, 0)) := by rw [← hW8]; exact World.alloc_heap_new _ _
  have hs8 : w7.heap.size < W8.heap.size := (Array.getElem?_eq_some_iff.1 x8).1
  have HBX := Lib.hid (fun (W : World) (hW : Below W8.heap.size W8 W) => show W.cell? ⟨w7.heap.size, 0, none⟩ = some (.slice na nn nc) from by
    have a1 : W.heap[w7.heap.size]? = _ := (hW.block _ hs8).trans x8
    simp [World.cell?, a1])
  have hn8 : NodeSl (fun k => k < W8.heap.size) W8 (.slice na nn nc) ns := (HN7.out.keep (hb8.keeps'.mono (fun k hk => hk))).mono (fun k hk => Nat.lt_of_lt_of_le hk hb8.size)
  have hr8 : RefSl (fun k => k < W8.heap.size) W8 (.slice ra rn rc) [⟨0, 0⟩] := (HR7.out.keep (hb8.keeps'.mono (fun k hk => hk))).mono (fun k hk => Nat.lt_of_lt_of_le hk hb8.size)
  obtain ⟨e9, rb, ro, rfl, hrc⟩ := refs_at hr8 (by decide)
  obtain rfl : rn = 1 := e9
  have HRC := Lib.hid hrc
  obtain ⟨_, _, _, e7, hl7, _, _⟩ := hn8.open
  simp only [Value.slice.injEq] at e7
  obtain ⟨rfl, rfl, rfl⟩ := e7
  obtain rfl : nn = N := hl7.out.trans HNN.out
  have HCL := Lib.hid (close_any ns na nn nc W8 hn8 (by rw [HNN.out]; omega) HNX.out HWF.out)
  have HB8 : Hid (Below w.heap.size w W8) := Lib.hid (below_seq HB7.out hb8)
  have g8 := HBX.out W8 (Below.refl _ _)
  rw [hW8]
  clear hW8 hb8 x8 hs8 hn8 hr8 hrc hl7 HN7 HR7
  go_upto_region 5 with (go_at_call 12; go_loud (refine HCL.out.mono ?_; rintro en w10 ⟨oa, on, oc, rfl, hn10, hb10⟩; have HN10 := Lib.hid hn10; have HB10 := Lib.hid hb10; clear hn10 hb10))
  clear g8
  obtain ⟨W11, hW11⟩ : ∃ W11, w10.alloc (.cells #[.slice oa on oc] 27) = W11 := ⟨_, rfl⟩
  have hb11 : Below w10.heap.size w10 W11 := by rw [← hW11]; exact blkBelow w10 _ _
  have x11 : W11.heap[w10.heap.size]? = some (grO oa on oc) := by rw [← hW11]; exact World.alloc_heap_new _ _
  have hs11 : w10.heap.size < W11.heap.size := (Array.getElem?_eq_some_iff.1 x11).1
  have hn11 : NodeSl (fun k => k < W11.heap.size) W11 (.slice oa on oc) (closeG ns) := (HN10.out.keep (hb11.keeps'.mono (fun k hk => hk))).mono (fun k hk => Nat.lt_of_lt_of_le hk hb11.size)
  obtain ⟨g1, hg1⟩ : ∃ g, (closeG ns)[0]? = some g := ⟨_, List.getElem?_eq_getElem (by rw [closeG_len, HNN.out]; omega)⟩
  obtain ⟨-, hon, kb, ko, -, -, -, rfl, -, -⟩ := node_at hn11 hg1
  obtain rfl : on = 2 * nn := by rw [hon, closeG_len, HNN.out]
  have HNA : Hid (∀ (a : Nat) (g : GNode), (closeG ns)[a]? = some g → ∃ (la : Option Addr) (ln lc : Nat) (xa : Option Addr) (xc : Nat), ln = g.ls.length ∧ (∀ W, Below W11.heap.size W11 W → W.cell? ⟨kb, ko + a * 4 + 2, none⟩ = some (.slice la ln lc) ∧ W.cell? ⟨kb, ko + a * 4 + 3, none⟩ = some (.slice xa g.nx.length xc)) ∧ ∀ (q : Nat) (r : GRef), g.nx[q]? = some r → ∃ rb ro, xa = some ⟨rb, ro, none⟩ ∧ ∀ W, Below W11.heap.size W11 W → W.cell? ⟨rb, ro + q * 2, none⟩ = some (.int .i64 r.n) ∧ W.cell? ⟨rb, ro + q * 2 + 1, none⟩ = some (.int .i64 r.s)) := Lib.hid (fun a g hg => by
    obtain ⟨-, -, kb', ko', lv, xa, xc, ek, hcl, hrf⟩ := node_at hn11 hg
    obtain ⟨rfl, rfl, -⟩ := Addr.mk.inj (Option.some.inj ek)
    obtain ⟨la, ln, lc, rfl, hln, _⟩ := (hcl W11 (Below.refl _ _)).2.2.2.2.open
    exact ⟨la, ln, lc, xa, xc, hln.out, fun W hW => ⟨(hcl W hW).2.2.1, (hcl W hW).2.2.2.1⟩, hrf⟩)
  have HS : Hid (∀ W, Below W11.heap.size W11 W → W.cell? ⟨w10.heap.size, 0, none⟩ = some (.slice (some ⟨kb, ko, none⟩) (2 * nn) oc)) := Lib.hid (fun W hW => by
    have a1 : W.heap[w10.heap.size]? = _ := (hW.block _ hs11).trans x11
    simp [World.cell?, a1])
  have HBK := Lib.hid (dback_any (closeG ns) (some ⟨kb, ko, none⟩) (2 * nn) oc W11 hn11 (closeG_wf HWF.out) (by rw [closeG_len, HNN.out]; omega) (closeG_nx (fun g hg => (HNX.out g hg).1)))
  have HB11 : Hid (Below w.heap.size w W11) := Lib.hid (below_seq HB8.out (below_seq HB10.out hb11))
  have HB811 : Hid (Below W8.heap.size W8 W11) := Lib.hid (below_seq HB10.out hb11)
  rw [show w10.alloc (.cells #[.slice (some ⟨kb, ko, none⟩) (2 * nn) oc] 27) = W11 from hW11]
  clear hW11 hb11 x11 hs11 hn11 hon hg1
  have a0 := HS.out W11 (Below.refl _ _)
  go_upto_region 6 with (go_at_call 19; go_loud (refine HBK.out.mono ?_; rintro en w12 ⟨ba, bn, bc, rfl, _, hb12⟩; have HB12 := Lib.hid hb12; clear hb12))
  clear a0
  have a0 := HS.out w12 HB12.out
  have a1 := HBX.out w12 (below_seq HB811.out HB12.out)
  obtain ⟨r0, r1⟩ := HRC.out w12 (below_seq HB811.out HB12.out) 0 _ rfl
  simp only [Nat.zero_mul, Nat.add_zero] at r0 r1
  go_upto_region 9 with fail
  clear a0 a1 r0 r1
  obtain ⟨W13, hW13⟩ : ∃ W13, w12.alloc (refO (.int .i64 0) (.int .i64 0)) = W13 := ⟨_, rfl⟩
  have hb13 : Below w12.heap.size w12 W13 := by rw [← hW13]; exact blkBelow w12 _ _
  have x13 : W13.heap[w12.heap.size]? = some (refO (.int .i64 0) (.int .i64 0)) := by rw [← hW13]; exact World.alloc_heap_new _ _
  have hs13 : W13.heap.size = w12.heap.size + 1 := by rw [← hW13]; simp
  have HOX : Hid (∀ (a : Nat) (s : Int) (W : World), a < nn → Calls Try.prog 16 #[.agg #[.slice (some ⟨kb, ko, none⟩) (2 * nn) oc], .agg #[.int .i64 (a : Int), .int .i64 s]] W fun e w' => e = .returned (.agg #[.int .i64 ((a + nn : Nat) : Int), .int .i64 s]) ∧ Below W.heap.size W w') := Lib.hid (fun a s W ha => by
    have h := of_any (some ⟨kb, ko, none⟩) nn oc a s W (by omega) (by omega)
    rw [ofD, if_pos ha] at h
    exact h)
  have HO0 := Lib.hid (HOX.out 0 0 W13 (by omega))
  obtain ⟨m0, hm0⟩ : ∃ m0, 0 + nn = m0 := ⟨_, rfl⟩
  rw [hm0] at HO0
  have HM0 := Lib.hid hm0
  have HX13 := Lib.hid x13
  have HB13 := Lib.hid hb13
  have HS13 := Lib.hid hs13
  obtain ⟨r0, r1, _, _⟩ := refO_cells x13
  have a0 := HS.out W13 (below_seq HB12.out hb13)
  rw [show w12.alloc (.cells #[.int .i64 0, .int .i64 0] 42) = W13 from hW13]
  clear hW13 hb13 x13 hs13 hm0
  go_upto_region 10 with (go_at_call 16; go_loud (refine HO0.out.mono ?_; rintro en w14 ⟨rfl, hb14⟩; have HB14 := Lib.hid hb14; clear hb14))
  clear a0 r0 r1
  obtain ⟨W15, hW15⟩ : ∃ W15, w14.alloc (refO (.int .i64 (m0 : Int)) (.int .i64 0)) = W15 := ⟨_, rfl⟩
  have hb15 : Below w14.heap.size w14 W15 := by rw [← hW15]; exact blkBelow w14 _ _
  have x15 : W15.heap[w14.heap.size]? = some (refO (.int .i64 (m0 : Int)) (.int .i64 0)) := by rw [← hW15]; exact World.alloc_heap_new _ _
  have hXY : w12.heap.size < w14.heap.size := by have := HB14.out.size; have := HS13.out; omega
  have y13 : W15.heap[w12.heap.size]? = some (refO (.int .i64 0) (.int .i64 0)) := (hb15.block _ hXY).trans ((HB14.out.block _ (by have := HS13.out; omega)).trans HX13.out)
  have HX15 := Lib.hid x15
  have HY13 := Lib.hid y13
  have HB15 : Hid (Below w12.heap.size w12 W15) := Lib.hid (below_seq HB13.out (below_seq HB14.out hb15))
  obtain ⟨Y, hY⟩ : ∃ Y, w14.heap.size = Y := ⟨_, rfl⟩
  obtain ⟨X, hX⟩ : ∃ X, w12.heap.size = X := ⟨_, rfl⟩
  rw [hY] at HX15 hXY
  rw [show w14.alloc (.cells #[.int .i64 (m0 : Int), .int .i64 0] 42) = W15 from hW15, hY, hX]
  rw [hX] at HY13 hXY
  have HXX := Lib.hid hX
  clear hW15 hb15 x15 y13 hY hX
  go_wp2_with fail
  go_loopw [12] (fun iv wr => ∃ (i a b : Nat) (s : Int), iv = .int .i64 i ∧ i ≤ pn ∧ Hid (a < nn) ∧ Hid (b = a + nn) ∧ Hid (-1000000 * (i : Int) ≤ s ∧ s ≤ 1000000 * (i : Int)) ∧ Hid (wr.heap[X]? = some (refO (.int .i64 (a : Int)) (.int .i64 s))) ∧ Hid (wr.heap[Y]? = some (refO (.int .i64 (b : Int)) (.int .i64 s))) ∧ Hid (Below w12.heap.size w12 wr)) (fun iv _ => pn - (intOf iv).toNat)
  case atStart => exact ⟨0, 0, m0, 0, rfl, Nat.zero_le _, Lib.hid (by omega), Lib.hid HM0.out.symm, Lib.hid ⟨by decide, by decide⟩, HY13, HX15, HB15⟩
  case round =>
    obtain ⟨i, a, b, s, rfl, hi, HA, HBA, HSB, HX, HY, HB⟩ := hrel
    have HBW : Hid (Below w.heap.size w wr) := Lib.hid (below_seq HB11.out (below_seq HB12.out HB.out))
    have HBV : Hid (Below W11.heap.size W11 wr) := Lib.hid (below_seq HB12.out HB.out)
    by_cases hlt : i < pn
    · obtain ⟨p, hp⟩ : ∃ p, xs[i]? = some p := ⟨_, List.getElem?_eq_getElem (by rw [← HP.out.1]; exact hlt)⟩
      obtain ⟨pb, po, rfl, hpb, hpc, hp0, hp1⟩ := HP.out.2 i p hp
      obtain ⟨g, hg⟩ : ∃ g, ns[a]? = some g := ⟨_, List.getElem?_eq_getElem (by rw [HNN.out]; exact HA.out)⟩
      have hga : (closeG ns)[a]? = some g := by rw [closeG_lo (by rw [HNN.out]; exact HA.out)]; exact hg
      have hgb : (closeG ns)[b]? = some (nodeD nn g) := by have h := closeG_hi hg; rw [HNN.out, Nat.add_comm, ← HBA.out] at h; exact h
      have hok := HKN.out g (List.mem_of_getElem? hg)
      obtain ⟨ya, yn, yc, xa, xc, hyn, hca, hra⟩ := HNA.out a g hga
      obtain ⟨ya', yn', yc', xa', xc', -, hcb, hrb⟩ := HNA.out b _ hgb
      rw [nodeD_len] at hcb
      obtain ⟨M, hM⟩ : ∃ M, g.nx.length = M := ⟨_, rfl⟩
      have hMl : M ≤ 1000000 := by rw [← hM]; exact (HNX.out g (List.mem_of_getElem? hg)).1
      rw [hM] at hca hcb
      have hsm := (HSL.out g (List.mem_of_getElem? hg)).2
      have hwfa := HWF.out a g hg
      have hynl : yn ≤ 400000000 := by rw [hyn]; exact (HNX.out g (List.mem_of_getElem? hg)).2
      have HYN := Lib.hid hyn
      have HM := Lib.hid hM
      have HOK := Lib.hid hok
      have HCA := Lib.hid hca
      have HCB := Lib.hid hcb
      have HRA := Lib.hid hra
      have HRB := Lib.hid hrb
      have HSM2 := Lib.hid hsm
      have HWA := Lib.hid hwfa
      have HPC : Hid (wr.cell? ⟨pb, po + i, none⟩ = some (.int .u8 p)) := Lib.hid ((HBW.out.cell (p := ⟨pb, _, none⟩) hpb).trans hpc)
      obtain ⟨aN, haN⟩ : ∃ aN : Nat, a = aN := ⟨_, rfl⟩
      have ha' : a < nn := HA.out
      have hb' : b < 2 * nn := by have := HBA.out; omega
      clear hp hpc hpb hg hga hgb hok hyn hca hcb hra hrb hM hsm hwfa haN
      have z0 := fun q : Later wr.heap.size wr => (refO_cells ((q.2.block X (Array.getElem?_eq_some_iff.1 HX.out).1).trans HX.out)).1
      have z1 := fun q : Later wr.heap.size wr => (refO_cells ((q.2.block Y (Array.getElem?_eq_some_iff.1 HY.out).1).trans HY.out)).1
      have z2 := fun q : Later wr.heap.size wr => HS.out q.1 (below_seq HBV.out q.2)
      have z3 := fun q : Later wr.heap.size wr => (HCA.out q.1 (below_seq HBV.out q.2)).2
      have z4 := fun q : Later wr.heap.size wr => (HCB.out q.1 (below_seq HBV.out q.2)).2
      have e1 : decide ((a : Int) < 0) = false := by simp
      have e2 : decide ((b : Int) < 0) = false := by simp
      have e3 : decide (2 * (nn : Int) ≤ (a : Int)) = false := by simp; omega
      have e4 : decide (2 * (nn : Int) ≤ (b : Int)) = false := by simp; omega
      go_upto_region 13 with fail
      refine wp_region_later wr.heap.size wr (by kernel_rfl) (by kernel_rfl) (Below.refl _ _) ?_
      repeat (go_big_quiet_step (fail))
      refine wpQuiet_nil ?_
      rintro V ⟨⟨_, hV⟩, rfl⟩
      clear z0 z1 z2 z3 z4 e1 e2 e3 e4
      have hXV : V.heap[X]? = some (refO (.int .i64 (a : Int)) (.int .i64 s)) := (hV.block X (Array.getElem?_eq_some_iff.1 HX.out).1).trans HX.out
      have hYV : V.heap[Y]? = some (refO (.int .i64 (b : Int)) (.int .i64 s)) := (hV.block Y (Array.getElem?_eq_some_iff.1 HY.out).1).trans HY.out
      obtain ⟨q0, q1, f0, f1⟩ := refO_cells hXV
      obtain ⟨q2, q3, f2, f3⟩ := refO_cells hYV
      have HVV : Hid (Below W11.heap.size W11 V) := Lib.hid (below_seq HBV.out hV)
      have q4 := HS.out V HVV.out
      obtain ⟨q5, q6⟩ := HCA.out V HVV.out
      obtain ⟨-, q7⟩ := HCB.out V HVV.out
      have q8 : V.cell? ⟨pb, po + i, none⟩ = some (.int .u8 p) := by
        refine (hV.cell (p := ⟨pb, _, none⟩) ?_).trans HPC.out
        exact World.block_lt_of_cell? _ ⟨pb, po + i, none⟩ HPC.out
      have HXV := Lib.hid hXV
      have HYV := Lib.hid hYV
      have HV12 : Hid (Below w12.heap.size w12 V) := Lib.hid (below_seq HB.out hV)
      have HWV : Hid (Below w.heap.size w V) := Lib.hid (below_seq HBW.out hV)
      clear hXV hYV hV
      by_cases hM0 : M = 0
      · subst hM0
        clear q1 q2 q3 q5 q7 q8 f0 f1 f2 f3
        go_wp2_with fail
        go_ret
        exact ⟨rfl, HWV.out⟩
      have e0 : ((M : Int) == 0) = false := by simp; omega
      have hok := HOK.out
      unfold okN at hok
      rcases hok with ⟨_, _, hx⟩ | ⟨_, hls, hx⟩ | ⟨_, hls, hx⟩
      · exact absurd (by rw [← HM.out, hx]; rfl) hM0
      · obtain rfl : M = 2 := by rw [← HM.out]; exact hx
        obtain rfl : yn = 0 := by rw [HYN.out, hls]; rfl
        obtain ⟨r, hr⟩ : ∃ r, g.nx[1]? = some r := ⟨_, List.getElem?_eq_getElem (by rw [HM.out]; decide)⟩
        have hrd : refD g.k nn 1 r = ⟨r.n + nn, r.s⟩ := refD_rest HOK.out hr (fun _ => by rw [HM.out])
        obtain ⟨k0, hk0⟩ : ∃ k0 : Nat, Int.tmod p 2 = (k0 : Int) := ⟨(Int.tmod p 2).toNat, (Int.toNat_of_nonneg (Int.tmod_nonneg _ hp0)).symm⟩
        obtain ⟨xb, xo, rfl, hrc1⟩ := HRA.out 1 r hr
        obtain ⟨xb', xo', rfl, hrc2⟩ := HRB.out 1 _ (nodeD_at hr)
        rw [hrd] at hrc2
        obtain ⟨p0, p1⟩ := hrc1 V HVV.out
        obtain ⟨p2, p3⟩ := hrc2 V HVV.out
        have rs := HSM2.out r (List.mem_of_getElem? hr)
        have rn := HWA.out r (List.mem_of_getElem? hr)
        rw [HNN.out] at rn
        obtain ⟨c, hc⟩ : ∃ c, r.n + nn = c := ⟨_, rfl⟩
        obtain ⟨rN, rS⟩ := r
        simp only at p0 p1 p2 p3 rs rn hc
        rw [hc] at p2
        replace p0 : V.cell? ⟨xb, xo + 2, none⟩ = some (.int .i64 (rN : Int)) := by simpa using p0
        replace p1 : V.cell? ⟨xb, xo + 3, none⟩ = some (.int .i64 rS) := by simpa using p1
        replace p2 : V.cell? ⟨xb', xo' + 2, none⟩ = some (.int .i64 (c : Int)) := by simpa using p2
        replace p3 : V.cell? ⟨xb', xo' + 3, none⟩ = some (.int .i64 rS) := by simpa using p3
        obtain ⟨W17, hW17⟩ : ∃ W17, (V.alloc (refO (.int .i64 (rN : Int)) (.int .i64 rS))).alloc (refO (.int .i64 (c : Int)) (.int .i64 rS)) = W17 := ⟨_, rfl⟩
        obtain ⟨hs17, hb17, t0', t1'⟩ := two_made hW17
        have hXl : X < V.heap.size := (Array.getElem?_eq_some_iff.1 HXV.out).1
        have hYl : Y < V.heap.size := (Array.getElem?_eq_some_iff.1 HYV.out).1
        have HW17 := Lib.hid hW17
        have HB17 := Lib.hid hb17
        have HC := Lib.hid hc
        have HSB2 : Hid (-1000000 * (((i + 1 : Nat)) : Int) ≤ rS + s ∧ rS + s ≤ 1000000 * (((i + 1 : Nat)) : Int)) := Lib.hid (by have := HSB.out; constructor <;> omega)
        have e5 : IntKind.i64.wrap (rS + s) = rS + s := by have := HSB2.out; rw [IntKind.wrap_i64]; omega
        have HT0 := Lib.hid t0'
        have HT1 := Lib.hid t1'
        have HS17 := Lib.hid hs17
        clear hr hrd hrc1 hrc2 hW17 hb17 hc t0' t1' hs17 hls hx
        go_upto_region 21 with fail
        obtain ⟨W16, hW16⟩ : ∃ W16, V.alloc (refO (.int .i64 (rN : Int)) (.int .i64 rS)) = W16 := ⟨_, rfl⟩
        have hb16 : Below V.heap.size V W16 := by rw [← hW16]; exact blkBelow V _ _
        have lt8 := fun {P : Addr} {v : Value} (h : V.cell? P = some v) => (hb16.cell (World.block_lt_of_cell? _ _ h)).trans h
        replace q2 := lt8 q2
        replace q4 := lt8 q4
        replace q7 := lt8 q7
        replace p2 := lt8 p2
        replace p3 := lt8 p3
        rw [show V.alloc (.cells #[.int .i64 (rN : Int), .int .i64 rS] 42) = W16 from hW16]
        have HW16 := Lib.hid hW16
        clear lt8 hW16 hb16
        go_upto_region 22 with fail
        rw [show W16 = V.alloc (refO (.int .i64 (rN : Int)) (.int .i64 rS)) from HW16.out.symm]
        clear q5 q6 q7 q8 p0 p1 p2 p3 hk0 e0
        rw [show (V.alloc (.cells #[.int .i64 (rN : Int), .int .i64 rS] 42)).alloc (.cells #[.int .i64 (c : Int), .int .i64 rS] 42) = W17 from HW17.out]
        clear q0 q1 q2 q3 q4 f0 f1 f2 f3
        obtain ⟨q0, q1, f0, f1⟩ := refO_cells ((HB17.out.block X hXl).trans HXV.out)
        obtain ⟨q2, q3, f2, f3⟩ := refO_cells ((HB17.out.block Y hYl).trans HYV.out)
        obtain ⟨p0, p1, _, _⟩ := refO_cells HT0.out
        obtain ⟨p2, p3, _, _⟩ := refO_cells HT1.out
        go_upto_region 24 with fail
        obtain ⟨W19, hW19⟩ : ∃ W19, (((W17.setCell ⟨X, 0, none⟩ (.int .i64 (rN : Int))).setCell ⟨X, 1, none⟩ (.int .i64 (rS + s))).setCell ⟨Y, 0, none⟩ (.int .i64 (c : Int))).setCell ⟨Y, 1, none⟩ (.int .i64 (rS + s)) = W19 := ⟨_, rfl⟩
        have x19 : W19.heap[X]? = some (refO (.int .i64 (rN : Int)) (.int .i64 (rS + s))) := by
          rw [← hW19]
          exact (set_oth _ _ _ (Nat.ne_of_lt hXY)).trans ((set_oth _ _ _ (Nat.ne_of_lt hXY)).trans (refO_fill ((HB17.out.block X hXl).trans HXV.out) _ _))
        have y19 : W19.heap[Y]? = some (refO (.int .i64 (c : Int)) (.int .i64 (rS + s))) := by
          rw [← hW19]
          exact refO_fill ((set_oth _ _ _ (Nat.ne_of_gt hXY)).trans ((set_oth _ _ _ (Nat.ne_of_gt hXY)).trans ((HB17.out.block Y hYl).trans HYV.out))) _ _
        have hb19 : Below w12.heap.size w12 W19 := by
          have h1 : w12.heap.size ≤ X := by rw [HXX.out]; exact Nat.le_refl _
          have h2 : w12.heap.size ≤ Y := by omega
          rw [← hW19]
          exact ((((below_seq HV12.out HB17.out).setCell (p := ⟨X, 0, none⟩) h1 _).setCell (p := ⟨X, 1, none⟩) h1 _).setCell (p := ⟨Y, 0, none⟩) h2 _).setCell (p := ⟨Y, 1, none⟩) h2 _
        rw [hW19]
        have HX19 := Lib.hid x19
        have HY19 := Lib.hid y19
        have HB19 := Lib.hid hb19
        clear hW19 x19 y19 hb19 q0 q1 q2 q3 f0 f1 f2 f3 p0 p1 p2 p3 e5
        have z0 := fun q : Later W19.heap.size W19 => (refO_cells ((q.2.block X (Array.getElem?_eq_some_iff.1 HX19.out).1).trans HX19.out)).1
        have z1 := fun q : Later W19.heap.size W19 => (refO_cells ((q.2.block X (Array.getElem?_eq_some_iff.1 HX19.out).1).trans HX19.out)).2.1
        have z2 := fun q : Later W19.heap.size W19 => (refO_cells ((q.2.block Y (Array.getElem?_eq_some_iff.1 HY19.out).1).trans HY19.out)).1
        have z3 := fun q : Later W19.heap.size W19 => (refO_cells ((q.2.block Y (Array.getElem?_eq_some_iff.1 HY19.out).1).trans HY19.out)).2.1
        have z4 := fun q : Later W19.heap.size W19 => HS.out q.1 (below_seq HB12.out (below_seq HB19.out q.2))
        have HOQ : Hid (∀ q : Later W19.heap.size W19, Calls Try.prog 16 #[.agg #[.slice (some ⟨kb, ko, none⟩) (2 * nn) oc], .agg #[.int .i64 (rN : Int), .int .i64 (rS + s)]] q.1 fun e w' => e = .returned (.agg #[.int .i64 (c : Int), .int .i64 (rS + s)]) ∧ Below q.1.heap.size q.1 w') := Lib.hid (fun q => by
          have h := HOX.out rN (rS + s) q.1 rn
          rw [HC.out] at h
          exact h)
        refine wp_region_later W19.heap.size W19 (by kernel_rfl) (by kernel_rfl) (Below.refl _ _) ?_
        repeat (go_big_quiet_step (first | (go_at_call 16; with_reducible exact later_call _ (Nat.le_refl _) (HOQ.out _))))
        refine wpQuiet_nil ?_
        rintro U ⟨⟨_, hU⟩, rfl⟩
        clear z0 z1 z2 z3 z4 HOQ
        have HUX := Lib.hid ((hU.block X (Array.getElem?_eq_some_iff.1 HX19.out).1).trans HX19.out)
        have HUY := Lib.hid ((hU.block Y (Array.getElem?_eq_some_iff.1 HY19.out).1).trans HY19.out)
        have HUB := Lib.hid (below_seq HB19.out hU)
        clear hU
        go_wp2_with fail
        go_roundw
        case rel => exact ⟨i + 1, rN, c, rS + s, by go_num, by omega, Lib.hid rn, Lib.hid HC.out.symm, HSB2, HUX, HUY, HUB⟩
        case measure => simp [intOf]; omega
      · have hyne : yn ≠ 0 := fun e => hls (List.length_eq_zero_iff.1 (by rw [← HYN.out]; exact e))
        have e9 : ((yn : Int) == 0) = false := by simp; omega
        obtain ⟨kk, hk0⟩ : ∃ k0 : Nat, Int.tmod p (M : Int) = (k0 : Int) := ⟨(Int.tmod p (M : Int)).toNat, (Int.toNat_of_nonneg (Int.tmod_nonneg _ hp0)).symm⟩
        have hkM : kk < M := by have := Int.tmod_lt_of_pos p (b := (M : Int)) (by omega); omega
        obtain ⟨r, hr⟩ : ∃ r, g.nx[kk]? = some r := ⟨_, List.getElem?_eq_getElem (by rw [HM.out]; exact hkM)⟩
        have hrd : refD g.k nn kk r = ⟨r.n + nn, r.s⟩ := refD_rest HOK.out hr (fun e => absurd e hls)
        obtain ⟨xb, xo, rfl, hrc1⟩ := HRA.out kk r hr
        obtain ⟨xb', xo', rfl, hrc2⟩ := HRB.out kk _ (nodeD_at hr)
        rw [hrd] at hrc2
        obtain ⟨p0, p1⟩ := hrc1 V HVV.out
        obtain ⟨p2, p3⟩ := hrc2 V HVV.out
        have rs := HSM2.out r (List.mem_of_getElem? hr)
        have rn := HWA.out r (List.mem_of_getElem? hr)
        rw [HNN.out] at rn
        obtain ⟨c, hc⟩ : ∃ c, r.n + nn = c := ⟨_, rfl⟩
        obtain ⟨rN, rS⟩ := r
        simp only at p0 p1 p2 p3 rs rn hc
        rw [hc] at p2
        replace p0 : V.cell? ⟨xb, xo + kk * 2, none⟩ = some (.int .i64 (rN : Int)) := p0
        replace p1 : V.cell? ⟨xb, xo + kk * 2 + 1, none⟩ = some (.int .i64 rS) := p1
        replace p2 : V.cell? ⟨xb', xo' + kk * 2, none⟩ = some (.int .i64 (c : Int)) := p2
        replace p3 : V.cell? ⟨xb', xo' + kk * 2 + 1, none⟩ = some (.int .i64 rS) := p3
        obtain ⟨W17, hW17⟩ : ∃ W17, (V.alloc (refO (.int .i64 (rN : Int)) (.int .i64 rS))).alloc (refO (.int .i64 (c : Int)) (.int .i64 rS)) = W17 := ⟨_, rfl⟩
        obtain ⟨hs17, hb17, t0', t1'⟩ := two_made hW17
        have hXl : X < V.heap.size := (Array.getElem?_eq_some_iff.1 HXV.out).1
        have hYl : Y < V.heap.size := (Array.getElem?_eq_some_iff.1 HYV.out).1
        have HW17 := Lib.hid hW17
        have HB17 := Lib.hid hb17
        have HC := Lib.hid hc
        have HSB2 : Hid (-1000000 * (((i + 1 : Nat)) : Int) ≤ rS + s ∧ rS + s ≤ 1000000 * (((i + 1 : Nat)) : Int)) := Lib.hid (by have := HSB.out; constructor <;> omega)
        have e5 : IntKind.i64.wrap (rS + s) = rS + s := by have := HSB2.out; rw [IntKind.wrap_i64]; omega
        have HT0 := Lib.hid t0'
        have HT1 := Lib.hid t1'
        have HS17 := Lib.hid hs17
        clear hr hrd hrc1 hrc2 hW17 hb17 hc t0' t1' hs17 hls hx
        go_upto_region 21 with fail
        obtain ⟨W16, hW16⟩ : ∃ W16, V.alloc (refO (.int .i64 (rN : Int)) (.int .i64 rS)) = W16 := ⟨_, rfl⟩
        have hb16 : Below V.heap.size V W16 := by rw [← hW16]; exact blkBelow V _ _
        have lt8 := fun {P : Addr} {v : Value} (h : V.cell? P = some v) => (hb16.cell (World.block_lt_of_cell? _ _ h)).trans h
        replace q2 := lt8 q2
        replace q4 := lt8 q4
        replace q7 := lt8 q7
        replace p2 := lt8 p2
        replace p3 := lt8 p3
        rw [show V.alloc (.cells #[.int .i64 (rN : Int), .int .i64 rS] 42) = W16 from hW16]
        have HW16 := Lib.hid hW16
        clear lt8 hW16 hb16
        go_upto_region 22 with fail
        rw [show W16 = V.alloc (refO (.int .i64 (rN : Int)) (.int .i64 rS)) from HW16.out.symm]
        clear q5 q6 q7 q8 p0 p1 p2 p3 hk0 e0
        rw [show (V.alloc (.cells #[.int .i64 (rN : Int), .int .i64 rS] 42)).alloc (.cells #[.int .i64 (c : Int), .int .i64 rS] 42) = W17 from HW17.out]
        clear q0 q1 q2 q3 q4 f0 f1 f2 f3
        obtain ⟨q0, q1, f0, f1⟩ := refO_cells ((HB17.out.block X hXl).trans HXV.out)
        obtain ⟨q2, q3, f2, f3⟩ := refO_cells ((HB17.out.block Y hYl).trans HYV.out)
        obtain ⟨p0, p1, _, _⟩ := refO_cells HT0.out
        obtain ⟨p2, p3, _, _⟩ := refO_cells HT1.out
        go_upto_region 24 with fail
        obtain ⟨W19, hW19⟩ : ∃ W19, (((W17.setCell ⟨X, 0, none⟩ (.int .i64 (rN : Int))).setCell ⟨X, 1, none⟩ (.int .i64 (rS + s))).setCell ⟨Y, 0, none⟩ (.int .i64 (c : Int))).setCell ⟨Y, 1, none⟩ (.int .i64 (rS + s)) = W19 := ⟨_, rfl⟩
        have x19 : W19.heap[X]? = some (refO (.int .i64 (rN : Int)) (.int .i64 (rS + s))) := by
          rw [← hW19]
          exact (set_oth _ _ _ (Nat.ne_of_lt hXY)).trans ((set_oth _ _ _ (Nat.ne_of_lt hXY)).trans (refO_fill ((HB17.out.block X hXl).trans HXV.out) _ _))
        have y19 : W19.heap[Y]? = some (refO (.int .i64 (c : Int)) (.int .i64 (rS + s))) := by
          rw [← hW19]
          exact refO_fill ((set_oth _ _ _ (Nat.ne_of_gt hXY)).trans ((set_oth _ _ _ (Nat.ne_of_gt hXY)).trans ((HB17.out.block Y hYl).trans HYV.out))) _ _
        have hb19 : Below w12.heap.size w12 W19 := by
          have h1 : w12.heap.size ≤ X := by rw [HXX.out]; exact Nat.le_refl _
          have h2 : w12.heap.size ≤ Y := by omega
          rw [← hW19]
          exact ((((below_seq HV12.out HB17.out).setCell (p := ⟨X, 0, none⟩) h1 _).setCell (p := ⟨X, 1, none⟩) h1 _).setCell (p := ⟨Y, 0, none⟩) h2 _).setCell (p := ⟨Y, 1, none⟩) h2 _
        rw [hW19]
        have HX19 := Lib.hid x19
        have HY19 := Lib.hid y19
        have HB19 := Lib.hid hb19
        clear hW19 x19 y19 hb19 q0 q1 q2 q3 f0 f1 f2 f3 p0 p1 p2 p3 e5
        have z0 := fun q : Later W19.heap.size W19 => (refO_cells ((q.2.block X (Array.getElem?_eq_some_iff.1 HX19.out).1).trans HX19.out)).1
        have z1 := fun q : Later W19.heap.size W19 => (refO_cells ((q.2.block X (Array.getElem?_eq_some_iff.1 HX19.out).1).trans HX19.out)).2.1
        have z2 := fun q : Later W19.heap.size W19 => (refO_cells ((q.2.block Y (Array.getElem?_eq_some_iff.1 HY19.out).1).trans HY19.out)).1
        have z3 := fun q : Later W19.heap.size W19 => (refO_cells ((q.2.block Y (Array.getElem?_eq_some_iff.1 HY19.out).1).trans HY19.out)).2.1
        have z4 := fun q : Later W19.heap.size W19 => HS.out q.1 (below_seq HB12.out (below_seq HB19.out q.2))
        have HOQ : Hid (∀ q : Later W19.heap.size W19, Calls Try.prog 16 #[.agg #[.slice (some ⟨kb, ko, none⟩) (2 * nn) oc], .agg #[.int .i64 (rN : Int), .int .i64 (rS + s)]] q.1 fun e w' => e = .returned (.agg #[.int .i64 (c : Int), .int .i64 (rS + s)]) ∧ Below q.1.heap.size q.1 w') := Lib.hid (fun q => by
          have h := HOX.out rN (rS + s) q.1 rn
          rw [HC.out] at h
          exact h)
        refine wp_region_later W19.heap.size W19 (by kernel_rfl) (by kernel_rfl) (Below.refl _ _) ?_
        repeat (go_big_quiet_step (first | (go_at_call 16; with_reducible exact later_call _ (Nat.le_refl _) (HOQ.out _))))
        refine wpQuiet_nil ?_
        rintro U ⟨⟨_, hU⟩, rfl⟩
        clear z0 z1 z2 z3 z4 HOQ
        have HUX := Lib.hid ((hU.block X (Array.getElem?_eq_some_iff.1 HX19.out).1).trans HX19.out)
        have HUY := Lib.hid ((hU.block Y (Array.getElem?_eq_some_iff.1 HY19.out).1).trans HY19.out)
        have HUB := Lib.hid (below_seq HB19.out hU)
        clear hU
        go_wp2_with fail
        go_roundw
        case rel => exact ⟨i + 1, rN, c, rS + s, by go_num, by omega, Lib.hid rn, Lib.hid HC.out.symm, HSB2, HUX, HUY, HUB⟩
        case measure => simp [intOf]; omega
    · obtain rfl : i = pn := by omega
      go_wp2_with fail
      go_ret
      exact ⟨rfl, HBW.out⟩
end Go.Proofs.Ytkjngbliomckiaa
