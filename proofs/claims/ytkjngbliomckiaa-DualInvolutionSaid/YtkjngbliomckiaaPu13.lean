/- Duals: the law DualKinds. (and what follows from it) -/
import Derived.Test.YtkjngbliomckiaaPu12

/- Duals: the law DualKinds. -/
namespace Go.Proofs.Ytkjngbliomckiaa
open Go.RowKit Go.Deep Go.Shelf

set_option maxHeartbeats 4000000 in
set_option maxRecDepth 100000 in
theorem DualKinds_any (k : Int) (w : World) :
    Calls Try.prog 5 #[.int .i64 k] w fun e w' => e = .returned (.bool true) ∧ Below w.heap.size w w' := by
  have HA := Lib.hid dawake_any
  by_cases h4 : k = 4
  · subst h4
    have HK1 : Hid (∀ W, Calls Try.prog 14 #[.int .i64 4] W fun e w' => e = .returned (.int .i64 5) ∧ Below W.heap.size W w') := Lib.hid (fun W => dkind_any 4 W)
    have HK2 : Hid (∀ W, Calls Try.prog 14 #[.int .i64 5] W fun e w' => e = .returned (.int .i64 4) ∧ Below W.heap.size W w') := Lib.hid (fun W => dkind_any 5 W)
    go_enter Try.func5, Try.ntmps5
    go_wp2_with (first | (go_at_call 7; refine (HA.out _).mono ?_; rintro en w1 ⟨rfl, hb1⟩; have HB := Lib.hid hb1; clear hb1) | (go_at_call 14; with_reducible refine (HK1.out _).mono ?_; rintro en w2 ⟨rfl, hb2⟩; have HB2 := Lib.hid (below_seq HB.out hb2); clear hb2 HB; have HB := HB2; clear HB2) | (go_at_call 14; with_reducible refine (HK2.out _).mono ?_; rintro en w2 ⟨rfl, hb2⟩; have HB2 := Lib.hid (below_seq HB.out hb2); clear hb2 HB; have HB := HB2; clear HB2))
    go_ret
    exact ⟨rfl, HB.out⟩
  by_cases h5 : k = 5
  · subst h5
    have HK1 : Hid (∀ W, Calls Try.prog 14 #[.int .i64 5] W fun e w' => e = .returned (.int .i64 4) ∧ Below W.heap.size W w') := Lib.hid (fun W => dkind_any 5 W)
    have HK2 : Hid (∀ W, Calls Try.prog 14 #[.int .i64 4] W fun e w' => e = .returned (.int .i64 5) ∧ Below W.heap.size W w') := Lib.hid (fun W => dkind_any 4 W)
    go_enter Try.func5, Try.ntmps5
    go_wp2_with (first | (go_at_call 7; refine (HA.out _).mono ?_; rintro en w1 ⟨rfl, hb1⟩; have HB := Lib.hid hb1; clear hb1) | (go_at_call 14; with_reducible refine (HK1.out _).mono ?_; rintro en w2 ⟨rfl, hb2⟩; have HB2 := Lib.hid (below_seq HB.out hb2); clear hb2 HB; have HB := HB2; clear HB2) | (go_at_call 14; with_reducible refine (HK2.out _).mono ?_; rintro en w2 ⟨rfl, hb2⟩; have HB2 := Lib.hid (below_seq HB.out hb2); clear hb2 HB; have HB := HB2; clear HB2))
    go_ret
    exact ⟨rfl, HB.out⟩
  by_cases h6 : k = 6
  · subst h6
    have HK1 : Hid (∀ W, Calls Try.prog 14 #[.int .i64 6] W fun e w' => e = .returned (.int .i64 7) ∧ Below W.heap.size W w') := Lib.hid (fun W => dkind_any 6 W)
    have HK2 : Hid (∀ W, Calls Try.prog 14 #[.int .i64 7] W fun e w' => e = .returned (.int .i64 6) ∧ Below W.heap.size W w') := Lib.hid (fun W => dkind_any 7 W)
    go_enter Try.func5, Try.ntmps5
    go_wp2_with (first | (go_at_call 7; refine (HA.out _).mono ?_; rintro en w1 ⟨rfl, hb1⟩; have HB := Lib.hid hb1; clear hb1) | (go_at_call 14; with_reducible refine (HK1.out _).mono ?_; rintro en w2 ⟨rfl, hb2⟩; have HB2 := Lib.hid (below_seq HB.out hb2); clear hb2 HB; have HB := HB2; clear HB2) | (go_at_call 14; with_reducible refine (HK2.out _).mono ?_; rintro en w2 ⟨rfl, hb2⟩; have HB2 := Lib.hid (below_seq HB.out hb2); clear hb2 HB; have HB := HB2; clear HB2))
    go_ret
    exact ⟨rfl, HB.out⟩
  by_cases h7 : k = 7
  · subst h7
    have HK1 : Hid (∀ W, Calls Try.prog 14 #[.int .i64 7] W fun e w' => e = .returned (.int .i64 6) ∧ Below W.heap.size W w') := Lib.hid (fun W => dkind_any 7 W)
    have HK2 : Hid (∀ W, Calls Try.prog 14 #[.int .i64 6] W fun e w' => e = .returned (.int .i64 7) ∧ Below W.heap.size W w') := Lib.hid (fun W => dkind_any 6 W)
    go_enter Try.func5, Try.ntmps5
    go_wp2_with (first | (go_at_call 7; refine (HA.out _).mono ?_; rintro en w1 ⟨rfl, hb1⟩; have HB := Lib.hid hb1; clear hb1) | (go_at_call 14; with_reducible refine (HK1.out _).mono ?_; rintro en w2 ⟨rfl, hb2⟩; have HB2 := Lib.hid (below_seq HB.out hb2); clear hb2 HB; have HB := HB2; clear HB2) | (go_at_call 14; with_reducible refine (HK2.out _).mono ?_; rintro en w2 ⟨rfl, hb2⟩; have HB2 := Lib.hid (below_seq HB.out hb2); clear hb2 HB; have HB := HB2; clear HB2))
    go_ret
    exact ⟨rfl, HB.out⟩
  by_cases hlo : k < 4
  · have hd : decide (k < 4) = true := decide_eq_true hlo
    have HK1 : Hid (∀ W, Calls Try.prog 14 #[.int .i64 k] W fun e w' => e = .returned (.int .i64 k) ∧ Below W.heap.size W w') := Lib.hid (fun W => by have h := dkind_any k W; rwa [kindD_other (.inl hlo)] at h)
    have HK2 : Hid (∀ W, Calls Try.prog 14 #[.int .i64 k] W fun e w' => e = .returned (.int .i64 k) ∧ Below W.heap.size W w') := Lib.hid (fun W => by have h := dkind_any k W; rwa [kindD_other (.inl hlo)] at h)
    clear h4 h5 h6 h7
    go_enter Try.func5, Try.ntmps5
    go_wp2_with (first | (go_at_call 7; refine (HA.out _).mono ?_; rintro en w1 ⟨rfl, hb1⟩; have HB := Lib.hid hb1; clear hb1) | (go_at_call 14; with_reducible refine (HK1.out _).mono ?_; rintro en w2 ⟨rfl, hb2⟩; have HB2 := Lib.hid (below_seq HB.out hb2); clear hb2 HB; have HB := HB2; clear HB2) | (go_at_call 14; with_reducible refine (HK2.out _).mono ?_; rintro en w2 ⟨rfl, hb2⟩; have HB2 := Lib.hid (below_seq HB.out hb2); clear hb2 HB; have HB := HB2; clear HB2))
    go_ret
    exact ⟨rfl, HB.out⟩
  · have hhi : 8 ≤ k := by omega
    have hd : decide (k < 4) = false := decide_eq_false hlo
    have hd2 : decide (7 < k) = true := decide_eq_true (by omega)
    have HK1 : Hid (∀ W, Calls Try.prog 14 #[.int .i64 k] W fun e w' => e = .returned (.int .i64 k) ∧ Below W.heap.size W w') := Lib.hid (fun W => by have h := dkind_any k W; rwa [kindD_other (.inr hhi)] at h)
    have HK2 : Hid (∀ W, Calls Try.prog 14 #[.int .i64 k] W fun e w' => e = .returned (.int .i64 k) ∧ Below W.heap.size W w') := Lib.hid (fun W => by have h := dkind_any k W; rwa [kindD_other (.inr hhi)] at h)
    clear h4 h5 h6 h7
    go_enter Try.func5, Try.ntmps5
    go_wp2_with (first | (go_at_call 7; refine (HA.out _).mono ?_; rintro en w1 ⟨rfl, hb1⟩; have HB := Lib.hid hb1; clear hb1) | (go_at_call 14; with_reducible refine (HK1.out _).mono ?_; rintro en w2 ⟨rfl, hb2⟩; have HB2 := Lib.hid (below_seq HB.out hb2); clear hb2 HB; have HB := HB2; clear HB2) | (go_at_call 14; with_reducible refine (HK2.out _).mono ?_; rintro en w2 ⟨rfl, hb2⟩; have HB2 := Lib.hid (below_seq HB.out hb2); clear hb2 HB; have HB := HB2; clear HB2))
    go_ret
    exact ⟨rfl, HB.out⟩
end Go.Proofs.Ytkjngbliomckiaa

/- Duals: the law DualInvolution. -/
namespace Go.Proofs.Ytkjngbliomckiaa
open Go.RowKit Go.Deep Go.Shelf

theorem inv_facts {ns : List GNode} {a : Nat} (h : a < 2 * ns.length) (s : Int) : ∃ (b : Nat) (g g' : GNode), ofD ns.length ⟨a, s⟩ = ⟨b, s⟩ ∧ ofD ns.length ⟨b, s⟩ = ⟨a, s⟩ ∧ b < 2 * ns.length ∧ b ≠ a ∧ (closeG ns)[a]? = some g ∧ (closeG ns)[b]? = some g' ∧ g'.k = kindD g.k ∧ g'.p = g.p := by
  by_cases hlt : a < ns.length
  · obtain ⟨g, hg⟩ : ∃ g, ns[a]? = some g := ⟨_, List.getElem?_eq_getElem hlt⟩
    refine ⟨a + ns.length, g, nodeD ns.length g, by simp [ofD, hlt], by simp only [ofD]; rw [if_neg (by omega), Nat.add_sub_cancel], by omega, by omega, by rw [closeG_lo hlt]; exact hg, ?_, rfl, rfl⟩
    rw [Nat.add_comm]; exact closeG_hi hg
  · obtain ⟨g, hg⟩ : ∃ g, ns[a - ns.length]? = some g := ⟨_, List.getElem?_eq_getElem (by omega)⟩
    have h1 := closeG_hi hg
    rw [show ns.length + (a - ns.length) = a by omega] at h1
    refine ⟨a - ns.length, nodeD ns.length g, g, by simp [ofD, hlt], ?_, by omega, by omega, h1, by rw [closeG_lo (by omega)]; exact hg, (kindD_twice g.k).symm, rfl⟩
    simp only [ofD]
    rw [if_pos (by omega), show a - ns.length + ns.length = a by omega]

set_option maxHeartbeats 16000000 in
set_option maxRecDepth 100000 in
theorem DualInvolution_any (ts : List Ty) (v : Value) (k : Int) (hk : 0 ≤ k ∧ k ≤ 255) (s : Int) (hs : -32768 ≤ s ∧ s ≤ 32767) (w : World) (hts : TySl (fun k => k < w.heap.size) w v ts) :
    Calls Try.prog 4 #[v, .int .u8 k, .int .i16 s] w fun e w' => e = .returned (.bool true) ∧ Below w.heap.size w w' := by
  obtain ⟨ta, len, tc, rfl, hlen, _, _⟩ := hts.open
  have HL := Lib.hid hlen.out
  have HTS := Lib.hid (fun (W : World) (hW : Below w.heap.size w W) => (hts.keep (hW.keeps'.mono (fun k hk => hk))).mono (C := fun k => k < W.heap.size) (fun k hk => Nat.lt_of_lt_of_le hk hW.size))
  have HAW := Lib.hid (fun (W : World) (_ : Below w.heap.size w W) => dawake_any W)
  have HFW := Lib.hid (fun (W : World) (hW : Below w.heap.size w W) => few_any ts 5 60 (by decide) _ W (HTS.out W hW))
  obtain ⟨fb, hfb⟩ : ∃ b, fewB ts 5 60 = b := ⟨_, rfl⟩
  rw [hfb] at HFW
  have HFB := Lib.hid hfb
  clear hts hlen hfb
  cases fb
  · go_enter Try.func4, Try.ntmps4
    go_upto_region 2 with (first | (go_at_call 7; refine (HAW.out _ (Below.refl _ _)).mono ?_; rintro en w3 ⟨rfl, hb3⟩; have HB3 := Lib.hid hb3; clear hb3) | (go_at_call 8; refine (HFW.out _ HB3.out).mono ?_; rintro en w4 ⟨rfl, hb4⟩; have HB4 := Lib.hid (below_seq HB3.out hb4); clear hb4))
    go_wp2_with (go_at_call 7; refine (HAW.out _ HB4.out).mono ?_; rintro en w5 ⟨rfl, hb5⟩)
    go_ret
    exact ⟨rfl, below_seq HB4.out hb5⟩
  by_cases h0 : len = 0
  · subst h0
    go_enter Try.func4, Try.ntmps4
    go_upto_region 2 with (first | (go_at_call 7; refine (HAW.out _ (Below.refl _ _)).mono ?_; rintro en w3 ⟨rfl, hb3⟩; have HB3 := Lib.hid hb3; clear hb3) | (go_at_call 8; refine (HFW.out _ HB3.out).mono ?_; rintro en w4 ⟨rfl, hb4⟩; have HB4 := Lib.hid (below_seq HB3.out hb4); clear hb4))
    go_wp2_with (go_at_call 7; refine (HAW.out _ HB4.out).mono ?_; rintro en w5 ⟨rfl, hb5⟩)
    go_ret
    exact ⟨rfl, below_seq HB4.out hb5⟩
  have h0i : ((len : Int) == 0) = false := by simpa using h0
  obtain ⟨hl10, hsz, hdp, hok, hnr, hd8⟩ := few_facts HFB.out (by decide)
  have hnl : (gNodes ts).length ≤ 2000 := by
    have h := pnods_ok (e := fun _ => 0) ts 0 hok
    have := Ty.gcnts_le ts
    unfold gNodes
    omega
  have hnx : ∀ g ∈ gNodes ts, g.nx.length ≤ 1000000 ∧ g.ls.length ≤ 400000000 := fun g hg => by
    have h1 := pnods_nx (fun _ => 0) ts 0 g hg
    have h2 := labels_all hnr g hg
    exact ⟨by omega, by omega⟩
  have hrl : (gRefs ts).length = len := by unfold gRefs; rw [prefs_len, HL.out]
  have hlen10 : len ≤ 10 := by rw [HL.out]; omega
  have hwf := hwf_all hnr hok
  have hrb := refs_all hnr hok
  have hkn := okN_all hnr
  obtain ⟨rs, hrs⟩ : ∃ rs, gRefs ts = rs := ⟨_, rfl⟩
  have hpos : 0 < (gNodes ts).length := by
    obtain ⟨r, hr⟩ : ∃ r, (gRefs ts)[0]? = some r := ⟨_, List.getElem?_eq_getElem (by omega)⟩
    have := (hrb r (List.mem_of_getElem? hr)).1
    omega
  have HGR := Lib.hid (fun (W : World) (hW : Below w.heap.size w W) => graph_any ts (.slice ta len tc) W (HTS.out W hW) (by omega) hd8 hnr hnl hnx (by omega))
  obtain ⟨ns, hns⟩ : ∃ ns, gNodes ts = ns := ⟨_, rfl⟩
  rw [hrs, hns] at HGR
  rw [hns] at hnl hnx hwf hpos
  have HNX := Lib.hid hnx
  have HWF := Lib.hid hwf
  clear hl10 hsz hdp hok hnr hd8 hnx hrl hrs hns hwf hrb hkn HFB HTS
  obtain ⟨N, hN⟩ : ∃ N, ns.length = N := ⟨_, rfl⟩
  rw [hN] at hnl hpos
  have HNN := Lib.hid hN
  clear hN h0
  go_enter Try.func4, Try.ntmps4
  go_upto_region 3 with (first | (go_at_call 7; refine (HAW.out _ (Below.refl _ _)).mono ?_; rintro en w3 ⟨rfl, hb3⟩; have HB3 := Lib.hid hb3; clear hb3) | (go_at_call 8; refine (HFW.out _ HB3.out).mono ?_; rintro en w4 ⟨rfl, hb4⟩; have HB4 := Lib.hid (below_seq HB3.out hb4); clear hb4))
  clear h0i
  go_upto_region 4 with (go_at_call 9; go_loud (refine (HGR.out _ HB4.out).mono ?_; rintro en w6 ⟨na, nn, nc, ra, rn, rc, rfl, hn6, hr6, hb6⟩; have HN6 := Lib.hid hn6; have HB6 := Lib.hid (below_seq HB4.out hb6); clear hn6 hr6 hb6))
  obtain ⟨W7, hW7⟩ : ∃ W7, w6.alloc (.cells #[.slice na nn nc] 27) = W7 := ⟨_, rfl⟩
  have hb7 : Below w6.heap.size w6 W7 := by rw [← hW7]; exact blkBelow w6 _ _
  have x7 : W7.heap[w6.heap.size]? = some (.cells #[.slice na nn nc] 27 (0, 0)) := by rw [← hW7]; exact World.alloc_heap_new _ _
  have hs7 : w6.heap.size < W7.heap.size := (Array.getElem?_eq_some_iff.1 x7).1
  have HBX := Lib.hid (fun (W : World) (hW : Below W7.heap.size W7 W) => show W.cell? ⟨w6.heap.size, 0, none⟩ = some (.slice na nn nc) from by
    have a1 : W.heap[w6.heap.size]? = _ := (hW.block _ hs7).trans x7
    simp [World.cell?, a1])
  have hn7 : NodeSl (fun k => k < W7.heap.size) W7 (.slice na nn nc) ns := (HN6.out.keep (hb7.keeps'.mono (fun k hk => hk))).mono (fun k hk => Nat.lt_of_lt_of_le hk hb7.size)
  obtain ⟨_, _, _, e7, hl7, _, _⟩ := hn7.open
  simp only [Value.slice.injEq] at e7
  obtain ⟨rfl, rfl, rfl⟩ := e7
  obtain rfl : nn = N := hl7.out.trans HNN.out
  have HCL := Lib.hid (close_any ns na nn nc W7 hn7 (by rw [HNN.out]; omega) HNX.out HWF.out)
  have HB7 : Hid (Below w.heap.size w W7) := Lib.hid (below_seq HB6.out hb7)
  have g7 := HBX.out W7 (Below.refl _ _)
  rw [hW7]
  clear hW7 hb7 x7 hs7 hn7 hl7 HN6
  go_upto_region 5 with (go_at_call 12; go_loud (refine HCL.out.mono ?_; rintro en w10 ⟨oa, on, oc, rfl, hn10, hb10⟩; have HN10 := Lib.hid hn10; have HB10 := Lib.hid hb10; clear hn10 hb10))
  clear g7
  obtain ⟨W11, hW11⟩ : ∃ W11, w10.alloc (.cells #[.slice oa on oc] 27) = W11 := ⟨_, rfl⟩
  have hb11 : Below w10.heap.size w10 W11 := by rw [← hW11]; exact blkBelow w10 _ _
  have x11 : W11.heap[w10.heap.size]? = some (grO oa on oc) := by rw [← hW11]; exact World.alloc_heap_new _ _
  have hs11 : w10.heap.size < W11.heap.size := (Array.getElem?_eq_some_iff.1 x11).1
  have hn11 : NodeSl (fun k => k < W11.heap.size) W11 (.slice oa on oc) (closeG ns) := (HN10.out.keep (hb11.keeps'.mono (fun k hk => hk))).mono (fun k hk => Nat.lt_of_lt_of_le hk hb11.size)
  obtain ⟨a, ha⟩ : ∃ a : Nat, Int.tmod k (2 * (nn : Int)) = (a : Int) := ⟨(Int.tmod k (2 * (nn : Int))).toNat, (Int.toNat_of_nonneg (Int.tmod_nonneg _ hk.1)).symm⟩
  have hal : a < 2 * nn := by have := Int.tmod_lt_of_pos k (b := 2 * (nn : Int)) (by omega); omega
  obtain ⟨b, g, g', eo1, eo2, hbl, hne, hga, hgb, hgk, hgp⟩ := inv_facts (ns := ns) (a := a) (by rw [HNN.out]; exact hal) s
  rw [HNN.out] at eo1 eo2 hbl
  obtain ⟨-, hon, kb, ko, lv, xa, xc, rfl, hcl, -⟩ := node_at hn11 hga
  obtain ⟨-, -, kb', ko', lv', xa', xc', ek, hcl', -⟩ := node_at hn11 hgb
  obtain ⟨rfl, rfl, -⟩ := Addr.mk.inj (Option.some.inj ek)
  obtain rfl : on = 2 * nn := by rw [hon, closeG_len, HNN.out]
  rw [hgk, hgp] at hcl'
  have HS : Hid (∀ W, Below W11.heap.size W11 W → W.cell? ⟨w10.heap.size, 0, none⟩ = some (.slice (some ⟨kb, ko, none⟩) (2 * nn) oc) ∧ W.cell? ⟨kb, ko + a * 4, none⟩ = some (.int .i64 g.k) ∧ W.cell? ⟨kb, ko + a * 4 + 1, none⟩ = some (.int .i64 g.p) ∧ W.cell? ⟨kb, ko + b * 4, none⟩ = some (.int .i64 (kindD g.k)) ∧ W.cell? ⟨kb, ko + b * 4 + 1, none⟩ = some (.int .i64 g.p)) := Lib.hid (fun W hW => by
    have a1 : W.heap[w10.heap.size]? = _ := (hW.block _ hs11).trans x11
    obtain ⟨b0, b1, _⟩ := hcl W hW
    obtain ⟨c0, c1, _⟩ := hcl' W hW
    exact ⟨by simp [World.cell?, a1], b0, b1, c0, c1⟩)
  have HB11 : Hid (Below w.heap.size w W11) := Lib.hid (below_seq HB7.out (below_seq HB10.out hb11))
  have HBX11 := Lib.hid (HBX.out W11 (below_seq HB10.out hb11))
  have HO1 : Hid (∀ W, Calls Try.prog 16 #[.agg #[.slice (some ⟨kb, ko, none⟩) (2 * nn) oc], .agg #[.int .i64 (a : Int), .int .i64 s]] W fun e w' => e = .returned (.agg #[.int .i64 (b : Int), .int .i64 s]) ∧ Below W.heap.size W w') := Lib.hid (fun W => by
    have h := of_any (some ⟨kb, ko, none⟩) nn oc a s W (by omega) (by omega)
    rw [eo1] at h
    exact h)
  have HO2 : Hid (∀ W, Calls Try.prog 16 #[.agg #[.slice (some ⟨kb, ko, none⟩) (2 * nn) oc], .agg #[.int .i64 (b : Int), .int .i64 s]] W fun e w' => e = .returned (.agg #[.int .i64 (a : Int), .int .i64 s]) ∧ Below W.heap.size W w') := Lib.hid (fun W => by
    have h := of_any (some ⟨kb, ko, none⟩) nn oc b s W (by omega) (by omega)
    rw [eo2] at h
    exact h)
  have HKD := Lib.hid (fun W => dkind_any g.k W)
  rw [show w10.alloc (.cells #[.slice (some ⟨kb, ko, none⟩) (2 * nn) oc] 27) = W11 from hW11]
  clear hW11 hb11 x11 hs11 hn11 hon hcl hcl' ek hga hgb hgk hgp eo1 eo2
  obtain ⟨a0, a1, a2, a3, a4⟩ := HS.out W11 (Below.refl _ _)
  have a5 := HBX11.out
  have hz : ((2 * (nn : Int)) == 0) = false := by simp; omega
  have hz2 : decide (2 * (nn : Int) = 0) = false := by simp; omega
  have hz3 : ¬ (2 * (nn : Int) = 0) := by omega
  go_upto_region 8 with fail
  clear hz hz2 hz3 a1 a2 a3 a4 a5
  obtain ⟨W12, hW12⟩ : ∃ W12, W11.alloc (refO (.int .i64 (a : Int)) (.int .i64 s)) = W12 := ⟨_, rfl⟩
  have hb12 : Below W11.heap.size W11 W12 := by rw [← hW12]; exact blkBelow W11 _ _
  have x12 : W12.heap[W11.heap.size]? = some (refO (.int .i64 (a : Int)) (.int .i64 s)) := by rw [← hW12]; exact World.alloc_heap_new _ _
  have hs12 : W11.heap.size < W12.heap.size := (Array.getElem?_eq_some_iff.1 x12).1
  obtain ⟨r0, r1, _, _⟩ := refO_cells x12
  obtain ⟨a0, _, _, _, _⟩ := HS.out W12 hb12
  have HB12 := Lib.hid hb12
  have HX12 := Lib.hid x12
  rw [show W11.alloc (.cells #[.int .i64 (a : Int), .int .i64 s] 42) = W12 from hW12]
  clear hW12 hb12 x12
  go_upto_region 9 with (go_at_call 16; go_loud (refine (HO1.out _).mono ?_; rintro en w13 ⟨rfl, hb13⟩; have HB13 := Lib.hid hb13; clear hb13))
  clear a0 r0 r1
  obtain ⟨W14, hW14⟩ : ∃ W14, w13.alloc (refO (.int .i64 (b : Int)) (.int .i64 s)) = W14 := ⟨_, rfl⟩
  have hb14 : Below w13.heap.size w13 W14 := by rw [← hW14]; exact blkBelow w13 _ _
  have x14 : W14.heap[w13.heap.size]? = some (refO (.int .i64 (b : Int)) (.int .i64 s)) := by rw [← hW14]; exact World.alloc_heap_new _ _
  have hs14 : w13.heap.size < W14.heap.size := (Array.getElem?_eq_some_iff.1 x14).1
  have HQ : Hid (∀ W, Below W14.heap.size W14 W → (W.cell? ⟨W11.heap.size, 0, none⟩ = some (.int .i64 (a : Int)) ∧ W.cell? ⟨W11.heap.size, 1, none⟩ = some (.int .i64 s)) ∧ W.cell? ⟨w13.heap.size, 0, none⟩ = some (.int .i64 (b : Int)) ∧ W.cell? ⟨w13.heap.size, 1, none⟩ = some (.int .i64 s)) := Lib.hid (fun W hW => by
    have hw := below_seq HB13.out (below_seq hb14 hW)
    obtain ⟨q0, q1, _, _⟩ := refO_cells ((hw.block _ hs12).trans HX12.out)
    obtain ⟨q2, q3, _, _⟩ := refO_cells ((hW.block _ hs14).trans x14)
    exact ⟨⟨q0, q1⟩, q2, q3⟩)
  have HB14 : Hid (Below W11.heap.size W11 W14) := Lib.hid (below_seq HB12.out (below_seq HB13.out hb14))
  rw [show w13.alloc (.cells #[.int .i64 (b : Int), .int .i64 s] 42) = W14 from hW14]
  clear hW14 hb14 x14 hs12 hs14
  obtain ⟨⟨r0, r1⟩, r2, r3⟩ := HQ.out W14 (Below.refl _ _)
  obtain ⟨a0, _, _, _, _⟩ := HS.out W14 HB14.out
  have hd1 : decide ((b : Int) < 0) = false := by simp
  have hd2 : decide (2 * (nn : Int) ≤ (b : Int)) = false := by simp; omega
  go_upto_region 11 with fail
  clear r0 r1 r2 r3 a0 hd1 hd2
  have hd3 : ((b : Int) == (a : Int)) = false := by simp; omega
  have hd4 : decide ((b : Int) = (a : Int)) = false := by simp; omega
  have hd5 : ((b : Int) != (a : Int)) = true := by simp; omega
  have hd6 : decide (b = a) = false := by simp; omega
  have hd7 : (b == a) = false := by simp; omega
  have hd8 : (b != a) = true := by simp; omega
  have f0 := fun q : Later W14.heap.size W14 => (HQ.out q.1 q.2).1.1
  have f1 := fun q : Later W14.heap.size W14 => (HQ.out q.1 q.2).1.2
  have f2 := fun q : Later W14.heap.size W14 => (HQ.out q.1 q.2).2.1
  have f3 := fun q : Later W14.heap.size W14 => (HQ.out q.1 q.2).2.2
  have f4 := fun q : Later W14.heap.size W14 => (HS.out q.1 (below_seq HB14.out q.2)).1
  have f5 := fun q : Later W14.heap.size W14 => (HS.out q.1 (below_seq HB14.out q.2)).2.1
  have f6 := fun q : Later W14.heap.size W14 => (HS.out q.1 (below_seq HB14.out q.2)).2.2.1
  have f7 := fun q : Later W14.heap.size W14 => (HS.out q.1 (below_seq HB14.out q.2)).2.2.2.1
  have f8 := fun q : Later W14.heap.size W14 => (HS.out q.1 (below_seq HB14.out q.2)).2.2.2.2
  have HOQ := Lib.hid (fun q : Later W14.heap.size W14 => HO2.out q.1)
  have HKQ := Lib.hid (fun q : Later W14.heap.size W14 => HKD.out q.1)
  refine wp_region_later W14.heap.size W14 (by kernel_rfl) (by kernel_rfl) (Below.refl _ _) ?_
  repeat (go_big_quiet_step (first | (go_at_call 16; with_reducible exact later_call _ (Nat.le_refl _) (HOQ.out _)) | (go_at_call 14; with_reducible exact later_call _ (Nat.le_refl _) (HKQ.out _))))
  refine wpQuiet_nil ?_
  rintro _ ⟨⟨wD, hbD⟩, rfl⟩
  clear f0 f1 f2 f3 f4 f5 f6 f7 f8 HOQ HKQ
  go_wp2_with fail
  go_ret
  exact ⟨rfl, below_seq HB11.out (below_seq HB14.out hbD)⟩
end Go.Proofs.Ytkjngbliomckiaa
