/- Graphs: the law's comparison of a graph with the reference's. (and what follows from it) -/
import Derived.Test.YtkjngbliomckiaaPu8
import Derived.Test.YtkjngbliomckiaaPu10
import Derived.Test.YtkjngbliomckiaaPu15
import Derived.Test.YtkjngbliomckiaaPu12
import Derived.Test.YtkjngbliomckiaaPu18

/- Graphs: the law's comparison of a graph with the reference's. -/
namespace Go.Proofs.Ytkjngbliomckiaa
open Go.RowKit Go.Deep Go.Shelf

set_option maxHeartbeats 8000000 in
set_option maxRecDepth 100000 in
theorem dsame_any (ns : List GNode) (na : Option Addr) (nn nc : Nat) (ma : Option Addr) (mn mc : Nat) (w : World) (h1 : NodeSl (fun k => k < w.heap.size) w (.slice na nn nc) ns) (h2 : NodeSl (fun k => k < w.heap.size) w (.slice ma mn mc) ns) (hl : ns.length ≤ 1000000) (hx : ∀ g ∈ ns, g.nx.length ≤ 1000000) :
    Calls Try.prog 11 #[.agg #[.slice na nn nc], .slice ma mn mc] w fun e w' => e = .returned (.bool true) ∧ Below w.heap.size w w' := by
  obtain ⟨_, _, _, e, hln, _, hg1⟩ := h1.open
  simp only [Value.slice.injEq] at e
  obtain ⟨rfl, rfl, rfl⟩ := e
  obtain ⟨_, _, _, e, hlm, _, hg2⟩ := h2.open
  simp only [Value.slice.injEq] at e
  obtain ⟨rfl, rfl, rfl⟩ := e
  obtain rfl : mn = nn := hlm.out.trans hln.out.symm
  have hnn : mn ≤ 1000000 := by have := hln.out; omega
  obtain ⟨W1, hW1⟩ : ∃ W1, w.alloc (.cells #[.slice na mn nc] 27) = W1 := ⟨_, rfl⟩
  have hb1 : Below w.heap.size w W1 := by rw [← hW1]; exact blkBelow w _ _
  have hs1 : W1.heap.size = w.heap.size + 1 := by rw [← hW1]; simp
  have x1 : W1.heap[w.heap.size]? = some (.cells #[.slice na mn nc] 27 (0, 0)) := by rw [← hW1]; exact World.alloc_heap_new _ _
  have HBX := Lib.hid (fun (W : World) (hW : Below W1.heap.size W1 W) => show W.cell? ⟨w.heap.size, 0, none⟩ = some (.slice na mn nc) from by
    have a1 : W.heap[w.heap.size]? = _ := (hW.block _ (by omega)).trans x1
    simp [World.cell?, a1])
  have HG : Hid (∀ (j : Nat) (g : GNode), ns[j]? = some g → ∃ kb ko kb' ko' la ln lc la' ln' lc' xa xc xa' xc', na = some ⟨kb, ko, none⟩ ∧ ma = some ⟨kb', ko', none⟩ ∧ (∀ W, Below w.heap.size w W → (W.cell? ⟨kb, ko + j * 4, none⟩ = some (.int .i64 g.k) ∧ W.cell? ⟨kb, ko + j * 4 + 1, none⟩ = some (.int .i64 g.p) ∧ W.cell? ⟨kb, ko + j * 4 + 2, none⟩ = some (.slice la ln lc) ∧ W.cell? ⟨kb, ko + j * 4 + 3, none⟩ = some (.slice xa g.nx.length xc)) ∧ (W.cell? ⟨kb', ko' + j * 4, none⟩ = some (.int .i64 g.k) ∧ W.cell? ⟨kb', ko' + j * 4 + 1, none⟩ = some (.int .i64 g.p) ∧ W.cell? ⟨kb', ko' + j * 4 + 2, none⟩ = some (.slice la' ln' lc') ∧ W.cell? ⟨kb', ko' + j * 4 + 3, none⟩ = some (.slice xa' g.nx.length xc')) ∧ StrSl (fun k => k < w.heap.size) W (.slice la ln lc) g.ls ∧ StrSl (fun k => k < w.heap.size) W (.slice la' ln' lc') g.ls) ∧ ∀ (q : Nat) (r : GRef), g.nx[q]? = some r → ∃ rb ro rb' ro', xa = some ⟨rb, ro, none⟩ ∧ xa' = some ⟨rb', ro', none⟩ ∧ ∀ W, Below w.heap.size w W → W.cell? ⟨rb, ro + q * 2, none⟩ = some (.int .i64 r.n) ∧ W.cell? ⟨rb, ro + q * 2 + 1, none⟩ = some (.int .i64 r.s) ∧ W.cell? ⟨rb', ro' + q * 2, none⟩ = some (.int .i64 r.n) ∧ W.cell? ⟨rb', ro' + q * 2 + 1, none⟩ = some (.int .i64 r.s)) := Lib.hid (fun j g hj => by
    obtain ⟨kb, ko, e1, hkb, n0, n1, lv, nv, n2, n3, n4, n5⟩ := hg1 j g hj
    obtain ⟨kb', ko', e2, hkb', m0, m1, lv', nv', m2, m3, m4, m5⟩ := hg2 j g hj
    obtain ⟨la, ln, lc, rfl, _⟩ := n4.open
    obtain ⟨la', ln', lc', rfl, _⟩ := m4.open
    obtain ⟨xa, xn, xc, rfl, hxn, _, hgx⟩ := n5.open
    obtain ⟨xa', xn', xc', rfl, hxn', _, hgx'⟩ := m5.open
    rw [hxn.out] at n3
    rw [hxn'.out] at m3
    refine ⟨kb, ko, kb', ko', la, ln, lc, la', ln', lc', xa, xc, xa', xc', e1, e2, fun W hW => ⟨⟨(hW.cell (p := ⟨kb, _, none⟩) hkb).trans n0, (hW.cell (p := ⟨kb, _, none⟩) hkb).trans n1, (hW.cell (p := ⟨kb, _, none⟩) hkb).trans n2, (hW.cell (p := ⟨kb, _, none⟩) hkb).trans n3⟩, ⟨(hW.cell (p := ⟨kb', _, none⟩) hkb').trans m0, (hW.cell (p := ⟨kb', _, none⟩) hkb').trans m1, (hW.cell (p := ⟨kb', _, none⟩) hkb').trans m2, (hW.cell (p := ⟨kb', _, none⟩) hkb').trans m3⟩, n4.keep (hW.keeps'.mono (fun k hk => hk)), m4.keep (hW.keeps'.mono (fun k hk => hk))⟩, fun q r hr => ?_⟩
    obtain ⟨rb, ro, f1, hrb, r0, r1⟩ := hgx q r hr
    obtain ⟨rb', ro', f2, hrb', s0, s1⟩ := hgx' q r hr
    exact ⟨rb, ro, rb', ro', f1, f2, fun W hW => ⟨(hW.cell (p := ⟨rb, _, none⟩) hrb).trans r0, (hW.cell (p := ⟨rb, _, none⟩) hrb).trans r1, (hW.cell (p := ⟨rb', _, none⟩) hrb').trans s0, (hW.cell (p := ⟨rb', _, none⟩) hrb').trans s1⟩⟩)
  have HL := Lib.hid hln.out
  have HXL := Lib.hid hx
  have HB1 := Lib.hid hb1
  have HW1 := Lib.hid hW1
  have d0 := HBX.out W1 (Below.refl _ _)
  clear h1 h2 hln hlm hg1 hg2 hx hb1 hs1 x1 hW1
  go_enter Try.func11, Try.ntmps11
  go_upto_region 1 with fail
  rw [show w.alloc (.cells #[.slice na mn nc] 27) = W1 from HW1.out]
  go_wp2_with fail
  clear d0
  go_loopw [5] (fun i wr => ∃ j : Nat, i = .int .i64 j ∧ j ≤ mn ∧ Below W1.heap.size W1 wr) (fun i _ => mn - (intOf i).toNat)
  case atStart => exact ⟨0, rfl, by omega, Below.refl _ _⟩
  case round =>
    rename World => V
    obtain ⟨j, rfl, hj, hbV⟩ := hrel
    have d0 := HBX.out V hbV
    have HBV := Lib.hid hbV
    clear hbV
    by_cases hlt : j < mn
    · obtain ⟨g, hg⟩ : ∃ g, ns[j]? = some g := ⟨_, List.getElem?_eq_getElem (by rw [← HL.out]; exact hlt)⟩
      obtain ⟨kb, ko, kb', ko', la, ln, lc, la', ln', lc', xa, xc, xa', xc', rfl, rfl, hcl, hrf⟩ := HG.out j g hg
      have hgl : g.nx.length ≤ 1000000 := HXL.out g (List.mem_of_getElem? hg)
      have HCL := Lib.hid hcl
      have HRF := Lib.hid hrf
      obtain ⟨M, hM⟩ : ∃ M, g.nx.length = M := ⟨_, rfl⟩
      rw [hM] at HCL hgl
      have HM := Lib.hid hM
      obtain ⟨⟨n0, n1, n2, n3⟩, _, _⟩ := HCL.out V (below_seq HB1.out HBV.out)
      clear hg hcl hrf hM
      go_upto_region 7 with fail
      clear n0 n1 n2 n3 d0
      obtain ⟨W2, hW2⟩ : ∃ W2, V.alloc (.cells #[.int .i64 g.k, .int .i64 g.p, .slice la ln lc, .slice xa M xc] 46) = W2 := ⟨_, rfl⟩
      have hb2 : Below V.heap.size V W2 := by rw [← hW2]; exact blkBelow V _ _
      have x2 : W2.heap[V.heap.size]? = some (.cells #[.int .i64 g.k, .int .i64 g.p, .slice la ln lc, .slice xa M xc] 46 (0, 0)) := by rw [← hW2]; exact World.alloc_heap_new _ _
      have hs2 : V.heap.size < W2.heap.size := (Array.getElem?_eq_some_iff.1 x2).1
      have HX2 : Hid (∀ W, Below W2.heap.size W2 W → W.cell? ⟨V.heap.size, 0, none⟩ = some (.int .i64 g.k) ∧ W.cell? ⟨V.heap.size, 1, none⟩ = some (.int .i64 g.p) ∧ W.cell? ⟨V.heap.size, 2, none⟩ = some (.slice la ln lc) ∧ W.cell? ⟨V.heap.size, 3, none⟩ = some (.slice xa M xc)) := Lib.hid (fun W hW => by
        have a1 : W.heap[V.heap.size]? = _ := (hW.block _ hs2).trans x2
        refine ⟨?_, ?_, ?_, ?_⟩ <;> simp [World.cell?, a1])
      have HBW2 : Hid (∀ W, Below W2.heap.size W2 W → Below w.heap.size w W) := Lib.hid (fun W hW => below_seq HB1.out (below_seq HBV.out (below_seq hb2 hW)))
      have HB2 := Lib.hid hb2
      have HT : Hid (∀ q : Later W2.heap.size W2, Calls Try.prog 22 #[.slice la ln lc, .slice la' ln' lc'] q.1 fun e w' => e = .returned (.bool true) ∧ Below q.1.heap.size q.1 w') := Lib.hid (fun q => by
        obtain ⟨_, _, hs, hs'⟩ := HCL.out q.1 (HBW2.out q.1 q.2)
        refine (ptexts_any (fun k => k < w.heap.size) _ _ _ _ _ hs hs').mono fun e w' ⟨e1, e2⟩ => ⟨by rw [e1]; simp, e2.below _⟩)
      rw [hW2]
      clear hb2 x2 hW2
      have a0 := fun q : Later W2.heap.size W2 => (HX2.out q.1 q.2).1
      have a1 := fun q : Later W2.heap.size W2 => (HX2.out q.1 q.2).2.1
      have a2 := fun q : Later W2.heap.size W2 => (HX2.out q.1 q.2).2.2.1
      have a3 := fun q : Later W2.heap.size W2 => (HX2.out q.1 q.2).2.2.2
      have b0 := fun q : Later W2.heap.size W2 => (HCL.out q.1 (HBW2.out q.1 q.2)).2.1.1
      have b1 := fun q : Later W2.heap.size W2 => (HCL.out q.1 (HBW2.out q.1 q.2)).2.1.2.1
      have b2 := fun q : Later W2.heap.size W2 => (HCL.out q.1 (HBW2.out q.1 q.2)).2.1.2.2.1
      have b3 := fun q : Later W2.heap.size W2 => (HCL.out q.1 (HBW2.out q.1 q.2)).2.1.2.2.2
      refine wp_region_later W2.heap.size W2 (by kernel_rfl) (by kernel_rfl) (Below.refl _ _) ?_
      repeat (go_big_quiet_step (first | (go_at_call 22; with_reducible exact later_call _ (Nat.le_refl _) (HT.out _))))
      refine wpQuiet_nil ?_
      rintro _ ⟨⟨w5, hb5⟩, rfl⟩
      clear a0 a1 a2 a3 b0 b1 b2 b3
      have HB5 := Lib.hid hb5
      clear hb5
      go_wp2_with fail
      go_loopw [7] (fun i wr => ∃ q : Nat, i = .int .i64 q ∧ q ≤ M ∧ Below W2.heap.size W2 wr) (fun i _ => M - (intOf i).toNat)
      case atStart => exact ⟨0, rfl, by omega, HB5.out⟩
      case round =>
        obtain ⟨q, rfl, hq, hbr⟩ := hrel
        have HBR := Lib.hid hbr
        clear hbr
        obtain ⟨a0, a1, a2, a3⟩ := HX2.out wr HBR.out
        by_cases hlq : q < M
        · obtain ⟨r, hr⟩ : ∃ r, g.nx[q]? = some r := ⟨_, List.getElem?_eq_getElem (by rw [HM.out]; exact hlq)⟩
          obtain ⟨rb, ro, rb', ro', rfl, rfl, hrr⟩ := HRF.out q r hr
          have HRR := Lib.hid hrr
          clear hr hrr
          go_upto_region 12 with fail
          clear a0 a1 a2 a3
          have a3 := fun x : Later wr.heap.size wr => (HX2.out x.1 (below_seq HBR.out x.2)).2.2.2
          have b3 := fun x : Later wr.heap.size wr => (HCL.out x.1 (HBW2.out x.1 (below_seq HBR.out x.2))).2.1.2.2.2
          have r0 := fun x : Later wr.heap.size wr => (HRR.out x.1 (HBW2.out x.1 (below_seq HBR.out x.2))).1
          have r1 := fun x : Later wr.heap.size wr => (HRR.out x.1 (HBW2.out x.1 (below_seq HBR.out x.2))).2.1
          have r2 := fun x : Later wr.heap.size wr => (HRR.out x.1 (HBW2.out x.1 (below_seq HBR.out x.2))).2.2.1
          have r3 := fun x : Later wr.heap.size wr => (HRR.out x.1 (HBW2.out x.1 (below_seq HBR.out x.2))).2.2.2
          refine wp_region_later wr.heap.size wr (by kernel_rfl) (by kernel_rfl) (Below.refl _ _) ?_
          repeat (go_big_quiet_step (fail))
          refine wpQuiet_nil ?_
          rintro _ ⟨⟨w6, hb6⟩, rfl⟩
          clear a3 b3 r0 r1 r2 r3
          go_wp2_with fail
          go_roundw
          case rel => exact ⟨q + 1, by go_num, by omega, below_seq HBR.out hb6⟩
          case measure => simp [intOf]; omega
        · obtain rfl : q = M := by omega
          go_wp2_with fail
          go_roundw
          case rel => exact ⟨j + 1, by go_num, by omega, below_seq HBV.out (below_seq HB2.out HBR.out)⟩
          case measure => simp [intOf]; omega
    · obtain rfl : j = mn := by omega
      go_wp2_with fail
      go_ret
      exact ⟨rfl, below_seq HB1.out HBV.out⟩
end Go.Proofs.Ytkjngbliomckiaa

/- Duals: the law DualMatchesReference. -/
namespace Go.Proofs.Ytkjngbliomckiaa
open Go.RowKit Go.Deep Go.Shelf

set_option maxHeartbeats 16000000 in
set_option maxRecDepth 100000 in
theorem DualMatchesReference_any (ts : List Ty) (v : Value) (k : Int) (w : World) (hts : TySl (fun k => k < w.heap.size) w v ts) :
    Calls Try.prog 3 #[v, .int .i64 k] w fun e w' => e = .returned (.bool true) ∧ Below w.heap.size w w' := by
  obtain ⟨ta, len, tc, rfl, hlen, _, _⟩ := hts.open
  have HL := Lib.hid hlen.out
  have HTS := Lib.hid (fun (W : World) (hW : Below w.heap.size w W) => (hts.keep (hW.keeps'.mono (fun k hk => hk))).mono (C := fun k => k < W.heap.size) (fun k hk => Nat.lt_of_lt_of_le hk hW.size))
  have HAW := Lib.hid (fun (W : World) (_ : Below w.heap.size w W) => dawake_any W)
  have HFW := Lib.hid (fun (W : World) (hW : Below w.heap.size w W) => few_any ts 10 200 (by decide) _ W (HTS.out W hW))
  obtain ⟨fb, hfb⟩ : ∃ b, fewB ts 10 200 = b := ⟨_, rfl⟩
  rw [hfb] at HFW
  have HFB := Lib.hid hfb
  clear hts hlen hfb
  cases fb
  · go_enter Try.func3, Try.ntmps3
    go_upto_region 2 with (first | (go_at_call 7; refine (HAW.out _ (Below.refl _ _)).mono ?_; rintro en w3 ⟨rfl, hb3⟩; have HB3 := Lib.hid hb3; clear hb3) | (go_at_call 8; refine (HFW.out _ HB3.out).mono ?_; rintro en w4 ⟨rfl, hb4⟩; have HB4 := Lib.hid (below_seq HB3.out hb4); clear hb4))
    go_wp2_with (go_at_call 7; refine (HAW.out _ HB4.out).mono ?_; rintro en w5 ⟨rfl, hb5⟩)
    go_ret
    exact ⟨rfl, below_seq HB4.out hb5⟩
  obtain ⟨hl10, hsz, hdp, hok, hnr, hd8⟩ := few_facts HFB.out (by decide)
  have hnl : (gNodes ts).length ≤ 2000 := by
    have h := pnods_ok (e := fun _ => 0) ts 0 hok
    have := Ty.gcnts_le ts
    unfold gNodes
    omega
  have hnx : ∀ g ∈ gNodes ts, g.nx.length ≤ 1000000 ∧ g.ls.length ≤ 400000000 := fun g hg => by
    have h1 := pnods_nx (fun _ => 0) ts 0 g hg
    have h2 := labels_all hnr g hg
    exact ⟨by omega, by omega⟩
  have hrl : (gRefs ts).length = len := by unfold gRefs; rw [prefs_len, HL.out]
  have hlen10 : len ≤ 10 := by rw [HL.out]; omega
  have hwf := hwf_all hnr hok
  have hkn := okN_all hnr
  have HGR := Lib.hid (fun (W : World) (hW : Below w.heap.size w W) => graph_any ts (.slice ta len tc) W (HTS.out W hW) (by omega) hd8 hnr hnl hnx (by omega))
  have HRBU := Lib.hid (fun (W : World) (hW : Below w.heap.size w W) => rbuild_any ts (.slice ta len tc) W (HTS.out W hW) (by omega) hd8 hnr)
  obtain ⟨rs, hrs⟩ : ∃ rs, gRefs ts = rs := ⟨_, rfl⟩
  obtain ⟨ns, hns⟩ : ∃ ns, gNodes ts = ns := ⟨_, rfl⟩
  rw [hrs, hns] at HGR HRBU
  rw [hns] at hnl hnx hwf hkn
  have HNX := Lib.hid hnx
  have HWF := Lib.hid hwf
  have HNL := Lib.hid hnl
  have HCE : Hid (closeE ns = closeG ns) := Lib.hid (closeE_eq hkn)
  clear hl10 hsz hdp hok hnr hd8 hnx hnl hrl hlen10 hrs hns hwf hkn HFB HTS
  go_enter Try.func3, Try.ntmps3
  go_upto_region 3 with (first | (go_at_call 7; refine (HAW.out _ (Below.refl _ _)).mono ?_; rintro en w3 ⟨rfl, hb3⟩; have HB3 := Lib.hid hb3; clear hb3) | (go_at_call 8; refine (HFW.out _ HB3.out).mono ?_; rintro en w4 ⟨rfl, hb4⟩; have HB4 := Lib.hid (below_seq HB3.out hb4); clear hb4))
  go_upto_region 4 with (go_at_call 9; go_loud (refine (HGR.out _ HB4.out).mono ?_; rintro en w6 ⟨na, nn, nc, ra, rn, rc, rfl, hn6, hr6, hb6⟩; have HN6 := Lib.hid hn6; have HB6 := Lib.hid (below_seq HB4.out hb6); clear hn6 hr6 hb6))
  obtain ⟨W7, hW7⟩ : ∃ W7, w6.alloc (.cells #[.slice na nn nc] 27) = W7 := ⟨_, rfl⟩
  have hb7 : Below w6.heap.size w6 W7 := by rw [← hW7]; exact blkBelow w6 _ _
  have x7 : W7.heap[w6.heap.size]? = some (.cells #[.slice na nn nc] 27 (0, 0)) := by rw [← hW7]; exact World.alloc_heap_new _ _
  have hs7 : w6.heap.size < W7.heap.size := (Array.getElem?_eq_some_iff.1 x7).1
  have HBX := Lib.hid (fun (W : World) (hW : Below W7.heap.size W7 W) => show W.cell? ⟨w6.heap.size, 0, none⟩ = some (.slice na nn nc) from by
    have a1 : W.heap[w6.heap.size]? = _ := (hW.block _ hs7).trans x7
    simp [World.cell?, a1])
  have HN7 : Hid (∀ W, Below W7.heap.size W7 W → NodeSl (fun k => k < W.heap.size) W (.slice na nn nc) ns) := Lib.hid (fun W hW => by
    have b1 := below_seq hb7 hW
    exact (HN6.out.keep (b1.keeps'.mono (fun k hk => hk))).mono (fun k hk => Nat.lt_of_lt_of_le hk b1.size))
  have HB7 : Hid (Below w.heap.size w W7) := Lib.hid (below_seq HB6.out hb7)
  rw [hW7]
  clear hW7 hb7 x7 hs7 HN6
  go_upto_region 5 with (go_at_call 10; go_loud (refine (HRBU.out _ HB7.out).mono ?_; rintro en w8 ⟨ma, mn, mc, sa, sn, sc, rfl, hn8, hr8, hb8⟩; have HN8 := Lib.hid hn8; have HB8 := Lib.hid hb8; clear hn8 hr8 hb8))
  have a0 := HBX.out w8 HB8.out
  have HCL := Lib.hid (close_any ns na nn nc w8 (HN7.out w8 HB8.out) (by have := HNL.out; omega) HNX.out HWF.out)
  have HRC := Lib.hid (fun (W : World) (hW : Below w8.heap.size w8 W) => rclose_any ns ma mn mc W ((HN8.out.keep (hW.keeps'.mono (fun k hk => hk))).mono (fun k hk => Nat.lt_of_lt_of_le hk hW.size)) HWF.out (by have := HNL.out; omega) (fun g hg => (HNX.out g hg).1))
  have HS2 := Lib.hid (fun (W : World) (hW : Below w8.heap.size w8 W) => dsame_any ns na nn nc ma mn mc W (HN7.out W (below_seq HB8.out hW)) ((HN8.out.keep (hW.keeps'.mono (fun k hk => hk))).mono (fun k hk => Nat.lt_of_lt_of_le hk hW.size)) (by have := HNL.out; omega) (fun g hg => (HNX.out g hg).1))
  have HKD := Lib.hid (fun W => dkind_any k W)
  have HRK := Lib.hid (fun W => rkind_any k W)
  go_wp2_with (first | (go_at_call 12; go_loud (refine HCL.out.mono ?_; rintro en w9 ⟨oa, on, oc, rfl, hn9, hb9⟩; have HN9 := Lib.hid hn9; have HB9 := Lib.hid hb9; clear hn9 hb9)) | (go_at_call 13; go_loud (refine (HRC.out _ HB9.out).mono ?_; rintro en w10 ⟨qa, qn, qc, rfl, hn10, hb10⟩; rw [HCE.out] at hn10; have HS1 := Lib.hid (dsame_any (closeG ns) oa on oc qa qn qc w10 ((HN9.out.keep (hb10.keeps'.mono (fun k hk => hk))).mono (fun k hk => Nat.lt_of_lt_of_le hk hb10.size)) hn10 (by rw [closeG_len]; have := HNL.out; omega) (closeG_nx (fun g hg => (HNX.out g hg).1))); have HB10 := Lib.hid (below_seq HB9.out hb10); clear hn10 hb10)) | (go_at_call 11; first | (with_reducible refine HS1.out.mono ?_; rintro en w11 ⟨rfl, hb11⟩; have HB11 := Lib.hid (below_seq HB10.out hb11); have a1 := HBX.out w11 (below_seq HB8.out HB11.out); clear hb11) | (with_reducible refine (HS2.out _ HB11.out).mono ?_; rintro en w12 ⟨rfl, hb12⟩; have HB12 := Lib.hid (below_seq HB11.out hb12); clear hb12)) | (go_at_call 14; go_loud (refine (HKD.out _).mono ?_; rintro en w13 ⟨rfl, hb13⟩; have HB13 := Lib.hid (below_seq HB12.out hb13); clear hb13)) | (go_at_call 15; go_loud (refine (HRK.out _).mono ?_; rintro en w14 ⟨rfl, rfl⟩)))
  go_ret
  exact ⟨rfl, below_seq HB7.out (below_seq HB8.out HB13.out)⟩
end Go.Proofs.Ytkjngbliomckiaa
