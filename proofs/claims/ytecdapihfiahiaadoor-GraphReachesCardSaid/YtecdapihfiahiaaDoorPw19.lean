/- Graphs: the law that what is reached is what the reference reaches. (and what follows from it) -/
import Derived.Test.YtecdapihfiahiaaDoorPw17
import Derived.Test.YtecdapihfiahiaaDoorPw18

/- Graphs: the law that what is reached is what the reference reaches. -/
namespace Go.Proofs.YtecdapihfiahiaaDoor
open Go.RowKit Go.Deep Go.Shelf

theorem pnods_wf (L : Nat) : ∀ (l : List Ty) (i : Nat), (∀ t ∈ l, nodeR [] 0 false t = 0) → i + Ty.gcnts l ≤ L → ∀ x ∈ Ty.pnods i (fun _ => 0) l, ∀ r ∈ x.nx, r.n < L
  | [], i, _, _, x, hx => by rw [Ty.pnods] at hx; cases hx
  | t :: l, i, h, hi, x, hx => by
    rw [Ty.pnods] at hx
    rw [Ty.gcnts] at hi
    rcases List.mem_append.1 hx with hx | hx
    · exact (pnod_wf L t [] 0 false i (fun _ => 0) (h t (by simp)) (Nat.le_refl _) (fun x hx => absurd hx (varR_nil 0 x)) (fun x hx => by cases hx) (by omega)).2 x hx
    · exact pnods_wf L l _ (fun u hu => h u (by simp [hu])) (by omega) x hx
theorem wf_all {ts : List Ty} (h : ∀ t ∈ ts, nodeR [] 0 false t = 0) (hok : Ty.okgs ts) : wfG (gNodes ts) := by
  intro n g hg
  have hl : (gNodes ts).length = Ty.gcnts ts := by unfold gNodes; rw [pnods_ok _ _ hok]
  rw [hl]
  exact pnods_wf (Ty.gcnts ts) ts 0 h (by omega) g (List.mem_of_getElem? hg)

set_option maxHeartbeats 8000000 in
set_option maxRecDepth 100000 in
theorem GraphReaches_any (ts : List Ty) (v : Value) (k : Nat) (hk : k ≤ 255) (E : Nat) (w : World) (he : GEnvW E w) (hts : TySl (fun k => k < w.heap.size) w v ts) :
    Calls Tryd.prog 4 #[v, .int .u8 (k : Int)] w fun e w' => e = .returned (.bool true) ∧ Below w.heap.size w w' := by
  obtain ⟨pa, len, c, rfl, hlen, _, _⟩ := hts.open
  have HL := Lib.hid hlen.out
  have HTS := Lib.hid (fun (W : World) (hW : Below w.heap.size w W) => (hts.keep (hW.keeps'.mono (fun k hk => hk))).mono (C := fun k => k < W.heap.size) (fun k hk => Nat.lt_of_lt_of_le hk hW.size))
  have HE := Lib.hid (fun (W : World) (hW : Below w.heap.size w W) => he.to (hW.mono he.le))
  have HAW := Lib.hid (fun (W : World) (hW : Below w.heap.size w W) => gawake_any E W (he.to (hW.mono he.le)))
  have HFW := Lib.hid (fun (W : World) (hW : Below w.heap.size w W) => few_any ts 5 60 (by decide) _ W (HTS.out W hW))
  obtain ⟨fb, hfb⟩ : ∃ b, fewB ts 5 60 = b := ⟨_, rfl⟩
  rw [hfb] at HFW
  have HFB := Lib.hid hfb
  clear hts hlen he hfb
  cases fb
  · go_enter Tryd.func4, Tryd.ntmps4
    go_upto_region 2 with (first | (go_at_call 7; refine (HAW.out _ (Below.refl _ _)).mono ?_; rintro en w3 ⟨rfl, hb3⟩; have HB3 := Lib.hid hb3; clear hb3) | (go_at_call 8; refine (HFW.out _ HB3.out).mono ?_; rintro en w4 ⟨rfl, hb4⟩; have HB4 := Lib.hid (below_seq HB3.out hb4); clear hb4))
    go_wp2_with (go_at_call 7; refine (HAW.out _ HB4.out).mono ?_; rintro en w5 ⟨rfl, hb5⟩)
    go_ret
    exact ⟨rfl, below_seq HB4.out hb5⟩
  · obtain ⟨hl10, hsz, hdp, hok, hnr, hd8⟩ := few_facts HFB.out (by decide)
    have hnl : (gNodes ts).length ≤ 2000 := by
      have h := pnods_ok (e := fun _ => 0) ts 0 hok
      have := Ty.gcnts_le ts
      unfold gNodes
      omega
    have hnx : ∀ g ∈ gNodes ts, g.nx.length ≤ 1000000 := fun g hg => by
      have := pnods_nx (fun _ => 0) ts 0 g hg
      omega
    have hrl : (gRefs ts).length = len := by unfold gRefs; rw [prefs_len, HL.out]
    have hlen10 : len ≤ 5 := by rw [HL.out]; exact hl10
    obtain ⟨rs, hrs⟩ : ∃ rs, gRefs ts = rs := ⟨_, rfl⟩
    obtain ⟨ns, hns⟩ : ∃ ns, gNodes ts = ns := ⟨_, rfl⟩
    have HBP := Lib.hid (fun (W : World) (hW : Below w.heap.size w W) => build_any ts pa len c W (HTS.out W hW) (by omega) (by omega) hok)
    have HBR := Lib.hid (fun (W : World) (hW : Below w.heap.size w W) => rbuild_any ts (.slice pa len c) W (HTS.out W hW) (by omega) hd8 hnr)
    rw [hrs, hns] at HBP HBR
    rw [hns] at hnl hnx
    rw [hrs] at hrl
    have HNX := Lib.hid hnx
    have HNL := Lib.hid hnl
    have HRL := Lib.hid hrl
    have hwf : wfG ns := by rw [← hns]; exact wf_all hnr hok
    have hpos : 0 < len → 1 ≤ ns.length := fun h0 => by
      rw [← hns]
      have hl : (gNodes ts).length = Ty.gcnts ts := by unfold gNodes; rw [pnods_ok _ _ hok]
      rw [hl]
      match ts, HL.out, hok, hnr with
      | [], e, _, _ => simp at e; omega
      | t :: r, _, hok, hnr =>
        rw [Ty.gcnts]
        simp only [Ty.okgs] at hok
        have := real_gcnt t hok.1 (real_of t [] false (hnr t (by simp)))
        omega
    have HWF := Lib.hid hwf
    have HPOS := Lib.hid hpos
    clear hl10 hsz hdp hok hnr hd8 hnx hnl hrl hrs hns hwf hpos
    by_cases h0 : len = 0
    · subst h0
      go_enter Tryd.func4, Tryd.ntmps4
      go_upto_region 2 with (first | (go_at_call 7; refine (HAW.out _ (Below.refl _ _)).mono ?_; rintro en w3 ⟨rfl, hb3⟩; have HB3 := Lib.hid hb3; clear hb3) | (go_at_call 8; refine (HFW.out _ HB3.out).mono ?_; rintro en w4 ⟨rfl, hb4⟩; have HB4 := Lib.hid (below_seq HB3.out hb4); clear hb4))
      go_wp2_with (go_at_call 7; refine (HAW.out _ HB4.out).mono ?_; rintro en w5 ⟨rfl, hb5⟩)
      go_ret
      exact ⟨rfl, below_seq HB4.out hb5⟩
    have h0' : (len == 0) = false := by simpa using h0
    have h0i : ((len : Int) == 0) = false := by simpa using h0
    obtain ⟨N, hN⟩ : ∃ N, ns.length = N := ⟨_, rfl⟩
    have hN1 : 1 ≤ N ∧ N ≤ 2000 := by have h1 := HPOS.out (by omega); have h2 := HNL.out; omega
    obtain ⟨a, ha⟩ : ∃ a, k % N = a := ⟨_, rfl⟩
    have haN : a < N := by rw [← ha]; exact Nat.mod_lt _ (by omega)
    have hrem : (k : Int).tmod (N : Int) = (a : Int) := by rw [← ha]; rfl
    have ek : IntKind.i64.wrap (k : Int) = (k : Int) := by rw [IntKind.wrap_i64]; omega
    have eN0 : ((N : Int) == 0) = false := by simp; omega
    have HN := Lib.hid hN
    clear hN ha
    go_enter Tryd.func4, Tryd.ntmps4
    go_upto_region 3 with (first | (go_at_call 7; refine (HAW.out _ (Below.refl _ _)).mono ?_; rintro en w3 ⟨rfl, hb3⟩; have HB3 := Lib.hid hb3; clear hb3) | (go_at_call 8; refine (HFW.out _ HB3.out).mono ?_; rintro en w4 ⟨rfl, hb4⟩; have HB4 := Lib.hid (below_seq HB3.out hb4); clear hb4))
    go_upto_region 4 with (go_at_call 9; go_loud (refine (HBP.out _ HB4.out).mono ?_; rintro en w6 ⟨na, nn, nc, ra, rn, rc, rfl, hn6, hr6, hb6⟩; have HN6 := Lib.hid hn6; have HR6 := Lib.hid hr6; have HB6 := Lib.hid (below_seq HB4.out hb6); clear hn6 hr6 hb6))
    obtain ⟨W7, hW7⟩ : ∃ W7, w6.alloc (.cells #[.slice na nn nc] 27) = W7 := ⟨_, rfl⟩
    have hb7 : Below w6.heap.size w6 W7 := by rw [← hW7]; exact blkBelow w6 _ _
    have x7 : W7.heap[w6.heap.size]? = some (.cells #[.slice na nn nc] 27 (0, 0)) := by rw [← hW7]; exact World.alloc_heap_new _ _
    have hs7 : w6.heap.size < W7.heap.size := (Array.getElem?_eq_some_iff.1 x7).1
    have HBX := Lib.hid (fun (W : World) (hW : Below W7.heap.size W7 W) => show W.cell? ⟨w6.heap.size, 0, none⟩ = some (.slice na nn nc) from by
      have a1 : W.heap[w6.heap.size]? = _ := (hW.block _ hs7).trans x7
      simp [World.cell?, a1])
    have HNG : Hid (∀ W, Below W7.heap.size W7 W → NodeSl (fun k => k < W.heap.size) W (.slice na nn nc) ns ∧ RefSl (fun k => k < W.heap.size) W (.slice ra rn rc) rs) := Lib.hid (fun W hW => by
      have b1 := below_seq hb7 hW
      exact ⟨(HN6.out.keep (b1.keeps'.mono (fun k hk => hk.2))).mono (fun k hk => Nat.lt_of_lt_of_le hk.2 b1.size), (HR6.out.keep (b1.keeps'.mono (fun k hk => hk.2))).mono (fun k hk => Nat.lt_of_lt_of_le hk.2 b1.size)⟩)
    have HB7 : Hid (Below w.heap.size w W7) := Lib.hid (below_seq HB6.out hb7)
    rw [hW7]
    clear hb7 x7 hs7 hW7
    go_upto_region 5 with (go_at_call 10; go_loud (refine (HBR.out _ HB7.out).mono ?_; rintro en w8 ⟨ma, mn, mc, sa, sn, sc, rfl, hn8, hr8, hb8⟩; have HN8 := Lib.hid hn8; have HR8 := Lib.hid hr8; have HB8 := Lib.hid hb8; clear hn8 hr8 hb8))
    obtain rfl : nn = N := by
      obtain ⟨_, _, _, e, hq, _⟩ := (HNG.out w8 HB8.out).1.open
      simp only [Value.slice.injEq] at e
      rw [e.2.1, hq.out, HN.out]
    obtain rfl : mn = nn := by
      obtain ⟨_, _, _, e, hq, _⟩ := HN8.out.open
      simp only [Value.slice.injEq] at e
      rw [e.2.1, hq.out, HN.out]
    have HSM := Lib.hid (same_any ns na mn nc ma mn mc w8 (HNG.out w8 HB8.out).1 HN8.out (by have := HNL.out; omega) HNX.out)
    have HRR : Hid (∀ W, Below w8.heap.size w8 W → Calls Tryd.prog 12 #[.slice ma mn mc, .int .i64 (a : Int)] W fun e w' => ∃ (S : Nat → Bool) (sb : Nat), Least ns a S ∧ e = .returned (.slice (some ⟨sb, 0, none⟩) mn mn) ∧ W.heap.size ≤ sb ∧ Bools w' sb mn S ∧ Below W.heap.size W w') := Lib.hid (fun W hW => rreach_any ns ma mn mc a W ((HN8.out.keep (hW.keeps'.mono (fun k hk => hk))).mono (fun k hk => Nat.lt_of_lt_of_le hk hW.size)) HWF.out (by rw [HN.out]; exact haN) (by have := HNL.out; omega) HNX.out)
    have HRP : Hid (∀ W, Below w8.heap.size w8 W → Calls Tryd.prog 13 #[.agg #[.slice na mn nc], .agg #[.int .i64 (a : Int), .int .i64 (k : Int)]] W fun e w' => ∃ (S : Nat → Bool) (ra : Option Addr) (rn rc : Nat), Least ns a S ∧ e = .returned (.slice ra rn rc) ∧ GRow 3 1 W.heap.size w' (.slice ra rn rc) (((List.range mn).filter S).map intCell) ∧ Below W.heap.size W w') := Lib.hid (fun W hW => by
      have h7 := below_seq HB8.out hW
      have h := reach_any ns na mn nc a k E W (HE.out W (below_seq HB7.out h7)) (HNG.out W h7).1 HWF.out (by rw [HN.out]; exact haN) (by have := HNL.out; omega)
      rw [HN.out] at h
      exact h)
    have d0 := HBX.out w8 HB8.out
    go_upto_region 8 with (go_at_call 11; go_loud (refine HSM.out.mono ?_; rintro en w9 ⟨rfl, hb9⟩; have HB9 := Lib.hid hb9; clear hb9))
    clear d0
    go_upto_region 9 with (go_at_call 12; go_loud (refine (HRR.out _ HB9.out).mono ?_; rintro en w10 ⟨S, sb, hS, rfl, hsb, hbo, hb10⟩; have HS := Lib.hid hS; have HSB := Lib.hid hsb; have HBO := Lib.hid hbo; have HB10 := Lib.hid (below_seq HB9.out hb10); clear hS hsb hbo hb10))
    have d0 := HBX.out w10 (below_seq HB8.out HB10.out)
    go_wp2_with (go_at_call 13; go_loud (refine (HRP.out _ HB10.out).mono ?_; rintro en w11 ⟨S', ya, yn, yc, hS', rfl, hrow, hb11⟩; obtain rfl : S' = S := hS'.unique HS.out; have HRO := Lib.hid hrow; have HBO' := Lib.hid (HBO.out.same (hb11.block _ HBO.out.lt)); have HB11 := Lib.hid (below_seq HB10.out hb11); clear hS' hrow hb11))
    clear d0
    have HYN := Lib.hid (row_len HRO.out)
    have hyn : yn ≤ mn := by rw [HYN.out]; exact Nat.le_trans (List.length_filter_le _ _) (by simp)
    go_loopw [12, 13] (fun m i wr => ∃ j : Nat, i = .int .i64 j ∧ j ≤ mn ∧ m = .int .i64 (((List.range j).filter S').length : Int) ∧ wr = w11) (fun _ i _ => mn - (intOf i).toNat)
    case atStart => exact ⟨0, rfl, by omega, rfl, rfl⟩
    case round =>
      obtain ⟨i, rfl, hi, rfl, hwr⟩ := hrel
      subst hwr
      obtain ⟨c, hc⟩ : ∃ c, ((List.range i).filter S').length = c := ⟨_, rfl⟩
      rw [hc]
      by_cases hlm : i < mn
      · obtain ⟨s0, s1⟩ := HBO'.out.cell hlm
        have hcn := filter_count S' i
        rw [hc] at hcn
        cases hFa : S' i
        · rw [hFa] at s0 hcn
          have HCN := Lib.hid hcn
          clear hc hcn hFa
          go_wp2_with fail
          go_roundw
          case rel => exact ⟨i + 1, by go_num, by omega, ret_val (by rw [HCN.out]; simp), trivial⟩
          case measure => simp [intOf]; omega
        · have hcl : c < yn := by rw [HYN.out, ← hc]; exact filter_count_lt S' hlm hFa
          have hnx := filter_next S' hlm hFa
          rw [hc] at hnx
          obtain ⟨yb, rfl, y0⟩ := row_cell HRO.out hnx
          rw [hFa] at s0 hcn
          have HCN := Lib.hid hcn
          clear hc hcn hFa hnx
          go_wp2_with fail
          go_roundw
          case rel => exact ⟨i + 1, by go_num, by omega, ret_val (by rw [HCN.out]; simp), trivial⟩
          case measure => simp [intOf]; omega
      · obtain rfl : i = mn := by omega
        obtain rfl : c = yn := by rw [HYN.out, ← hc]
        clear hc
        go_wp2_with fail
        go_ret
        exact ⟨rfl, below_seq HB7.out (below_seq HB8.out HB11.out)⟩
end Go.Proofs.YtecdapihfiahiaaDoor
