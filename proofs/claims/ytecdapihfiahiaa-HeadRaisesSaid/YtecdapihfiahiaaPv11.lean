/- Heads: raising a reference raises what is behind it. (and what follows from it) -/
import Derived.Test.YtecdapihfiahiaaPv9
import Derived.Test.YtecdapihfiahiaaPv10
import Derived.Test.YtecdapihfiahiaaPv8
import Derived.Deep.Cut
import Derived.Deep.RegionWith

/- Heads: raising a reference raises what is behind it. -/
namespace Go.Proofs.Ytecdapihfiahiaa
open Go.RowKit Go.Deep Go.Shelf

/-- A drawn region: a call, and its result stored into a new box. -/
structure CB (V : World) (o0 o1 b : Value) (ic im ix ib ia is iz : Nat) (L : Nat → Bool) (vals : Nat → Value) (w : World) : Prop where
  dn : L is = true → L ix = true ∧ L ia = true
  out : Below V.heap.size V w
  vc : L ic = true → vals ic = .tuple #[.agg #[o0, o1], b]
  vm : L im = true → vals im = .tuple #[.agg #[o0, o1], b]
  vx : L ix = true → vals ix = .agg #[o0, o1]
  vb : L ib = true → vals ib = b
  va : L ia = true → L is = false → ∃ X, vals ia = .pointer (some ⟨X, 0, none⟩) ∧ V.heap.size ≤ X ∧ w.heap[X]? = some (refO (.int .i64 0) (.int .i64 0))
  vs : L is = true → ∃ X, vals ia = .pointer (some ⟨X, 0, none⟩) ∧ V.heap.size ≤ X ∧ w.heap[X]? = some (refO o0 o1)
  vz : L iz = true → vals iz = b

/-- A row of references, read later. -/
theorem refs_at {ra : Option Addr} {rn rc : Nat} {rs : List GRef} {w : World} (h : RefSl (fun k => k < w.heap.size) w (.slice ra rn rc) rs) (h0 : 0 < rs.length) :
    rn = rs.length ∧ ∃ rb ro, ra = some ⟨rb, ro, none⟩ ∧ ∀ W, Below w.heap.size w W → ∀ (j : Nat) (r : GRef), rs[j]? = some r → W.cell? ⟨rb, ro + j * 2, none⟩ = some (.int .i64 r.n) ∧ W.cell? ⟨rb, ro + j * 2 + 1, none⟩ = some (.int .i64 r.s) := by
  obtain ⟨_, _, _, e, hl, _, hg⟩ := h.open
  simp only [Value.slice.injEq] at e
  obtain ⟨rfl, rfl, rfl⟩ := e
  obtain ⟨r0, hr0⟩ : ∃ r, rs[0]? = some r := ⟨_, List.getElem?_eq_getElem h0⟩
  obtain ⟨rb, ro, e0, _⟩ := hg 0 r0 hr0
  refine ⟨hl.out, rb, ro, e0, fun W hW j r hj => ?_⟩
  obtain ⟨kb, ko, e1, hk, c0, c1⟩ := hg j r hj
  rw [e0] at e1
  have e2 := Option.some.inj e1
  simp only [Addr.mk.injEq] at e2
  obtain ⟨rfl, rfl, _⟩ := e2
  exact ⟨(hW.cell (p := ⟨rb, _, none⟩) hk).trans c0, (hW.cell (p := ⟨rb, _, none⟩) hk).trans c1⟩
theorem aft_two (o : Option GRef) (k : Int) : ∃ (ob : Bool) (qn : Nat) (s1 s2 : Int), refR o = .tuple #[.agg #[.int .i64 (qn : Int), .int .i64 s1], .bool ob] ∧ refR (o.map (upR k)) = .tuple #[.agg #[.int .i64 (qn : Int), .int .i64 s2], .bool ob] ∧ (ob = true → s2 = s1 + k ∧ ∃ q, o = some q ∧ q.s = s1) := by
  cases o with
  | none => exact ⟨false, 0, 0, 0, rfl, rfl, fun h => by cases h⟩
  | some q => exact ⟨true, q.n, q.s, q.s + k, rfl, rfl, fun _ => ⟨rfl, q, rfl, rfl⟩⟩
theorem low_two (P : List Int) (k : Int) : ∃ (pb : Bool) (m1 m2 : Int), lowV P = .tuple #[.int .i64 m1, .bool pb] ∧ lowV (P.map (· + k)) = .tuple #[.int .i64 m2, .bool pb] ∧ (pb = true → m2 = m1 + k ∧ P ≠ [] ∧ minF P = m1) := by
  refine ⟨!P.isEmpty, minF P, minF (P.map (· + k)), rfl, by simp only [lowV, List.isEmpty_map], fun h => ?_⟩
  have hne : P ≠ [] := fun e => by rw [e] at h; cases h
  exact ⟨minF_up k P hne, hne, rfl⟩

set_option pp.deepTerms true in
set_option pp.maxSteps 200000 in
set_option maxHeartbeats 16000000 in
set_option maxRecDepth 100000 in
theorem HeadRaises_of (haw : ∀ w : World, Calls Try.prog 4 #[] w fun e w' => e = .returned (.bool true) ∧ Below w.heap.size w w') (ts : List Ty) (v : Value) (k : Int) (hk : -32768 ≤ k ∧ k ≤ 32767) (pa : Option Addr) (pn pc : Nat) (xs : List Int) (w : World) (hts : TySl (fun k => k < w.heap.size) w v ts) (hp : IntSl w pa pn xs) :
    Calls Try.prog 3 #[v, .int .i16 k, .slice pa pn pc] w fun e w' => e = .returned (.bool true) ∧ Below w.heap.size w w' := by
  obtain ⟨ta, len, tc, rfl, hlen, _, _⟩ := hts.open
  have HL := Lib.hid hlen.out
  have HTS := Lib.hid (fun (W : World) (hW : Below w.heap.size w W) => (hts.keep (hW.keeps'.mono (fun k hk => hk))).mono (C := fun k => k < W.heap.size) (fun k hk => Nat.lt_of_lt_of_le hk hW.size))
  have HAW := Lib.hid (fun (W : World) (_ : Below w.heap.size w W) => haw W)
  have HFW := Lib.hid (fun (W : World) (hW : Below w.heap.size w W) => few_any ts 10 60 (by decide) _ W (HTS.out W hW))
  have HP := Lib.hid hp
  obtain ⟨fb, hfb⟩ : ∃ b, fewB ts 10 60 = b := ⟨_, rfl⟩
  rw [hfb] at HFW
  have HFB := Lib.hid hfb
  clear hts hlen hfb haw hp
  cases fb
  · go_enter Try.func3, Try.ntmps3
    go_upto_region 2 with (first | (go_at_call 4; refine (HAW.out _ (Below.refl _ _)).mono ?_; rintro en w3 ⟨rfl, hb3⟩; have HB3 := Lib.hid hb3; clear hb3) | (go_at_call 5; refine (HFW.out _ HB3.out).mono ?_; rintro en w4 ⟨rfl, hb4⟩; have HB4 := Lib.hid (below_seq HB3.out hb4); clear hb4))
    go_wp2_with (go_at_call 4; refine (HAW.out _ HB4.out).mono ?_; rintro en w5 ⟨rfl, hb5⟩)
    go_ret
    exact ⟨rfl, below_seq HB4.out hb5⟩
  by_cases h0 : len = 0
  · subst h0
    go_enter Try.func3, Try.ntmps3
    go_upto_region 2 with (first | (go_at_call 4; refine (HAW.out _ (Below.refl _ _)).mono ?_; rintro en w3 ⟨rfl, hb3⟩; have HB3 := Lib.hid hb3; clear hb3) | (go_at_call 5; refine (HFW.out _ HB3.out).mono ?_; rintro en w4 ⟨rfl, hb4⟩; have HB4 := Lib.hid (below_seq HB3.out hb4); clear hb4))
    go_wp2_with (go_at_call 4; refine (HAW.out _ HB4.out).mono ?_; rintro en w5 ⟨rfl, hb5⟩)
    go_ret
    exact ⟨rfl, below_seq HB4.out hb5⟩
  have h0i : ((len : Int) == 0) = false := by simpa using h0
  by_cases hpn : pn ≤ 1000
  case neg =>
    have hd1 : decide (1000 < pn) = true := by simpa using hpn
    have hd2 : decide ((1000 : Int) < (pn : Int)) = true := by simp; omega
    go_enter Try.func3, Try.ntmps3
    go_upto_region 2 with (first | (go_at_call 4; refine (HAW.out _ (Below.refl _ _)).mono ?_; rintro en w3 ⟨rfl, hb3⟩; have HB3 := Lib.hid hb3; clear hb3) | (go_at_call 5; refine (HFW.out _ HB3.out).mono ?_; rintro en w4 ⟨rfl, hb4⟩; have HB4 := Lib.hid (below_seq HB3.out hb4); clear hb4))
    go_wp2_with (go_at_call 4; refine (HAW.out _ HB4.out).mono ?_; rintro en w5 ⟨rfl, hb5⟩)
    go_ret
    exact ⟨rfl, below_seq HB4.out hb5⟩
  have hd1 : decide (1000 < pn) = false := by simpa using hpn
  have hd2 : decide ((1000 : Int) < (pn : Int)) = false := by simp; omega
  obtain ⟨hl10, hsz, hdp, hok, hnr, hd8⟩ := few_facts HFB.out (by decide)
  have hnl : (gNodes ts).length ≤ 2000 := by
    have h := pnods_ok (e := fun _ => 0) ts 0 hok
    have := Ty.gcnts_le ts
    unfold gNodes
    omega
  have hnx : ∀ g ∈ gNodes ts, g.nx.length ≤ 1000000 ∧ g.ls.length ≤ 400000000 := fun g hg => by
    have h1 := pnods_nx (fun _ => 0) ts 0 g hg
    have h2 := labels_all hnr g hg
    exact ⟨by omega, by omega⟩
  have hrl : (gRefs ts).length = len := by unfold gRefs; rw [prefs_len, HL.out]
  have hlen10 : len ≤ 10 := by rw [HL.out]; exact hl10
  have hsm := small_all hnr
  have hwf := hwf_all hnr hok
  have hrb := refs_all hnr hok
  have HGR := Lib.hid (fun (W : World) (hW : Below w.heap.size w W) => graph_any ts (.slice ta len tc) W (HTS.out W hW) (by omega) hd8 hnr hnl hnx (by omega))
  obtain ⟨rs, hrs⟩ : ∃ rs, gRefs ts = rs := ⟨_, rfl⟩
  obtain ⟨ns, hns⟩ : ∃ ns, gNodes ts = ns := ⟨_, rfl⟩
  rw [hrs, hns] at HGR hrb
  rw [hns] at hnl hnx hsm hwf
  rw [hrs] at hrl
  have HNX := Lib.hid (fun g hg => (hnx g hg).1)
  have HNL := Lib.hid (show ns.length ≤ 1000000 by omega)
  have HRL := Lib.hid hrl
  have HSM := Lib.hid hsm
  have HWF := Lib.hid hwf
  have HRB := Lib.hid hrb
  clear hl10 hsz hdp hok hnr hd8 hnx hnl hrl hrs hns hwf hrb hsm HFB HTS
  go_enter Try.func3, Try.ntmps3
  go_upto_region 3 with (first | (go_at_call 4; refine (HAW.out _ (Below.refl _ _)).mono ?_; rintro en w3 ⟨rfl, hb3⟩; have HB3 := Lib.hid hb3; clear hb3) | (go_at_call 5; refine (HFW.out _ HB3.out).mono ?_; rintro en w4 ⟨rfl, hb4⟩; have HB4 := Lib.hid (below_seq HB3.out hb4); clear hb4))
  clear hd1 hd2 h0i
  go_upto_region 4 with (go_at_call 6; go_loud (refine (HGR.out _ HB4.out).mono ?_; rintro en w6 ⟨na, nn, nc, ra, rn, rc, rfl, hn6, hr6, hb6⟩; have HN6 := Lib.hid hn6; have HR6 := Lib.hid hr6; have HB6 := Lib.hid (below_seq HB4.out hb6); clear hn6 hr6 hb6))
  obtain ⟨W7, hW7⟩ : ∃ W7, w6.alloc (.cells #[.slice na nn nc] 29) = W7 := ⟨_, rfl⟩
  have hb7 : Below w6.heap.size w6 W7 := by rw [← hW7]; exact blkBelow w6 _ _
  have x7 : W7.heap[w6.heap.size]? = some (.cells #[.slice na nn nc] 29 (0, 0)) := by rw [← hW7]; exact World.alloc_heap_new _ _
  have hs7 : w6.heap.size < W7.heap.size := (Array.getElem?_eq_some_iff.1 x7).1
  have HBX := Lib.hid (fun (W : World) (hW : Below W7.heap.size W7 W) => show W.cell? ⟨w6.heap.size, 0, none⟩ = some (.slice na nn nc) from by
    have a1 : W.heap[w6.heap.size]? = _ := (hW.block _ hs7).trans x7
    simp [World.cell?, a1])
  have HNG : Hid (∀ W, Below W7.heap.size W7 W → NodeSl (fun k => k < W.heap.size) W (.slice na nn nc) ns ∧ RefSl (fun k => k < W.heap.size) W (.slice ra rn rc) rs) := Lib.hid (fun W hW => by
    have b1 := below_seq hb7 hW
    exact ⟨(HN6.out.keep (b1.keeps'.mono (fun k hk => hk))).mono (fun k hk => Nat.lt_of_lt_of_le hk b1.size), (HR6.out.keep (b1.keeps'.mono (fun k hk => hk))).mono (fun k hk => Nat.lt_of_lt_of_le hk b1.size)⟩)
  have HB7 : Hid (Below w.heap.size w W7) := Lib.hid (below_seq HB6.out hb7)
  have HPW : Hid (∀ W, Below W7.heap.size W7 W → IntSl W pa pn xs) := Lib.hid (fun W hW => HP.out.to (below_seq HB7.out hW))
  obtain ⟨e7, rb, ro, rfl, hrc⟩ := refs_at (HNG.out W7 (Below.refl _ _)).2 (by rw [HRL.out]; omega)
  obtain rfl : rn = len := by rw [e7, HRL.out]
  have HRC := Lib.hid hrc
  rw [hW7]
  clear hb7 x7 hs7 hW7 hrc e7 HN6 HR6
  go_wp2_with fail
  go_loopw [9, 10] (fun ov iv wr => ∃ (j : Nat) (ua : Option Addr) (un uc : Nat), ov = .slice ua un uc ∧ iv = .int .i64 j ∧ j ≤ rn ∧ Hid (GRow 34 2 W7.heap.size wr (.slice ua un uc) (((rs.take j).map (upR k)).map refCells)) ∧ Hid (Below W7.heap.size W7 wr)) (fun _ iv _ => rn - (intOf iv).toNat)
  case atStart => exact ⟨0, _, _, _, rfl, rfl, by omega, Lib.hid (by simpa using GRow.nil _ _ _ _), Lib.hid (Below.refl _ _)⟩
  case round =>
    rename World => V
    obtain ⟨j, ua, un, uc, rfl, rfl, hj, HU, HBV⟩ := hrel
    have hszV := HBV.out.size
    by_cases hlt : j < rn
    · obtain ⟨r, hr⟩ : ∃ r, rs[j]? = some r := ⟨_, List.getElem?_eq_getElem (by rw [HRL.out]; exact hlt)⟩
      obtain ⟨c0, c1⟩ := HRC.out V HBV.out j r hr
      have hrs := HRB.out r (List.mem_of_getElem? hr)
      have HRA := Lib.hid (hraise_any r.n r.s k V (by omega))
      have HTK := Lib.hid (take_snoc_get hr)
      have hek : IntKind.i64.wrap k = k := by rw [IntKind.wrap_i64]; omega
      clear hr hrs
      go_wp2_with (first | (go_at_call 7; go_loud (refine HRA.out.mono ?_; rintro en w8 ⟨rfl, hb8⟩; have HB8 := Lib.hid hb8; clear hb8)) | (at_builtin; refine wpList_appG grefElem rfl _ _ rfl rfl ((HU.out.to HB8.out).alloc _) (some ⟨w8.heap.size, 0, none⟩) 1 1 [refCells (upR k r)] rfl rfl ?_ ?_ ?_ ?_ ?_ ?_))
      · intro e he; rw [List.mem_singleton.1 he]; rfl
      · exact src_new w8 (refCells (upR k r)) _
      · intro e he u hu
        rw [List.mem_singleton.1 he] at hu
        simp only [refCells, List.mem_cons, List.not_mem_nil, or_false] at hu
        rcases hu with rfl | rfl <;> rfl
      · simp only [List.length_map, List.length_singleton, List.length_take]; omega
      · rw [World.size_alloc]; have := HB8.out.size; omega
      intro ga gn gc w9 hr9 hg9 hq9
      have hb9 : Below W7.heap.size W7 w9 := ((HBV.out.trans (HB8.out.mono hszV)).alloc (by have := HB8.out.size; omega) _).grown hg9 (by rw [World.size_alloc]; have := HB8.out.size; omega) (fun k hk => (HU.out.lt k hk).1)
      clear hg9 hq9 c0 c1 hek
      have HB9 := Lib.hid hb9
      have HR9 := Lib.hid hr9
      clear hb9 hr9
      go_wp2_with fail
      go_roundw
      case rel => exact ⟨j + 1, ga, gn, gc, rfl, by go_num, by omega, Lib.hid (by rw [HTK.out]; simpa using HR9.out), HB9⟩
      case measure => simp [intOf]; omega
    · obtain rfl : j = rn := by omega
      have hup : rs.take j = rs := List.take_of_length_le (by rw [HRL.out]; exact Nat.le_refl _)
      have hU := HU.out
      rw [hup] at hU
      have hUS : RefSl (fun k => k < V.heap.size) V (.slice ua un uc) (rs.map (upR k)) := hU.refsB (by rw [List.length_map, HRL.out]; simp only [maxLen]; omega) (fun k hk => (hU.lt k hk).2)
      obtain ⟨eu, ub, uo, rfl, huc⟩ := refs_at hUS (by rw [List.length_map, HRL.out]; omega)
      obtain rfl : un = j := by rw [eu, List.length_map, HRL.out]
      obtain ⟨r0, hr0⟩ : ∃ r, rs[0]? = some r := ⟨_, List.getElem?_eq_getElem (by rw [HRL.out]; omega)⟩
      have hq0 := HRB.out r0 (List.mem_of_getElem? hr0)
      have hu0 : (rs.map (upR k))[0]? = some (upR k r0) := by rw [List.getElem?_map, hr0]; rfl
      obtain ⟨ob, qn, s1, s2, hv1, hv2, hob⟩ := aft_two (aftE ns r0 xs) k
      have HAF : Hid (∀ W, Below V.heap.size V W → Calls Try.prog 8 #[grV na nn nc, rfV r0.n r0.s, .slice pa pn pc] W fun e w' => e = .returned (.tuple #[.agg #[.int .i64 (qn : Int), .int .i64 s1], .bool ob]) ∧ Below W.heap.size W w') := Lib.hid (fun W hW => by
        have h7 := HBV.out.trans (hW.mono hszV)
        have h := after_any ns na nn nc r0 pa pn pc xs W (HNG.out W h7).1 hq0.1 HNL.out HNX.out HSM.out HWF.out (by omega) (HPW.out W h7) hpn
        rw [hv1] at h
        exact h)
      have HAU : Hid (∀ W, Below V.heap.size V W → Calls Try.prog 8 #[grV na nn nc, rfV r0.n (r0.s + k), .slice pa pn pc] W fun e w' => e = .returned (.tuple #[.agg #[.int .i64 (qn : Int), .int .i64 s2], .bool ob]) ∧ Below W.heap.size W w') := Lib.hid (fun W hW => by
        have h7 := HBV.out.trans (hW.mono hszV)
        have h := after_any ns na nn nc (upR k r0) pa pn pc xs W (HNG.out W h7).1 hq0.1 HNL.out HNX.out HSM.out HWF.out (by simp only [upR]; omega) (HPW.out W h7) hpn
        rw [aft_up, hv2] at h
        exact h)
      obtain ⟨pb, m1, m2, hm1, hm2, hpb⟩ := low_two (priosE ns rs) k
      have HLO : Hid (∀ W, Below V.heap.size V W → Calls Try.prog 9 #[grV na nn nc, .slice (some ⟨rb, ro, none⟩) un rc] W fun e w' => e = .returned (.tuple #[.int .i64 m1, .bool pb]) ∧ Below W.heap.size W w') := Lib.hid (fun W hW => by
        have h7 := HBV.out.trans (hW.mono hszV)
        have h := lowest_any ns rs na nn nc (some ⟨rb, ro, none⟩) un rc W (HNG.out W h7).1 (HNG.out W h7).2 HNL.out HSM.out (by omega) (fun r hr => by have := HRB.out r hr; exact ⟨this.1, by omega, by omega⟩)
        rw [hm1] at h
        exact h)
      have HLU : Hid (∀ W, Below V.heap.size V W → Calls Try.prog 9 #[grV na nn nc, .slice (some ⟨ub, uo, none⟩) un uc] W fun e w' => e = .returned (.tuple #[.int .i64 m2, .bool pb]) ∧ Below W.heap.size W w') := Lib.hid (fun W hW => by
        have h7 := HBV.out.trans (hW.mono hszV)
        have h := lowest_any ns (rs.map (upR k)) na nn nc (some ⟨ub, uo, none⟩) un uc W (HNG.out W h7).1 ((hUS.keep (hW.keeps'.mono (fun k hk => hk))).mono (fun k hk => Nat.lt_of_lt_of_le hk hW.size)) HNL.out HSM.out (by omega) (fun r hr => by
          obtain ⟨q, hq, rfl⟩ := List.mem_map.1 hr
          have := HRB.out q hq
          simp only [upR]
          exact ⟨this.1, by omega, by omega⟩)
        rw [prios_up, hm2] at h
        exact h)
      have HAB : Hid (ob = true → s2 = s1 + k ∧ -1001001000 ≤ s1 ∧ s1 ≤ 1001001000) := Lib.hid (fun e => by
        obtain ⟨h1, q, h2, h3⟩ := hob e
        have h := aft_in HWF.out HSM.out xs r0 q h2
        have := (HPW.out V HBV.out).len
        exact ⟨h1, by omega, by omega⟩)
      have HPB : Hid (pb = true → m2 = m1 + k ∧ -2000000 ≤ m1 ∧ m1 ≤ 2000000) := Lib.hid (fun e => by
        obtain ⟨h1, h2, h3⟩ := hpb e
        have h := prios_le HSM.out (fun r hr => (HRB.out r hr).2) (minF (priosE ns rs)) (minF_mem h2)
        rw [h3] at h
        exact ⟨h1, h⟩)
      have HC0 : Hid (∀ W, Below V.heap.size V W → W.cell? ⟨rb, ro, none⟩ = some (.int .i64 r0.n) ∧ W.cell? ⟨rb, ro + 1, none⟩ = some (.int .i64 r0.s) ∧ W.cell? ⟨ub, uo, none⟩ = some (.int .i64 r0.n) ∧ W.cell? ⟨ub, uo + 1, none⟩ = some (.int .i64 (r0.s + k)) ∧ W.cell? ⟨w6.heap.size, 0, none⟩ = some (.slice na nn nc)) := Lib.hid (fun W hW => by
        have h7 := HBV.out.trans (hW.mono hszV)
        obtain ⟨a1, a2⟩ := HRC.out W h7 0 r0 hr0
        obtain ⟨b1, b2⟩ := huc W hW 0 _ hu0
        exact ⟨by simpa using a1, by simpa using a2, by simpa [upR] using b1, by simpa [upR] using b2, HBX.out W h7⟩)
      clear hup hU hUS eu huc hr0 hq0 hu0 hob hv1 hv2 hm1 hm2 hpb
      go_wp2_with fail
      have hpos : 0 < un := by omega
      have HS9 : Hid (∀ W, Below V.heap.size V W → W.cell? ⟨rb, ro, none⟩ = some (.int .i64 r0.n) ∧ W.cell? ⟨rb, ro + 1, none⟩ = some (.int .i64 r0.s) ∧ W.cell? ⟨w6.heap.size, 0, none⟩ = some (.slice na nn nc)) := Lib.hid (fun W hW => by
        obtain ⟨a1, a2, _, _, a3⟩ := HC0.out W hW
        exact ⟨a1, a2, a3⟩)
      refine wp_region_held_drew (S := fun W => W.cell? ⟨rb, ro, none⟩ = some (.int .i64 r0.n) ∧ W.cell? ⟨rb, ro + 1, none⟩ = some (.int .i64 r0.s) ∧ W.cell? ⟨w6.heap.size, 0, none⟩ = some (.slice na nn nc)) (by kernel_rfl) (HS9.out V (Below.refl _ _)) (fun hHeld => ?_)
      refine wpAnyH_take_l 0 (v := ?va0) rfl rfl (by kernel_rfl) (by kernel_rfl) (by kernel_rfl) (fun _ _ _ h => h) ?ha0 (by assumption) ?ra0
      case ha0 => (intro w hSw; (try dsimp only at hSw); go_simp; try rfl)
      case' ra0 => simp only [setD, List.set_cons_succ, List.set_cons_zero]
      refine wpAnyH_take_l 1 (v := ?va1) rfl rfl (by kernel_rfl) (by kernel_rfl) (by kernel_rfl) (fun _ _ _ h => h) ?ha1 (by assumption) ?ra1
      case ha1 => (intro w hSw; (try dsimp only at hSw); go_simp; try rfl)
      case' ra1 => simp only [setD, List.set_cons_succ, List.set_cons_zero]
      refine wpAnyH_take_l 2 (v := ?va2) rfl rfl (by kernel_rfl) (by kernel_rfl) (by kernel_rfl) (fun _ _ _ h => h) ?ha2 (by assumption) ?ra2
      case ha2 => (intro w hSw; (try dsimp only at hSw); go_simp; try rfl)
      case' ra2 => simp only [setD, List.set_cons_succ, List.set_cons_zero]
      refine wpAnyH_take_l 3 (v := ?va3) rfl rfl (by kernel_rfl) (by kernel_rfl) (by kernel_rfl) (fun _ _ _ h => h) ?ha3 (by assumption) ?ra3
      case ha3 => (intro w hSw; (try dsimp only at hSw); go_simp; try rfl)
      case' ra3 => simp only [setD, List.set_cons_succ, List.set_cons_zero]
      refine wpAnyH_take_l 4 (v := ?va4) rfl rfl (by kernel_rfl) (by kernel_rfl) (by kernel_rfl) (fun _ _ _ h => h) ?ha4 (by assumption) ?ra4
      case ha4 => (intro w hSw; (try dsimp only at hSw); go_simp; try rfl)
      case' ra4 => simp only [setD, List.set_cons_succ, List.set_cons_zero]
      refine wpAnyH_start [5, 6, 7, 8, 9, 10, 11] (CB V (.int .i64 (qn : Int)) (.int .i64 s1) (.bool ob) 5 6 7 8 9 10 11) (by kernel_rfl) (by kernel_rfl) (fun L vals W hR => HS9.out _ hR.out) ?starta ?stepsa ?stopa
      case starta => exact ⟨fun h => (Bool.false_ne_true h).elim, (Below.refl _ _).drew, fun h => (Bool.false_ne_true h).elim, fun h => (Bool.false_ne_true h).elim, fun h => (Bool.false_ne_true h).elim, fun h => (Bool.false_ne_true h).elim, fun h => (Bool.false_ne_true h).elim, fun h => (Bool.false_ne_true h).elim, fun h => (Bool.false_ne_true h).elim⟩
      case stepsa =>
        refine List.forall_mem_cons.2 ⟨?_, List.forall_mem_cons.2 ⟨?_, List.forall_mem_cons.2 ⟨?_, List.forall_mem_cons.2 ⟨?_, List.forall_mem_cons.2 ⟨?_, List.forall_mem_cons.2 ⟨?_, List.forall_mem_cons.2 ⟨?_, fun _ h => by cases h⟩⟩⟩⟩⟩⟩⟩
        · refine InvStep.list (k := 5) rfl rfl [] (by kernel_rfl) [(5, some 64), (6, some 58), (7, some 65), (8, some 66), (9, some 11), (10, none), (11, some 12)] (by kernel_rfl) (by decide) (fun L vals olds wx hLk hdeps hR K hK => ?_)
          have hK2 := hK.out
          clear hK
          simp only [fillL, setD, List.set_cons_succ, List.set_cons_zero] at hK2 ⊢
          clear hdeps
          go_simp
          refine (HAF.out _ hR.out).mono ?_
          rintro en w9 ⟨rfl, hb9⟩
          dsimp only
          obtain ⟨rD, rO, rc, rm, rx, rb', ra', rs', rz⟩ := hR
          refine hK2 _ _ ⟨rD, below_seq rO hb9, fun _ => rfl, rm, rx, rb', fun h h' => ?_, fun h => ?_, rz⟩
          · obtain ⟨X, e1, e2, e3⟩ := ra' h h'; exact ⟨X, e1, e2, (hb9.block X (Array.getElem?_eq_some_iff.1 e3).1).trans e3⟩
          · obtain ⟨X, e1, e2, e3⟩ := rs' h; exact ⟨X, e1, e2, (hb9.block X (Array.getElem?_eq_some_iff.1 e3).1).trans e3⟩
        · refine InvStep.list (k := 6) rfl rfl [5] (by kernel_rfl) [(5, some 64), (6, some 58), (7, some 65), (8, some 66), (9, some 11), (10, none), (11, some 12)] (by kernel_rfl) (by decide) (fun L vals olds wx hLk hdeps hR K hK => ?_)
          have hK2 := hK.out
          clear hK
          simp only [fillL, setD, List.set_cons_succ, List.set_cons_zero] at hK2 ⊢
          simp only [List.all_cons, List.all_nil, Bool.and_true] at hdeps
          have es := (slotO_done (vals := vals) (olds := olds) hdeps).trans (hR.vc hdeps)
          simp only [es] at hK2 ⊢
          clear es
          go_simp
          obtain ⟨rD, rO, rc, rm, rx, rb', ra', rs', rz⟩ := hR
          exact hK2 _ _ ⟨rD, rO, rc, fun _ => rfl, rx, rb', ra', rs', rz⟩
        · refine InvStep.list (k := 7) rfl rfl [6] (by kernel_rfl) [(5, some 64), (6, some 58), (7, some 65), (8, some 66), (9, some 11), (10, none), (11, some 12)] (by kernel_rfl) (by decide) (fun L vals olds wx hLk hdeps hR K hK => ?_)
          have hK2 := hK.out
          clear hK
          simp only [fillL, setD, List.set_cons_succ, List.set_cons_zero] at hK2 ⊢
          simp only [List.all_cons, List.all_nil, Bool.and_true] at hdeps
          have es := (slotO_done (vals := vals) (olds := olds) hdeps).trans (hR.vm hdeps)
          simp only [es] at hK2 ⊢
          clear es
          go_simp
          obtain ⟨rD, rO, rc, rm, rx, rb', ra', rs', rz⟩ := hR
          exact hK2 _ _ ⟨fun h => ⟨rfl, (rD h).2⟩, rO, rc, rm, fun _ => rfl, rb', ra', rs', rz⟩
        · refine InvStep.list (k := 8) rfl rfl [6] (by kernel_rfl) [(5, some 64), (6, some 58), (7, some 65), (8, some 66), (9, some 11), (10, none), (11, some 12)] (by kernel_rfl) (by decide) (fun L vals olds wx hLk hdeps hR K hK => ?_)
          have hK2 := hK.out
          clear hK
          simp only [fillL, setD, List.set_cons_succ, List.set_cons_zero] at hK2 ⊢
          simp only [List.all_cons, List.all_nil, Bool.and_true] at hdeps
          have es := (slotO_done (vals := vals) (olds := olds) hdeps).trans (hR.vm hdeps)
          simp only [es] at hK2 ⊢
          clear es
          go_simp
          obtain ⟨rD, rO, rc, rm, rx, rb', ra', rs', rz⟩ := hR
          exact hK2 _ _ ⟨rD, rO, rc, rm, rx, fun _ => rfl, ra', rs', rz⟩
        · refine InvStep.list (k := 9) rfl rfl [] (by kernel_rfl) [(5, some 64), (6, some 58), (7, some 65), (8, some 66), (9, some 11), (10, none), (11, some 12)] (by kernel_rfl) (by decide) (fun L vals olds wx hLk hdeps hR K hK => ?_)
          have hK2 := hK.out
          clear hK
          simp only [fillL, setD, List.set_cons_succ, List.set_cons_zero] at hK2 ⊢
          clear hdeps
          have f10 : L 10 = false := by
            cases e : L 10 with
            | false => rfl
            | true => rw [(hR.dn e).2] at hLk; cases hLk
          go_simp
          obtain ⟨rD, rO, rc, rm, rx, rb', ra', rs', rz⟩ := hR
          exact hK2 _ _ ⟨fun h => absurd (f10.symm.trans h) (by decide), rO.alloc rO.size _, rc, rm, rx, rb', fun _ _ => ⟨_, rfl, rO.size, World.alloc_heap_new _ _⟩, fun h => absurd (f10.symm.trans h) (by decide), rz⟩
        · refine InvStep.list (k := 10) rfl rfl [7, 9] (by kernel_rfl) [(5, some 64), (6, some 58), (7, some 65), (8, some 66), (9, some 11), (10, none), (11, some 12)] (by kernel_rfl) (by decide) (fun L vals olds wx hLk hdeps hR K hK => ?_)
          have hK2 := hK.out
          clear hK
          simp only [fillL, setD, List.set_cons_succ, List.set_cons_zero] at hK2 ⊢
          simp only [List.all_cons, List.all_nil, Bool.and_true, Bool.and_eq_true] at hdeps
          obtain ⟨X, eX, hX1, hX2⟩ := hR.va hdeps.2 hLk
          have es := (slotO_done (vals := vals) (olds := olds) hdeps.1).trans (hR.vx hdeps.1)
          have es2 := (slotO_done (vals := vals) (olds := olds) hdeps.2).trans eX
          simp only [es, es2] at hK2 ⊢
          clear es es2
          have z0 := (refO_cells hX2).1
          have z1 := (refO_cells hX2).2.1
          have z2 := (refO_cells hX2).2.2.1
          have z3 := (refO_cells hX2).2.2.2
          have EX := Lib.hid eX
          clear eX
          go_simp
          clear z0 z1 z2 z3
          obtain ⟨rD, rO, rc, rm, rx, rb', ra', rs', rz⟩ := hR
          refine hK2 undef _ ⟨fun _ => hdeps, (rO.setCell (p := ⟨X, 0, none⟩) hX1 _).setCell (p := ⟨X, 1, none⟩) hX1 _, rc, rm, rx, rb', fun _ h => (Bool.false_ne_true h.symm).elim, fun _ => ⟨X, EX.out, hX1, refO_fill hX2 _ _⟩, rz⟩
        · refine InvStep.list (k := 11) rfl rfl [8] (by kernel_rfl) [(5, some 64), (6, some 58), (7, some 65), (8, some 66), (9, some 11), (10, none), (11, some 12)] (by kernel_rfl) (by decide) (fun L vals olds wx hLk hdeps hR K hK => ?_)
          have hK2 := hK.out
          clear hK
          simp only [fillL, setD, List.set_cons_succ, List.set_cons_zero] at hK2 ⊢
          simp only [List.all_cons, List.all_nil, Bool.and_true] at hdeps
          have es := (slotO_done (vals := vals) (olds := olds) hdeps).trans (hR.vb hdeps)
          simp only [es] at hK2 ⊢
          clear es
          go_simp
          obtain ⟨rD, rO, rc, rm, rx, rb', ra', rs', rz⟩ := hR
          exact hK2 _ _ ⟨rD, rO, rc, rm, rx, rb', ra', rs', fun _ => rfl⟩
      case stopa =>
        refine end_plain [(5, some 64), (6, some 58), (7, some 65), (8, some 66), (9, some 11), (10, none), (11, some 12)] (by kernel_rfl) (by decide) (fun L vals olds WA hall hR => ?_)
        simp only [List.all_cons, List.all_nil, Bool.and_true, Bool.and_eq_true] at hall
        obtain ⟨q5, q6, q7, q8, q9, q10, q11⟩ := hall
        obtain ⟨X, eX, hX1, hX2⟩ := hR.vs q10
        have eZ := hR.vz q11
        have HWA := Lib.hid hR.out
        have HXA := Lib.hid hX2
        simp only [fillL, List.set_cons_succ, List.set_cons_zero, slotO_done q9, slotO_done q11, eX, eZ]
        clear hR q5 q6 q7 q8 q9 q10 q11 hX1 hX2 eX eZ hHeld
        go_wp2_with fail
        have hsA := HWA.out.size
        have HAUA : Hid (∀ W, Below WA.heap.size WA W → Calls Try.prog 8 #[grV na nn nc, rfV r0.n (r0.s + k), .slice pa pn pc] W fun e w' => e = .returned (.tuple #[.agg #[.int .i64 (qn : Int), .int .i64 s2], .bool ob]) ∧ Below W.heap.size W w') := Lib.hid (fun W hW => HAU.out W (HWA.out.trans (hW.mono hsA)))
        have HS10 : Hid (∀ W, Below WA.heap.size WA W → W.cell? ⟨ub, uo, none⟩ = some (.int .i64 r0.n) ∧ W.cell? ⟨ub, uo + 1, none⟩ = some (.int .i64 (r0.s + k)) ∧ W.cell? ⟨w6.heap.size, 0, none⟩ = some (.slice na nn nc)) := Lib.hid (fun W hW => by
          obtain ⟨_, _, a1, a2, a3⟩ := HC0.out W (HWA.out.trans (hW.mono hsA))
          exact ⟨a1, a2, a3⟩)
        refine wp_region_held_drew (S := fun W => W.cell? ⟨ub, uo, none⟩ = some (.int .i64 r0.n) ∧ W.cell? ⟨ub, uo + 1, none⟩ = some (.int .i64 (r0.s + k)) ∧ W.cell? ⟨w6.heap.size, 0, none⟩ = some (.slice na nn nc)) (by kernel_rfl) (HS10.out WA (Below.refl _ _)) (fun hHeld => ?_)
        refine wpAnyH_take_l 0 (v := ?vb0) rfl rfl (by kernel_rfl) (by kernel_rfl) (by kernel_rfl) (fun _ _ _ h => h) ?hb0 (by assumption) ?rb0
        case hb0 => (intro w hSw; (try dsimp only at hSw); go_simp; try rfl)
        case' rb0 => simp only [setD, List.set_cons_succ, List.set_cons_zero]
        refine wpAnyH_take_l 1 (v := ?vb1) rfl rfl (by kernel_rfl) (by kernel_rfl) (by kernel_rfl) (fun _ _ _ h => h) ?hb1 (by assumption) ?rb1
        case hb1 => (intro w hSw; (try dsimp only at hSw); go_simp; try rfl)
        case' rb1 => simp only [setD, List.set_cons_succ, List.set_cons_zero]
        refine wpAnyH_take_l 2 (v := ?vb2) rfl rfl (by kernel_rfl) (by kernel_rfl) (by kernel_rfl) (fun _ _ _ h => h) ?hb2 (by assumption) ?rb2
        case hb2 => (intro w hSw; (try dsimp only at hSw); go_simp; try rfl)
        case' rb2 => simp only [setD, List.set_cons_succ, List.set_cons_zero]
        refine wpAnyH_take_l 3 (v := ?vb3) rfl rfl (by kernel_rfl) (by kernel_rfl) (by kernel_rfl) (fun _ _ _ h => h) ?hb3 (by assumption) ?rb3
        case hb3 => (intro w hSw; (try dsimp only at hSw); go_simp; try rfl)
        case' rb3 => simp only [setD, List.set_cons_succ, List.set_cons_zero]
        refine wpAnyH_take_l 4 (v := ?vb4) rfl rfl (by kernel_rfl) (by kernel_rfl) (by kernel_rfl) (fun _ _ _ h => h) ?hb4 (by assumption) ?rb4
        case hb4 => (intro w hSw; (try dsimp only at hSw); go_simp; try rfl)
        case' rb4 => simp only [setD, List.set_cons_succ, List.set_cons_zero]
        refine wpAnyH_start [5, 6, 7, 8, 9, 10, 11] (CB WA (.int .i64 (qn : Int)) (.int .i64 s2) (.bool ob) 5 6 7 8 9 10 11) (by kernel_rfl) (by kernel_rfl) (fun L vals W hR => HS10.out _ hR.out) ?startb ?stepsb ?stopb
        case startb => exact ⟨fun h => (Bool.false_ne_true h).elim, (Below.refl _ _).drew, fun h => (Bool.false_ne_true h).elim, fun h => (Bool.false_ne_true h).elim, fun h => (Bool.false_ne_true h).elim, fun h => (Bool.false_ne_true h).elim, fun h => (Bool.false_ne_true h).elim, fun h => (Bool.false_ne_true h).elim, fun h => (Bool.false_ne_true h).elim⟩
        case stepsb =>
          refine List.forall_mem_cons.2 ⟨?_, List.forall_mem_cons.2 ⟨?_, List.forall_mem_cons.2 ⟨?_, List.forall_mem_cons.2 ⟨?_, List.forall_mem_cons.2 ⟨?_, List.forall_mem_cons.2 ⟨?_, List.forall_mem_cons.2 ⟨?_, fun _ h => by cases h⟩⟩⟩⟩⟩⟩⟩
          · refine InvStep.list (k := 5) rfl rfl [] (by kernel_rfl) [(5, some 73), (6, some 67), (7, some 74), (8, some 75), (9, some 13), (10, none), (11, some 14)] (by kernel_rfl) (by decide) (fun L vals olds wx hLk hdeps hR K hK => ?_)
            have hK2 := hK.out
            clear hK
            simp only [fillL, setD, List.set_cons_succ, List.set_cons_zero] at hK2 ⊢
            clear hdeps
            go_simp
            refine (HAUA.out _ hR.out).mono ?_
            rintro en w9 ⟨rfl, hb9⟩
            dsimp only
            obtain ⟨rD, rO, rc, rm, rx, rb', ra', rs', rz⟩ := hR
            refine hK2 _ _ ⟨rD, below_seq rO hb9, fun _ => rfl, rm, rx, rb', fun h h' => ?_, fun h => ?_, rz⟩
            · obtain ⟨X, e1, e2, e3⟩ := ra' h h'; exact ⟨X, e1, e2, (hb9.block X (Array.getElem?_eq_some_iff.1 e3).1).trans e3⟩
            · obtain ⟨X, e1, e2, e3⟩ := rs' h; exact ⟨X, e1, e2, (hb9.block X (Array.getElem?_eq_some_iff.1 e3).1).trans e3⟩
          · refine InvStep.list (k := 6) rfl rfl [5] (by kernel_rfl) [(5, some 73), (6, some 67), (7, some 74), (8, some 75), (9, some 13), (10, none), (11, some 14)] (by kernel_rfl) (by decide) (fun L vals olds wx hLk hdeps hR K hK => ?_)
            have hK2 := hK.out
            clear hK
            simp only [fillL, setD, List.set_cons_succ, List.set_cons_zero] at hK2 ⊢
            simp only [List.all_cons, List.all_nil, Bool.and_true] at hdeps
            have es := (slotO_done (vals := vals) (olds := olds) hdeps).trans (hR.vc hdeps)
            simp only [es] at hK2 ⊢
            clear es
            go_simp
            obtain ⟨rD, rO, rc, rm, rx, rb', ra', rs', rz⟩ := hR
            exact hK2 _ _ ⟨rD, rO, rc, fun _ => rfl, rx, rb', ra', rs', rz⟩
          · refine InvStep.list (k := 7) rfl rfl [6] (by kernel_rfl) [(5, some 73), (6, some 67), (7, some 74), (8, some 75), (9, some 13), (10, none), (11, some 14)] (by kernel_rfl) (by decide) (fun L vals olds wx hLk hdeps hR K hK => ?_)
            have hK2 := hK.out
            clear hK
            simp only [fillL, setD, List.set_cons_succ, List.set_cons_zero] at hK2 ⊢
            simp only [List.all_cons, List.all_nil, Bool.and_true] at hdeps
            have es := (slotO_done (vals := vals) (olds := olds) hdeps).trans (hR.vm hdeps)
            simp only [es] at hK2 ⊢
            clear es
            go_simp
            obtain ⟨rD, rO, rc, rm, rx, rb', ra', rs', rz⟩ := hR
            exact hK2 _ _ ⟨fun h => ⟨rfl, (rD h).2⟩, rO, rc, rm, fun _ => rfl, rb', ra', rs', rz⟩
          · refine InvStep.list (k := 8) rfl rfl [6] (by kernel_rfl) [(5, some 73), (6, some 67), (7, some 74), (8, some 75), (9, some 13), (10, none), (11, some 14)] (by kernel_rfl) (by decide) (fun L vals olds wx hLk hdeps hR K hK => ?_)
            have hK2 := hK.out
            clear hK
            simp only [fillL, setD, List.set_cons_succ, List.set_cons_zero] at hK2 ⊢
            simp only [List.all_cons, List.all_nil, Bool.and_true] at hdeps
            have es := (slotO_done (vals := vals) (olds := olds) hdeps).trans (hR.vm hdeps)
            simp only [es] at hK2 ⊢
            clear es
            go_simp
            obtain ⟨rD, rO, rc, rm, rx, rb', ra', rs', rz⟩ := hR
            exact hK2 _ _ ⟨rD, rO, rc, rm, rx, fun _ => rfl, ra', rs', rz⟩
          · refine InvStep.list (k := 9) rfl rfl [] (by kernel_rfl) [(5, some 73), (6, some 67), (7, some 74), (8, some 75), (9, some 13), (10, none), (11, some 14)] (by kernel_rfl) (by decide) (fun L vals olds wx hLk hdeps hR K hK => ?_)
            have hK2 := hK.out
            clear hK
            simp only [fillL, setD, List.set_cons_succ, List.set_cons_zero] at hK2 ⊢
            clear hdeps
            have f10 : L 10 = false := by
              cases e : L 10 with
              | false => rfl
              | true => rw [(hR.dn e).2] at hLk; cases hLk
            go_simp
            obtain ⟨rD, rO, rc, rm, rx, rb', ra', rs', rz⟩ := hR
            exact hK2 _ _ ⟨fun h => absurd (f10.symm.trans h) (by decide), rO.alloc rO.size _, rc, rm, rx, rb', fun _ _ => ⟨_, rfl, rO.size, World.alloc_heap_new _ _⟩, fun h => absurd (f10.symm.trans h) (by decide), rz⟩
          · refine InvStep.list (k := 10) rfl rfl [7, 9] (by kernel_rfl) [(5, some 73), (6, some 67), (7, some 74), (8, some 75), (9, some 13), (10, none), (11, some 14)] (by kernel_rfl) (by decide) (fun L vals olds wx hLk hdeps hR K hK => ?_)
            have hK2 := hK.out
            clear hK
            simp only [fillL, setD, List.set_cons_succ, List.set_cons_zero] at hK2 ⊢
            simp only [List.all_cons, List.all_nil, Bool.and_true, Bool.and_eq_true] at hdeps
            obtain ⟨X, eX, hX1, hX2⟩ := hR.va hdeps.2 hLk
            have es := (slotO_done (vals := vals) (olds := olds) hdeps.1).trans (hR.vx hdeps.1)
            have es2 := (slotO_done (vals := vals) (olds := olds) hdeps.2).trans eX
            simp only [es, es2] at hK2 ⊢
            clear es es2
            have z0 := (refO_cells hX2).1
            have z1 := (refO_cells hX2).2.1
            have z2 := (refO_cells hX2).2.2.1
            have z3 := (refO_cells hX2).2.2.2
            have EX := Lib.hid eX
            clear eX
            go_simp
            clear z0 z1 z2 z3
            obtain ⟨rD, rO, rc, rm, rx, rb', ra', rs', rz⟩ := hR
            refine hK2 undef _ ⟨fun _ => hdeps, (rO.setCell (p := ⟨X, 0, none⟩) hX1 _).setCell (p := ⟨X, 1, none⟩) hX1 _, rc, rm, rx, rb', fun _ h => (Bool.false_ne_true h.symm).elim, fun _ => ⟨X, EX.out, hX1, refO_fill hX2 _ _⟩, rz⟩
          · refine InvStep.list (k := 11) rfl rfl [8] (by kernel_rfl) [(5, some 73), (6, some 67), (7, some 74), (8, some 75), (9, some 13), (10, none), (11, some 14)] (by kernel_rfl) (by decide) (fun L vals olds wx hLk hdeps hR K hK => ?_)
            have hK2 := hK.out
            clear hK
            simp only [fillL, setD, List.set_cons_succ, List.set_cons_zero] at hK2 ⊢
            simp only [List.all_cons, List.all_nil, Bool.and_true] at hdeps
            have es := (slotO_done (vals := vals) (olds := olds) hdeps).trans (hR.vb hdeps)
            simp only [es] at hK2 ⊢
            clear es
            go_simp
            obtain ⟨rD, rO, rc, rm, rx, rb', ra', rs', rz⟩ := hR
            exact hK2 _ _ ⟨rD, rO, rc, rm, rx, rb', ra', rs', fun _ => rfl⟩
        case stopb =>
          refine end_plain [(5, some 73), (6, some 67), (7, some 74), (8, some 75), (9, some 13), (10, none), (11, some 14)] (by kernel_rfl) (by decide) (fun L vals olds WB hall hR => ?_)
          simp only [List.all_cons, List.all_nil, Bool.and_true, Bool.and_eq_true] at hall
          obtain ⟨q5, q6, q7, q8, q9, q10, q11⟩ := hall
          obtain ⟨Y, eX, hX1, hX2⟩ := hR.vs q10
          have eZ := hR.vz q11
          have HWB := Lib.hid hR.out
          have HYB := Lib.hid hX2
          simp only [fillL, List.set_cons_succ, List.set_cons_zero, slotO_done q9, slotO_done q11, eX, eZ]
          clear hR q5 q6 q7 q8 q9 q10 q11 hX1 hX2 eX eZ hHeld
          clear hpos
          have HVB : Hid (Below V.heap.size V WB) := Lib.hid (HWA.out.trans (HWB.out.mono hsA))
          have g0 := (HC0.out WB HVB.out).2.2.2.2
          go_upto_region 12 with (go_at_call 9; go_loud (refine (HLO.out _ HVB.out).mono ?_; rintro en wC ⟨rfl, hbC⟩; have HWC := Lib.hid hbC; clear hbC))
          clear g0
          have HVC : Hid (Below V.heap.size V wC) := Lib.hid (HVB.out.trans (HWC.out.mono HVB.out.size))
          have g0 := (HC0.out wC HVC.out).2.2.2.2
          go_upto_region 13 with (go_at_call 9; go_loud (refine (HLU.out _ HVC.out).mono ?_; rintro en wD ⟨rfl, hbD⟩; have HWD := Lib.hid hbD; clear hbD))
          clear g0
          have HBD : Hid (Below WB.heap.size WB wD) := Lib.hid (below_seq HWC.out HWD.out)
          have hXA : X < WA.heap.size := (Array.getElem?_eq_some_iff.1 HXA.out).1
          have hYB : Y < WB.heap.size := (Array.getElem?_eq_some_iff.1 HYB.out).1
          have HEND : Hid (∀ W, Below wD.heap.size wD W → Below w.heap.size w W) := Lib.hid (fun W hW => below_seq HB7.out (HBV.out.trans ((HVC.out.trans ((below_seq HWD.out hW).mono HVC.out.size)).mono hszV)))
          have HXD : Hid (∀ W, Below wD.heap.size wD W → (W.cell? ⟨X, 0, none⟩ = some (.int .i64 (qn : Int)) ∧ W.cell? ⟨X, 1, none⟩ = some (.int .i64 s1)) ∧ W.cell? ⟨Y, 0, none⟩ = some (.int .i64 (qn : Int)) ∧ W.cell? ⟨Y, 1, none⟩ = some (.int .i64 s2)) := Lib.hid (fun W hW => by
            have hBW := below_seq HBD.out hW
            have a := refO_cells ((hBW.block X (by have := HWB.out.size; omega)).trans ((HWB.out.block X hXA).trans HXA.out))
            have b := refO_cells ((hBW.block Y hYB).trans HYB.out)
            exact ⟨⟨a.1, a.2.1⟩, b.1, b.2.1⟩)
          have hek : IntKind.i64.wrap k = k := by rw [IntKind.wrap_i64]; omega
          have HRA : Hid (∀ W, Calls Try.prog 7 #[rfV qn s1, .int .i64 k] W fun e w' => e = .returned (rfV qn (s1 + k)) ∧ Below W.heap.size W w') ∨ ob = false := by
            cases ob
            · exact .inr rfl
            · have h := HAB.out rfl
              exact .inl (Lib.hid (fun W => hraise_any qn s1 k W (by omega)))
          clear HAF HAU HAUA HLO HLU HC0 HS9 HS10 HNG HRC HBX HPW HGR HFW HP HRB
          have a0 := fun q : Later wD.heap.size wD => (HXD.out q.1 q.2).1.1
          have a1 := fun q : Later wD.heap.size wD => (HXD.out q.1 q.2).1.2
          have b0 := fun q : Later wD.heap.size wD => (HXD.out q.1 q.2).2.1
          have b1 := fun q : Later wD.heap.size wD => (HXD.out q.1 q.2).2.2
          have HRQ := HRA
          clear HRA
          cases ob
          · clear HRQ HAB
            cases pb
            · refine wp_region_later wD.heap.size wD (by kernel_rfl) (by kernel_rfl) (Below.refl _ _) ?_
              repeat (go_big_quiet_step (fail))
              refine wpQuiet_nil ?_
              rintro _ ⟨⟨w17, hb17⟩, rfl⟩
              go_wp2_with fail
              go_ret
              exact ⟨rfl, HEND.out _ hb17⟩
            · obtain ⟨rfl, hq1, hq2⟩ := HPB.out rfl
              have hes : IntKind.i64.wrap (m1 + k) = m1 + k := by rw [IntKind.wrap_i64]; omega
              clear hq1 hq2 HPB
              refine wp_region_later wD.heap.size wD (by kernel_rfl) (by kernel_rfl) (Below.refl _ _) ?_
              repeat (go_big_quiet_step (fail))
              refine wpQuiet_nil ?_
              rintro _ ⟨⟨w17, hb17⟩, rfl⟩
              go_wp2_with fail
              go_ret
              exact ⟨rfl, HEND.out _ hb17⟩
          · obtain ⟨rfl, _, _⟩ := HAB.out rfl
            have HC1 : Hid (∀ q : Later wD.heap.size wD, Calls Try.prog 7 #[rfV qn s1, .int .i64 k] q.1 fun e w' => e = .returned (rfV qn (s1 + k)) ∧ Below q.1.heap.size q.1 w') := by
              rcases HRQ with h | h
              · exact Lib.hid (fun q => h.out q.1)
              · cases h
            clear HRQ HAB
            cases pb
            · refine wp_region_later wD.heap.size wD (by kernel_rfl) (by kernel_rfl) (Below.refl _ _) ?_
              repeat (go_big_quiet_step (first | (go_at_call 7; with_reducible exact later_call _ (Nat.le_refl _) (HC1.out _))))
              refine wpQuiet_nil ?_
              rintro _ ⟨⟨w17, hb17⟩, rfl⟩
              go_wp2_with fail
              go_ret
              exact ⟨rfl, HEND.out _ hb17⟩
            · obtain ⟨rfl, hq1, hq2⟩ := HPB.out rfl
              have hes : IntKind.i64.wrap (m1 + k) = m1 + k := by rw [IntKind.wrap_i64]; omega
              clear hq1 hq2 HPB
              refine wp_region_later wD.heap.size wD (by kernel_rfl) (by kernel_rfl) (Below.refl _ _) ?_
              repeat (go_big_quiet_step (first | (go_at_call 7; with_reducible exact later_call _ (Nat.le_refl _) (HC1.out _))))
              refine wpQuiet_nil ?_
              rintro _ ⟨⟨w17, hb17⟩, rfl⟩
              go_wp2_with fail
              go_ret
              exact ⟨rfl, HEND.out _ hb17⟩
end Go.Proofs.Ytecdapihfiahiaa
