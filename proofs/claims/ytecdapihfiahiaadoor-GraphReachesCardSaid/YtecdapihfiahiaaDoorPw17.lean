/- Graphs: the reference's Few (lists of few right types). (and what follows from it) -/
import Derived.Test.YtecdapihfiahiaaDoorPw9
import Derived.Test.YtecdapihfiahiaaDoorPw4
import Derived.Test.YtecdapihfiahiaaDoorPw16
import Derived.Test.YtecdapihfiahiaaDoorPw11
import Derived.Test.YtecdapihfiahiaaDoorPw6
import Derived.Test.YtecdapihfiahiaaDoorPw14
import Derived.Test.YtecdapihfiahiaaDoorPw5
import Derived.Test.YtecdapihfiahiaaDoorPw12

/- Graphs: the reference's Few (lists of few right types). -/
namespace Go.Proofs.YtecdapihfiahiaaDoor
open Go.RowKit Go.Deep Go.Shelf

/-- Few types, all of them small and right. -/
def fewB (ts : List Ty) (m z : Nat) : Bool := decide (ts.length ≤ m) && ts.all (fun t => smallB t z)
theorem fewB_all {ts : List Ty} {m z : Nat} (h : fewB ts m z = true) : ts.length ≤ m ∧ ∀ t ∈ ts, t.size ≤ z ∧ t.depth ≤ 150 ∧ rightE t = 0 := by
  simp only [fewB, Bool.and_eq_true, decide_eq_true_eq, List.all_eq_true, smallB, Ty.few] at h
  exact ⟨h.1, fun t ht => by have := h.2 t ht; exact ⟨this.1.1, by omega, this.2⟩⟩
set_option maxHeartbeats 4000000 in
set_option maxRecDepth 100000 in
theorem few_any (ts : List Ty) (m z : Nat) (hz : z ≤ 1000000) (v : Value) (w : World) (hts : TySl (fun k => k < w.heap.size) w v ts) :
    Calls Tryd.prog 8 #[v, .int .i64 (m : Int), .int .i64 (z : Int)] w fun e w' => e = .returned (.bool (fewB ts m z)) ∧ Below w.heap.size w w' := by
  obtain ⟨pa, len, c, rfl, hlen, hmx, hget⟩ := hts.open
  have HG := Lib.hid hget
  have HL := Lib.hid hlen.out
  clear hget hts hlen
  by_cases hlm : len ≤ m
  · have hd1 : decide (m < len) = false := by simpa using hlm
    have hd2 : decide ((m : Int) < (len : Int)) = false := by simpa using hlm
    have HLM := Lib.hid hlm
    clear hlm
    go_enter Tryd.func8, Tryd.ntmps8
    go_wp2_with fail
    go_loopw [7] (fun i wr => ∃ j : Nat, i = .int .i64 j ∧ j ≤ len ∧ Hid ((ts.take j).all (fun t => smallB t z) = true) ∧ Below w.heap.size w wr) (fun i _ => len - (intOf i).toNat)
    case atStart => exact ⟨0, rfl, by omega, Lib.hid (by simp), Below.refl _ _⟩
    case round =>
      obtain ⟨j, rfl, hj, HT, hb⟩ := hrel
      by_cases hlt : j < len
      · obtain ⟨t, ht⟩ : ∃ t, ts[j]? = some t := ⟨_, List.getElem?_eq_getElem (by rw [← HL.out]; exact hlt)⟩
        obtain ⟨kb, ko, rfl, hkb, hty⟩ := HG.out j t ht
        obtain ⟨lv', kv', ⟨d0, d1, d2, d3, d4, d5⟩, hval⟩ := (hty.keep (hb.keeps'.mono (fun k hk => hk))).load
        have HS := Lib.hid (small_any t z hz _ wr (TyVal.mono (C := fun k => k < wr.heap.size) (fun k hk => Nat.lt_of_lt_of_le hk hb.size) hval))
        obtain ⟨sb, hsb⟩ : ∃ b, smallB t z = b := ⟨_, rfl⟩
        rw [hsb] at HS
        have HN : Hid ((ts.take (j + 1)).all (fun t => smallB t z) = sb) := Lib.hid (by rw [take_snoc_get ht, List.all_append, HT.out, ← hsb]; simp)
        clear hsb ht hval hty
        cases sb
        · go_wp2_with (go_at_call 14; refine HS.out.mono ?_; rintro e w1 ⟨rfl, hb1⟩)
          go_ret
          refine ⟨ret_bool ?_, below_seq hb hb1⟩
          have h := HN.out
          cases hf : fewB ts m z with
          | false => rfl
          | true =>
            simp only [fewB, Bool.and_eq_true, List.all_eq_true] at hf
            rw [List.all_eq_true.2 (fun t ht => hf.2 t (List.mem_of_mem_take ht))] at h
            cases h
        · go_wp2_with (go_at_call 14; refine HS.out.mono ?_; rintro e w1 ⟨rfl, hb1⟩)
          go_roundw
          case rel => exact ⟨j + 1, by go_num, by omega, HN, below_seq hb hb1⟩
          case measure => simp [intOf]; omega
      · obtain rfl : j = len := by omega
        have hf : fewB ts m z = true := by
          have h := HT.out
          rw [List.take_of_length_le (by rw [HL.out]; exact Nat.le_refl _)] at h
          rw [fewB, h, Bool.and_true, decide_eq_true_eq, ← HL.out]; exact HLM.out
        have HF := Lib.hid hf
        clear hf
        go_wp2_with fail
        go_ret
        exact ⟨ret_bool HF.out.symm, hb⟩
  · have hf : fewB ts m z = false := by
      rw [fewB, decide_eq_false (by rw [← HL.out]; exact hlm)]; rfl
    rw [hf]
    clear hf
    go_enter Tryd.func8, Tryd.ntmps8
    go_wp2_with fail
    go_ret
    exact ⟨rfl, Below.refl _ _⟩
end Go.Proofs.YtecdapihfiahiaaDoor

/- Graphs: the law that the program's graph is the reference's. -/
namespace Go.Proofs.YtecdapihfiahiaaDoor
open Go.RowKit Go.Deep Go.Shelf

theorem pnods_nx (e : ByteArray → Nat) : ∀ (l : List Ty) (i : Nat), ∀ x ∈ Ty.pnods i e l, x.nx.length ≤ Ty.sizes l
  | [], i, x, hx => by rw [Ty.pnods] at hx; cases hx
  | t :: r, i, x, hx => by
    rw [Ty.pnods] at hx
    rw [Ty.sizes]
    rcases List.mem_append.1 hx with hx | hx
    · have := pnod_nx t i e x hx; omega
    · have := pnods_nx e r _ x hx; omega
/-- What few right types give. -/
theorem few_facts {ts : List Ty} {m z : Nat} (h : fewB ts m z = true) (hz : z ≤ 1000) : ts.length ≤ m ∧ Ty.sizes ts ≤ m * z ∧ Ty.depths ts ≤ 150 ∧ Ty.okgs ts ∧ (∀ t ∈ ts, nodeR [] 0 false t = 0) ∧ ∀ t ∈ ts, t.depth ≤ 800 := by
  obtain ⟨hl, ha⟩ := fewB_all h
  have hsz : ∀ l : List Ty, (∀ t ∈ l, t.size ≤ z) → Ty.sizes l ≤ l.length * z := by
    intro l
    induction l with
    | nil => intro _; simp [Ty.sizes]
    | cons t r ih =>
      intro hh
      have h1 := hh t (by simp)
      have h2 := ih (fun u hu => hh u (by simp [hu]))
      rw [Ty.sizes, List.length_cons, Nat.add_mul]
      omega
  have hdp : ∀ l : List Ty, (∀ t ∈ l, t.depth ≤ 150) → Ty.depths l ≤ 150 := by
    intro l
    induction l with
    | nil => intro _; simp [Ty.depths]
    | cons t r ih =>
      intro hh
      have h1 := hh t (by simp)
      have h2 := ih (fun u hu => hh u (by simp [hu]))
      rw [Ty.depths]
      omega
  refine ⟨hl, Nat.le_trans (hsz ts (fun t ht => (ha t ht).1)) (Nat.mul_le_mul_right z hl), hdp ts (fun t ht => (ha t ht).2.1), Ty.okgs_of (fun t ht => okg_of t [] 0 false (right_node (ha t ht).2.2) (by have := (ha t ht).1; omega)), fun t ht => right_node (ha t ht).2.2, fun t ht => by have := (ha t ht).2.1; omega⟩

set_option maxHeartbeats 8000000 in
set_option maxRecDepth 100000 in
theorem GraphMatchesReference_any (ts : List Ty) (v : Value) (E : Nat) (w : World) (he : GEnvW E w) (hts : TySl (fun k => k < w.heap.size) w v ts) :
    Calls Tryd.prog 3 #[v] w fun e w' => e = .returned (.bool true) ∧ Below w.heap.size w w' := by
  obtain ⟨pa, len, c, rfl, hlen, _, _⟩ := hts.open
  have HL := Lib.hid hlen.out
  have HTS := Lib.hid (fun (W : World) (hW : Below w.heap.size w W) => (hts.keep (hW.keeps'.mono (fun k hk => hk))).mono (C := fun k => k < W.heap.size) (fun k hk => Nat.lt_of_lt_of_le hk hW.size))
  have HAW := Lib.hid (fun (W : World) (hW : Below w.heap.size w W) => gawake_any E W (he.to (hW.mono he.le)))
  have HFW := Lib.hid (fun (W : World) (hW : Below w.heap.size w W) => few_any ts 10 200 (by decide) _ W (HTS.out W hW))
  obtain ⟨fb, hfb⟩ : ∃ b, fewB ts 10 200 = b := ⟨_, rfl⟩
  rw [hfb] at HFW
  have HFB := Lib.hid hfb
  clear hts hlen he hfb
  cases fb
  · go_enter Tryd.func3, Tryd.ntmps3
    go_upto_region 2 with (first | (go_at_call 7; refine (HAW.out _ (Below.refl _ _)).mono ?_; rintro en w3 ⟨rfl, hb3⟩; have HB3 := Lib.hid hb3; clear hb3) | (go_at_call 8; refine (HFW.out _ HB3.out).mono ?_; rintro en w4 ⟨rfl, hb4⟩; have HB4 := Lib.hid (below_seq HB3.out hb4); clear hb4))
    go_wp2_with (go_at_call 7; refine (HAW.out _ HB4.out).mono ?_; rintro en w5 ⟨rfl, hb5⟩)
    go_ret
    exact ⟨rfl, below_seq HB4.out hb5⟩
  · obtain ⟨hl10, hsz, hdp, hok, hnr, hd8⟩ := few_facts HFB.out (by decide)
    have hnl : (gNodes ts).length ≤ 2000 := by
      have h := pnods_ok (e := fun _ => 0) ts 0 hok
      have := Ty.gcnts_le ts
      unfold gNodes
      omega
    have hnx : ∀ g ∈ gNodes ts, g.nx.length ≤ 1000000 := fun g hg => by
      have := pnods_nx (fun _ => 0) ts 0 g hg
      omega
    have hrl : (gRefs ts).length = len := by unfold gRefs; rw [prefs_len, HL.out]
    have hlen10 : len ≤ 10 := by rw [HL.out]; exact hl10
    obtain ⟨rs, hrs⟩ : ∃ rs, gRefs ts = rs := ⟨_, rfl⟩
    obtain ⟨ns, hns⟩ : ∃ ns, gNodes ts = ns := ⟨_, rfl⟩
    have HBP := Lib.hid (fun (W : World) (hW : Below w.heap.size w W) => build_any ts pa len c W (HTS.out W hW) (by omega) (by omega) hok)
    have HBR := Lib.hid (fun (W : World) (hW : Below w.heap.size w W) => rbuild_any ts (.slice pa len c) W (HTS.out W hW) (by omega) hd8 hnr)
    rw [hrs, hns] at HBP HBR
    rw [hns] at hnl hnx
    rw [hrs] at hrl
    have HNX := Lib.hid hnx
    have HNL := Lib.hid hnl
    have HRL := Lib.hid hrl
    clear hl10 hsz hdp hok hnr hd8 hnx hnl hrl hrs hns
    go_enter Tryd.func3, Tryd.ntmps3
    go_upto_region 3 with (first | (go_at_call 7; refine (HAW.out _ (Below.refl _ _)).mono ?_; rintro en w3 ⟨rfl, hb3⟩; have HB3 := Lib.hid hb3; clear hb3) | (go_at_call 8; refine (HFW.out _ HB3.out).mono ?_; rintro en w4 ⟨rfl, hb4⟩; have HB4 := Lib.hid (below_seq HB3.out hb4); clear hb4))
    go_upto_region 4 with (go_at_call 9; go_loud (refine (HBP.out _ HB4.out).mono ?_; rintro en w6 ⟨na, nn, nc, ra, rn, rc, rfl, hn6, hr6, hb6⟩; have HN6 := Lib.hid hn6; have HR6 := Lib.hid hr6; have HB6 := Lib.hid (below_seq HB4.out hb6); clear hn6 hr6 hb6))
    obtain ⟨W7, hW7⟩ : ∃ W7, w6.alloc (.cells #[.slice na nn nc] 27) = W7 := ⟨_, rfl⟩
    have hb7 : Below w6.heap.size w6 W7 := by rw [← hW7]; exact blkBelow w6 _ _
    have x7 : W7.heap[w6.heap.size]? = some (.cells #[.slice na nn nc] 27 (0, 0)) := by rw [← hW7]; exact World.alloc_heap_new _ _
    have hs7 : w6.heap.size < W7.heap.size := (Array.getElem?_eq_some_iff.1 x7).1
    have HBX := Lib.hid (fun (W : World) (hW : Below W7.heap.size W7 W) => show W.cell? ⟨w6.heap.size, 0, none⟩ = some (.slice na nn nc) from by
      have a1 : W.heap[w6.heap.size]? = _ := (hW.block _ hs7).trans x7
      simp [World.cell?, a1])
    have HNG : Hid (∀ W, Below W7.heap.size W7 W → NodeSl (fun k => k < W.heap.size) W (.slice na nn nc) ns ∧ RefSl (fun k => k < W.heap.size) W (.slice ra rn rc) rs) := Lib.hid (fun W hW => by
      have b1 := below_seq hb7 hW
      exact ⟨(HN6.out.keep (b1.keeps'.mono (fun k hk => hk.2))).mono (fun k hk => Nat.lt_of_lt_of_le hk.2 b1.size), (HR6.out.keep (b1.keeps'.mono (fun k hk => hk.2))).mono (fun k hk => Nat.lt_of_lt_of_le hk.2 b1.size)⟩)
    have HB7 : Hid (Below w.heap.size w W7) := Lib.hid (below_seq HB6.out hb7)
    rw [hW7]
    clear hb7 x7 hs7 hW7
    go_upto_region 5 with (go_at_call 10; go_loud (refine (HBR.out _ HB7.out).mono ?_; rintro en w8 ⟨ma, mn, mc, sa, sn, sc, rfl, hn8, hr8, hb8⟩; have HN8 := Lib.hid hn8; have HR8 := Lib.hid hr8; have HB8 := Lib.hid hb8; clear hn8 hr8 hb8))
    obtain ⟨_, _, _, e, hq1, _, hg1⟩ := (HNG.out w8 HB8.out).2.open
    simp only [Value.slice.injEq] at e
    obtain ⟨rfl, rfl, rfl⟩ := e
    obtain ⟨_, _, _, e, hq2, _, hg2⟩ := HR8.out.open
    simp only [Value.slice.injEq] at e
    obtain ⟨rfl, rfl, rfl⟩ := e
    obtain rfl : rn = len := by rw [hq1.out, HRL.out]
    obtain rfl : sn = rn := by rw [hq2.out, HRL.out]
    have HRF : Hid (∀ (j : Nat) (r : GRef), rs[j]? = some r → ∃ rb ro rb' ro', ra = some ⟨rb, ro, none⟩ ∧ sa = some ⟨rb', ro', none⟩ ∧ ∀ W, Below w8.heap.size w8 W → W.cell? ⟨rb, ro + j * 2, none⟩ = some (.int .i64 r.n) ∧ W.cell? ⟨rb, ro + j * 2 + 1, none⟩ = some (.int .i64 r.s) ∧ W.cell? ⟨rb', ro' + j * 2, none⟩ = some (.int .i64 r.n) ∧ W.cell? ⟨rb', ro' + j * 2 + 1, none⟩ = some (.int .i64 r.s)) := Lib.hid (fun j r hr => by
      obtain ⟨rb, ro, f1, hrb, r0, r1⟩ := hg1 j r hr
      obtain ⟨rb', ro', f2, hrb', s0, s1⟩ := hg2 j r hr
      exact ⟨rb, ro, rb', ro', f1, f2, fun W hW => ⟨(hW.cell (p := ⟨rb, _, none⟩) hrb).trans r0, (hW.cell (p := ⟨rb, _, none⟩) hrb).trans r1, (hW.cell (p := ⟨rb', _, none⟩) hrb').trans s0, (hW.cell (p := ⟨rb', _, none⟩) hrb').trans s1⟩⟩)
    have HSM := Lib.hid (same_any ns na nn nc ma mn mc w8 (HNG.out w8 HB8.out).1 HN8.out (by have := HNL.out; omega) HNX.out)
    have d0 := HBX.out w8 HB8.out
    clear hq1 hq2 hg1 hg2
    go_wp2_with (go_at_call 11; go_loud (refine HSM.out.mono ?_; rintro en w9 ⟨rfl, hb9⟩; have HB9 := Lib.hid hb9; clear hb9))
    clear d0
    go_loopw [7] (fun i wr => ∃ j : Nat, i = .int .i64 j ∧ j ≤ sn ∧ Below w8.heap.size w8 wr) (fun i _ => sn - (intOf i).toNat)
    case atStart => exact ⟨0, rfl, by omega, HB9.out⟩
    case round =>
      obtain ⟨j, rfl, hj, hbr⟩ := hrel
      have HBQ := Lib.hid hbr
      clear hbr
      by_cases hlt : j < sn
      · obtain ⟨r, hr⟩ : ∃ r, rs[j]? = some r := ⟨_, List.getElem?_eq_getElem (by rw [HRL.out]; exact hlt)⟩
        obtain ⟨rb, ro, rb', ro', rfl, rfl, hrr⟩ := HRF.out j r hr
        have HRR := Lib.hid hrr
        clear hr hrr
        go_upto_region 10 with fail
        have r0 := fun x : Later wr.heap.size wr => (HRR.out x.1 (below_seq HBQ.out x.2)).1
        have r1 := fun x : Later wr.heap.size wr => (HRR.out x.1 (below_seq HBQ.out x.2)).2.1
        have r2 := fun x : Later wr.heap.size wr => (HRR.out x.1 (below_seq HBQ.out x.2)).2.2.1
        have r3 := fun x : Later wr.heap.size wr => (HRR.out x.1 (below_seq HBQ.out x.2)).2.2.2
        refine wp_region_later wr.heap.size wr (by kernel_rfl) (by kernel_rfl) (Below.refl _ _) ?_
        repeat (go_big_quiet_step (fail))
        refine wpQuiet_nil ?_
        rintro _ ⟨⟨w10, hb10⟩, rfl⟩
        clear r0 r1 r2 r3
        go_wp2_with fail
        go_roundw
        case rel => exact ⟨j + 1, by go_num, by omega, below_seq HBQ.out hb10⟩
        case measure => simp [intOf]; omega
      · obtain rfl : j = sn := by omega
        go_wp2_with fail
        go_ret
        exact ⟨rfl, below_seq HB7.out (below_seq HB8.out HBQ.out)⟩
end Go.Proofs.YtecdapihfiahiaaDoor

/- Types: a list of types that came in as an argument. -/
namespace Go.Proofs.YtecdapihfiahiaaDoor
open Go.ChangeShapes Go.WideShapes Go.ChangeAt Go.RowKit Go.Deep

set_option maxRecDepth 100000 in
/-- A list of types that came in. -/
theorem types_open {H : Type} {enc : TypeId × Value → H} {W : World} {base : Nat} {spare : Nat → Bool} {held : Bool} {v : Value} {d : DataW H} {p : List MemPlace} {b0 : Nat} (hv : Value.okWide Tryd.prog W .any b0 22 v) (h : DataW.Trod enc Tryd.prog W base spare held 22 v d p) :
    ∃ ts, TySl (fun k => k < W.heap.size) W v ts := by
  obtain ⟨a0, len0, cap0, rfl⟩ := okWide_slice Tryd.underlying22 hv
  obtain ⟨fuel, hf⟩ := h
  have hf' : DataW.trod enc Tryd.prog W base spare held fuel 22 [.slice a0 len0 cap0] = some (d, p) := hf
  obtain ⟨a, len, cap, e, hl, hm, hi⟩ := slice_of Tryd.underlying22 hf'
  simp only [Value.slice.injEq] at e
  obtain ⟨rfl, rfl, rfl⟩ := e
  rw [tyCellsOf] at hi
  have each : ∀ i, i < len0 → ∃ t : Ty, t.fine ∧ ∃ b o, a0 = some ⟨b, o, none⟩ ∧ TyAt (fun k => k < W.heap.size) W t b (o + i * 6) := by
    intro i hin
    obtain ⟨ad, n, cs', y, rfl, hlt, hc, ht⟩ := hi i hin
    obtain ⟨ad0, n0, cs0, y0, e0, _, hc0, ht0⟩ := hi 0 (by omega)
    obtain rfl := Option.some.inj e0
    obtain ⟨t, lv, kv, rfl, hfine, hlies⟩ := ty_open n cs' y ht
    obtain ⟨_, hl6, hat⟩ := World.cells?_some hc
    obtain ⟨_, hl0, hat0⟩ := World.cells?_some hc0
    have h0 := hat0 0 (by omega)
    rw [Nat.zero_mul, add_zero', add_zero', List.getElem?_eq_getElem (by omega)] at h0
    obtain ⟨e1, e2⟩ := addr_of_cell h0
    rw [e1] at hat
    simp only [add_block] at hat
    refine ⟨t, hfine, ad.block, ad.off, by rw [← e1], ?_⟩
    refine tyAt_of e2 ?_ ?_ ?_ ?_ ?_ ?_ hlies
    · have := hat 0 (by omega); simpa [tyCells] using this
    · have := hat 1 (by omega); simpa [tyCells] using this
    · have := hat 2 (by omega); simpa [tyCells] using this
    · have := hat 3 (by omega); simpa [tyCells] using this
    · have := hat 4 (by omega); simpa [tyCells] using this
    · have := hat 5 (by omega); simpa [tyCells] using this
  obtain ⟨ts, htn, hts⟩ := choose_list _ len0 each
  refine ⟨ts, ?_, by show ts.length ≤ _; omega⟩
  show _ ∨ _
  cases ts with
  | nil => exact .inl ⟨⟨a0, cap0, by rw [← htn]; rfl⟩, rfl⟩
  | cons u0 r =>
    obtain ⟨_, b, o, rfl, hat0⟩ := hts 0 u0 rfl
    refine .inr ⟨b, o, cap0, by show Value.slice _ _ _ = Value.slice _ (u0 :: r).length _; rw [htn], (TyAt.eq.1 hat0).1, ?_⟩
    refine tysAt_of (fun i t hi' => ?_)
    obtain ⟨_, b', o', e, hat⟩ := hts i t hi'
    simp only [Option.some.injEq, Addr.mk.injEq, and_true] at e
    obtain ⟨rfl, rfl⟩ := e
    exact hat
end Go.Proofs.YtecdapihfiahiaaDoor

/- Graphs: the reference's Reach. -/
namespace Go.Proofs.YtecdapihfiahiaaDoor
open Go.RowKit Go.Deep Go.Shelf

/-! ### Rounds -/
def cntT (n : Nat) (f : Nat → Bool) : Nat := ((List.range n).filter f).length
theorem cntT_le (n : Nat) (f : Nat → Bool) : cntT n f ≤ n := by unfold cntT; refine Nat.le_trans (List.length_filter_le _ _) ?_; simp
theorem cntT_mono (f0 f : Nat → Bool) (h : ∀ i, f0 i = true → f i = true) : ∀ n, cntT n f0 ≤ cntT n f ∧ ((∃ i, i < n ∧ f i = true ∧ f0 i = false) → cntT n f0 < cntT n f)
  | 0 => ⟨Nat.le_refl _, fun ⟨i, hi, _⟩ => by omega⟩
  | n + 1 => by
    obtain ⟨h1, h2⟩ := cntT_mono f0 f h n
    have e0 := filter_count f0 n
    have e1 := filter_count f n
    unfold cntT at *
    rw [e0, e1]
    refine ⟨?_, fun ⟨i, hi, hf, hf0⟩ => ?_⟩
    · cases hc : f0 n with
      | false => simp; omega
      | true => rw [h n hc]; simp; exact h1
    · by_cases hin : i = n
      · subst hin
        rw [hf, hf0]; simp; omega
      · have h3 := h2 ⟨i, by omega, hf, hf0⟩
        cases hc : f0 n with
        | false => simp; omega
        | true => rw [h n hc]; simp; exact h3
/-- After r rounds. -/
structure RS (ns : List GNode) (a r : Nat) (f : Nat → Bool) : Prop where
  start : f a = true
  min : ∀ C : Nat → Prop, C a → ClosedG ns C → ∀ i, f i = true → C i
  prog : ClosedG ns (fun i => f i = true) ∨ r + 1 ≤ cntT ns.length f
/-- Within a round that began with f0, before node i. -/
structure RI (ns : List GNode) (a r : Nat) (f0 : Nat → Bool) (i : Nat) (f : Nat → Bool) : Prop where
  old : RS ns a r f0
  sub : ∀ m, f0 m = true → f m = true
  min : ∀ C : Nat → Prop, C a → ClosedG ns C → ∀ i, f i = true → C i
  done : ∀ (m : Nat) (g : GNode), m < i → ns[m]? = some g → f0 m = true → ∀ q ∈ g.nx, f q.n = true
theorem RS.begin (ns : List GNode) (a : Nat) (ha : a < ns.length) : RS ns a 0 (fun i => i == a) := by
  refine ⟨by simp, fun C hC _ i hi => by have : i = a := by simpa using hi
                                         rw [this]; exact hC, .inr ?_⟩
  have h := (cntT_mono (fun _ => false) (fun i => i == a) (fun i hi => by cases hi) ns.length).2 ⟨a, ha, by simp, rfl⟩
  omega
theorem RS.round {ns : List GNode} {a r : Nat} {f : Nat → Bool} (h : RS ns a r f) : RI ns a r f 0 f := ⟨h, fun _ h => h, h.min, fun m g hm => by omega⟩
theorem RI.next {ns : List GNode} {a r : Nat} {f0 f : Nat → Bool} (hw : wfG ns) (ha : a < ns.length) (h : RI ns a r f0 ns.length f) : RS ns a (r + 1) f := by
  refine ⟨h.sub _ h.old.start, h.min, ?_⟩
  have hlt : ∀ i, f i = true → i < ns.length := fun i hi => h.min (fun i => i < ns.length) ha (fun m g hm _ q hq => hw m g hm q hq) i hi
  by_cases hex : ∃ i, i < ns.length ∧ f i = true ∧ f0 i = false
  · rcases h.old.prog with hc | hc
    · obtain ⟨i, _, hf, hf0⟩ := hex
      have := h.min (fun i => f0 i = true) h.old.start hc i hf
      rw [this] at hf0; cases hf0
    · have := (cntT_mono f0 f h.sub ns.length).2 hex
      exact .inr (by omega)
  · refine .inl (fun n g hn hf q hq => ?_)
    have hf0 : f0 n = true := by
      cases e : f0 n with
      | true => rfl
      | false => exact absurd ⟨n, hlt n hf, hf, e⟩ hex
    exact h.done n g (hlt n hf) hn hf0 q hq
theorem RS.least {ns : List GNode} {a : Nat} {f : Nat → Bool} (h : RS ns a ns.length f) : Least ns a f :=
  ⟨h.start, by
    rcases h.prog with hc | hc
    · exact hc
    · have := cntT_le ns.length f; omega, h.min⟩
/-- A node that is not seen is passed over. -/
theorem RI.pass {ns : List GNode} {a r i : Nat} {f0 f : Nat → Bool} (h : RI ns a r f0 i f) (hf : f i = false) : RI ns a r f0 (i + 1) f :=
  ⟨h.old, h.sub, h.min, fun m g hm hg hm0 q hq => by
    by_cases e : m = i
    · subst e
      have := h.sub m hm0
      rw [hf] at this; cases this
    · exact h.done m g (by omega) hg hm0 q hq⟩
theorem RI.all {ns : List GNode} {a r i : Nat} {f0 f : Nat → Bool} (h : RI ns a r f0 i f) {g : GNode} (hg : ns[i]? = some g) (hp : ∀ q ∈ g.nx, f q.n = true) : RI ns a r f0 (i + 1) f :=
  ⟨h.old, h.sub, h.min, fun m g' hm hg' hm0 q hq => by
    by_cases e : m = i
    · subst e
      obtain rfl := Option.some.inj (hg.symm.trans hg')
      exact hp q hq
    · exact h.done m g' (by omega) hg' hm0 q hq⟩
theorem RI.mark {ns : List GNode} {a r i : Nat} {f0 f : Nat → Bool} (h : RI ns a r f0 i f) {g : GNode} (hg : ns[i]? = some g) (hf : f i = true) {q : GRef} (hq : q ∈ g.nx) : RI ns a r f0 i (updL f q.n) := by
  have up : ∀ n, f n = true → updL f q.n n = true := fun n hn => by simp [updL, hn]
  refine ⟨h.old, fun m hm => up m (h.sub m hm), fun C hC hcl n hn => ?_, fun m g' hm hg' hm0 q' hq' => up _ (h.done m g' hm hg' hm0 q' hq')⟩
  simp only [updL, Bool.or_eq_true, beq_iff_eq] at hn
  rcases hn with rfl | hn
  · exact hcl i g hg (h.min C hC hcl i hf) q hq
  · exact h.min C hC hcl n hn

set_option maxHeartbeats 8000000 in
set_option maxRecDepth 100000 in
theorem rreach_any (ns : List GNode) (oa : Option Addr) (on oc : Nat) (a : Nat) (w : World) (hns : NodeSl (fun k => k < w.heap.size) w (.slice oa on oc) ns) (hw : wfG ns) (ha : a < ns.length) (hl : ns.length ≤ 1000000) (hx : ∀ g ∈ ns, g.nx.length ≤ 1000000) :
    Calls Tryd.prog 12 #[.slice oa on oc, .int .i64 (a : Int)] w fun e w' => ∃ (S : Nat → Bool) (sb : Nat), Least ns a S ∧ e = .returned (.slice (some ⟨sb, 0, none⟩) on on) ∧ w.heap.size ≤ sb ∧ Bools w' sb on S ∧ Below w.heap.size w w' := by
  obtain ⟨_, _, _, e, hln, _, hg1⟩ := hns.open
  simp only [Value.slice.injEq] at e
  obtain ⟨rfl, rfl, rfl⟩ := e
  have hn : on ≤ 1000000 := by have := hln.out; omega
  have haN : a < on := by rw [hln.out]; exact ha
  have HG : Hid (∀ (j : Nat) (g : GNode), ns[j]? = some g → ∃ kb ko xa xc, oa = some ⟨kb, ko, none⟩ ∧ (∀ W, Below w.heap.size w W → W.cell? ⟨kb, ko + j * 4 + 3, none⟩ = some (.slice xa g.nx.length xc)) ∧ ∀ (q : Nat) (r : GRef), g.nx[q]? = some r → ∃ rb ro, xa = some ⟨rb, ro, none⟩ ∧ ∀ W, Below w.heap.size w W → W.cell? ⟨rb, ro + q * 2, none⟩ = some (.int .i64 r.n)) := Lib.hid (fun j g hj => by
    obtain ⟨kb, ko, e1, hkb, n0, n1, lv, nv, n2, n3, n4, n5⟩ := hg1 j g hj
    obtain ⟨xa, xn, xc, rfl, hxn, _, hgx⟩ := n5.open
    rw [hxn.out] at n3
    refine ⟨kb, ko, xa, xc, e1, fun W hW => (hW.cell (p := ⟨kb, _, none⟩) hkb).trans n3, fun q r hr => ?_⟩
    obtain ⟨rb, ro, f1, hrb, r0, _⟩ := hgx q r hr
    exact ⟨rb, ro, f1, fun W hW => (hW.cell (p := ⟨rb, _, none⟩) hrb).trans r0⟩)
  have HLN := Lib.hid hln.out
  have HWF := Lib.hid hw
  have HA := Lib.hid ha
  have HXL := Lib.hid hx
  have hi : (Tryd.prog.info? 4).map (fun i => (i.zero, i.size, i.bytes)) = some (some (.bool false), 1, 1) := by kernel_rfl
  obtain ⟨i0, hi0, hz0, hz1, hz2⟩ := info_parts hi
  have hmk : (Instr.makeSlice 40 (.int .i64 (on : Int)) (.int .i64 (on : Int))).run Tryd.prog w = .ok (.slice (some ⟨w.heap.size, 0, none⟩) on on) (w.alloc (.cells (madeCells #[.bool false] on) 4)) := by
    have h := run_makeSlice (P := Tryd.prog) w 40 4 i0 (.bool false) Tryd.underlying40 hi0 hz0 .i64 .i64 (on : Int) (on : Int) (by omega) (Int.le_refl _) (by rw [hz1]; simp; omega) (by rw [hz2]; omega) (by omega)
    rw [hz1, show (Value.bool false).cells = #[.bool false] from rfl] at h
    simpa using h
  clear hi hi0 hz0 hz1 hz2
  obtain ⟨W1, hW1⟩ : ∃ W1, w.alloc (.cells (madeCells #[.bool false] on) 4) = W1 := ⟨_, rfl⟩
  rw [hW1] at hmk
  have hb1 : Below w.heap.size w W1 := by rw [← hW1]; exact blkBelow w _ _
  have hB1 : Bools W1 w.heap.size on (fun _ => false) := by
    refine ⟨?_⟩
    rw [← hW1, World.alloc_heap_new]
    have h := toList_madeCells_one (.bool false) on
    have h2 : madeCells #[.bool false] on = (((List.range on).map (fun _ => false)).map Value.bool).toArray := by
      apply Array.toList_inj.1
      rw [h]
      apply List.ext_getElem?
      intro i
      simp [List.getElem?_replicate]
      by_cases hi : i < on <;> simp [hi]
    rw [h2]
  obtain ⟨s0, s1⟩ := hB1.cell haN
  have HB1 := Lib.hid hB1
  have HK1 := Lib.hid hb1
  clear hns hw ha hl hx hln hg1 hB1 hb1 hW1
  go_enter Tryd.func12, Tryd.ntmps12
  go_upto_region 3 with fail
  obtain ⟨W2, hW2⟩ : ∃ W2, W1.setCell ⟨w.heap.size, a, none⟩ (.bool true) = W2 := ⟨_, rfl⟩
  have hB2 : Bools W2 w.heap.size on (fun i => i == a) := by rw [← hW2]; exact (HB1.out.set a).congr (fun i _ => by simp [updL])
  have hb2 : Below w.heap.size w W2 := by rw [← hW2]; exact HK1.out.setCell (Nat.le_refl _) _
  rw [hW2]
  clear hW2 s0 s1 hmk
  go_wp2_with fail
  go_loopw [6] (fun rv wr => ∃ (r : Nat) (f : Nat → Bool), rv = .int .i64 r ∧ r ≤ on ∧ Hid (Bools wr w.heap.size on f) ∧ Hid (RS ns a r f) ∧ Hid (Below w.heap.size w wr)) (fun rv _ => on - (intOf rv).toNat)
  case atStart => exact ⟨0, _, rfl, by omega, Lib.hid hB2, Lib.hid (RS.begin ns a HA.out), Lib.hid hb2⟩
  case round =>
    clear hB2 hb2
    obtain ⟨r, f0, rfl, hr, HBo, HRS, HBW⟩ := hrel
    by_cases hlt : r < on
    · go_wp2_with fail
      go_loopw [7] (fun iv wr => ∃ (i : Nat) (f : Nat → Bool), iv = .int .i64 i ∧ i ≤ on ∧ Hid (Bools wr w.heap.size on f) ∧ Hid (RI ns a r f0 i f) ∧ Hid (Below w.heap.size w wr)) (fun iv _ => on - (intOf iv).toNat)
      case atStart => exact ⟨0, _, rfl, by omega, HBo, Lib.hid HRS.out.round, HBW⟩
      case round =>
        clear HBo HBW
        obtain ⟨i, f, rfl, hi, HBo, HRI, HBW⟩ := hrel
        by_cases hli : i < on
        · obtain ⟨g, hg⟩ : ∃ g, ns[i]? = some g := ⟨_, List.getElem?_eq_getElem (by rw [← HLN.out]; exact hli)⟩
          obtain ⟨kb, ko, xa, xc, rfl, hn3, hrf⟩ := HG.out i g hg
          have hgl : g.nx.length ≤ 1000000 := HXL.out g (List.mem_of_getElem? hg)
          obtain ⟨M, hM⟩ : ∃ M, g.nx.length = M := ⟨_, rfl⟩
          rw [hM] at hn3 hgl
          have HN3 := Lib.hid hn3
          have HRF := Lib.hid hrf
          have HGG := Lib.hid hg
          have HM := Lib.hid hM
          clear hn3 hrf hg hM
          go_wp2_with fail
          go_loopw [8] (fun kv wr => ∃ (k : Nat) (f : Nat → Bool), kv = .int .i64 k ∧ k ≤ M ∧ Hid (Bools wr w.heap.size on f) ∧ Hid (RI ns a r f0 i f) ∧ Hid (∀ q ∈ g.nx.take k, f q.n = true) ∧ Hid (Below w.heap.size w wr)) (fun kv _ => M - (intOf kv).toNat)
          case atStart => exact ⟨0, f, rfl, by omega, HBo, HRI, Lib.hid (fun q hq => by simp at hq), HBW⟩
          case round =>
            clear HBo HRI HBW
            obtain ⟨k, f, rfl, hk, HBo, HRI, HPT, HBW⟩ := hrel
            have n3 := HN3.out wr HBW.out
            obtain ⟨s0, s1⟩ := HBo.out.cell hli
            by_cases hlk : k < M
            · cases hfi : f i
              · rw [hfi] at s0
                have HFI := Lib.hid hfi
                clear hfi
                go_wp2_with fail
                go_roundw
                case rel => exact ⟨i + 1, f, by go_num, by omega, HBo, Lib.hid (HRI.out.pass HFI.out), HBW⟩
                case measure => simp [intOf]; omega
              · obtain ⟨q, hq⟩ : ∃ q, g.nx[k]? = some q := ⟨_, List.getElem?_eq_getElem (by rw [HM.out]; exact hlk)⟩
                obtain ⟨rb, ro, rfl, r0⟩ := HRF.out k q hq
                have hqn : q.n < on := by rw [HLN.out]; exact HWF.out i g HGG.out q (List.mem_of_getElem? hq)
                have z0 := r0 wr HBW.out
                obtain ⟨t0, t1⟩ := HBo.out.cell hqn
                rw [hfi] at s0
                have HFI := Lib.hid hfi
                have HQ := Lib.hid hq
                clear hfi hq r0
                go_wp2_with fail
                go_roundw
                case rel =>
                  refine ⟨k + 1, updL f q.n, by go_num, by omega, Lib.hid (HBo.out.set q.n), Lib.hid (HRI.out.mark HGG.out HFI.out (List.mem_of_getElem? HQ.out)), Lib.hid (fun x hx => ?_), Lib.hid (HBW.out.setCell (Nat.le_refl _) _)⟩
                  rw [take_snoc_get HQ.out] at hx
                  rcases List.mem_append.1 hx with hx | hx
                  · have := HPT.out x hx; simp [updL, this]
                  · rw [List.mem_singleton.1 hx]; simp [updL]
                case measure => simp [intOf]; omega
            · obtain rfl : k = M := by omega
              go_wp2_with fail
              go_roundw
              case rel => exact ⟨i + 1, f, by go_num, by omega, HBo, Lib.hid (HRI.out.all HGG.out (fun q hq => HPT.out q (by rw [← HM.out, List.take_length]; exact hq))), HBW⟩
              case measure => simp [intOf]; omega
        · obtain rfl : i = on := by omega
          have HNX : Hid (RS ns a (r + 1) f) := Lib.hid (by have h := HRI.out; rw [HLN.out] at h; exact h.next HWF.out HA.out)
          go_wp2_with fail
          go_roundw
          case rel => exact ⟨r + 1, f, by go_num, by omega, HBo, HNX, HBW⟩
          case measure => simp [intOf]; omega
    · obtain rfl : r = on := by omega
      have hls : Least ns a f0 := by have h := HRS.out; rw [HLN.out] at h; exact h.least
      have HLS := Lib.hid hls
      clear hls
      go_wp2_with fail
      go_ret
      exact ⟨f0, w.heap.size, HLS.out, rfl, Nat.le_refl _, HBo.out, HBW.out⟩
end Go.Proofs.YtecdapihfiahiaaDoor
