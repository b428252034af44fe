/- Programs: the reference's Total. (and what follows from it) -/
import Derived.Test.YtliijbcgkkiekaaDoorPb22
import Derived.Test.YtliijbcgkkiekaaDoorPb20
import Derived.Test.YtliijbcgkkiekaaDoorPb25
import Derived.Test.YtliijbcgkkiekaaDoorPb7
import Derived.Test.YtliijbcgkkiekaaDoorPb4
import Derived.OwnWalk

/- Programs: the reference's Total. -/
namespace Go.Proofs.YtliijbcgkkiekaaDoor
open Go.RowKit Go.Deep Go.Shelf

theorem sumN_take {α : Type} {l : List α} {j : Nat} {x : α} (f : α → Nat) (h : l[j]? = some x) : sumN ((l.take (j + 1)).map f) = sumN ((l.take j).map f) + f x := by
  rw [map_take_snoc f h, sumN_append]; simp [sumN]
theorem sumN_take_le {α : Type} (l : List α) (j : Nat) (f : α → Nat) : sumN ((l.take j).map f) ≤ sumN (l.map f) := sumN_le_of_prefix (map_prefix l j f)
theorem pr_slices {B : Nat → Prop} {w : World} {p : Pr} {lv av tl tk kv : Value} (h : PrVal B w (prAgg p lv av tl tk kv) p) :
    (∃ (a : Option Addr) (n c : Nat), lv = .slice a n c) ∧ (∃ (a : Option Addr) (n c : Nat), av = .slice a n c) ∧ (∃ (a : Option Addr) (n c : Nat), tl = .slice a n c) ∧ (∃ (a : Option Addr) (n c : Nat), tk = .slice a n c) ∧ ∃ (a : Option Addr) (n c : Nat), kv = .slice a n c := by
  obtain ⟨lv', av', tl', tk', kv', e, _, hl, ha, ht, hk⟩ := h
  simp only [prAgg, Value.agg.injEq, Array.mk.injEq, List.cons.injEq, and_true, true_and] at e
  obtain ⟨rfl, rfl, rfl, rfl, rfl⟩ := e
  obtain ⟨a1, n1, c1, e1, _⟩ := hl.open
  obtain ⟨a2, n2, c2, e2, _⟩ := ha.open
  obtain ⟨a3, n3, c3, e3, _⟩ := hk.open
  obtain ⟨s1, s2⟩ := slices_of ht
  exact ⟨⟨_, _, _, e1⟩, ⟨_, _, _, e2⟩, s1, s2, ⟨_, _, _, e3⟩⟩

set_option maxHeartbeats 4000000 in
set_option maxRecDepth 100000 in
theorem rptotal_any (B : Nat → Prop) (g : Pg) (hg : GGood g) (hsz : g.total ≤ 1000000000) (v : Value) (w : World) (hB : Low B w) (hv : PgVal B w v g) :
    Calls Tryd.prog 30 #[v] w fun e w' => e = .returned (.int .i64 g.total) ∧ Below w.heap.size w w' := by
  obtain ⟨dv, lv, av, tl, tk, kv, rfl, hd, hp⟩ := hv
  obtain ⟨⟨la, ln, lc, rfl⟩, ⟨aa, an, ac, rfl⟩, ⟨ta, tn, tc, rfl⟩, ⟨ua, un, uc, rfl⟩, ka, kn, kc, rfl⟩ := pr_slices hp
  obtain ⟨pa, len, c, rfl, hlen, hmx, hget⟩ := hd.open
  have hgm := (hg.2.2 g.m g.main_mem)
  obtain ⟨w1, hw1⟩ : ∃ w1, w.alloc (cell13 g (.slice pa len c) (.slice la ln lc) (.slice aa an ac) (.slice ta tn tc) (.slice ua un uc) (.slice ka kn kc)) = w1 := ⟨_, rfl⟩
  have hb01 : Below w.heap.size w w1 := by rw [← hw1]; exact blkBelow w _ _
  have hs1 : w1.heap.size = w.heap.size + 1 := by rw [← hw1]; simp
  have cell1 : ∀ (W : World), Below (w.heap.size + 1) w1 W → ∀ (j : Nat) (v : Value), #[.slice pa len c, .int .i64 g.m.k, .string g.m.c, .string g.m.x, .slice la ln lc, .slice aa an ac, .int .i64 g.m.t.k, .int .i64 g.m.t.p, .string g.m.t.n, .int .i64 g.m.t.s, .slice ta tn tc, .slice ua un uc, .slice ka kn kc][j]? = some v → W.cell? ⟨w.heap.size, j, none⟩ = some v := fun W hW j v hj => blk_cell (by rw [hw1]; exact hW) j hj
  have hlow : ∀ W, Below (w.heap.size + 1) w1 W → Below w.heap.size w W := fun W hW => hb01.trans (hW.mono (by omega))
  have HSz : Hid (∀ q : Later (w.heap.size + 1) w1, Calls Tryd.prog 26 #[prAgg g.m (.slice la ln lc) (.slice aa an ac) (.slice ta tn tc) (.slice ua un uc) (.slice ka kn kc)] q.1 fun e w' => e = .returned (.int .i64 g.m.size) ∧ Below q.1.heap.size q.1 w') := Lib.hid (fun q => prsize_any B g.m hgm.2.2 _ q.1 (hB.le (hlow _ q.2).size) (hp.to hB (hlow _ q.2)))
  have HTy : Hid (∀ q : Later (w.heap.size + 1) w1, Calls Tryd.prog 62 #[prAgg g.m (.slice la ln lc) (.slice aa an ac) (.slice ta tn tc) (.slice ua un uc) (.slice ka kn kc)] q.1 fun e w' => e = .returned (.int .i64 g.m.typ) ∧ Below q.1.heap.size q.1 w') := Lib.hid (fun q => prtyp_any B g.m hgm.1.2 (by have := g.total_eq; omega) _ q.1 (hB.le (hlow _ q.2).size) (hp.to hB (hlow _ q.2)))
  have htot := g.total_eq
  have hle0 : g.m.size + g.m.typ + sumN (g.ds.map Df.all) ≤ 1000000000 := by omega
  have HTot := Lib.hid htot
  rw [htot]
  have HD : Hid (∀ (j : Nat) (d : Df), g.ds[j]? = some d → ∃ kb ko, pa = some ⟨kb, ko, none⟩ ∧ kb < w.heap.size ∧ (∀ W, Below w.heap.size w W → DfAt B W d kb (ko + j * 14)) ∧ PGood d.b ∧ d.b.size ≤ 1000000 ∧ d.b.typ ≤ 1000000000 ∧ (∀ a ∈ d.ms, a.t.size ≤ 300)) := Lib.hid (fun j d hj => by
    obtain ⟨kb, ko, e, hkb, hda⟩ := hget j d hj
    have hmem := List.mem_of_getElem? hj
    have h1 := hg.2.2 d.b (Pg.body_mem hmem)
    have h2 : d.b.typ ≤ 1000000000 := by
      have h3 := sumN_take Df.all hj
      have h4 := sumN_take_le g.ds (j + 1) Df.all
      unfold Df.all at h3
      unfold Df.all at h4 hle0
      omega
    exact ⟨kb, ko, e, hB kb hkb, fun W hW => hda.keep (hW.keeps'.mono hB) hkb, h1.1, h1.2.2, h2, fun a ha => (hg.pm hmem ha).1⟩)
  obtain ⟨ds, hds⟩ : ∃ ds, g.ds = ds := ⟨_, rfl⟩
  rw [hds] at hlen HD hle0 ⊢
  clear hget hd hp hgm hsz hg htot hds
  unfold prAgg at HSz HTy
  obtain ⟨z1, hz1⟩ : ∃ z, g.m.size = z := ⟨_, rfl⟩
  obtain ⟨z2, hz2⟩ : ∃ z, g.m.typ = z := ⟨_, rfl⟩
  rw [hz1] at HSz hle0 ⊢
  rw [hz2] at HTy hle0 ⊢
  have hz12 : z1 + z2 ≤ 1000000000 := by omega
  clear hz1 hz2
  have CE := Lib.hid cell1
  have HL := Lib.hid hlow
  have HW1 := Lib.hid hw1
  have HLE := Lib.hid hle0
  have e0 := fun q : Later (w.heap.size + 1) w1 => cell1 q.1 q.2 0 _ rfl
  have e1 := fun q : Later (w.heap.size + 1) w1 => cell1 q.1 q.2 1 _ rfl
  have e2 := fun q : Later (w.heap.size + 1) w1 => cell1 q.1 q.2 2 _ rfl
  have e3 := fun q : Later (w.heap.size + 1) w1 => cell1 q.1 q.2 3 _ rfl
  have e4 := fun q : Later (w.heap.size + 1) w1 => cell1 q.1 q.2 4 _ rfl
  have e5 := fun q : Later (w.heap.size + 1) w1 => cell1 q.1 q.2 5 _ rfl
  have e6 := fun q : Later (w.heap.size + 1) w1 => cell1 q.1 q.2 6 _ rfl
  have e7 := fun q : Later (w.heap.size + 1) w1 => cell1 q.1 q.2 7 _ rfl
  have e8 := fun q : Later (w.heap.size + 1) w1 => cell1 q.1 q.2 8 _ rfl
  have e9 := fun q : Later (w.heap.size + 1) w1 => cell1 q.1 q.2 9 _ rfl
  have e10 := fun q : Later (w.heap.size + 1) w1 => cell1 q.1 q.2 10 _ rfl
  have e11 := fun q : Later (w.heap.size + 1) w1 => cell1 q.1 q.2 11 _ rfl
  have e12 := fun q : Later (w.heap.size + 1) w1 => cell1 q.1 q.2 12 _ rfl
  clear cell1 hlow hle0 hb01
  simp only [cell13] at hw1
  go_enter Tryd.func30, Tryd.ntmps30
  go_wp2_with fail
  clear hw1
  refine wp_region_later (w.heap.size + 1) w1 (by kernel_rfl) (by kernel_rfl) (Below.refl _ _) ?_
  repeat (go_big_quiet_step (first | (go_at_call 26; exact later_call _ (by omega) (HSz.out _)) | (go_at_call 62; exact later_call _ (by omega) (HTy.out _))))
  refine wpQuiet_nil ?_
  rintro _ ⟨⟨w5, hb5⟩, rfl⟩
  clear e0 e1 e2 e3 e4 e5 e6 e7 e8 e9 e10 e11 e12
  go_wp2_with fail
  go_loopw [3, 4] (fun a i wr => ∃ j : Nat, i = .int .i64 j ∧ j ≤ len ∧ a = .int .i64 ((z1 + z2 + sumN ((ds.take j).map Df.all) : Nat) : Int) ∧ Below (w.heap.size + 1) w1 wr) (fun _ i _ => len - (intOf i).toNat)
  case atStart => exact ⟨0, rfl, by omega, by simp [sumN], hb5⟩
  case round =>
    obtain ⟨j, rfl, hj, rfl, hb⟩ := hrel
    obtain ⟨wo, hwo⟩ : ∃ wo, wo = wr := ⟨_, rfl⟩
    subst hwo
    have c0 := CE.out wo hb 0 _ rfl
    have hw := HL.out wo hb
    by_cases hlt : j < len
    · obtain ⟨d, hdj⟩ : ∃ d, ds[j]? = some d := ⟨_, List.getElem?_eq_getElem (by rw [← hlen.out]; exact hlt)⟩
      obtain ⟨kb, ko, rfl, hkb, hda, hdg, hds, hdt, hpm⟩ := HD.out j d hdj
      have hst := sumN_take Df.all hdj
      have hsl := sumN_take_le ds (j + 1) Df.all
      have hle := HLE.out
      obtain ⟨a0, ha0⟩ : ∃ a0, z1 + z2 + sumN ((ds.take j).map Df.all) = a0 := ⟨_, rfl⟩
      have hall : d.all = d.b.size + d.b.typ + sumN d.pms := rfl
      have hbnd : a0 + (d.b.size + d.b.typ + sumN d.pms) ≤ 1000000000 := by omega
      have HST := Lib.hid hst
      have HA0 := Lib.hid ha0
      have HALL := Lib.hid hall
      rw [ha0]
      obtain ⟨ma, mn, mc, la', ln', lc', aa', an', ac', ta', tn', tc', ua', un', uc', ka', kn', kc', ⟨d0, d1, d2, d3, d4, d5, d6, d7, d8, d9, d10, d11, d12, d13⟩, hms, hval⟩ := (hda wo hw).load'
      have hBr : Low B wo := hB.le hw.size
      have hkr := hw.size
      have HS2 : Hid (∀ q : Later wo.heap.size wo, Calls Tryd.prog 26 #[prAgg d.b (.slice la' ln' lc') (.slice aa' an' ac') (.slice ta' tn' tc') (.slice ua' un' uc') (.slice ka' kn' kc')] q.1 fun e w' => e = .returned (.int .i64 d.b.size) ∧ Below q.1.heap.size q.1 w') := Lib.hid (fun q => prsize_any B d.b hds _ q.1 (hBr.le q.2.size) (hval.to hBr q.2))
      have HT2 : Hid (∀ q : Later wo.heap.size wo, Calls Tryd.prog 62 #[prAgg d.b (.slice la' ln' lc') (.slice aa' an' ac') (.slice ta' tn' tc') (.slice ua' un' uc') (.slice ka' kn' kc')] q.1 fun e w' => e = .returned (.int .i64 d.b.typ) ∧ Below q.1.heap.size q.1 w') := Lib.hid (fun q => prtyp_any B d.b hdg.2 hdt _ q.1 (hBr.le q.2.size) (hval.to hBr q.2))
      have lift : ∀ {v : Value} {x : Nat}, wo.cell? ⟨kb, x, none⟩ = some v → ∀ q : Later wo.heap.size wo, q.1.cell? ⟨kb, x, none⟩ = some v := fun h q => (q.2.cell (p := ⟨kb, _, none⟩) (by simp; omega)).trans h
      obtain ⟨pma, pmn, pmc, hpe, hmlen, hmmx, hmget⟩ := hms.open
      simp only [Value.slice.injEq] at hpe
      obtain ⟨rfl, rfl, rfl⟩ := hpe
      have HMG : Hid (∀ (k : Nat) (a : Pm), d.ms[k]? = some a → ∃ pb po, ma = some ⟨pb, po, none⟩ ∧ pb < wo.heap.size ∧ (∀ W, Below wo.heap.size wo W → PmAt B W a pb (po + k * 7)) ∧ a.t.size ≤ 300) := Lib.hid (fun k a hk => by
        obtain ⟨pb, po, e, hpb, hpa⟩ := hmget k a hk
        exact ⟨pb, po, e, hBr pb hpb, fun W hW => hpa.keep (hW.keeps'.mono hBr) hpb, hpm a (List.mem_of_getElem? hk)⟩)
      have HML := Lib.hid hmlen.out
      unfold prAgg at HS2 HT2
      obtain ⟨y1, hy1⟩ : ∃ y, d.b.size = y := ⟨_, rfl⟩
      obtain ⟨y2, hy2⟩ : ∃ y, d.b.typ = y := ⟨_, rfl⟩
      rw [hy1] at HS2 hbnd HALL
      rw [hy2] at HT2 hbnd HALL
      have f0 : ∀ q : Later wo.heap.size wo, q.1.cell? ⟨w.heap.size, 0, none⟩ = some (.slice (some ⟨kb, ko, none⟩) len c) := fun q => CE.out q.1 (hb.trans (q.2.mono (by have := hb.size; omega))) 0 _ rfl
      have g2 := lift d2
      have g3 := lift d3
      have g4 := lift d4
      have g5 := lift d5
      have g6 := lift d6
      have g7 := lift d7
      have g8 := lift d8
      have g9 := lift d9
      have g10 := lift d10
      have g11 := lift d11
      have g12 := lift d12
      have g13 := lift d13
      have h12 : a0 + y1 + y2 ≤ 1000000000 := by omega
      have h11 : a0 + y1 ≤ 1000000000 := by omega
      have HBND := Lib.hid hbnd
      clear hst hsl hle ha0 hall hda hval hms hmget hpm hdg hds hdt hy1 hy2 lift d2 d3 d4 d5 d6 d7 d8 d9 d10 d11 d12 d13 d0 hdj hbnd hmlen
      go_wp2_with fail
      refine wp_region_later wo.heap.size wo (by kernel_rfl) (by kernel_rfl) (Below.refl _ _) ?_
      repeat (go_big_quiet_step (first | (go_at_call 26; exact later_call _ (Nat.le_refl _) (HS2.out _)) | (go_at_call 62; exact later_call _ (Nat.le_refl _) (HT2.out _))))
      refine wpQuiet_nil ?_
      rintro _ ⟨⟨w6, hb6⟩, rfl⟩
      clear f0 g2 g3 g4 g5 g6 g7 g8 g9 g10 g11 g12 g13
      go_wp2_with fail
      go_loopw [3, 5] (fun a i wr => ∃ k : Nat, i = .int .i64 k ∧ k ≤ mn ∧ a = .int .i64 ((a0 + y1 + y2 + sumN (d.pms.take k) : Nat) : Int) ∧ Below wo.heap.size wo wr) (fun _ i _ => mn - (intOf i).toNat)
      case atStart => exact ⟨0, rfl, by omega, by simp [sumN], hb6⟩
      case round =>
        obtain ⟨k, rfl, hk, rfl, hb7⟩ := hrel
        have hsw := hb.size
        have p0 := CE.out wr (hb.trans (hb7.mono (by omega))) 0 _ rfl
        have p1 := (hb7.cell (p := ⟨kb, ko + j * 14 + 1, none⟩) (by simp; omega)).trans d1
        by_cases hlt2 : k < mn
        · obtain ⟨a, hak⟩ : ∃ a, d.ms[k]? = some a := ⟨_, List.getElem?_eq_getElem (by rw [← HML.out]; exact hlt2)⟩
          obtain ⟨pb, po, rfl, hpb, hpa, has⟩ := HMG.out k a hak
          obtain ⟨la3, ln3, lc3, ka3, kn3, kc3, ⟨q0, q1, q2, q3, q4, q5, q6⟩, htv⟩ := (hpa wr hb7).load'
          have hst2 : sumN (d.pms.take (k + 1)) = sumN (d.pms.take k) + a.t.size := by
            unfold Df.pms; rw [← List.map_take, ← List.map_take]; exact sumN_take _ hak
          have hsl2 : sumN (d.pms.take (k + 1)) ≤ sumN d.pms := sumN_le_of_prefix (List.take_prefix _ _)
          have HT3 := Lib.hid (rsize_any B a.t (by omega) _ wr (hBr.le hb7.size) htv)
          obtain ⟨s1, hs1⟩ : ∃ s, a.t.size = s := ⟨_, rfl⟩
          obtain ⟨s0, hs0⟩ : ∃ s, a0 + y1 + y2 + sumN (d.pms.take k) = s := ⟨_, rfl⟩
          rw [hs1] at HT3 hst2
          have hs01 : s0 + s1 ≤ 1000000000 := by have := HBND.out; omega
          have HX : Hid (a0 + y1 + y2 + sumN (d.pms.take (k + 1)) = s0 + s1) := Lib.hid (by omega)
          rw [hs0]
          clear hst2 hsl2 hs0 hs1 htv hpa has hak q0
          go_wp2_with (go_at_call 15; refine HT3.out.mono ?_; rintro e w8 ⟨rfl, hb8⟩)
          go_roundw
          case rel => exact ⟨k + 1, by go_num, by omega, ret_val (by rw [HX.out]; omega), below_seq hb7 hb8⟩
          case measure => simp [intOf]; omega
        · obtain rfl : k = mn := by omega
          have HX : Hid (a0 + y1 + y2 + sumN (d.pms.take k) = z1 + z2 + sumN ((ds.take (j + 1)).map Df.all)) := Lib.hid (by
            have h1 : d.pms.take k = d.pms := List.take_of_length_le (by unfold Df.pms; rw [List.length_map, HML.out]; exact Nat.le_refl _)
            rw [h1, HST.out, HALL.out]; have := HA0.out; omega)
          rw [HX.out]
          go_wp2_with fail
          go_roundw
          case rel => exact ⟨j + 1, by go_num, by omega, rfl, hb.trans (hb7.mono (by omega))⟩
          case measure => simp [intOf]; omega
    · obtain rfl : j = len := by omega
      go_wp2_with fail
      go_ret
      exact ⟨ret_int (by rw [List.take_of_length_le (by rw [hlen.out]; exact Nat.le_refl _)]), hw⟩

end Go.Proofs.YtliijbcgkkiekaaDoor

/- Processes: Free. -/
namespace Go.Proofs.YtliijbcgkkiekaaDoor
open Go.RowKit Go.Deep Go.Shelf

theorem walk_any (z : Nat) (S : Nat → Prop) (hS : ∀ k, S k → k < z + 1) : ∀ p : Pr, WalkP z S p := by
  refine Pr.ind ?_
  intro k c x ls vs t ps ih
  exact walk_step z S hS (.mk k c x ls vs t ps) ih
noncomputable def Pr.free (p : Pr) : List ByteArray := p.fw (fun _ => 0) []

theorem run_makeMap_b (w : World) : (Instr.makeMap 95 none).run Tryd.prog w = .ok (.map (some w.heap.size)) (w.alloc (.map #[] 0)) := by simp [Instr.makeMap]
theorem run_makeMap_i (w : World) : (Instr.makeMap 96 none).run Tryd.prog w = .ok (.map (some w.heap.size)) (w.alloc (.map #[] 0)) := by simp [Instr.makeMap]

theorem strSl_row2 {W : World} {base : Nat} {v : Value} {l : List ByteArray} (h : W.ownsRow base 9 1 v l.length (l.map .string)) (hs : ∀ s ∈ l, s.size ≤ maxLen) (hl : l.length ≤ maxLen) :
    (∃ a n c, v = .slice a n c) ∧ StrSl (Fresh base W.heap.size) W v l := by
  rcases h.2 with ⟨rfl, h0⟩ | ⟨g, cap, cur, rfl, hb, hg, hnc, _⟩
  · have : l = [] := List.length_eq_zero_iff.1 h0
    subst this
    exact ⟨⟨_, _, _, rfl⟩, nil_strs _ _⟩
  · refine ⟨⟨_, _, _, rfl⟩, .inr ⟨_, _, _, rfl, ⟨hb, (h.lt g rfl).2⟩, hnc, fun j s hj => ?_⟩, hl, hs⟩
    rw [Nat.zero_add, h.cellAt j (by have := (List.getElem?_eq_some_iff.1 hj).1; omega), List.getElem?_map, hj]
    rfl

theorem heap_push (w : World) (o : Obj) : (w.alloc o).heap = w.heap.push o := rfl

/-- The state at the start. -/
theorem frSt_made (w : World) (o : Obj) (W : World)
    (hW : ((((((((w.alloc o).alloc (.cells #[.slice none 0 0] 22)).alloc (.map #[] 0)).alloc (.cells #[.map (some (w.heap.size + 1 + 1))] 95)).alloc (.map #[] 0)).alloc (.cells #[.map (some (w.heap.size + 1 + 1 + 1 + 1))] 96)).alloc
      (.cells #[.func (.func 67) #[] #[.pointer (some ⟨w.heap.size + 1 + 1 + 1 + 1 + 1, 0, none⟩), .pointer (some ⟨w.heap.size + 1 + 1 + 1, 0, none⟩), .pointer (some ⟨w.heap.size + 1, 0, none⟩)]] 97)).alloc
      (.cells #[.func (.func 68) #[] #[.pointer (some ⟨w.heap.size + 1 + 1 + 1 + 1 + 1 + 1, 0, none⟩), .pointer (some ⟨w.heap.size + 1 + 1 + 1 + 1 + 1, 0, none⟩), .pointer (some ⟨w.heap.size + 1 + 1 + 1 + 1 + 1 + 1 + 1, 0, none⟩)]] 98)) = W) :
    FrSt w.heap.size W (fun _ => 0) [] 0 ∧ Below (w.heap.size + 1) (w.alloc o) W := by
  obtain ⟨W1, h1⟩ : ∃ W1, (w.alloc o).alloc (.cells #[.slice none 0 0] 22) = W1 := ⟨_, rfl⟩
  have s1 : W1.heap.size = w.heap.size + 2 := by rw [← h1]; simp
  have b1 : Below (w.heap.size + 1) (w.alloc o) W1 := by rw [← h1]; exact (Below.refl _ _).alloc (by simp) _
  have k1 : W1.heap[w.heap.size + 1]? = some (.cells #[.slice none 0 0] 22 (0, 0)) := by
    have h := World.alloc_heap_new (w.alloc o) (.cells #[.slice none 0 0] 22)
    rw [World.size_alloc, h1] at h; exact h
  rw [h1] at hW
  obtain ⟨W2, h2⟩ : ∃ W2, W1.alloc (.map #[] 0) = W2 := ⟨_, rfl⟩
  have s2 : W2.heap.size = w.heap.size + 3 := by rw [← h2, World.size_alloc, s1]
  have b2 : Below (w.heap.size + 2) W1 W2 := by rw [← h2]; exact (Below.refl _ _).alloc (by omega) _
  have m2 : ∃ D : DataW Unit, W2.ownsMap Tryd.prog 9 (plainElem Tryd.prog 4) (w.heap.size + 2) 0 D ∧ ∀ s : ByteArray, D.atKey (.string s.data.toList) (.lit (.bool false)) = .lit (.bool (memB s [])) := by
    rw [← h2, ← s1]; exact ⟨_, World.ownsMap_made W1 _ _ _, fun s => rfl⟩
  rw [h2] at hW
  obtain ⟨W3, h3⟩ : ∃ W3, W2.alloc (.cells #[.map (some (w.heap.size + 1 + 1))] 95) = W3 := ⟨_, rfl⟩
  have s3 : W3.heap.size = w.heap.size + 4 := by rw [← h3, World.size_alloc, s2]
  have b3 : Below (w.heap.size + 3) W2 W3 := by rw [← h3]; exact (Below.refl _ _).alloc (by omega) _
  have k3 : W3.heap[w.heap.size + 3]? = some (.cells #[.map (some (w.heap.size + 2))] 95 (0, 0)) := by
    rw [← h3, ← s2]; exact World.alloc_heap_new _ _
  rw [h3] at hW
  obtain ⟨W4, h4⟩ : ∃ W4, W3.alloc (.map #[] 0) = W4 := ⟨_, rfl⟩
  have s4 : W4.heap.size = w.heap.size + 5 := by rw [← h4, World.size_alloc, s3]
  have b4 : Below (w.heap.size + 4) W3 W4 := by rw [← h4]; exact (Below.refl _ _).alloc (by omega) _
  have m4 : CntIs W4 (w.heap.size + 4) 0 (fun _ => 0) := by
    rw [← h4, ← s3]; exact ⟨_, MapIs.made _ _, fun s => rfl⟩
  rw [h4] at hW
  obtain ⟨W5, h5⟩ : ∃ W5, W4.alloc (.cells #[.map (some (w.heap.size + 1 + 1 + 1 + 1))] 96) = W5 := ⟨_, rfl⟩
  have s5 : W5.heap.size = w.heap.size + 6 := by rw [← h5, World.size_alloc, s4]
  have b5 : Below (w.heap.size + 5) W4 W5 := by rw [← h5]; exact (Below.refl _ _).alloc (by omega) _
  have k5 : W5.heap[w.heap.size + 5]? = some (.cells #[.map (some (w.heap.size + 4))] 96 (0, 0)) := by
    rw [← h5, ← s4]; exact World.alloc_heap_new _ _
  rw [h5] at hW
  obtain ⟨W6, h6⟩ : ∃ W6, W5.alloc (.cells #[.func (.func 67) #[] #[.pointer (some ⟨w.heap.size + 1 + 1 + 1 + 1 + 1, 0, none⟩), .pointer (some ⟨w.heap.size + 1 + 1 + 1, 0, none⟩), .pointer (some ⟨w.heap.size + 1, 0, none⟩)]] 97) = W6 := ⟨_, rfl⟩
  have s6 : W6.heap.size = w.heap.size + 7 := by rw [← h6, World.size_alloc, s5]
  have b6 : Below (w.heap.size + 6) W5 W6 := by rw [← h6]; exact (Below.refl _ _).alloc (by omega) _
  have k6 : W6.heap[w.heap.size + 6]? = some (.cells #[.func (.func 67) #[] #[ptr (w.heap.size + 5), ptr (w.heap.size + 3), ptr (w.heap.size + 1)]] 97 (0, 0)) := by
    rw [← h6, ← s5]; exact World.alloc_heap_new _ _
  rw [h6] at hW
  have s7 : W.heap.size = w.heap.size + 8 := by rw [← hW, World.size_alloc, s6]
  have b7 : Below (w.heap.size + 7) W6 W := by rw [← hW]; exact (Below.refl _ _).alloc (by omega) _
  have k7 : W.heap[w.heap.size + 7]? = some (.cells #[.func (.func 68) #[] #[ptr (w.heap.size + 6), ptr (w.heap.size + 5), ptr (w.heap.size + 7)]] 98 (0, 0)) := by
    rw [← hW, ← s6]; exact World.alloc_heap_new _ _
  have b67 : Below (w.heap.size + 6) W5 W := b6.trans (b7.mono (by omega))
  have b57 : Below (w.heap.size + 5) W4 W := b5.trans (b67.mono (by omega))
  have b47 : Below (w.heap.size + 4) W3 W := b4.trans (b57.mono (by omega))
  have b37 : Below (w.heap.size + 3) W2 W := b3.trans (b47.mono (by omega))
  have b27 : Below (w.heap.size + 2) W1 W := b2.trans (b37.mono (by omega))
  refine ⟨⟨⟨_, (b27.block _ (by omega)).trans k1, World.ownsRow_nil _ _ _ _⟩, ?_, (b47.block _ (by omega)).trans k3, ?_, (b67.block _ (by omega)).trans k5, (b7.block _ (by omega)).trans k6, k7, by omega, fun s h => by cases h⟩, b1.trans (b27.mono (by omega))⟩
  · obtain ⟨D, ho, hf⟩ := m2
    exact ⟨D, ho.kept (⟨b37.os, b37.tape, b37.output, b37.size, fun k hk _ => b37.block k (by omega)⟩ : W2.grownBy W none) (by simp), hf⟩
  · exact m4.kept (⟨b57.os, b57.tape, b57.output, b57.size, fun k hk _ => b57.block k (by omega)⟩ : W4.grownBy W none) (by simp)

set_option maxHeartbeats 2000000 in
set_option maxRecDepth 100000 in
theorem pfree_any (B : Nat → Prop) (p : Pr) (hdep : p.depth ≤ 100000) (hsz : p.size ≤ 1000000) (hnm : p.nms ≤ 1000000000) (v : Value) (w : World) (hB : Low B w) (hv : PrVal B w v p) :
    Calls Tryd.prog 37 #[v] w (StrRet w p.free) := by
  have hv' := hv
  obtain ⟨lv, av, tl, tk, kv, rfl, _⟩ := hv'
  obtain ⟨⟨la, ln, lc, rfl⟩, ⟨aa, an, ac, rfl⟩, ⟨ta, tn, tc, rfl⟩, ⟨ua, un, uc, rfl⟩, ⟨ka, kn, kc, rfl⟩⟩ := pr_slices hv
  have hmb := run_makeMap_b
  have hmi := run_makeMap_i
  have eg2 := enters_walk
  have hsf : ∀ (w : World) (a : Addr) (m : Mode) (f : Fn) (t : Array Value) (b : Array Value), (store a (.func f t b) m).run Tryd.prog w = stored Tryd.prog w a (.func f t b) m := fun w a m f t b => run_store _ w a _ m rfl
  have HV := Lib.hid hv
  have HB := Lib.hid hB
  clear hv hB
  go_enter Tryd.func37, Tryd.ntmps37
  go_wp2_with fail
  obtain ⟨W0, hW0⟩ : ∃ W0, _ = W0 := ⟨_, rfl⟩
  have hm := frSt_made w (cell12 p (.slice la ln lc) (.slice aa an ac) (.slice ta tn tc) (.slice ua un uc) (.slice ka kn kc)) W0 hW0
  obtain ⟨hst, hbel⟩ := hm
  have hp := boxed_prAt (S := fun k => B k ∨ k = w.heap.size) HB.out HV.out hbel (fun k h => .inl h) (.inr rfl)
  have hw := walk_any w.heap.size (fun k => B k ∨ k = w.heap.size) (fun k h => h.elim (fun h => by have := HB.out k h; omega) (fun h => by omega)) p (fun _ => 0) [] 0 w.heap.size 0 W0 hst hp (fun y => ⟨Int.le_refl _, by omega⟩) (by simpa using hnm) (by omega)
  have hb0 : Below w.heap.size w W0 := ((Below.refl w.heap.size w).alloc (Nat.le_refl _) _).trans (hbel.mono (by omega))
  have hlen := Pr.fw_len p (fun _ => 0) []
  rw [hW0]
  clear hW0 hst hp hbel hmb hmi eg2 hsf
  refine hw.mono ?_
  rintro e w1 ⟨⟨vv, rfl⟩, ⟨na, _, hst⟩, hb1⟩
  obtain ⟨⟨v1, c1, hrow⟩, _, _, _, _, _, _, hsz1, htx⟩ := hst
  obtain ⟨⟨a1, n1, x1, rfl⟩, hsl⟩ := strSl_row2 hrow htx (by simp at hlen; unfold maxLen; omega)
  have v2 := Boxed.cell c1
  have hbb := Lib.hid (hb0.trans (hb1.mono (by omega)))
  have HSL := Lib.hid hsl
  clear hrow htx hsl hb0 hb1 c1 hw hlen
  go_wp2_with fail
  go_ret
  exact ⟨_, _, _, rfl, HSL.out.mono (fun k hk => ⟨by have := hk.1; omega, hk.2⟩), hbb.out⟩

end Go.Proofs.YtliijbcgkkiekaaDoor

/- Processes: slices.Clone at the three kinds of lists. -/
namespace Go.Proofs.YtliijbcgkkiekaaDoor
open Go.RowKit Go.Deep

theorem list_of {α : Type} (Q : Nat → α → Prop) : ∀ n : Nat, (∀ i, i < n → ∃ x, Q i x) → ∃ ls : List α, ls.length = n ∧ ∀ i x, ls[i]? = some x → Q i x
  | 0, _ => ⟨[], rfl, fun i x h => by simp at h⟩
  | n + 1, h => by
    obtain ⟨ls, hl, hq⟩ := list_of Q n (fun i hi => h i (by omega))
    obtain ⟨x, hx⟩ := h n (by omega)
    refine ⟨ls ++ [x], by simp [hl], fun i y hy => ?_⟩
    by_cases hi : i < ls.length
    · rw [List.getElem?_append_left hi] at hy; exact hq i y hy
    · rw [List.getElem?_append_right (by omega)] at hy
      rcases Nat.eq_zero_or_pos (i - ls.length) with h0 | h0
      · rw [h0] at hy
        simp at hy
        subst hy
        have : i = n := by omega
        subst this
        exact hx
      · rw [List.getElem?_eq_none (by simp; omega)] at hy; cases hy

theorem valInfo : (Tryd.prog.info? 74).map (fun i => (i.zero, i.size, i.bytes)) = some (some (.agg #[.int .i64 0, .string ⟨#[]⟩, .int .i64 0]), 3, 32) := by kernel_rfl
theorem procInfo : (Tryd.prog.info? 36).map (fun i => (i.zero, i.size, i.bytes)) = some (some (.agg #[.int .i64 0, .string ⟨#[]⟩, .string ⟨#[]⟩, .slice none 0 0, .slice none 0 0, .int .i64 0, .int .i64 0, .string ⟨#[]⟩, .int .i64 0, .slice none 0 0, .slice none 0 0, .slice none 0 0]), 12, 200) := by kernel_rfl
theorem strInfoC : (Tryd.prog.info? 9).map (fun i => (i.zero, i.size, i.bytes)) = some (some (.string ⟨#[]⟩), 1, 16) := by kernel_rfl
theorem eqVl (a : Option Addr) (l c : Nat) (w : World) : (binOp .eql 33 (.slice a l c) (.slice none 0 0)).run Tryd.prog w = .ok (.bool a.isNone) w := Lib.run_eql_slice_nil w 33 74 a l c 0 0 Tryd.underlying33
theorem eqPr (a : Option Addr) (l c : Nat) (w : World) : (binOp .eql 34 (.slice a l c) (.slice none 0 0)).run Tryd.prog w = .ok (.bool a.isNone) w := Lib.run_eql_slice_nil w 34 36 a l c 0 0 Tryd.underlying34

/-- A row that is a copy of the cells at an address. -/
def Cloned (w : World) (e : TypeId) (size : Nat) (n : Nat) (news : List Value) (en : Ending) (w' : World) : Prop :=
  ∃ g cap, en = .returned (.slice (some ⟨g, 0, none⟩) n cap) ∧ n ≤ cap ∧ w'.ownsRow w.heap.size e size (.slice (some ⟨g, 0, none⟩) n cap) n news ∧ w.heap.size ≤ g ∧ g < w'.heap.size ∧ Below w.heap.size w w'

set_option maxHeartbeats 2000000 in
set_option maxRecDepth 100000 in
theorem cloneS_any (ad : Addr) (n c : Nat) (hn : n ≤ 1048576) (news : List Value) (hl : news.length = n * 1) (w : World) (hnews : ∀ j u, news[j]? = some u → w.cell? (ad.add j) = some u) (h1 : ∀ u ∈ news, u.oneCell' = true) :
    Calls Tryd.prog 72 #[.slice (some ad) n c] w (Cloned w 9 1 n news) := by
  have hq := eqS (some ad) n c
  obtain ⟨i0, hi, hz0, hz1, hz2⟩ := info_parts strInfoC
  have HN := Lib.hid hnews
  have H1 := Lib.hid h1
  have HL := Lib.hid hl
  clear hnews h1 hl
  go_enter Tryd.func72, Tryd.ntmps72
  go_wp2_with (at_builtin; refine wpList_append_own _ rfl _ _ 22 rfl w.heap.size 9 i0 (.string ⟨#[]⟩) 1 16 Tryd.underlying22 hi hz0 hz1 hz2 rfl (by decide) _ _ _ rfl (World.ownsRow_made w #[] 0 (Nat.le_refl _) (Nat.zero_le _) rfl) ad n c news rfl HL.out (fun j u hj => Lib.cell?_alloc_some _ (HN.out j u hj)) H1.out (by unfold maxLen; omega) (by omega) (by simp) ?_; intro v' w1 hown hgrow hnil)
  go_wp2_with fail
  go_ret
  have hown' : w1.ownsRow w.heap.size 9 1 v' n news := by simpa using hown
  have hb : Below w.heap.size w w1 := ((Below.refl _ w).alloc (Nat.le_refl _) _).grown hgrow (by simp) (fun k hk => by cases hk; exact Nat.le_refl _)
  rcases hown'.2 with ⟨h0, _⟩ | ⟨g, cap, cur, rfl, hgb, hg, hnc, _⟩
  · rw [hnil] at h0; cases h0.1
  · exact ⟨g, cap, rfl, hnc, hown', hgb, (Array.getElem?_eq_some_iff.1 hg).1, hb⟩

set_option maxHeartbeats 2000000 in
set_option maxRecDepth 100000 in
theorem cloneV_any (ad : Addr) (n c : Nat) (hn : n ≤ 1048576) (news : List Value) (hl : news.length = n * 3) (w : World) (hnews : ∀ j u, news[j]? = some u → w.cell? (ad.add j) = some u) (h1 : ∀ u ∈ news, u.oneCell' = true) :
    Calls Tryd.prog 73 #[.slice (some ad) n c] w (Cloned w 74 3 n news) := by
  have hq := eqVl (some ad) n c
  obtain ⟨i0, hi, hz0, hz1, hz2⟩ := info_parts valInfo
  have HN := Lib.hid hnews
  have H1 := Lib.hid h1
  have HL := Lib.hid hl
  clear hnews h1 hl
  go_enter Tryd.func73, Tryd.ntmps73
  go_wp2_with (at_builtin; refine wpList_append_own _ rfl _ _ 33 rfl w.heap.size 74 i0 (.agg #[.int .i64 0, .string ⟨#[]⟩, .int .i64 0]) 3 32 Tryd.underlying33 hi hz0 hz1 hz2 rfl (by decide) _ _ _ rfl (World.ownsRow_made w #[] 0 (Nat.le_refl _) (Nat.zero_le _) rfl) ad n c news rfl HL.out (fun j u hj => Lib.cell?_alloc_some _ (HN.out j u hj)) H1.out (by unfold maxLen; omega) (by omega) (by simp) ?_; intro v' w1 hown hgrow hnil)
  go_wp2_with fail
  go_ret
  have hown' : w1.ownsRow w.heap.size 74 3 v' n news := by simpa using hown
  have hb : Below w.heap.size w w1 := ((Below.refl _ w).alloc (Nat.le_refl _) _).grown hgrow (by simp) (fun k hk => by cases hk; exact Nat.le_refl _)
  rcases hown'.2 with ⟨h0, _⟩ | ⟨g, cap, cur, rfl, hgb, hg, hnc, _⟩
  · rw [hnil] at h0; cases h0.1
  · exact ⟨g, cap, rfl, hnc, hown', hgb, (Array.getElem?_eq_some_iff.1 hg).1, hb⟩

set_option maxHeartbeats 2000000 in
set_option maxRecDepth 100000 in
theorem cloneP_any (ad : Addr) (n c : Nat) (hn : n ≤ 1048576) (news : List Value) (hl : news.length = n * 12) (w : World) (hnews : ∀ j u, news[j]? = some u → w.cell? (ad.add j) = some u) (h1 : ∀ u ∈ news, u.oneCell' = true) :
    Calls Tryd.prog 75 #[.slice (some ad) n c] w (Cloned w 36 12 n news) := by
  have hq := eqPr (some ad) n c
  obtain ⟨i0, hi, hz0, hz1, hz2⟩ := info_parts procInfo
  have HN := Lib.hid hnews
  have H1 := Lib.hid h1
  have HL := Lib.hid hl
  clear hnews h1 hl
  go_enter Tryd.func75, Tryd.ntmps75
  go_wp2_with (at_builtin; refine wpList_append_own _ rfl _ _ 34 rfl w.heap.size 36 i0 (.agg #[.int .i64 0, .string ⟨#[]⟩, .string ⟨#[]⟩, .slice none 0 0, .slice none 0 0, .int .i64 0, .int .i64 0, .string ⟨#[]⟩, .int .i64 0, .slice none 0 0, .slice none 0 0, .slice none 0 0]) 12 200 Tryd.underlying34 hi hz0 hz1 hz2 rfl (by decide) _ _ _ rfl (World.ownsRow_made w #[] 0 (Nat.le_refl _) (Nat.zero_le _) rfl) ad n c news rfl HL.out (fun j u hj => Lib.cell?_alloc_some _ (HN.out j u hj)) H1.out (by unfold maxLen; omega) (by omega) (by simp) ?_; intro v' w1 hown hgrow hnil)
  go_wp2_with fail
  go_ret
  have hown' : w1.ownsRow w.heap.size 36 12 v' n news := by simpa using hown
  have hb : Below w.heap.size w w1 := ((Below.refl _ w).alloc (Nat.le_refl _) _).grown hgrow (by simp) (fun k hk => by cases hk; exact Nat.le_refl _)
  rcases hown'.2 with ⟨h0, _⟩ | ⟨g, cap, cur, rfl, hgb, hg, hnc, _⟩
  · rw [hnil] at h0; cases h0.1
  · exact ⟨g, cap, rfl, hnc, hown', hgb, (Array.getElem?_eq_some_iff.1 hg).1, hb⟩


theorem cloneS_nil (c : Nat) (w : World) : Calls Tryd.prog 72 #[.slice none 0 c] w fun e w' => e = .returned (.slice none 0 0) ∧ w = w' := by
  have hq := eqS none 0 c
  go_enter Tryd.func72, Tryd.ntmps72
  go_wp2_with fail
  go_ret
  exact ⟨rfl, rfl⟩
theorem cloneV_nil (c : Nat) (w : World) : Calls Tryd.prog 73 #[.slice none 0 c] w fun e w' => e = .returned (.slice none 0 0) ∧ w = w' := by
  have hq := eqVl none 0 c
  go_enter Tryd.func73, Tryd.ntmps73
  go_wp2_with fail
  go_ret
  exact ⟨rfl, rfl⟩
theorem cloneP_nil (c : Nat) (w : World) : Calls Tryd.prog 75 #[.slice none 0 c] w fun e w' => e = .returned (.slice none 0 0) ∧ w = w' := by
  have hq := eqPr none 0 c
  go_enter Tryd.func75, Tryd.ntmps75
  go_wp2_with fail
  go_ret
  exact ⟨rfl, rfl⟩

/-! ### What the copies are -/
theorem addr_add0 (b o j : Nat) : (⟨b, o, none⟩ : Addr).add j = ⟨b, o + j, none⟩ := by
  unfold Addr.add
  by_cases h : j = 0
  · subst h; simp
  · simp [h]
theorem strClone_any (B : Nat → Prop) (v : Value) (ls : List ByteArray) (hn : ls.length ≤ 1048576) (w : World) (h : StrSl B w v ls) :
    Calls Tryd.prog 72 #[v] w (StrRet w ls) := by
  have hsz := h.2.2
  rcases h.1 with ⟨⟨a, c, rfl⟩, rfl⟩ | ⟨b, o, c, rfl, hb, hc, hrow⟩
  · cases a with
    | none => exact (cloneS_nil c w).mono fun e w' ⟨h1, h2⟩ => ⟨_, _, _, h1, ⟨.inl ⟨⟨_, _, rfl⟩, rfl⟩, by simp [maxLen], fun s hs => by cases hs⟩, by rw [h2]; exact Below.refl _ _⟩
    | some ad =>
      refine (cloneS_any ad 0 c (by omega) [] rfl w (fun j u hj => by simp at hj) (fun u hu => by cases hu)).mono fun e w' ⟨g, cap, h1, h2, h3, h4, h5, h6⟩ => ⟨_, _, _, h1, ⟨.inl ⟨⟨_, _, rfl⟩, rfl⟩, by simp [maxLen], fun s hs => by cases hs⟩, h6⟩
  · refine (cloneS_any ⟨b, o, none⟩ ls.length c hn (ls.map .string) (by simp) w (fun j u hj => ?_) (fun u hu => by obtain ⟨x, _, rfl⟩ := List.mem_map.1 hu; rfl)).mono fun e w' ⟨g, cap, h1, h2, h3, h4, h5, h6⟩ => ⟨_, _, _, h1, ⟨.inr ⟨g, 0, cap, rfl, ⟨h4, h5⟩, h2, fun j s hj => ?_⟩, h.2.1, hsz⟩, h6⟩
    · rw [List.getElem?_map] at hj
      cases hx : ls[j]? with
      | none => simp [hx] at hj
      | some x => simp [hx] at hj; subst hj; rw [addr_add0]; exact hrow j x hx
    · have hjl := (List.getElem?_eq_some_iff.1 hj).1
      rw [Nat.zero_add, h3.cellAt j (by omega), List.getElem?_map, hj]; rfl

/-- A list of values in new memory is returned. -/
def VlRet (w : World) (vs : List Vl) (e : Ending) (w' : World) : Prop :=
  ∃ la ln lc, e = .returned (.slice la ln lc) ∧ VlSl (Fresh w.heap.size w'.heap.size) w' (.slice la ln lc) vs ∧ Below w.heap.size w w'
/-- The cells of a row, of n elements of size s each. -/
theorem news_of {w : World} {b o n s : Nat} (h : ∀ i, i < n → ∀ r, r < s → ∃ v, w.cell? ⟨b, o + i * s + r, none⟩ = some v ∧ v.oneCell' = true) (hs : 0 < s) :
    ∃ news : List Value, news.length = n * s ∧ (∀ j u, news[j]? = some u → w.cell? ((⟨b, o, none⟩ : Addr).add j) = some u) ∧ ∀ u ∈ news, u.oneCell' = true := by
  obtain ⟨news, hl, hn⟩ := list_of (fun j v => w.cell? ⟨b, o + j, none⟩ = some v ∧ v.oneCell' = true) (n * s) (fun j hj => by
    have h1 : j / s < n := Nat.div_lt_of_lt_mul (by rw [Nat.mul_comm]; exact hj)
    obtain ⟨v, h2, h3⟩ := h (j / s) h1 (j % s) (Nat.mod_lt _ hs)
    refine ⟨v, ?_, h3⟩
    have e : o + j / s * s + j % s = o + j := by have := Nat.div_add_mod j s; rw [Nat.mul_comm] at this; omega
    rw [e] at h2; exact h2)
  refine ⟨news, hl, fun j u hj => by rw [addr_add0]; exact (hn j u hj).1, fun u hu => ?_⟩
  obtain ⟨i, hi⟩ := List.mem_iff_getElem?.1 hu
  exact (hn i u hi).2
/-- A cell of the copy is the cell that was copied. -/
theorem cloned_cell {w w' : World} {e : TypeId} {b o n s g cap base : Nat} {news : List Value} (hl : news.length = n * s) (hn : ∀ j u, news[j]? = some u → w.cell? ((⟨b, o, none⟩ : Addr).add j) = some u) (h : w'.ownsRow base e s (.slice (some ⟨g, 0, none⟩) n cap) n news) {j : Nat} (hj : j < n * s) {v : Value} (hv : w.cell? ⟨b, o + j, none⟩ = some v) :
    w'.cell? ⟨g, j, none⟩ = some v := by
  rw [h.cellAt j hj]
  obtain ⟨u, hu⟩ : ∃ u, news[j]? = some u := ⟨_, List.getElem?_eq_getElem (by omega)⟩
  have := hn j u hu
  rw [addr_add0, hv] at this
  rw [hu, ← this]

theorem vlClone_any (B : Nat → Prop) (v : Value) (vs : List Vl) (hn : vs.length ≤ 1048576) (w : World) (h : VlSl B w v vs) :
    Calls Tryd.prog 73 #[v] w (VlRet w vs) := by
  have hsz := h.2.2
  rcases h.1 with ⟨⟨a, c, rfl⟩, rfl⟩ | ⟨b, o, c, rfl, hb, hc, hrow⟩
  · cases a with
    | none => exact (cloneV_nil c w).mono fun e w' ⟨h1, h2⟩ => ⟨_, _, _, h1, ⟨.inl ⟨⟨_, _, rfl⟩, rfl⟩, by simp [maxLen], fun s hs => by cases hs⟩, by rw [h2]; exact Below.refl _ _⟩
    | some ad =>
      refine (cloneV_any ad 0 c (by omega) [] rfl w (fun j u hj => by simp at hj) (fun u hu => by cases hu)).mono fun e w' ⟨g, cap, h1, h2, h3, h4, h5, h6⟩ => ⟨_, _, _, h1, ⟨.inl ⟨⟨_, _, rfl⟩, rfl⟩, by simp [maxLen], fun s hs => by cases hs⟩, h6⟩
  · obtain ⟨news, hl, hnw, hone⟩ := news_of (w := w) (b := b) (o := o) (n := vs.length) (s := 3) (fun i hi r hr => by
      obtain ⟨a, ha⟩ : ∃ a, vs[i]? = some a := ⟨_, List.getElem?_eq_getElem hi⟩
      obtain ⟨q0, q1, q2⟩ := hrow i a ha
      match r, hr with
      | 0, _ => exact ⟨_, q0, rfl⟩
      | 1, _ => exact ⟨_, q1, rfl⟩
      | 2, _ => exact ⟨_, q2, rfl⟩) (by omega)
    refine (cloneV_any ⟨b, o, none⟩ vs.length c hn news hl w hnw hone).mono fun e w' ⟨g, cap, h1, h2, h3, h4, h5, h6⟩ => ⟨_, _, _, h1, ⟨.inr ⟨g, 0, cap, rfl, ⟨h4, h5⟩, h2, fun j a hj => ?_⟩, h.2.1, hsz⟩, h6⟩
    have hjl := (List.getElem?_eq_some_iff.1 hj).1
    obtain ⟨q0, q1, q2⟩ := hrow j a hj
    rw [Nat.zero_add]
    exact ⟨cloned_cell hl hnw h3 (by omega) q0, cloned_cell hl hnw h3 (by omega) (by rw [← Nat.add_assoc]; exact q1), cloned_cell hl hnw h3 (by omega) (by rw [← Nat.add_assoc]; exact q2)⟩

/-- Twelve cells from cell o of block g on. -/
def CellsAt (w : World) (g o : Nat) (p : Pr) (lv av tl tk kv : Value) : Prop :=
  w.cell? ⟨g, o, none⟩ = some (.int .i64 p.k) ∧ w.cell? ⟨g, o + 1, none⟩ = some (.string p.c) ∧ w.cell? ⟨g, o + 2, none⟩ = some (.string p.x) ∧ w.cell? ⟨g, o + 3, none⟩ = some lv ∧ w.cell? ⟨g, o + 4, none⟩ = some av ∧
  w.cell? ⟨g, o + 5, none⟩ = some (.int .i64 p.t.k) ∧ w.cell? ⟨g, o + 6, none⟩ = some (.int .i64 p.t.p) ∧ w.cell? ⟨g, o + 7, none⟩ = some (.string p.t.n) ∧ w.cell? ⟨g, o + 8, none⟩ = some (.int .i64 p.t.s) ∧ w.cell? ⟨g, o + 9, none⟩ = some tl ∧ w.cell? ⟨g, o + 10, none⟩ = some tk ∧ w.cell? ⟨g, o + 11, none⟩ = some kv
/-- The copied row of processes: the first k stand anew. -/
structure PFilled (B : Nat → Prop) (g n : Nat) (ps : List Pr) (k : Nat) (w : World) : Prop where
  block : ∃ cs, w.heap[g]? = some (.cells cs 36 (0, 0)) ∧ n * 12 ≤ cs.size
  each : ∀ i p, ps[i]? = some p → ∃ la ln lc aa an ac ta tn tc ua un uc ka kn kc, CellsAt w g (i * 12) p (.slice la ln lc) (.slice aa an ac) (.slice ta tn tc) (.slice ua un uc) (.slice ka kn kc) ∧ PrVal (if i < k then Fresh (g + 1) w.heap.size else B) w (prAgg p (.slice la ln lc) (.slice aa an ac) (.slice ta tn tc) (.slice ua un uc) (.slice ka kn kc)) p
theorem prClone_any (B : Nat → Prop) (v : Value) (ps : List Pr) (hn : ps.length ≤ 65536) (w : World) (hB : Low B w) (h : PrSl B w v ps) :
    Calls Tryd.prog 75 #[v] w fun e w' => ((∃ a c, e = .returned (.slice a 0 c) ∧ ps = []) ∨ ∃ g cap, e = .returned (.slice (some ⟨g, 0, none⟩) ps.length cap) ∧ w.heap.size ≤ g ∧ g < w'.heap.size ∧ PFilled B g ps.length ps 0 w') ∧ Below w.heap.size w w' := by
  rcases h.1 with ⟨⟨a, c, rfl⟩, rfl⟩ | ⟨b, o, c, rfl, hb, hrow⟩
  · cases a with
    | none => exact (cloneP_nil c w).mono fun e w' ⟨h1, h2⟩ => ⟨.inl ⟨_, _, h1, rfl⟩, by rw [h2]; exact Below.refl _ _⟩
    | some ad => exact (cloneP_any ad 0 c (by omega) [] rfl w (fun j u hj => by simp at hj) (fun u hu => by cases hu)).mono fun e w' ⟨g, cap, h1, h2, h3, h4, h5, h6⟩ => ⟨.inl ⟨_, _, h1, rfl⟩, h6⟩
  · obtain ⟨news, hl, hnw, hone⟩ := news_of (w := w) (b := b) (o := o) (n := ps.length) (s := 12) (fun i hi r hr => by
      obtain ⟨p, hp⟩ : ∃ p, ps[i]? = some p := ⟨_, List.getElem?_eq_getElem hi⟩
      obtain ⟨la, ln, lc, aa, an, ac, ta, tn, tc, ua, un, uc, ka, kn, kc, ⟨d0, d1, d2, d3, d4, d5, d6, d7, d8, d9, d10, d11⟩, _⟩ := (hrow.get hp).load'
      match r, hr with
      | 0, _ => exact ⟨_, d0, rfl⟩
      | 1, _ => exact ⟨_, d1, rfl⟩
      | 2, _ => exact ⟨_, d2, rfl⟩
      | 3, _ => exact ⟨_, d3, rfl⟩
      | 4, _ => exact ⟨_, d4, rfl⟩
      | 5, _ => exact ⟨_, d5, rfl⟩
      | 6, _ => exact ⟨_, d6, rfl⟩
      | 7, _ => exact ⟨_, d7, rfl⟩
      | 8, _ => exact ⟨_, d8, rfl⟩
      | 9, _ => exact ⟨_, d9, rfl⟩
      | 10, _ => exact ⟨_, d10, rfl⟩
      | 11, _ => exact ⟨_, d11, rfl⟩) (by omega)
    refine (cloneP_any ⟨b, o, none⟩ ps.length c (by omega) news hl w hnw hone).mono fun e w' ⟨g, cap, h1, h2, h3, h4, h5, h6⟩ => ⟨.inr ⟨g, cap, h1, h4, h5, ?_, fun i p hi => ?_⟩, h6⟩
    · rcases h3.2 with ⟨h, _⟩ | ⟨g', cap', cur, hv, _, hg, hnc, _, hcs, _⟩
      · cases h
      · simp only [Value.slice.injEq, Option.some.injEq, Addr.mk.injEq, and_true, true_and] at hv
        obtain ⟨rfl, rfl⟩ := hv
        exact ⟨cur, hg, by rw [hcs]; exact Nat.mul_le_mul_right _ hnc⟩
    · have hil := (List.getElem?_eq_some_iff.1 hi).1
      obtain ⟨la, ln, lc, aa, an, ac, ta, tn, tc, ua, un, uc, ka, kn, kc, ⟨d0, d1, d2, d3, d4, d5, d6, d7, d8, d9, d10, d11⟩, hval⟩ := (hrow.get hi).load'
      have hc : ∀ (r : Nat) (v : Value), r < 12 → w.cell? ⟨b, o + i * 12 + r, none⟩ = some v → w'.cell? ⟨g, i * 12 + r, none⟩ = some v := fun r v hr hv => cloned_cell hl hnw h3 (by omega) (by rw [← Nat.add_assoc]; exact hv)
      refine ⟨la, ln, lc, aa, an, ac, ta, tn, tc, ua, un, uc, ka, kn, kc, ⟨hc 0 _ (by omega) d0, hc 1 _ (by omega) d1, hc 2 _ (by omega) d2, hc 3 _ (by omega) d3, hc 4 _ (by omega) d4, hc 5 _ (by omega) d5, hc 6 _ (by omega) d6, hc 7 _ (by omega) d7, hc 8 _ (by omega) d8, hc 9 _ (by omega) d9, hc 10 _ (by omega) d10, hc 11 _ (by omega) d11⟩, ?_⟩
      rw [if_neg (by omega)]
      exact hval.to hB h6

end Go.Proofs.YtliijbcgkkiekaaDoor
