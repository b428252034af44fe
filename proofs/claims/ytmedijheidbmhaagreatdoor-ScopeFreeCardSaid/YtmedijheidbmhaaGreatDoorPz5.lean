/- Programs: the reference's Total. (and what follows from it) -/
import Derived.Test.YtmedijheidbmhaaGreatDoorPz4
import Derived.Test.YtmedijheidbmhaaGreatDoorTyQ
import Derived.Test.YtmedijheidbmhaaGreatDoorPrA
import Derived.Deep.RegionWith
import Derived.Deep.Cut
import Derived.OwnWalk

/- Programs: the reference's Total. -/
namespace Go.Proofs.YtmedijheidbmhaaGreatDoor
open Go.RowKit Go.Deep Go.Shelf

theorem sumN_take {α : Type} {l : List α} {j : Nat} {x : α} (f : α → Nat) (h : l[j]? = some x) : sumN ((l.take (j + 1)).map f) = sumN ((l.take j).map f) + f x := by
  rw [map_take_snoc f h, sumN_append]; simp [sumN]
theorem sumN_take_le {α : Type} (l : List α) (j : Nat) (f : α → Nat) : sumN ((l.take j).map f) ≤ sumN (l.map f) := sumN_le_of_prefix (map_prefix l j f)
theorem pr_slices {B : Nat → Prop} {w : World} {p : Pr} {lv av tl tk kv : Value} (h : PrVal B w (prAgg p lv av tl tk kv) p) :
    (∃ (a : Option Addr) (n c : Nat), lv = .slice a n c) ∧ (∃ (a : Option Addr) (n c : Nat), av = .slice a n c) ∧ (∃ (a : Option Addr) (n c : Nat), tl = .slice a n c) ∧ (∃ (a : Option Addr) (n c : Nat), tk = .slice a n c) ∧ ∃ (a : Option Addr) (n c : Nat), kv = .slice a n c := by
  obtain ⟨lv', av', tl', tk', kv', e, _, hl, ha, ht, hk⟩ := h
  simp only [prAgg, Value.agg.injEq, Array.mk.injEq, List.cons.injEq, and_true, true_and] at e
  obtain ⟨rfl, rfl, rfl, rfl, rfl⟩ := e
  obtain ⟨a1, n1, c1, e1, _⟩ := hl.open
  obtain ⟨a2, n2, c2, e2, _⟩ := ha.open
  obtain ⟨a3, n3, c3, e3, _⟩ := hk.open
  obtain ⟨s1, s2⟩ := slices_of ht
  exact ⟨⟨_, _, _, e1⟩, ⟨_, _, _, e2⟩, s1, s2, ⟨_, _, _, e3⟩⟩

set_option maxHeartbeats 4000000 in
set_option maxRecDepth 100000 in
theorem rptotal_any (B : Nat → Prop) (g : Pg) (hg : GGood g) (hsz : g.total ≤ 1000000000) (v : Value) (w : World) (hB : Low B w) (hv : PgVal B w v g) :
    Calls Tryz.prog 14 #[v] w fun e w' => e = .returned (.int .i64 g.total) ∧ Below w.heap.size w w' := by
  obtain ⟨dv, lv, av, tl, tk, kv, rfl, hd, hp⟩ := hv
  obtain ⟨⟨la, ln, lc, rfl⟩, ⟨aa, an, ac, rfl⟩, ⟨ta, tn, tc, rfl⟩, ⟨ua, un, uc, rfl⟩, ka, kn, kc, rfl⟩ := pr_slices hp
  obtain ⟨pa, len, c, rfl, hlen, hmx, hget⟩ := hd.open
  have hgm := (hg.2.2 g.m g.main_mem)
  obtain ⟨w1, hw1⟩ : ∃ w1, w.alloc (cell13 g (.slice pa len c) (.slice la ln lc) (.slice aa an ac) (.slice ta tn tc) (.slice ua un uc) (.slice ka kn kc)) = w1 := ⟨_, rfl⟩
  have hb01 : Below w.heap.size w w1 := by rw [← hw1]; exact blkBelow w _ _
  have hs1 : w1.heap.size = w.heap.size + 1 := by rw [← hw1]; simp
  have cell1 : ∀ (W : World), Below (w.heap.size + 1) w1 W → ∀ (j : Nat) (v : Value), #[.slice pa len c, .int .i64 g.m.k, .string g.m.c, .string g.m.x, .slice la ln lc, .slice aa an ac, .int .i64 g.m.t.k, .int .i64 g.m.t.p, .string g.m.t.n, .int .i64 g.m.t.s, .slice ta tn tc, .slice ua un uc, .slice ka kn kc][j]? = some v → W.cell? ⟨w.heap.size, j, none⟩ = some v := fun W hW j v hj => blk_cell (by rw [hw1]; exact hW) j hj
  have hlow : ∀ W, Below (w.heap.size + 1) w1 W → Below w.heap.size w W := fun W hW => hb01.trans (hW.mono (by omega))
  have HSz : Hid (∀ q : Later (w.heap.size + 1) w1, Calls Tryz.prog 31 #[prAgg g.m (.slice la ln lc) (.slice aa an ac) (.slice ta tn tc) (.slice ua un uc) (.slice ka kn kc)] q.1 fun e w' => e = .returned (.int .i64 g.m.size) ∧ Below q.1.heap.size q.1 w') := Lib.hid (fun q => prsize_any B g.m hgm.2.2 _ q.1 (hB.le (hlow _ q.2).size) (hp.to hB (hlow _ q.2)))
  have HTy : Hid (∀ q : Later (w.heap.size + 1) w1, Calls Tryz.prog 32 #[prAgg g.m (.slice la ln lc) (.slice aa an ac) (.slice ta tn tc) (.slice ua un uc) (.slice ka kn kc)] q.1 fun e w' => e = .returned (.int .i64 g.m.typ) ∧ Below q.1.heap.size q.1 w') := Lib.hid (fun q => prtyp_any B g.m hgm.1.2 (by have := g.total_eq; omega) _ q.1 (hB.le (hlow _ q.2).size) (hp.to hB (hlow _ q.2)))
  have htot := g.total_eq
  have hle0 : g.m.size + g.m.typ + sumN (g.ds.map Df.all) ≤ 1000000000 := by omega
  have HTot := Lib.hid htot
  rw [htot]
  have HD : Hid (∀ (j : Nat) (d : Df), g.ds[j]? = some d → ∃ kb ko, pa = some ⟨kb, ko, none⟩ ∧ kb < w.heap.size ∧ (∀ W, Below w.heap.size w W → DfAt B W d kb (ko + j * 14)) ∧ PGood d.b ∧ d.b.size ≤ 1000000 ∧ d.b.typ ≤ 1000000000 ∧ (∀ a ∈ d.ms, a.t.size ≤ 300)) := Lib.hid (fun j d hj => by
    obtain ⟨kb, ko, e, hkb, hda⟩ := hget j d hj
    have hmem := List.mem_of_getElem? hj
    have h1 := hg.2.2 d.b (Pg.body_mem hmem)
    have h2 : d.b.typ ≤ 1000000000 := by
      have h3 := sumN_take Df.all hj
      have h4 := sumN_take_le g.ds (j + 1) Df.all
      unfold Df.all at h3
      unfold Df.all at h4 hle0
      omega
    exact ⟨kb, ko, e, hB kb hkb, fun W hW => hda.keep (hW.keeps'.mono hB) hkb, h1.1, h1.2.2, h2, fun a ha => (hg.pm hmem ha).1⟩)
  obtain ⟨ds, hds⟩ : ∃ ds, g.ds = ds := ⟨_, rfl⟩
  rw [hds] at hlen HD hle0 ⊢
  clear hget hd hp hgm hsz hg htot hds
  unfold prAgg at HSz HTy
  obtain ⟨z1, hz1⟩ : ∃ z, g.m.size = z := ⟨_, rfl⟩
  obtain ⟨z2, hz2⟩ : ∃ z, g.m.typ = z := ⟨_, rfl⟩
  rw [hz1] at HSz hle0 ⊢
  rw [hz2] at HTy hle0 ⊢
  have hz12 : z1 + z2 ≤ 1000000000 := by omega
  clear hz1 hz2
  have CE := Lib.hid cell1
  have HL := Lib.hid hlow
  have HW1 := Lib.hid hw1
  have HLE := Lib.hid hle0
  have e0 := fun q : Later (w.heap.size + 1) w1 => cell1 q.1 q.2 0 _ rfl
  have e1 := fun q : Later (w.heap.size + 1) w1 => cell1 q.1 q.2 1 _ rfl
  have e2 := fun q : Later (w.heap.size + 1) w1 => cell1 q.1 q.2 2 _ rfl
  have e3 := fun q : Later (w.heap.size + 1) w1 => cell1 q.1 q.2 3 _ rfl
  have e4 := fun q : Later (w.heap.size + 1) w1 => cell1 q.1 q.2 4 _ rfl
  have e5 := fun q : Later (w.heap.size + 1) w1 => cell1 q.1 q.2 5 _ rfl
  have e6 := fun q : Later (w.heap.size + 1) w1 => cell1 q.1 q.2 6 _ rfl
  have e7 := fun q : Later (w.heap.size + 1) w1 => cell1 q.1 q.2 7 _ rfl
  have e8 := fun q : Later (w.heap.size + 1) w1 => cell1 q.1 q.2 8 _ rfl
  have e9 := fun q : Later (w.heap.size + 1) w1 => cell1 q.1 q.2 9 _ rfl
  have e10 := fun q : Later (w.heap.size + 1) w1 => cell1 q.1 q.2 10 _ rfl
  have e11 := fun q : Later (w.heap.size + 1) w1 => cell1 q.1 q.2 11 _ rfl
  have e12 := fun q : Later (w.heap.size + 1) w1 => cell1 q.1 q.2 12 _ rfl
  clear cell1 hlow hle0 hb01
  simp only [cell13] at hw1
  go_enter Tryz.func14, Tryz.ntmps14
  go_wp2_with fail
  clear hw1
  refine wp_region_later (w.heap.size + 1) w1 (by kernel_rfl) (by kernel_rfl) (Below.refl _ _) ?_
  repeat (go_big_quiet_step (first | (go_at_call 31; exact later_call _ (by omega) (HSz.out _)) | (go_at_call 32; exact later_call _ (by omega) (HTy.out _))))
  refine wpQuiet_nil ?_
  rintro _ ⟨⟨w5, hb5⟩, rfl⟩
  clear e0 e1 e2 e3 e4 e5 e6 e7 e8 e9 e10 e11 e12
  go_wp2_with fail
  go_loopw [3, 4] (fun a i wr => ∃ j : Nat, i = .int .i64 j ∧ j ≤ len ∧ a = .int .i64 ((z1 + z2 + sumN ((ds.take j).map Df.all) : Nat) : Int) ∧ Below (w.heap.size + 1) w1 wr) (fun _ i _ => len - (intOf i).toNat)
  case atStart => exact ⟨0, rfl, by omega, by simp [sumN], hb5⟩
  case round =>
    obtain ⟨j, rfl, hj, rfl, hb⟩ := hrel
    obtain ⟨wo, hwo⟩ : ∃ wo, wo = wr := ⟨_, rfl⟩
    subst hwo
    have c0 := CE.out wo hb 0 _ rfl
    have hw := HL.out wo hb
    by_cases hlt : j < len
    · obtain ⟨d, hdj⟩ : ∃ d, ds[j]? = some d := ⟨_, List.getElem?_eq_getElem (by rw [← hlen.out]; exact hlt)⟩
      obtain ⟨kb, ko, rfl, hkb, hda, hdg, hds, hdt, hpm⟩ := HD.out j d hdj
      have hst := sumN_take Df.all hdj
      have hsl := sumN_take_le ds (j + 1) Df.all
      have hle := HLE.out
      obtain ⟨a0, ha0⟩ : ∃ a0, z1 + z2 + sumN ((ds.take j).map Df.all) = a0 := ⟨_, rfl⟩
      have hall : d.all = d.b.size + d.b.typ + sumN d.pms := rfl
      have hbnd : a0 + (d.b.size + d.b.typ + sumN d.pms) ≤ 1000000000 := by omega
      have HST := Lib.hid hst
      have HA0 := Lib.hid ha0
      have HALL := Lib.hid hall
      rw [ha0]
      obtain ⟨ma, mn, mc, la', ln', lc', aa', an', ac', ta', tn', tc', ua', un', uc', ka', kn', kc', ⟨d0, d1, d2, d3, d4, d5, d6, d7, d8, d9, d10, d11, d12, d13⟩, hms, hval⟩ := (hda wo hw).load'
      have hBr : Low B wo := hB.le hw.size
      have hkr := hw.size
      have HS2 : Hid (∀ q : Later wo.heap.size wo, Calls Tryz.prog 31 #[prAgg d.b (.slice la' ln' lc') (.slice aa' an' ac') (.slice ta' tn' tc') (.slice ua' un' uc') (.slice ka' kn' kc')] q.1 fun e w' => e = .returned (.int .i64 d.b.size) ∧ Below q.1.heap.size q.1 w') := Lib.hid (fun q => prsize_any B d.b hds _ q.1 (hBr.le q.2.size) (hval.to hBr q.2))
      have HT2 : Hid (∀ q : Later wo.heap.size wo, Calls Tryz.prog 32 #[prAgg d.b (.slice la' ln' lc') (.slice aa' an' ac') (.slice ta' tn' tc') (.slice ua' un' uc') (.slice ka' kn' kc')] q.1 fun e w' => e = .returned (.int .i64 d.b.typ) ∧ Below q.1.heap.size q.1 w') := Lib.hid (fun q => prtyp_any B d.b hdg.2 hdt _ q.1 (hBr.le q.2.size) (hval.to hBr q.2))
      have lift : ∀ {v : Value} {x : Nat}, wo.cell? ⟨kb, x, none⟩ = some v → ∀ q : Later wo.heap.size wo, q.1.cell? ⟨kb, x, none⟩ = some v := fun h q => (q.2.cell (p := ⟨kb, _, none⟩) (by simp; omega)).trans h
      obtain ⟨pma, pmn, pmc, hpe, hmlen, hmmx, hmget⟩ := hms.open
      simp only [Value.slice.injEq] at hpe
      obtain ⟨rfl, rfl, rfl⟩ := hpe
      have HMG : Hid (∀ (k : Nat) (a : Pm), d.ms[k]? = some a → ∃ pb po, ma = some ⟨pb, po, none⟩ ∧ pb < wo.heap.size ∧ (∀ W, Below wo.heap.size wo W → PmAt B W a pb (po + k * 7)) ∧ a.t.size ≤ 300) := Lib.hid (fun k a hk => by
        obtain ⟨pb, po, e, hpb, hpa⟩ := hmget k a hk
        exact ⟨pb, po, e, hBr pb hpb, fun W hW => hpa.keep (hW.keeps'.mono hBr) hpb, hpm a (List.mem_of_getElem? hk)⟩)
      have HML := Lib.hid hmlen.out
      unfold prAgg at HS2 HT2
      obtain ⟨y1, hy1⟩ : ∃ y, d.b.size = y := ⟨_, rfl⟩
      obtain ⟨y2, hy2⟩ : ∃ y, d.b.typ = y := ⟨_, rfl⟩
      rw [hy1] at HS2 hbnd HALL
      rw [hy2] at HT2 hbnd HALL
      have f0 : ∀ q : Later wo.heap.size wo, q.1.cell? ⟨w.heap.size, 0, none⟩ = some (.slice (some ⟨kb, ko, none⟩) len c) := fun q => CE.out q.1 (hb.trans (q.2.mono (by have := hb.size; omega))) 0 _ rfl
      have g2 := lift d2
      have g3 := lift d3
      have g4 := lift d4
      have g5 := lift d5
      have g6 := lift d6
      have g7 := lift d7
      have g8 := lift d8
      have g9 := lift d9
      have g10 := lift d10
      have g11 := lift d11
      have g12 := lift d12
      have g13 := lift d13
      have h12 : a0 + y1 + y2 ≤ 1000000000 := by omega
      have h11 : a0 + y1 ≤ 1000000000 := by omega
      have HBND := Lib.hid hbnd
      clear hst hsl hle ha0 hall hda hval hms hmget hpm hdg hds hdt hy1 hy2 lift d2 d3 d4 d5 d6 d7 d8 d9 d10 d11 d12 d13 d0 hdj hbnd hmlen
      go_wp2_with fail
      refine wp_region_later wo.heap.size wo (by kernel_rfl) (by kernel_rfl) (Below.refl _ _) ?_
      repeat (go_big_quiet_step (first | (go_at_call 31; exact later_call _ (Nat.le_refl _) (HS2.out _)) | (go_at_call 32; exact later_call _ (Nat.le_refl _) (HT2.out _))))
      refine wpQuiet_nil ?_
      rintro _ ⟨⟨w6, hb6⟩, rfl⟩
      clear f0 g2 g3 g4 g5 g6 g7 g8 g9 g10 g11 g12 g13
      go_wp2_with fail
      go_loopw [3, 5] (fun a i wr => ∃ k : Nat, i = .int .i64 k ∧ k ≤ mn ∧ a = .int .i64 ((a0 + y1 + y2 + sumN (d.pms.take k) : Nat) : Int) ∧ Below wo.heap.size wo wr) (fun _ i _ => mn - (intOf i).toNat)
      case atStart => exact ⟨0, rfl, by omega, by simp [sumN], hb6⟩
      case round =>
        obtain ⟨k, rfl, hk, rfl, hb7⟩ := hrel
        have hsw := hb.size
        have p0 := CE.out wr (hb.trans (hb7.mono (by omega))) 0 _ rfl
        have p1 := (hb7.cell (p := ⟨kb, ko + j * 14 + 1, none⟩) (by simp; omega)).trans d1
        by_cases hlt2 : k < mn
        · obtain ⟨a, hak⟩ : ∃ a, d.ms[k]? = some a := ⟨_, List.getElem?_eq_getElem (by rw [← HML.out]; exact hlt2)⟩
          obtain ⟨pb, po, rfl, hpb, hpa, has⟩ := HMG.out k a hak
          obtain ⟨la3, ln3, lc3, ka3, kn3, kc3, ⟨q0, q1, q2, q3, q4, q5, q6⟩, htv⟩ := (hpa wr hb7).load'
          have hst2 : sumN (d.pms.take (k + 1)) = sumN (d.pms.take k) + a.t.size := by
            unfold Df.pms; rw [← List.map_take, ← List.map_take]; exact sumN_take _ hak
          have hsl2 : sumN (d.pms.take (k + 1)) ≤ sumN d.pms := sumN_le_of_prefix (List.take_prefix _ _)
          have HT3 := Lib.hid (rsize_any B a.t (by omega) _ wr (hBr.le hb7.size) htv)
          obtain ⟨s1, hs1⟩ : ∃ s, a.t.size = s := ⟨_, rfl⟩
          obtain ⟨s0, hs0⟩ : ∃ s, a0 + y1 + y2 + sumN (d.pms.take k) = s := ⟨_, rfl⟩
          rw [hs1] at HT3 hst2
          have hs01 : s0 + s1 ≤ 1000000000 := by have := HBND.out; omega
          have HX : Hid (a0 + y1 + y2 + sumN (d.pms.take (k + 1)) = s0 + s1) := Lib.hid (by omega)
          rw [hs0]
          clear hst2 hsl2 hs0 hs1 htv hpa has hak q0
          go_wp2_with (go_at_call 33; refine HT3.out.mono ?_; rintro e w8 ⟨rfl, hb8⟩)
          go_roundw
          case rel => exact ⟨k + 1, by go_num, by omega, ret_val (by rw [HX.out]; omega), below_seq hb7 hb8⟩
          case measure => simp [intOf]; omega
        · obtain rfl : k = mn := by omega
          have HX : Hid (a0 + y1 + y2 + sumN (d.pms.take k) = z1 + z2 + sumN ((ds.take (j + 1)).map Df.all)) := Lib.hid (by
            have h1 : d.pms.take k = d.pms := List.take_of_length_le (by unfold Df.pms; rw [List.length_map, HML.out]; exact Nat.le_refl _)
            rw [h1, HST.out, HALL.out]; have := HA0.out; omega)
          rw [HX.out]
          go_wp2_with fail
          go_roundw
          case rel => exact ⟨j + 1, by go_num, by omega, rfl, hb.trans (hb7.mono (by omega))⟩
          case measure => simp [intOf]; omega
    · obtain rfl : j = len := by omega
      go_wp2_with fail
      go_ret
      exact ⟨ret_int (by rw [List.take_of_length_le (by rw [hlen.out]; exact Nat.le_refl _)]), hw⟩

end Go.Proofs.YtmedijheidbmhaaGreatDoor

/- Scopes: Find, by the program and by the reference. -/
namespace Go.Proofs.YtmedijheidbmhaaGreatDoor
open Go.RowKit Go.Deep Go.Shelf

def nameAt (ds : List Df) (s : ByteArray) (i : Nat) : Bool := match ds[i]? with
  | some d => decide (d.n = s)
  | none => false
/-- The first definition with a name. -/
def fdI (ds : List Df) (s : ByteArray) : Option Nat := (List.range ds.length).find? (nameAt ds s)
theorem nameAt_some {ds : List Df} {s : ByteArray} {i : Nat} {d : Df} (h : ds[i]? = some d) : nameAt ds s i = decide (d.n = s) := by unfold nameAt; rw [h]
def fdZ (r : Option Nat) : Int := match r with
  | some i => (i : Int)
  | none => -1

set_option maxHeartbeats 2000000 in
set_option maxRecDepth 100000 in
theorem find_any (B : Nat → Prop) (g : Pg) (s : ByteArray) (v : Value) (w : World) (hB : Low B w) (hv : PgVal B w v g) (r : Option Nat) (hr : fdI g.ds s = r) :
    Calls Tryz.prog 17 #[v, .string s] w fun e w' => e = .returned (.tuple #[.int .i64 ((r.getD 0 : Nat) : Int), .bool r.isSome]) ∧ Below w.heap.size w w' := by
  obtain ⟨dv, lv, av, tl, tk, kv, rfl, hd, hp⟩ := hv
  obtain ⟨⟨la, ln, lc, rfl⟩, ⟨aa, an, ac, rfl⟩, ⟨ta, tn, tc, rfl⟩, ⟨ua, un, uc, rfl⟩, ka, kn, kc, rfl⟩ := pr_slices hp
  obtain ⟨pa, len, c, rfl, hlen, hmx, hget⟩ := hd.open
  have CZ : Hid (∀ W, Below (w.heap.size + 1) (w.alloc (cell13 g (.slice pa len c) (.slice la ln lc) (.slice aa an ac) (.slice ta tn tc) (.slice ua un uc) (.slice ka kn kc))) W → W.cell? ⟨w.heap.size, 0, none⟩ = some (.slice pa len c) ∧ Below w.heap.size w W) := Lib.hid (fun W hW => ⟨blk_cell hW 0 rfl, blk_below hW⟩)
  have HG : Hid (∀ (j : Nat) (d : Df), g.ds[j]? = some d → ∃ kb ko, pa = some ⟨kb, ko, none⟩ ∧ ∀ W, Below w.heap.size w W → W.cell? ⟨kb, ko + j * 14, none⟩ = some (.string d.n)) := Lib.hid (fun j d hj => by
    obtain ⟨kb, ko, e, hkb, ha⟩ := hget j d hj
    exact ⟨kb, ko, e, fun W hW => (hW.cell (p := ⟨kb, _, none⟩) (hB kb hkb)).trans ha.2.1⟩)
  have HR := Lib.hid hr
  have HB0 := Lib.hid (Below.refl (w.heap.size + 1) (w.alloc (cell13 g (.slice pa len c) (.slice la ln lc) (.slice aa an ac) (.slice ta tn tc) (.slice ua un uc) (.slice ka kn kc))))
  clear hd hp hget hB hr
  go_enter Tryz.func17, Tryz.ntmps17
  go_wp2_with fail
  go_loopw [10] (fun i wr => ∃ j : Nat, i = .int .i64 (j : Int) ∧ j ≤ len ∧ Hid (∀ k, k < j → nameAt g.ds s k = false) ∧ Hid (Below (w.heap.size + 1) (w.alloc (cell13 g (.slice pa len c) (.slice la ln lc) (.slice aa an ac) (.slice ta tn tc) (.slice ua un uc) (.slice ka kn kc))) wr)) (fun i _ => len - (intOf i).toNat)
  case atStart => exact ⟨0, rfl, by omega, Lib.hid (fun k hk => by omega), HB0⟩
  case round =>
    obtain ⟨j, rfl, hj, HT, HBj⟩ := hrel
    obtain ⟨cz, _⟩ := CZ.out wr HBj.out
    by_cases hlt : j < len
    · obtain ⟨d, hd⟩ : ∃ d, g.ds[j]? = some d := ⟨_, List.getElem?_eq_getElem (by rw [← hlen.out]; exact hlt)⟩
      obtain ⟨kb, ko, rfl, hc⟩ := HG.out j d hd
      have c0 := hc wr (CZ.out wr HBj.out).2
      have HNA : Hid (nameAt g.ds s j = decide (d.n = s)) := Lib.hid (nameAt_some hd)
      have HJ : Hid (j < g.ds.length) := Lib.hid (List.getElem?_eq_some_iff.1 hd).1
      clear hd hc
      by_cases he : d.n = s
      · have HRR : Hid (r = some j) := Lib.hid (by rw [← HR.out]; exact range_find HJ.out HT.out (by rw [HNA.out]; simpa using he))
        rw [he] at c0
        clear he
        go_wp2_with fail
        go_ret2
        exact ⟨by rw [HRR.out]; rfl, (CZ.out wr HBj.out).2⟩
      · have h1 := str_ne he
        have h2 : (d.n.toList == s.toList) = false := by simpa using h1
        have HT' : Hid (∀ k, k < j + 1 → nameAt g.ds s k = false) := Lib.hid (fun k hk => by
          rcases Nat.lt_succ_iff_lt_or_eq.1 hk with h | rfl
          · exact HT.out k h
          · rw [HNA.out]; simpa using he)
        clear he
        go_wp2_with fail
        go_roundw
        case rel => exact ⟨j + 1, by go_num, by omega, HT', HBj⟩
        case measure => simp [intOf]; omega
    · obtain rfl : j = len := by omega
      have HRR : Hid (r = none) := Lib.hid (by rw [← HR.out]; exact range_find_none (fun i hi => HT.out i (by rw [hlen.out]; exact hi)))
      clear cz
      go_wp2_with fail
      go_ret2
      exact ⟨by rw [HRR.out]; rfl, (CZ.out wr HBj.out).2⟩

set_option maxHeartbeats 2000000 in
set_option maxRecDepth 100000 in
theorem rfind_any (B : Nat → Prop) (g : Pg) (s : ByteArray) (v : Value) (w : World) (hB : Low B w) (hv : PgVal B w v g) (x : Int) (hr : fdZ (fdI g.ds s) = x) :
    Calls Tryz.prog 13 #[v, .string s] w fun e w' => e = .returned (.int .i64 x) ∧ Below w.heap.size w w' := by
  obtain ⟨dv, lv, av, tl, tk, kv, rfl, hd, hp⟩ := hv
  obtain ⟨⟨la, ln, lc, rfl⟩, ⟨aa, an, ac, rfl⟩, ⟨ta, tn, tc, rfl⟩, ⟨ua, un, uc, rfl⟩, ka, kn, kc, rfl⟩ := pr_slices hp
  obtain ⟨pa, len, c, rfl, hlen, hmx, hget⟩ := hd.open
  have CZ : Hid (∀ W, Below (w.heap.size + 1) (w.alloc (cell13 g (.slice pa len c) (.slice la ln lc) (.slice aa an ac) (.slice ta tn tc) (.slice ua un uc) (.slice ka kn kc))) W → W.cell? ⟨w.heap.size, 0, none⟩ = some (.slice pa len c) ∧ Below w.heap.size w W) := Lib.hid (fun W hW => ⟨blk_cell hW 0 rfl, blk_below hW⟩)
  have HG : Hid (∀ (j : Nat) (d : Df), g.ds[j]? = some d → ∃ kb ko, pa = some ⟨kb, ko, none⟩ ∧ ∀ W, Below w.heap.size w W → W.cell? ⟨kb, ko + j * 14, none⟩ = some (.string d.n)) := Lib.hid (fun j d hj => by
    obtain ⟨kb, ko, e, hkb, ha⟩ := hget j d hj
    exact ⟨kb, ko, e, fun W hW => (hW.cell (p := ⟨kb, _, none⟩) (hB kb hkb)).trans ha.2.1⟩)
  have HR := Lib.hid hr
  have HB0 := Lib.hid (Below.refl (w.heap.size + 1) (w.alloc (cell13 g (.slice pa len c) (.slice la ln lc) (.slice aa an ac) (.slice ta tn tc) (.slice ua un uc) (.slice ka kn kc))))
  clear hd hp hget hB hr
  go_enter Tryz.func13, Tryz.ntmps13
  go_wp2_with fail
  go_loopw [5] (fun i wr => ∃ j : Nat, i = .int .i64 (j : Int) ∧ j ≤ len ∧ Hid (∀ k, k < j → nameAt g.ds s k = false) ∧ Hid (Below (w.heap.size + 1) (w.alloc (cell13 g (.slice pa len c) (.slice la ln lc) (.slice aa an ac) (.slice ta tn tc) (.slice ua un uc) (.slice ka kn kc))) wr)) (fun i _ => len - (intOf i).toNat)
  case atStart => exact ⟨0, rfl, by omega, Lib.hid (fun k hk => by omega), HB0⟩
  case round =>
    obtain ⟨j, rfl, hj, HT, HBj⟩ := hrel
    obtain ⟨cz, _⟩ := CZ.out wr HBj.out
    by_cases hlt : j < len
    · obtain ⟨d, hd⟩ : ∃ d, g.ds[j]? = some d := ⟨_, List.getElem?_eq_getElem (by rw [← hlen.out]; exact hlt)⟩
      obtain ⟨kb, ko, rfl, hc⟩ := HG.out j d hd
      have c0 := hc wr (CZ.out wr HBj.out).2
      have HNA : Hid (nameAt g.ds s j = decide (d.n = s)) := Lib.hid (nameAt_some hd)
      have HJ : Hid (j < g.ds.length) := Lib.hid (List.getElem?_eq_some_iff.1 hd).1
      clear hd hc
      by_cases he : d.n = s
      · have HRR : Hid (x = (j : Int)) := Lib.hid (by rw [← HR.out, show fdI g.ds s = some j from range_find HJ.out HT.out (by rw [HNA.out]; simpa using he)]; rfl)
        rw [he] at c0
        clear he
        go_wp2_with fail
        go_ret
        exact ⟨by rw [HRR.out]; rfl, (CZ.out wr HBj.out).2⟩
      · have h1 := str_ne he
        have h2 : (d.n.toList == s.toList) = false := by simpa using h1
        have HT' : Hid (∀ k, k < j + 1 → nameAt g.ds s k = false) := Lib.hid (fun k hk => by
          rcases Nat.lt_succ_iff_lt_or_eq.1 hk with h | rfl
          · exact HT.out k h
          · rw [HNA.out]; simpa using he)
        clear he
        go_wp2_with fail
        go_roundw
        case rel => exact ⟨j + 1, by go_num, by omega, HT', HBj⟩
        case measure => simp [intOf]; omega
    · obtain rfl : j = len := by omega
      have HRR : Hid (x = -1) := Lib.hid (by rw [← HR.out, show fdI g.ds s = none from range_find_none (fun i hi => HT.out i (by rw [hlen.out]; exact hi))]; rfl)
      go_wp2_with fail
      go_ret
      exact ⟨by rw [HRR.out]; rfl, (CZ.out wr HBj.out).2⟩

end Go.Proofs.YtmedijheidbmhaaGreatDoor

/- Scopes: has, callError, bound. -/
namespace Go.Proofs.YtmedijheidbmhaaGreatDoor
open Go.RowKit Go.Deep Go.Shelf

/-- A set of texts that may be nil. -/
def NSet (w : World) (q : Option Nat) (l : List ByteArray) : Prop := (q = none ∧ l = []) ∨ ∃ b, q = some b ∧ SetIs w b l.length l
theorem NSet.look {w : World} {q : Option Nat} {l : List ByteArray} (h : NSet w q l) {s : ByteArray} (hs : s.size ≤ maxLen) : (Instr.lookup 67 (.map q) (.string s) false).run Tryz.prog w = .ok (.bool (memB s l)) w := by
  rcases h with ⟨rfl, rfl⟩ | ⟨b, rfl, h⟩
  · exact Maps.look_nil false boolKeyed Tryz.underlying67 (zero_bool w) (Go.WideMaps.keyOf_string_mk Tryz.underlying9 hs)
  · exact h.look hs
theorem NSet.to {w w' : World} {q : Option Nat} {l : List ByteArray} (h : NSet w q l) (hb : Below w.heap.size w w') : NSet w' q l := by
  rcases h with h | ⟨b, e, h⟩
  · exact .inl h
  · exact .inr ⟨b, e, h.below hb h.lt⟩
theorem ArIs.to {w w' : World} {b n : Nat} {ar : ByteArray → Option Nat} (h : ArIs w b n ar) (hb : Below w.heap.size w w') : ArIs w' b n ar := h.below hb h.lt
/-- The three cells of a place. -/
abbrev plc (pq aq : Option Nat) (g : Bool) : Value := .agg #[.map pq, .map aq, .bool g]
abbrev cell3 (pq aq : Option Nat) (g : Bool) : Obj := .cells #[.map pq, .map aq, .bool g] 69
/-- What a place says. -/
structure Plc (w : World) (pq aq : Option Nat) (sc : List ByteArray) (n : Nat) : Prop where
  sets : ∃ ps us : List ByteArray, NSet w pq ps ∧ NSet w aq us ∧ aq.isSome = true ∧ us.length ≤ n ∧ ∀ s, memB s sc = (memB s ps || memB s us)
theorem Plc.to {w w' : World} {pq aq : Option Nat} {sc : List ByteArray} {n : Nat} (h : Plc w pq aq sc n) (hb : Below w.heap.size w w') : Plc w' pq aq sc n := by
  obtain ⟨ps, us, h1, h2, h3⟩ := h.sets; exact ⟨ps, us, h1.to hb, h2.to hb, h3⟩

set_option maxHeartbeats 1000000 in
theorem has_any (pq aq : Option Nat) (g : Bool) (sc : List ByteArray) (n : Nat) (s : ByteArray) (hs : s.size ≤ maxLen) (m : Bool) (hm : memB s sc = m) (w : World) (h : Plc w pq aq sc n) :
    Calls Tryz.prog 64 #[.agg #[.map pq, .map aq, .bool g], .string s] w fun e w' => e = .returned (.bool m) ∧ Below w.heap.size w w' := by
  have hb0 := blkBelow w #[.map pq, .map aq, .bool g] 69
  obtain ⟨ps, us, h1, h2, _, _, h3⟩ := (h.to hb0).sets
  have l1 := h1.look hs
  have l2 := h2.look hs
  rw [h3] at hm
  have HB := Lib.hid hb0
  clear hb0 h h1 h2 h3
  obtain ⟨m1, hm1⟩ : ∃ x, memB s ps = x := ⟨_, rfl⟩
  obtain ⟨m2, hm2⟩ : ∃ x, memB s us = x := ⟨_, rfl⟩
  rw [hm1, hm2] at hm
  rw [hm1] at l1
  rw [hm2] at l2
  clear hm1 hm2
  subst hm
  cases m1
  · go_enter Tryz.func64, Tryz.ntmps64
    go_wp2_with fail
    go_ret
    exact ⟨by first | rfl | simp, HB.out⟩
  · go_enter Tryz.func64, Tryz.ntmps64
    go_wp2_with fail
    go_ret
    exact ⟨by first | rfl | simp, HB.out⟩

set_option maxHeartbeats 1000000 in
theorem callError_any (S : Nat → Prop) (p : Pr) (b o : Nat) (g : Bool) (ab n : Nat) (ar : ByteArray → Option Nat) (w : World) (hS : Low S w) (hp : PrAt S w p b o) (ha : ArIs w ab n ar) (r : Int) (hr : callE (ar p.c) p.vs.length g = r) :
    Calls Tryz.prog 65 #[.pointer (some ⟨b, o, none⟩), .bool g, .map (some ab)] w fun e w' => e = .returned (.int .i64 r) ∧ Below w.heap.size w w' := by
  obtain ⟨hSb, ⟨hc, hx⟩, ⟨c0, c1, c2⟩, _, lv, av, kv, c3, c4, c11, _, hv, _⟩ := PrAt.eq.1 hp
  have hbl := hS b hSb
  obtain ⟨aa, an, ac, rfl, hal, ham, _⟩ := hv.open
  obtain ⟨x, hx'⟩ : ∃ x, ar p.c = x := ⟨_, rfl⟩
  have hlk := ha.look_ok hc hx'
  rw [hx', ← hal.out] at hr
  clear hp ha hc hx hv hal hx' c0 c2 c3 c11
  subst hr
  cases x with
  | none =>
    simp only [Option.getD, Option.isSome] at hlk
    go_enter Tryz.func65, Tryz.ntmps65
    go_wp2_with fail
    go_ret
    exact ⟨rfl, Below.refl _ _⟩
  | some k =>
    simp only [Option.getD, Option.isSome] at hlk
    by_cases hk : k = an
    · subst hk
      cases g
      · go_enter Tryz.func65, Tryz.ntmps65
        go_wp2_with fail
        go_ret
        exact ⟨ret_int (by simp [callE]), Below.refl _ _⟩
      · go_enter Tryz.func65, Tryz.ntmps65
        go_wp2_with fail
        go_ret
        exact ⟨ret_int (by simp [callE]), Below.refl _ _⟩
    · have hk1 : ((k : Int) == (an : Int)) = false := by simp; omega
      have hk2 : ((k : Int) != (an : Int)) = true := by simp; omega
      have HK := Lib.hid hk
      clear hk
      go_enter Tryz.func65, Tryz.ntmps65
      go_wp2_with fail
      go_ret
      exact ⟨ret_int (by have := HK.out; simp [callE, this]), Below.refl _ _⟩

set_option maxHeartbeats 1000000 in
theorem bound_any (S : Nat → Prop) (p : Pr) (b o : Nat) (w : World) (hS : Low S w) (hp : PrAt S w p b o) :
    Calls Tryz.prog 40 #[.pointer (some ⟨b, o, none⟩)] w (StrRet w p.bnd) := by
  obtain ⟨hSb, ⟨hc, hx⟩, ⟨c0, c1, c2⟩, _⟩ := PrAt.eq.1 hp
  have hbl := hS b hSb
  unfold Pr.bnd
  obtain ⟨k, hk⟩ : ∃ k, p.k = k := ⟨_, rfl⟩
  rw [hk] at c0 ⊢
  have HC := Lib.hid hc
  have HX := Lib.hid hx
  clear hp hk hc hx
  by_cases h3 : k = 3
  · subst h3
    rw [if_pos rfl]
    go_enter Tryz.func40, Tryz.ntmps40
    go_wp2_with fail
    go_ret
    exact ⟨_, _, _, rfl, strSl_made [p.x] (Below.refl _ _) (fun s hs => by rw [List.mem_singleton.1 hs]; exact HX.out) (by simp [maxLen]), blkBelow w _ _⟩
  · have h3' : (k == 3) = false := by simpa using h3
    rw [if_neg h3]
    clear h3
    by_cases h6 : k = 6
    · subst h6
      rw [if_pos rfl]
      go_enter Tryz.func40, Tryz.ntmps40
      go_wp2_with fail
      go_region
      all_goals
        go_wp2_with fail
        go_ret
        exact ⟨_, _, _, rfl, strSl_made [p.c, p.x] (Below.refl _ _).drew (fun s hs => by
          rcases List.mem_cons.1 hs with e | hs
          · rw [e]; exact HC.out
          · rw [List.mem_singleton.1 hs]; exact HX.out) (by simp [maxLen]), (blkBelow w _ _).drew⟩
    · have h6' : (k == 6) = false := by simpa using h6
      rw [if_neg h6]
      clear h6
      go_enter Tryz.func40, Tryz.ntmps40
      go_wp2_with fail
      go_ret
      exact ⟨_, _, _, rfl, ⟨.inl ⟨⟨_, _, rfl⟩, rfl⟩, by simp [maxLen]⟩, Below.refl _ _⟩

end Go.Proofs.YtmedijheidbmhaaGreatDoor

/- Scopes: nodeError. -/
namespace Go.Proofs.YtmedijheidbmhaaGreatDoor
open Go.RowKit Go.Deep Go.Shelf

theorem any_take {α : Type} {l : List α} {j : Nat} {x : α} (f : α → Bool) (h : l[j]? = some x) (ht : (l.take j).any f = false) : (l.take (j + 1)).any f = f x ∧ (f x = true → l.any f = true) := by
  refine ⟨?_, fun hx => ?_⟩
  · rw [take_snoc_get h, List.any_append, ht]; simp
  · rw [List.any_eq_true]; exact ⟨x, List.mem_of_getElem? h, hx⟩
theorem Pr.nodeE_4a {ar : ByteArray → Option Nat} {sc : List ByteArray} {g : Bool} {p : Pr} (h : (prefixB p.k && !memB p.c sc) = true) : p.nodeE ar sc g = 4 := by unfold Pr.nodeE; rw [if_pos h]
theorem Pr.nodeE_4b {ar : ByteArray → Option Nat} {sc : List ByteArray} {g : Bool} {p : Pr} (h : (prefixB p.k && !memB p.c sc) = false) (h2 : p.vs.any (badArg sc) = true) : p.nodeE ar sc g = 4 := by unfold Pr.nodeE; rw [if_neg (by rw [h]; simp), if_pos h2]
theorem Pr.nodeE_5 {ar : ByteArray → Option Nat} {sc : List ByteArray} {g : Bool} {p : Pr} (h : (prefixB p.k && !memB p.c sc) = false) (h2 : p.vs.any (badArg sc) = false) (h3 : p.bnd.any (fun s => memB s sc) = true) : p.nodeE ar sc g = 5 := by unfold Pr.nodeE; rw [if_neg (by rw [h]; simp), if_neg (by rw [h2]; simp), if_pos h3]
theorem Pr.nodeE_8 {ar : ByteArray → Option Nat} {sc : List ByteArray} {g : Bool} {p : Pr} (h : (prefixB p.k && !memB p.c sc) = false) (h2 : p.vs.any (badArg sc) = false) (h3 : p.bnd.any (fun s => memB s sc) = false) (h8 : p.k = 8) : p.nodeE ar sc g = callE (ar p.c) p.vs.length g := by unfold Pr.nodeE; rw [if_neg (by rw [h]; simp), if_neg (by rw [h2]; simp), if_neg (by rw [h3]; simp), if_pos h8]
theorem Pr.nodeE_0 {ar : ByteArray → Option Nat} {sc : List ByteArray} {g : Bool} {p : Pr} (h : (prefixB p.k && !memB p.c sc) = false) (h2 : p.vs.any (badArg sc) = false) (h3 : p.bnd.any (fun s => memB s sc) = false) (h8 : p.k ≠ 8) : p.nodeE ar sc g = 0 := by unfold Pr.nodeE; rw [if_neg (by rw [h]; simp), if_neg (by rw [h2]; simp), if_neg (by rw [h3]; simp), if_neg h8]

set_option maxHeartbeats 8000000 in
set_option maxRecDepth 100000 in
theorem snodeError_any (S : Nat → Prop) (p : Pr) (b o : Nat) (pq aq : Option Nat) (g : Bool) (sc : List ByteArray) (n ab nn : Nat) (ar : ByteArray → Option Nat) (w : World) (hS : Low S w) (hp : PrAt S w p b o) (hpl : Plc w pq aq sc n) (ha : ArIs w ab nn ar) (r : Int) (hr : p.nodeE ar sc g = r) :
    Calls Tryz.prog 50 #[.pointer (some ⟨b, o, none⟩), .agg #[.map pq, .map aq, .bool g], .map (some ab)] w fun e w' => e = .returned (.int .i64 r) ∧ Below w.heap.size w w' := by
  have hb0 : Below w.heap.size w (w.alloc (cell3 pq aq g)) := blkBelow w _ _
  have hlow : ∀ W, Below (w.heap.size + 1) (w.alloc (cell3 pq aq g)) W → Below w.heap.size w W := fun W hW => blk_below hW
  have CZ : Hid (∀ W, Below (w.heap.size + 1) (w.alloc (cell3 pq aq g)) W → W.cell? ⟨w.heap.size, 0, none⟩ = some (.map pq) ∧ W.cell? ⟨w.heap.size, 1, none⟩ = some (.map aq) ∧ W.cell? ⟨w.heap.size, 2, none⟩ = some (.bool g)) := Lib.hid (fun W hW => ⟨blk_cell hW 0 rfl, blk_cell hW 1 rfl, blk_cell hW 2 rfl⟩)
  have hp0 := hp
  obtain ⟨hSb, ⟨hcz, hxz⟩, ⟨d0, d1, d2⟩, hty, lv, av, kv, d3, d4, d11, hl, hv, hk⟩ := PrAt.eq.1 hp
  obtain ⟨aa, an, ac, rfl, hal, ham, hag⟩ := hv.open
  obtain ⟨la1, ln1, lc1, aa1, an1, ac1, ta1, tn1, tc1, ua1, un1, uc1, ka1, kn1, kc1, ⟨c0, c1, c2, c3, c4, c5, c6, c7, c8, c9, c10, c11⟩, hval⟩ := hp.load'
  have hbl := hS b hSb
  have e4 := c4.symm.trans d4
  simp only [Option.some.injEq, Value.slice.injEq] at e4
  obtain ⟨rfl, rfl, rfl⟩ := e4
  have HP : Hid (∀ W, Below (w.heap.size + 1) (w.alloc (cell3 pq aq g)) W → PrAt S W p b o ∧ Low S W ∧ Plc W pq aq sc n ∧ ArIs W ab nn ar) := Lib.hid (fun W hW => ⟨PrAt.keep ((hlow W hW).keeps'.mono hS) _ _ _ hp0, hS.le (hlow W hW).size, hpl.to (hlow W hW), ha.to (hlow W hW)⟩)
  have HC : Hid (∀ W, Below (w.heap.size + 1) (w.alloc (cell3 pq aq g)) W → W.cell? ⟨b, o, none⟩ = some (.int .i64 p.k) ∧ W.cell? ⟨b, o + 4, none⟩ = some (.slice aa1 an1 ac1)) := Lib.hid (fun W hW => ⟨((hlow W hW).cell (p := ⟨b, _, none⟩) hbl).trans c0, ((hlow W hW).cell (p := ⟨b, _, none⟩) hbl).trans c4⟩)
  have HAG : Hid (∀ (i : Nat) (a : Vl), p.vs[i]? = some a → a.n.size ≤ maxLen ∧ ∃ gb go, aa1 = some ⟨gb, go, none⟩ ∧ gb < w.heap.size ∧ ∀ W, Below w.heap.size w W → W.cell? ⟨gb, go + i * 3, none⟩ = some (.int .i64 a.k) ∧ W.cell? ⟨gb, go + i * 3 + 1, none⟩ = some (.string a.n) ∧ W.cell? ⟨gb, go + i * 3 + 2, none⟩ = some (.int .i64 a.x)) := Lib.hid (fun i a hi => by
    obtain ⟨h1, gb, go, e, hgb, q0, q1, q2⟩ := hag i a hi
    have hgb' := hS gb hgb
    exact ⟨h1, gb, go, e, hgb', fun W hW => ⟨(hW.cell (p := ⟨gb, _, none⟩) hgb').trans q0, (hW.cell (p := ⟨gb, _, none⟩) hgb').trans q1, (hW.cell (p := ⟨gb, _, none⟩) hgb').trans q2⟩⟩)
  have HLow := Lib.hid hlow
  have HAL := Lib.hid hal.out
  obtain ⟨pb, hpb⟩ : ∃ x, prefixB p.k = x := ⟨_, rfl⟩
  obtain ⟨mc, hmc⟩ : ∃ x, memB p.c sc = x := ⟨_, rfl⟩
  have HPX : Hid (∀ W, Below (w.heap.size + 1) (w.alloc (cell3 pq aq g)) W → Calls Tryz.prog 63 #[prAgg p (.slice la1 ln1 lc1) (.slice aa1 an1 ac1) (.slice ta1 tn1 tc1) (.slice ua1 un1 uc1) (.slice ka1 kn1 kc1)] W fun e w' => e = .returned (.bool pb) ∧ Below W.heap.size W w') := Lib.hid (fun W hW => by
    rw [← hpb]
    exact pprefix_any S p _ W (hval.keep ((hlow W hW).keeps'.mono hS)))
  have HHC : Hid (∀ W, Below (w.heap.size + 1) (w.alloc (cell3 pq aq g)) W → Calls Tryz.prog 64 #[.agg #[.map pq, .map aq, .bool g], .string p.c] W fun e w' => e = .returned (.bool mc) ∧ Below W.heap.size W w') := Lib.hid (fun W hW => has_any pq aq g sc n p.c hcz mc hmc W (hpl.to (hlow W hW)))
  have HHS : Hid (∀ (s : ByteArray) (m : Bool) W, s.size ≤ maxLen → memB s sc = m → Below (w.heap.size + 1) (w.alloc (cell3 pq aq g)) W → Calls Tryz.prog 64 #[.agg #[.map pq, .map aq, .bool g], .string s] W fun e w' => e = .returned (.bool m) ∧ Below W.heap.size W w') := Lib.hid (fun s m W hs hm hW => has_any pq aq g sc n s hs m hm W (hpl.to (hlow W hW)))
  have HPB := Lib.hid hpb
  have HMC := Lib.hid hmc
  have HR := Lib.hid hr
  have HB0 : Hid (Below (w.heap.size + 1) (w.alloc (cell3 pq aq g)) (w.alloc (cell3 pq aq g))) := Lib.hid (Below.refl _ _)
  have hbl1 : b < w.heap.size + 1 := by omega
  have kz := fun Q : Later (w.heap.size + 1) (w.alloc (cell3 pq aq g)) => CZ.out Q.1 Q.2
  have kc : ∀ Q : Later (w.heap.size + 1) (w.alloc (cell3 pq aq g)), Q.1.cell? ⟨b, o, none⟩ = some (.int .i64 p.k) ∧ Q.1.cell? ⟨b, o + 1, none⟩ = some (.string p.c) ∧ Q.1.cell? ⟨b, o + 2, none⟩ = some (.string p.x) ∧ Q.1.cell? ⟨b, o + 3, none⟩ = some (.slice la1 ln1 lc1) ∧ Q.1.cell? ⟨b, o + 4, none⟩ = some (.slice aa1 an1 ac1) ∧ Q.1.cell? ⟨b, o + 5, none⟩ = some (.int .i64 p.t.k) ∧ Q.1.cell? ⟨b, o + 6, none⟩ = some (.int .i64 p.t.p) ∧ Q.1.cell? ⟨b, o + 7, none⟩ = some (.string p.t.n) ∧ Q.1.cell? ⟨b, o + 8, none⟩ = some (.int .i64 p.t.s) ∧ Q.1.cell? ⟨b, o + 9, none⟩ = some (.slice ta1 tn1 tc1) ∧ Q.1.cell? ⟨b, o + 10, none⟩ = some (.slice ua1 un1 uc1) ∧ Q.1.cell? ⟨b, o + 11, none⟩ = some (.slice ka1 kn1 kc1) := fun Q => by
    have h : ∀ i v, w.cell? ⟨b, i, none⟩ = some v → Q.1.cell? ⟨b, i, none⟩ = some v := fun i v hv => ((hlow Q.1 Q.2).cell (p := ⟨b, _, none⟩) hbl).trans hv
    exact ⟨h _ _ c0, h _ _ c1, h _ _ c2, h _ _ c3, h _ _ c4, h _ _ c5, h _ _ c6, h _ _ c7, h _ _ c8, h _ _ c9, h _ _ c10, h _ _ c11⟩
  simp only [forall_and] at kz kc
  obtain ⟨z0, z1, z2⟩ := kz
  obtain ⟨y0, y1, y2, y3, y4, y5, y6, y7, y8, y9, y10, y11⟩ := kc
  unfold prAgg at HPX
  clear hp hp0 hpl ha hr hpb hmc hb0 hlow hcz hxz d0 d1 d2 hty d3 d4 d11 hl hv hk hal hag c0 c1 c2 c3 c4 c5 c6 c7 c8 c9 c10 c11 hval hS hSb
  go_enter Tryz.func50, Tryz.ntmps50
  go_upto_region 1 with fail
  go_cut [23] from 11 (fun t wc => t = .bool (pb && !mc) ∧ Hid (Below (w.heap.size + 1) (w.alloc (cell3 pq aq g)) wc))
  case first =>
    cases pb
    · refine wp_region_later (w.heap.size + 1) (w.alloc (cell3 pq aq g)) (by kernel_rfl) (by kernel_rfl) HB0.out ?_
      repeat (go_big_quiet_step (first | (go_at_call 63; exact later_call _ (by simp) (HPX.out _ (Subtype.property _))) | (go_at_call 64; exact later_call _ (by simp) (HHC.out _ (Subtype.property _)))))
      refine wpQuiet_nil ?_
      rintro _ ⟨⟨w5, hb5⟩, rfl⟩
      go_wp2_with fail
      go_meet
      case rel => exact ⟨rfl, Lib.hid hb5⟩
    · cases mc
      · refine wp_region_later (w.heap.size + 1) (w.alloc (cell3 pq aq g)) (by kernel_rfl) (by kernel_rfl) HB0.out ?_
        repeat (go_big_quiet_step (first | (go_at_call 63; exact later_call _ (by simp) (HPX.out _ (Subtype.property _))) | (go_at_call 64; exact later_call _ (by simp) (HHC.out _ (Subtype.property _)))))
        refine wpQuiet_nil ?_
        rintro _ ⟨⟨w5, hb5⟩, rfl⟩
        go_wp2_with fail
        go_meet
        case rel => exact ⟨rfl, Lib.hid hb5⟩
      · refine wp_region_later (w.heap.size + 1) (w.alloc (cell3 pq aq g)) (by kernel_rfl) (by kernel_rfl) HB0.out ?_
        repeat (go_big_quiet_step (first | (go_at_call 63; exact later_call _ (by simp) (HPX.out _ (Subtype.property _))) | (go_at_call 64; exact later_call _ (by simp) (HHC.out _ (Subtype.property _)))))
        refine wpQuiet_nil ?_
        rintro _ ⟨⟨w5, hb5⟩, rfl⟩
        go_wp2_with fail
        go_meet
        case rel => exact ⟨rfl, Lib.hid hb5⟩
  case rest =>
    obtain ⟨rfl, HB1⟩ := hcut
    clear z0 z1 z2 y0 y1 y2 y3 y4 y5 y6 y7 y8 y9 y10 y11 HPX HHC
    obtain ⟨bad, hbad⟩ : ∃ x, (pb && !mc) = x := ⟨_, rfl⟩
    have HBD : Hid ((prefixB p.k && !memB p.c sc) = bad) := Lib.hid (by rw [HPB.out, HMC.out, hbad])
    rw [hbad]
    clear hbad
    cases bad
    · obtain ⟨_, c4⟩ := HC.out wc HB1.out
      go_wp2_with fail
      clear c4
      go_loopw [29] (fun i wr => ∃ (j : Nat), i = .int .i64 (j : Int) ∧ j ≤ an1 ∧ Hid ((p.vs.take j).any (badArg sc) = false) ∧ Hid (Below (w.heap.size + 1) (w.alloc (cell3 pq aq g)) wr)) (fun i _ => an1 - (intOf i).toNat)
      case atStart => exact ⟨0, rfl, by omega, Lib.hid (by simp), HB1⟩
      case round =>
        obtain ⟨j, rfl, hj, HT, HBj⟩ := hrel
        obtain ⟨wo, hwo⟩ : ∃ wo, wo = wr := ⟨_, rfl⟩
        subst hwo
        have hzs : w.heap.size + 1 ≤ wo.heap.size := by have := HBj.out.size; simpa using this
        by_cases hlt : j < an1
        · obtain ⟨a, haj⟩ : ∃ a, p.vs[j]? = some a := ⟨_, List.getElem?_eq_getElem (by rw [← HAL.out]; exact hlt)⟩
          obtain ⟨has, gb, go, rfl, hgz, hcells⟩ := HAG.out j a haj
          obtain ⟨q0, q1, q2⟩ := hcells wo (HLow.out wo HBj.out)
          obtain ⟨z0, z1, z2⟩ := CZ.out wo HBj.out
          have hzz : w.heap.size < wo.heap.size := by omega
          have hgs : gb < wo.heap.size := by omega
          obtain ⟨hA1, hA2⟩ := any_take (badArg sc) haj HT.out
          have HBX : Hid (Below (w.heap.size + 1) (w.alloc (cell3 pq aq g)) (wo.alloc (.cells #[.int .i64 a.k, .string a.n, .int .i64 a.x] 53))) := Lib.hid (HBj.out.alloc (by simpa using hzs) _)
          obtain ⟨ak, hak⟩ : ∃ ak, a.k = ak := ⟨_, rfl⟩
          obtain ⟨m, hm⟩ : ∃ m, memB a.n sc = m := ⟨_, rfl⟩
          rw [hak] at q0 HBX
          have HBA : Hid (badArg sc a = (decide (ak = 1) && !m)) := Lib.hid (by unfold badArg; rw [hak, hm])
          have HHX := Lib.hid (HHS.out a.n m _ has hm HBX.out)
          have HA1 := Lib.hid hA1
          have HA2 := Lib.hid hA2
          clear haj has hcells hA1 hA2 hak hm
          by_cases h1 : ak = 1
          · subst h1
            cases m
            · have HF : Hid (r = 4) := Lib.hid (by rw [← HR.out]; exact Pr.nodeE_4b HBD.out (HA2.out (by rw [HBA.out]; rfl)))
              go_wp2_with (go_at_call 64; refine HHX.out.mono ?_; rintro e w3 ⟨rfl, hb3⟩; replace hb3 := Lib.hid hb3)
              go_ret
              exact ⟨by rw [HF.out]; rfl, HLow.out _ (HBX.out.trans (hb3.out.mono (by simp; omega)))⟩
            · have HN : Hid ((p.vs.take (j + 1)).any (badArg sc) = false) := Lib.hid (by rw [HA1.out, HBA.out]; rfl)
              go_wp2_with (go_at_call 64; refine HHX.out.mono ?_; rintro e w3 ⟨rfl, hb3⟩; replace hb3 := Lib.hid hb3)
              go_roundw
              case rel => exact ⟨j + 1, by go_num, by omega, HN, Lib.hid (HBX.out.trans (hb3.out.mono (by simp; omega)))⟩
              case measure => simp [intOf]; omega
          · have h1' : (ak == 1) = false := by simpa using h1
            have HN : Hid ((p.vs.take (j + 1)).any (badArg sc) = false) := Lib.hid (by rw [HA1.out, HBA.out]; simp [h1])
            clear h1
            go_wp2_with fail
            go_roundw
            case rel => exact ⟨j + 1, by go_num, by omega, HN, HBX⟩
            case measure => simp [intOf]; omega
        · obtain rfl : j = an1 := by omega
          have HA : Hid (p.vs.any (badArg sc) = false) := Lib.hid (by
            have h := HT.out
            rwa [List.take_of_length_le (by rw [HAL.out]; exact Nat.le_refl _)] at h)
          obtain ⟨hpw, hSw, _, _⟩ := HP.out wo HBj.out
          have HBI := Lib.hid (bound_any S p b o wo hSw hpw)
          clear hpw hSw HT
          go_wp2_with (go_at_call 40; refine HBI.out.mono ?_; rintro e w4 ⟨la, ln, lc, rfl, hsl, hb4⟩; replace hsl := Lib.hid hsl; replace hb4 := Lib.hid hb4)
          obtain ⟨pa', len', c', e', hln, hlm, hlg⟩ := hsl.out.open
          simp only [Value.slice.injEq] at e'
          obtain ⟨rfl, rfl, rfl⟩ := e'
          have HB4 : Hid (Below (w.heap.size + 1) (w.alloc (cell3 pq aq g)) w4) := Lib.hid (HBj.out.trans (hb4.out.mono (by simpa using hzs)))
          have hzs4 : w.heap.size + 1 ≤ w4.heap.size := by have := HB4.out.size; simpa using this
          have HLG : Hid (∀ i s, p.bnd[i]? = some s → s.size ≤ maxLen ∧ ∃ kb ko, la = some ⟨kb, ko, none⟩ ∧ ∀ W, Below w4.heap.size w4 W → W.cell? ⟨kb, ko + i, none⟩ = some (.string s)) := Lib.hid (fun i s hi => by
            obtain ⟨h1, kb, ko, e, hkb, hc⟩ := hlg i s hi
            exact ⟨h1, kb, ko, e, fun W hW => (hW.cell (p := ⟨kb, _, none⟩) hkb.2).trans hc⟩)
          clear hlg hsl hb4
          go_loopw [47] (fun i wr => ∃ (j : Nat), i = .int .i64 (j : Int) ∧ j ≤ ln ∧ Hid ((p.bnd.take j).any (fun s => memB s sc) = false) ∧ Hid (Below w4.heap.size w4 wr)) (fun i _ => ln - (intOf i).toNat)
          case atStart => exact ⟨0, rfl, by omega, Lib.hid (by simp), Lib.hid (Below.refl _ _)⟩
          case round =>
            obtain ⟨m2, rfl, hm2, HT2, HBm⟩ := hrel
            have HBw : Hid (Below (w.heap.size + 1) (w.alloc (cell3 pq aq g)) wr) := Lib.hid (HB4.out.trans (HBm.out.mono hzs4))
            obtain ⟨z0, z1, z2⟩ := CZ.out wr HBw.out
            have hzw : w4.heap.size ≤ wr.heap.size := HBm.out.size
            by_cases hlt2 : m2 < ln
            · obtain ⟨s, hsj⟩ : ∃ s, p.bnd[m2]? = some s := ⟨_, List.getElem?_eq_getElem (by rw [← hln.out]; exact hlt2)⟩
              obtain ⟨hss, gb, go, rfl, hcs⟩ := HLG.out m2 s hsj
              have q0 := hcs wr HBm.out
              obtain ⟨hA1, hA2⟩ := any_take (fun s => memB s sc) hsj HT2.out
              obtain ⟨m, hm⟩ : ∃ m, memB s sc = m := ⟨_, rfl⟩
              simp only [hm] at hA1 hA2
              have HHX := Lib.hid (HHS.out s m _ hss hm HBw.out)
              have HA1 := Lib.hid hA1
              have HA2 := Lib.hid hA2
              clear hsj hss hcs hA1 hA2 hm
              cases m
              · go_wp2_with (go_at_call 64; refine HHX.out.mono ?_; rintro e w3 ⟨rfl, hb3⟩; replace hb3 := Lib.hid hb3)
                go_roundw
                case rel => exact ⟨m2 + 1, by go_num, by omega, HA1, Lib.hid (HBm.out.trans (hb3.out.mono hzw))⟩
                case measure => simp [intOf]; omega
              · have HF : Hid (r = 5) := Lib.hid (by rw [← HR.out]; exact Pr.nodeE_5 HBD.out HA.out (HA2.out rfl))
                go_wp2_with (go_at_call 64; refine HHX.out.mono ?_; rintro e w3 ⟨rfl, hb3⟩; replace hb3 := Lib.hid hb3)
                go_ret
                exact ⟨by rw [HF.out]; rfl, HLow.out _ (HBw.out.trans (hb3.out.mono (by omega)))⟩
            · obtain rfl : m2 = ln := by omega
              have HA3 : Hid (p.bnd.any (fun s => memB s sc) = false) := Lib.hid (by
                have h := HT2.out
                rwa [List.take_of_length_le (by rw [hln.out]; exact Nat.le_refl _)] at h)
              obtain ⟨c0, _⟩ := HC.out wr HBw.out
              obtain ⟨hpw, hSw, _, haw⟩ := HP.out wr HBw.out
              by_cases h8 : p.k = 8
              · have HCE := Lib.hid (callError_any S p b o g ab nn ar wr hSw hpw haw r (by rw [← HR.out]; exact (Pr.nodeE_8 HBD.out HA.out HA3.out h8).symm))
                rw [h8] at c0
                clear hpw hSw haw h8
                go_wp2_with (go_at_call 65; refine HCE.out.mono ?_; rintro e w3 ⟨rfl, hb3⟩; replace hb3 := Lib.hid hb3)
                go_ret
                exact ⟨rfl, HLow.out _ (HBw.out.trans (hb3.out.mono (by omega)))⟩
              · have h8' : (p.k == 8) = false := by simpa using h8
                have HF : Hid (r = 0) := Lib.hid (by rw [← HR.out]; exact Pr.nodeE_0 HBD.out HA.out HA3.out h8)
                clear hpw hSw haw h8
                go_wp2_with fail
                go_ret
                exact ⟨by rw [HF.out]; rfl, HLow.out _ HBw.out⟩
    · have HF : Hid (r = 4) := Lib.hid (by rw [← HR.out]; exact Pr.nodeE_4a HBD.out)
      go_wp2_with fail
      go_ret
      exact ⟨by rw [HF.out]; rfl, HLow.out _ HB1.out⟩

end Go.Proofs.YtmedijheidbmhaaGreatDoor

/- Programs: bodies. -/
namespace Go.Proofs.YtmedijheidbmhaaGreatDoor
open Go.RowKit Go.Deep Go.Shelf

theorem pptrInfo : (Tryz.prog.info? 66).map (fun i => (i.zero, i.size, i.bytes)) = some (some (.pointer none), 1, 8) := by kernel_rfl
theorem news1 (W : World) (x : Value) (t : TypeId) : ∀ (j : Nat) (u : Value), [x][j]? = some u → (W.alloc (.cells #[x] t)).cell? ((⟨W.heap.size, 0, none⟩ : Addr).add j) = some u := by
  intro j u hj
  match j, hj with
  | 0, hj => simp at hj; subst hj; simp [Addr.add]
/-- The address of a definition's Body. -/
def bAd (pa : Option Addr) (i : Nat) : Value := .pointer (pa.map fun a => ⟨a.block, a.off + i * 14 + 2, none⟩)
def bAds (pa : Option Addr) (j : Nat) : List Value := (List.range j).map (bAd pa)
theorem bAds_succ (pa : Option Addr) (j : Nat) : bAds pa (j + 1) = bAds pa j ++ [bAd pa j] := by simp [bAds, List.range_succ]
theorem bAds_length (pa : Option Addr) (j : Nat) : (bAds pa j).length = j := by simp [bAds]
theorem bAds_get (pa : Option Addr) (j i : Nat) (h : i < j) : (bAds pa j)[i]? = some (bAd pa i) := by simp [bAds, h]
/-- The bodies of a program, one pointer each, lie in block r. -/
def BodyRow (S : Nat → Prop) (W : World) (r : Nat) (g : Pg) : Prop := ∀ (i : Nat) (p : Pr), g.bodies[i]? = some p → ∃ kb ko, W.cell? ⟨r, i, none⟩ = some (.pointer (some ⟨kb, ko, none⟩)) ∧ PrAt S W p kb ko

theorem hW_keep (S : Nat → Prop) {w W : World} (hS : Low S w) (h : Below w.heap.size w W) : Keeps S w W := h.keeps'.mono hS

set_option maxHeartbeats 2000000 in
set_option maxRecDepth 100000 in
theorem bodies_any (S : Nat → Prop) (g : Pg) (b o : Nat) (w : World) (hS : Low S w) (hg : PgAt S w g b o) (hn : g.ds.length ≤ 1000000) :
    Calls Tryz.prog 46 #[.pointer (some ⟨b, o, none⟩)] w fun e w' => ∃ r c, e = .returned (.slice (some ⟨r, 0, none⟩) g.bodies.length c) ∧ BodyRow S w' r g ∧ w.heap.size ≤ r ∧ r < w'.heap.size ∧ Below w.heap.size w w' := by
  obtain ⟨hSb, ⟨dv, c0, hd⟩, hm⟩ := hg
  have hbl := hS b hSb
  obtain ⟨pa, len, c, rfl, hlen, hmx, hget⟩ := hd.open
  have hln : len ≤ 1000000 := by have := hlen.out; omega
  obtain ⟨i0, hi, hz0, hz1, hz2⟩ := info_parts pptrInfo
  have HG := Lib.hid hget
  have HM := Lib.hid hm
  clear hget hm hd
  go_enter Tryz.func46, Tryz.ntmps46
  go_wp2_with fail
  go_loopw [3, 10] (fun v i wr => ∃ k : Nat, i = .int .i64 k ∧ k ≤ len ∧ wr.ownsRow w.heap.size 66 1 v k (bAds pa k) ∧ Below w.heap.size w wr) (fun _ i _ => len - (intOf i).toNat)
  case atStart => exact ⟨0, rfl, by omega, World.ownsRow_nil _ _ _ _, Below.refl _ _⟩
  case round =>
    obtain ⟨k, rfl, hk, hrow, hB⟩ := hrel
    have c1 := (hB.cell (p := ⟨b, o, none⟩) hbl).trans c0
    by_cases hlt : k < len
    · obtain ⟨d, hdk⟩ : ∃ d, g.ds[k]? = some d := ⟨_, List.getElem?_eq_getElem (by rw [← hlen.out]; exact hlt)⟩
      obtain ⟨kb, ko, rfl, hkb, hda⟩ := HG.out k d hdk
      have hsz := hB.size
      have hs3 : bAds (some ⟨kb, ko, none⟩) (k + 1) = bAds (some ⟨kb, ko, none⟩) k ++ [.pointer (some ⟨kb, ko + k * 14 + 2, none⟩)] := bAds_succ _ _
      have HS := Lib.hid hs3
      clear hdk hda hs3
      go_wp2_with (at_builtin; refine wpList_append_own _ rfl _ _ 83 rfl w.heap.size 66 i0 (.pointer none) 1 8 Tryz.underlying83 hi hz0 hz1 hz2 rfl (by decide) _ _ _ rfl (hrow.alloc _) ⟨wr.heap.size, 0, none⟩ 1 1 [.pointer (some ⟨kb, ko + k * 14 + 2, none⟩)] rfl rfl (news1 wr _ _) (fun u hu => by simp at hu; subst hu; rfl) (by unfold maxLen; omega) (by omega) (by simp; omega) ?_; intro v' w1 hown' hgrow _)
      have hbw : Below w.heap.size wr w1 := ((Below.refl w.heap.size wr).alloc hsz (.cells #[.pointer (some ⟨kb, ko + k * 14 + 2, none⟩)] 66)).grown hgrow (by simp; omega) (fun j ej => (hrow.lt j ej).1)
      have HW := Lib.hid hbw
      clear hgrow hbw
      go_wp2_with fail
      go_roundw
      case rel => exact ⟨k + 1, by go_num, by omega, by rw [HS.out]; exact hown', hB.trans HW.out⟩
      case measure => simp [intOf]; omega
    · obtain rfl : k = len := by omega
      have hsz := hB.size
      go_wp2_with (at_builtin; refine wpList_append_own _ rfl _ _ 83 rfl w.heap.size 66 i0 (.pointer none) 1 8 Tryz.underlying83 hi hz0 hz1 hz2 rfl (by decide) _ _ _ rfl (hrow.alloc _) ⟨wr.heap.size, 0, none⟩ 1 1 [.pointer (some ⟨b, o + 1, none⟩)] rfl rfl (news1 wr _ _) (fun u hu => by simp at hu; subst hu; rfl) (by unfold maxLen; omega) (by omega) (by simp; omega) ?_; intro v' w1 hown' hgrow _)
      have hbw : Below w.heap.size wr w1 := ((Below.refl w.heap.size wr).alloc hsz (.cells #[.pointer (some ⟨b, o + 1, none⟩)] 66)).grown hgrow (by simp; omega) (fun j ej => (hrow.lt j ej).1)
      have HW := Lib.hid (hB.trans hbw)
      have HO := Lib.hid hown'
      clear hgrow hbw hown'
      go_wp2_with fail
      go_ret
      have hown := HO.out
      rcases hown.2 with ⟨rfl, h0⟩ | ⟨r, cap, cur, rfl, hrb, hrest⟩
      · omega
      have hbn : g.bodies.length = k + 1 := by unfold Pg.bodies; simp; exact hlen.out.symm
      refine ⟨r, cap, by rw [hbn]; rfl, fun i p hp => ?_, hrb, (hown.lt r rfl).2, HW.out⟩
      have hki := hW_keep S hS HW.out
      have hil := (List.getElem?_eq_some_iff.1 hp).1
      rw [hbn] at hil
      have hc := hown.cellAt i (by omega)
      unfold Pg.bodies at hp
      rcases Nat.lt_or_ge i k with hik | hik
      · have hds : i < g.ds.length := by rw [← hlen.out]; exact hik
        rw [List.getElem?_append_left (by simpa using hds), List.getElem?_map] at hp
        obtain ⟨d, hd⟩ : ∃ d, g.ds[i]? = some d := ⟨_, List.getElem?_eq_getElem hds⟩
        rw [hd] at hp
        simp only [Option.map_some, Option.some.injEq] at hp
        subst hp
        obtain ⟨kb, ko, rfl, hkb, hda⟩ := HG.out i d hd
        refine ⟨kb, ko + i * 14 + 2, ?_, PrAt.keep hki _ _ _ hda.2.2.2⟩
        rw [hc, List.getElem?_append_left (by rw [bAds_length]; exact hik), bAds_get _ _ _ hik]
        rfl
      · obtain rfl : i = k := by omega
        have hme : g.m = p := by
          rw [List.getElem?_append_right (by simp; have := hlen.out; omega)] at hp
          simpa [← hlen.out] using hp
        subst hme
        refine ⟨b, o + 1, ?_, PrAt.keep hki _ _ _ HM.out⟩
        rw [hc, List.getElem?_append_right (by rw [bAds_length]; exact Nat.le_refl _), bAds_length, Nat.sub_self]
        rfl

end Go.Proofs.YtmedijheidbmhaaGreatDoor

/- A range over a function whose rounds keep all that is no cells from the iterator's start on: the iterator may itself range over functions. -/
namespace Go.Proofs.YtmedijheidbmhaaGreatDoor
open Go.RowKit

theorem AbidesAll.below {β : Type} {B : Nat} {J : β → World → Prop} (h : AbidesAll B J) {s : β} {W W' : World} (hs : J s W) (hb : Below W.heap.size W W') : J s W' :=
  h s W W' none hs ⟨hb.os, hb.tape, hb.output, hb.size, fun k hk _ => hb.block k hk⟩ (fun r e => by cases e)
theorem AbidesAll.drew {β : Type} {B : Nat} {J : β → World → Prop} (h : AbidesAll B J) {s : β} {W : World} (hs : J s W) : J s W.drew := h.below hs (Below.refl _ _).drew
theorem _root_.Go.KeepsFrom.le {B B' : Nat} {A C : World} (h : KeepsFrom B A C) (hB : B ≤ B') : KeepsFrom B' A C := ⟨h.size, fun k o hk hc hx => h.same k o (Nat.le_trans hB hk) hc hx⟩
theorem _root_.Go.KeepsFrom.put {B l : Nat} {W : World} (hl : l < B) (o : Obj) : KeepsFrom B W (W.putObj l o) := ⟨by simp, fun k o' hk hx _ => (World.putObj_heap_other (by omega)).trans hx⟩

/-- What an iterator does, where each round keeps all that is no cells from the iterator's start on. -/
def Tells2 {α : Type} (F : Fence) (n : Nat) (P : Program) (g : Nat) (lb : Array Value) (encs : α → Array Value) (Px : α → World → Prop) (Kp : World → World → Prop) (S Sp : List α → Prop) (w : World) : Prop :=
  ∀ (l : Nat) (J Jx : List α → World → Prop) (W : World), Below w.heap.size w W → AbidesAll W.heap.size J → AbidesAll W.heap.size Jx →
    (∀ pre x W1, J pre W1 → Px x W1 → YieldAt F (n - 1) P l (encs x) W1 fun e W' =>
      ((e = .returned (.bool true) ∧ J (pre ++ [x]) W' ∧ Kp W1 W') ∨ (e = .returned (.bool false) ∧ Jx (pre ++ [x]) W')) ∧ KeepsFrom W.heap.size W1 W') →
    J [] W →
    CallsIn F n P g (#[.func (.yield l) #[] #[]] ++ lb) W fun e W' => (∃ v, e = .returned v) ∧ ((∃ xs, S xs ∧ J xs W') ∨ (∃ pre, Sp pre ∧ Jx pre W'))

variable {F : Fence} {n : Nat} {P : Program}

theorem wpIn_range_told2 {α : Type} {g : Operand} {ps : Array Tmp} {assign body : Code} {Q : Exit → Act → World → Prop} {a : Act} {w : World}
    (hro : F.round = none) (h1 : 1 ≤ n) {gf : Nat} {lb : Array Value} (hg : a.eval g = .func (.func gf) #[] lb) (hFg : F.fn gf) (eg : ∀ args w, (callFunc gf args).run P w = .ok (.enter gf args) w)
    {encs : α → Array Value} {Px : α → World → Prop} {Kp : World → World → Prop} {S Sp : List α → Prop} {w0 : World} (hseq : Tells2 F (n - 1) P gf lb encs Px Kp S Sp w0)
    (hKt : ∀ {A B C : World}, Kp A B → Kp B C → Kp A C) (hKb : ∀ (W : World) (l : Nat) (o o' : Obj), w.heap.size ≤ l → W.heap[l]? = some o → o.isCells = false → o.isWalk = false → Kp W (W.putObj l o'))
    (hPx : ∀ x A B, CellsKept A B → Px x A → Px x B) (hb0 : Below w0.heap.size w0 w) (hps : ∀ x, (encs x).size = ps.size)
    (I : List α → World → Prop) (Ix : Code → List α → World → Prop) (hI : AbidesAll w.heap.size I) (hIx : ∀ c, AbidesAll w.heap.size (Ix c)) (h0 : I [] w) (Ax : α → Act → World → Prop) (hAx : ∀ x a' A B, CellsKept A B → Ax x a' A → Ax x a' B)
    (hassign : ∀ (l : Nat) (pre : List α) (x : α) (W : World) (K : Act → World → Prop), I pre W → Px x W → (∀ a' W', KeepsFrom w.heap.size W W' → Kp W W' → I pre W' → Px x W' → Ax x a' W' → K a' W') →
      assign.wpIn (F.inRound l) (n - 1 - 1) P (Exit.then K (fun _ _ _ => False)) { tmps := (ps.zip (encs x)).foldl (fun t (p, v) => t.setIfInBounds p v) a.tmps, defers := [] } W)
    (hbody : ∀ (l : Nat) (pre : List α) (x : α) (a' : Act) (W : World), w.heap.size ≤ l → (∃ r, W.heap[l]? = some (.loop r)) → I pre W → Px x W → Ax x a' W → body.wpIn (F.inRound l) (n - 1 - 1) P (ownPostG w.heap.size Kp I Ix (pre ++ [x]) W) a' W)
    (hdone : ∀ (D : Nat) (xs : List α) (W : World), w.heap.size ≤ D → S xs → I xs W → W.heap[D]? = some (.deferred (some [])) → Q .normal { a with defers := { target := .collected D, args := #[] } :: a.defers } W)
    (hstop : ∀ (D : Nat) (c : Code) (pre : List α) (W : World), w.heap.size ≤ D → Sp pre → Ix c pre W → W.heap[D]? = some (.deferred (some [])) → c.wpIn F n P Q { a with defers := { target := .collected D, args := #[] } :: a.defers } W) :
    (Code.rangeFunc g ps assign body).wpIn F n P Q a w := by
  refine wpIn_rangeFunc ?_
  intro fn hfn
  rw [hro]
  generalize hL : w.heap.size + 1 = L
  have hLw : w.heap.size < L := by omega
  let rec_ (st : LoopState) (pe : Option Code) : Loop := { state := st, pending := pe, fn, tmps := a.tmps, params := ps, assign, body, defers := w.heap.size }
  obtain ⟨W1, hW1⟩ : ∃ W1, (w.alloc (.deferred (some []))).alloc (.loop (rec_ .ready none)) = W1 := ⟨_, rfl⟩
  have hs1 : W1.heap.size = L + 1 := by rw [← hW1]; simp; omega
  have hL1 : W1.heap[L]? = some (.loop (rec_ .ready none)) := by
    have h := World.alloc_heap_new (w.alloc (.deferred (some []))) (.loop (rec_ .ready none))
    rw [World.size_alloc, hL, hW1] at h; exact h
  have hK1 : W1.heap[w.heap.size]? = some (.deferred (some [])) := by
    rw [← hW1]; exact (Below.heap_alloc _ _ _ (by simp)).trans (World.alloc_heap_new w _)
  have hI1 : I [] W1 := by rw [← hW1]; exact hI.alloc _ (hI.alloc _ h0)
  have hb1 : Below w0.heap.size w0 W1 := by
    rw [← hW1]; exact hb0.trans ((((Below.refl _ w).alloc (Nat.le_refl _) _).alloc (by simp) _).mono hb0.size)
  refine ⟨L, [{ target := .collected w.heap.size, args := #[] }], W1, { target := .fn (.func gf) lb, args := #[.func (.yield L) #[] #[]] }, W1, gf, #[.func (.yield L) #[] #[]] ++ lb, W1, ?_, ?_, ?_, ?_, fun _ => h1, ?_⟩
  · rw [← hW1, ← hL]; exact run_enterLoop_outer _ _ _ _ _
  · simp only [resolve, hg]
    simp [go_sem]
  · intro f' hf'; simp [Target.leads] at hf'; subst hf'; exact hFg
  · simp [invoke, go_sem, eg]
  refine (hseq L (fun pre W => I pre W ∧ W.heap[L]? = some (.loop (rec_ .ready none)) ∧ W.heap[w.heap.size]? = some (.deferred (some [])))
    (fun pre W => ∃ c, Ix c pre W ∧ W.heap[L]? = some (.loop (rec_ .done (some c))) ∧ W.heap[w.heap.size]? = some (.deferred (some []))) W1 hb1
    ((hI.mono (by omega)).and ((abidesAll_block (by omega)).and (abidesAll_block (by omega)))) ?_ ?_ ⟨hI1, hL1, hK1⟩).mono ?_
  · rintro s A B row ⟨c, hc⟩ hg' hr
    exact ⟨c, ((hIx c).mono (by omega)).and ((abidesAll_block (by omega)).and (abidesAll_block (by omega))) s A B row hc hg' hr⟩
  · -- one round
    rintro pre x W ⟨hi, hl, hk⟩ hpx
    have hy := run_yield (P := P) (args := encs x) hl (hps x)
    refine ⟨fn, _, assign, body, hy, roundIn_of_wpIn hfn (hassign _ pre x W _ hi hpx ?_)⟩
    clear hy
    intro a' V hkf hkp hiV hpV hax
    have hlV := hkf.same _ _ (by omega) hl rfl
    have hkV := hkf.same _ _ (Nat.le_refl _) hk rfl
    refine ⟨_, run_beginRound hlV rfl, ?_⟩
    have hl2 : (V.putObj L (.loop (rec_ .busy none))).heap[L]? = some (.loop (rec_ .busy none)) := World.putObj_heap_same (Array.getElem?_eq_some_iff.1 hlV).1
    have hk2 : (V.putObj L (.loop (rec_ .busy none))).heap[w.heap.size]? = some (.deferred (some [])) := (World.putObj_heap_other (by omega)).trans hkV
    have hp2 : Kp V (V.putObj L (.loop (rec_ .busy none))) := hKb _ _ _ _ (by omega) hlV rfl rfl
    refine wpIn_mono (hbody _ pre x a' _ (by omega) ⟨_, hl2⟩ (hI.put _ hiV (by omega)) (hPx x _ _ (cellsKept_put hlV rfl) hpV) (hAx x a' _ _ (cellsKept_put hlV rfl) hax)) ?_
    have fin : ∀ (jump : Option Code) (X : World), KeepsFrom w.heap.size (V.putObj L (.loop (rec_ .busy none))) X →
        (Instr.endRound L jump).run P X = .ok (.bool jump.isNone) (X.putObj L (.loop (rec_ (if jump.isNone then .ready else .done) jump))) ∧ X.heap[L]? = some (.loop (rec_ .busy none)) ∧
        (X.putObj L (.loop (rec_ (if jump.isNone then .ready else .done) jump))).heap[L]? = some (.loop (rec_ (if jump.isNone then .ready else .done) jump)) ∧
        (X.putObj L (.loop (rec_ (if jump.isNone then .ready else .done) jump))).heap[w.heap.size]? = some (.deferred (some [])) := fun jump X hX => by
      have h3 := hX.same _ _ (by omega) hl2 rfl
      exact ⟨run_endRound (P := P) jump h3, h3, World.putObj_heap_same (Array.getElem?_eq_some_iff.1 h3).1, (World.putObj_heap_other (by omega)).trans (hX.same _ _ (Nat.le_refl _) hk2 rfl)⟩
    have all : ∀ (o : Obj) (X : World), KeepsFrom w.heap.size (V.putObj L (.loop (rec_ .busy none))) X → KeepsFrom W1.heap.size W (X.putObj L o) := fun o X hX =>
      ((hkf.le (by omega)).trans (Go.KeepsFrom.put (by omega) _)).trans ((hX.le (by omega)).trans (Go.KeepsFrom.put (by omega) _))
    rintro e a3 X hp
    cases e with
    | normal =>
      obtain ⟨hX, hkp3, hi3⟩ := hp
      obtain ⟨hr, hl3, hl4, hk4⟩ := fin none X hX
      exact ⟨_, _, hr, .inl ⟨rfl, ⟨hI.put _ hi3 (by omega), hl4, hk4⟩, hKt hkp (hKt (hKt hp2 hkp3) (hKb _ _ _ _ (by omega) hl3 rfl rfl))⟩, all _ X hX⟩
    | ret =>
      obtain ⟨hX, hi3⟩ := hp
      obtain ⟨hr, hl3, hl4, hk4⟩ := fin (some .ret) X hX
      exact ⟨_, _, hr, .inr ⟨rfl, .ret, (hIx _).put _ hi3 (by omega), hl4, hk4⟩, all _ X hX⟩
    | exit id =>
      obtain ⟨hX, hi3⟩ := hp
      obtain ⟨hr, hl3, hl4, hk4⟩ := fin (some (.exit id)) X hX
      exact ⟨_, _, hr, .inr ⟨rfl, .exit id, (hIx _).put _ hi3 (by omega), hl4, hk4⟩, all _ X hX⟩
    | goto t =>
      obtain ⟨hX, hi3⟩ := hp
      obtain ⟨hr, hl3, hl4, hk4⟩ := fin (some (.goto t)) X hX
      exact ⟨_, _, hr, .inr ⟨rfl, .goto t, (hIx _).put _ hi3 (by omega), hl4, hk4⟩, all _ X hX⟩
    | panic ch => exact hp.elim
    | outgrown => exact hp.elim
  · -- behind the iterator
    rintro e W2 ⟨⟨v, rfl⟩, (⟨xs, hS, hi, hl, hk⟩ | ⟨pre, hSp, c, hi, hl, hk⟩)⟩
    · exact ⟨none, _, run_endLoop (P := P) hl (by simp [rec_]), hdone _ xs _ (Nat.le_refl _) hS (hI.put _ hi (by omega)) ((World.putObj_heap_other (by omega)).trans hk)⟩
    · exact ⟨some c, _, run_endLoop (P := P) hl (by simp [rec_]), hstop _ c pre _ (Nat.le_refl _) hSp ((hIx c).put _ hi (by omega)) ((World.putObj_heap_other (by omega)).trans hk)⟩

end Go.Proofs.YtmedijheidbmhaaGreatDoor

/- Programs: counts. -/
namespace Go.Proofs.YtmedijheidbmhaaGreatDoor
open Go.RowKit Go.Deep Go.Shelf
attribute [local go_sem] Oper.semAt_some

set_option maxHeartbeats 1000000 in
theorem counts_any (a : Option Addr) (w : World) :
    Calls Tryz.prog 56 #[.pointer a] w fun e w' => e = .returned (.func (.func 72) #[] #[.pointer (some ⟨w.heap.size, 0, none⟩)]) ∧ w' = w.alloc (.cells #[.pointer a] 82) := by
  go_enter Tryz.func56, Tryz.ntmps56
  go_wp2
  go_ret
  exact ⟨rfl, rfl⟩

/-- The marks of the loops that have ended. -/
def marks (Ds : List Nat) : List Deferred := Ds.map fun D => { target := .collected D, args := #[] }
def Marked (lo : Nat) (Ds : List Nat) (W : World) : Prop := Ds.Nodup ∧ ∀ D ∈ Ds, lo ≤ D ∧ W.heap[D]? = some (.deferred (some []))
theorem Marked.nil (lo : Nat) (W : World) : Marked lo [] W := ⟨List.nodup_nil, fun D h => by cases h⟩
theorem Marked.keeps {lo : Nat} {Ds : List Nat} {A B : World} (h : Marked lo Ds A) (hk : KeepsFrom lo A B) : Marked lo Ds B := ⟨h.1, fun D hD => ⟨(h.2 D hD).1, hk.same D _ (h.2 D hD).1 (h.2 D hD).2 rfl⟩⟩
theorem Marked.cons {lo D : Nat} {Ds : List Nat} {W : World} (h : Marked lo Ds W) (hne : D ∉ Ds) (hlo : lo ≤ D) (hD : W.heap[D]? = some (.deferred (some []))) : Marked lo (D :: Ds) W :=
  ⟨List.nodup_cons.2 ⟨hne, h.1⟩, fun E hE => by
    rcases List.mem_cons.1 hE with rfl | hE
    · exact ⟨hlo, hD⟩
    · exact h.2 E hE⟩
theorem leaves_marked {F : Fence} {n lo : Nat} {P : Program} {fn : Func} {tmps : Array Value} {R : Ending → World → Prop} {J : World → Prop} (hJ : ∀ (W : World) (D : Nat) (o : Obj), J W → lo ≤ D → J (W.putObj D o)) (hR : ∀ W, J W → LeavesIn F n P fn tmps R [] .returning W) :
    ∀ (Ds : List Nat) (W : World), J W → Marked lo Ds W → LeavesInM F n P fn tmps R (marks Ds) .returning W
  | [], W, hj, _ => hR W hj
  | D :: Ds, W, hj, hm => by
    have hD := hm.2 D (by simp)
    refine ⟨by simp, .inl ⟨_, _, rfl, run_takeDeferred hD.2, ?_⟩⟩
    refine leaves_marked hJ hR Ds _ (hJ _ _ _ hj hD.1) ⟨(List.nodup_cons.1 hm.1).2, fun E hE => ⟨(hm.2 E (by simp [hE])).1, ?_⟩⟩
    have hne : E ≠ D := fun e => (List.nodup_cons.1 hm.1).1 (e ▸ hE)
    exact (World.putObj_heap_other hne).trans (hm.2 E (by simp [hE])).2

/-- The same, and no panic. -/
def noP (Q : Exit → Act → World → Prop) : Exit → Act → World → Prop
  | .panic _, _, _ => False
  | e, a, w => Q e a w
theorem noP_imp {Q : Exit → Act → World → Prop} : ∀ e a w, noP Q e a w → Q e a w := fun e a w h => by
  cases e <;> first | exact h | exact h.elim
abbrev cnArgs (x : Nat) : Array Value := #[.int .i64 (x : Int)]
/-- What a round of the caller of counts does. -/
def CnY (l : Nat) (lo : Nat) (X : Nat → Prop) (J Jx : List Nat → World → Prop) : Prop :=
  ∀ m pre x W1, x ≤ 1000 → J pre W1 → YieldAt Fence.wide m Tryz.prog l (cnArgs x) W1 fun e W' => ∃ r, e = .returned (.bool r) ∧ ((r = true ∧ J (pre ++ [x]) W' ∧ Kp X W1 W') ∨ (r = false ∧ Jx (pre ++ [x]) W')) ∧ KeepsFrom lo W1 W'
theorem grown_box {X : Nat → Prop} (W : World) (o : Obj) : Kp X W (W.alloc o) := KV.of_cells (by simp) (cellsKept_alloc W o)

theorem abides_of {α β : Type} {B B' : Nat} {J : β → World → Prop} (h : AbidesAll B J) (hB : B ≤ B') (f : α → β) : AbidesAll B' (fun s W => J (f s) W) := fun s A C row hs hg hr => h (f s) A C row hs hg (fun r e => Nat.le_trans hB (hr r e))
theorem abides_kp {β : Type} (X : Nat → Prop) (A : World) : AbidesAll A.heap.size (fun (_ : β) W => Kp X A W) := fun _ W C row hs hg hr => ⟨Nat.le_trans hs.size hg.size, fun k o hk hc hx ha => by
  have hW := hs.keep k o hk hc hx ha
  exact (hg.block k (Array.getElem?_eq_some_iff.1 hW).1 (fun e => by have := hr k e.symm; have := (Array.getElem?_eq_some_iff.1 hk).1; omega)).trans hW⟩
theorem abides_from {β : Type} (lo : Nat) (A : World) : AbidesAll A.heap.size (fun (_ : β) W => KeepsFrom lo A W) := fun _ W C row hs hg hr => ⟨Nat.le_trans hs.size hg.size, fun k o hlo hk hc => by
  have hW := hs.same k o hlo hk hc
  exact (hg.block k (Array.getElem?_eq_some_iff.1 hW).1 (fun e => by have := hr k e.symm; have := (Array.getElem?_eq_some_iff.1 hk).1; omega)).trans hW⟩
theorem addsL_snoc (l : List Np) (x : Np) : addsL ((l ++ [x]).map Np.g) = addsL (l.map Np.g) ++ [x.p.adds] := by simp [addsL, Np.g]
theorem addsL_prefix {l r : List (Nat × Pr)} (h : l <+: r) : addsL l <+: addsL r := by
  obtain ⟨s, rfl⟩ := h
  unfold addsL; rw [List.map_append]; exact List.prefix_append _ _

set_option maxRecDepth 100000 in
set_option maxHeartbeats 8000000 in
/-- The iterator that counts returns tells the numbers that make up the size of a program. -/
theorem counts_tells (n : Nat) (hn : 1 ≤ n) (Bt b o : Nat) (g : Pg) (S X : Nat → Prop) (w : World) (hX : ∀ k, X k → ¬ S k ∧ k ≠ Bt ∧ k < w.heap.size) (hS : Low S w) (hBt : Bt < w.heap.size) (hc : w.cell? ⟨Bt, 0, none⟩ = some (.pointer (some ⟨b, o, none⟩))) (hg : PgAt S w g b o) (hgood : GGood g) :
    Tells2 Fence.wide n Tryz.prog 72 #[.pointer (some ⟨Bt, 0, none⟩)] cnArgs (fun x _ => x ≤ 1000) (Kp X) (fun ys => ys = g.cnts) (fun pre => pre <+: g.cnts) w := by
  intro l J Jx W hW hJ hJx hY h0
  have HY : Hid (CnY l W.heap.size X J Jx) := Lib.hid (fun m pre x W1 hx hj => (yield_any rfl m (hY pre x W1 hj hx)).mono fun e W' h => by
    rcases h with ⟨⟨h1, h2, h3⟩ | ⟨h1, h2⟩, hk⟩
    · exact ⟨true, h1, .inl ⟨rfl, h2, h3⟩, hk⟩
    · exact ⟨false, h1, .inr ⟨rfl, h2⟩, hk⟩)
  clear hY
  have hWs := hW.size
  have hc' : W.cell? ⟨Bt, 0, none⟩ = some (.pointer (some ⟨b, o, none⟩)) := (hW.cell (p := ⟨Bt, 0, none⟩) hBt).trans hc
  have hgW := hg.keep (hW.keeps'.mono hS)
  obtain ⟨hSb, ⟨dv, e0, hd⟩, hm⟩ := hgW
  obtain ⟨pa, len, c, rfl, hlen, hmx, hget⟩ := hd.open
  have hbl := hS b hSb
  have HJ := Lib.hid hJ
  have HJX := Lib.hid hJx
  have hkb := grown_box (X := X) W (.cells #[.func (.yield l) #[] #[]] 107)
  have HJ1 := Lib.hid (hJ.alloc (.cells #[.func (.yield l) #[] #[]] 107) h0)
  have y0 : (W.alloc (.cells #[.func (.yield l) #[] #[]] 107)).cell? ⟨W.heap.size, 0, none⟩ = some (.func (.yield l) #[] #[]) := blk_cell (Below.refl _ _) 0 rfl
  have hs1 : (W.alloc (.cells #[.func (.yield l) #[] #[]] 107)).heap.size = W.heap.size + 1 := by simp
  obtain ⟨W1, hW1⟩ : ∃ W1, W.alloc (.cells #[.func (.yield l) #[] #[]] 107) = W1 := ⟨_, rfl⟩
  rw [hW1] at hkb HJ1 y0 hs1
  -- what holds in every world that keeps the cells of W1
  have hSX : ∀ {A : World}, Kp X W1 A → Keeps S W1 A := fun h => h.keeps (fun k hk => ⟨fun hx => (hX k hx).1 hk, by simp [Value.ownBlock]⟩)
  have hS1 : Keeps S W W1 := hkb.keeps (fun k hk => ⟨fun hx => (hX k hx).1 hk, by simp [Value.ownBlock]⟩)
  have HD : Hid (∀ (j : Nat) (d : Df), g.ds[j]? = some d → ∃ kb ko, pa = some ⟨kb, ko, none⟩ ∧ S kb ∧ kb < w.heap.size ∧ (∀ A, Kp X W1 A → DfAt S A d kb (ko + j * 14)) ∧ (∀ a ∈ d.ms, a.t.size ≤ 300 ∧ a.t.depth ≤ 150)) := Lib.hid (fun j d hj => by
    obtain ⟨kb, ko, e, hkb, hda⟩ := hget j d hj
    exact ⟨kb, ko, e, hkb, hS kb hkb, fun A hA => (hda.keep hS1 hkb).keep (hSX hA) hkb, fun a ha => hgood.pm (List.mem_of_getElem? hj) ha⟩)
  have hgW1 : PgAt S W1 g b o := (hg.keep (hW.keeps'.mono hS)).keep hS1
  have e0' : W1.cell? ⟨b, o, none⟩ = some (.slice pa len c) := hS1.cell hSb e0
  have HG : Hid (∀ A, Kp X W1 A → PgAt S A g b o ∧ A.cell? ⟨b, o, none⟩ = some (.slice pa len c)) := Lib.hid (fun A hA => ⟨hgW1.keep (hSX hA), (hSX hA).cell hSb e0'⟩)
  have HC : Hid (∀ A, Kp X W1 A → A.cell? ⟨Bt, 0, none⟩ = some (.pointer (some ⟨b, o, none⟩)) ∧ A.cell? ⟨W.heap.size, 0, none⟩ = some (.func (.yield l) #[] #[])) := Lib.hid (fun A hA => by
    have h1 : Keeps (fun k => k = Bt) W A := (hkb.trans hA).keeps (fun k hk => ⟨fun hx => (hX k hx).2.1 hk, by simp [Value.ownBlock]⟩)
    have h2 : Keeps (fun k => k = W.heap.size) W1 A := hA.keeps (fun k hk => ⟨fun hx => by have := (hX k hx).2.2; omega, by simp [Value.ownBlock]⟩)
    exact ⟨h1.cell rfl hc', h2.cell rfl y0⟩)
  have HGood := Lib.hid hgood
  have HKS : Hid (∀ A B : World, Kp X A B → Keeps S A B) := Lib.hid (fun A B h => h.keeps (fun k hk => ⟨fun hx => (hX k hx).1 hk, by simp [Value.ownBlock]⟩))
  have HSL : Hid (∀ k, S k → k < w.heap.size) := Lib.hid hS
  have HX := Lib.hid hX
  clear hget hd hm hgW1 hJ hJx h0 hg hgood hc hX hS hS1 hSX hkb y0 hW hBt e0 e0' hc'
  obtain ⟨b0, b1⟩ := HC.out W1 (KV.refl _ _ _)
  have b2 := (HG.out W1 (KV.refl _ _ _)).2
  refine callsIn_of_wp_marks Tryz.func72 rfl trivial (wpIn_mono (Q := noP _) ?_ noP_imp) rfl
  simp only [Tryz.ntmps72, List.size_toArray, List.length_cons, List.length_nil, Nat.reduceAdd, Nat.reduceSub, Array.replicate_succ, Array.replicate_zero, List.push_toArray, List.append_toArray, List.nil_append, List.cons_append]
  gi_wp2_with fail
  clear b0 b1 b2 hW1
  gi_loopw [16] (fun i wr => ∃ (j : Nat), i = .int .i64 (j : Int) ∧ j ≤ len ∧ Hid (J (paramCnts (g.ds.take j)) wr) ∧ Hid (Kp X W1 wr) ∧ Hid (KeepsFrom W.heap.size W1 wr)) (fun i _ => len - (intOf i).toNat)
  case atStart => exact ⟨0, rfl, by omega, Lib.hid (by simpa [paramCnts] using HJ1.out), Lib.hid (KV.refl _ _ _), Lib.hid (KeepsFrom.refl _ _)⟩
  case round =>
    obtain ⟨j, rfl, hj, HJJ, HKV, HKF⟩ := hrel
    obtain ⟨wo, hwo⟩ : ∃ wo, wo = wr := ⟨_, rfl⟩
    subst hwo
    obtain ⟨b0, b1⟩ := HC.out wo HKV.out
    by_cases hlt : j < len
    · obtain ⟨d, hdj⟩ : ∃ d, g.ds[j]? = some d := ⟨_, List.getElem?_eq_getElem (by rw [← hlen.out]; exact hlt)⟩
      obtain ⟨kb, ko, rfl, hkS, hkw, hda, hpm⟩ := HD.out j d hdj
      obtain ⟨ma, mn, mc, la', ln', lc', aa', an', ac', ta', tn', tc', ua', un', uc', ka', kn', kc', ⟨d0, d1, d2, d3, d4, d5, d6, d7, d8, d9, d10, d11, d12, d13⟩, hms, hval⟩ := (hda wo HKV.out).load'
      obtain ⟨_, _, _, hpe, hmlen, hmmx, hmget⟩ := hms.open
      simp only [Value.slice.injEq] at hpe
      obtain ⟨rfl, rfl, rfl⟩ := hpe
      have hk2 := grown_box (X := X) wo (.cells #[.string d.n, .slice ma mn mc, .int .i64 d.b.k, .string d.b.c, .string d.b.x, .slice la' ln' lc', .slice aa' an' ac', .int .i64 d.b.t.k, .int .i64 d.b.t.p, .string d.b.t.n, .int .i64 d.b.t.s, .slice ta' tn' tc', .slice ua' un' uc', .slice ka' kn' kc'] 45)
      gi_wp2_with fail
      have hwr : W.heap.size + 1 ≤ wo.heap.size := by have := HKV.out.size; omega
      have HPM : Hid (∀ (k : Nat) (a : Pm), d.ms[k]? = some a → ∃ pb po, ma = some ⟨pb, po, none⟩ ∧ S pb ∧ pb < w.heap.size ∧ (∀ A, Kp X wo A → PmAt S A a pb (po + k * 7)) ∧ a.t.size ≤ 300 ∧ a.t.depth ≤ 150) := Lib.hid (fun k a hk => by
        obtain ⟨pb, po, e, hpb, hpa⟩ := hmget k a hk
        have := hpm a (List.mem_of_getElem? hk)
        exact ⟨pb, po, e, hpb, HSL.out pb hpb, fun A hA => hpa.keep (HKS.out wo A hA) hpb, this.1, this.2⟩)
      have HML := Lib.hid hmlen.out
      have HPJ : Hid (paramCnts (g.ds.take (j + 1)) = paramCnts (g.ds.take j) ++ d.pms) := Lib.hid (flatMap_take Df.pms hdj)
      have HPX : Hid (paramCnts (g.ds.take j) ++ d.pms <+: g.cnts) := Lib.hid (by
        rw [← HPJ.out]; exact (flatMap_prefix g.ds (j + 1) Df.pms).trans (List.prefix_append _ _))
      have HK2 := Lib.hid hk2
      have HJ2 := Lib.hid (HJ.out.alloc (.cells #[.string d.n, .slice ma mn mc, .int .i64 d.b.k, .string d.b.c, .string d.b.x, .slice la' ln' lc', .slice aa' an' ac', .int .i64 d.b.t.k, .int .i64 d.b.t.p, .string d.b.t.n, .int .i64 d.b.t.s, .slice ta' tn' tc', .slice ua' un' uc', .slice ka' kn' kc'] 45) HJJ.out)
      have HKF2 : Hid (KeepsFrom W.heap.size wo (wo.alloc (.cells #[.string d.n, .slice ma mn mc, .int .i64 d.b.k, .string d.b.c, .string d.b.x, .slice la' ln' lc', .slice aa' an' ac', .int .i64 d.b.t.k, .int .i64 d.b.t.p, .string d.b.t.n, .int .i64 d.b.t.s, .slice ta' tn' tc', .slice ua' un' uc', .slice ka' kn' kc'] 45))) := Lib.hid ((KeepsOthers.alloc _ _).from _)
      clear d0 d1 d2 d3 d4 d5 d6 d7 d8 d9 d10 d11 d12 d13 hms hval hmget hmlen hdj hda hpm hk2 b0 b1
      gi_loopw [23] (fun i wr => ∃ (k : Nat), i = .int .i64 (k : Int) ∧ k ≤ mn ∧ Hid (J (paramCnts (g.ds.take j) ++ d.pms.take k) wr) ∧ Hid (Kp X wo wr) ∧ Hid (KeepsFrom W.heap.size wo wr)) (fun i _ => mn - (intOf i).toNat)
      case atStart => exact ⟨0, rfl, by omega, Lib.hid (by simpa using HJ2.out), HK2, HKF2⟩
      case round =>
        obtain ⟨k, rfl, hk, HJ3, HK3, HKF3⟩ := hrel
        by_cases hlt2 : k < mn
        · obtain ⟨a, hak⟩ : ∃ a, d.ms[k]? = some a := ⟨_, List.getElem?_eq_getElem (by rw [← HML.out]; exact hlt2)⟩
          obtain ⟨pb, po, rfl, hpbS, hpbw, hpa, has, had⟩ := HPM.out k a hak
          obtain ⟨la3, ln3, lc3, ka3, kn3, kc3, ⟨q0, q1, q2, q3, q4, q5, q6⟩, htv⟩ := (hpa wr HK3.out).load'
          have hwr2 : wo.heap.size ≤ wr.heap.size := HK3.out.size
          have hyl : W.heap.size < wr.heap.size := by omega
          have hbx := blkBelow wr #[.string a.n, .int .i64 a.t.k, .int .i64 a.t.p, .string a.t.n, .int .i64 a.t.s, .slice la3 ln3 lc3, .slice ka3 kn3 kc3] 47
          have hlow2 : Low S wr := fun k hk => by have := HSL.out k hk; omega
          have HSz := Lib.hid (tsize_any S a.t (by omega) (by omega) _ _ (hlow2.le hbx.drew.size) (htv.to hlow2 hbx.drew))
          have HJ4 := Lib.hid (HJ.out.drew (HJ.out.alloc (.cells #[.string a.n, .int .i64 a.t.k, .int .i64 a.t.p, .string a.t.n, .int .i64 a.t.s, .slice la3 ln3 lc3, .slice ka3 kn3 kc3] 47) HJ3.out))
          have HBX := Lib.hid hbx.drew
          have HTK : Hid (d.pms.take (k + 1) = d.pms.take k ++ [a.t.size]) := Lib.hid (take_snoc_get (by unfold Df.pms; rw [List.getElem?_map, hak]; rfl))
          obtain ⟨_, yw⟩ := HC.out wr (HKV.out.trans HK3.out)
          obtain ⟨sz, hsz⟩ : ∃ sz, a.t.size = sz := ⟨_, rfl⟩
          rw [hsz] at HSz HTK has
          clear hpa htv hak hbx hsz had
          gi_wp2_with fail
          gi_region_with (first | (refine ⟨trivial, ?_⟩; gi_at_call 73; refine (callsIn_wide.2 HSz.out).mono ?_; rintro e w5 ⟨rfl, hb5⟩; obtain ⟨fn, tmps, assign, body, hy, hR⟩ := HY.out (n - 1) _ sz w5 (by omega) (HJ.out.below HJ4.out hb5); simp only [cnArgs] at hy; replace hR := Lib.hid hR; obtain ⟨hcl, hfz⟩ := bcell hb5; replace hb5 := Lib.hid hb5) | (refine ⟨fun h => (by cases h), ?_⟩; refine hR.out.mono ?_; rintro e w6 ⟨r, rfl, hcase, hkf⟩) | (refine hR.out.mono ?_; rintro e w6 ⟨r, rfl, hcase, hkf⟩))
          all_goals
            have hb35 := below_seq HBX.out hb5.out
            rcases hcase with ⟨rfl, hj6, hk6⟩ | ⟨rfl, hx6⟩
            · have HJ6 : Hid (J (paramCnts (g.ds.take j) ++ d.pms.take (k + 1)) w6) := Lib.hid (by rw [HTK.out, ← List.append_assoc]; exact hj6)
              have HK6 : Hid (Kp X wo w6) := Lib.hid ((HK3.out.trans (KV.of_below hb35)).trans hk6)
              have HKF6 : Hid (KeepsFrom W.heap.size wo w6) := Lib.hid (HKF3.out.trans (((keepsOthers_below hb35).from _).trans hkf))
              clear hj6 hk6 hkf hb35 hy hcl hfz
              gi_wp2_with fail
              exact ⟨⟨k + 1, by go_num, by omega, HJ6, HK6, HKF6⟩, by simp [intOf]; omega⟩
            · have HX6 : Hid (∃ pre, pre <+: g.cnts ∧ Jx pre w6) := Lib.hid ⟨_, (by
                rw [List.append_assoc, ← HTK.out]
                exact ((List.prefix_append_right_inj _).2 (List.take_prefix _ _)).trans HPX.out), hx6⟩
              clear hx6 hkf hb35 hy hcl hfz
              gi_wp2_with fail
              exact ⟨_, results_none rfl _ _ _, ⟨_, rfl⟩, .inr HX6.out⟩
        · obtain rfl : k = mn := by omega
          have HJ6 : Hid (J (paramCnts (g.ds.take (j + 1))) wr) := Lib.hid (by
            rw [HPJ.out]
            have h := HJ3.out
            have e : d.pms.take k = d.pms := List.take_of_length_le (by unfold Df.pms; rw [List.length_map, HML.out]; exact Nat.le_refl _)
            rwa [e] at h)
          have HK6 : Hid (Kp X W1 wr) := Lib.hid (HKV.out.trans HK3.out)
          have HKF6 : Hid (KeepsFrom W.heap.size W1 wr) := Lib.hid (HKF.out.trans HKF3.out)
          gi_wp2_with fail
          exact ⟨⟨j + 1, by go_num, by omega, HJ6, HK6, HKF6⟩, by simp [intOf]; omega⟩
    · obtain rfl : j = len := by omega
      have HJ7 : Hid (J (paramCnts g.ds) wo) := Lib.hid (by have h := HJJ.out; rwa [List.take_of_length_le (by rw [hlen.out]; exact Nat.le_refl _)] at h)
      have hwo : W.heap.size + 1 ≤ wo.heap.size := by have := HKV.out.size; omega
      have hlowo : Low S wo := fun k hk => by have := HSL.out k hk; omega
      have HBo := Lib.hid (bodies_any S g b o wo hlowo (HG.out wo HKV.out).1 (by have := HGood.out.1; omega))
      clear hlowo
      gi_wp2_with (refine ⟨trivial, ?_⟩; gi_at_call 46; refine (callsIn_wide.2 HBo.out).mono ?_; rintro e w5 ⟨r, cp, rfl, hrow, hr1, hr2, hb5⟩; replace hrow := Lib.hid hrow; replace hb5 := Lib.hid hb5)
      obtain ⟨nb, hnb⟩ : ∃ nb, g.bodies.length = nb := ⟨_, rfl⟩
      rw [hnb]
      have HNB := Lib.hid hnb
      have hnbb : nb ≤ 1001 := by rw [← hnb]; unfold Pg.bodies; have := HGood.out.1; simp; omega
      have hz5 := hb5.out.size
      have HJ8 : Hid (J (paramCnts g.ds) w5) := Lib.hid (HJ.out.below HJ7.out hb5.out)
      have HK8 : Hid (Kp X W1 w5) := Lib.hid (HKV.out.trans (KV.of_below hb5.out))
      have HF8 : Hid (KeepsFrom W.heap.size W1 w5) := Lib.hid (HKF.out.trans ((keepsOthers_below hb5.out).from _))
      have HBOD : Hid (∀ (i : Nat) (p : Pr) (A : World), g.bodies[i]? = some p → Kp X w5 A → ∃ kb ko, A.cell? ⟨r, i, none⟩ = some (.pointer (some ⟨kb, ko, none⟩)) ∧ PrAt S A p kb ko ∧ PGood p ∧ p.depth ≤ 99999) := Lib.hid (fun i p A hp hA => by
        obtain ⟨kb, ko, h1, h2⟩ := hrow.out i p hp
        have hr : Keeps (fun k => k = r) w5 A := hA.keeps (fun k hk => ⟨fun hx => by have := (HX.out k hx).2.2; omega, by simp [Value.ownBlock]⟩)
        have hgd := HGood.out.2.2 p (List.mem_of_getElem? hp)
        exact ⟨kb, ko, hr.cell rfl h1, PrAt.keep (HKS.out w5 A hA) _ _ _ h2, hgd.1, by have := hgd.2.1; omega⟩)
      clear hnb HBo hrow
      refine wpIn_loop (fun a' wr => ∃ (i : Nat) (Ds : List Nat) (v8 v39 v40 v41 v42 v43 v51 : Value), a' = { tmps := #[.func (.yield l) #[] #[], .pointer (some ⟨Bt, 0, none⟩), .pointer (some ⟨W.heap.size, 0, none⟩), undef, u4, undef, u6, undef, v8, undef, undef, .pointer (some ⟨b, o, none⟩), .pointer (some ⟨b, o, none⟩), .pointer (some ⟨b, o, none⟩), .slice pa j c, .int .i64 (j : Int), .int .i64 (j : Int), .bool false, u18, u19, u20, u21, u22, u23, u24, u25, u26, u27, u28, u29, u30, u31, u32, u33, u34, .pointer (some ⟨b, o, none⟩), .slice (some ⟨r, 0, none⟩) nb cp, .int .i64 (nb : Int), .int .i64 (i : Int), v39, v40, v41, v42, v43, undef, undef, undef, undef, undef, undef, undef, v51], defers := marks Ds } ∧ i ≤ nb ∧
          Hid (J (paramCnts g.ds ++ bodyCnts (g.bodies.take i)) wr) ∧ Hid (Kp X w5 wr) ∧ Hid (KeepsFrom W.heap.size w5 wr) ∧ Hid (Marked W.heap.size Ds wr)) (fun a' _ => nb - (intOf (a'.tmps.getD 38 undef)).toNat) ?_ ?_
      · exact ⟨0, [], undef, undef, undef, undef, undef, undef, undef, rfl, by omega, Lib.hid (by simpa [bodyCnts] using HJ8.out), Lib.hid (KV.refl _ _ _), Lib.hid (KeepsFrom.refl _ _), Lib.hid (Marked.nil _ _)⟩
      · rintro a' wr ⟨i, Ds, v8, v39, v40, v41, v42, v43, v51, rfl, hi, HJ9, HK9, HF9, HM9⟩
        by_cases hlt3 : i < nb
        · obtain ⟨p, hp⟩ : ∃ p, g.bodies[i]? = some p := ⟨_, List.getElem?_eq_getElem (by rw [HNB.out]; exact hlt3)⟩
          obtain ⟨kb, ko, hcell, hpr, hpg, hpd⟩ := HBOD.out i p wr hp HK9.out
          have hwr5 := HK9.out.size
          have HBT : Hid (bodyCnts (g.bodies.take (i + 1)) = bodyCnts (g.bodies.take i) ++ addsL (preP 1 p)) := Lib.hid (flatMap_take _ hp)
          have HPX : Hid (paramCnts g.ds ++ bodyCnts (g.bodies.take i) ++ addsL (preP 1 p) <+: g.cnts) := Lib.hid (by
            rw [List.append_assoc, ← HBT.out]; exact (List.prefix_append_right_inj _).2 (flatMap_prefix _ _ _))
          have hSwr : Low S wr := fun k hk => by have := HSL.out k hk; omega
          have hprx := hpr.keep ((blkBelow wr #[.pointer (some ⟨kb, ko, none⟩)] 66).keeps'.mono hSwr)
          have hcx : (wr.alloc (.cells #[.pointer (some ⟨kb, ko, none⟩)] 66)).cell? ⟨wr.heap.size, 0, none⟩ = some (.pointer (some ⟨kb, ko, none⟩)) := blk_cell (Below.refl _ _) 0 rfl
          have hJx := HJ.out.alloc (.cells #[.pointer (some ⟨kb, ko, none⟩)] 66) HJ9.out
          have hKx := HK9.out.trans (grown_box (X := X) wr (.cells #[.pointer (some ⟨kb, ko, none⟩)] 66))
          have hFx := HF9.out.trans ((KeepsOthers.alloc wr (.cells #[.pointer (some ⟨kb, ko, none⟩)] 66)).from W.heap.size)
          have hMx := HM9.out.keeps ((KeepsOthers.alloc wr (.cells #[.pointer (some ⟨kb, ko, none⟩)] 66)).from W.heap.size)
          have hs8 : (wr.alloc (.cells #[.pointer (some ⟨kb, ko, none⟩)] 66)).heap.size = wr.heap.size + 1 := by simp
          clear hp hpr
          gi_wp2_with (refine ⟨trivial, ?_⟩; gi_at_call 59; refine (callsIn_wide.2 (pnodes_any _ _)).mono ?_; rintro e w' ⟨rfl, rfl⟩)
          obtain ⟨W8, hW8⟩ : ∃ W8, wr.alloc (.cells #[.pointer (some ⟨kb, ko, none⟩)] 66) = W8 := ⟨_, rfl⟩
          rw [hW8] at hprx hcx hJx hKx hFx hMx hs8 ⊢
          clear hW8 hcell
          refine wpIn_range_told rfl hn (gf := 86) (lb := #[.pointer (some ⟨wr.heap.size, 0, none⟩)]) rfl trivial (enters_of Tryz.func86 (by kernel_rfl) rfl)
            (pnodes_tells PGood (fun _ h => h.ps) (n - 1) wr.heap.size kb ko p S X W8 (fun k hk => (HX.out k hk).1) (fun k hk => by have := HSL.out k hk; omega) (by omega) hcx hprx hpd hpg) (fun h g => KV.trans h g) (fun W l o o' _ h ho _ => KV.of_cells (by simp) (cellsKept_put h ho)) (fun x A B h hp => Pp.kept h hp) (Below.refl _ _) (fun _ => rfl)
            (fun pre V => J (paramCnts g.ds ++ bodyCnts (g.bodies.take i) ++ addsL (pre.map Np.g)) V ∧ (Kp X W8 V ∧ KeepsFrom W.heap.size W8 V))
            (fun c pre V => c = .ret ∧ (Jx (paramCnts g.ds ++ bodyCnts (g.bodies.take i) ++ addsL (pre.map Np.g)) V ∧ KeepsFrom W.heap.size W8 V))
            ((abides_of HJ.out (by omega) _).and ((abides_kp _ _).and (abides_from _ _))) (fun c => (abidesAll_pure _ _).and ((abides_of HJX.out (by omega) _).and (abides_from _ _)))
            ⟨by simpa [addsL] using hJx, KV.refl _ _ _, KeepsFrom.refl _ _⟩
            (fun x a' _ => a' = { tmps := #[.func (.yield l) #[] #[], .pointer (some ⟨Bt, 0, none⟩), .pointer (some ⟨W.heap.size, 0, none⟩), undef, u4, undef, u6, undef, .pointer (some ⟨kb, ko, none⟩), undef, .pointer (some ⟨x.b, x.o, none⟩), .pointer (some ⟨b, o, none⟩), .pointer (some ⟨b, o, none⟩), .pointer (some ⟨b, o, none⟩), .slice pa j c, .int .i64 (j : Int), .int .i64 (j : Int), .bool false, u18, u19, u20, u21, u22, u23, u24, u25, u26, u27, u28, u29, u30, u31, u32, u33, u34, .pointer (some ⟨b, o, none⟩), .slice (some ⟨r, 0, none⟩) nb cp, .int .i64 (nb : Int), .int .i64 (i : Int), .bool true, .pointer (some ⟨r, i, none⟩), .pointer (some ⟨kb, ko, none⟩), .pointer (some ⟨kb, ko, none⟩), .func (.func 86) #[] #[.pointer (some ⟨wr.heap.size, 0, none⟩)], .int .i64 (x.d : Int), .pointer (some ⟨x.b, x.o, none⟩), undef, undef, undef, undef, undef, v51], defers := [] })
            (fun _ _ _ _ _ h => h) ?assign ?body ?done ?stop
          case assign =>
            intro l' pre x V K hi' hp' hK
            simp only [npArgs]
            gi_wp2
            exact hK _ _ (KeepsFrom.refl _ _) (KV.refl _ _ _) hi' hp' (by simp)
          case body =>
            rintro l' pre x a' V hl' _ ⟨hJv, hKv, hFv⟩ hpx rfl
            have hKV1 : Kp X W1 V := HK8.out.trans (hKx.trans hKv)
            obtain ⟨_, yv⟩ := HC.out V hKV1
            have hVs : W8.heap.size ≤ V.heap.size := hKv.size
            have hlowV : Low S V := fun k hk => by have := HSL.out k hk; omega
            have hyl : W.heap.size < V.heap.size := by omega
            have HNA := Lib.hid (nodesAt_any S x.p x.b x.o V.drew hlowV (by have := Pr.tf_size hpx.2.2.2; omega) (by have := Pr.tf_depth hpx.2.2.2; omega) (hpx.1.keep ((Below.refl V.heap.size V).drew.keeps'.mono hlowV)))
            have HJV := Lib.hid (HJ.out.drew hJv)
            have HAS : Hid (addsL ((pre ++ [x]).map Np.g) = addsL (pre.map Np.g) ++ [x.p.adds]) := Lib.hid (addsL_snoc pre x)
            have hszl : x.p.adds ≤ 1000 := by
              have := Pr.tf_size hpx.2.2.2
              rw [Pr.adds_eq]; unfold Pr.typ0; split <;> omega
            obtain ⟨sz, hsz⟩ : ∃ sz, x.p.adds = sz := ⟨_, rfl⟩
            rw [hsz] at HNA HAS hszl
            have HKVV := Lib.hid hKv
            have HFVV := Lib.hid hFv
            clear hsz hJv hKv hFv hpx hKV1 hprx hcx hJx hKx hFx hMx hlowV
            gi_wp2_with fail
            gi_region_with (first | (refine ⟨trivial, ⟨fun h => (by cases h), ?_⟩⟩; refine (CallsIn.inRound l' (callsIn_wide.2 HNA.out)).mono ?_; rintro e w6 ⟨rfl, hb6⟩; obtain ⟨fn, tmps, assign, body, hy, hR⟩ := HY.out (n - 1 - 1 - 1) _ sz w6 hszl (HJ.out.below HJV.out hb6); simp only [cnArgs] at hy; replace hR := Lib.hid hR; have yv6 : w6.cell? ⟨W.heap.size, 0, none⟩ = some (.func (.yield l) #[] #[]) := (hb6.cell (p := ⟨W.heap.size, 0, none⟩) hyl).trans yv; replace hb6 := Lib.hid hb6) | (refine ⟨fun h => (by cases h), ?_⟩; refine hR.out.mono ?_; rintro e w7 ⟨rr, rfl, hcase, hkf⟩) | (refine hR.out.mono ?_; rintro e w7 ⟨rr, rfl, hcase, hkf⟩))
            all_goals
              have hbV6 : Below V.heap.size V w6 := ((Below.refl V.heap.size V).drew).trans hb6.out
              have hkf6 := ((keepsOthers_below hbV6).from W.heap.size).trans hkf
              rcases hcase with ⟨rfl, hj7, hk7⟩ | ⟨rfl, hx7⟩
              · have hkp7 : Kp X V w7 := (KV.of_below hbV6).trans hk7
                have HX7 := Lib.hid (And.intro hj7 (And.intro hkp7 hkf6))
                clear hj7 hk7 hkp7 hkf6 hkf hbV6 hy yv6 yv
                gi_wp2_with fail
                obtain ⟨h1, h2, h3⟩ := HX7.out
                refine ⟨h3.le (by omega), h2, by rw [HAS.out, ← List.append_assoc]; exact h1, HKVV.out.trans h2, HFVV.out.trans h3⟩
              · have HX7 := Lib.hid (And.intro hx7 hkf6)
                clear hx7 hkf6 hkf hbV6 hy yv6 yv
                gi_wp2_with fail
                obtain ⟨h1, h3⟩ := HX7.out
                refine ⟨h3.le (by omega), rfl, by rw [HAS.out, ← List.append_assoc]; exact h1, HFVV.out.trans h3⟩
          case done =>
            rintro D xs V hD hxs ⟨hJv, hKv, hFv⟩ hK
            have HJV : Hid (J (paramCnts g.ds ++ bodyCnts (g.bodies.take (i + 1))) V) := Lib.hid (by rw [HBT.out, ← List.append_assoc, ← hxs]; exact hJv)
            have HKV9 : Hid (Kp X w5 V) := Lib.hid (hKx.trans hKv)
            have HFV9 : Hid (KeepsFrom W.heap.size w5 V) := Lib.hid (hFx.trans hFv)
            have HMV9 : Hid (Marked W.heap.size (D :: Ds) V) := Lib.hid ((hMx.keeps hFv).cons (fun hDs => by
              have := (Array.getElem?_eq_some_iff.1 (hMx.2 D hDs).2).1; omega) (by omega) hK)
            clear hJv hKv hFv hxs hK hprx hcx hJx hKx hFx hMx
            gi_wp2_with fail
            have hcast : ((i + 1 : Nat) : Int) = (i : Int) + 1 := by omega
            exact ⟨⟨i + 1, D :: Ds, _, _, _, _, _, _, _, by rw [hcast]; rfl, by omega, HJV, HKV9, HFV9, HMV9⟩, by simp [intOf]; omega⟩
          case stop =>
            rintro D cc pre V hD hpre ⟨rfl, hJv, hFv⟩ hK
            have HMV9 : Hid (Marked W.heap.size (D :: Ds) V) := Lib.hid ((hMx.keeps hFv).cons (fun hDs => by
              have := (Array.getElem?_eq_some_iff.1 (hMx.2 D hDs).2).1; omega) (by omega) hK)
            have HPP : Hid (paramCnts g.ds ++ bodyCnts (g.bodies.take i) ++ addsL (pre.map Np.g) <+: g.cnts) := Lib.hid (((List.prefix_append_right_inj _).2 (addsL_prefix hpre)).trans HPX.out)
            have HJV := Lib.hid hJv
            clear hJv hFv hpre hK hprx hcx hJx hKx hFx hMx
            gi_wp2_with fail
            refine leaves_marked (lo := W.heap.size) (J := fun A => Jx (paramCnts g.ds ++ bodyCnts (g.bodies.take i) ++ addsL (pre.map Np.g)) A) (fun A D o h hD => HJX.out.put o h hD) (fun A h => ⟨_, results_none rfl _ _ _, ⟨_, rfl⟩, .inr ⟨_, HPP.out, h⟩⟩) (D :: Ds) V HJV.out HMV9.out
        · obtain rfl : i = nb := by omega
          have HJV : Hid (J g.cnts wr) := Lib.hid (by
            have h := HJ9.out
            have e : g.bodies.take i = g.bodies := List.take_of_length_le (by rw [HNB.out]; exact Nat.le_refl _)
            rwa [e] at h)
          gi_wp2_with fail
          refine leaves_marked (lo := W.heap.size) (J := fun A => J g.cnts A) (fun A D o h hD => HJ.out.put o h hD) (fun A h => ⟨_, results_none rfl _ _ _, ⟨_, rfl⟩, .inl ⟨_, rfl, h⟩⟩) Ds wr HJV.out HM9.out

end Go.Proofs.YtmedijheidbmhaaGreatDoor
