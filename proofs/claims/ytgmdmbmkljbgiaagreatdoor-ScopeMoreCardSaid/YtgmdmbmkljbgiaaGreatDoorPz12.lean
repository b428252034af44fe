/- Programs: the reference's Little. (and what follows from it) -/
import Derived.Test.YtgmdmbmkljbgiaaGreatDoorPz8
import Derived.Test.YtgmdmbmkljbgiaaGreatDoorPz11
import Derived.Test.YtgmdmbmkljbgiaaGreatDoorPz9
import Derived.Test.YtgmdmbmkljbgiaaGreatDoorPz10
import Derived.Laws.OwnMore
import Derived.Deep.RegionLaw
import Derived.Deep.Cut

/- Programs: the reference's Little. -/
namespace Go.Proofs.YtgmdmbmkljbgiaaGreatDoor
open Go.RowKit Go.Deep Go.Shelf

def Df.little (m : Nat) (d : Df) : Bool := d.b.few m && (decide (d.ms.length ≤ 20) && d.ms.all (fun a => a.t.few 300))
/-- Is a program small? -/
def Pg.little (g : Pg) (m : Nat) : Bool := decide (g.ds.length ≤ 20) && (g.m.few m && g.ds.all (Df.little m))
theorem all_ff {α : Type} {l : List α} {f : α → Bool} {j : Nat} {x : α} (h : l[j]? = some x) (hx : f x = false) : l.all f = false := by
  cases e : l.all f with
  | false => rfl
  | true => have := List.all_eq_true.1 e x (List.mem_of_getElem? h); rw [hx] at this; cases this
theorem all_tt {α : Type} {l : List α} {f : α → Bool} (h : ∀ (j : Nat) (x : α), l[j]? = some x → f x = true) : l.all f = true :=
  List.all_eq_true.2 fun x hx => by obtain ⟨j, hj⟩ := List.getElem?_of_mem hx; exact h j x hj
theorem Df.little_1 {m : Nat} {d : Df} (h : d.b.few m = false) : d.little m = false := by unfold Df.little; rw [h]; rfl
theorem Df.little_2 {m : Nat} {d : Df} (h : ¬ d.ms.length ≤ 20) : d.little m = false := by unfold Df.little; rw [show decide (d.ms.length ≤ 20) = false by simpa using h, Bool.false_and, Bool.and_false]
theorem Df.little_3 {m : Nat} {d : Df} {j : Nat} {a : Pm} (h : d.ms[j]? = some a) (ha : a.t.few 300 = false) : d.little m = false := by unfold Df.little; rw [all_ff (f := fun a => a.t.few 300) h ha, Bool.and_false, Bool.and_false]
theorem Df.little_4 {m : Nat} {d : Df} (h1 : d.b.few m = true) (h2 : d.ms.length ≤ 20) (h3 : ∀ (j : Nat) (a : Pm), d.ms[j]? = some a → a.t.few 300 = true) : d.little m = true := by
  unfold Df.little; rw [h1, show decide (d.ms.length ≤ 20) = true by simpa using h2, all_tt h3]; rfl
theorem Df.little_facts {m : Nat} {d : Df} (h : d.little m = true) : d.b.few m = true ∧ d.ms.length ≤ 20 ∧ ∀ a ∈ d.ms, a.t.few 300 = true := by
  unfold Df.little at h; simp only [Bool.and_eq_true, decide_eq_true_eq, List.all_eq_true] at h; exact h
theorem Pg.little_1 {m : Nat} {g : Pg} (h : ¬ g.ds.length ≤ 20) : g.little m = false := by unfold Pg.little; rw [show decide (g.ds.length ≤ 20) = false by simpa using h]; rfl
theorem Pg.little_2 {m : Nat} {g : Pg} (h : g.m.few m = false) : g.little m = false := by unfold Pg.little; rw [h, Bool.false_and, Bool.and_false]
theorem Pg.little_3 {m : Nat} {g : Pg} {j : Nat} {d : Df} (h : g.ds[j]? = some d) (hd : d.little m = false) : g.little m = false := by unfold Pg.little; rw [all_ff h hd, Bool.and_false, Bool.and_false]
theorem Pg.little_4 {m : Nat} {g : Pg} (h1 : g.ds.length ≤ 20) (h2 : g.m.few m = true) (h3 : ∀ (j : Nat) (d : Df), g.ds[j]? = some d → d.little m = true) : g.little m = true := by
  unfold Pg.little; rw [h2, show decide (g.ds.length ≤ 20) = true by simpa using h1, all_tt h3]; rfl
theorem Pg.little_facts {m : Nat} {g : Pg} (h : g.little m = true) : g.ds.length ≤ 20 ∧ g.m.few m = true ∧ ∀ d ∈ g.ds, d.little m = true := by
  unfold Pg.little at h; simp only [Bool.and_eq_true, decide_eq_true_eq, List.all_eq_true] at h; exact h

set_option maxHeartbeats 4000000 in
set_option maxRecDepth 100000 in
theorem rlittle_any (B : Nat → Prop) (g : Pg) (m : Nat) (hm : m ≤ 1000000) (v : Value) (w : World) (hB : Low B w) (hv : PgVal B w v g) :
    Calls Tryz.prog 7 #[v, .int .i64 m] w fun e w' => e = .returned (.bool (g.little m)) ∧ Below w.heap.size w w' := by
  obtain ⟨dv, lv, av, tl, tk, kv, rfl, hd, hp⟩ := hv
  obtain ⟨⟨la, ln, lc, rfl⟩, ⟨aa, an, ac, rfl⟩, ⟨ta, tn, tc, rfl⟩, ⟨ua, un, uc, rfl⟩, ka, kn, kc, rfl⟩ := pr_slices hp
  obtain ⟨pa, len, c, rfl, hlen, hmx, hget⟩ := hd.open
  have hb0 : Below w.heap.size w (w.alloc (cell13 g (.slice pa len c) (.slice la ln lc) (.slice aa an ac) (.slice ta tn tc) (.slice ua un uc) (.slice ka kn kc))) := blkBelow w _ _
  obtain ⟨r, hr⟩ : ∃ r, g.little m = r := ⟨_, rfl⟩
  obtain ⟨b1, hb1⟩ : ∃ b, g.m.few m = b := ⟨_, rfl⟩
  have HM : Hid (∀ W, Below w.heap.size w W → Calls Tryz.prog 21 #[prAgg g.m (.slice la ln lc) (.slice aa an ac) (.slice ta tn tc) (.slice ua un uc) (.slice ka kn kc), .int .i64 m] W fun e w' => e = .returned (.bool b1) ∧ Below W.heap.size W w') := Lib.hid (fun W hW => by rw [← hb1]; exact prfew_any B g.m m hm _ W (hB.le hW.size) (hp.to hB hW))
  have R1 : Hid (¬ len ≤ 20 → r = false) := Lib.hid (fun h => by rw [← hr]; exact Pg.little_1 (by rw [← hlen.out]; exact h))
  have R2 : Hid (b1 = false → r = false) := Lib.hid (fun h => by rw [← hr]; exact Pg.little_2 (hb1.trans h))
  have R3 : Hid (∀ (j : Nat) (d : Df), g.ds[j]? = some d → d.little m = false → r = false) := Lib.hid (fun j d h hd => by rw [← hr]; exact Pg.little_3 h hd)
  have R4 : Hid (len ≤ 20 → b1 = true → (∀ (i : Nat) (d : Df), i < len → g.ds[i]? = some d → d.little m = true) → r = true) := Lib.hid (fun h1 h2 h3 => by
    rw [← hr]; exact Pg.little_4 (by rw [← hlen.out]; exact h1) (hb1.trans h2) (fun j d h => h3 j d (by rw [hlen.out]; exact (List.getElem?_eq_some_iff.1 h).1) h))
  have HD : Hid (∀ (j : Nat) (d : Df), g.ds[j]? = some d → ∃ kb ko, pa = some ⟨kb, ko, none⟩ ∧ kb < w.heap.size ∧ ∀ W, Below w.heap.size w W → DfAt B W d kb (ko + j * 14)) := Lib.hid (fun j d hj => by
    obtain ⟨kb, ko, e, hkb, hda⟩ := hget j d hj
    exact ⟨kb, ko, e, hB kb hkb, fun W hW => hda.keep (hW.keeps'.mono hB) hkb⟩)
  have HB0 := Lib.hid hb0
  obtain ⟨ds, hds⟩ : ∃ ds, g.ds = ds := ⟨_, rfl⟩
  rw [hds] at hlen R3 R4 HD
  rw [hr]
  clear hget hd hp hds hr hb1 hb0
  unfold prAgg at HM
  by_cases h20 : len ≤ 20
  · have h20' : decide ((20 : Int) < (len : Int)) = false := by simp; omega
    have h20i : (len : Int) ≤ 20 := by omega
    cases b1
    · rw [R2.out (by first | trivial | rfl)]
      go_enter Tryz.func7, Tryz.ntmps7
      go_wp2_with fail
      refine (HM.out _ HB0.out).mono ?_
      rintro e w2 ⟨rfl, hb2⟩
      go_wp2_with fail
      go_ret
      exact ⟨rfl, below_seq HB0.out hb2⟩
    · go_enter Tryz.func7, Tryz.ntmps7
      go_wp2_with fail
      refine (HM.out _ HB0.out).mono ?_
      rintro e w2 ⟨rfl, hb2⟩
      have hbx : Below (w.heap.size + 1) (w.alloc (cell13 g (.slice pa len c) (.slice la ln lc) (.slice aa an ac) (.slice ta tn tc) (.slice ua un uc) (.slice ka kn kc))) w2 := by simpa using hb2
      have HBX := Lib.hid hbx
      clear hb2 hbx
      go_wp2_with fail
      go_loopw [5] (fun i wr => ∃ j : Nat, i = .int .i64 j ∧ j ≤ len ∧ Hid (∀ (i : Nat) (d : Df), i < j → ds[i]? = some d → d.little m = true) ∧ Below (w.heap.size + 1) (w.alloc (cell13 g (.slice pa len c) (.slice la ln lc) (.slice aa an ac) (.slice ta tn tc) (.slice ua un uc) (.slice ka kn kc))) wr) (fun i _ => len - (intOf i).toNat)
      case atStart => exact ⟨0, rfl, by omega, Lib.hid (fun i d h => absurd h (Nat.not_lt_zero _)), HBX.out⟩
      case round =>
        obtain ⟨j, rfl, hj, HL, hb⟩ := hrel
        obtain ⟨wo, hwo⟩ : ∃ wo, wo = wr := ⟨_, rfl⟩
        subst hwo
        have c0 : wo.cell? ⟨w.heap.size, 0, none⟩ = some (.slice pa len c) := blk_cell hb 0 rfl
        have hw := blk_below hb
        have hsz : w.heap.size + 1 ≤ wo.heap.size := by have := hb.size; simpa using this
        by_cases hlt : j < len
        · obtain ⟨d, hdj⟩ : ∃ d, ds[j]? = some d := ⟨_, List.getElem?_eq_getElem (by rw [← hlen.out]; exact hlt)⟩
          obtain ⟨kb, ko, rfl, hkb, hda⟩ := HD.out j d hdj
          obtain ⟨ma, mn, mc, la', ln', lc', aa', an', ac', ta', tn', tc', ua', un', uc', ka', kn', kc', ⟨d0, d1, d2, d3, d4, d5, d6, d7, d8, d9, d10, d11, d12, d13⟩, hms, hval⟩ := (hda wo hw).load'
          have hBr : Low B wo := hB.le hw.size
          obtain ⟨x, hx⟩ : ∃ x, d.b.few m = x := ⟨_, rfl⟩
          have HF2 : Hid (Calls Tryz.prog 21 #[prAgg d.b (.slice la' ln' lc') (.slice aa' an' ac') (.slice ta' tn' tc') (.slice ua' un' uc') (.slice ka' kn' kc'), .int .i64 m] wo fun e w' => e = .returned (.bool x) ∧ Below wo.heap.size wo w') := Lib.hid (by rw [← hx]; exact prfew_any B d.b m hm _ wo hBr hval)
          obtain ⟨pma, pmn, pmc, hpe, hmlen, hmmx, hmget⟩ := hms.open
          simp only [Value.slice.injEq] at hpe
          obtain ⟨rfl, rfl, rfl⟩ := hpe
          have HMG : Hid (∀ (k : Nat) (a : Pm), d.ms[k]? = some a → ∃ pb po, ma = some ⟨pb, po, none⟩ ∧ pb < wo.heap.size ∧ ∀ W, Below wo.heap.size wo W → PmAt B W a pb (po + k * 7)) := Lib.hid (fun k a hk => by
            obtain ⟨pb, po, e, hpb, hpa⟩ := hmget k a hk
            exact ⟨pb, po, e, hBr pb hpb, fun W hW => hpa.keep (hW.keeps'.mono hBr) hpb⟩)
          have HML := Lib.hid hmlen.out
          have N1 : Hid (x = false → r = false) := Lib.hid (fun h => R3.out j d hdj (Df.little_1 (hx.trans h)))
          have N2 : Hid (¬ mn ≤ 20 → r = false) := Lib.hid (fun h => R3.out j d hdj (Df.little_2 (by rw [← HML.out]; exact h)))
          have N3 : Hid (∀ (k : Nat) (a : Pm), d.ms[k]? = some a → a.t.few 300 = false → r = false) := Lib.hid (fun k a h ha => R3.out j d hdj (Df.little_3 h ha))
          have N4 : Hid (x = true → mn ≤ 20 → (∀ (i : Nat) (a : Pm), i < mn → d.ms[i]? = some a → a.t.few 300 = true) → ∀ (i : Nat) (e : Df), i < j + 1 → ds[i]? = some e → e.little m = true) := Lib.hid (fun h1 h2 h3 i e hi he => by
            rcases Nat.lt_or_ge i j with h | h
            · exact HL.out i e h he
            · obtain rfl : i = j := by omega
              rw [hdj] at he
              obtain rfl := Option.some.inj he
              exact Df.little_4 (hx.trans h1) (by rw [← HML.out]; exact h2) (fun k a hk => h3 k a (by rw [HML.out]; exact (List.getElem?_eq_some_iff.1 hk).1) hk))
          unfold prAgg at HF2
          clear hda hval hms hmget hmlen hx d0 hdj
          cases x
          · go_wp2_with fail
            refine HF2.out.mono ?_
            rintro e w3 ⟨rfl, hb3⟩
            go_wp2_with fail
            go_ret
            exact ⟨ret_bool (N1.out (by first | trivial | rfl)).symm, below_seq hw hb3⟩
          · go_wp2_with fail
            refine HF2.out.mono ?_
            rintro e w3 ⟨rfl, hb3⟩
            have e0 := (hb3.cell (p := ⟨w.heap.size, 0, none⟩) (by simp; omega)).trans c0
            have e1 := (hb3.cell (p := ⟨kb, ko + j * 14 + 1, none⟩) (by simp; omega)).trans d1
            have HB3 := Lib.hid hb3
            clear hb3 d2 d3 d4 d5 d6 d7 d8 d9 d10 d11 d12 d13
            by_cases h20m : mn ≤ 20
            · have h20m' : decide ((20 : Int) < (mn : Int)) = false := by simp; omega
              have h20mi : (mn : Int) ≤ 20 := by omega
              go_wp2_with fail
              clear e0 e1
              go_loopw [6] (fun i wr => ∃ k : Nat, i = .int .i64 k ∧ k ≤ mn ∧ Hid (∀ (i : Nat) (a : Pm), i < k → d.ms[i]? = some a → a.t.few 300 = true) ∧ Below wo.heap.size wo wr) (fun i _ => mn - (intOf i).toNat)
              case atStart => exact ⟨0, rfl, by omega, Lib.hid (fun i d h => absurd h (Nat.not_lt_zero _)), HB3.out⟩
              case round =>
                obtain ⟨k, rfl, hk, HK, hb7⟩ := hrel
                have p0 := (hb7.cell (p := ⟨w.heap.size, 0, none⟩) (by simp; omega)).trans c0
                have p1 := (hb7.cell (p := ⟨kb, ko + j * 14 + 1, none⟩) (by simp; omega)).trans d1
                by_cases hlt2 : k < mn
                · obtain ⟨a, hak⟩ : ∃ a, d.ms[k]? = some a := ⟨_, List.getElem?_eq_getElem (by rw [← HML.out]; exact hlt2)⟩
                  obtain ⟨pb, po, rfl, hpb, hpa⟩ := HMG.out k a hak
                  obtain ⟨la3, ln3, lc3, ka3, kn3, kc3, ⟨q0, q1, q2, q3, q4, q5, q6⟩, htv⟩ := (hpa wr hb7).load'
                  obtain ⟨y, hy⟩ : ∃ y, a.t.few 300 = y := ⟨_, rfl⟩
                  have HT3 : Hid (Calls Tryz.prog 22 #[.agg #[.int .i64 a.t.k, .int .i64 a.t.p, .string a.t.n, .int .i64 a.t.s, .slice la3 ln3 lc3, .slice ka3 kn3 kc3], .int .i64 300] wr fun e w' => e = .returned (.bool y) ∧ Below wr.heap.size wr w') := Lib.hid (by rw [← hy]; exact rfew_any B a.t 300 (by omega) _ wr (hBr.le hb7.size) htv)
                  have N5 : Hid (y = false → r = false) := Lib.hid (fun h => N3.out k a hak (hy.trans h))
                  have N6 : Hid (y = true → ∀ (i : Nat) (a : Pm), i < k + 1 → d.ms[i]? = some a → a.t.few 300 = true) := Lib.hid (fun h i e hi he => by
                    rcases Nat.lt_or_ge i k with h' | h'
                    · exact HK.out i e h' he
                    · obtain rfl : i = k := by omega
                      rw [hak] at he
                      obtain rfl := Option.some.inj he
                      exact hy.trans h)
                  clear hy hak htv hpa q0
                  cases y
                  · go_wp2_with fail
                    refine HT3.out.mono ?_
                    rintro e w8 ⟨rfl, hb8⟩
                    go_wp2_with fail
                    go_ret
                    exact ⟨ret_bool (N5.out (by first | trivial | rfl)).symm, below_seq (below_seq hw hb7) hb8⟩
                  · go_wp2_with fail
                    refine HT3.out.mono ?_
                    rintro e w8 ⟨rfl, hb8⟩
                    go_wp2_with fail
                    go_roundw
                    case rel => exact ⟨k + 1, by go_num, by omega, Lib.hid (N6.out (by first | trivial | rfl)), below_seq hb7 hb8⟩
                    case measure => simp [intOf]; omega
                · obtain rfl : k = mn := by omega
                  have HX := Lib.hid (N4.out (by first | trivial | rfl) h20m HK.out)
                  go_wp2_with fail
                  go_roundw
                  case rel => exact ⟨j + 1, by go_num, by omega, HX, hb.trans (hb7.mono hsz)⟩
                  case measure => simp [intOf]; omega
            · have h20m' : decide ((20 : Int) < (mn : Int)) = true := by simp; omega
              have h20mi : (20 : Int) < (mn : Int) := by omega
              have HN := Lib.hid (N2.out h20m)
              clear h20m
              go_wp2_with fail
              go_ret
              exact ⟨ret_bool HN.out.symm, below_seq hw HB3.out⟩
        · obtain rfl : j = len := by omega
          have HX := Lib.hid (R4.out h20 (by first | trivial | rfl) HL.out)
          go_wp2_with fail
          go_ret
          exact ⟨ret_bool HX.out.symm, hw⟩
  · have h20' : decide ((20 : Int) < (len : Int)) = true := by simp; omega
    have h20i : (20 : Int) < (len : Int) := by omega
    rw [R1.out h20]
    clear h20
    go_enter Tryz.func7, Tryz.ntmps7
    go_wp2_with fail
    go_ret
    exact ⟨rfl, HB0.out⟩

end Go.Proofs.YtgmdmbmkljbgiaaGreatDoor

/- Scopes: whether a program has a fault does not depend on the order of its definitions. -/
namespace Go.Proofs.YtgmdmbmkljbgiaaGreatDoor
open Go.RowKit Go.Deep Go.Shelf

theorem dups_nodup (l : List ByteArray) : dups l = false ↔ l.Nodup := by
  induction l with
  | nil => simp [dups]
  | cons x r ih =>
    rw [dups, Bool.or_eq_false_iff, List.nodup_cons, ih]
    constructor
    · rintro ⟨h1, h2⟩; exact ⟨fun hm => (by rw [memB_true.2 hm] at h1; cases h1), h2⟩
    · rintro ⟨h1, h2⟩; exact ⟨memB_false h1, h2⟩
theorem nodup_rev {l : List ByteArray} : l.reverse.Nodup ↔ l.Nodup := by
  unfold List.Nodup; rw [List.pairwise_reverse]; constructor <;> intro h <;> exact h.imp (fun h e => h e.symm)
theorem dups_take_false {l : List ByteArray} (h : dups l = false) (k : Nat) : dups (l.take k) = false := by
  cases e : dups (l.take k) with
  | false => rfl
  | true => rw [dups_mono l e] at h; cases h
theorem twF_none (ds : List Df) : twF ds = none ↔ dups (ds.map Df.n) = false ∧ ∀ d ∈ ds, dups (d.ms.map Pm.n) = false := by
  have hall : twF ds = none ↔ ∀ i, i < ds.length → twiceAt ds i = false := by
    refine ⟨fun h i hi => ?_, fun h => range_find_none h⟩
    have := List.find?_eq_none.1 h i (List.mem_range.2 hi)
    simpa using this
  rw [hall]
  constructor
  · intro h
    refine ⟨?_, fun d hd => ?_⟩
    · have hk : ∀ k, k ≤ ds.length → dups ((ds.take k).map Df.n) = false := by
        intro k
        induction k with
        | zero => intro _; rfl
        | succ k ih =>
          intro hk
          have hd : ds[k]? = some ds[k] := List.getElem?_eq_getElem (by omega)
          have h1 := h k (by omega)
          unfold twiceAt at h1
          rw [hd] at h1
          simp only [Bool.or_eq_false_iff] at h1
          rw [take_snoc_get hd, List.map_append, List.map_cons, List.map_nil, dups_snoc, ih (by omega), h1.1]; rfl
      have := hk ds.length (Nat.le_refl _)
      rwa [List.take_length] at this
    · obtain ⟨i, hi⟩ := List.getElem?_of_mem hd
      have h1 := h i (List.getElem?_eq_some_iff.1 hi).1
      unfold twiceAt at h1
      rw [hi] at h1
      simp only [Bool.or_eq_false_iff] at h1
      exact h1.2
  · rintro ⟨h1, h2⟩ i hi
    have hd : ds[i]? = some ds[i] := List.getElem?_eq_getElem hi
    unfold twiceAt
    rw [hd]
    simp only [Bool.or_eq_false_iff]
    refine ⟨?_, h2 _ (List.getElem_mem hi)⟩
    have h3 := dups_take_false h1 (i + 1)
    rw [← List.map_take, take_snoc_get hd, List.map_append, List.map_cons, List.map_nil, dups_snoc, Bool.or_eq_false_iff] at h3
    exact h3.2
theorem arOf_mem {ds : List Df} (h : (ds.map Df.n).Nodup) {d : Df} (hd : d ∈ ds) : arOf ds d.n = some d.ms.length := by
  rw [arOf_fst ((dups_nodup _).2 h)]
  induction ds with
  | nil => cases hd
  | cons x r ih =>
    rw [List.map_cons, List.nodup_cons] at h
    rw [arFst]
    rcases List.mem_cons.1 hd with rfl | hd
    · rw [if_pos rfl]
    · rw [if_neg (fun e => h.1 (List.mem_map.2 ⟨d, hd, e⟩))]
      exact ih h.2 hd
theorem arOf_rev {ds : List Df} (h : (ds.map Df.n).Nodup) : arOf ds.reverse = arOf ds := by
  funext s
  have hr : (ds.reverse.map Df.n).Nodup := by rw [List.map_reverse]; exact nodup_rev.2 h
  by_cases hm : s ∈ ds.map Df.n
  · obtain ⟨d, hd, rfl⟩ := List.mem_map.1 hm
    rw [arOf_mem h hd, arOf_mem hr (List.mem_reverse.2 hd)]
  · rw [arOf_none (memB_false hm), arOf_none (memB_false (by rw [List.map_reverse, List.mem_reverse]; exact hm))]
theorem firstR_zero (l : List Pr) : firstR l = 0 ↔ ∀ p ∈ l, prightE p = 0 := by
  induction l with
  | nil => simp [firstR]
  | cons q r ih =>
    unfold firstR
    by_cases hq : prightE q = 0
    · rw [if_pos hq, ih]; simp [hq]
    · rw [if_neg hq]; simp [hq]
theorem sumN_append' (l r : List Nat) : sumN (l ++ r) = sumN l + sumN r := by
  induction l with
  | nil => simp [sumN]
  | cons x l ih => rw [List.cons_append, sumN, ih, sumN]; omega
theorem sumN_rev (l : List Nat) : sumN l.reverse = sumN l := by
  induction l with
  | nil => rfl
  | cons x r ih => rw [List.reverse_cons, sumN_append', ih, sumN, sumN, sumN]; omega
abbrev Pg.rev (g : Pg) : Pg := ⟨g.ds.reverse, g.m⟩
theorem total_rev (g : Pg) : g.rev.total = g.total := by
  rw [Pg.total_eq, Pg.total_eq]
  show g.m.size + g.m.typ + sumN (g.ds.reverse.map Df.all) = _
  rw [List.map_reverse, sumN_rev]
theorem mem_bodies (g : Pg) (p : Pr) : p ∈ g.bodies ↔ (∃ d ∈ g.ds, d.b = p) ∨ p = g.m := by
  unfold Pg.bodies; simp [eq_comm]
theorem mem_bodies_rev (g : Pg) (p : Pr) : p ∈ g.rev.bodies ↔ p ∈ g.bodies := by
  rw [mem_bodies, mem_bodies]; simp
theorem pprog_zero (g : Pg) : pprogE g = 0 ↔ g.many = false ∧ (∀ p ∈ g.bodies, prightE p = 0) ∧ ∀ d ∈ g.ds, hdB d = true := by
  unfold pprogE
  by_cases hm : g.many = true
  · rw [if_pos hm, hm]; simp
  · rw [if_neg hm]
    have hm' : g.many = false := by simpa using hm
    by_cases hf : firstR g.bodies = 0
    · rw [if_pos hf]
      rw [firstR_zero] at hf
      by_cases ha : g.ds.all hdB = true
      · rw [if_pos ha]; simp only [true_iff]; exact ⟨hm', hf, List.all_eq_true.1 ha⟩
      · rw [if_neg ha]
        constructor
        · intro h; omega
        · rintro ⟨_, _, h⟩; exact absurd (List.all_eq_true.2 h) ha
    · rw [if_neg hf]
      constructor
      · intro h; exact absurd h hf
      · rintro ⟨_, h, _⟩; exact absurd ((firstR_zero _).2 h) hf
/-- When a program has no fault. -/
theorem chk_iff (g : Pg) : (g.chk).1 = 0 ↔ pprogE g = 0 ∧ twF g.ds = none ∧ (∀ d ∈ g.ds, d.b.scE (arOf g.ds) (d.ms.map Pm.n) false = 0) ∧ g.m.scE (arOf g.ds) [] true = 0 := by
  have hb : (∀ i, i ≤ g.ds.length → g.bE (arOf g.ds) i = 0) ↔ (∀ d ∈ g.ds, d.b.scE (arOf g.ds) (d.ms.map Pm.n) false = 0) ∧ g.m.scE (arOf g.ds) [] true = 0 := by
    constructor
    · intro h
      refine ⟨fun d hd => ?_, by rw [← Pg.bE_main]; exact h _ (Nat.le_refl _)⟩
      obtain ⟨i, hi⟩ := List.getElem?_of_mem hd
      rw [← Pg.bE_def hi]
      exact h i (Nat.le_of_lt (List.getElem?_eq_some_iff.1 hi).1)
    · rintro ⟨h1, h2⟩ i hi
      rcases Nat.lt_or_eq_of_le hi with h | rfl
      · rw [Pg.bE_def (List.getElem?_eq_getElem h)]; exact h1 _ (List.getElem_mem h)
      · rw [Pg.bE_main]; exact h2
  rw [← hb]
  constructor
  · intro h
    unfold Pg.chk at h
    split at h
    · next h0 => exact absurd h h0
    · next h0 =>
      split at h
      · exact absurd h (by simp)
      · next ht =>
        split at h
        · next i hf =>
          have := List.find?_some hf
          simp at this
          exact absurd h this
        · next hf =>
          refine ⟨by simpa using h0, ht, fun i hi => ?_⟩
          have := List.find?_eq_none.1 hf i (List.mem_range.2 (by omega))
          simpa using this
  · rintro ⟨h1, h2, h3⟩
    rw [Pg.chk_4 h1 h2 h3]
theorem chk_rev (g : Pg) : (g.rev.chk).1 = 0 ↔ (g.chk).1 = 0 := by
  rw [chk_iff, chk_iff, pprog_zero, pprog_zero, twF_none, twF_none]
  have hmany : g.rev.many = g.many := by unfold Pg.many; rw [total_rev]
  have hnod : dups (g.ds.reverse.map Df.n) = dups (g.ds.map Df.n) := by
    have : dups (g.ds.reverse.map Df.n) = false ↔ dups (g.ds.map Df.n) = false := by
      rw [dups_nodup, dups_nodup, List.map_reverse, nodup_rev]
    cases h1 : dups (g.ds.reverse.map Df.n) <;> cases h2 : dups (g.ds.map Df.n) <;> simp_all
  rw [hmany]
  simp only [Pg.rev, List.mem_reverse, hnod]
  have hbo : (∀ p ∈ (⟨g.ds.reverse, g.m⟩ : Pg).bodies, prightE p = 0) ↔ ∀ p ∈ g.bodies, prightE p = 0 := by
    constructor
    · intro h p hp; exact h p ((mem_bodies_rev g p).2 hp)
    · intro h p hp; exact h p ((mem_bodies_rev g p).1 hp)
  rw [hbo]
  constructor
  · rintro ⟨h1, ⟨h2, h3⟩, h4, h5⟩
    rw [arOf_rev ((dups_nodup _).1 h2)] at h4 h5
    exact ⟨h1, ⟨h2, h3⟩, h4, h5⟩
  · rintro ⟨h1, ⟨h2, h3⟩, h4, h5⟩
    rw [arOf_rev ((dups_nodup _).1 h2)]
    exact ⟨h1, ⟨h2, h3⟩, h4, h5⟩
theorem ggood_rev {g : Pg} (h : GGood g) : GGood g.rev := by
  refine ⟨by simpa [Pg.rev] using h.1, fun d hd => h.2.1 d (by simpa [Pg.rev] using hd), fun p hp => h.2.2 p ((mem_bodies_rev g p).1 hp)⟩
theorem chk_zeroZ {g : Pg} {ca : Nat} (h : g.chk = (0, ca)) : ca = 0 := by
  have h1 := (chk_iff g).1 (by rw [h])
  obtain ⟨q1, q2, q3, q4⟩ := h1
  have := Pg.chk_4 q1 q2 (fun i hi => by
    rcases Nat.lt_or_eq_of_le hi with hlt | rfl
    · rw [Pg.bE_def (List.getElem?_eq_getElem hlt)]; exact q3 _ (List.getElem_mem hlt)
    · rw [Pg.bE_main]; exact q4)
  rw [this] at h
  exact (Prod.mk.inj h).2.symm
theorem little_goodZ {g : Pg} {m : Nat} (hm : m ≤ 100000) (hf : Pg.fine g) (h : g.little m = true) : GGood g := by
  obtain ⟨h1, h2, h3⟩ := Pg.little_facts h
  have hmn := Pr.few_facts h2
  have hds : ∀ d ∈ g.ds, d.b.few m = true ∧ d.ms.length ≤ 20 ∧ ∀ a ∈ d.ms, a.t.few 300 = true := fun d hd => Df.little_facts (h3 d hd)
  refine ⟨by omega, fun d hd a ha => ⟨(hf.1 d hd).1 a ha, (hds d hd).2.2 a ha⟩, fun u hu => ?_⟩
  rcases (mem_bodies g u).1 hu with ⟨d, hd, rfl⟩ | rfl
  · have := Pr.few_facts (hds d hd).1
    exact ⟨⟨(hf.1 d hd).2, this.2.2⟩, by omega, by omega⟩
  · exact ⟨⟨hf.2, hmn.2.2⟩, by omega, by omega⟩

end Go.Proofs.YtgmdmbmkljbgiaaGreatDoor

/- Scopes: a further definition that nobody calls and whose body stops. -/
namespace Go.Proofs.YtgmdmbmkljbgiaaGreatDoor
open Go.RowKit Go.Deep Go.Shelf

theorem nodeE_congr {ar ar' : ByteArray → Option Nat} {p : Pr} {sc : List ByteArray} {g : Bool} (h : ∀ s ∈ selC p, ar s = ar' s) : p.nodeE ar sc g = p.nodeE ar' sc g := by
  unfold Pr.nodeE
  by_cases h8 : p.k = 8
  · rw [h p.c (by unfold selC; rw [if_pos h8]; simp)]
  · simp only [if_neg h8]
theorem scE_congr {ar ar' : ByteArray → Option Nat} : ∀ (p : Pr) (sc : List ByteArray) (g : Bool), (∀ s ∈ p.gath selC, ar s = ar' s) → p.scE ar sc g = p.scE ar' sc g := by
  refine Pr.ind ?_
  intro k c x ls vs t ps ih sc g h
  rw [Pr.gath_eq] at h
  have hn := nodeE_congr (sc := sc) (g := g) (fun s hs => h s (List.mem_append_left _ hs))
  have hk : ∀ (l : List Pr) (sc : List ByteArray) (g : Bool), (∀ u ∈ l, u ∈ ps) → (∀ s ∈ Pr.gaths selC l, ar s = ar' s) → Pr.scEs ar l sc g = Pr.scEs ar' l sc g := by
    intro l
    induction l with
    | nil => intro sc g _ _; rfl
    | cons u r ihr =>
      intro sc g hu hs
      rw [Pr.gaths] at hs
      rw [Pr.scEs, Pr.scEs, ih u (hu u (List.mem_cons_self ..)) sc g (fun s h1 => hs s (List.mem_append_left _ h1)), ihr sc g (fun v hv => hu v (List.mem_cons_of_mem _ hv)) (fun s h1 => hs s (List.mem_append_right _ h1))]
  rw [Pr.scE_eq, Pr.scE_eq, hn, hk (Pr.mk k c x ls vs t ps).ps _ _ (fun u hu => hu) (fun s hs => h s (List.mem_append_right _ hs))]

abbrev newDf (n : ByteArray) : Df := ⟨n, [], sStop⟩
abbrev Pg.more (g : Pg) (n : ByteArray) : Pg := ⟨g.ds ++ [newDf n], g.m⟩
theorem stop_scE (ar : ByteArray → Option Nat) (sc : List ByteArray) (g : Bool) : sStop.scE ar sc g = 0 := by
  rw [Pr.scE_eq]
  have : sStop.nodeE ar sc g = 0 := by simp [Pr.nodeE, sStop, Pr.k, Pr.vs, Pr.c, Pr.bnd, prefixB]
  rw [this]; rfl
theorem arOf_more {ds : List Df} {n s : ByteArray} (h : s ≠ n) : arOf (ds ++ [newDf n]) s = arOf ds s := by
  rw [arOf_snoc, if_neg h]
theorem total_more (g : Pg) (n : ByteArray) : g.total ≤ (g.more n).total := by
  rw [Pg.total_eq, Pg.total_eq]
  show _ ≤ g.m.size + g.m.typ + sumN ((g.ds ++ [newDf n]).map Df.all)
  rw [List.map_append, sumN_append']; omega
theorem pprog_more {g : Pg} {n : ByteArray} (h : pprogE (g.more n) = 0) : pprogE g = 0 := by
  rw [pprog_zero] at h ⊢
  obtain ⟨h1, h2, h3⟩ := h
  refine ⟨?_, fun p hp => h2 p ?_, fun d hd => h3 d (List.mem_append_left _ hd)⟩
  · unfold Pg.many at h1 ⊢
    have := total_more g n
    simp at h1 ⊢; omega
  · rw [mem_bodies] at hp ⊢
    rcases hp with ⟨d, hd, e⟩ | e
    · exact .inl ⟨d, List.mem_append_left _ hd, e⟩
    · exact .inr e
theorem twice_more {ds : List Df} {n : ByteArray} {i : Nat} (hi : i < ds.length) : twiceAt (ds ++ [newDf n]) i = twiceAt ds i := by
  unfold twiceAt
  rw [List.getElem?_append_left hi, List.take_append_of_le_length (by omega)]
theorem twice_new {ds : List Df} {n : ByteArray} (h : n ∉ ds.map Df.n) : twiceAt (ds ++ [newDf n]) ds.length = false := by
  unfold twiceAt
  rw [List.getElem?_append_right (Nat.le_refl _), Nat.sub_self]
  simp only [List.getElem?_cons_zero, List.take_left, Bool.or_eq_false_iff]
  exact ⟨memB_false h, rfl⟩
theorem twF_more {ds : List Df} {n : ByteArray} (h : n ∉ ds.map Df.n) : twF (ds ++ [newDf n]) = twF ds := by
  cases e : twF ds with
  | none =>
    have h1 := List.find?_eq_none.1 e
    refine range_find_none fun j hj => ?_
    rw [List.length_append, List.length_singleton] at hj
    by_cases hl : j < ds.length
    · rw [twice_more hl]; simpa using h1 j (List.mem_range.2 hl)
    · obtain rfl : j = ds.length := by omega
      exact twice_new h
  | some i =>
    unfold twF at e
    rw [List.find?_range_eq_some] at e
    obtain ⟨h1, h2, h3⟩ := e
    have hi := List.mem_range.1 h2
    refine range_find (by rw [List.length_append]; omega) (fun j hj => ?_) (by rw [twice_more hi]; exact h1)
    rw [twice_more (by omega)]; simpa using h3 j hj
/-- The texts that a program calls. -/
def Pg.calls (g : Pg) : List ByteArray := g.m.gath selC ++ (g.ds.map fun d => d.b.gath selC).flatten
theorem bE_more_main {g : Pg} {n : ByteArray} (hn : n ∉ g.calls) : (g.more n).bE (arOf (g.more n).ds) (g.ds.length + 1) = g.bE (arOf g.ds) g.ds.length := by
  have h1 : g.ds.length + 1 = (g.more n).ds.length := by simp
  rw [h1, Pg.bE_main, Pg.bE_main]
  exact scE_congr _ _ _ fun s hs => arOf_more fun e => hn (by rw [← e]; unfold Pg.calls; exact List.mem_append_left _ hs)
theorem bE_more_new {g : Pg} {n : ByteArray} : (g.more n).bE (arOf (g.more n).ds) g.ds.length = 0 := by
  rw [Pg.bE_def (d := newDf n) (by show (g.ds ++ [newDf n])[g.ds.length]? = _; rw [List.getElem?_append_right (Nat.le_refl _), Nat.sub_self]; rfl)]
  exact stop_scE _ _ _
theorem bE_more_lt {g : Pg} {n : ByteArray} (hn : n ∉ g.calls) {i : Nat} (hi : i < g.ds.length) : (g.more n).bE (arOf (g.more n).ds) i = g.bE (arOf g.ds) i := by
  have hd : g.ds[i]? = some g.ds[i] := List.getElem?_eq_getElem hi
  rw [Pg.bE_def hd, Pg.bE_def (d := g.ds[i]) (by show (g.ds ++ [newDf n])[i]? = _; rw [List.getElem?_append_left hi]; exact hd)]
  exact scE_congr _ _ _ fun s hs => arOf_more fun e => hn (by
    rw [← e]; unfold Pg.calls
    exact List.mem_append_right _ (List.mem_flatten.2 ⟨_, List.mem_map.2 ⟨g.ds[i], List.getElem_mem hi, rfl⟩, hs⟩))
theorem chk_more {g : Pg} {n : ByteArray} {ce : Int} {ca : Nat} (hp : pprogE (g.more n) = 0) (hnew : n ∉ g.ds.map Df.n) (hn : n ∉ g.calls) (hc : g.chk = (ce, ca)) :
    ca ≤ g.ds.length ∧ (g.more n).chk = (ce, if ce ≠ 0 ∧ ca = g.ds.length then ca + 1 else ca) := by
  have hp0 := pprog_more hp
  cases ht : twF g.ds with
  | some i =>
    rw [Pg.chk_2 hp0 ht] at hc
    obtain ⟨rfl, rfl⟩ := Prod.mk.inj hc
    have hi : i < g.ds.length := by unfold twF at ht; exact List.mem_range.1 (List.mem_of_find?_eq_some ht)
    refine ⟨by omega, ?_⟩
    rw [Pg.chk_2 hp ((twF_more hnew).trans ht), if_neg (by omega)]
  | none =>
    have ht' : twF (g.more n).ds = none := (twF_more hnew).trans ht
    cases hb : g.bF with
    | none =>
      have h0 : ∀ j, j ≤ g.ds.length → g.bE (arOf g.ds) j = 0 := fun j hj => by
        have := List.find?_eq_none.1 hb j (List.mem_range.2 (by omega))
        simpa using this
      rw [Pg.chk_4 hp0 ht h0] at hc
      obtain ⟨rfl, rfl⟩ := Prod.mk.inj hc
      refine ⟨by omega, ?_⟩
      rw [Pg.chk_4 hp ht' (fun j hj => ?_), if_neg (by simp)]
      rw [show (g.more n).ds.length = g.ds.length + 1 by simp] at hj
      by_cases h1 : j < g.ds.length
      · rw [bE_more_lt hn h1]; exact h0 j (by omega)
      · by_cases h2 : j = g.ds.length
        · rw [h2]; exact bE_more_new
        · rw [show j = g.ds.length + 1 by omega, bE_more_main hn]; exact h0 _ (Nat.le_refl _)
    | some i =>
      unfold Pg.bF at hb
      rw [List.find?_range_eq_some] at hb
      obtain ⟨h1, h2, h3⟩ := hb
      have hi := List.mem_range.1 h2
      have hx : g.bE (arOf g.ds) i ≠ 0 := by simpa using h1
      have hl : ∀ j, j < i → g.bE (arOf g.ds) j = 0 := fun j hj => by simpa using h3 j hj
      rw [Pg.chk_3 hp0 ht (by omega) hl rfl hx] at hc
      obtain ⟨rfl, rfl⟩ := Prod.mk.inj hc
      refine ⟨by omega, ?_⟩
      by_cases he : i = g.ds.length
      · rw [if_pos ⟨hx, he⟩]
        refine Pg.chk_3 hp ht' (by rw [show (g.more n).ds.length = g.ds.length + 1 by simp]; omega) (fun j hj => ?_) (by rw [he, bE_more_main hn]) hx
        by_cases h4 : j < g.ds.length
        · rw [bE_more_lt hn h4]; exact hl j (by omega)
        · rw [show j = g.ds.length by omega]; exact bE_more_new
      · rw [if_neg (fun h => he h.2)]
        have hil : i < g.ds.length := by omega
        refine Pg.chk_3 hp ht' (by rw [show (g.more n).ds.length = g.ds.length + 1 by simp]; omega) (fun j hj => ?_) (bE_more_lt hn hil) hx
        rw [bE_more_lt hn (by omega)]; exact hl j hj

end Go.Proofs.YtgmdmbmkljbgiaaGreatDoor

/- Scopes: lists of definitions that a call owns, and append to them. -/
namespace Go.Proofs.YtgmdmbmkljbgiaaGreatDoor
open Go.RowKit Go.Deep Go.Shelf

/-- A definition with the slices in its cells. -/
structure DV where
  d : Df
  mv : Value
  lv : Value
  av : Value
  tl : Value
  tk : Value
  kv : Value
def DV.cells (e : DV) : List Value := [.string e.d.n, e.mv, .int .i64 e.d.b.k, .string e.d.b.c, .string e.d.b.x, e.lv, e.av, .int .i64 e.d.b.t.k, .int .i64 e.d.b.t.p, .string e.d.b.t.n, .int .i64 e.d.b.t.s, e.tl, e.tk, e.kv]
theorem DV.cells_len (e : DV) : e.cells.length = 14 := rfl
structure DV.Ok (B : Nat → Prop) (w : World) (e : DV) : Prop where
  n : e.d.n.size ≤ maxLen
  m : PmSl B w e.mv e.d.ms
  p : PrVal B w (prAgg e.d.b e.lv e.av e.tl e.tk e.kv) e.d.b
theorem DV.Ok.to {B : Nat → Prop} {w w' : World} {e : DV} (h : e.Ok B w) (hb : Keeps B w w') : e.Ok B w' := ⟨h.n, h.m.keep hb, h.p.keep hb⟩
theorem DV.Ok.slices {B : Nat → Prop} {w : World} {e : DV} (h : e.Ok B w) : (∃ a n c, e.mv = .slice a n c) ∧ (∃ a n c, e.lv = .slice a n c) ∧ (∃ a n c, e.av = .slice a n c) ∧ (∃ a n c, e.tl = .slice a n c) ∧ (∃ a n c, e.tk = .slice a n c) ∧ ∃ a n c, e.kv = .slice a n c := by
  obtain ⟨a, n, c, h1, _⟩ := h.m.open
  obtain ⟨h2, h3, h4, h5, h6⟩ := pr_slices h.p
  exact ⟨⟨a, n, c, h1⟩, h2, h3, h4, h5, h6⟩
theorem DV.Ok.one {B : Nat → Prop} {w : World} {e : DV} (h : e.Ok B w) : ∀ u ∈ e.cells, u.oneCell' = true := by
  obtain ⟨⟨_, _, _, h1⟩, ⟨_, _, _, h2⟩, ⟨_, _, _, h3⟩, ⟨_, _, _, h4⟩, ⟨_, _, _, h5⟩, _, _, _, h6⟩ := h.slices
  unfold DV.cells
  rw [h1, h2, h3, h4, h5, h6]
  intro u hu
  simp only [List.mem_cons, List.not_mem_nil, or_false] at hu
  rcases hu with rfl | rfl | rfl | rfl | rfl | rfl | rfl | rfl | rfl | rfl | rfl | rfl | rfl | rfl <;> rfl
/-- What lies at a definition in memory. -/
theorem DfAt.dv {B : Nat → Prop} {w : World} {d : Df} {b o : Nat} (h : DfAt B w d b o) : ∃ e : DV, e.d = d ∧ e.Ok B w ∧ ∀ i u, e.cells[i]? = some u → w.cell? ⟨b, o + i, none⟩ = some u := by
  obtain ⟨h1, h2, ⟨mv, h3, h4⟩, h5⟩ := h
  obtain ⟨la, ln, lc, aa, an, ac, ta, tn, tc, ua, un, uc, ka, kn, kc, ⟨c0, c1, c2, c3, c4, c5, c6, c7, c8, c9, c10, c11⟩, hv⟩ := h5.load'
  refine ⟨⟨d, mv, .slice la ln lc, .slice aa an ac, .slice ta tn tc, .slice ua un uc, .slice ka kn kc⟩, rfl, ⟨h1, h4, hv⟩, fun i u hi => ?_⟩
  unfold DV.cells at hi
  match i, hi with
  | 0, hi => cases hi; exact h2
  | 1, hi => cases hi; exact h3
  | 2, hi => cases hi; exact c0
  | 3, hi => cases hi; exact c1
  | 4, hi => cases hi; exact c2
  | 5, hi => cases hi; exact c3
  | 6, hi => cases hi; exact c4
  | 7, hi => cases hi; exact c5
  | 8, hi => cases hi; exact c6
  | 9, hi => cases hi; exact c7
  | 10, hi => cases hi; exact c8
  | 11, hi => cases hi; exact c9
  | 12, hi => cases hi; exact c10
  | 13, hi => cases hi; exact c11
  | i + 14, hi => simp at hi
theorem dv_at {B S : Nat → Prop} {w : World} {e : DV} {b o : Nat} (h : e.Ok B w) (hBS : ∀ k, B k → S k) (hb : S b) (hc : ∀ i u, e.cells[i]? = some u → w.cell? ⟨b, o + i, none⟩ = some u) : DfAt S w e.d b o :=
  ⟨h.n, hc 0 _ rfl, ⟨e.mv, hc 1 _ rfl, h.m.mono hBS⟩, prAt_of hb (hc 2 _ rfl) (hc 3 _ rfl) (hc 4 _ rfl) (hc 5 _ rfl) (hc 6 _ rfl) (hc 7 _ rfl) (hc 8 _ rfl) (hc 9 _ rfl) (hc 10 _ rfl) (hc 11 _ rfl) (hc 12 _ rfl) (hc 13 _ rfl) (h.p.mono hBS)⟩

/-- All cells, one definition behind the other. -/
def dvCells : List DV → List Value
  | [] => []
  | e :: r => e.cells ++ dvCells r
theorem dvCells_append (l r : List DV) : dvCells (l ++ r) = dvCells l ++ dvCells r := by
  induction l with
  | nil => rfl
  | cons e l ih => rw [List.cons_append, dvCells, ih, dvCells, List.append_assoc]
theorem dvCells_len (l : List DV) : (dvCells l).length = l.length * 14 := by
  induction l with
  | nil => rfl
  | cons e l ih => rw [dvCells, List.length_append, ih, e.cells_len, List.length_cons]; omega
theorem dvCells_get : ∀ (l : List DV) (j i : Nat) (e : DV), l[j]? = some e → i < 14 → (dvCells l)[j * 14 + i]? = e.cells[i]?
  | [], j, i, e, h, _ => by simp at h
  | x :: r, 0, i, e, h, hi => by
    simp at h; subst h
    rw [dvCells, Nat.zero_mul, Nat.zero_add, List.getElem?_append_left (by rw [x.cells_len]; exact hi)]
  | x :: r, j + 1, i, e, h, hi => by
    rw [dvCells, List.getElem?_append_right (by rw [x.cells_len]; omega), x.cells_len, show (j + 1) * 14 + i - 14 = j * 14 + i by omega]
    exact dvCells_get r j i e (by simpa using h) hi
theorem dvCells_inv {l : List DV} {q : Nat} {u : Value} (h : (dvCells l)[q]? = some u) : ∃ e ∈ l, u ∈ e.cells := by
  induction l generalizing q with
  | nil => simp [dvCells] at h
  | cons x r ih =>
    rw [dvCells] at h
    have hm := List.mem_of_getElem? h
    rcases List.mem_append.1 hm with hm | hm
    · exact ⟨x, by simp, hm⟩
    · obtain ⟨i, hi⟩ := List.getElem?_of_mem hm
      obtain ⟨e, he, hu⟩ := ih hi
      exact ⟨e, by simp [he], hu⟩

abbrev zero14 : Value := .agg #[.string ⟨#[]⟩, .slice none 0 0, .int .i64 0, .string ⟨#[]⟩, .string ⟨#[]⟩, .slice none 0 0, .slice none 0 0, .int .i64 0, .int .i64 0, .string ⟨#[]⟩, .int .i64 0, .slice none 0 0, .slice none 0 0, .slice none 0 0]
theorem defInfo : (Tryz.prog.info? 45).map (fun i => (i.zero, i.size, i.bytes)) = some (some zero14, 14, 240) := by kernel_rfl

/-- A list of definitions that lies in a row of the call's own. -/
def DRow (base : Nat) (W : World) (v : Value) (es : List DV) : Prop := W.ownsRow base 45 14 v es.length (dvCells es)
theorem DRow.nil (base : Nat) (W : World) : DRow base W (.slice none 0 0) [] := World.ownsRow_nil _ _ _ _
theorem DRow.alloc {base : Nat} {W : World} {v : Value} {l : List DV} (h : DRow base W v l) (o : Obj) : DRow base (W.alloc o) v l := World.ownsRow.alloc h o
theorem DRow.drew {base : Nat} {W : World} {v : Value} {l : List DV} (h : DRow base W v l) : DRow base W.drew v l := h
theorem DRow.lt {base : Nat} {W : World} {v : Value} {l : List DV} (h : DRow base W v l) : ∀ k, v.ownBlock = some k → base ≤ k ∧ k < W.heap.size := World.ownsRow.lt h
theorem DRow.kept {base : Nat} {W W' : World} {v : Value} {l : List DV} (h : DRow base W v l) (hb : ∀ k, v.ownBlock = some k → W'.heap[k]? = W.heap[k]?) : DRow base W' v l := by
  refine ⟨h.1, ?_⟩
  rcases h.2 with h0 | ⟨g, cap, cur, rfl, hbg, hg, r⟩
  · exact .inl h0
  · exact .inr ⟨g, cap, cur, rfl, hbg, (hb g rfl).trans hg, r⟩
theorem DRow.to {base : Nat} {W W' : World} {v : Value} {l : List DV} (h : DRow base W v l) (hb : Below W.heap.size W W') : DRow base W' v l := h.kept fun k hk => hb.block k (h.lt k hk).2
theorem DRow.slice {base : Nat} {W : World} {v : Value} {l : List DV} (h : DRow base W v l) : ∃ a m c, v = .slice a m c := by
  rcases h.2 with ⟨rfl, _⟩ | ⟨g, cap, cur, rfl, _⟩
  · exact ⟨_, _, _, rfl⟩
  · exact ⟨_, _, _, rfl⟩
theorem DRow.empty (base : Nat) (w0 : World) (b : Nat) (hb : b = w0.heap.size) (h : base ≤ w0.heap.size) : DRow base (w0.alloc (.cells #[] 45)) (.slice (some ⟨b, 0, none⟩) 0 0) [] := by
  subst hb
  refine ⟨rfl, .inr ⟨w0.heap.size, 0, #[], rfl, h, World.alloc_heap_new _ _, ?_⟩⟩
  simp [dvCells]
theorem DRow.dfs {base : Nat} {B : Nat → Prop} {W : World} {v : Value} {l : List DV} (h : DRow base W v l) (hok : ∀ e ∈ l, e.Ok B W) (hl : l.length ≤ maxLen) : DfSl (fun k => B k ∨ (base ≤ k ∧ k < W.heap.size)) W v (l.map DV.d) := by
  refine ⟨?_, by simpa using hl⟩
  rcases h.2 with ⟨rfl, h0⟩ | ⟨g, cap, cur, rfl, hbg, hg, r⟩
  · have : l = [] := List.length_eq_zero_iff.1 h0
    subst this
    exact .inl ⟨⟨_, _, rfl⟩, rfl⟩
  · refine .inr ⟨g, 0, cap, by rw [List.length_map], .inr ⟨hbg, (h.lt g rfl).2⟩, fun j d hj => ?_⟩
    rw [List.getElem?_map] at hj
    obtain ⟨e, he, rfl⟩ := Option.map_eq_some_iff.1 hj
    have hjl : j < l.length := (List.getElem?_eq_some_iff.1 he).1
    refine dv_at (hok e (List.mem_of_getElem? he)) (fun k hk => .inl hk) (.inr ⟨hbg, (h.lt g rfl).2⟩) (fun i u hi => ?_)
    have hi14 : i < 14 := by have := (List.getElem?_eq_some_iff.1 hi).1; rwa [e.cells_len] at this
    rw [show 0 + j * 14 + i = j * 14 + i by omega, World.ownsRow.cellAt h (j * 14 + i) (by omega), dvCells_get l j i e he hi14]
    exact hi

theorem run_nothingD (base : Nat) (ty : TypeId) (v : Value) (l : List DV) (w : World) (hown : DRow base w v l) (a : Option Addr) (c : Nat) :
    (Builtin.append_ #[22, 22] ty #[v, .slice a 0 c]).run Tryz.prog w = .ok v w := by
  obtain ⟨i0, hi, hz0, hz1, hz2⟩ := info_parts defInfo
  have ht := Tryz.underlying22
  rcases hown.2 with ⟨rfl, h0⟩ | ⟨g, cap, cur, rfl, _, _, hnc, _⟩
  · cases a with
    | none => simp [Builtin.append_, run_underlying ht, sizeOf, typeInfo, hi, Builtin.lenOf, Builtin.firstCells]
    | some ad => simp [Builtin.append_, run_underlying ht, sizeOf, typeInfo, hi, Builtin.lenOf, Builtin.firstCells, loadCells, loadCellsFrom]
  · cases a with
    | none => simp [Builtin.append_, run_underlying ht, sizeOf, typeInfo, hi, Builtin.lenOf, Builtin.firstCells, hnc, storeCells]
    | some ad => simp [Builtin.append_, run_underlying ht, sizeOf, typeInfo, hi, Builtin.lenOf, Builtin.firstCells, hnc, storeCells, loadCells, loadCellsFrom]

/-- append of a list of definitions, which may be empty, to one of the call's own, which may be nil. -/
theorem run_appD (base : Nat) (ty : TypeId) (v : Value) (l : List DV) (w : World) (hown : DRow base w v l) (na : Option Addr) (nn nc : Nat) (news : List DV) (hnn : nn = news.length) (hsrc : news = [] ∨ ∃ b o, na = some ⟨b, o, none⟩ ∧ ∀ (j : Nat) (e : DV) (i : Nat) (u : Value), news[j]? = some e → e.cells[i]? = some u → w.cell? ⟨b, o + (j * 14 + i), none⟩ = some u) (hone : ∀ e ∈ news, ∀ u ∈ e.cells, u.oneCell' = true) (h63 : l.length + news.length ≤ 100000) (hbase : base ≤ w.heap.size) :
    ∃ ga gn gc w', (Builtin.append_ #[22, 22] ty #[v, .slice na nn nc]).run Tryz.prog w = .ok (.slice ga gn gc) w' ∧ DRow base w' (.slice ga gn gc) (l ++ news) ∧ w.grownBy w' v.ownBlock := by
  obtain ⟨i0, hi, hz0, hz1, hz2⟩ := info_parts defInfo
  subst hnn
  rcases hsrc with rfl | ⟨b, o, rfl, hc⟩
  · obtain ⟨ga, gn, gc, rfl⟩ := hown.slice
    exact ⟨_, _, _, w, run_nothingD base ty _ _ w hown na nc, by rw [List.append_nil]; exact hown, ⟨rfl, rfl, rfl, Nat.le_refl _, fun _ _ _ => rfl⟩⟩
  · obtain ⟨v', w', hr, h2, h3, h4, h5⟩ := run_append_own_at (P := Tryz.prog) w base 22 ty 45 i0 _ 14 240 Tryz.underlying22 hi hz0 hz1 hz2 rfl (by decide) _ _ _ hown ⟨b, o, none⟩ news.length nc (dvCells news) (dvCells_len news) (fun j u hj => by
      have hjl : j < news.length * 14 := by have := (List.getElem?_eq_some_iff.1 hj).1; rwa [dvCells_len] at this
      have hq : j / 14 < news.length := by omega
      obtain ⟨e, he⟩ : ∃ e, news[j / 14]? = some e := ⟨_, List.getElem?_eq_getElem hq⟩
      have hj2 : j = j / 14 * 14 + j % 14 := by omega
      rw [hj2, dvCells_get news (j / 14) (j % 14) e he (by omega)] at hj
      have h := hc (j / 14) e (j % 14) u he hj
      rw [← hj2] at h
      cases j with
      | zero => simpa [Addr.add] using h
      | succ j => simpa [Addr.add] using h) (fun u hu => by
      obtain ⟨q, hq⟩ := List.getElem?_of_mem hu
      obtain ⟨e, he, hue⟩ := dvCells_inv hq
      exact hone e he u hue) (by unfold maxLen; omega) (by omega) hbase
    have h2' : DRow base w' v' (l ++ news) := by unfold DRow; rw [List.length_append, dvCells_append]; exact h2
    obtain ⟨ga, gn, gc, rfl⟩ := h2'.slice
    exact ⟨_, _, _, w', hr, h2', h3⟩

/-- .. at a step of a region that draws its order. -/
theorem step_appD {ops : Array Oper} {o : Oper} {a : Act} {w : World} {K : Act → World → Prop} {Q : Exit → Act → World → Prop} {E : Prop} (hgd : o.guard = none) (s x : Operand)
    (ho : o.op = .call { callee := .builtin .append, args := #[s, x], argTypes := #[22, 22] })
    (base : Nat) (l : List DV) (v : Value) (hs : a.eval s = v) (hown : DRow base w v l) (na : Option Addr) (nn nc : Nat) (news : List DV) (hx : a.eval x = .slice na nn nc) (hnn : nn = news.length) (hsrc : news = [] ∨ ∃ b o, na = some ⟨b, o, none⟩ ∧ ∀ (j : Nat) (e : DV) (i : Nat) (u : Value), news[j]? = some e → e.cells[i]? = some u → w.cell? ⟨b, o + (j * 14 + i), none⟩ = some u) (hone : ∀ e ∈ news, ∀ u ∈ e.cells, u.oneCell' = true) (h63 : l.length + news.length ≤ 100000) (hbase : base ≤ w.heap.size)
    (m : List DV) (hm : l ++ news = m)
    (h : ∀ ga gn gc w', DRow base w' (.slice ga gn gc) m → w.grownBy w' v.ownBlock → K (a.put o.dst (.slice ga gn gc)) w') :
    if Region.wanted o (yielded ops a.tmps) = true then Oper.wp Tryz.prog o a w K Q else E := by
  subst hm
  have hw : Region.wanted o (yielded ops a.tmps) = true := by simp [Region.wanted, hgd]
  rw [if_pos hw]
  obtain ⟨ga, gn, gc, w', hr, h2, h3⟩ := run_appD base o.type v l w hown na nn nc news hnn hsrc hone h63 hbase
  unfold Oper.wp execOp
  simp only [ho, resolve, invoke, builtin, Sem.run_bind, Sem.run_pure, Result.andThen_ok, List.map_toArray, List.map_cons, List.map_nil, hs, hx, hr]
  exact h ga gn gc w' h2 h3

end Go.Proofs.YtgmdmbmkljbgiaaGreatDoor

/- Scopes: the reference's Calls. -/
namespace Go.Proofs.YtgmdmbmkljbgiaaGreatDoor
open Go.RowKit Go.Deep Go.Shelf

abbrev sbox12 (w : World) (p : Pr) (lv av tl tk kv : Value) : World := w.alloc (cell12 p lv av tl tk kv)
def RCallsP (p : Pr) : Prop := ∀ (v : Value) (w : World), PLies w v p → p.size ≤ 1000000 → Calls Tryz.prog 12 #[v] w (StrRet w (p.gath selC))

set_option maxHeartbeats 4000000 in
set_option maxRecDepth 100000 in
theorem rcalls_step (p : Pr) (ih : ∀ u ∈ p.ps, RCallsP u) : RCallsP p := by
  intro v w hv hsz
  obtain ⟨lv, av, tl, tk, kv, rfl, ⟨hcz, hxz⟩, hl, ha, hty, hk⟩ := hv
  obtain ⟨ka, kn, kc, rfl, hkl, hkm, hkg⟩ := hk.open
  have CE : Hid (∀ W, Below (w.heap.size + 1) (sbox12 w p lv av tl tk (.slice ka kn kc)) W → W.cell? ⟨w.heap.size, 0, none⟩ = some (.int .i64 p.k) ∧ W.cell? ⟨w.heap.size, 1, none⟩ = some (.string p.c) ∧ W.cell? ⟨w.heap.size, 11, none⟩ = some (.slice ka kn kc)) :=
    Lib.hid (fun W hW => ⟨blk_cell hW 0 rfl, blk_cell hW 1 rfl, blk_cell hW 11 rfl⟩)
  have HLow : Hid (∀ W, Below (w.heap.size + 1) (sbox12 w p lv av tl tk (.slice ka kn kc)) W → Below w.heap.size w W) := Lib.hid (fun W hW => blk_below hW)
  have HKG : Hid (∀ (i : Nat) (u : Pr), p.ps[i]? = some u → ∃ gb go, ka = some ⟨gb, go, none⟩ ∧ gb < w.heap.size ∧ ∀ W, Below w.heap.size w W → PrAt (fun k => k < w.heap.size) W u gb (go + i * 12)) := Lib.hid (fun i u hi => by
    obtain ⟨gb, go, e, hgb, hu⟩ := hkg i u hi
    exact ⟨gb, go, e, hgb, fun W hW => PrAt.keep (hW.keeps'.mono (fun _ h => h)) _ _ _ hu⟩)
  have HIH := Lib.hid ih
  have hsize := p.size_eq
  have HN := Lib.hid (And.intro hsize hsz)
  have HCX := Lib.hid hcz
  have HKL := Lib.hid hkl.out
  have HB0 : Hid (Below (w.heap.size + 1) (sbox12 w p lv av tl tk (.slice ka kn kc)) (sbox12 w p lv av tl tk (.slice ka kn kc))) := Lib.hid (Below.refl _ _)
  clear hk hkg hkl ha hty hl ih hsize hsz hcz hxz
  go_enter Tryz.func12, Tryz.ntmps12
  go_upto_if 7 with fail
  go_cut [3] from 5 (fun v wc => ∃ sa sn sc, v = .slice sa sn sc ∧ Hid (Row (w.heap.size + 1) wc (.slice sa sn sc) (selC p)) ∧ Hid (Below (w.heap.size + 1) (sbox12 w p lv av tl tk (.slice ka kn kc)) wc))
  case first =>
    obtain ⟨c0, c1, _⟩ := CE.out _ HB0.out
    by_cases h8 : p.k = 8
    · have HSEL : Hid (selC p = [p.c]) := Lib.hid (by unfold selC; rw [if_pos h8])
      have h8' : (p.k == 8) = true := by simpa using h8
      have HSO : Hid (StrSl (Fresh (sbox12 w p lv av tl tk (.slice ka kn kc)).heap.size ((sbox12 w p lv av tl tk (.slice ka kn kc)).alloc (.cells #[.string p.c] 9)).heap.size) ((sbox12 w p lv av tl tk (.slice ka kn kc)).alloc (.cells #[.string p.c] 9)) (.slice (some ⟨(sbox12 w p lv av tl tk (.slice ka kn kc)).heap.size, 0, none⟩) 1 1) [p.c]) := Lib.hid (strSl_made [p.c] (Below.refl _ _) (fun s hs => by rw [List.mem_singleton.1 hs]; exact HCX.out) (by simp [maxLen]))
      rw [World.size_alloc] at HSO
      clear h8
      go_wp2_with (at_builtin; refine wpList_app rfl _ _ rfl (w.heap.size + 1) [] (.slice none 0 0) rfl (Row.nil _ _) _ _ _ _ [p.c] rfl HSO.out (by simp) (by simp) ?_; intro ga gn gc w2 hrow hgrow _)
      go_meet
      case rel => exact ⟨_, _, _, rfl, Lib.hid (by rw [HSEL.out]; exact hrow), Lib.hid ((HB0.out.alloc (by simp) _).grown hgrow (by simp) (fun k e => by cases e))⟩
    · have HSEL : Hid (selC p = []) := Lib.hid (by unfold selC; rw [if_neg h8])
      have h8' : (p.k == 8) = false := by simpa using h8
      clear h8
      go_wp2_with fail
      go_meet
      case rel => exact ⟨_, _, _, rfl, Lib.hid (by rw [HSEL.out]; exact Row.nil _ _), HB0⟩
  case rest =>
    obtain ⟨sa, sn, sc, rfl, HR0, HB1⟩ := hcut
    go_wp2_with fail
    go_loopw [3, 4] (fun v i wr => ∃ (j : Nat) (a : Option Addr) (n c : Nat), i = .int .i64 j ∧ j ≤ kn ∧ v = .slice a n c ∧ Hid (Row (w.heap.size + 1) wr (.slice a n c) (selC p ++ Pr.gaths selC (p.ps.take j))) ∧ Hid (Below (w.heap.size + 1) (sbox12 w p lv av tl tk (.slice ka kn kc)) wr)) (fun _ i _ => kn - (intOf i).toNat)
    case atStart => exact ⟨0, _, _, _, rfl, by omega, rfl, Lib.hid (by simpa [Pr.gaths] using HR0.out), HB1⟩
    case round =>
      obtain ⟨j, ga, gn, gc, rfl, hj, rfl, HR, HB⟩ := hrel
      obtain ⟨_, _, c11⟩ := CE.out _ HB.out
      have hlw := HLow.out _ HB.out
      have hz1 : w.heap.size + 1 ≤ wr.heap.size := by have := HB.out.size; simpa using this
      have hgl := Pr.gaths_len selC_len (p.ps.take j)
      have hsl0 := selC_len p
      by_cases hlt : j < kn
      · obtain ⟨u, hu⟩ : ∃ u, p.ps[j]? = some u := ⟨_, List.getElem?_eq_getElem (by rw [← HKL.out]; exact hlt)⟩
        obtain ⟨kb, ko, rfl, hkb, hpa⟩ := HKG.out j u hu
        obtain ⟨la1, ln1, lc1, aa1, an1, ac1, ta1, tn1, tc1, ua1, un1, uc1, ka1, kn1, kc1, ⟨d0, d1, d2, d3, d4, d5, d6, d7, d8, d9, d10, d11⟩, hval⟩ := (hpa wr hlw).load'
        have hum := List.mem_of_getElem? hu
        have hus := Pr.sizes_take hu
        have husl := Pr.sizes_take_le p.ps (j + 1)
        have hul := Pr.gath_len selC_len u
        have HNN := HN.out
        have HC : Hid (Calls Tryz.prog 12 #[prAgg u (.slice la1 ln1 lc1) (.slice aa1 an1 ac1) (.slice ta1 tn1 tc1) (.slice ua1 un1 uc1) (.slice ka1 kn1 kc1)] wr (StrRet wr (u.gath selC))) := Lib.hid (HIH.out u hum _ wr (hval.mono (fun k hk => Nat.lt_of_lt_of_le hk hlw.size)) (by omega))
        have HT : Hid (selC p ++ Pr.gaths selC (p.ps.take (j + 1)) = (selC p ++ Pr.gaths selC (p.ps.take j)) ++ u.gath selC) := Lib.hid (by rw [Pr.gaths_take hu, List.append_assoc])
        have HLN : Hid ((selC p ++ Pr.gaths selC (p.ps.take j)).length + (u.gath selC).length ≤ 1000000000) := Lib.hid (by rw [List.length_append]; omega)
        unfold prAgg at HC
        clear hu hpa hval hum hus husl hul HNN hgl hsl0
        go_wp2_with (first | (go_at_call 12; refine HC.out.mono ?_; rintro e w5 ⟨ya, yn, yc, rfl, hsl, hb5⟩; have HSL := Lib.hid hsl; have HB6 := Lib.hid hb5; have HR5 := Lib.hid (HR.out.to hb5); have hz6 := hb5.size; clear hsl hb5) | (at_builtin; refine wpList_app rfl _ _ rfl (w.heap.size + 1) (selC p ++ Pr.gaths selC (p.ps.take j)) (.slice ga gn gc) rfl HR5.out _ _ _ _ (u.gath selC) rfl HSL.out HLN.out (Nat.le_trans hz1 hz6) ?_; intro fa' fn' fc' w6 hrow hgrow hat; have HRW := Lib.hid hrow; have HGW := Lib.hid hgrow; clear hrow hgrow hat))
        go_roundw
        case rel => exact ⟨j + 1, _, _, _, by go_num, by omega, rfl, Lib.hid (by rw [HT.out]; exact HRW.out), Lib.hid ((HB.out.trans (HB6.out.mono hz1)).grown HGW.out (Nat.le_trans hz1 hz6) (fun k e => (HR5.out.lt k e).1))⟩
        case measure => simp [intOf]; omega
      · obtain rfl : kn = j := by omega
        have HLE : Hid (selC p ++ Pr.gaths selC (p.ps.take kn) = p.gath selC) := Lib.hid (by rw [List.take_of_length_le (by rw [HKL.out]; exact Nat.le_refl _), Pr.gath_eq])
        have HLL : Hid ((p.gath selC).length ≤ maxLen) := Lib.hid (by have := Pr.gath_len selC_len p; have := HN.out; unfold maxLen; omega)
        clear hgl hsl0
        go_wp2_with fail
        go_ret
        refine ⟨_, _, _, rfl, ?_, hlw⟩
        have h := HR.out
        rw [HLE.out] at h
        exact (h.strs HLL.out).2.mono (fun k hk => ⟨by have := hk.1; omega, hk.2⟩)

theorem rcalls_any : ∀ p : Pr, RCallsP p := by
  refine Pr.ind ?_
  intro k c x ls vs t ps ih
  exact rcalls_step (.mk k c x ls vs t ps) ih

end Go.Proofs.YtgmdmbmkljbgiaaGreatDoor

/- Scopes: the list that the reference's Calls gives is the call's own. -/
namespace Go.Proofs.YtgmdmbmkljbgiaaGreatDoor
open Go.RowKit Go.Deep Go.Shelf

set_option maxHeartbeats 4000000 in
set_option maxRecDepth 100000 in
theorem rcallsR_any (p : Pr) (v : Value) (w : World) (hv : PLies w v p) (hsz : p.size ≤ 1000000) :
    Calls Tryz.prog 12 #[v] w fun e w' => ∃ a n c, e = .returned (.slice a n c) ∧ Row (w.heap.size + 1) w' (.slice a n c) (p.gath selC) ∧ w.heap.size + 1 ≤ w'.heap.size ∧ Below w.heap.size w w' := by
  obtain ⟨lv, av, tl, tk, kv, rfl, ⟨hcz, hxz⟩, hl, ha, hty, hk⟩ := hv
  obtain ⟨ka, kn, kc, rfl, hkl, hkm, hkg⟩ := hk.open
  have CE : Hid (∀ W, Below (w.heap.size + 1) (sbox12 w p lv av tl tk (.slice ka kn kc)) W → W.cell? ⟨w.heap.size, 0, none⟩ = some (.int .i64 p.k) ∧ W.cell? ⟨w.heap.size, 1, none⟩ = some (.string p.c) ∧ W.cell? ⟨w.heap.size, 11, none⟩ = some (.slice ka kn kc)) :=
    Lib.hid (fun W hW => ⟨blk_cell hW 0 rfl, blk_cell hW 1 rfl, blk_cell hW 11 rfl⟩)
  have HLow : Hid (∀ W, Below (w.heap.size + 1) (sbox12 w p lv av tl tk (.slice ka kn kc)) W → Below w.heap.size w W) := Lib.hid (fun W hW => blk_below hW)
  have HKG : Hid (∀ (i : Nat) (u : Pr), p.ps[i]? = some u → ∃ gb go, ka = some ⟨gb, go, none⟩ ∧ gb < w.heap.size ∧ ∀ W, Below w.heap.size w W → PrAt (fun k => k < w.heap.size) W u gb (go + i * 12)) := Lib.hid (fun i u hi => by
    obtain ⟨gb, go, e, hgb, hu⟩ := hkg i u hi
    exact ⟨gb, go, e, hgb, fun W hW => PrAt.keep (hW.keeps'.mono (fun _ h => h)) _ _ _ hu⟩)
  have HIH : Hid (∀ u ∈ p.ps, RCallsP u) := Lib.hid (fun u _ => rcalls_any u)
  have hsize := p.size_eq
  have HN := Lib.hid (And.intro hsize hsz)
  have HCX := Lib.hid hcz
  have HKL := Lib.hid hkl.out
  have HB0 : Hid (Below (w.heap.size + 1) (sbox12 w p lv av tl tk (.slice ka kn kc)) (sbox12 w p lv av tl tk (.slice ka kn kc))) := Lib.hid (Below.refl _ _)
  clear hk hkg hkl ha hty hl hsize hsz hcz hxz
  go_enter Tryz.func12, Tryz.ntmps12
  go_upto_if 7 with fail
  go_cut [3] from 5 (fun v wc => ∃ sa sn sc, v = .slice sa sn sc ∧ Hid (Row (w.heap.size + 1) wc (.slice sa sn sc) (selC p)) ∧ Hid (Below (w.heap.size + 1) (sbox12 w p lv av tl tk (.slice ka kn kc)) wc))
  case first =>
    obtain ⟨c0, c1, _⟩ := CE.out _ HB0.out
    by_cases h8 : p.k = 8
    · have HSEL : Hid (selC p = [p.c]) := Lib.hid (by unfold selC; rw [if_pos h8])
      have h8' : (p.k == 8) = true := by simpa using h8
      have HSO : Hid (StrSl (Fresh (sbox12 w p lv av tl tk (.slice ka kn kc)).heap.size ((sbox12 w p lv av tl tk (.slice ka kn kc)).alloc (.cells #[.string p.c] 9)).heap.size) ((sbox12 w p lv av tl tk (.slice ka kn kc)).alloc (.cells #[.string p.c] 9)) (.slice (some ⟨(sbox12 w p lv av tl tk (.slice ka kn kc)).heap.size, 0, none⟩) 1 1) [p.c]) := Lib.hid (strSl_made [p.c] (Below.refl _ _) (fun s hs => by rw [List.mem_singleton.1 hs]; exact HCX.out) (by simp [maxLen]))
      rw [World.size_alloc] at HSO
      clear h8
      go_wp2_with (at_builtin; refine wpList_app rfl _ _ rfl (w.heap.size + 1) [] (.slice none 0 0) rfl (Row.nil _ _) _ _ _ _ [p.c] rfl HSO.out (by simp) (by simp) ?_; intro ga gn gc w2 hrow hgrow _)
      go_meet
      case rel => exact ⟨_, _, _, rfl, Lib.hid (by rw [HSEL.out]; exact hrow), Lib.hid ((HB0.out.alloc (by simp) _).grown hgrow (by simp) (fun k e => by cases e))⟩
    · have HSEL : Hid (selC p = []) := Lib.hid (by unfold selC; rw [if_neg h8])
      have h8' : (p.k == 8) = false := by simpa using h8
      clear h8
      go_wp2_with fail
      go_meet
      case rel => exact ⟨_, _, _, rfl, Lib.hid (by rw [HSEL.out]; exact Row.nil _ _), HB0⟩
  case rest =>
    obtain ⟨sa, sn, sc, rfl, HR0, HB1⟩ := hcut
    go_wp2_with fail
    go_loopw [3, 4] (fun v i wr => ∃ (j : Nat) (a : Option Addr) (n c : Nat), i = .int .i64 j ∧ j ≤ kn ∧ v = .slice a n c ∧ Hid (Row (w.heap.size + 1) wr (.slice a n c) (selC p ++ Pr.gaths selC (p.ps.take j))) ∧ Hid (Below (w.heap.size + 1) (sbox12 w p lv av tl tk (.slice ka kn kc)) wr)) (fun _ i _ => kn - (intOf i).toNat)
    case atStart => exact ⟨0, _, _, _, rfl, by omega, rfl, Lib.hid (by simpa [Pr.gaths] using HR0.out), HB1⟩
    case round =>
      obtain ⟨j, ga, gn, gc, rfl, hj, rfl, HR, HB⟩ := hrel
      obtain ⟨_, _, c11⟩ := CE.out _ HB.out
      have hlw := HLow.out _ HB.out
      have hz1 : w.heap.size + 1 ≤ wr.heap.size := by have := HB.out.size; simpa using this
      have hgl := Pr.gaths_len selC_len (p.ps.take j)
      have hsl0 := selC_len p
      by_cases hlt : j < kn
      · obtain ⟨u, hu⟩ : ∃ u, p.ps[j]? = some u := ⟨_, List.getElem?_eq_getElem (by rw [← HKL.out]; exact hlt)⟩
        obtain ⟨kb, ko, rfl, hkb, hpa⟩ := HKG.out j u hu
        obtain ⟨la1, ln1, lc1, aa1, an1, ac1, ta1, tn1, tc1, ua1, un1, uc1, ka1, kn1, kc1, ⟨d0, d1, d2, d3, d4, d5, d6, d7, d8, d9, d10, d11⟩, hval⟩ := (hpa wr hlw).load'
        have hum := List.mem_of_getElem? hu
        have hus := Pr.sizes_take hu
        have husl := Pr.sizes_take_le p.ps (j + 1)
        have hul := Pr.gath_len selC_len u
        have HNN := HN.out
        have HC : Hid (Calls Tryz.prog 12 #[prAgg u (.slice la1 ln1 lc1) (.slice aa1 an1 ac1) (.slice ta1 tn1 tc1) (.slice ua1 un1 uc1) (.slice ka1 kn1 kc1)] wr (StrRet wr (u.gath selC))) := Lib.hid (HIH.out u hum _ wr (hval.mono (fun k hk => Nat.lt_of_lt_of_le hk hlw.size)) (by omega))
        have HT : Hid (selC p ++ Pr.gaths selC (p.ps.take (j + 1)) = (selC p ++ Pr.gaths selC (p.ps.take j)) ++ u.gath selC) := Lib.hid (by rw [Pr.gaths_take hu, List.append_assoc])
        have HLN : Hid ((selC p ++ Pr.gaths selC (p.ps.take j)).length + (u.gath selC).length ≤ 1000000000) := Lib.hid (by rw [List.length_append]; omega)
        unfold prAgg at HC
        clear hu hpa hval hum hus husl hul HNN hgl hsl0
        go_wp2_with (first | (go_at_call 12; refine HC.out.mono ?_; rintro e w5 ⟨ya, yn, yc, rfl, hsl, hb5⟩; have HSL := Lib.hid hsl; have HB6 := Lib.hid hb5; have HR5 := Lib.hid (HR.out.to hb5); have hz6 := hb5.size; clear hsl hb5) | (at_builtin; refine wpList_app rfl _ _ rfl (w.heap.size + 1) (selC p ++ Pr.gaths selC (p.ps.take j)) (.slice ga gn gc) rfl HR5.out _ _ _ _ (u.gath selC) rfl HSL.out HLN.out (Nat.le_trans hz1 hz6) ?_; intro fa' fn' fc' w6 hrow hgrow hat; have HRW := Lib.hid hrow; have HGW := Lib.hid hgrow; clear hrow hgrow hat))
        go_roundw
        case rel => exact ⟨j + 1, _, _, _, by go_num, by omega, rfl, Lib.hid (by rw [HT.out]; exact HRW.out), Lib.hid ((HB.out.trans (HB6.out.mono hz1)).grown HGW.out (Nat.le_trans hz1 hz6) (fun k e => (HR5.out.lt k e).1))⟩
        case measure => simp [intOf]; omega
      · obtain rfl : kn = j := by omega
        have HLE : Hid (selC p ++ Pr.gaths selC (p.ps.take kn) = p.gath selC) := Lib.hid (by rw [List.take_of_length_le (by rw [HKL.out]; exact Nat.le_refl _), Pr.gath_eq])
        clear hgl hsl0
        go_wp2_with fail
        go_ret
        refine ⟨_, _, _, rfl, ?_, hz1, hlw⟩
        have h := HR.out
        rw [HLE.out] at h
        exact h

end Go.Proofs.YtgmdmbmkljbgiaaGreatDoor
