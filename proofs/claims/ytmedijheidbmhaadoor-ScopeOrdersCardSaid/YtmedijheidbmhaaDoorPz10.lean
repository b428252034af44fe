/- Programs: the reference's Little. (and what follows from it) -/
import Derived.Test.YtmedijheidbmhaaDoorPz6

/- Programs: the reference's Little. -/
namespace Go.Proofs.YtmedijheidbmhaaDoor
open Go.RowKit Go.Deep Go.Shelf

def Df.little (m : Nat) (d : Df) : Bool := d.b.few m && (decide (d.ms.length ≤ 20) && d.ms.all (fun a => a.t.few 300))
/-- Is a program small? -/
def Pg.little (g : Pg) (m : Nat) : Bool := decide (g.ds.length ≤ 20) && (g.m.few m && g.ds.all (Df.little m))
theorem all_ff {α : Type} {l : List α} {f : α → Bool} {j : Nat} {x : α} (h : l[j]? = some x) (hx : f x = false) : l.all f = false := by
  cases e : l.all f with
  | false => rfl
  | true => have := List.all_eq_true.1 e x (List.mem_of_getElem? h); rw [hx] at this; cases this
theorem all_tt {α : Type} {l : List α} {f : α → Bool} (h : ∀ (j : Nat) (x : α), l[j]? = some x → f x = true) : l.all f = true :=
  List.all_eq_true.2 fun x hx => by obtain ⟨j, hj⟩ := List.getElem?_of_mem hx; exact h j x hj
theorem Df.little_1 {m : Nat} {d : Df} (h : d.b.few m = false) : d.little m = false := by unfold Df.little; rw [h]; rfl
theorem Df.little_2 {m : Nat} {d : Df} (h : ¬ d.ms.length ≤ 20) : d.little m = false := by unfold Df.little; rw [show decide (d.ms.length ≤ 20) = false by simpa using h, Bool.false_and, Bool.and_false]
theorem Df.little_3 {m : Nat} {d : Df} {j : Nat} {a : Pm} (h : d.ms[j]? = some a) (ha : a.t.few 300 = false) : d.little m = false := by unfold Df.little; rw [all_ff (f := fun a => a.t.few 300) h ha, Bool.and_false, Bool.and_false]
theorem Df.little_4 {m : Nat} {d : Df} (h1 : d.b.few m = true) (h2 : d.ms.length ≤ 20) (h3 : ∀ (j : Nat) (a : Pm), d.ms[j]? = some a → a.t.few 300 = true) : d.little m = true := by
  unfold Df.little; rw [h1, show decide (d.ms.length ≤ 20) = true by simpa using h2, all_tt h3]; rfl
theorem Df.little_facts {m : Nat} {d : Df} (h : d.little m = true) : d.b.few m = true ∧ d.ms.length ≤ 20 ∧ ∀ a ∈ d.ms, a.t.few 300 = true := by
  unfold Df.little at h; simp only [Bool.and_eq_true, decide_eq_true_eq, List.all_eq_true] at h; exact h
theorem Pg.little_1 {m : Nat} {g : Pg} (h : ¬ g.ds.length ≤ 20) : g.little m = false := by unfold Pg.little; rw [show decide (g.ds.length ≤ 20) = false by simpa using h]; rfl
theorem Pg.little_2 {m : Nat} {g : Pg} (h : g.m.few m = false) : g.little m = false := by unfold Pg.little; rw [h, Bool.false_and, Bool.and_false]
theorem Pg.little_3 {m : Nat} {g : Pg} {j : Nat} {d : Df} (h : g.ds[j]? = some d) (hd : d.little m = false) : g.little m = false := by unfold Pg.little; rw [all_ff h hd, Bool.and_false, Bool.and_false]
theorem Pg.little_4 {m : Nat} {g : Pg} (h1 : g.ds.length ≤ 20) (h2 : g.m.few m = true) (h3 : ∀ (j : Nat) (d : Df), g.ds[j]? = some d → d.little m = true) : g.little m = true := by
  unfold Pg.little; rw [h2, show decide (g.ds.length ≤ 20) = true by simpa using h1, all_tt h3]; rfl
theorem Pg.little_facts {m : Nat} {g : Pg} (h : g.little m = true) : g.ds.length ≤ 20 ∧ g.m.few m = true ∧ ∀ d ∈ g.ds, d.little m = true := by
  unfold Pg.little at h; simp only [Bool.and_eq_true, decide_eq_true_eq, List.all_eq_true] at h; exact h

set_option maxHeartbeats 4000000 in
set_option maxRecDepth 100000 in
theorem rlittle_any (B : Nat → Prop) (g : Pg) (m : Nat) (hm : m ≤ 1000000) (v : Value) (w : World) (hB : Low B w) (hv : PgVal B w v g) :
    Calls Tryd.prog 6 #[v, .int .i64 m] w fun e w' => e = .returned (.bool (g.little m)) ∧ Below w.heap.size w w' := by
  obtain ⟨dv, lv, av, tl, tk, kv, rfl, hd, hp⟩ := hv
  obtain ⟨⟨la, ln, lc, rfl⟩, ⟨aa, an, ac, rfl⟩, ⟨ta, tn, tc, rfl⟩, ⟨ua, un, uc, rfl⟩, ka, kn, kc, rfl⟩ := pr_slices hp
  obtain ⟨pa, len, c, rfl, hlen, hmx, hget⟩ := hd.open
  have hb0 : Below w.heap.size w (w.alloc (cell13 g (.slice pa len c) (.slice la ln lc) (.slice aa an ac) (.slice ta tn tc) (.slice ua un uc) (.slice ka kn kc))) := blkBelow w _ _
  obtain ⟨r, hr⟩ : ∃ r, g.little m = r := ⟨_, rfl⟩
  obtain ⟨b1, hb1⟩ : ∃ b, g.m.few m = b := ⟨_, rfl⟩
  have HM : Hid (∀ W, Below w.heap.size w W → Calls Tryd.prog 7 #[prAgg g.m (.slice la ln lc) (.slice aa an ac) (.slice ta tn tc) (.slice ua un uc) (.slice ka kn kc), .int .i64 m] W fun e w' => e = .returned (.bool b1) ∧ Below W.heap.size W w') := Lib.hid (fun W hW => by rw [← hb1]; exact prfew_any B g.m m hm _ W (hB.le hW.size) (hp.to hB hW))
  have R1 : Hid (¬ len ≤ 20 → r = false) := Lib.hid (fun h => by rw [← hr]; exact Pg.little_1 (by rw [← hlen.out]; exact h))
  have R2 : Hid (b1 = false → r = false) := Lib.hid (fun h => by rw [← hr]; exact Pg.little_2 (hb1.trans h))
  have R3 : Hid (∀ (j : Nat) (d : Df), g.ds[j]? = some d → d.little m = false → r = false) := Lib.hid (fun j d h hd => by rw [← hr]; exact Pg.little_3 h hd)
  have R4 : Hid (len ≤ 20 → b1 = true → (∀ (i : Nat) (d : Df), i < len → g.ds[i]? = some d → d.little m = true) → r = true) := Lib.hid (fun h1 h2 h3 => by
    rw [← hr]; exact Pg.little_4 (by rw [← hlen.out]; exact h1) (hb1.trans h2) (fun j d h => h3 j d (by rw [hlen.out]; exact (List.getElem?_eq_some_iff.1 h).1) h))
  have HD : Hid (∀ (j : Nat) (d : Df), g.ds[j]? = some d → ∃ kb ko, pa = some ⟨kb, ko, none⟩ ∧ kb < w.heap.size ∧ ∀ W, Below w.heap.size w W → DfAt B W d kb (ko + j * 14)) := Lib.hid (fun j d hj => by
    obtain ⟨kb, ko, e, hkb, hda⟩ := hget j d hj
    exact ⟨kb, ko, e, hB kb hkb, fun W hW => hda.keep (hW.keeps'.mono hB) hkb⟩)
  have HB0 := Lib.hid hb0
  obtain ⟨ds, hds⟩ : ∃ ds, g.ds = ds := ⟨_, rfl⟩
  rw [hds] at hlen R3 R4 HD
  rw [hr]
  clear hget hd hp hds hr hb1 hb0
  unfold prAgg at HM
  by_cases h20 : len ≤ 20
  · have h20' : decide ((20 : Int) < (len : Int)) = false := by simp; omega
    have h20i : (len : Int) ≤ 20 := by omega
    cases b1
    · rw [R2.out (by first | trivial | rfl)]
      go_enter Tryd.func6, Tryd.ntmps6
      go_wp2_with fail
      refine (HM.out _ HB0.out).mono ?_
      rintro e w2 ⟨rfl, hb2⟩
      go_wp2_with fail
      go_ret
      exact ⟨rfl, below_seq HB0.out hb2⟩
    · go_enter Tryd.func6, Tryd.ntmps6
      go_wp2_with fail
      refine (HM.out _ HB0.out).mono ?_
      rintro e w2 ⟨rfl, hb2⟩
      have hbx : Below (w.heap.size + 1) (w.alloc (cell13 g (.slice pa len c) (.slice la ln lc) (.slice aa an ac) (.slice ta tn tc) (.slice ua un uc) (.slice ka kn kc))) w2 := by simpa using hb2
      have HBX := Lib.hid hbx
      clear hb2 hbx
      go_wp2_with fail
      go_loopw [5] (fun i wr => ∃ j : Nat, i = .int .i64 j ∧ j ≤ len ∧ Hid (∀ (i : Nat) (d : Df), i < j → ds[i]? = some d → d.little m = true) ∧ Below (w.heap.size + 1) (w.alloc (cell13 g (.slice pa len c) (.slice la ln lc) (.slice aa an ac) (.slice ta tn tc) (.slice ua un uc) (.slice ka kn kc))) wr) (fun i _ => len - (intOf i).toNat)
      case atStart => exact ⟨0, rfl, by omega, Lib.hid (fun i d h => absurd h (Nat.not_lt_zero _)), HBX.out⟩
      case round =>
        obtain ⟨j, rfl, hj, HL, hb⟩ := hrel
        obtain ⟨wo, hwo⟩ : ∃ wo, wo = wr := ⟨_, rfl⟩
        subst hwo
        have c0 : wo.cell? ⟨w.heap.size, 0, none⟩ = some (.slice pa len c) := blk_cell hb 0 rfl
        have hw := blk_below hb
        have hsz : w.heap.size + 1 ≤ wo.heap.size := by have := hb.size; simpa using this
        by_cases hlt : j < len
        · obtain ⟨d, hdj⟩ : ∃ d, ds[j]? = some d := ⟨_, List.getElem?_eq_getElem (by rw [← hlen.out]; exact hlt)⟩
          obtain ⟨kb, ko, rfl, hkb, hda⟩ := HD.out j d hdj
          obtain ⟨ma, mn, mc, la', ln', lc', aa', an', ac', ta', tn', tc', ua', un', uc', ka', kn', kc', ⟨d0, d1, d2, d3, d4, d5, d6, d7, d8, d9, d10, d11, d12, d13⟩, hms, hval⟩ := (hda wo hw).load'
          have hBr : Low B wo := hB.le hw.size
          obtain ⟨x, hx⟩ : ∃ x, d.b.few m = x := ⟨_, rfl⟩
          have HF2 : Hid (Calls Tryd.prog 7 #[prAgg d.b (.slice la' ln' lc') (.slice aa' an' ac') (.slice ta' tn' tc') (.slice ua' un' uc') (.slice ka' kn' kc'), .int .i64 m] wo fun e w' => e = .returned (.bool x) ∧ Below wo.heap.size wo w') := Lib.hid (by rw [← hx]; exact prfew_any B d.b m hm _ wo hBr hval)
          obtain ⟨pma, pmn, pmc, hpe, hmlen, hmmx, hmget⟩ := hms.open
          simp only [Value.slice.injEq] at hpe
          obtain ⟨rfl, rfl, rfl⟩ := hpe
          have HMG : Hid (∀ (k : Nat) (a : Pm), d.ms[k]? = some a → ∃ pb po, ma = some ⟨pb, po, none⟩ ∧ pb < wo.heap.size ∧ ∀ W, Below wo.heap.size wo W → PmAt B W a pb (po + k * 7)) := Lib.hid (fun k a hk => by
            obtain ⟨pb, po, e, hpb, hpa⟩ := hmget k a hk
            exact ⟨pb, po, e, hBr pb hpb, fun W hW => hpa.keep (hW.keeps'.mono hBr) hpb⟩)
          have HML := Lib.hid hmlen.out
          have N1 : Hid (x = false → r = false) := Lib.hid (fun h => R3.out j d hdj (Df.little_1 (hx.trans h)))
          have N2 : Hid (¬ mn ≤ 20 → r = false) := Lib.hid (fun h => R3.out j d hdj (Df.little_2 (by rw [← HML.out]; exact h)))
          have N3 : Hid (∀ (k : Nat) (a : Pm), d.ms[k]? = some a → a.t.few 300 = false → r = false) := Lib.hid (fun k a h ha => R3.out j d hdj (Df.little_3 h ha))
          have N4 : Hid (x = true → mn ≤ 20 → (∀ (i : Nat) (a : Pm), i < mn → d.ms[i]? = some a → a.t.few 300 = true) → ∀ (i : Nat) (e : Df), i < j + 1 → ds[i]? = some e → e.little m = true) := Lib.hid (fun h1 h2 h3 i e hi he => by
            rcases Nat.lt_or_ge i j with h | h
            · exact HL.out i e h he
            · obtain rfl : i = j := by omega
              rw [hdj] at he
              obtain rfl := Option.some.inj he
              exact Df.little_4 (hx.trans h1) (by rw [← HML.out]; exact h2) (fun k a hk => h3 k a (by rw [HML.out]; exact (List.getElem?_eq_some_iff.1 hk).1) hk))
          unfold prAgg at HF2
          clear hda hval hms hmget hmlen hx d0 hdj
          cases x
          · go_wp2_with fail
            refine HF2.out.mono ?_
            rintro e w3 ⟨rfl, hb3⟩
            go_wp2_with fail
            go_ret
            exact ⟨ret_bool (N1.out (by first | trivial | rfl)).symm, below_seq hw hb3⟩
          · go_wp2_with fail
            refine HF2.out.mono ?_
            rintro e w3 ⟨rfl, hb3⟩
            have e0 := (hb3.cell (p := ⟨w.heap.size, 0, none⟩) (by simp; omega)).trans c0
            have e1 := (hb3.cell (p := ⟨kb, ko + j * 14 + 1, none⟩) (by simp; omega)).trans d1
            have HB3 := Lib.hid hb3
            clear hb3 d2 d3 d4 d5 d6 d7 d8 d9 d10 d11 d12 d13
            by_cases h20m : mn ≤ 20
            · have h20m' : decide ((20 : Int) < (mn : Int)) = false := by simp; omega
              have h20mi : (mn : Int) ≤ 20 := by omega
              go_wp2_with fail
              clear e0 e1
              go_loopw [6] (fun i wr => ∃ k : Nat, i = .int .i64 k ∧ k ≤ mn ∧ Hid (∀ (i : Nat) (a : Pm), i < k → d.ms[i]? = some a → a.t.few 300 = true) ∧ Below wo.heap.size wo wr) (fun i _ => mn - (intOf i).toNat)
              case atStart => exact ⟨0, rfl, by omega, Lib.hid (fun i d h => absurd h (Nat.not_lt_zero _)), HB3.out⟩
              case round =>
                obtain ⟨k, rfl, hk, HK, hb7⟩ := hrel
                have p0 := (hb7.cell (p := ⟨w.heap.size, 0, none⟩) (by simp; omega)).trans c0
                have p1 := (hb7.cell (p := ⟨kb, ko + j * 14 + 1, none⟩) (by simp; omega)).trans d1
                by_cases hlt2 : k < mn
                · obtain ⟨a, hak⟩ : ∃ a, d.ms[k]? = some a := ⟨_, List.getElem?_eq_getElem (by rw [← HML.out]; exact hlt2)⟩
                  obtain ⟨pb, po, rfl, hpb, hpa⟩ := HMG.out k a hak
                  obtain ⟨la3, ln3, lc3, ka3, kn3, kc3, ⟨q0, q1, q2, q3, q4, q5, q6⟩, htv⟩ := (hpa wr hb7).load'
                  obtain ⟨y, hy⟩ : ∃ y, a.t.few 300 = y := ⟨_, rfl⟩
                  have HT3 : Hid (Calls Tryd.prog 16 #[.agg #[.int .i64 a.t.k, .int .i64 a.t.p, .string a.t.n, .int .i64 a.t.s, .slice la3 ln3 lc3, .slice ka3 kn3 kc3], .int .i64 300] wr fun e w' => e = .returned (.bool y) ∧ Below wr.heap.size wr w') := Lib.hid (by rw [← hy]; exact rfew_any B a.t 300 (by omega) _ wr (hBr.le hb7.size) htv)
                  have N5 : Hid (y = false → r = false) := Lib.hid (fun h => N3.out k a hak (hy.trans h))
                  have N6 : Hid (y = true → ∀ (i : Nat) (a : Pm), i < k + 1 → d.ms[i]? = some a → a.t.few 300 = true) := Lib.hid (fun h i e hi he => by
                    rcases Nat.lt_or_ge i k with h' | h'
                    · exact HK.out i e h' he
                    · obtain rfl : i = k := by omega
                      rw [hak] at he
                      obtain rfl := Option.some.inj he
                      exact hy.trans h)
                  clear hy hak htv hpa q0
                  cases y
                  · go_wp2_with fail
                    refine HT3.out.mono ?_
                    rintro e w8 ⟨rfl, hb8⟩
                    go_wp2_with fail
                    go_ret
                    exact ⟨ret_bool (N5.out (by first | trivial | rfl)).symm, below_seq (below_seq hw hb7) hb8⟩
                  · go_wp2_with fail
                    refine HT3.out.mono ?_
                    rintro e w8 ⟨rfl, hb8⟩
                    go_wp2_with fail
                    go_roundw
                    case rel => exact ⟨k + 1, by go_num, by omega, Lib.hid (N6.out (by first | trivial | rfl)), below_seq hb7 hb8⟩
                    case measure => simp [intOf]; omega
                · obtain rfl : k = mn := by omega
                  have HX := Lib.hid (N4.out (by first | trivial | rfl) h20m HK.out)
                  go_wp2_with fail
                  go_roundw
                  case rel => exact ⟨j + 1, by go_num, by omega, HX, hb.trans (hb7.mono hsz)⟩
                  case measure => simp [intOf]; omega
            · have h20m' : decide ((20 : Int) < (mn : Int)) = true := by simp; omega
              have h20mi : (20 : Int) < (mn : Int) := by omega
              have HN := Lib.hid (N2.out h20m)
              clear h20m
              go_wp2_with fail
              go_ret
              exact ⟨ret_bool HN.out.symm, below_seq hw HB3.out⟩
        · obtain rfl : j = len := by omega
          have HX := Lib.hid (R4.out h20 (by first | trivial | rfl) HL.out)
          go_wp2_with fail
          go_ret
          exact ⟨ret_bool HX.out.symm, hw⟩
  · have h20' : decide ((20 : Int) < (len : Int)) = true := by simp; omega
    have h20i : (20 : Int) < (len : Int) := by omega
    rw [R1.out h20]
    clear h20
    go_enter Tryd.func6, Tryd.ntmps6
    go_wp2_with fail
    go_ret
    exact ⟨rfl, HB0.out⟩

end Go.Proofs.YtmedijheidbmhaaDoor
