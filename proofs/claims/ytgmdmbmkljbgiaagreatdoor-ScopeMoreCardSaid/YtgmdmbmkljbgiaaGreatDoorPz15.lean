/- Programs: the reference's Program, given its node. (and what follows from it) -/
import Derived.Test.YtgmdmbmkljbgiaaGreatDoorPz14
import Derived.Test.YtgmdmbmkljbgiaaGreatDoorPz8
import Derived.Test.YtgmdmbmkljbgiaaGreatDoorPz9
import Derived.Test.YtgmdmbmkljbgiaaGreatDoorPz12

/- Programs: the reference's Program, given its node. -/
namespace Go.Proofs.YtgmdmbmkljbgiaaGreatDoor
open Go.RowKit Go.Deep Go.Shelf

/-- A definition in a box of its own. -/
abbrev cellD (d : Df) (mv lv av tl tk kv : Value) : Obj := .cells #[.string d.n, mv, .int .i64 d.b.k, .string d.b.c, .string d.b.x, lv, av, .int .i64 d.b.t.k, .int .i64 d.b.t.p, .string d.b.t.n, .int .i64 d.b.t.s, tl, tk, kv] 45

theorem firstR_ds (m : Pr) : ∀ (ds : List Df) (j : Nat) (d : Df), ds[j]? = some d → (∀ (i : Nat) (e : Df), i < j → ds[i]? = some e → prightE e.b = 0) → prightE d.b ≠ 0 → firstR (ds.map (fun d => d.b) ++ [m]) = prightE d.b
  | [], j, d, h, _, _ => by simp at h
  | e :: r, 0, d, h, _, h0 => by
    simp only [List.getElem?_cons_zero, Option.some.injEq] at h
    subst h
    rw [List.map_cons, List.cons_append, firstR, if_neg h0]
  | e :: r, j + 1, d, h, hi, h0 => by
    simp only [List.getElem?_cons_succ] at h
    rw [List.map_cons, List.cons_append, firstR, if_pos (hi 0 e (Nat.succ_pos j) rfl)]
    exact firstR_ds m r j d h (fun i e' hlt he => hi (i + 1) e' (Nat.succ_lt_succ hlt) (by simpa using he)) h0
theorem firstR_main (m : Pr) : ∀ (ds : List Df), (∀ (i : Nat) (e : Df), ds[i]? = some e → prightE e.b = 0) → firstR (ds.map (fun d => d.b) ++ [m]) = prightE m
  | [], _ => by
    rw [List.map_nil, List.nil_append, firstR]
    by_cases h : prightE m = 0
    · rw [if_pos h, h]; rfl
    · rw [if_neg h]
  | e :: r, h => by
    rw [List.map_cons, List.cons_append, firstR, if_pos (h 0 e rfl)]
    exact firstR_main m r (fun i e' he => h (i + 1) e' (by simpa using he))
theorem hdB_1 {d : Df} (h : nameB d.n = false) : hdB d = false := by unfold hdB; rw [h, Bool.and_false]
theorem hdB_2 {d : Df} {k : Nat} {a : Pm} (h : d.ms[k]? = some a) (ha : pmB a = false) : hdB d = false := by
  unfold hdB
  rw [show d.ms.all pmB = false by rw [List.all_eq_false]; exact ⟨a, List.mem_of_getElem? h, by simp [ha]⟩, Bool.false_and]
theorem hdB_3 {d : Df} (h : nameB d.n = true) (ha : ∀ (k : Nat) (a : Pm), d.ms[k]? = some a → pmB a = true) : hdB d = true := by
  unfold hdB
  rw [h, Bool.and_true, List.all_eq_true]
  intro a hm
  obtain ⟨k, hk, he⟩ := List.getElem_of_mem hm
  exact ha k a (by rw [List.getElem?_eq_getElem hk, he])

set_option maxHeartbeats 8000000 in
set_option maxRecDepth 100000 in
theorem rpprogram_any (RN : RNode) (B : Nat → Prop) (g : Pg) (hg : GGood g) (hsz : g.total ≤ 1000000000) (r : Int) (hr : pprogE g = r) (v : Value) (w : World) (hB : Low B w) (hv : PgVal B w v g) :
    Calls Tryz.prog 15 #[v] w fun e w' => e = .returned (.int .i64 r) ∧ Below w.heap.size w w' := by
  have hv0 := hv
  obtain ⟨dv, lv, av, tl, tk, kv, rfl, hd, hp⟩ := hv
  obtain ⟨⟨la, ln, lc, rfl⟩, ⟨aa, an, ac, rfl⟩, ⟨ta, tn, tc, rfl⟩, ⟨ua, un, uc, rfl⟩, ka, kn, kc, rfl⟩ := pr_slices hp
  obtain ⟨pa, len, c, rfl, hlen, hmx, hget⟩ := hd.open
  have hgm := (hg.2.2 g.m g.main_mem)
  have hr' : r = if g.many then 2 else if firstR g.bodies = 0 then (if g.ds.all hdB then 0 else 3) else firstR g.bodies := by rw [← hr]; rfl
  obtain ⟨n, hn⟩ : ∃ n, g.total = n := ⟨_, rfl⟩
  obtain ⟨x0, hx0⟩ : ∃ x, prightE g.m = x := ⟨_, rfl⟩
  have hmany : g.many = decide (10000 < n) := by unfold Pg.many; rw [hn]
  have R1 : Hid (10000 < n → r = 2) := Lib.hid (fun h => by rw [hr', hmany, decide_eq_true h, if_pos rfl])
  have R2 : Hid (¬ 10000 < n → ∀ (j : Nat) (d : Df), g.ds[j]? = some d → (∀ (i : Nat) (e : Df), i < j → g.ds[i]? = some e → prightE e.b = 0) → prightE d.b ≠ 0 → r = prightE d.b) := Lib.hid (fun h j d hj hi h0 => by
    have e : firstR g.bodies = prightE d.b := firstR_ds g.m g.ds j d hj hi h0
    rw [hr', hmany, decide_eq_false h, e, if_neg h0]; rfl)
  have R3 : Hid (¬ 10000 < n → (∀ (i : Nat) (e : Df), i < len → g.ds[i]? = some e → prightE e.b = 0) → x0 ≠ 0 → r = x0) := Lib.hid (fun h hi h0 => by
    have e : firstR g.bodies = prightE g.m := firstR_main g.m g.ds (fun i e he => hi i e (by rw [hlen.out]; exact (List.getElem?_eq_some_iff.1 he).1) he)
    rw [hr', hmany, decide_eq_false h, e, hx0, if_neg h0]; rfl)
  have R4 : Hid (¬ 10000 < n → (∀ (i : Nat) (e : Df), i < len → g.ds[i]? = some e → prightE e.b = 0) → x0 = 0 → r = if g.ds.all hdB then 0 else 3) := Lib.hid (fun h hi h0 => by
    have e : firstR g.bodies = prightE g.m := firstR_main g.m g.ds (fun i e he => hi i e (by rw [hlen.out]; exact (List.getElem?_eq_some_iff.1 he).1) he)
    rw [hr', hmany, decide_eq_false h, e, hx0, if_pos h0]; rfl)
  have HT : Hid (∀ W, Below w.heap.size w W → Calls Tryz.prog 14 #[.agg #[.slice pa len c, .int .i64 g.m.k, .string g.m.c, .string g.m.x, .slice la ln lc, .slice aa an ac, .int .i64 g.m.t.k, .int .i64 g.m.t.p, .string g.m.t.n, .int .i64 g.m.t.s, .slice ta tn tc, .slice ua un uc, .slice ka kn kc]] W fun e w' => e = .returned (.int .i64 (n : Int)) ∧ Below W.heap.size W w') := Lib.hid (fun W hW => by
    rw [← hn]; exact rptotal_any B g hg hsz _ W (hB.le hW.size) (hv0.to hB hW))
  have HM : Hid (∀ W, Below w.heap.size w W → Calls Tryz.prog 34 #[prAgg g.m (.slice la ln lc) (.slice aa an ac) (.slice ta tn tc) (.slice ua un uc) (.slice ka kn kc)] W fun e w' => e = .returned (.int .i64 x0) ∧ Below W.heap.size W w') := Lib.hid (fun W hW => rpright_any RN B g.m hgm.1.2 hgm.2.2 x0 hx0 _ W (hB.le hW.size) (hp.to hB hW))
  have HD : Hid (∀ (j : Nat) (d : Df), g.ds[j]? = some d → ∃ kb ko, pa = some ⟨kb, ko, none⟩ ∧ kb < w.heap.size ∧ (∀ W, Below w.heap.size w W → DfAt B W d kb (ko + j * 14)) ∧ PGood d.b ∧ d.b.size ≤ 1000000 ∧ (∀ a ∈ d.ms, a.t.size ≤ 300)) := Lib.hid (fun j d hj => by
    obtain ⟨kb, ko, e, hkb, hda⟩ := hget j d hj
    have hmem := List.mem_of_getElem? hj
    have h1 := hg.2.2 d.b (Pg.body_mem hmem)
    exact ⟨kb, ko, e, hB kb hkb, fun W hW => hda.keep (hW.keeps'.mono hB) hkb, h1.1, h1.2.2, fun a ha => (hg.pm hmem ha).1⟩)
  obtain ⟨ds, hds⟩ : ∃ ds, g.ds = ds := ⟨_, rfl⟩
  rw [hds] at hlen R2 R3 R4 HD
  have HBl := Lib.hid hB
  unfold prAgg at HM
  clear hget hd hp hgm hsz hg hds hr hr' hmany hn hx0 hv0 hB
  have ART : True := trivial
  by_cases hbig : 10000 < n
  · have HR := Lib.hid (R1.out hbig)
    go_enter Tryz.func15, Tryz.ntmps15
    go_wp2_with (go_at_call 14; refine (HT.out _ (blkBelow w _ _)).mono ?_; rintro e w2 ⟨rfl, g2⟩)
    go_ret
    exact ⟨ret_int HR.out.symm, below_seq (blkBelow w _ _) g2⟩
  · replace R2 := Lib.hid (R2.out hbig)
    replace R3 := Lib.hid (R3.out hbig)
    replace R4 := Lib.hid (R4.out hbig)
    clear R1
    go_enter Tryz.func15, Tryz.ntmps15
    go_wp2_with (go_at_call 14; refine (HT.out _ (blkBelow w _ _)).mono ?_; rintro e w2 ⟨rfl, g2⟩)
    have GB := Lib.hid (gnext (Below.refl _ _) g2)
    clear g2 HT
    go_loopw [3] (fun i wr => ∃ j : Nat, i = .int .i64 j ∧ j ≤ len ∧ Hid (∀ (i : Nat) (e : Df), i < j → ds[i]? = some e → prightE e.b = 0) ∧ Below (w.heap.size + 1) (w.alloc (.cells #[.slice pa len c, .int .i64 g.m.k, .string g.m.c, .string g.m.x, .slice la ln lc, .slice aa an ac, .int .i64 g.m.t.k, .int .i64 g.m.t.p, .string g.m.t.n, .int .i64 g.m.t.s, .slice ta tn tc, .slice ua un uc, .slice ka kn kc] 32)) wr) (fun i _ => len - (intOf i).toNat)
    case atStart => exact ⟨0, rfl, by omega, Lib.hid (fun i d h => absurd h (Nat.not_lt_zero _)), GB.out⟩
    case round =>
      obtain ⟨j, rfl, hj, HL, hb⟩ := hrel
      have c0 := blk_cell hb 0 rfl
      have hw := blk_below hb
      have hs1 : w.heap.size + 1 ≤ wr.heap.size := by have := hb.size; simpa using this
      by_cases hlt : j < len
      · obtain ⟨d, hdj⟩ : ∃ d, ds[j]? = some d := ⟨_, List.getElem?_eq_getElem (by rw [← hlen.out]; exact hlt)⟩
        obtain ⟨kb, ko, rfl, hkb, hda, hdg, hdsz, hpm⟩ := HD.out j d hdj
        obtain ⟨ma, mn, mc, la', ln', lc', aa', an', ac', ta', tn', tc', ua', un', uc', ka', kn', kc', ⟨d0, d1, d2, d3, d4, d5, d6, d7, d8, d9, d10, d11, d12, d13⟩, hms, hval⟩ := (hda wr hw).load'
        obtain ⟨x, hx⟩ : ∃ x, prightE d.b = x := ⟨_, rfl⟩
        have HR : Hid (Calls Tryz.prog 34 #[prAgg d.b (.slice la' ln' lc') (.slice aa' an' ac') (.slice ta' tn' tc') (.slice ua' un' uc') (.slice ka' kn' kc')] wr fun e w' => e = .returned (.int .i64 x) ∧ Below wr.heap.size wr w') := Lib.hid (rpright_any RN B d.b hdg.2 hdsz x hx _ wr (HBl.out.le hw.size) hval)
        have N1 : Hid (x ≠ 0 → r = x) := Lib.hid (fun h => by rw [← hx]; exact R2.out j d hdj HL.out (by rw [hx]; exact h))
        have N2 : Hid (x = 0 → ∀ (i : Nat) (e : Df), i < j + 1 → ds[i]? = some e → prightE e.b = 0) := Lib.hid (fun h i e hi he => by
          rcases Nat.lt_or_ge i j with hh | hh
          · exact HL.out i e hh he
          · obtain rfl : i = j := by omega
            rw [hdj] at he
            obtain rfl := Option.some.inj he
            rw [hx, h])
        unfold prAgg at HR
        clear hda hval hms hx hdj hdg hdsz hpm d0 d1
        by_cases h0 : x = 0
        · subst h0
          have HN := Lib.hid (N2.out (by first | trivial | rfl))
          go_wp2_with (go_at_call 34; refine HR.out.mono ?_; rintro e w3 ⟨rfl, g3⟩)
          go_roundw
          case rel => exact ⟨j + 1, by go_num, by omega, HN, gnext hb g3⟩
          case measure => simp [intOf]; omega
        · have HN := Lib.hid (N1.out h0)
          have h0' : (x != 0) = true := by simpa using h0
          clear h0
          go_wp2_with (go_at_call 34; refine HR.out.mono ?_; rintro e w3 ⟨rfl, g3⟩)
          go_ret
          exact ⟨ret_int HN.out.symm, below_seq hw g3⟩
      · obtain rfl : j = len := by omega
        have c1 := blk_cell hb 1 rfl
        have c2 := blk_cell hb 2 rfl
        have c3 := blk_cell hb 3 rfl
        have c4 := blk_cell hb 4 rfl
        have c5 := blk_cell hb 5 rfl
        have c6 := blk_cell hb 6 rfl
        have c7 := blk_cell hb 7 rfl
        have c8 := blk_cell hb 8 rfl
        have c9 := blk_cell hb 9 rfl
        have c10 := blk_cell hb 10 rfl
        have c11 := blk_cell hb 11 rfl
        have c12 := blk_cell hb 12 rfl
        by_cases h0 : x0 = 0
        · subst h0
          have HRV := Lib.hid (R4.out HL.out (by first | trivial | rfl))
          clear R2 R3 R4 HL
          go_wp2_with (go_at_call 34; refine (HM.out _ hw).mono ?_; rintro e w3 ⟨rfl, g3⟩)
          have GC := Lib.hid (gnext hb g3)
          clear c0 c1 c2 c3 c4 c5 c6 c7 c8 c9 c10 c11 c12 g3 HM GB hb hw hs1
          go_loopw [6] (fun i wr => ∃ k : Nat, i = .int .i64 k ∧ k ≤ j ∧ Hid (∀ (i : Nat) (e : Df), i < k → ds[i]? = some e → hdB e = true) ∧ Below (w.heap.size + 1) (w.alloc (.cells #[.slice pa j c, .int .i64 g.m.k, .string g.m.c, .string g.m.x, .slice la ln lc, .slice aa an ac, .int .i64 g.m.t.k, .int .i64 g.m.t.p, .string g.m.t.n, .int .i64 g.m.t.s, .slice ta tn tc, .slice ua un uc, .slice ka kn kc] 32)) wr) (fun i _ => j - (intOf i).toNat)
          case atStart => exact ⟨0, rfl, by omega, Lib.hid (fun i d h => absurd h (Nat.not_lt_zero _)), GC.out⟩
          case round =>
            obtain ⟨k, rfl, hk, HK, hb⟩ := hrel
            obtain ⟨wo, hwo⟩ : ∃ wo, wo = wr := ⟨_, rfl⟩
            subst hwo
            have c0 := blk_cell hb 0 rfl
            have hw := blk_below hb
            have hs1 : w.heap.size + 1 ≤ wo.heap.size := by have := hb.size; simpa using this
            by_cases hlt : k < j
            · obtain ⟨d, hdj⟩ : ∃ d, ds[k]? = some d := ⟨_, List.getElem?_eq_getElem (by rw [← hlen.out]; exact hlt)⟩
              obtain ⟨kb, ko, rfl, hkb, hda, hdg, hdsz, hpm⟩ := HD.out k d hdj
              obtain ⟨ma, mn, mc, la', ln', lc', aa', an', ac', ta', tn', tc', ua', un', uc', ka', kn', kc', ⟨d0, d1, d2, d3, d4, d5, d6, d7, d8, d9, d10, d11, d12, d13⟩, hms, hval⟩ := (hda wo hw).load'
              have hBr : Low B wo := HBl.out.le hw.size
              have hns : d.n.size ≤ maxLen := (hda wo hw).1
              obtain ⟨nb, hnb⟩ : ∃ b, nameB d.n = b := ⟨_, rfl⟩
              have HN := Lib.hid (fun W => rpname_any d.n nb hnb hns W)
              obtain ⟨pma, pmn, pmc, hpe, hmlen, hmmx, hmget⟩ := hms.open
              simp only [Value.slice.injEq] at hpe
              obtain ⟨rfl, rfl, rfl⟩ := hpe
              have HMG : Hid (∀ (k : Nat) (a : Pm), d.ms[k]? = some a → a.t.size ≤ 300 ∧ ∃ pb po, ma = some ⟨pb, po, none⟩ ∧ pb < wo.heap.size ∧ ∀ W, Below wo.heap.size wo W → PmAt B W a pb (po + k * 7)) := Lib.hid (fun k a hk => by
                obtain ⟨pb, po, e, hpb, hpa⟩ := hmget k a hk
                exact ⟨hpm a (List.mem_of_getElem? hk), pb, po, e, hBr pb hpb, fun W hW => hpa.keep (hW.keeps'.mono hBr) hpb⟩)
              have HML := Lib.hid hmlen.out
              have hbad : hdB d = false → r = 3 := fun h => by
                rw [HRV.out, if_neg]
                intro hall
                rw [List.all_eq_true] at hall
                have := hall d (List.mem_of_getElem? hdj)
                rw [h] at this
                cases this
              have N1 : Hid (nb = false → r = 3) := Lib.hid (fun h => hbad (hdB_1 (hnb.trans h)))
              have N3 : Hid (∀ (k : Nat) (a : Pm), d.ms[k]? = some a → pmB a = false → r = 3) := Lib.hid (fun k a h ha => hbad (hdB_2 h ha))
              have N4 : Hid (nb = true → (∀ (i : Nat) (a : Pm), i < mn → d.ms[i]? = some a → pmB a = true) → ∀ (i : Nat) (e : Df), i < k + 1 → ds[i]? = some e → hdB e = true) := Lib.hid (fun h1 h3 i e hi he => by
                rcases Nat.lt_or_ge i k with h | h
                · exact HK.out i e h he
                · obtain rfl : i = k := by omega
                  rw [hdj] at he
                  obtain rfl := Option.some.inj he
                  exact hdB_3 (hnb.trans h1) (fun k a hk => h3 k a (by rw [HML.out]; exact (List.getElem?_eq_some_iff.1 hk).1) hk))
              clear hda hval hms hmget hmlen hnb hdj hns hdg hdsz hpm hbad
              cases nb
              · have HX := Lib.hid (N1.out (by first | trivial | rfl))
                go_wp2_with (go_at_call 35; refine (HN.out _).mono ?_; rintro e w3 ⟨rfl, g3⟩)
                go_ret
                exact ⟨ret_int HX.out.symm, below_seq hw (below_seq (blkBelow wo _ _) g3)⟩
              · go_wp2_with (go_at_call 35; refine (HN.out _).mono ?_; rintro e w3 ⟨rfl, g3⟩)
                have GD : Hid (Below (wo.heap.size + 1) (wo.alloc (cellD d (.slice ma mn mc) (.slice la' ln' lc') (.slice aa' an' ac') (.slice ta' tn' tc') (.slice ua' un' uc') (.slice ka' kn' kc'))) w3) := Lib.hid (gnext (Below.refl _ _) g3)
                clear d0 d1 d2 d3 d4 d5 d6 d7 d8 d9 d10 d11 d12 d13 c0 g3
                go_loopw [8] (fun i wr => ∃ k : Nat, i = .int .i64 k ∧ k ≤ mn ∧ Hid (∀ (i : Nat) (a : Pm), i < k → d.ms[i]? = some a → pmB a = true) ∧ Below (wo.heap.size + 1) (wo.alloc (cellD d (.slice ma mn mc) (.slice la' ln' lc') (.slice aa' an' ac') (.slice ta' tn' tc') (.slice ua' un' uc') (.slice ka' kn' kc'))) wr) (fun i _ => mn - (intOf i).toNat)
                case atStart => exact ⟨0, rfl, by omega, Lib.hid (fun i d h => absurd h (Nat.not_lt_zero _)), GD.out⟩
                case round =>
                  obtain ⟨m, rfl, hm, HMM, hb7⟩ := hrel
                  have p1 := blk_cell hb7 1 rfl
                  have hw7 := blk_below hb7
                  have hs7 : wo.heap.size + 1 ≤ wr.heap.size := by have := hb7.size; simpa using this
                  by_cases hlt2 : m < mn
                  · obtain ⟨a, hak⟩ : ∃ a, d.ms[m]? = some a := ⟨_, List.getElem?_eq_getElem (by rw [← HML.out]; exact hlt2)⟩
                    obtain ⟨hasz, pb, po, rfl, hpb, hpa⟩ := HMG.out m a hak
                    obtain ⟨la3, ln3, lc3, ka3, kn3, kc3, ⟨q0, q1, q2, q3, q4, q5, q6⟩, htv⟩ := (hpa wr hw7).load'
                    have has : a.n.size ≤ maxLen := (hpa wr hw7).1
                    obtain ⟨y, hy⟩ : ∃ y, nameB a.n = y := ⟨_, rfl⟩
                    obtain ⟨z, hz⟩ : ∃ z, rightE a.t = z := ⟨_, rfl⟩
                    have HA := Lib.hid (fun W => rpname_any a.n y hy has W)
                    have HZ : Hid (∀ W, Below wr.heap.size wr W → Calls Tryz.prog 36 #[.agg #[.int .i64 a.t.k, .int .i64 a.t.p, .string a.t.n, .int .i64 a.t.s, .slice la3 ln3 lc3, .slice ka3 kn3 kc3]] W fun e w' => e = .returned (.int .i64 z) ∧ Below W.heap.size W w') := Lib.hid (fun W hW => by rw [← hz]; exact rright_any B a.t _ W (by omega) (hBr.le (Nat.le_trans hw7.size hW.size)) (htv.keep (hW.keeps'.mono (hBr.le hw7.size))))
                    have hpmb : pmB a = (y && z == 0) := by unfold pmB; rw [hy, hz]
                    have M1 : Hid (y = false → r = 3) := Lib.hid (fun h => N3.out m a hak (by rw [hpmb, h]; rfl))
                    have M2 : Hid (z ≠ 0 → r = 3) := Lib.hid (fun h => N3.out m a hak (by rw [hpmb, show (z == 0) = false by simpa using h, Bool.and_false]))
                    have M3 : Hid (y = true → z = 0 → ∀ (i : Nat) (a : Pm), i < m + 1 → d.ms[i]? = some a → pmB a = true) := Lib.hid (fun h1 h2 i e hi he => by
                      rcases Nat.lt_or_ge i m with h | h
                      · exact HMM.out i e h he
                      · obtain rfl : i = m := by omega
                        rw [hak] at he
                        obtain rfl := Option.some.inj he
                        rw [hpmb, h1, h2]; rfl)
                    have hpw : pb < wr.heap.size := by omega
                    clear hy hz hpmb hak htv hpa has hasz
                    cases y
                    · have HX := Lib.hid (M1.out (by first | trivial | rfl))
                      go_wp2_with (go_at_call 35; refine (HA.out _).mono ?_; rintro e w4 ⟨rfl, g4⟩)
                      go_ret
                      exact ⟨ret_int HX.out.symm, below_seq (below_seq hw hw7) g4⟩
                    · by_cases hz0 : z = 0
                      · subst hz0
                        have HX := Lib.hid (M3.out (by first | trivial | rfl) (by first | trivial | rfl))
                        go_wp2_with (first | (go_at_call 35; refine (HA.out _).mono ?_; rintro e w4 ⟨rfl, g4⟩; have x1 := (g4.cell (p := ⟨wo.heap.size, 1, none⟩) (by simp; omega)).trans p1; have y1 := (g4.cell (p := ⟨pb, _, none⟩) hpw).trans q1; have y2 := (g4.cell (p := ⟨pb, _, none⟩) hpw).trans q2; have y3 := (g4.cell (p := ⟨pb, _, none⟩) hpw).trans q3; have y4 := (g4.cell (p := ⟨pb, _, none⟩) hpw).trans q4; have y5 := (g4.cell (p := ⟨pb, _, none⟩) hpw).trans q5; have y6 := (g4.cell (p := ⟨pb, _, none⟩) hpw).trans q6) | (go_at_call 36; refine (HZ.out _ (by assumption)).mono ?_; rintro e w5 ⟨rfl, g5⟩))
                        go_roundw
                        case rel => exact ⟨m + 1, by go_num, by omega, HX, gnext (gnext hb7 (by assumption)) (by assumption)⟩
                        case measure => simp [intOf]; omega
                      · have HX := Lib.hid (M2.out hz0)
                        have hz' : (z != 0) = true := by simpa using hz0
                        clear hz0
                        go_wp2_with (first | (go_at_call 35; refine (HA.out _).mono ?_; rintro e w4 ⟨rfl, g4⟩; have x1 := (g4.cell (p := ⟨wo.heap.size, 1, none⟩) (by simp; omega)).trans p1; have y1 := (g4.cell (p := ⟨pb, _, none⟩) hpw).trans q1; have y2 := (g4.cell (p := ⟨pb, _, none⟩) hpw).trans q2; have y3 := (g4.cell (p := ⟨pb, _, none⟩) hpw).trans q3; have y4 := (g4.cell (p := ⟨pb, _, none⟩) hpw).trans q4; have y5 := (g4.cell (p := ⟨pb, _, none⟩) hpw).trans q5; have y6 := (g4.cell (p := ⟨pb, _, none⟩) hpw).trans q6) | (go_at_call 36; refine (HZ.out _ (by assumption)).mono ?_; rintro e w5 ⟨rfl, g5⟩))
                        go_ret
                        exact ⟨ret_int HX.out.symm, below_seq (below_seq hw hw7) ((show Below wr.heap.size wr _ from by assumption).trans ((by assumption : Below _ _ _).mono (show wr.heap.size ≤ _ from (show Below wr.heap.size wr _ from by assumption).size)))⟩
                  · obtain rfl : m = mn := by omega
                    have HX := Lib.hid (N4.out (by first | trivial | rfl) HMM.out)
                    clear HMM N4 N3
                    go_wp2_with fail
                    go_roundw
                    case rel => exact ⟨k + 1, by go_num, by omega, HX, hb.trans (hw7.mono hs1)⟩
                    case measure => simp [intOf]; omega
            · obtain rfl : k = j := by omega
              have HX : Hid (r = 0) := Lib.hid (by
                rw [HRV.out, if_pos]
                rw [List.all_eq_true]
                intro e hm
                obtain ⟨i, hi, he⟩ := List.getElem_of_mem hm
                exact HK.out i e (by rw [hlen.out]; exact hi) (by rw [List.getElem?_eq_getElem hi, he]))
              clear HK
              go_wp2_with fail
              go_ret
              exact ⟨ret_int HX.out.symm, hw⟩
        · have HX := Lib.hid (R3.out HL.out h0)
          have h0' : (x0 != 0) = true := by simpa using h0
          clear h0 R2 R3 R4 HL
          go_wp2_with (go_at_call 34; refine (HM.out _ hw).mono ?_; rintro e w3 ⟨rfl, g3⟩)
          go_ret
          exact ⟨ret_int HX.out.symm, below_seq hw g3⟩

end Go.Proofs.YtgmdmbmkljbgiaaGreatDoor

/- Processes: the law about shapes, given that the fixed examples come out right. -/
namespace Go.Proofs.YtgmdmbmkljbgiaaGreatDoor
open Go.RowKit Go.Deep Go.Shelf

def Thirteen' (w : World) (b : Nat) (a0 a1 a2 a3 a4 a5 a6 a7 a8 a9 a10 a11 a12 : Value) : Prop := w.heap[b]? = some (.cells #[a0, a1, a2, a3, a4, a5, a6, a7, a8, a9, a10, a11, a12] 32 (0, 0))
section
variable {w w' : World} {b : Nat} {a0 a1 a2 a3 a4 a5 a6 a7 a8 a9 a10 a11 a12 : Value}
theorem Thirteen'.cells (h : Thirteen' w b a0 a1 a2 a3 a4 a5 a6 a7 a8 a9 a10 a11 a12) :
    w.cell? ⟨b, 0, none⟩ = some a0 ∧ w.cell? ⟨b, 1, none⟩ = some a1 ∧ w.cell? ⟨b, 2, none⟩ = some a2 ∧ w.cell? ⟨b, 3, none⟩ = some a3 ∧ w.cell? ⟨b, 4, none⟩ = some a4 ∧ w.cell? ⟨b, 5, none⟩ = some a5 ∧ w.cell? ⟨b, 6, none⟩ = some a6 ∧ w.cell? ⟨b, 7, none⟩ = some a7 ∧ w.cell? ⟨b, 8, none⟩ = some a8 ∧ w.cell? ⟨b, 9, none⟩ = some a9 ∧ w.cell? ⟨b, 10, none⟩ = some a10 ∧ w.cell? ⟨b, 11, none⟩ = some a11 ∧ w.cell? ⟨b, 12, none⟩ = some a12 := by
  unfold Thirteen' at h
  refine ⟨?_, ?_, ?_, ?_, ?_, ?_, ?_, ?_, ?_, ?_, ?_, ?_, ?_⟩ <;> simp [World.cell?, h]
theorem Thirteen'.lt (h : Thirteen' w b a0 a1 a2 a3 a4 a5 a6 a7 a8 a9 a10 a11 a12) : b < w.heap.size := (Array.getElem?_eq_some_iff.1 h).1
theorem Thirteen'.to (h : Thirteen' w b a0 a1 a2 a3 a4 a5 a6 a7 a8 a9 a10 a11 a12) (hb : Below w.heap.size w w') : Thirteen' w' b a0 a1 a2 a3 a4 a5 a6 a7 a8 a9 a10 a11 a12 := (hb.block b h.lt).trans h
end
theorem calls_at' {P : Program} {f : FuncId} {vs : Array Value} {Q : Ending → World → Prop} {W W0 : World} (h : W = W0) (k : Calls P f vs W0 Q) : Calls P f vs W Q := by rw [h]; exact k
/-- The two boxes of the law about shapes. -/
theorem made_shp (w W : World) (p : Pr) (q : Pg) {la1 la2 : Option Addr} {aa1 aa2 : Option Addr} {ta1 ta2 : Option Addr} {ua1 ua2 : Option Addr} {ka1 ka2 : Option Addr} {ln1 ln2 : Nat} {lc1 lc2 : Nat} {an1 an2 : Nat} {ac1 ac2 : Nat} {tn1 tn2 : Nat} {tc1 tc2 : Nat} {un1 un2 : Nat} {uc1 uc2 : Nat} {kn1 kn2 : Nat} {kc1 kc2 : Nat} {qa : Option Addr} {qlen qc : Nat} (hW : (w.alloc (.cells #[.int .i64 p.k, .string p.c, .string p.x, .slice la1 ln1 lc1, .slice aa1 an1 ac1, .int .i64 p.t.k, .int .i64 p.t.p, .string p.t.n, .int .i64 p.t.s, .slice ta1 tn1 tc1, .slice ua1 un1 uc1, .slice ka1 kn1 kc1] 30)).alloc (.cells #[.slice qa qlen qc, .int .i64 q.m.k, .string q.m.c, .string q.m.x, .slice la2 ln2 lc2, .slice aa2 an2 ac2, .int .i64 q.m.t.k, .int .i64 q.m.t.p, .string q.m.t.n, .int .i64 q.m.t.s, .slice ta2 tn2 tc2, .slice ua2 un2 uc2, .slice ka2 kn2 kc2] 32) = W) :
    Twelve W w.heap.size (.int .i64 p.k) (.string p.c) (.string p.x) (.slice la1 ln1 lc1) (.slice aa1 an1 ac1) (.int .i64 p.t.k) (.int .i64 p.t.p) (.string p.t.n) (.int .i64 p.t.s) (.slice ta1 tn1 tc1) (.slice ua1 un1 uc1) (.slice ka1 kn1 kc1) ∧ Thirteen' W (w.heap.size + 1) (.slice qa qlen qc) (.int .i64 q.m.k) (.string q.m.c) (.string q.m.x) (.slice la2 ln2 lc2) (.slice aa2 an2 ac2) (.int .i64 q.m.t.k) (.int .i64 q.m.t.p) (.string q.m.t.n) (.int .i64 q.m.t.s) (.slice ta2 tn2 tc2) (.slice ua2 un2 uc2) (.slice ka2 kn2 kc2) ∧ Below w.heap.size w W := by
  have hb : Below w.heap.size w W := by rw [← hW]; exact ((Below.refl _ _).alloc (Nat.le_refl _) _).alloc (by simp) _
  refine ⟨?_, ?_, hb⟩ <;> (first | unfold Twelve | unfold Thirteen') <;> rw [← hW] <;> simp only [heap_push, Array.getElem?_push, Array.size_push] <;> simp

theorem pfew_l' {W : World} {v : Value} {p : Pr} {m : Nat} {b : Bool} (h : PLies W v p) (hm : m ≤ 1000000) (hb : p.few m = b) : Calls Tryz.prog 21 #[v, .int .i64 m] W fun e w' => e = .returned (.bool b) ∧ Below W.heap.size W w' := by
  rw [← hb]; exact prfew_any _ p m hm v W (plow W) h
theorem plittle_l' {W : World} {v : Value} {g : Pg} {m : Nat} {b : Bool} (h : GLies W v g) (hm : m ≤ 1000000) (hb : g.little m = b) : Calls Tryz.prog 7 #[v, .int .i64 m] W fun e w' => e = .returned (.bool b) ∧ Below W.heap.size W w' := by
  rw [← hb]; exact rlittle_any _ g m hm v W (plow W) h
theorem rnode_all : RNode := fun B p hsz v w hB hv => rpnode_any B p hsz v w hB hv
theorem rpright_l {W : World} {v : Value} {p : Pr} {c : Int} (h : PLies W v p) (hg : PGood p) (hs : p.size ≤ 1000000) (hc : prightE p = c) : Calls Tryz.prog 34 #[v] W fun e w' => e = .returned (.int .i64 c) ∧ Below W.heap.size W w' :=
  rpright_any rnode_all _ p hg.2 hs c hc v W (plow W) h
theorem rpprog_l {W : World} {v : Value} {g : Pg} {c : Int} (h : GLies W v g) (hg : GGood g) (hs : g.total ≤ 1000000000) (hc : pprogE g = c) : Calls Tryz.prog 15 #[v] W fun e w' => e = .returned (.int .i64 c) ∧ Below W.heap.size W w' :=
  rpprogram_any rnode_all _ g hg hs c hc v W (plow W) h
theorem sumN_bound' {α : Type} (l : List α) (f : α → Nat) (K : Nat) (h : ∀ x ∈ l, f x ≤ K) : sumN (l.map f) ≤ l.length * K := by
  induction l with
  | nil => simp [sumN]
  | cons x r ih =>
    have h1 := h x (by simp)
    have h2 := ih (fun y hy => h y (by simp [hy]))
    rw [List.map_cons, sumN, List.length_cons, Nat.succ_mul]; omega
theorem Pr.typ_le' : ∀ p : Pr, p.tf → p.typ ≤ 300 * p.size := by
  refine Pr.ind ?_
  intro k c x ls vs t ps ih htf
  have hl : ∀ l : List Pr, (∀ u ∈ l, u ∈ ps) → Pr.typs l ≤ 300 * Pr.sizes l := by
    intro l
    induction l with
    | nil => intro _; simp [Pr.typs, Pr.sizes]
    | cons u r ihl =>
      intro hu
      have h1 := ih u (hu u (by simp)) (Pr.tf_ps htf u (hu u (by simp)))
      have h2 := ihl (fun y hy => hu y (by simp [hy]))
      simp only [Pr.typs, Pr.sizes]; omega
  have h1 := hl ps (fun _ h => h)
  have h2 := (few_size (Pr.tf_t htf)).1
  simp only [Pr.t] at h2
  have h3 : (Pr.mk k c x ls vs t ps).typ0 ≤ t.size := by
    unfold Pr.typ0
    by_cases h6 : (Pr.mk k c x ls vs t ps).k = 6
    · rw [if_pos h6]; exact Nat.le_refl _
    · rw [if_neg h6]; exact Nat.zero_le _
  rw [Pr.typ_eq, Pr.size_eq]
  simp only [Pr.ps]; omega
theorem little_good' {g : Pg} {m : Nat} (hm : m ≤ 100000) (hf : Pg.fine g) (h : g.little m = true) : GGood g ∧ g.total ≤ 1000000000 := by
  obtain ⟨h1, h2, h3⟩ := Pg.little_facts h
  have hmn := Pr.few_facts h2
  have hds : ∀ d ∈ g.ds, d.b.few m = true ∧ d.ms.length ≤ 20 ∧ ∀ a ∈ d.ms, a.t.few 300 = true := fun d hd => Df.little_facts (h3 d hd)
  refine ⟨⟨by omega, fun d hd a ha => ⟨(hf.1 d hd).1 a ha, (hds d hd).2.2 a ha⟩, fun u hu => ?_⟩, ?_⟩
  · unfold Pg.bodies at hu
    simp only [List.mem_append, List.mem_map, List.mem_singleton] at hu
    rcases hu with ⟨d, hd, rfl⟩ | rfl
    · have := Pr.few_facts (hds d hd).1
      exact ⟨⟨(hf.1 d hd).2, this.2.2⟩, by omega, by omega⟩
    · exact ⟨⟨hf.2, hmn.2.2⟩, by omega, by omega⟩
  · rw [Pg.total_eq]
    have hall : ∀ d ∈ g.ds, d.all ≤ 30200000 := fun d hd => by
      have hb := Pr.few_facts (hds d hd).1
      have ht := Pr.typ_le' d.b hb.2.2
      have hp : sumN d.pms ≤ d.ms.length * 300 := sumN_bound' d.ms (fun a => a.t.size) 300 (fun a ha => (few_size ((hds d hd).2.2 a ha)).1)
      have hl := (hds d hd).2.1
      unfold Df.all; omega
    have hs := sumN_bound' g.ds Df.all 30200000 hall
    have ht := Pr.typ_le' g.m hmn.2.2
    have : g.ds.length * 30200000 ≤ 20 * 30200000 := Nat.mul_le_mul_right _ h1
    omega


end Go.Proofs.YtgmdmbmkljbgiaaGreatDoor
