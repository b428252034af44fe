/- Processes: the reference's node, kind 0. (and what follows from it) -/
import Derived.Test.YtgmdmbmkljbgiaaGreatDoorPz13
import Derived.Test.YtgmdmbmkljbgiaaGreatDoorPz9
import Derived.Test.YtgmdmbmkljbgiaaGreatDoorPz7
import Derived.Test.YtgmdmbmkljbgiaaGreatDoorPz8

/- Processes: the reference's node, kind 0. -/
namespace Go.Proofs.YtgmdmbmkljbgiaaGreatDoor
open Go.RowKit Go.Deep Go.Shelf

set_option maxHeartbeats 8000000 in
set_option maxRecDepth 100000 in
theorem rnode_0 (B : Nat → Prop) (k : Int) (hkk : k < 1 ∨ 8 < k) (c x : ByteArray) (ls : List ByteArray) (vs : List Vl) (t : Ty) (ps : List Pr) (_hsz : t.size ≤ 1000000) (v : Value) (w : World) (hB : Low B w) (hv : PrVal B w v (Pr.mk k c x ls vs t ps)) :
    Calls Tryz.prog 67 #[v] w fun e w' => e = .returned (.bool (Pr.mk k c x ls vs t ps).okN) ∧ Below w.heap.size w w' := by
  have hv0 := hv
  obtain ⟨lv, av, tl, tk, kv, rfl, ⟨hcs, hxs⟩, hl, ha, ht, hk⟩ := hv
  replace hcs : c.size ≤ maxLen := hcs
  replace hxs : x.size ≤ maxLen := hxs
  replace hl : StrSl B w lv ls := hl
  replace ha : VlSl B w av vs := ha
  replace hk : PrSl B w kv ps := hk
  replace ht : TyVal B w (.agg #[.int .i64 t.k, .int .i64 t.p, .string t.n, .int .i64 t.s, tl, tk]) t := ht
  have hlB := fun W (hW : Below w.heap.size w W) => rlabels_any B lv ls W (hB.le hW.size) (hl.keep (hW.keeps'.mono hB))
  obtain ⟨ka, kn, kc, rfl, hkn, hkm, hkg⟩ := hk.open
  obtain ⟨aa, an, ac, rfl, han, ham, hag⟩ := ha.open
  obtain ⟨la, ln, lc, rfl, hln, hlm, hlg⟩ := hl.open
  obtain ⟨⟨ta, tn, tc, rfl⟩, ua, un, uc, rfl⟩ := slices_of ht
  have hs : (Pr.mk k c x ls vs t ps).okN = false := okN_0 k c x ls vs t ps hkk
  have e1 : (k == 1) = false := by simp; omega
  have e2 : (k == 2) = false := by simp; omega
  have e3 : (k == 3) = false := by simp; omega
  have e4 : (k == 4) = false := by simp; omega
  have e5 : (k == 5) = false := by simp; omega
  have e6 : (k == 6) = false := by simp; omega
  have e7 : (k == 7) = false := by simp; omega
  have e8 : (k == 8) = false := by simp; omega
  clear hkk
  have HGV := Lib.hid hag
  have HGK := Lib.hid hkg
  have HGL := Lib.hid hlg
  have HVL := Lib.hid (rfl : vlsB vs = vlsB vs)
  rw [hs]
  have HB := Lib.hid hB
  clear hs hv0 hcs hxs hl ha ht hk hlB hkg hag hlg hB
  go_enter Tryz.func67, Tryz.ntmps67
  go_wp2_with fail
  go_loopw [3] (fun i wr => ∃ (j : Nat), i = .int .i64 j ∧ j ≤ an ∧ Hid (∀ v ∈ vs.take j, vlB v = true) ∧ Below (w.heap.size + 1) (w.alloc (Obj.cells #[.int .i64 k, .string c, .string x, .slice la ln lc, .slice aa an ac, .int .i64 t.k, .int .i64 t.p, .string t.n, .int .i64 t.s, .slice ta tn tc, .slice ua un uc, .slice ka kn kc] 30)) wr) (fun i _ => an - (intOf i).toNat)
  case atStart => exact ⟨0, rfl, by omega, Lib.hid (by simp), Below.refl _ _⟩
  case round =>
    obtain ⟨j, rfl, hj, HT, hb⟩ := hrel
    have hw := blk_below hb
    by_cases hlt : j < an
    · have c4 := blk_cell hb 4 rfl
      obtain ⟨u, hu⟩ : ∃ u, vs[j]? = some u := ⟨_, List.getElem?_eq_getElem (by rw [← han.out]; exact hlt)⟩
      obtain ⟨hun, kb, ko, rfl, hkb, hc⟩ := HGV.out j u hu
      have e0 := (hw.cell (p := ⟨kb, _, none⟩) (HB.out kb hkb)).trans hc.1
      have e1 := (hw.cell (p := ⟨kb, _, none⟩) (HB.out kb hkb)).trans hc.2.1
      have e2 := (hw.cell (p := ⟨kb, _, none⟩) (HB.out kb hkb)).trans hc.2.2
      have HX := Lib.hid hu
      obtain ⟨uk, un', uy⟩ := u
      simp only at e0 e1 e2 hun
      obtain ⟨vb, hvb⟩ : ∃ b, vlB ⟨uk, un', uy⟩ = b := ⟨_, rfl⟩
      have HV := Lib.hid (fun W => rvalue_any uk uy un' vb hvb hun W)
      have HVB := Lib.hid hvb
      clear hc hu hvb hun
      cases vb with
      | false =>
        have hf : Hid (vlsB vs = false) := Lib.hid (by
          unfold vlsB
          rw [decide_eq_false_iff_not]
          intro h
          have := h _ (List.mem_of_getElem? HX.out)
          rw [HVB.out] at this
          cases this)
        go_wp2_with (go_at_call 98; refine (HV.out _).mono ?_; rintro e w2 ⟨rfl, g⟩)
        go_ret
        exact ⟨ret_bool (by rfl), hw.trans (g.mono hw.size)⟩
      | true =>
        have hf : Hid (∀ v ∈ vs.take (j + 1), vlB v = true) := Lib.hid (by
          rw [take_snoc_get HX.out]
          intro q hq
          rcases List.mem_append.1 hq with hq | hq
          · exact HT.out q hq
          · obtain rfl := List.mem_singleton.1 hq
            exact HVB.out)
        go_wp2_with (go_at_call 98; refine (HV.out _).mono ?_; rintro e w2 ⟨rfl, g⟩)
        go_roundw
        case rel => exact ⟨j + 1, by go_num, by omega, hf, gnext hb g⟩
        case measure => simp [intOf]; omega
    · obtain rfl : j = an := by omega
      have HVT : Hid (vlsB vs = true) := Lib.hid (by
        have := HT.out
        rw [List.take_of_length_le (by rw [han.out]; exact Nat.le_refl _)] at this
        unfold vlsB
        rw [decide_eq_true_eq]
        exact this)
      clear HT
      have c0 := blk_cell hb 0 rfl
      have c1 := blk_cell hb 1 rfl
      have c2 := blk_cell hb 2 rfl
      have c3 := blk_cell hb 3 rfl
      have c4 := blk_cell hb 4 rfl
      have c5 := blk_cell hb 5 rfl
      have c6 := blk_cell hb 6 rfl
      have c7 := blk_cell hb 7 rfl
      have c8 := blk_cell hb 8 rfl
      have c9 := blk_cell hb 9 rfl
      have c10 := blk_cell hb 10 rfl
      have c11 := blk_cell hb 11 rfl
      go_wp2_with fail
      go_ret
      exact ⟨rfl, hw⟩

end Go.Proofs.YtgmdmbmkljbgiaaGreatDoor

/- Processes: the reference's node, kind 1. -/
namespace Go.Proofs.YtgmdmbmkljbgiaaGreatDoor
open Go.RowKit Go.Deep Go.Shelf

set_option maxHeartbeats 8000000 in
set_option maxRecDepth 100000 in
theorem rnode_1 (B : Nat → Prop) (c x : ByteArray) (ls : List ByteArray) (vs : List Vl) (t : Ty) (ps : List Pr) (_hsz : t.size ≤ 1000000) (v : Value) (w : World) (hB : Low B w) (hv : PrVal B w v (Pr.mk 1 c x ls vs t ps)) :
    Calls Tryz.prog 67 #[v] w fun e w' => e = .returned (.bool (Pr.mk 1 c x ls vs t ps).okN) ∧ Below w.heap.size w w' := by
  have hv0 := hv
  obtain ⟨lv, av, tl, tk, kv, rfl, ⟨hcs, hxs⟩, hl, ha, ht, hk⟩ := hv
  replace hcs : c.size ≤ maxLen := hcs
  replace hxs : x.size ≤ maxLen := hxs
  replace hl : StrSl B w lv ls := hl
  replace ha : VlSl B w av vs := ha
  replace hk : PrSl B w kv ps := hk
  replace ht : TyVal B w (.agg #[.int .i64 t.k, .int .i64 t.p, .string t.n, .int .i64 t.s, tl, tk]) t := ht
  have hlB := fun W (hW : Below w.heap.size w W) => rlabels_any B lv ls W (hB.le hW.size) (hl.keep (hW.keeps'.mono hB))
  obtain ⟨ka, kn, kc, rfl, hkn, hkm, hkg⟩ := hk.open
  obtain ⟨aa, an, ac, rfl, han, ham, hag⟩ := ha.open
  obtain ⟨la, ln, lc, rfl, hln, hlm, hlg⟩ := hl.open
  obtain ⟨⟨ta, tn, tc, rfl⟩, ua, un, uc, rfl⟩ := slices_of ht
  have hs : (Pr.mk 1 c x ls vs t ps).okN = (vlsB vs && (c.toList.isEmpty && (x.toList.isEmpty && (decide (vs.length = 0) && (decide (ls.length = 0) && (decide (ps.length = 0) && eqB t default)))))) := okN_1 c x ls vs t ps
  rw [← han.out, ← hln.out, ← hkn.out] at hs
  obtain ⟨pl, hpl⟩ : ∃ b, eqB t default = b := ⟨_, rfl⟩
  have HPL : Hid (∀ (n1 n2 n3 : Nat), n1 = an → n2 = ln → n3 = kn → ∀ W, Below w.heap.size w W → Calls Tryz.prog 99 #[.agg #[.int .i64 1, .string c, .string x, .slice la n2 lc, .slice aa n1 ac, .int .i64 t.k, .int .i64 t.p, .string t.n, .int .i64 t.s, .slice ta tn tc, .slice ua un uc, .slice ka n3 kc]] W fun e w' => e = .returned (.bool pl) ∧ Below W.heap.size W w') := Lib.hid (by
    rintro _ _ _ rfl rfl rfl
    exact fun W hW => rplain_any B (Pr.mk 1 c x ls vs t ps) pl hpl _ W (hB.le hW.size) (hv0.to hB hW))
  rw [hpl] at hs
  clear hpl
  have HGV := Lib.hid hag
  have HGK := Lib.hid hkg
  have HGL := Lib.hid hlg
  have HVL := Lib.hid (rfl : vlsB vs = vlsB vs)
  rw [hs]
  have HB := Lib.hid hB
  clear hs hv0 hcs hxs hl ha ht hk hlB hkg hag hlg hB
  go_enter Tryz.func67, Tryz.ntmps67
  go_wp2_with fail
  go_loopw [3] (fun i wr => ∃ (j : Nat), i = .int .i64 j ∧ j ≤ an ∧ Hid (∀ v ∈ vs.take j, vlB v = true) ∧ Below (w.heap.size + 1) (w.alloc (Obj.cells #[.int .i64 1, .string c, .string x, .slice la ln lc, .slice aa an ac, .int .i64 t.k, .int .i64 t.p, .string t.n, .int .i64 t.s, .slice ta tn tc, .slice ua un uc, .slice ka kn kc] 30)) wr) (fun i _ => an - (intOf i).toNat)
  case atStart => exact ⟨0, rfl, by omega, Lib.hid (by simp), Below.refl _ _⟩
  case round =>
    obtain ⟨j, rfl, hj, HT, hb⟩ := hrel
    have hw := blk_below hb
    by_cases hlt : j < an
    · have c4 := blk_cell hb 4 rfl
      obtain ⟨u, hu⟩ : ∃ u, vs[j]? = some u := ⟨_, List.getElem?_eq_getElem (by rw [← han.out]; exact hlt)⟩
      obtain ⟨hun, kb, ko, rfl, hkb, hc⟩ := HGV.out j u hu
      have e0 := (hw.cell (p := ⟨kb, _, none⟩) (HB.out kb hkb)).trans hc.1
      have e1 := (hw.cell (p := ⟨kb, _, none⟩) (HB.out kb hkb)).trans hc.2.1
      have e2 := (hw.cell (p := ⟨kb, _, none⟩) (HB.out kb hkb)).trans hc.2.2
      have HX := Lib.hid hu
      obtain ⟨uk, un', uy⟩ := u
      simp only at e0 e1 e2 hun
      obtain ⟨vb, hvb⟩ : ∃ b, vlB ⟨uk, un', uy⟩ = b := ⟨_, rfl⟩
      have HV := Lib.hid (fun W => rvalue_any uk uy un' vb hvb hun W)
      have HVB := Lib.hid hvb
      clear hc hu hvb hun
      cases vb with
      | false =>
        have hf : Hid (vlsB vs = false) := Lib.hid (by
          unfold vlsB
          rw [decide_eq_false_iff_not]
          intro h
          have := h _ (List.mem_of_getElem? HX.out)
          rw [HVB.out] at this
          cases this)
        go_wp2_with (go_at_call 98; refine (HV.out _).mono ?_; rintro e w2 ⟨rfl, g⟩)
        go_ret
        exact ⟨ret_bool (by rw [hf.out, Bool.false_and]), hw.trans (g.mono hw.size)⟩
      | true =>
        have hf : Hid (∀ v ∈ vs.take (j + 1), vlB v = true) := Lib.hid (by
          rw [take_snoc_get HX.out]
          intro q hq
          rcases List.mem_append.1 hq with hq | hq
          · exact HT.out q hq
          · obtain rfl := List.mem_singleton.1 hq
            exact HVB.out)
        go_wp2_with (go_at_call 98; refine (HV.out _).mono ?_; rintro e w2 ⟨rfl, g⟩)
        go_roundw
        case rel => exact ⟨j + 1, by go_num, by omega, hf, gnext hb g⟩
        case measure => simp [intOf]; omega
    · obtain rfl : j = an := by omega
      have HVT : Hid (vlsB vs = true) := Lib.hid (by
        have := HT.out
        rw [List.take_of_length_le (by rw [han.out]; exact Nat.le_refl _)] at this
        unfold vlsB
        rw [decide_eq_true_eq]
        exact this)
      clear HT
      have c0 := blk_cell hb 0 rfl
      have c1 := blk_cell hb 1 rfl
      have c2 := blk_cell hb 2 rfl
      have c3 := blk_cell hb 3 rfl
      have c4 := blk_cell hb 4 rfl
      have c5 := blk_cell hb 5 rfl
      have c6 := blk_cell hb 6 rfl
      have c7 := blk_cell hb 7 rfl
      have c8 := blk_cell hb 8 rfl
      have c9 := blk_cell hb 9 rfl
      have c10 := blk_cell hb 10 rfl
      have c11 := blk_cell hb 11 rfl
      go_wp2_with (first | (go_at_call 99; refine (HPL.out _ _ _ (by omega) (by omega) (by omega) _ (blk_below (by assumption))).mono ?_; rintro e w2 ⟨rfl, g⟩; have gb2 := gnext (by assumption) g))
      all_goals (go_ret; refine ⟨ret_bool ?_, ?_⟩; rotate_left; (first | exact blk_below (by assumption) | exact below_drewN (blk_below (by assumption)) _); rw [HVT.out, Bool.true_and]; (try (first | rw [show decide (j = 0) = true from decide_eq_true (by omega)] | rw [show decide (j = 0) = false from decide_eq_false (by omega)])); (try (first | rw [show decide (ln = 0) = true from decide_eq_true (by omega)] | rw [show decide (ln = 0) = false from decide_eq_false (by omega)])); (try (first | rw [show decide (kn = 0) = true from decide_eq_true (by omega)] | rw [show decide (kn = 0) = false from decide_eq_false (by omega)])); clear HGV HGK HGL HVL HB HPL HVT; (try simp_all); (try (rw [Bool.eq_iff_iff]; simp)); (try omega))

end Go.Proofs.YtgmdmbmkljbgiaaGreatDoor

/- Processes: the reference's node, kind 2. -/
namespace Go.Proofs.YtgmdmbmkljbgiaaGreatDoor
open Go.RowKit Go.Deep Go.Shelf

set_option maxHeartbeats 8000000 in
set_option maxRecDepth 100000 in
theorem rnode_2 (B : Nat → Prop) (c x : ByteArray) (ls : List ByteArray) (vs : List Vl) (t : Ty) (ps : List Pr) (_hsz : t.size ≤ 1000000) (v : Value) (w : World) (hB : Low B w) (hv : PrVal B w v (Pr.mk 2 c x ls vs t ps)) :
    Calls Tryz.prog 67 #[v] w fun e w' => e = .returned (.bool (Pr.mk 2 c x ls vs t ps).okN) ∧ Below w.heap.size w w' := by
  have hv0 := hv
  obtain ⟨lv, av, tl, tk, kv, rfl, ⟨hcs, hxs⟩, hl, ha, ht, hk⟩ := hv
  replace hcs : c.size ≤ maxLen := hcs
  replace hxs : x.size ≤ maxLen := hxs
  replace hl : StrSl B w lv ls := hl
  replace ha : VlSl B w av vs := ha
  replace hk : PrSl B w kv ps := hk
  replace ht : TyVal B w (.agg #[.int .i64 t.k, .int .i64 t.p, .string t.n, .int .i64 t.s, tl, tk]) t := ht
  have hlB := fun W (hW : Below w.heap.size w W) => rlabels_any B lv ls W (hB.le hW.size) (hl.keep (hW.keeps'.mono hB))
  obtain ⟨ka, kn, kc, rfl, hkn, hkm, hkg⟩ := hk.open
  obtain ⟨aa, an, ac, rfl, han, ham, hag⟩ := ha.open
  obtain ⟨la, ln, lc, rfl, hln, hlm, hlg⟩ := hl.open
  obtain ⟨⟨ta, tn, tc, rfl⟩, ua, un, uc, rfl⟩ := slices_of ht
  have hs : (Pr.mk 2 c x ls vs t ps).okN = (vlsB vs && (nameB c && (x.toList.isEmpty && (decide (vs.length = 1) && (decide (ls.length = 0) && (decide (ps.length = 1) && eqB t default)))))) := okN_2 c x ls vs t ps
  rw [← han.out, ← hln.out, ← hkn.out] at hs
  obtain ⟨nc, hnc⟩ : ∃ b, nameB c = b := ⟨_, rfl⟩
  have HNC := Lib.hid (fun W => rpname_any c nc hnc hcs W)
  rw [hnc] at hs
  clear hnc
  obtain ⟨pl, hpl⟩ : ∃ b, eqB t default = b := ⟨_, rfl⟩
  have HPL : Hid (∀ (n1 n2 n3 : Nat), n1 = an → n2 = ln → n3 = kn → ∀ W, Below w.heap.size w W → Calls Tryz.prog 99 #[.agg #[.int .i64 2, .string c, .string x, .slice la n2 lc, .slice aa n1 ac, .int .i64 t.k, .int .i64 t.p, .string t.n, .int .i64 t.s, .slice ta tn tc, .slice ua un uc, .slice ka n3 kc]] W fun e w' => e = .returned (.bool pl) ∧ Below W.heap.size W w') := Lib.hid (by
    rintro _ _ _ rfl rfl rfl
    exact fun W hW => rplain_any B (Pr.mk 2 c x ls vs t ps) pl hpl _ W (hB.le hW.size) (hv0.to hB hW))
  rw [hpl] at hs
  clear hpl
  have HGV := Lib.hid hag
  have HGK := Lib.hid hkg
  have HGL := Lib.hid hlg
  have HVL := Lib.hid (rfl : vlsB vs = vlsB vs)
  rw [hs]
  have HB := Lib.hid hB
  clear hs hv0 hcs hxs hl ha ht hk hlB hkg hag hlg hB
  go_enter Tryz.func67, Tryz.ntmps67
  go_wp2_with fail
  go_loopw [3] (fun i wr => ∃ (j : Nat), i = .int .i64 j ∧ j ≤ an ∧ Hid (∀ v ∈ vs.take j, vlB v = true) ∧ Below (w.heap.size + 1) (w.alloc (Obj.cells #[.int .i64 2, .string c, .string x, .slice la ln lc, .slice aa an ac, .int .i64 t.k, .int .i64 t.p, .string t.n, .int .i64 t.s, .slice ta tn tc, .slice ua un uc, .slice ka kn kc] 30)) wr) (fun i _ => an - (intOf i).toNat)
  case atStart => exact ⟨0, rfl, by omega, Lib.hid (by simp), Below.refl _ _⟩
  case round =>
    obtain ⟨j, rfl, hj, HT, hb⟩ := hrel
    have hw := blk_below hb
    by_cases hlt : j < an
    · have c4 := blk_cell hb 4 rfl
      obtain ⟨u, hu⟩ : ∃ u, vs[j]? = some u := ⟨_, List.getElem?_eq_getElem (by rw [← han.out]; exact hlt)⟩
      obtain ⟨hun, kb, ko, rfl, hkb, hc⟩ := HGV.out j u hu
      have e0 := (hw.cell (p := ⟨kb, _, none⟩) (HB.out kb hkb)).trans hc.1
      have e1 := (hw.cell (p := ⟨kb, _, none⟩) (HB.out kb hkb)).trans hc.2.1
      have e2 := (hw.cell (p := ⟨kb, _, none⟩) (HB.out kb hkb)).trans hc.2.2
      have HX := Lib.hid hu
      obtain ⟨uk, un', uy⟩ := u
      simp only at e0 e1 e2 hun
      obtain ⟨vb, hvb⟩ : ∃ b, vlB ⟨uk, un', uy⟩ = b := ⟨_, rfl⟩
      have HV := Lib.hid (fun W => rvalue_any uk uy un' vb hvb hun W)
      have HVB := Lib.hid hvb
      clear hc hu hvb hun
      cases vb with
      | false =>
        have hf : Hid (vlsB vs = false) := Lib.hid (by
          unfold vlsB
          rw [decide_eq_false_iff_not]
          intro h
          have := h _ (List.mem_of_getElem? HX.out)
          rw [HVB.out] at this
          cases this)
        go_wp2_with (go_at_call 98; refine (HV.out _).mono ?_; rintro e w2 ⟨rfl, g⟩)
        go_ret
        exact ⟨ret_bool (by rw [hf.out, Bool.false_and]), hw.trans (g.mono hw.size)⟩
      | true =>
        have hf : Hid (∀ v ∈ vs.take (j + 1), vlB v = true) := Lib.hid (by
          rw [take_snoc_get HX.out]
          intro q hq
          rcases List.mem_append.1 hq with hq | hq
          · exact HT.out q hq
          · obtain rfl := List.mem_singleton.1 hq
            exact HVB.out)
        go_wp2_with (go_at_call 98; refine (HV.out _).mono ?_; rintro e w2 ⟨rfl, g⟩)
        go_roundw
        case rel => exact ⟨j + 1, by go_num, by omega, hf, gnext hb g⟩
        case measure => simp [intOf]; omega
    · obtain rfl : j = an := by omega
      have HVT : Hid (vlsB vs = true) := Lib.hid (by
        have := HT.out
        rw [List.take_of_length_le (by rw [han.out]; exact Nat.le_refl _)] at this
        unfold vlsB
        rw [decide_eq_true_eq]
        exact this)
      clear HT
      have c0 := blk_cell hb 0 rfl
      have c1 := blk_cell hb 1 rfl
      have c2 := blk_cell hb 2 rfl
      have c3 := blk_cell hb 3 rfl
      have c4 := blk_cell hb 4 rfl
      have c5 := blk_cell hb 5 rfl
      have c6 := blk_cell hb 6 rfl
      have c7 := blk_cell hb 7 rfl
      have c8 := blk_cell hb 8 rfl
      have c9 := blk_cell hb 9 rfl
      have c10 := blk_cell hb 10 rfl
      have c11 := blk_cell hb 11 rfl
      go_wp2_with (first | (go_at_call 35; with_reducible refine (HNC.out _).mono ?_; rintro e w2 ⟨rfl, g⟩; have gb2 := gnext (by assumption) g; have c0 := blk_cell gb2 0 rfl; have c1 := blk_cell gb2 1 rfl; have c2 := blk_cell gb2 2 rfl; have c3 := blk_cell gb2 3 rfl; have c4 := blk_cell gb2 4 rfl; have c5 := blk_cell gb2 5 rfl; have c6 := blk_cell gb2 6 rfl; have c7 := blk_cell gb2 7 rfl; have c8 := blk_cell gb2 8 rfl; have c9 := blk_cell gb2 9 rfl; have c10 := blk_cell gb2 10 rfl; have c11 := blk_cell gb2 11 rfl) | (go_at_call 99; refine (HPL.out _ _ _ (by omega) (by omega) (by omega) _ (blk_below (by assumption))).mono ?_; rintro e w2 ⟨rfl, g⟩; have gb2 := gnext (by assumption) g))
      all_goals (go_ret; refine ⟨ret_bool ?_, ?_⟩; rotate_left; (first | exact blk_below (by assumption) | exact below_drewN (blk_below (by assumption)) _); rw [HVT.out, Bool.true_and]; (try (first | rw [show decide (j = 1) = true from decide_eq_true (by omega)] | rw [show decide (j = 1) = false from decide_eq_false (by omega)])); (try (first | rw [show decide (ln = 0) = true from decide_eq_true (by omega)] | rw [show decide (ln = 0) = false from decide_eq_false (by omega)])); (try (first | rw [show decide (kn = 1) = true from decide_eq_true (by omega)] | rw [show decide (kn = 1) = false from decide_eq_false (by omega)])); clear HGV HGK HGL HVL HB HNC HPL HVT; (try simp_all); (try (rw [Bool.eq_iff_iff]; simp)); (try omega))

end Go.Proofs.YtgmdmbmkljbgiaaGreatDoor

/- Processes: the reference's node, kind 3. -/
namespace Go.Proofs.YtgmdmbmkljbgiaaGreatDoor
open Go.RowKit Go.Deep Go.Shelf

set_option maxHeartbeats 8000000 in
set_option maxRecDepth 100000 in
theorem rnode_3 (B : Nat → Prop) (c x : ByteArray) (ls : List ByteArray) (vs : List Vl) (t : Ty) (ps : List Pr) (_hsz : t.size ≤ 1000000) (v : Value) (w : World) (hB : Low B w) (hv : PrVal B w v (Pr.mk 3 c x ls vs t ps)) :
    Calls Tryz.prog 67 #[v] w fun e w' => e = .returned (.bool (Pr.mk 3 c x ls vs t ps).okN) ∧ Below w.heap.size w w' := by
  have hv0 := hv
  obtain ⟨lv, av, tl, tk, kv, rfl, ⟨hcs, hxs⟩, hl, ha, ht, hk⟩ := hv
  replace hcs : c.size ≤ maxLen := hcs
  replace hxs : x.size ≤ maxLen := hxs
  replace hl : StrSl B w lv ls := hl
  replace ha : VlSl B w av vs := ha
  replace hk : PrSl B w kv ps := hk
  replace ht : TyVal B w (.agg #[.int .i64 t.k, .int .i64 t.p, .string t.n, .int .i64 t.s, tl, tk]) t := ht
  have hlB := fun W (hW : Below w.heap.size w W) => rlabels_any B lv ls W (hB.le hW.size) (hl.keep (hW.keeps'.mono hB))
  obtain ⟨ka, kn, kc, rfl, hkn, hkm, hkg⟩ := hk.open
  obtain ⟨aa, an, ac, rfl, han, ham, hag⟩ := ha.open
  obtain ⟨la, ln, lc, rfl, hln, hlm, hlg⟩ := hl.open
  obtain ⟨⟨ta, tn, tc, rfl⟩, ua, un, uc, rfl⟩ := slices_of ht
  have hs : (Pr.mk 3 c x ls vs t ps).okN = (vlsB vs && (nameB c && (nameB x && (decide (vs.length = 0) && (decide (ls.length = 0) && (decide (ps.length = 1) && eqB t default)))))) := okN_3 c x ls vs t ps
  rw [← han.out, ← hln.out, ← hkn.out] at hs
  obtain ⟨nc, hnc⟩ : ∃ b, nameB c = b := ⟨_, rfl⟩
  have HNC := Lib.hid (fun W => rpname_any c nc hnc hcs W)
  rw [hnc] at hs
  clear hnc
  obtain ⟨nx, hnx⟩ : ∃ b, nameB x = b := ⟨_, rfl⟩
  have HNX := Lib.hid (fun W => rpname_any x nx hnx hxs W)
  rw [hnx] at hs
  clear hnx
  obtain ⟨pl, hpl⟩ : ∃ b, eqB t default = b := ⟨_, rfl⟩
  have HPL : Hid (∀ (n1 n2 n3 : Nat), n1 = an → n2 = ln → n3 = kn → ∀ W, Below w.heap.size w W → Calls Tryz.prog 99 #[.agg #[.int .i64 3, .string c, .string x, .slice la n2 lc, .slice aa n1 ac, .int .i64 t.k, .int .i64 t.p, .string t.n, .int .i64 t.s, .slice ta tn tc, .slice ua un uc, .slice ka n3 kc]] W fun e w' => e = .returned (.bool pl) ∧ Below W.heap.size W w') := Lib.hid (by
    rintro _ _ _ rfl rfl rfl
    exact fun W hW => rplain_any B (Pr.mk 3 c x ls vs t ps) pl hpl _ W (hB.le hW.size) (hv0.to hB hW))
  rw [hpl] at hs
  clear hpl
  have HGV := Lib.hid hag
  have HGK := Lib.hid hkg
  have HGL := Lib.hid hlg
  have HVL := Lib.hid (rfl : vlsB vs = vlsB vs)
  rw [hs]
  have HB := Lib.hid hB
  clear hs hv0 hcs hxs hl ha ht hk hlB hkg hag hlg hB
  go_enter Tryz.func67, Tryz.ntmps67
  go_wp2_with fail
  go_loopw [3] (fun i wr => ∃ (j : Nat), i = .int .i64 j ∧ j ≤ an ∧ Hid (∀ v ∈ vs.take j, vlB v = true) ∧ Below (w.heap.size + 1) (w.alloc (Obj.cells #[.int .i64 3, .string c, .string x, .slice la ln lc, .slice aa an ac, .int .i64 t.k, .int .i64 t.p, .string t.n, .int .i64 t.s, .slice ta tn tc, .slice ua un uc, .slice ka kn kc] 30)) wr) (fun i _ => an - (intOf i).toNat)
  case atStart => exact ⟨0, rfl, by omega, Lib.hid (by simp), Below.refl _ _⟩
  case round =>
    obtain ⟨j, rfl, hj, HT, hb⟩ := hrel
    have hw := blk_below hb
    by_cases hlt : j < an
    · have c4 := blk_cell hb 4 rfl
      obtain ⟨u, hu⟩ : ∃ u, vs[j]? = some u := ⟨_, List.getElem?_eq_getElem (by rw [← han.out]; exact hlt)⟩
      obtain ⟨hun, kb, ko, rfl, hkb, hc⟩ := HGV.out j u hu
      have e0 := (hw.cell (p := ⟨kb, _, none⟩) (HB.out kb hkb)).trans hc.1
      have e1 := (hw.cell (p := ⟨kb, _, none⟩) (HB.out kb hkb)).trans hc.2.1
      have e2 := (hw.cell (p := ⟨kb, _, none⟩) (HB.out kb hkb)).trans hc.2.2
      have HX := Lib.hid hu
      obtain ⟨uk, un', uy⟩ := u
      simp only at e0 e1 e2 hun
      obtain ⟨vb, hvb⟩ : ∃ b, vlB ⟨uk, un', uy⟩ = b := ⟨_, rfl⟩
      have HV := Lib.hid (fun W => rvalue_any uk uy un' vb hvb hun W)
      have HVB := Lib.hid hvb
      clear hc hu hvb hun
      cases vb with
      | false =>
        have hf : Hid (vlsB vs = false) := Lib.hid (by
          unfold vlsB
          rw [decide_eq_false_iff_not]
          intro h
          have := h _ (List.mem_of_getElem? HX.out)
          rw [HVB.out] at this
          cases this)
        go_wp2_with (go_at_call 98; refine (HV.out _).mono ?_; rintro e w2 ⟨rfl, g⟩)
        go_ret
        exact ⟨ret_bool (by rw [hf.out, Bool.false_and]), hw.trans (g.mono hw.size)⟩
      | true =>
        have hf : Hid (∀ v ∈ vs.take (j + 1), vlB v = true) := Lib.hid (by
          rw [take_snoc_get HX.out]
          intro q hq
          rcases List.mem_append.1 hq with hq | hq
          · exact HT.out q hq
          · obtain rfl := List.mem_singleton.1 hq
            exact HVB.out)
        go_wp2_with (go_at_call 98; refine (HV.out _).mono ?_; rintro e w2 ⟨rfl, g⟩)
        go_roundw
        case rel => exact ⟨j + 1, by go_num, by omega, hf, gnext hb g⟩
        case measure => simp [intOf]; omega
    · obtain rfl : j = an := by omega
      have HVT : Hid (vlsB vs = true) := Lib.hid (by
        have := HT.out
        rw [List.take_of_length_le (by rw [han.out]; exact Nat.le_refl _)] at this
        unfold vlsB
        rw [decide_eq_true_eq]
        exact this)
      clear HT
      have c0 := blk_cell hb 0 rfl
      have c1 := blk_cell hb 1 rfl
      have c2 := blk_cell hb 2 rfl
      have c3 := blk_cell hb 3 rfl
      have c4 := blk_cell hb 4 rfl
      have c5 := blk_cell hb 5 rfl
      have c6 := blk_cell hb 6 rfl
      have c7 := blk_cell hb 7 rfl
      have c8 := blk_cell hb 8 rfl
      have c9 := blk_cell hb 9 rfl
      have c10 := blk_cell hb 10 rfl
      have c11 := blk_cell hb 11 rfl
      go_wp2_with (first | (go_at_call 35; with_reducible refine (HNC.out _).mono ?_; rintro e w2 ⟨rfl, g⟩; have gb2 := gnext (by assumption) g; have c0 := blk_cell gb2 0 rfl; have c1 := blk_cell gb2 1 rfl; have c2 := blk_cell gb2 2 rfl; have c3 := blk_cell gb2 3 rfl; have c4 := blk_cell gb2 4 rfl; have c5 := blk_cell gb2 5 rfl; have c6 := blk_cell gb2 6 rfl; have c7 := blk_cell gb2 7 rfl; have c8 := blk_cell gb2 8 rfl; have c9 := blk_cell gb2 9 rfl; have c10 := blk_cell gb2 10 rfl; have c11 := blk_cell gb2 11 rfl) | (go_at_call 35; with_reducible refine (HNX.out _).mono ?_; rintro e w2 ⟨rfl, g⟩; have gb2 := gnext (by assumption) g; have c0 := blk_cell gb2 0 rfl; have c1 := blk_cell gb2 1 rfl; have c2 := blk_cell gb2 2 rfl; have c3 := blk_cell gb2 3 rfl; have c4 := blk_cell gb2 4 rfl; have c5 := blk_cell gb2 5 rfl; have c6 := blk_cell gb2 6 rfl; have c7 := blk_cell gb2 7 rfl; have c8 := blk_cell gb2 8 rfl; have c9 := blk_cell gb2 9 rfl; have c10 := blk_cell gb2 10 rfl; have c11 := blk_cell gb2 11 rfl) | (go_at_call 99; refine (HPL.out _ _ _ (by omega) (by omega) (by omega) _ (blk_below (by assumption))).mono ?_; rintro e w2 ⟨rfl, g⟩; have gb2 := gnext (by assumption) g))
      all_goals (go_ret; refine ⟨ret_bool ?_, ?_⟩; rotate_left; (first | exact blk_below (by assumption) | exact below_drewN (blk_below (by assumption)) _); rw [HVT.out, Bool.true_and]; (try (first | rw [show decide (j = 0) = true from decide_eq_true (by omega)] | rw [show decide (j = 0) = false from decide_eq_false (by omega)])); (try (first | rw [show decide (ln = 0) = true from decide_eq_true (by omega)] | rw [show decide (ln = 0) = false from decide_eq_false (by omega)])); (try (first | rw [show decide (kn = 1) = true from decide_eq_true (by omega)] | rw [show decide (kn = 1) = false from decide_eq_false (by omega)])); clear HGV HGK HGL HVL HB HNC HNX HPL HVT; (try simp_all); (try (rw [Bool.eq_iff_iff]; simp)); (try omega))

end Go.Proofs.YtgmdmbmkljbgiaaGreatDoor

/- Processes: the reference's node, kind 4. -/
namespace Go.Proofs.YtgmdmbmkljbgiaaGreatDoor
open Go.RowKit Go.Deep Go.Shelf

set_option maxHeartbeats 8000000 in
set_option maxRecDepth 100000 in
theorem rnode_4 (B : Nat → Prop) (c x : ByteArray) (ls : List ByteArray) (vs : List Vl) (t : Ty) (ps : List Pr) (_hsz : t.size ≤ 1000000) (v : Value) (w : World) (hB : Low B w) (hv : PrVal B w v (Pr.mk 4 c x ls vs t ps)) :
    Calls Tryz.prog 67 #[v] w fun e w' => e = .returned (.bool (Pr.mk 4 c x ls vs t ps).okN) ∧ Below w.heap.size w w' := by
  have hv0 := hv
  obtain ⟨lv, av, tl, tk, kv, rfl, ⟨hcs, hxs⟩, hl, ha, ht, hk⟩ := hv
  replace hcs : c.size ≤ maxLen := hcs
  replace hxs : x.size ≤ maxLen := hxs
  replace hl : StrSl B w lv ls := hl
  replace ha : VlSl B w av vs := ha
  replace hk : PrSl B w kv ps := hk
  replace ht : TyVal B w (.agg #[.int .i64 t.k, .int .i64 t.p, .string t.n, .int .i64 t.s, tl, tk]) t := ht
  have hlB := fun W (hW : Below w.heap.size w W) => rlabels_any B lv ls W (hB.le hW.size) (hl.keep (hW.keeps'.mono hB))
  obtain ⟨ka, kn, kc, rfl, hkn, hkm, hkg⟩ := hk.open
  obtain ⟨aa, an, ac, rfl, han, ham, hag⟩ := ha.open
  obtain ⟨la, ln, lc, rfl, hln, hlm, hlg⟩ := hl.open
  obtain ⟨⟨ta, tn, tc, rfl⟩, ua, un, uc, rfl⟩ := slices_of ht
  have hs : (Pr.mk 4 c x ls vs t ps).okN = (vlsB vs && (nameB c && (x.toList.isEmpty && (decide (vs.length = 0) && (decide (ls.length = 1) && (labelsB ls && (decide (ps.length = 1) && eqB t default))))))) := okN_4 c x ls vs t ps
  rw [← han.out, ← hln.out, ← hkn.out] at hs
  obtain ⟨nc, hnc⟩ : ∃ b, nameB c = b := ⟨_, rfl⟩
  have HNC := Lib.hid (fun W => rpname_any c nc hnc hcs W)
  rw [hnc] at hs
  clear hnc
  obtain ⟨pl, hpl⟩ : ∃ b, eqB t default = b := ⟨_, rfl⟩
  have HPL : Hid (∀ (n1 n2 n3 : Nat), n1 = an → n2 = ln → n3 = kn → ∀ W, Below w.heap.size w W → Calls Tryz.prog 99 #[.agg #[.int .i64 4, .string c, .string x, .slice la n2 lc, .slice aa n1 ac, .int .i64 t.k, .int .i64 t.p, .string t.n, .int .i64 t.s, .slice ta tn tc, .slice ua un uc, .slice ka n3 kc]] W fun e w' => e = .returned (.bool pl) ∧ Below W.heap.size W w') := Lib.hid (by
    rintro _ _ _ rfl rfl rfl
    exact fun W hW => rplain_any B (Pr.mk 4 c x ls vs t ps) pl hpl _ W (hB.le hW.size) (hv0.to hB hW))
  rw [hpl] at hs
  clear hpl
  have HGV := Lib.hid hag
  have HGK := Lib.hid hkg
  have HGL := Lib.hid hlg
  have HVL := Lib.hid (rfl : vlsB vs = vlsB vs)
  rw [hs]
  have HB := Lib.hid hB
  have HLS := Lib.hid hln.out
  clear hs hv0 hcs hxs hl ha ht hk hlB hkg hag hlg hB
  by_cases hl1 : ln = 1
  · subst hl1
    obtain ⟨z, hz⟩ : ∃ z, ls = [z] := List.length_eq_one_iff.1 HLS.out.symm
    obtain ⟨hzs, lb, lo, rfl, hlb, hlc⟩ := HGL.out 0 z (by rw [hz]; rfl)
    have HLC : Hid (∀ W, Below w.heap.size w W → W.cell? ⟨lb, lo, none⟩ = some (.string z)) := Lib.hid (fun W hW => (hW.cell (p := ⟨lb, lo, none⟩) (HB.out lb hlb)).trans hlc)
    rw [labelsB_one hz]
    obtain ⟨nz, hnz⟩ : ∃ b, nameB z = b := ⟨_, rfl⟩
    have HNS := Lib.hid (fun W => rpname_any z nz hnz hzs W)
    rw [hnz]
    clear hz hnz hzs hlc HLS hlb
    go_enter Tryz.func67, Tryz.ntmps67
    go_wp2_with fail
    go_loopw [3] (fun i wr => ∃ (j : Nat), i = .int .i64 j ∧ j ≤ an ∧ Hid (∀ v ∈ vs.take j, vlB v = true) ∧ Below (w.heap.size + 1) (w.alloc (Obj.cells #[.int .i64 4, .string c, .string x, .slice (some ⟨lb, lo, none⟩) 1 lc, .slice aa an ac, .int .i64 t.k, .int .i64 t.p, .string t.n, .int .i64 t.s, .slice ta tn tc, .slice ua un uc, .slice ka kn kc] 30)) wr) (fun i _ => an - (intOf i).toNat)
    case atStart => exact ⟨0, rfl, by omega, Lib.hid (by simp), Below.refl _ _⟩
    case round =>
      obtain ⟨j, rfl, hj, HT, hb⟩ := hrel
      have hw := blk_below hb
      by_cases hlt : j < an
      · have c4 := blk_cell hb 4 rfl
        obtain ⟨u, hu⟩ : ∃ u, vs[j]? = some u := ⟨_, List.getElem?_eq_getElem (by rw [← han.out]; exact hlt)⟩
        obtain ⟨hun, kb, ko, rfl, hkb, hc⟩ := HGV.out j u hu
        have e0 := (hw.cell (p := ⟨kb, _, none⟩) (HB.out kb hkb)).trans hc.1
        have e1 := (hw.cell (p := ⟨kb, _, none⟩) (HB.out kb hkb)).trans hc.2.1
        have e2 := (hw.cell (p := ⟨kb, _, none⟩) (HB.out kb hkb)).trans hc.2.2
        have HX := Lib.hid hu
        obtain ⟨uk, un', uy⟩ := u
        simp only at e0 e1 e2 hun
        obtain ⟨vb, hvb⟩ : ∃ b, vlB ⟨uk, un', uy⟩ = b := ⟨_, rfl⟩
        have HV := Lib.hid (fun W => rvalue_any uk uy un' vb hvb hun W)
        have HVB := Lib.hid hvb
        clear hc hu hvb hun
        cases vb with
        | false =>
          have hf : Hid (vlsB vs = false) := Lib.hid (by
            unfold vlsB
            rw [decide_eq_false_iff_not]
            intro h
            have := h _ (List.mem_of_getElem? HX.out)
            rw [HVB.out] at this
            cases this)
          go_wp2_with (go_at_call 98; refine (HV.out _).mono ?_; rintro e w2 ⟨rfl, g⟩)
          go_ret
          exact ⟨ret_bool (by rw [hf.out, Bool.false_and]), hw.trans (g.mono hw.size)⟩
        | true =>
          have hf : Hid (∀ v ∈ vs.take (j + 1), vlB v = true) := Lib.hid (by
            rw [take_snoc_get HX.out]
            intro q hq
            rcases List.mem_append.1 hq with hq | hq
            · exact HT.out q hq
            · obtain rfl := List.mem_singleton.1 hq
              exact HVB.out)
          go_wp2_with (go_at_call 98; refine (HV.out _).mono ?_; rintro e w2 ⟨rfl, g⟩)
          go_roundw
          case rel => exact ⟨j + 1, by go_num, by omega, hf, gnext hb g⟩
          case measure => simp [intOf]; omega
      · obtain rfl : j = an := by omega
        have HVT : Hid (vlsB vs = true) := Lib.hid (by
          have := HT.out
          rw [List.take_of_length_le (by rw [han.out]; exact Nat.le_refl _)] at this
          unfold vlsB
          rw [decide_eq_true_eq]
          exact this)
        clear HT
        have c0 := blk_cell hb 0 rfl
        have c1 := blk_cell hb 1 rfl
        have c2 := blk_cell hb 2 rfl
        have c3 := blk_cell hb 3 rfl
        have c4 := blk_cell hb 4 rfl
        have c5 := blk_cell hb 5 rfl
        have c6 := blk_cell hb 6 rfl
        have c7 := blk_cell hb 7 rfl
        have c8 := blk_cell hb 8 rfl
        have c9 := blk_cell hb 9 rfl
        have c10 := blk_cell hb 10 rfl
        have c11 := blk_cell hb 11 rfl
        have el := HLC.out _ hw
        go_wp2_with (first | (go_at_call 35; with_reducible refine (HNC.out _).mono ?_; rintro e w2 ⟨rfl, g⟩; have gb2 := gnext (by assumption) g; have c0 := blk_cell gb2 0 rfl; have c1 := blk_cell gb2 1 rfl; have c2 := blk_cell gb2 2 rfl; have c3 := blk_cell gb2 3 rfl; have c4 := blk_cell gb2 4 rfl; have c5 := blk_cell gb2 5 rfl; have c6 := blk_cell gb2 6 rfl; have c7 := blk_cell gb2 7 rfl; have c8 := blk_cell gb2 8 rfl; have c9 := blk_cell gb2 9 rfl; have c10 := blk_cell gb2 10 rfl; have c11 := blk_cell gb2 11 rfl; have el := HLC.out _ (blk_below gb2)) | (go_at_call 35; with_reducible refine (HNS.out _).mono ?_; rintro e w2 ⟨rfl, g⟩; have gb2 := gnext (by assumption) g; have c0 := blk_cell gb2 0 rfl; have c1 := blk_cell gb2 1 rfl; have c2 := blk_cell gb2 2 rfl; have c3 := blk_cell gb2 3 rfl; have c4 := blk_cell gb2 4 rfl; have c5 := blk_cell gb2 5 rfl; have c6 := blk_cell gb2 6 rfl; have c7 := blk_cell gb2 7 rfl; have c8 := blk_cell gb2 8 rfl; have c9 := blk_cell gb2 9 rfl; have c10 := blk_cell gb2 10 rfl; have c11 := blk_cell gb2 11 rfl; have el := HLC.out _ (blk_below gb2)) | (go_at_call 99; refine (HPL.out _ _ _ (by omega) (by omega) (by omega) _ (blk_below (by assumption))).mono ?_; rintro e w2 ⟨rfl, g⟩; have gb2 := gnext (by assumption) g))
        all_goals (go_ret; refine ⟨ret_bool ?_, ?_⟩; rotate_left; (first | exact blk_below (by assumption) | exact below_drewN (blk_below (by assumption)) _); rw [HVT.out, Bool.true_and]; (try (first | rw [show decide (j = 0) = true from decide_eq_true (by omega)] | rw [show decide (j = 0) = false from decide_eq_false (by omega)])); (try (first | rw [show decide (kn = 1) = true from decide_eq_true (by omega)] | rw [show decide (kn = 1) = false from decide_eq_false (by omega)])); clear HGV HGK HGL HVL HB HNC HPL HNS HLC HVT; (try simp_all); (try (rw [Bool.eq_iff_iff]; simp)); (try omega))
  · have hl2 : ((ln : Int) == 1) = false := by simp; omega
    have HF := Lib.hid (decide_eq_false hl1)
    clear hl1
    go_enter Tryz.func67, Tryz.ntmps67
    go_wp2_with fail
    go_loopw [3] (fun i wr => ∃ (j : Nat), i = .int .i64 j ∧ j ≤ an ∧ Hid (∀ v ∈ vs.take j, vlB v = true) ∧ Below (w.heap.size + 1) (w.alloc (Obj.cells #[.int .i64 4, .string c, .string x, .slice la ln lc, .slice aa an ac, .int .i64 t.k, .int .i64 t.p, .string t.n, .int .i64 t.s, .slice ta tn tc, .slice ua un uc, .slice ka kn kc] 30)) wr) (fun i _ => an - (intOf i).toNat)
    case atStart => exact ⟨0, rfl, by omega, Lib.hid (by simp), Below.refl _ _⟩
    case round =>
      obtain ⟨j, rfl, hj, HT, hb⟩ := hrel
      have hw := blk_below hb
      by_cases hlt : j < an
      · have c4 := blk_cell hb 4 rfl
        obtain ⟨u, hu⟩ : ∃ u, vs[j]? = some u := ⟨_, List.getElem?_eq_getElem (by rw [← han.out]; exact hlt)⟩
        obtain ⟨hun, kb, ko, rfl, hkb, hc⟩ := HGV.out j u hu
        have e0 := (hw.cell (p := ⟨kb, _, none⟩) (HB.out kb hkb)).trans hc.1
        have e1 := (hw.cell (p := ⟨kb, _, none⟩) (HB.out kb hkb)).trans hc.2.1
        have e2 := (hw.cell (p := ⟨kb, _, none⟩) (HB.out kb hkb)).trans hc.2.2
        have HX := Lib.hid hu
        obtain ⟨uk, un', uy⟩ := u
        simp only at e0 e1 e2 hun
        obtain ⟨vb, hvb⟩ : ∃ b, vlB ⟨uk, un', uy⟩ = b := ⟨_, rfl⟩
        have HV := Lib.hid (fun W => rvalue_any uk uy un' vb hvb hun W)
        have HVB := Lib.hid hvb
        clear hc hu hvb hun
        cases vb with
        | false =>
          have hf : Hid (vlsB vs = false) := Lib.hid (by
            unfold vlsB
            rw [decide_eq_false_iff_not]
            intro h
            have := h _ (List.mem_of_getElem? HX.out)
            rw [HVB.out] at this
            cases this)
          go_wp2_with (go_at_call 98; refine (HV.out _).mono ?_; rintro e w2 ⟨rfl, g⟩)
          go_ret
          exact ⟨ret_bool (by rw [hf.out, Bool.false_and]), hw.trans (g.mono hw.size)⟩
        | true =>
          have hf : Hid (∀ v ∈ vs.take (j + 1), vlB v = true) := Lib.hid (by
            rw [take_snoc_get HX.out]
            intro q hq
            rcases List.mem_append.1 hq with hq | hq
            · exact HT.out q hq
            · obtain rfl := List.mem_singleton.1 hq
              exact HVB.out)
          go_wp2_with (go_at_call 98; refine (HV.out _).mono ?_; rintro e w2 ⟨rfl, g⟩)
          go_roundw
          case rel => exact ⟨j + 1, by go_num, by omega, hf, gnext hb g⟩
          case measure => simp [intOf]; omega
      · obtain rfl : j = an := by omega
        have HVT : Hid (vlsB vs = true) := Lib.hid (by
          have := HT.out
          rw [List.take_of_length_le (by rw [han.out]; exact Nat.le_refl _)] at this
          unfold vlsB
          rw [decide_eq_true_eq]
          exact this)
        clear HT
        have c0 := blk_cell hb 0 rfl
        have c1 := blk_cell hb 1 rfl
        have c2 := blk_cell hb 2 rfl
        have c3 := blk_cell hb 3 rfl
        have c4 := blk_cell hb 4 rfl
        have c5 := blk_cell hb 5 rfl
        have c6 := blk_cell hb 6 rfl
        have c7 := blk_cell hb 7 rfl
        have c8 := blk_cell hb 8 rfl
        have c9 := blk_cell hb 9 rfl
        have c10 := blk_cell hb 10 rfl
        have c11 := blk_cell hb 11 rfl
        go_wp2_with (first | (go_at_call 35; with_reducible refine (HNC.out _).mono ?_; rintro e w2 ⟨rfl, g⟩; have gb2 := gnext (by assumption) g; have c0 := blk_cell gb2 0 rfl; have c1 := blk_cell gb2 1 rfl; have c2 := blk_cell gb2 2 rfl; have c3 := blk_cell gb2 3 rfl; have c4 := blk_cell gb2 4 rfl; have c5 := blk_cell gb2 5 rfl; have c6 := blk_cell gb2 6 rfl; have c7 := blk_cell gb2 7 rfl; have c8 := blk_cell gb2 8 rfl; have c9 := blk_cell gb2 9 rfl; have c10 := blk_cell gb2 10 rfl; have c11 := blk_cell gb2 11 rfl) | (go_at_call 99; refine (HPL.out _ _ _ (by omega) (by omega) (by omega) _ (blk_below (by assumption))).mono ?_; rintro e w2 ⟨rfl, g⟩; have gb2 := gnext (by assumption) g))
        all_goals (go_ret; refine ⟨ret_bool ?_, ?_⟩; rotate_left; (first | exact blk_below (by assumption) | exact below_drewN (blk_below (by assumption)) _); rw [HVT.out, Bool.true_and, HF.out, Bool.false_and]; (try (first | rw [show decide (j = 0) = true from decide_eq_true (by omega)] | rw [show decide (j = 0) = false from decide_eq_false (by omega)])); (try (first | rw [show decide (kn = 1) = true from decide_eq_true (by omega)] | rw [show decide (kn = 1) = false from decide_eq_false (by omega)])); clear HF HGV HGK HGL HVL HB HNC HPL HVT; (try simp_all); (try (rw [Bool.eq_iff_iff]; simp)); (try omega))

end Go.Proofs.YtgmdmbmkljbgiaaGreatDoor

/- Processes: the reference's node, kind 5. -/
namespace Go.Proofs.YtgmdmbmkljbgiaaGreatDoor
open Go.RowKit Go.Deep Go.Shelf

set_option maxHeartbeats 8000000 in
set_option maxRecDepth 100000 in
theorem rnode_5 (B : Nat → Prop) (c x : ByteArray) (ls : List ByteArray) (vs : List Vl) (t : Ty) (ps : List Pr) (_hsz : t.size ≤ 1000000) (v : Value) (w : World) (hB : Low B w) (hv : PrVal B w v (Pr.mk 5 c x ls vs t ps)) :
    Calls Tryz.prog 67 #[v] w fun e w' => e = .returned (.bool (Pr.mk 5 c x ls vs t ps).okN) ∧ Below w.heap.size w w' := by
  have hv0 := hv
  obtain ⟨lv, av, tl, tk, kv, rfl, ⟨hcs, hxs⟩, hl, ha, ht, hk⟩ := hv
  replace hcs : c.size ≤ maxLen := hcs
  replace hxs : x.size ≤ maxLen := hxs
  replace hl : StrSl B w lv ls := hl
  replace ha : VlSl B w av vs := ha
  replace hk : PrSl B w kv ps := hk
  replace ht : TyVal B w (.agg #[.int .i64 t.k, .int .i64 t.p, .string t.n, .int .i64 t.s, tl, tk]) t := ht
  have hlB := fun W (hW : Below w.heap.size w W) => rlabels_any B lv ls W (hB.le hW.size) (hl.keep (hW.keeps'.mono hB))
  obtain ⟨ka, kn, kc, rfl, hkn, hkm, hkg⟩ := hk.open
  obtain ⟨aa, an, ac, rfl, han, ham, hag⟩ := ha.open
  obtain ⟨la, ln, lc, rfl, hln, hlm, hlg⟩ := hl.open
  obtain ⟨⟨ta, tn, tc, rfl⟩, ua, un, uc, rfl⟩ := slices_of ht
  have hs : (Pr.mk 5 c x ls vs t ps).okN = (vlsB vs && (nameB c && (x.toList.isEmpty && (decide (vs.length = 0) && (decide (0 < ls.length) && (labelsB ls && (decide (ps.length = ls.length) && eqB t default))))))) := okN_5 c x ls vs t ps
  rw [← han.out, ← hln.out, ← hkn.out] at hs
  obtain ⟨nc, hnc⟩ : ∃ b, nameB c = b := ⟨_, rfl⟩
  have HNC := Lib.hid (fun W => rpname_any c nc hnc hcs W)
  rw [hnc] at hs
  clear hnc
  obtain ⟨pl, hpl⟩ : ∃ b, eqB t default = b := ⟨_, rfl⟩
  have HPL : Hid (∀ (n1 n2 n3 : Nat), n1 = an → n2 = ln → n3 = kn → ∀ W, Below w.heap.size w W → Calls Tryz.prog 99 #[.agg #[.int .i64 5, .string c, .string x, .slice la n2 lc, .slice aa n1 ac, .int .i64 t.k, .int .i64 t.p, .string t.n, .int .i64 t.s, .slice ta tn tc, .slice ua un uc, .slice ka n3 kc]] W fun e w' => e = .returned (.bool pl) ∧ Below W.heap.size W w') := Lib.hid (by
    rintro _ _ _ rfl rfl rfl
    exact fun W hW => rplain_any B (Pr.mk 5 c x ls vs t ps) pl hpl _ W (hB.le hW.size) (hv0.to hB hW))
  rw [hpl] at hs
  clear hpl
  obtain ⟨lb, hlb⟩ : ∃ b, labelsB ls = b := ⟨_, rfl⟩
  have HLB : Hid (∀ W, Below w.heap.size w W → Calls Tryz.prog 100 #[.slice la ln lc] W fun e w' => e = .returned (.bool lb) ∧ Below W.heap.size W w') := Lib.hid (by rw [← hlb]; exact hlB)
  rw [hlb] at hs
  clear hlb
  have HGV := Lib.hid hag
  have HGK := Lib.hid hkg
  have HGL := Lib.hid hlg
  have HVL := Lib.hid (rfl : vlsB vs = vlsB vs)
  rw [hs]
  have HB := Lib.hid hB
  clear hs hv0 hcs hxs hl ha ht hk hlB hkg hag hlg hB
  go_enter Tryz.func67, Tryz.ntmps67
  go_wp2_with fail
  go_loopw [3] (fun i wr => ∃ (j : Nat), i = .int .i64 j ∧ j ≤ an ∧ Hid (∀ v ∈ vs.take j, vlB v = true) ∧ Below (w.heap.size + 1) (w.alloc (Obj.cells #[.int .i64 5, .string c, .string x, .slice la ln lc, .slice aa an ac, .int .i64 t.k, .int .i64 t.p, .string t.n, .int .i64 t.s, .slice ta tn tc, .slice ua un uc, .slice ka kn kc] 30)) wr) (fun i _ => an - (intOf i).toNat)
  case atStart => exact ⟨0, rfl, by omega, Lib.hid (by simp), Below.refl _ _⟩
  case round =>
    obtain ⟨j, rfl, hj, HT, hb⟩ := hrel
    have hw := blk_below hb
    by_cases hlt : j < an
    · have c4 := blk_cell hb 4 rfl
      obtain ⟨u, hu⟩ : ∃ u, vs[j]? = some u := ⟨_, List.getElem?_eq_getElem (by rw [← han.out]; exact hlt)⟩
      obtain ⟨hun, kb, ko, rfl, hkb, hc⟩ := HGV.out j u hu
      have e0 := (hw.cell (p := ⟨kb, _, none⟩) (HB.out kb hkb)).trans hc.1
      have e1 := (hw.cell (p := ⟨kb, _, none⟩) (HB.out kb hkb)).trans hc.2.1
      have e2 := (hw.cell (p := ⟨kb, _, none⟩) (HB.out kb hkb)).trans hc.2.2
      have HX := Lib.hid hu
      obtain ⟨uk, un', uy⟩ := u
      simp only at e0 e1 e2 hun
      obtain ⟨vb, hvb⟩ : ∃ b, vlB ⟨uk, un', uy⟩ = b := ⟨_, rfl⟩
      have HV := Lib.hid (fun W => rvalue_any uk uy un' vb hvb hun W)
      have HVB := Lib.hid hvb
      clear hc hu hvb hun
      cases vb with
      | false =>
        have hf : Hid (vlsB vs = false) := Lib.hid (by
          unfold vlsB
          rw [decide_eq_false_iff_not]
          intro h
          have := h _ (List.mem_of_getElem? HX.out)
          rw [HVB.out] at this
          cases this)
        go_wp2_with (go_at_call 98; refine (HV.out _).mono ?_; rintro e w2 ⟨rfl, g⟩)
        go_ret
        exact ⟨ret_bool (by rw [hf.out, Bool.false_and]), hw.trans (g.mono hw.size)⟩
      | true =>
        have hf : Hid (∀ v ∈ vs.take (j + 1), vlB v = true) := Lib.hid (by
          rw [take_snoc_get HX.out]
          intro q hq
          rcases List.mem_append.1 hq with hq | hq
          · exact HT.out q hq
          · obtain rfl := List.mem_singleton.1 hq
            exact HVB.out)
        go_wp2_with (go_at_call 98; refine (HV.out _).mono ?_; rintro e w2 ⟨rfl, g⟩)
        go_roundw
        case rel => exact ⟨j + 1, by go_num, by omega, hf, gnext hb g⟩
        case measure => simp [intOf]; omega
    · obtain rfl : j = an := by omega
      have HVT : Hid (vlsB vs = true) := Lib.hid (by
        have := HT.out
        rw [List.take_of_length_le (by rw [han.out]; exact Nat.le_refl _)] at this
        unfold vlsB
        rw [decide_eq_true_eq]
        exact this)
      clear HT
      have c0 := blk_cell hb 0 rfl
      have c1 := blk_cell hb 1 rfl
      have c2 := blk_cell hb 2 rfl
      have c3 := blk_cell hb 3 rfl
      have c4 := blk_cell hb 4 rfl
      have c5 := blk_cell hb 5 rfl
      have c6 := blk_cell hb 6 rfl
      have c7 := blk_cell hb 7 rfl
      have c8 := blk_cell hb 8 rfl
      have c9 := blk_cell hb 9 rfl
      have c10 := blk_cell hb 10 rfl
      have c11 := blk_cell hb 11 rfl
      go_wp2_with (first | (go_at_call 35; with_reducible refine (HNC.out _).mono ?_; rintro e w2 ⟨rfl, g⟩; have gb2 := gnext (by assumption) g; have c0 := blk_cell gb2 0 rfl; have c1 := blk_cell gb2 1 rfl; have c2 := blk_cell gb2 2 rfl; have c3 := blk_cell gb2 3 rfl; have c4 := blk_cell gb2 4 rfl; have c5 := blk_cell gb2 5 rfl; have c6 := blk_cell gb2 6 rfl; have c7 := blk_cell gb2 7 rfl; have c8 := blk_cell gb2 8 rfl; have c9 := blk_cell gb2 9 rfl; have c10 := blk_cell gb2 10 rfl; have c11 := blk_cell gb2 11 rfl) | (go_at_call 99; refine (HPL.out _ _ _ (by omega) (by omega) (by omega) _ (blk_below (by assumption))).mono ?_; rintro e w2 ⟨rfl, g⟩; have gb2 := gnext (by assumption) g) | (go_at_call 100; with_reducible refine (HLB.out _ (blk_below (by assumption))).mono ?_; rintro e w2 ⟨rfl, g⟩; have gb2 := gnext (by assumption) g; have c0 := blk_cell gb2 0 rfl; have c1 := blk_cell gb2 1 rfl; have c2 := blk_cell gb2 2 rfl; have c3 := blk_cell gb2 3 rfl; have c4 := blk_cell gb2 4 rfl; have c5 := blk_cell gb2 5 rfl; have c6 := blk_cell gb2 6 rfl; have c7 := blk_cell gb2 7 rfl; have c8 := blk_cell gb2 8 rfl; have c9 := blk_cell gb2 9 rfl; have c10 := blk_cell gb2 10 rfl; have c11 := blk_cell gb2 11 rfl))
      all_goals (go_ret; refine ⟨ret_bool ?_, ?_⟩; rotate_left; (first | exact blk_below (by assumption) | exact below_drewN (blk_below (by assumption)) _); rw [HVT.out, Bool.true_and]; (try (first | rw [show decide (j = 0) = true from decide_eq_true (by omega)] | rw [show decide (j = 0) = false from decide_eq_false (by omega)])); (try (first | rw [show decide (0 < ln) = true from decide_eq_true (by omega)] | rw [show decide (0 < ln) = false from decide_eq_false (by omega)])); (try (first | rw [show decide (kn = ln) = true from decide_eq_true (by omega)] | rw [show decide (kn = ln) = false from decide_eq_false (by omega)])); clear HGV HGK HGL HVL HB HNC HPL HLB HVT; (try simp_all); (try (rw [Bool.eq_iff_iff]; simp)); (try omega))

end Go.Proofs.YtgmdmbmkljbgiaaGreatDoor

/- Processes: the reference's node, kind 6. -/
namespace Go.Proofs.YtgmdmbmkljbgiaaGreatDoor
open Go.RowKit Go.Deep Go.Shelf

set_option maxHeartbeats 8000000 in
set_option maxRecDepth 100000 in
theorem rnode_6 (B : Nat → Prop) (c x : ByteArray) (ls : List ByteArray) (vs : List Vl) (t : Ty) (ps : List Pr) (hsz : t.size ≤ 1000000) (v : Value) (w : World) (hB : Low B w) (hv : PrVal B w v (Pr.mk 6 c x ls vs t ps)) :
    Calls Tryz.prog 67 #[v] w fun e w' => e = .returned (.bool (Pr.mk 6 c x ls vs t ps).okN) ∧ Below w.heap.size w w' := by
  have hv0 := hv
  obtain ⟨lv, av, tl, tk, kv, rfl, ⟨hcs, hxs⟩, hl, ha, ht, hk⟩ := hv
  replace hcs : c.size ≤ maxLen := hcs
  replace hxs : x.size ≤ maxLen := hxs
  replace hl : StrSl B w lv ls := hl
  replace ha : VlSl B w av vs := ha
  replace hk : PrSl B w kv ps := hk
  replace ht : TyVal B w (.agg #[.int .i64 t.k, .int .i64 t.p, .string t.n, .int .i64 t.s, tl, tk]) t := ht
  have hlB := fun W (hW : Below w.heap.size w W) => rlabels_any B lv ls W (hB.le hW.size) (hl.keep (hW.keeps'.mono hB))
  obtain ⟨ka, kn, kc, rfl, hkn, hkm, hkg⟩ := hk.open
  obtain ⟨aa, an, ac, rfl, han, ham, hag⟩ := ha.open
  obtain ⟨la, ln, lc, rfl, hln, hlm, hlg⟩ := hl.open
  obtain ⟨⟨ta, tn, tc, rfl⟩, ua, un, uc, rfl⟩ := slices_of ht
  have hs : (Pr.mk 6 c x ls vs t ps).okN = (vlsB vs && (nameB c && (nameB x && (!decide (x = c) && (decide (vs.length = 0) && (decide (ls.length = 0) && (decide (ps.length = 1) && (rightE t == 0 && (t.k != 1 && t.k != 2))))))))) := okN_6 c x ls vs t ps
  rw [← han.out, ← hln.out, ← hkn.out] at hs
  obtain ⟨nc, hnc⟩ : ∃ b, nameB c = b := ⟨_, rfl⟩
  have HNC := Lib.hid (fun W => rpname_any c nc hnc hcs W)
  rw [hnc] at hs
  clear hnc
  obtain ⟨nx, hnx⟩ : ∃ b, nameB x = b := ⟨_, rfl⟩
  have HNX := Lib.hid (fun W => rpname_any x nx hnx hxs W)
  rw [hnx] at hs
  clear hnx
  obtain ⟨rt, hrt⟩ : ∃ r, rightE t = r := ⟨_, rfl⟩
  have HRT : Hid (∀ W, Below w.heap.size w W → Calls Tryz.prog 36 #[.agg #[.int .i64 t.k, .int .i64 t.p, .string t.n, .int .i64 t.s, .slice ta tn tc, .slice ua un uc]] W fun e w' => e = .returned (.int .i64 rt) ∧ Below W.heap.size W w') := Lib.hid (fun W hW => by rw [← hrt]; exact rright_any B t _ W hsz (hB.le hW.size) (ht.to hB hW))
  have HSE : Hid (∀ W, Calls Tryz.prog 71 #[.agg #[.int .i64 t.k, .int .i64 t.p, .string t.n, .int .i64 t.s, .slice ta tn tc, .slice ua un uc]] W fun e w' => e = .returned (.bool (t.k != 1 && t.k != 2)) ∧ Below W.heap.size W w') := Lib.hid (fun W => rsession_any t.k t.p t.s t.n _ _ W)
  obtain ⟨se, hse⟩ : ∃ b, (t.k != 1 && t.k != 2) = b := ⟨_, rfl⟩
  rw [hse] at HSE
  rw [hrt, hse] at hs
  clear hrt hse
  have HGV := Lib.hid hag
  have HGK := Lib.hid hkg
  have HGL := Lib.hid hlg
  have HVL := Lib.hid (rfl : vlsB vs = vlsB vs)
  rw [hs]
  have HB := Lib.hid hB
  clear hs hv0 hcs hxs hl ha ht hk hlB hkg hag hlg hsz hB
  by_cases hxc : x = c
  · subst hxc
    have h3' : (x.toList != x.toList) = false := by simp
    have h3e : (x.toList == x.toList) = true := by simp
    rw [show decide (x = x) = true by simp]
    go_enter Tryz.func67, Tryz.ntmps67
    go_wp2_with fail
    go_loopw [3] (fun i wr => ∃ (j : Nat), i = .int .i64 j ∧ j ≤ an ∧ Hid (∀ v ∈ vs.take j, vlB v = true) ∧ Below (w.heap.size + 1) (w.alloc (Obj.cells #[.int .i64 6, .string x, .string x, .slice la ln lc, .slice aa an ac, .int .i64 t.k, .int .i64 t.p, .string t.n, .int .i64 t.s, .slice ta tn tc, .slice ua un uc, .slice ka kn kc] 30)) wr) (fun i _ => an - (intOf i).toNat)
    case atStart => exact ⟨0, rfl, by omega, Lib.hid (by simp), Below.refl _ _⟩
    case round =>
      obtain ⟨j, rfl, hj, HT, hb⟩ := hrel
      have hw := blk_below hb
      by_cases hlt : j < an
      · have c4 := blk_cell hb 4 rfl
        obtain ⟨u, hu⟩ : ∃ u, vs[j]? = some u := ⟨_, List.getElem?_eq_getElem (by rw [← han.out]; exact hlt)⟩
        obtain ⟨hun, kb, ko, rfl, hkb, hc⟩ := HGV.out j u hu
        have e0 := (hw.cell (p := ⟨kb, _, none⟩) (HB.out kb hkb)).trans hc.1
        have e1 := (hw.cell (p := ⟨kb, _, none⟩) (HB.out kb hkb)).trans hc.2.1
        have e2 := (hw.cell (p := ⟨kb, _, none⟩) (HB.out kb hkb)).trans hc.2.2
        have HX := Lib.hid hu
        obtain ⟨uk, un', uy⟩ := u
        simp only at e0 e1 e2 hun
        obtain ⟨vb, hvb⟩ : ∃ b, vlB ⟨uk, un', uy⟩ = b := ⟨_, rfl⟩
        have HV := Lib.hid (fun W => rvalue_any uk uy un' vb hvb hun W)
        have HVB := Lib.hid hvb
        clear hc hu hvb hun
        cases vb with
        | false =>
          have hf : Hid (vlsB vs = false) := Lib.hid (by
            unfold vlsB
            rw [decide_eq_false_iff_not]
            intro h
            have := h _ (List.mem_of_getElem? HX.out)
            rw [HVB.out] at this
            cases this)
          go_wp2_with (go_at_call 98; refine (HV.out _).mono ?_; rintro e w2 ⟨rfl, g⟩)
          go_ret
          exact ⟨ret_bool (by rw [hf.out, Bool.false_and]), hw.trans (g.mono hw.size)⟩
        | true =>
          have hf : Hid (∀ v ∈ vs.take (j + 1), vlB v = true) := Lib.hid (by
            rw [take_snoc_get HX.out]
            intro q hq
            rcases List.mem_append.1 hq with hq | hq
            · exact HT.out q hq
            · obtain rfl := List.mem_singleton.1 hq
              exact HVB.out)
          go_wp2_with (go_at_call 98; refine (HV.out _).mono ?_; rintro e w2 ⟨rfl, g⟩)
          go_roundw
          case rel => exact ⟨j + 1, by go_num, by omega, hf, gnext hb g⟩
          case measure => simp [intOf]; omega
      · obtain rfl : j = an := by omega
        have HVT : Hid (vlsB vs = true) := Lib.hid (by
          have := HT.out
          rw [List.take_of_length_le (by rw [han.out]; exact Nat.le_refl _)] at this
          unfold vlsB
          rw [decide_eq_true_eq]
          exact this)
        clear HT
        have c0 := blk_cell hb 0 rfl
        have c1 := blk_cell hb 1 rfl
        have c2 := blk_cell hb 2 rfl
        have c3 := blk_cell hb 3 rfl
        have c4 := blk_cell hb 4 rfl
        have c5 := blk_cell hb 5 rfl
        have c6 := blk_cell hb 6 rfl
        have c7 := blk_cell hb 7 rfl
        have c8 := blk_cell hb 8 rfl
        have c9 := blk_cell hb 9 rfl
        have c10 := blk_cell hb 10 rfl
        have c11 := blk_cell hb 11 rfl
        go_wp2_with (first | (go_at_call 35; with_reducible refine (HNC.out _).mono ?_; rintro e w2 ⟨rfl, g⟩; have gb2 := gnext (by assumption) g; have c0 := blk_cell gb2 0 rfl; have c1 := blk_cell gb2 1 rfl; have c2 := blk_cell gb2 2 rfl; have c3 := blk_cell gb2 3 rfl; have c4 := blk_cell gb2 4 rfl; have c5 := blk_cell gb2 5 rfl; have c6 := blk_cell gb2 6 rfl; have c7 := blk_cell gb2 7 rfl; have c8 := blk_cell gb2 8 rfl; have c9 := blk_cell gb2 9 rfl; have c10 := blk_cell gb2 10 rfl; have c11 := blk_cell gb2 11 rfl) | (go_at_call 35; with_reducible refine (HNX.out _).mono ?_; rintro e w2 ⟨rfl, g⟩; have gb2 := gnext (by assumption) g; have c0 := blk_cell gb2 0 rfl; have c1 := blk_cell gb2 1 rfl; have c2 := blk_cell gb2 2 rfl; have c3 := blk_cell gb2 3 rfl; have c4 := blk_cell gb2 4 rfl; have c5 := blk_cell gb2 5 rfl; have c6 := blk_cell gb2 6 rfl; have c7 := blk_cell gb2 7 rfl; have c8 := blk_cell gb2 8 rfl; have c9 := blk_cell gb2 9 rfl; have c10 := blk_cell gb2 10 rfl; have c11 := blk_cell gb2 11 rfl) | (go_at_call 36; with_reducible refine (HRT.out _ (blk_below (by assumption))).mono ?_; rintro e w2 ⟨rfl, g⟩; have gb2 := gnext (by assumption) g; have c0 := blk_cell gb2 0 rfl; have c1 := blk_cell gb2 1 rfl; have c2 := blk_cell gb2 2 rfl; have c3 := blk_cell gb2 3 rfl; have c4 := blk_cell gb2 4 rfl; have c5 := blk_cell gb2 5 rfl; have c6 := blk_cell gb2 6 rfl; have c7 := blk_cell gb2 7 rfl; have c8 := blk_cell gb2 8 rfl; have c9 := blk_cell gb2 9 rfl; have c10 := blk_cell gb2 10 rfl; have c11 := blk_cell gb2 11 rfl) | (go_at_call 71; with_reducible refine (HSE.out _).mono ?_; rintro e w2 ⟨rfl, g⟩; have gb2 := gnext (by assumption) g))
        all_goals (go_ret; refine ⟨ret_bool ?_, ?_⟩; rotate_left; (first | exact blk_below (by assumption) | exact below_drewN (blk_below (by assumption)) _); rw [HVT.out, Bool.true_and]; (try (first | rw [show decide (j = 0) = true from decide_eq_true (by omega)] | rw [show decide (j = 0) = false from decide_eq_false (by omega)])); (try (first | rw [show decide (ln = 0) = true from decide_eq_true (by omega)] | rw [show decide (ln = 0) = false from decide_eq_false (by omega)])); (try (first | rw [show decide (kn = 1) = true from decide_eq_true (by omega)] | rw [show decide (kn = 1) = false from decide_eq_false (by omega)])); clear HGV HGK HGL HVL HB HNC HNX HRT HSE HVT; (try simp_all); (try (rw [Bool.eq_iff_iff]; simp)); (try omega))
  · have h3' := str_ne (fun e => hxc e.symm : ¬ c = x)
    have h3e : (c.toList == x.toList) = false := by simpa using h3'
    rw [show decide (x = c) = false by simpa using hxc]
    clear hxc
    go_enter Tryz.func67, Tryz.ntmps67
    go_wp2_with fail
    go_loopw [3] (fun i wr => ∃ (j : Nat), i = .int .i64 j ∧ j ≤ an ∧ Hid (∀ v ∈ vs.take j, vlB v = true) ∧ Below (w.heap.size + 1) (w.alloc (Obj.cells #[.int .i64 6, .string c, .string x, .slice la ln lc, .slice aa an ac, .int .i64 t.k, .int .i64 t.p, .string t.n, .int .i64 t.s, .slice ta tn tc, .slice ua un uc, .slice ka kn kc] 30)) wr) (fun i _ => an - (intOf i).toNat)
    case atStart => exact ⟨0, rfl, by omega, Lib.hid (by simp), Below.refl _ _⟩
    case round =>
      obtain ⟨j, rfl, hj, HT, hb⟩ := hrel
      have hw := blk_below hb
      by_cases hlt : j < an
      · have c4 := blk_cell hb 4 rfl
        obtain ⟨u, hu⟩ : ∃ u, vs[j]? = some u := ⟨_, List.getElem?_eq_getElem (by rw [← han.out]; exact hlt)⟩
        obtain ⟨hun, kb, ko, rfl, hkb, hc⟩ := HGV.out j u hu
        have e0 := (hw.cell (p := ⟨kb, _, none⟩) (HB.out kb hkb)).trans hc.1
        have e1 := (hw.cell (p := ⟨kb, _, none⟩) (HB.out kb hkb)).trans hc.2.1
        have e2 := (hw.cell (p := ⟨kb, _, none⟩) (HB.out kb hkb)).trans hc.2.2
        have HX := Lib.hid hu
        obtain ⟨uk, un', uy⟩ := u
        simp only at e0 e1 e2 hun
        obtain ⟨vb, hvb⟩ : ∃ b, vlB ⟨uk, un', uy⟩ = b := ⟨_, rfl⟩
        have HV := Lib.hid (fun W => rvalue_any uk uy un' vb hvb hun W)
        have HVB := Lib.hid hvb
        clear hc hu hvb hun
        cases vb with
        | false =>
          have hf : Hid (vlsB vs = false) := Lib.hid (by
            unfold vlsB
            rw [decide_eq_false_iff_not]
            intro h
            have := h _ (List.mem_of_getElem? HX.out)
            rw [HVB.out] at this
            cases this)
          go_wp2_with (go_at_call 98; refine (HV.out _).mono ?_; rintro e w2 ⟨rfl, g⟩)
          go_ret
          exact ⟨ret_bool (by rw [hf.out, Bool.false_and]), hw.trans (g.mono hw.size)⟩
        | true =>
          have hf : Hid (∀ v ∈ vs.take (j + 1), vlB v = true) := Lib.hid (by
            rw [take_snoc_get HX.out]
            intro q hq
            rcases List.mem_append.1 hq with hq | hq
            · exact HT.out q hq
            · obtain rfl := List.mem_singleton.1 hq
              exact HVB.out)
          go_wp2_with (go_at_call 98; refine (HV.out _).mono ?_; rintro e w2 ⟨rfl, g⟩)
          go_roundw
          case rel => exact ⟨j + 1, by go_num, by omega, hf, gnext hb g⟩
          case measure => simp [intOf]; omega
      · obtain rfl : j = an := by omega
        have HVT : Hid (vlsB vs = true) := Lib.hid (by
          have := HT.out
          rw [List.take_of_length_le (by rw [han.out]; exact Nat.le_refl _)] at this
          unfold vlsB
          rw [decide_eq_true_eq]
          exact this)
        clear HT
        have c0 := blk_cell hb 0 rfl
        have c1 := blk_cell hb 1 rfl
        have c2 := blk_cell hb 2 rfl
        have c3 := blk_cell hb 3 rfl
        have c4 := blk_cell hb 4 rfl
        have c5 := blk_cell hb 5 rfl
        have c6 := blk_cell hb 6 rfl
        have c7 := blk_cell hb 7 rfl
        have c8 := blk_cell hb 8 rfl
        have c9 := blk_cell hb 9 rfl
        have c10 := blk_cell hb 10 rfl
        have c11 := blk_cell hb 11 rfl
        go_wp2_with (first | (go_at_call 35; with_reducible refine (HNC.out _).mono ?_; rintro e w2 ⟨rfl, g⟩; have gb2 := gnext (by assumption) g; have c0 := blk_cell gb2 0 rfl; have c1 := blk_cell gb2 1 rfl; have c2 := blk_cell gb2 2 rfl; have c3 := blk_cell gb2 3 rfl; have c4 := blk_cell gb2 4 rfl; have c5 := blk_cell gb2 5 rfl; have c6 := blk_cell gb2 6 rfl; have c7 := blk_cell gb2 7 rfl; have c8 := blk_cell gb2 8 rfl; have c9 := blk_cell gb2 9 rfl; have c10 := blk_cell gb2 10 rfl; have c11 := blk_cell gb2 11 rfl) | (go_at_call 35; with_reducible refine (HNX.out _).mono ?_; rintro e w2 ⟨rfl, g⟩; have gb2 := gnext (by assumption) g; have c0 := blk_cell gb2 0 rfl; have c1 := blk_cell gb2 1 rfl; have c2 := blk_cell gb2 2 rfl; have c3 := blk_cell gb2 3 rfl; have c4 := blk_cell gb2 4 rfl; have c5 := blk_cell gb2 5 rfl; have c6 := blk_cell gb2 6 rfl; have c7 := blk_cell gb2 7 rfl; have c8 := blk_cell gb2 8 rfl; have c9 := blk_cell gb2 9 rfl; have c10 := blk_cell gb2 10 rfl; have c11 := blk_cell gb2 11 rfl) | (go_at_call 36; with_reducible refine (HRT.out _ (blk_below (by assumption))).mono ?_; rintro e w2 ⟨rfl, g⟩; have gb2 := gnext (by assumption) g; have c0 := blk_cell gb2 0 rfl; have c1 := blk_cell gb2 1 rfl; have c2 := blk_cell gb2 2 rfl; have c3 := blk_cell gb2 3 rfl; have c4 := blk_cell gb2 4 rfl; have c5 := blk_cell gb2 5 rfl; have c6 := blk_cell gb2 6 rfl; have c7 := blk_cell gb2 7 rfl; have c8 := blk_cell gb2 8 rfl; have c9 := blk_cell gb2 9 rfl; have c10 := blk_cell gb2 10 rfl; have c11 := blk_cell gb2 11 rfl) | (go_at_call 71; with_reducible refine (HSE.out _).mono ?_; rintro e w2 ⟨rfl, g⟩; have gb2 := gnext (by assumption) g))
        all_goals (go_ret; refine ⟨ret_bool ?_, ?_⟩; rotate_left; (first | exact blk_below (by assumption) | exact below_drewN (blk_below (by assumption)) _); rw [HVT.out, Bool.true_and]; (try (first | rw [show decide (j = 0) = true from decide_eq_true (by omega)] | rw [show decide (j = 0) = false from decide_eq_false (by omega)])); (try (first | rw [show decide (ln = 0) = true from decide_eq_true (by omega)] | rw [show decide (ln = 0) = false from decide_eq_false (by omega)])); (try (first | rw [show decide (kn = 1) = true from decide_eq_true (by omega)] | rw [show decide (kn = 1) = false from decide_eq_false (by omega)])); clear HGV HGK HGL HVL HB HNC HNX HRT HSE HVT; (try simp_all); (try (rw [Bool.eq_iff_iff]; simp)); (try omega))

end Go.Proofs.YtgmdmbmkljbgiaaGreatDoor

/- Processes: the reference's node, kind 7. -/
namespace Go.Proofs.YtgmdmbmkljbgiaaGreatDoor
open Go.RowKit Go.Deep Go.Shelf

set_option maxHeartbeats 8000000 in
set_option maxRecDepth 100000 in
theorem rnode_7 (B : Nat → Prop) (c x : ByteArray) (ls : List ByteArray) (vs : List Vl) (t : Ty) (ps : List Pr) (_hsz : t.size ≤ 1000000) (v : Value) (w : World) (hB : Low B w) (hv : PrVal B w v (Pr.mk 7 c x ls vs t ps)) :
    Calls Tryz.prog 67 #[v] w fun e w' => e = .returned (.bool (Pr.mk 7 c x ls vs t ps).okN) ∧ Below w.heap.size w w' := by
  have hv0 := hv
  obtain ⟨lv, av, tl, tk, kv, rfl, ⟨hcs, hxs⟩, hl, ha, ht, hk⟩ := hv
  replace hcs : c.size ≤ maxLen := hcs
  replace hxs : x.size ≤ maxLen := hxs
  replace hl : StrSl B w lv ls := hl
  replace ha : VlSl B w av vs := ha
  replace hk : PrSl B w kv ps := hk
  replace ht : TyVal B w (.agg #[.int .i64 t.k, .int .i64 t.p, .string t.n, .int .i64 t.s, tl, tk]) t := ht
  have hlB := fun W (hW : Below w.heap.size w W) => rlabels_any B lv ls W (hB.le hW.size) (hl.keep (hW.keeps'.mono hB))
  obtain ⟨ka, kn, kc, rfl, hkn, hkm, hkg⟩ := hk.open
  obtain ⟨aa, an, ac, rfl, han, ham, hag⟩ := ha.open
  obtain ⟨la, ln, lc, rfl, hln, hlm, hlg⟩ := hl.open
  obtain ⟨⟨ta, tn, tc, rfl⟩, ua, un, uc, rfl⟩ := slices_of ht
  have hs : (Pr.mk 7 c x ls vs t ps).okN = (vlsB vs && (decide (∀ p ∈ ps, p.k ≠ 7) && (c.toList.isEmpty && (x.toList.isEmpty && (decide (vs.length = 0) && (decide (ls.length = 0) && (decide (1 < ps.length) && eqB t default))))))) := okN_7 c x ls vs t ps
  rw [← han.out, ← hln.out, ← hkn.out] at hs
  obtain ⟨pl, hpl⟩ : ∃ b, eqB t default = b := ⟨_, rfl⟩
  have HPL : Hid (∀ (n1 n2 n3 : Nat), n1 = an → n2 = ln → n3 = kn → ∀ W, Below w.heap.size w W → Calls Tryz.prog 99 #[.agg #[.int .i64 7, .string c, .string x, .slice la n2 lc, .slice aa n1 ac, .int .i64 t.k, .int .i64 t.p, .string t.n, .int .i64 t.s, .slice ta tn tc, .slice ua un uc, .slice ka n3 kc]] W fun e w' => e = .returned (.bool pl) ∧ Below W.heap.size W w') := Lib.hid (by
    rintro _ _ _ rfl rfl rfl
    exact fun W hW => rplain_any B (Pr.mk 7 c x ls vs t ps) pl hpl _ W (hB.le hW.size) (hv0.to hB hW))
  rw [hpl] at hs
  clear hpl
  have HGV := Lib.hid hag
  have HGK := Lib.hid hkg
  have HGL := Lib.hid hlg
  have HVL := Lib.hid (rfl : vlsB vs = vlsB vs)
  rw [hs]
  have HB := Lib.hid hB
  clear hs hv0 hcs hxs hl ha ht hk hlB hkg hag hlg hB
  go_enter Tryz.func67, Tryz.ntmps67
  go_wp2_with fail
  go_loopw [3] (fun i wr => ∃ (j : Nat), i = .int .i64 j ∧ j ≤ an ∧ Hid (∀ v ∈ vs.take j, vlB v = true) ∧ Below (w.heap.size + 1) (w.alloc (Obj.cells #[.int .i64 7, .string c, .string x, .slice la ln lc, .slice aa an ac, .int .i64 t.k, .int .i64 t.p, .string t.n, .int .i64 t.s, .slice ta tn tc, .slice ua un uc, .slice ka kn kc] 30)) wr) (fun i _ => an - (intOf i).toNat)
  case atStart => exact ⟨0, rfl, by omega, Lib.hid (by simp), Below.refl _ _⟩
  case round =>
    obtain ⟨j, rfl, hj, HT, hb⟩ := hrel
    have hw := blk_below hb
    by_cases hlt : j < an
    · have c4 := blk_cell hb 4 rfl
      obtain ⟨u, hu⟩ : ∃ u, vs[j]? = some u := ⟨_, List.getElem?_eq_getElem (by rw [← han.out]; exact hlt)⟩
      obtain ⟨hun, kb, ko, rfl, hkb, hc⟩ := HGV.out j u hu
      have e0 := (hw.cell (p := ⟨kb, _, none⟩) (HB.out kb hkb)).trans hc.1
      have e1 := (hw.cell (p := ⟨kb, _, none⟩) (HB.out kb hkb)).trans hc.2.1
      have e2 := (hw.cell (p := ⟨kb, _, none⟩) (HB.out kb hkb)).trans hc.2.2
      have HX := Lib.hid hu
      obtain ⟨uk, un', uy⟩ := u
      simp only at e0 e1 e2 hun
      obtain ⟨vb, hvb⟩ : ∃ b, vlB ⟨uk, un', uy⟩ = b := ⟨_, rfl⟩
      have HV := Lib.hid (fun W => rvalue_any uk uy un' vb hvb hun W)
      have HVB := Lib.hid hvb
      clear hc hu hvb hun
      cases vb with
      | false =>
        have hf : Hid (vlsB vs = false) := Lib.hid (by
          unfold vlsB
          rw [decide_eq_false_iff_not]
          intro h
          have := h _ (List.mem_of_getElem? HX.out)
          rw [HVB.out] at this
          cases this)
        go_wp2_with (go_at_call 98; refine (HV.out _).mono ?_; rintro e w2 ⟨rfl, g⟩)
        go_ret
        exact ⟨ret_bool (by rw [hf.out, Bool.false_and]), hw.trans (g.mono hw.size)⟩
      | true =>
        have hf : Hid (∀ v ∈ vs.take (j + 1), vlB v = true) := Lib.hid (by
          rw [take_snoc_get HX.out]
          intro q hq
          rcases List.mem_append.1 hq with hq | hq
          · exact HT.out q hq
          · obtain rfl := List.mem_singleton.1 hq
            exact HVB.out)
        go_wp2_with (go_at_call 98; refine (HV.out _).mono ?_; rintro e w2 ⟨rfl, g⟩)
        go_roundw
        case rel => exact ⟨j + 1, by go_num, by omega, hf, gnext hb g⟩
        case measure => simp [intOf]; omega
    · obtain rfl : j = an := by omega
      have HVT : Hid (vlsB vs = true) := Lib.hid (by
        have := HT.out
        rw [List.take_of_length_le (by rw [han.out]; exact Nat.le_refl _)] at this
        unfold vlsB
        rw [decide_eq_true_eq]
        exact this)
      clear HT
      have c0 := blk_cell hb 0 rfl
      have c1 := blk_cell hb 1 rfl
      have c2 := blk_cell hb 2 rfl
      have c3 := blk_cell hb 3 rfl
      have c4 := blk_cell hb 4 rfl
      have c5 := blk_cell hb 5 rfl
      have c6 := blk_cell hb 6 rfl
      have c7 := blk_cell hb 7 rfl
      have c8 := blk_cell hb 8 rfl
      have c9 := blk_cell hb 9 rfl
      have c10 := blk_cell hb 10 rfl
      have c11 := blk_cell hb 11 rfl
      go_wp2_with fail
      have GD := Lib.hid hb
      clear c0 c1 c2 c3 c4 c5 c6 c7 c8 c9 c10 c11 hb hw
      go_loopw [7] (fun i wr => ∃ (m : Nat), i = .int .i64 m ∧ m ≤ kn ∧ Hid (∀ p ∈ ps.take m, p.k ≠ 7) ∧ Below (w.heap.size + 1) (w.alloc (Obj.cells #[.int .i64 7, .string c, .string x, .slice la ln lc, .slice aa j ac, .int .i64 t.k, .int .i64 t.p, .string t.n, .int .i64 t.s, .slice ta tn tc, .slice ua un uc, .slice ka kn kc] 30)) wr) (fun i _ => kn - (intOf i).toNat)
      case atStart => exact ⟨0, rfl, by omega, Lib.hid (by simp), GD.out⟩
      case round =>
        obtain ⟨m, rfl, hm, HT, hb⟩ := hrel
        have hw := blk_below hb
        have c0 := blk_cell hb 0 rfl
        have c1 := blk_cell hb 1 rfl
        have c2 := blk_cell hb 2 rfl
        have c3 := blk_cell hb 3 rfl
        have c4 := blk_cell hb 4 rfl
        have c5 := blk_cell hb 5 rfl
        have c6 := blk_cell hb 6 rfl
        have c7 := blk_cell hb 7 rfl
        have c8 := blk_cell hb 8 rfl
        have c9 := blk_cell hb 9 rfl
        have c10 := blk_cell hb 10 rfl
        have c11 := blk_cell hb 11 rfl
        by_cases hlt : m < kn
        · obtain ⟨u, hu⟩ : ∃ u, ps[m]? = some u := ⟨_, List.getElem?_eq_getElem (by rw [← hkn.out]; exact hlt)⟩
          obtain ⟨kb, ko, rfl, hkb, hty⟩ := HGK.out m u hu
          have e0 := (hw.cell (p := ⟨kb, _, none⟩) (HB.out kb hkb)).trans (PrAt.eq.1 hty).2.2.1.1
          have HX := Lib.hid hu
          obtain ⟨xk, hxk⟩ : ∃ k, u.k = k := ⟨_, rfl⟩
          rw [hxk] at e0
          have HXK := Lib.hid hxk
          clear hu hty hxk
          by_cases h7 : xk = 7
          · subst h7
            have hf : Hid (decide (∀ p ∈ ps, p.k ≠ 7) = false) := Lib.hid (by
              rw [decide_eq_false_iff_not]
              intro h
              exact h u (List.mem_of_getElem? HX.out) HXK.out)
            go_wp2_with fail
            go_ret
            exact ⟨ret_bool (by rw [hf.out, Bool.false_and, Bool.and_false]), hw⟩
          · have h7' : (xk == 7) = false := by simpa using h7
            have hf : Hid (∀ p ∈ ps.take (m + 1), p.k ≠ 7) := Lib.hid (by
              rw [take_snoc_get HX.out]
              intro q hq
              rcases List.mem_append.1 hq with hq | hq
              · exact HT.out q hq
              · obtain rfl := List.mem_singleton.1 hq
                rw [HXK.out]; exact h7)
            clear h7
            go_wp2_with fail
            go_roundw
            case rel => exact ⟨m + 1, by go_num, by omega, hf, hb⟩
            case measure => simp [intOf]; omega
        · obtain rfl : m = kn := by omega
          have HVT2 : Hid ((decide (∀ p ∈ ps, p.k ≠ 7)) = true) := Lib.hid (by
            have := HT.out
            rw [List.take_of_length_le (by rw [hkn.out]; exact Nat.le_refl _)] at this
            rw [decide_eq_true_eq]
            exact this)
          clear HT
          go_wp2_with (first | (go_at_call 99; refine (HPL.out _ _ _ (by omega) (by omega) (by omega) _ (blk_below (by assumption))).mono ?_; rintro e w2 ⟨rfl, g⟩; have gb2 := gnext (by assumption) g))
          all_goals (go_ret; refine ⟨ret_bool ?_, ?_⟩; rotate_left; (first | exact blk_below (by assumption) | exact below_drewN (blk_below (by assumption)) _); rw [HVT.out, HVT2.out, Bool.true_and, Bool.true_and]; (try (first | rw [show decide (j = 0) = true from decide_eq_true (by omega)] | rw [show decide (j = 0) = false from decide_eq_false (by omega)])); (try (first | rw [show decide (ln = 0) = true from decide_eq_true (by omega)] | rw [show decide (ln = 0) = false from decide_eq_false (by omega)])); (try (first | rw [show decide (1 < m) = true from decide_eq_true (by omega)] | rw [show decide (1 < m) = false from decide_eq_false (by omega)])); clear HGV HGK HGL HVL HB GD HPL HVT HVT2; (try simp_all); (try (rw [Bool.eq_iff_iff]; simp)); (try omega))

end Go.Proofs.YtgmdmbmkljbgiaaGreatDoor

/- Processes: the reference's node, kind 8. -/
namespace Go.Proofs.YtgmdmbmkljbgiaaGreatDoor
open Go.RowKit Go.Deep Go.Shelf

set_option maxHeartbeats 8000000 in
set_option maxRecDepth 100000 in
theorem rnode_8 (B : Nat → Prop) (c x : ByteArray) (ls : List ByteArray) (vs : List Vl) (t : Ty) (ps : List Pr) (_hsz : t.size ≤ 1000000) (v : Value) (w : World) (hB : Low B w) (hv : PrVal B w v (Pr.mk 8 c x ls vs t ps)) :
    Calls Tryz.prog 67 #[v] w fun e w' => e = .returned (.bool (Pr.mk 8 c x ls vs t ps).okN) ∧ Below w.heap.size w w' := by
  have hv0 := hv
  obtain ⟨lv, av, tl, tk, kv, rfl, ⟨hcs, hxs⟩, hl, ha, ht, hk⟩ := hv
  replace hcs : c.size ≤ maxLen := hcs
  replace hxs : x.size ≤ maxLen := hxs
  replace hl : StrSl B w lv ls := hl
  replace ha : VlSl B w av vs := ha
  replace hk : PrSl B w kv ps := hk
  replace ht : TyVal B w (.agg #[.int .i64 t.k, .int .i64 t.p, .string t.n, .int .i64 t.s, tl, tk]) t := ht
  have hlB := fun W (hW : Below w.heap.size w W) => rlabels_any B lv ls W (hB.le hW.size) (hl.keep (hW.keeps'.mono hB))
  obtain ⟨ka, kn, kc, rfl, hkn, hkm, hkg⟩ := hk.open
  obtain ⟨aa, an, ac, rfl, han, ham, hag⟩ := ha.open
  obtain ⟨la, ln, lc, rfl, hln, hlm, hlg⟩ := hl.open
  obtain ⟨⟨ta, tn, tc, rfl⟩, ua, un, uc, rfl⟩ := slices_of ht
  have hs : (Pr.mk 8 c x ls vs t ps).okN = (vlsB vs && (nameB c && (x.toList.isEmpty && (decide (ls.length = 0) && (decide (ps.length = 0) && eqB t default))))) := okN_8 c x ls vs t ps
  rw [← hln.out, ← hkn.out] at hs
  obtain ⟨nc, hnc⟩ : ∃ b, nameB c = b := ⟨_, rfl⟩
  have HNC := Lib.hid (fun W => rpname_any c nc hnc hcs W)
  rw [hnc] at hs
  clear hnc
  obtain ⟨pl, hpl⟩ : ∃ b, eqB t default = b := ⟨_, rfl⟩
  have HPL : Hid (∀ (n1 n2 n3 : Nat), n1 = an → n2 = ln → n3 = kn → ∀ W, Below w.heap.size w W → Calls Tryz.prog 99 #[.agg #[.int .i64 8, .string c, .string x, .slice la n2 lc, .slice aa n1 ac, .int .i64 t.k, .int .i64 t.p, .string t.n, .int .i64 t.s, .slice ta tn tc, .slice ua un uc, .slice ka n3 kc]] W fun e w' => e = .returned (.bool pl) ∧ Below W.heap.size W w') := Lib.hid (by
    rintro _ _ _ rfl rfl rfl
    exact fun W hW => rplain_any B (Pr.mk 8 c x ls vs t ps) pl hpl _ W (hB.le hW.size) (hv0.to hB hW))
  rw [hpl] at hs
  clear hpl
  have HGV := Lib.hid hag
  have HGK := Lib.hid hkg
  have HGL := Lib.hid hlg
  have HVL := Lib.hid (rfl : vlsB vs = vlsB vs)
  rw [hs]
  have HB := Lib.hid hB
  clear hs hv0 hcs hxs hl ha ht hk hlB hkg hag hlg hB
  go_enter Tryz.func67, Tryz.ntmps67
  go_wp2_with fail
  go_loopw [3] (fun i wr => ∃ (j : Nat), i = .int .i64 j ∧ j ≤ an ∧ Hid (∀ v ∈ vs.take j, vlB v = true) ∧ Below (w.heap.size + 1) (w.alloc (Obj.cells #[.int .i64 8, .string c, .string x, .slice la ln lc, .slice aa an ac, .int .i64 t.k, .int .i64 t.p, .string t.n, .int .i64 t.s, .slice ta tn tc, .slice ua un uc, .slice ka kn kc] 30)) wr) (fun i _ => an - (intOf i).toNat)
  case atStart => exact ⟨0, rfl, by omega, Lib.hid (by simp), Below.refl _ _⟩
  case round =>
    obtain ⟨j, rfl, hj, HT, hb⟩ := hrel
    have hw := blk_below hb
    by_cases hlt : j < an
    · have c4 := blk_cell hb 4 rfl
      obtain ⟨u, hu⟩ : ∃ u, vs[j]? = some u := ⟨_, List.getElem?_eq_getElem (by rw [← han.out]; exact hlt)⟩
      obtain ⟨hun, kb, ko, rfl, hkb, hc⟩ := HGV.out j u hu
      have e0 := (hw.cell (p := ⟨kb, _, none⟩) (HB.out kb hkb)).trans hc.1
      have e1 := (hw.cell (p := ⟨kb, _, none⟩) (HB.out kb hkb)).trans hc.2.1
      have e2 := (hw.cell (p := ⟨kb, _, none⟩) (HB.out kb hkb)).trans hc.2.2
      have HX := Lib.hid hu
      obtain ⟨uk, un', uy⟩ := u
      simp only at e0 e1 e2 hun
      obtain ⟨vb, hvb⟩ : ∃ b, vlB ⟨uk, un', uy⟩ = b := ⟨_, rfl⟩
      have HV := Lib.hid (fun W => rvalue_any uk uy un' vb hvb hun W)
      have HVB := Lib.hid hvb
      clear hc hu hvb hun
      cases vb with
      | false =>
        have hf : Hid (vlsB vs = false) := Lib.hid (by
          unfold vlsB
          rw [decide_eq_false_iff_not]
          intro h
          have := h _ (List.mem_of_getElem? HX.out)
          rw [HVB.out] at this
          cases this)
        go_wp2_with (go_at_call 98; refine (HV.out _).mono ?_; rintro e w2 ⟨rfl, g⟩)
        go_ret
        exact ⟨ret_bool (by rw [hf.out, Bool.false_and]), hw.trans (g.mono hw.size)⟩
      | true =>
        have hf : Hid (∀ v ∈ vs.take (j + 1), vlB v = true) := Lib.hid (by
          rw [take_snoc_get HX.out]
          intro q hq
          rcases List.mem_append.1 hq with hq | hq
          · exact HT.out q hq
          · obtain rfl := List.mem_singleton.1 hq
            exact HVB.out)
        go_wp2_with (go_at_call 98; refine (HV.out _).mono ?_; rintro e w2 ⟨rfl, g⟩)
        go_roundw
        case rel => exact ⟨j + 1, by go_num, by omega, hf, gnext hb g⟩
        case measure => simp [intOf]; omega
    · obtain rfl : j = an := by omega
      have HVT : Hid (vlsB vs = true) := Lib.hid (by
        have := HT.out
        rw [List.take_of_length_le (by rw [han.out]; exact Nat.le_refl _)] at this
        unfold vlsB
        rw [decide_eq_true_eq]
        exact this)
      clear HT
      have c0 := blk_cell hb 0 rfl
      have c1 := blk_cell hb 1 rfl
      have c2 := blk_cell hb 2 rfl
      have c3 := blk_cell hb 3 rfl
      have c4 := blk_cell hb 4 rfl
      have c5 := blk_cell hb 5 rfl
      have c6 := blk_cell hb 6 rfl
      have c7 := blk_cell hb 7 rfl
      have c8 := blk_cell hb 8 rfl
      have c9 := blk_cell hb 9 rfl
      have c10 := blk_cell hb 10 rfl
      have c11 := blk_cell hb 11 rfl
      go_wp2_with (first | (go_at_call 35; with_reducible refine (HNC.out _).mono ?_; rintro e w2 ⟨rfl, g⟩; have gb2 := gnext (by assumption) g; have c0 := blk_cell gb2 0 rfl; have c1 := blk_cell gb2 1 rfl; have c2 := blk_cell gb2 2 rfl; have c3 := blk_cell gb2 3 rfl; have c4 := blk_cell gb2 4 rfl; have c5 := blk_cell gb2 5 rfl; have c6 := blk_cell gb2 6 rfl; have c7 := blk_cell gb2 7 rfl; have c8 := blk_cell gb2 8 rfl; have c9 := blk_cell gb2 9 rfl; have c10 := blk_cell gb2 10 rfl; have c11 := blk_cell gb2 11 rfl) | (go_at_call 99; refine (HPL.out _ _ _ (by omega) (by omega) (by omega) _ (blk_below (by assumption))).mono ?_; rintro e w2 ⟨rfl, g⟩; have gb2 := gnext (by assumption) g))
      all_goals (go_ret; refine ⟨ret_bool ?_, ?_⟩; rotate_left; (first | exact blk_below (by assumption) | exact below_drewN (blk_below (by assumption)) _); rw [HVT.out, Bool.true_and]; (try (first | rw [show decide (ln = 0) = true from decide_eq_true (by omega)] | rw [show decide (ln = 0) = false from decide_eq_false (by omega)])); (try (first | rw [show decide (kn = 0) = true from decide_eq_true (by omega)] | rw [show decide (kn = 0) = false from decide_eq_false (by omega)])); clear HGV HGK HGL HVL HB HNC HPL HVT; (try simp_all); (try (rw [Bool.eq_iff_iff]; simp)); (try omega))

end Go.Proofs.YtgmdmbmkljbgiaaGreatDoor

/- Processes: the reference's nodes and Right. -/
namespace Go.Proofs.YtgmdmbmkljbgiaaGreatDoor
open Go.RowKit Go.Deep Go.Shelf

theorem rpnode_any (B : Nat → Prop) (p : Pr) (hsz : p.t.size ≤ 1000000) (v : Value) (w : World) (hB : Low B w) (hv : PrVal B w v p) :
    Calls Tryz.prog 67 #[v] w fun e w' => e = .returned (.bool p.okN) ∧ Below w.heap.size w w' := by
  obtain ⟨k, c, x, ls, vs, t, ps⟩ := p
  by_cases hk : k < 1 ∨ 8 < k
  · exact rnode_0 B k hk c x ls vs t ps hsz v w hB hv
  · have : k = 1 ∨ k = 2 ∨ k = 3 ∨ k = 4 ∨ k = 5 ∨ k = 6 ∨ k = 7 ∨ k = 8 := by omega
    rcases this with rfl | rfl | rfl | rfl | rfl | rfl | rfl | rfl
    · exact rnode_1 B c x ls vs t ps hsz v w hB hv
    · exact rnode_2 B c x ls vs t ps hsz v w hB hv
    · exact rnode_3 B c x ls vs t ps hsz v w hB hv
    · exact rnode_4 B c x ls vs t ps hsz v w hB hv
    · exact rnode_5 B c x ls vs t ps hsz v w hB hv
    · exact rnode_6 B c x ls vs t ps hsz v w hB hv
    · exact rnode_7 B c x ls vs t ps hsz v w hB hv
    · exact rnode_8 B c x ls vs t ps hsz v w hB hv

end Go.Proofs.YtgmdmbmkljbgiaaGreatDoor

/- Processes: the reference's nodes and Right, given its node. -/
namespace Go.Proofs.YtgmdmbmkljbgiaaGreatDoor
open Go.RowKit Go.Deep Go.Shelf

mutual
/-- Is every node shaped as it should be? -/
noncomputable def Pr.every : Pr → Bool
  | .mk k c x ls vs t ps => (Pr.mk k c x ls vs t ps).okN && Pr.everys ps
noncomputable def Pr.everys : List Pr → Bool
  | [] => true
  | p :: r => p.every && Pr.everys r
end
theorem Pr.every_eq (p : Pr) : p.every = (p.okN && Pr.everys p.ps) := by cases p; simp only [Pr.every, Pr.ps]
theorem allN_append (l r : List (Nat × Pr)) : allN (l ++ r) = (allN l && allN r) := by simp [allN]
mutual
theorem allN_pre : ∀ (p : Pr) (d : Nat), allN (preP d p) = p.every
  | .mk k c x ls vs t ps, d => by
    have h := allN_pres ps (d + 1)
    rw [Pr.every, ← h, preP]
    simp only [allN, List.all_cons]
theorem allN_pres : ∀ (l : List Pr) (d : Nat), allN (prePs d l) = Pr.everys l
  | [], _ => by simp [prePs, Pr.everys, allN]
  | p :: r, d => by
    rw [prePs, Pr.everys, allN_append, allN_pre p d, allN_pres r d]
end
theorem Pr.everys_append (l r : List Pr) : Pr.everys (l ++ r) = (Pr.everys l && Pr.everys r) := by
  induction l with
  | nil => simp [Pr.everys]
  | cons t l ih => simp only [List.cons_append, Pr.everys, ih, Bool.and_assoc]
theorem Pr.everys_take {l : List Pr} {i : Nat} {p : Pr} (h : l[i]? = some p) : Pr.everys (l.take (i + 1)) = (Pr.everys (l.take i) && p.every) := by
  rw [take_snoc_get h, Pr.everys_append]; simp [Pr.everys]
theorem Pr.everys_false {l : List Pr} {i : Nat} {p : Pr} (h : l[i]? = some p) (hp : p.every = false) : Pr.everys l = false := by
  have e := Pr.everys_append (l.take (i + 1)) (l.drop (i + 1))
  rw [List.take_append_drop, Pr.everys_take h, hp, Bool.and_false, Bool.false_and] at e
  exact e
theorem prightE_every (p : Pr) : prightE p = if p.large then 2 else if p.every then 0 else 3 := by unfold prightE; rw [allN_pre]

/-- The reference's node answers as it should at processes with types of few nodes. -/
def RNode : Prop := ∀ (B : Nat → Prop) (p : Pr), p.t.size ≤ 1000000 → ∀ (v : Value) (w : World), Low B w → PrVal B w v p →
    Calls Tryz.prog 67 #[v] w fun e w' => e = .returned (.bool p.okN) ∧ Below w.heap.size w w'

set_option maxHeartbeats 4000000 in
set_option maxRecDepth 100000 in
theorem rnodes_step (RN : RNode) (B : Nat → Prop) (p : Pr) (lv av tl tk kv : Value) (hsz : p.t.size ≤ 1000000)
    (ih : ∀ u ∈ p.ps, ∀ (v : Value) (w : World), Low B w → PrVal B w v u → Calls Tryz.prog 52 #[v] w fun e w' => e = .returned (.bool u.every) ∧ Below w.heap.size w w')
    (w : World) (hB : Low B w) (hv : PrVal B w (prAgg p lv av tl tk kv) p) :
    Calls Tryz.prog 52 #[prAgg p lv av tl tk kv] w fun e w' => e = .returned (.bool p.every) ∧ Below w.heap.size w w' := by
  obtain ⟨⟨la, ln, lc, rfl⟩, ⟨aa, an, ac, rfl⟩, ⟨ta, tn, tc, rfl⟩, ⟨ua, un, uc, rfl⟩, ka, kn, kc, rfl⟩ := pr_slices hv
  obtain ⟨b, hb⟩ : ∃ b, p.okN = b := ⟨_, rfl⟩
  have HN : Hid (Calls Tryz.prog 67 #[prAgg p (.slice la ln lc) (.slice aa an ac) (.slice ta tn tc) (.slice ua un uc) (.slice ka kn kc)] (w.alloc (cell12 p (.slice la ln lc) (.slice aa an ac) (.slice ta tn tc) (.slice ua un uc) (.slice ka kn kc))) fun e w' => e = .returned (.bool b) ∧ Below (w.alloc (cell12 p (.slice la ln lc) (.slice aa an ac) (.slice ta tn tc) (.slice ua un uc) (.slice ka kn kc))).heap.size (w.alloc (cell12 p (.slice la ln lc) (.slice aa an ac) (.slice ta tn tc) (.slice ua un uc) (.slice ka kn kc))) w') := Lib.hid (by
    rw [← hb]; exact RN B p hsz _ _ (hB.le (blkBelow w _ _).size) (hv.to hB (blkBelow w _ _)))
  have hv' := hv
  obtain ⟨_, _, _, _, kv', he, _, hl, ha, ht, hk⟩ := hv'
  simp only [prAgg, Value.agg.injEq, Array.mk.injEq, List.cons.injEq, true_and, and_true] at he
  obtain ⟨rfl, rfl, rfl, rfl, rfl⟩ := he
  obtain ⟨pa, len, c, e0, hlen, hm, hget⟩ := hk.open
  simp only [Value.slice.injEq] at e0
  obtain ⟨rfl, rfl, rfl⟩ := e0
  have HE := Lib.hid (Pr.every_eq p)
  have HG := Lib.hid hget
  have HIH := Lib.hid ih
  rw [HE.out, hb]
  clear hb hget ih hv hl ha ht hk
  unfold prAgg at HN ⊢
  cases b
  · rw [Bool.false_and]
    go_enter Tryz.func52, Tryz.ntmps52
    go_wp2_with (go_at_call 67; refine HN.out.mono ?_; rintro e w2 ⟨rfl, g⟩)
    go_ret
    exact ⟨rfl, below_seq (blkBelow w _ _) g⟩
  · rw [Bool.true_and]
    go_enter Tryz.func52, Tryz.ntmps52
    go_wp2_with (go_at_call 67; refine HN.out.mono ?_; rintro e w2 ⟨rfl, g⟩)
    have GB := Lib.hid (gnext (Below.refl _ _) g)
    clear g HN
    go_loopw [3] (fun i wr => ∃ j : Nat, i = .int .i64 j ∧ j ≤ kn ∧ Hid (Pr.everys (p.ps.take j) = true) ∧ Below (w.heap.size + 1) (w.alloc (cell12 p (.slice la ln lc) (.slice aa an ac) (.slice ta tn tc) (.slice ua un uc) (.slice ka kn kc))) wr) (fun i _ => kn - (intOf i).toNat)
    case atStart => exact ⟨0, rfl, by omega, Lib.hid (by simp [Pr.everys]), GB.out⟩
    case round =>
      obtain ⟨j, rfl, hj, HT, hb⟩ := hrel
      have c11 : wr.cell? ⟨w.heap.size, 11, none⟩ = some (.slice ka kn kc) := blk_cell hb 11 rfl
      have hw := blk_below hb
      by_cases hlt : j < kn
      · obtain ⟨t, ht⟩ : ∃ t, p.ps[j]? = some t := ⟨_, List.getElem?_eq_getElem (by rw [← hlen.out]; exact hlt)⟩
        obtain ⟨kb, ko, rfl, hkb, hty⟩ := HG.out j t ht
        obtain ⟨la', ln', lc', aa', an', ac', ta', tn', tc', ua', un', uc', ka', kn', kc', ⟨d0, d1, d2, d3, d4, d5, d6, d7, d8, d9, d10, d11⟩, hval⟩ := (hty.keep (hw.keeps'.mono hB)).load'
        have IH := Lib.hid (HIH.out t (List.mem_of_getElem? ht) _ wr (hB.le hw.size) hval)
        have HT1 := Lib.hid ht
        unfold prAgg at IH
        cases hev : t.every with
        | false =>
          rw [hev] at IH
          have HF := Lib.hid (Pr.everys_false HT1.out hev)
          clear ht hval hty hev
          go_wp2_with (go_at_call 52; refine IH.out.mono ?_; rintro e w2 ⟨rfl, hb2⟩)
          go_ret
          exact ⟨ret_bool HF.out.symm, below_seq hw hb2⟩
        | true =>
          rw [hev] at IH
          have HF : Hid (Pr.everys (p.ps.take (j + 1)) = true) := Lib.hid (by rw [Pr.everys_take HT1.out, HT.out, hev]; rfl)
          clear ht hval hty hev
          go_wp2_with (go_at_call 52; refine IH.out.mono ?_; rintro e w2 ⟨rfl, hb2⟩)
          go_roundw
          case rel => exact ⟨j + 1, by go_num, by omega, HF, gnext hb hb2⟩
          case measure => simp [intOf]; omega
      · obtain rfl : j = kn := by omega
        have HF : Hid (Pr.everys p.ps = true) := Lib.hid (by have := HT.out; rwa [List.take_of_length_le (by rw [hlen.out]; exact Nat.le_refl _)] at this)
        clear HT
        go_wp2_with fail
        go_ret
        exact ⟨ret_bool HF.out.symm, hw⟩

theorem rnodes_any (RN : RNode) (B : Nat → Prop) : ∀ (p : Pr), p.tf → ∀ (v : Value) (w : World), Low B w → PrVal B w v p → Calls Tryz.prog 52 #[v] w fun e w' => e = .returned (.bool p.every) ∧ Below w.heap.size w w' := by
  refine Pr.ind ?_
  intro k c x ls vs t ps ih htf v w hB hv
  have hv' := hv
  obtain ⟨lv, av, tl, tk, kv, rfl, _⟩ := hv'
  exact rnodes_step RN B (.mk k c x ls vs t ps) lv av tl tk kv (by have := Pr.tf_size htf; omega) (fun u hu => ih u hu (Pr.tf_ps htf u hu)) w hB hv

set_option maxHeartbeats 4000000 in
set_option maxRecDepth 100000 in
theorem rpright_any (RN : RNode) (B : Nat → Prop) (p : Pr) (htf : p.tf) (hsz : p.size ≤ 1000000) (r : Int) (hr : prightE p = r) (v : Value) (w : World) (hB : Low B w) (hv : PrVal B w v p) :
    Calls Tryz.prog 34 #[v] w fun e w' => e = .returned (.int .i64 r) ∧ Below w.heap.size w w' := by
  have hv' := hv
  obtain ⟨lv, av, tl, tk, kv, rfl, _⟩ := hv'
  obtain ⟨⟨la, ln, lc, rfl⟩, ⟨aa, an, ac, rfl⟩, ⟨ta, tn, tc, rfl⟩, ⟨ua, un, uc, rfl⟩, ka, kn, kc, rfl⟩ := pr_slices hv
  have hdp := p.depth_le_size
  obtain ⟨n, hn⟩ : ∃ n, p.size = n := ⟨_, rfl⟩
  obtain ⟨d, hd⟩ : ∃ d, p.depth = d := ⟨_, rfl⟩
  obtain ⟨b, hb⟩ : ∃ b, p.every = b := ⟨_, rfl⟩
  have HD := Lib.hid (fun W (hW : Below w.heap.size w W) => prdepth_any B p (by omega) _ W (hB.le hW.size) (hv.to hB hW))
  have HS := Lib.hid (fun W (hW : Below w.heap.size w W) => prsize_any B p hsz _ W (hB.le hW.size) (hv.to hB hW))
  have HN := Lib.hid (fun W (hW : Below w.heap.size w W) => rnodes_any RN B p htf _ W (hB.le hW.size) (hv.to hB hW))
  rw [hn] at HS hsz hdp
  rw [hd] at HD hdp
  rw [hb] at HN
  have e1 := prightE_every p
  have e2 : p.large = decide (10000 < n ∨ 100 < d) := by unfold Pr.large; rw [hn, hd]
  rw [e2, hb] at e1
  rw [← hr, e1]
  clear hn hd hb hr e1 e2 hv
  unfold prAgg at HD HS HN ⊢
  by_cases h1 : 100 < d
  · rw [if_pos (by simp; omega)]
    go_enter Tryz.func34, Tryz.ntmps34
    go_wp2_with (go_at_call 42; refine (HD.out _ (blkBelow w _ _)).mono ?_; rintro e w2 ⟨rfl, g⟩; have gb := gnext (Below.refl _ _) g; have c0 := blk_cell gb 0 rfl; have c1 := blk_cell gb 1 rfl; have c2 := blk_cell gb 2 rfl; have c3 := blk_cell gb 3 rfl; have c4 := blk_cell gb 4 rfl; have c5 := blk_cell gb 5 rfl; have c6 := blk_cell gb 6 rfl; have c7 := blk_cell gb 7 rfl; have c8 := blk_cell gb 8 rfl; have c9 := blk_cell gb 9 rfl; have c10 := blk_cell gb 10 rfl; have c11 := blk_cell gb 11 rfl)
    go_ret
    exact ⟨rfl, blk_below (by assumption)⟩
  · by_cases h2 : 10000 < n
    · rw [if_pos (by simp; omega)]
      go_enter Tryz.func34, Tryz.ntmps34
      go_wp2_with (first | (go_at_call 42; refine (HD.out _ (blkBelow w _ _)).mono ?_; rintro e w2 ⟨rfl, g⟩; have gb := gnext (Below.refl _ _) g; have c0 := blk_cell gb 0 rfl; have c1 := blk_cell gb 1 rfl; have c2 := blk_cell gb 2 rfl; have c3 := blk_cell gb 3 rfl; have c4 := blk_cell gb 4 rfl; have c5 := blk_cell gb 5 rfl; have c6 := blk_cell gb 6 rfl; have c7 := blk_cell gb 7 rfl; have c8 := blk_cell gb 8 rfl; have c9 := blk_cell gb 9 rfl; have c10 := blk_cell gb 10 rfl; have c11 := blk_cell gb 11 rfl) | (go_at_call 31; refine (HS.out _ (blk_below (by assumption))).mono ?_; rintro e w3 ⟨rfl, g3⟩; have gb3 := gnext (by assumption) g3; have c0 := blk_cell gb3 0 rfl; have c1 := blk_cell gb3 1 rfl; have c2 := blk_cell gb3 2 rfl; have c3 := blk_cell gb3 3 rfl; have c4 := blk_cell gb3 4 rfl; have c5 := blk_cell gb3 5 rfl; have c6 := blk_cell gb3 6 rfl; have c7 := blk_cell gb3 7 rfl; have c8 := blk_cell gb3 8 rfl; have c9 := blk_cell gb3 9 rfl; have c10 := blk_cell gb3 10 rfl; have c11 := blk_cell gb3 11 rfl))
      go_ret
      exact ⟨rfl, blk_below (by assumption)⟩
    · rw [if_neg (by simp; omega)]
      cases b
      · go_enter Tryz.func34, Tryz.ntmps34
        go_wp2_with (first | (go_at_call 42; refine (HD.out _ (blkBelow w _ _)).mono ?_; rintro e w2 ⟨rfl, g⟩; have gb := gnext (Below.refl _ _) g; have c0 := blk_cell gb 0 rfl; have c1 := blk_cell gb 1 rfl; have c2 := blk_cell gb 2 rfl; have c3 := blk_cell gb 3 rfl; have c4 := blk_cell gb 4 rfl; have c5 := blk_cell gb 5 rfl; have c6 := blk_cell gb 6 rfl; have c7 := blk_cell gb 7 rfl; have c8 := blk_cell gb 8 rfl; have c9 := blk_cell gb 9 rfl; have c10 := blk_cell gb 10 rfl; have c11 := blk_cell gb 11 rfl) | (go_at_call 31; refine (HS.out _ (blk_below (by assumption))).mono ?_; rintro e w3 ⟨rfl, g3⟩; have gb3 := gnext (by assumption) g3; have c0 := blk_cell gb3 0 rfl; have c1 := blk_cell gb3 1 rfl; have c2 := blk_cell gb3 2 rfl; have c3 := blk_cell gb3 3 rfl; have c4 := blk_cell gb3 4 rfl; have c5 := blk_cell gb3 5 rfl; have c6 := blk_cell gb3 6 rfl; have c7 := blk_cell gb3 7 rfl; have c8 := blk_cell gb3 8 rfl; have c9 := blk_cell gb3 9 rfl; have c10 := blk_cell gb3 10 rfl; have c11 := blk_cell gb3 11 rfl) | (go_at_call 52; refine (HN.out _ (blk_below (by assumption))).mono ?_; rintro e w4 ⟨rfl, g4⟩; have gb4 := gnext (by assumption) g4))
        go_ret
        exact ⟨rfl, blk_below (by assumption)⟩
      · go_enter Tryz.func34, Tryz.ntmps34
        go_wp2_with (first | (go_at_call 42; refine (HD.out _ (blkBelow w _ _)).mono ?_; rintro e w2 ⟨rfl, g⟩; have gb := gnext (Below.refl _ _) g; have c0 := blk_cell gb 0 rfl; have c1 := blk_cell gb 1 rfl; have c2 := blk_cell gb 2 rfl; have c3 := blk_cell gb 3 rfl; have c4 := blk_cell gb 4 rfl; have c5 := blk_cell gb 5 rfl; have c6 := blk_cell gb 6 rfl; have c7 := blk_cell gb 7 rfl; have c8 := blk_cell gb 8 rfl; have c9 := blk_cell gb 9 rfl; have c10 := blk_cell gb 10 rfl; have c11 := blk_cell gb 11 rfl) | (go_at_call 31; refine (HS.out _ (blk_below (by assumption))).mono ?_; rintro e w3 ⟨rfl, g3⟩; have gb3 := gnext (by assumption) g3; have c0 := blk_cell gb3 0 rfl; have c1 := blk_cell gb3 1 rfl; have c2 := blk_cell gb3 2 rfl; have c3 := blk_cell gb3 3 rfl; have c4 := blk_cell gb3 4 rfl; have c5 := blk_cell gb3 5 rfl; have c6 := blk_cell gb3 6 rfl; have c7 := blk_cell gb3 7 rfl; have c8 := blk_cell gb3 8 rfl; have c9 := blk_cell gb3 9 rfl; have c10 := blk_cell gb3 10 rfl; have c11 := blk_cell gb3 11 rfl) | (go_at_call 52; refine (HN.out _ (blk_below (by assumption))).mono ?_; rintro e w4 ⟨rfl, g4⟩; have gb4 := gnext (by assumption) g4))
        go_ret
        exact ⟨rfl, blk_below (by assumption)⟩

end Go.Proofs.YtgmdmbmkljbgiaaGreatDoor
