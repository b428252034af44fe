/- Scopes: the reference's Check and Right. (and what follows from it) -/
import Derived.Test.YtgmdmbmkljbgiaaGreatDoorPz13
import Derived.Test.YtgmdmbmkljbgiaaGreatDoorPz8
import Derived.Test.YtgmdmbmkljbgiaaGreatDoorPz15

/- Scopes: the reference's Check and Right. -/
namespace Go.Proofs.YtgmdmbmkljbgiaaGreatDoor
open Go.RowKit Go.Deep Go.Shelf

theorem rnodeS_any (g : Pg) : ∀ p : Pr, RNodeS g p := by
  refine Pr.ind ?_
  intro k c x ls vs t ps ih
  exact rnodeS_step g (.mk k c x ls vs t ps) ih
theorem fd_cases {ds : List Df} {i : Nat} {d : Df} (hd : ds[i]? = some d) : (memB d.n ((ds.take i).map Df.n) = true → ∃ k, k < i ∧ fdI ds d.n = some k) ∧ (memB d.n ((ds.take i).map Df.n) = false → fdI ds d.n = some i) := by
  have hil : i < ds.length := (List.getElem?_eq_some_iff.1 hd).1
  refine ⟨fun h => ?_, fun h => ?_⟩
  · cases hf : fdI ds d.n with
    | none =>
      have := List.find?_eq_none.1 hf i (List.mem_range.2 hil)
      rw [nameAt_some hd] at this; simp at this
    | some k =>
      refine ⟨k, ?_, rfl⟩
      unfold fdI at hf
      rw [List.find?_range_eq_some] at hf
      obtain ⟨x, hx, e⟩ := List.mem_map.1 (memB_true.1 h)
      obtain ⟨j, hj, hxj⟩ := List.getElem_of_mem hx
      rw [List.length_take] at hj
      rw [List.getElem_take] at hxj
      rcases Nat.lt_or_ge j k with hjk | hjk
      · have := hf.2.2 j hjk
        rw [nameAt_some (List.getElem?_eq_some_iff.2 ⟨by omega, hxj⟩)] at this; simp [e] at this
      · omega
  · refine range_find hil (fun j hj => ?_) (by rw [nameAt_some hd]; simp)
    have hjl : j < ds.length := by omega
    rw [nameAt_some (List.getElem?_eq_getElem hjl)]
    have hn : d.n ∉ (ds.take i).map Df.n := fun hm => by rw [memB_true.2 hm] at h; cases h
    simp only [decide_eq_false_iff_not]
    intro e
    exact hn (List.mem_map.2 ⟨ds[j], List.mem_iff_getElem.2 ⟨j, by rw [List.length_take]; omega, by rw [List.getElem_take]⟩, e⟩)
theorem dnames_takeQ {ds : List Df} {j : Nat} {d : Df} (h : ds[j]? = some d) : (ds.take (j + 1)).map Df.n = (ds.take j).map Df.n ++ [d.n] := by rw [take_snoc_get h, List.map_append]; rfl
theorem twice_none {ds : List Df} (h : twF ds = none) : dups (ds.map Df.n) = false := by
  have hall : ∀ i, i < ds.length → twiceAt ds i = false := fun i hi => by
    have := List.find?_eq_none.1 h i (List.mem_range.2 hi)
    simpa using this
  have hk : ∀ k, k ≤ ds.length → dups ((ds.take k).map Df.n) = false := by
    intro k
    induction k with
    | zero => intro _; rfl
    | succ k ih =>
      intro hk
      have hd : ds[k]? = some ds[k] := List.getElem?_eq_getElem (by omega)
      have h1 := hall k (by omega)
      unfold twiceAt at h1
      rw [hd] at h1
      simp only [Bool.or_eq_false_iff] at h1
      rw [dnames_takeQ hd, dups_snoc, ih (by omega), h1.1]; rfl
  have := hk ds.length (Nat.le_refl _)
  rwa [List.take_length] at this
theorem bE_fst {g : Pg} (h : twF g.ds = none) (i : Nat) : g.bE (arOf g.ds) i = g.bE (arFst g.ds) i := by
  have : arOf g.ds = arFst g.ds := funext (arOf_fst (twice_none h))
  rw [this]

abbrev dfCells (d : Df) (mv lv av tl tk kv : Value) : Obj := .cells #[.string d.n, mv, .int .i64 d.b.k, .string d.b.c, .string d.b.x, lv, av, .int .i64 d.b.t.k, .int .i64 d.b.t.p, .string d.b.t.n, .int .i64 d.b.t.s, tl, tk, kv] 45
def rAt (ce : Int) (ca n : Nat) : Nat := if ce = 0 then n else ca

set_option maxHeartbeats 16000000 in
set_option maxRecDepth 100000 in
theorem rcheck_any (g : Pg) (hg : GGood g) (ht : g.total ≤ 1000000000) (hm : ∀ d ∈ g.ds, d.ms.length ≤ 1000) (v : Value) (w : World) (hv : GLies w v g) (ce : Int) (ca : Nat) (hc : g.chk = (ce, ca)) :
    Calls Tryz.prog 8 #[v] w fun e w' => e = .returned (.tuple #[.int .i64 ce, .int .i64 ((rAt ce ca g.ds.length : Nat) : Int)]) ∧ Below w.heap.size w w' := by
  have hg0 := hv
  obtain ⟨dv, glv, gav, gtl, gtk, gkv, rfl, hgd, hgp⟩ := hv
  obtain ⟨⟨gla, gln, glc, rfl⟩, ⟨gaa, gan, gac, rfl⟩, ⟨gta, gtn, gtc, rfl⟩, ⟨gua, gun, guc, rfl⟩, gka, gkn, gkc, rfl⟩ := pr_slices hgp
  obtain ⟨pa, len, c, rfl, hlen, hmx, hget⟩ := hgd.open
  obtain ⟨W0, hW0⟩ : ∃ W0, w.alloc (cell13 g (.slice pa len c) (.slice gla gln glc) (.slice gaa gan gac) (.slice gta gtn gtc) (.slice gua gun guc) (.slice gka gkn gkc)) = W0 := ⟨_, rfl⟩
  have hb0 : Below w.heap.size w W0 := by rw [← hW0]; exact blkBelow w _ _
  have hsz0 : W0.heap.size = w.heap.size + 1 := by rw [← hW0]; simp
  have hT : Hid (∀ W, Below W0.heap.size W0 W → Thirt W w.heap.size (.slice pa len c) (.int .i64 g.m.k) (.string g.m.c) (.string g.m.x) (.slice gla gln glc) (.slice gaa gan gac) (.int .i64 g.m.t.k) (.int .i64 g.m.t.p) (.string g.m.t.n) (.int .i64 g.m.t.s) (.slice gta gtn gtc) (.slice gua gun guc) (.slice gka gkn gkc)) := Lib.hid (fun W hW => by
    refine (hW.block _ (by omega)).trans ?_
    rw [← hW0]; exact World.alloc_heap_new _ _)
  have HL : Hid (∀ W, Below W0.heap.size W0 W → Below w.heap.size w W ∧ GLies W (pgAgg g (.slice pa len c) (.slice gla gln glc) (.slice gaa gan gac) (.slice gta gtn gtc) (.slice gua gun guc) (.slice gka gkn gkc)) g ∧ PLies W (prAgg g.m (.slice gla gln glc) (.slice gaa gan gac) (.slice gta gtn gtc) (.slice gua gun guc) (.slice gka gkn gkc)) g.m) := Lib.hid (fun W hW => ⟨below_seq hb0 hW, hg0.to (below_seq hb0 hW), PLies.to hgp (below_seq hb0 hW)⟩)
  have HD : Hid (∀ (j : Nat) (d : Df), g.ds[j]? = some d → d.ms.length ≤ 1000 ∧ d.b.depth ≤ 1000 ∧ ∃ kb ko, pa = some ⟨kb, ko, none⟩ ∧ kb < w.heap.size ∧ ∀ W, Below w.heap.size w W → DfAt (fun k => k < w.heap.size) W d kb (ko + j * 14)) := Lib.hid (fun j d hj => by
    obtain ⟨kb, ko, e, hkb, hda⟩ := hget j d hj
    have hmem := List.mem_of_getElem? hj
    refine ⟨hm d hmem, (hg.2.2 d.b (by unfold Pg.bodies; simp; exact .inl ⟨d, hmem, rfl⟩)).2.1, kb, ko, e, hkb, fun W hW => DfAt.keep (hW.keeps'.mono (fun _ h => h)) hkb hda⟩)
  have hmd : g.m.depth ≤ 1000 := (hg.2.2 g.m (by unfold Pg.bodies; simp)).2.1
  obtain ⟨x, hx⟩ : ∃ x, pprogE g = x := ⟨_, rfl⟩
  have HP : Hid (Calls Tryz.prog 15 #[pgAgg g (.slice pa len c) (.slice gla gln glc) (.slice gaa gan gac) (.slice gta gtn gtc) (.slice gua gun guc) (.slice gka gkn gkc)] W0 fun e w' => e = .returned (.int .i64 x) ∧ Below W0.heap.size W0 w') := Lib.hid (rpprog_l (hg0.to hb0) hg ht hx)
  have HFN : Hid (∀ (s : ByteArray) (y : Int) W, Below W0.heap.size W0 W → fdZ (fdI g.ds s) = y → Calls Tryz.prog 13 #[pgAgg g (.slice pa len c) (.slice gla gln glc) (.slice gaa gan gac) (.slice gta gtn gtc) (.slice gua gun guc) (.slice gka gkn gkc), .string s] W fun e w' => e = .returned (.int .i64 y) ∧ Below W.heap.size W w') := Lib.hid (fun s y W hW hy => rfind_any _ g s _ W (plow W) (hg0.to (below_seq hb0 hW)) y hy)
  have hlen' : g.ds.length = len := hlen.out.symm
  rw [hlen']
  have HLE := Lib.hid hlen'
  have HW0 := Lib.hid hW0
  have HC := Lib.hid hc
  have HX := Lib.hid hx
  have HB0 := Lib.hid (Below.refl W0.heap.size W0)
  have HMD := Lib.hid hmd
  have hlen20 : len ≤ 1000 := by have := hg.1; omega
  have hwz : w.heap.size + 1 ≤ W0.heap.size := by omega
  have h5 : rAt 5 = fun ca _ => ca := by funext a b; unfold rAt; rw [if_neg (by omega)]
  unfold pgAgg at HP HFN
  clear hg0 hgd hgp hget hlen hg ht hm hW0 hb0 hsz0 hc hx hmd hlen'
  go_enter Tryz.func8, Tryz.ntmps8
  go_wp2_with fail
  refine scalls_at HW0.out ?_
  refine HP.out.mono ?_
  rintro e w2 ⟨rfl, hb2⟩
  have HB2 := Lib.hid hb2
  clear hb2
  by_cases h0 : x = 0
  · subst h0
    go_wp2_with fail
    go_loopw [5] (fun i wr => ∃ j : Nat, i = .int .i64 (j : Int) ∧ j ≤ len ∧ Hid (∀ k, k < j → twiceAt g.ds k = false) ∧ Hid (Below W0.heap.size W0 wr)) (fun i _ => len - (intOf i).toNat)
    case atStart => exact ⟨0, rfl, by omega, Lib.hid (fun k hk => by omega), HB2⟩
    case round =>
      obtain ⟨j, rfl, hj, HTW, HBj⟩ := hrel
      obtain ⟨wo, hwo⟩ : ∃ wo, wo = wr := ⟨_, rfl⟩
      subst hwo
      obtain ⟨t0, t1, t2, t3, t4, t5, t6, t7, t8, t9, t10, t11, t12⟩ := (hT.out wo HBj.out).cells
      have hzo : w.heap.size + 1 ≤ wo.heap.size := by have := HBj.out.size; omega
      by_cases hlt : j < len
      · obtain ⟨d, hdj⟩ : ∃ d, g.ds[j]? = some d := ⟨_, List.getElem?_eq_getElem (by rw [HLE.out]; exact hlt)⟩
        obtain ⟨hdm, hdd, kb, ko, rfl, hkl, hda⟩ := HD.out j d hdj
        obtain ⟨_, e0, ⟨mv, e1, hms⟩, hpr⟩ := hda wo (HL.out wo HBj.out).1
        obtain ⟨ma, ml, mc, rfl, hml, hmlx, hmg⟩ := hms.open
        obtain ⟨la1, ln1, lc1, aa1, an1, ac1, ta1, tn1, tc1, ua1, un1, uc1, ka1, kn1, kc1, ⟨d0, d1, d2, d3, d4, d5, d6, d7, d8, d9, d10, d11⟩, hval⟩ := hpr.load'
        replace d0 : wo.cell? ⟨kb, ko + j * 14 + 2, none⟩ = _ := d0
        replace d1 : wo.cell? ⟨kb, ko + j * 14 + 3, none⟩ = _ := d1
        replace d2 : wo.cell? ⟨kb, ko + j * 14 + 4, none⟩ = _ := d2
        replace d3 : wo.cell? ⟨kb, ko + j * 14 + 5, none⟩ = _ := d3
        replace d4 : wo.cell? ⟨kb, ko + j * 14 + 6, none⟩ = _ := d4
        replace d5 : wo.cell? ⟨kb, ko + j * 14 + 7, none⟩ = _ := d5
        replace d6 : wo.cell? ⟨kb, ko + j * 14 + 8, none⟩ = _ := d6
        replace d7 : wo.cell? ⟨kb, ko + j * 14 + 9, none⟩ = _ := d7
        replace d8 : wo.cell? ⟨kb, ko + j * 14 + 10, none⟩ = _ := d8
        replace d9 : wo.cell? ⟨kb, ko + j * 14 + 11, none⟩ = _ := d9
        replace d10 : wo.cell? ⟨kb, ko + j * 14 + 12, none⟩ = _ := d10
        replace d11 : wo.cell? ⟨kb, ko + j * 14 + 13, none⟩ = _ := d11
        have hkw : kb < wo.heap.size := by omega
        have hzw : w.heap.size < wo.heap.size := by omega
        have HMG : Hid (∀ (i : Nat) (a : Pm), d.ms[i]? = some a → ∃ gb go, ma = some ⟨gb, go, none⟩ ∧ ∀ W, Below wo.heap.size wo W → W.cell? ⟨gb, go + i * 7, none⟩ = some (.string a.n)) := Lib.hid (fun i a hi => by
          obtain ⟨gb, go, e, hgb, ha⟩ := hmg i a hi
          have hgb' : gb < w.heap.size := hgb
          exact ⟨gb, go, e, fun W hW => (hW.cell (p := ⟨gb, _, none⟩) (by simp only; omega)).trans ha.2.1⟩)
        obtain ⟨W6, hW6⟩ : ∃ W6, wo.alloc (dfCells d (.slice ma ml mc) (.slice la1 ln1 lc1) (.slice aa1 an1 ac1) (.slice ta1 tn1 tc1) (.slice ua1 un1 uc1) (.slice ka1 kn1 kc1)) = W6 := ⟨_, rfl⟩
        have HB6 : Hid (Below W0.heap.size W0 W6) := Lib.hid (by rw [← hW6]; exact HBj.out.alloc HBj.out.size _)
        have HBX : Hid (∀ W, Below W6.heap.size W6 W → W.cell? ⟨wo.heap.size, 0, none⟩ = some (.string d.n) ∧ W.cell? ⟨wo.heap.size, 1, none⟩ = some (.slice ma ml mc) ∧ Below wo.heap.size wo W) := Lib.hid (fun W hW => by
          have hW' : Below (wo.heap.size + 1) (wo.alloc (dfCells d (.slice ma ml mc) (.slice la1 ln1 lc1) (.slice aa1 an1 ac1) (.slice ta1 tn1 tc1) (.slice ua1 un1 uc1) (.slice ka1 kn1 kc1))) W := by rw [hW6]; exact hW.mono (by rw [← hW6]; simp)
          exact ⟨blk_cell hW' 0 rfl, blk_cell hW' 1 rfl, blk_below hW'⟩)
        have HW6 := Lib.hid hW6
        obtain ⟨mb, hmb⟩ : ∃ x, memB d.n ((g.ds.take j).map Df.n) = x := ⟨_, rfl⟩
        have HTA : Hid (twiceAt g.ds j = (mb || dups (d.ms.map Pm.n))) := Lib.hid (by unfold twiceAt; rw [hdj]; simp only; rw [hmb])
        have HJL : Hid (j < g.ds.length) := Lib.hid (List.getElem?_eq_some_iff.1 hdj).1
        have hfc := fd_cases hdj
        rw [hmb] at hfc
        have HFC := Lib.hid hfc
        have HML := Lib.hid hml.out
        clear hdj hda hms hpr hml hmg hval hmb hfc hdm hdd hW6
        cases mb
        · have HFI := Lib.hid (HFN.out d.n (j : Int) W6 HB6.out (by rw [HFC.out.2 rfl]; rfl))
          have hjj : decide ((j : Int) < (j : Int)) = false := by simp
          go_wp2_with fail
          refine scalls_at HW6.out ?_
          refine HFI.out.mono ?_
          rintro e w7 ⟨rfl, hb7⟩
          have HB7 := Lib.hid hb7
          obtain ⟨_, x1, _⟩ := HBX.out w7 HB7.out
          clear hb7 t0 t1 t2 t3 t4 t5 t6 t7 t8 t9 t10 t11 t12 e0 e1 d0 d1 d2 d3 d4 d5 d6 d7 d8 d9 d10 d11
          go_wp2_with fail
          clear x1
          go_loopw [7] (fun i wr => ∃ k : Nat, i = .int .i64 (k : Int) ∧ k ≤ ml ∧ Hid (dups ((d.ms.take k).map Pm.n) = false) ∧ Hid (Below W6.heap.size W6 wr)) (fun i _ => ml - (intOf i).toNat)
          case atStart => exact ⟨0, rfl, by omega, Lib.hid rfl, HB7⟩
          case round =>
            obtain ⟨k, rfl, hk, HTK, HBk⟩ := hrel
            obtain ⟨wk, hwk⟩ : ∃ wk, wk = wr := ⟨_, rfl⟩
            subst hwk
            obtain ⟨_, x1, _⟩ := HBX.out wk HBk.out
            by_cases hlt2 : k < ml
            · obtain ⟨a, ha⟩ : ∃ a, d.ms[k]? = some a := ⟨_, List.getElem?_eq_getElem (by rw [← HML.out]; exact hlt2)⟩
              obtain ⟨gb, go, rfl, hca⟩ := HMG.out k a ha
              have HCA := Lib.hid hca
              have HAK := Lib.hid ha
              clear ha hca
              go_wp2_with fail
              clear x1
              go_loopw [8] (fun i wr => ∃ m : Nat, i = .int .i64 (m : Int) ∧ m ≤ k ∧ Hid (memB a.n ((d.ms.take m).map Pm.n) = false) ∧ Hid (Below W6.heap.size W6 wr)) (fun i _ => k - (intOf i).toNat)
              case atStart => exact ⟨0, rfl, by omega, Lib.hid rfl, HBk⟩
              case round =>
                obtain ⟨m, rfl, hm, HTM, HBm⟩ := hrel
                obtain ⟨wm, hwm⟩ : ∃ wm, wm = wr := ⟨_, rfl⟩
                subst hwm
                by_cases hlt3 : m < k
                · obtain ⟨a2, ha2⟩ : ∃ a2, d.ms[m]? = some a2 := ⟨_, List.getElem?_eq_getElem (by rw [← HML.out]; omega)⟩
                  obtain ⟨gb2, go2, e2, hca2⟩ := HMG.out m a2 ha2
                  simp only [Option.some.injEq, Addr.mk.injEq, and_true] at e2
                  obtain ⟨rfl, rfl⟩ := e2
                  have u1 := fun Q : Later wm.heap.size wm => (HBX.out Q.1 (HBm.out.trans (Below.mono Q.2 HBm.out.size))).2.1
                  have u2 := fun Q : Later wm.heap.size wm => HCA.out Q.1 (HBX.out Q.1 (HBm.out.trans (Below.mono Q.2 HBm.out.size))).2.2
                  have u3 := fun Q : Later wm.heap.size wm => hca2 Q.1 (HBX.out Q.1 (HBm.out.trans (Below.mono Q.2 HBm.out.size))).2.2
                  have HNT : Hid ((d.ms.take (m + 1)).map Pm.n = (d.ms.take m).map Pm.n ++ [a2.n]) := Lib.hid (by rw [take_snoc_get ha2, List.map_append]; rfl)
                  have hmem2 : a2.n ∈ (d.ms.take k).map Pm.n := List.mem_map.2 ⟨a2, List.mem_iff_getElem?.2 ⟨m, by rw [List.getElem?_take, if_pos hlt3]; exact ha2⟩, rfl⟩
                  have HM2 := Lib.hid hmem2
                  have hmml : m < ml := by omega
                  clear ha2 hca2 hmem2
                  by_cases he : a2.n = a.n
                  · have HDU : Hid (dups (d.ms.map Pm.n) = true) := Lib.hid (by
                      refine dups_mono (j := k + 1) _ ?_
                      rw [← List.map_take, take_snoc_get HAK.out, List.map_append, List.map_cons, List.map_nil, dups_snoc, memB_true.2 (by rw [← he]; exact HM2.out), Bool.or_true])
                    have HTWJ : Hid (twF g.ds = some j) := Lib.hid (range_find HJL.out HTW.out (by rw [HTA.out, HDU.out]; rfl))
                    obtain ⟨rfl, rfl⟩ := pair_eq HC.out (Pg.chk_2 HX.out HTWJ.out)
                    rw [he] at u3
                    clear he
                    go_wp2_with fail
                    refine wp_region_later wm.heap.size wm (by kernel_rfl) (by kernel_rfl) (Below.refl _ _) ?_
                    repeat (go_big_quiet_step (fail))
                    refine wpQuiet_nil ?_
                    rintro _ ⟨⟨w9, hb9⟩, rfl⟩
                    have HB9 := Lib.hid hb9
                    clear u1 u2 u3 hb9
                    go_wp2_with fail
                    go_ret2
                    exact ⟨by rw [h5]; rfl, (HL.out _ (HB6.out.trans ((HBm.out.trans (HB9.out.mono HBm.out.size)).mono HB6.out.size))).1⟩
                  · have s1 := str_ne he
                    have s2 : (a2.n.toList == a.n.toList) = false := by simpa using s1
                    have HTM' : Hid (memB a.n ((d.ms.take (m + 1)).map Pm.n) = false) := Lib.hid (by rw [HNT.out, memB_append, memB_one, HTM.out]; simpa using he)
                    clear he
                    go_wp2_with fail
                    refine wp_region_later wm.heap.size wm (by kernel_rfl) (by kernel_rfl) (Below.refl _ _) ?_
                    repeat (go_big_quiet_step (fail))
                    refine wpQuiet_nil ?_
                    rintro _ ⟨⟨w9, hb9⟩, rfl⟩
                    have HB9 := Lib.hid hb9
                    clear u1 u2 u3 hb9
                    go_wp2_with fail
                    go_roundw
                    case rel => exact ⟨m + 1, by go_num, by omega, HTM', Lib.hid (HBm.out.trans (HB9.out.mono HBm.out.size))⟩
                    case measure => simp [intOf]; omega
                · obtain rfl : k = m := by omega
                  have HTK' : Hid (dups ((d.ms.take (k + 1)).map Pm.n) = false) := Lib.hid (by rw [take_snoc_get HAK.out, List.map_append, List.map_cons, List.map_nil, dups_snoc, HTK.out, HTM.out]; rfl)
                  go_wp2_with fail
                  go_roundw
                  case rel => exact ⟨k + 1, by go_num, by omega, HTK', HBm⟩
                  case measure => simp [intOf]; omega
            · obtain rfl : ml = k := by omega
              have HDU : Hid (dups (d.ms.map Pm.n) = false) := Lib.hid (by
                have h := HTK.out
                rwa [List.take_of_length_le (by rw [HML.out]; exact Nat.le_refl _)] at h)
              have HTW' : Hid (∀ k, k < j + 1 → twiceAt g.ds k = false) := Lib.hid (fun k hk => by
                rcases Nat.lt_succ_iff_lt_or_eq.1 hk with h | rfl
                · exact HTW.out k h
                · rw [HTA.out, HDU.out]; rfl)
              go_wp2_with fail
              go_roundw
              case rel => exact ⟨j + 1, by go_num, by omega, HTW', Lib.hid (HB6.out.trans (HBk.out.mono HB6.out.size))⟩
              case measure => simp [intOf]; omega
        · obtain ⟨k, hkj, hfk⟩ := HFC.out.1 rfl
          have HFI := Lib.hid (HFN.out d.n (k : Int) W6 HB6.out (by rw [hfk]; rfl))
          have hkd : decide ((k : Int) < (j : Int)) = true := by simp; omega
          have HTWJ : Hid (twF g.ds = some j) := Lib.hid (range_find HJL.out HTW.out (by rw [HTA.out]; rfl))
          obtain ⟨rfl, rfl⟩ := pair_eq HC.out (Pg.chk_2 HX.out HTWJ.out)
          clear hfk
          go_wp2_with fail
          refine scalls_at HW6.out ?_
          refine HFI.out.mono ?_
          rintro e w7 ⟨rfl, hb7⟩
          have HB7 := Lib.hid hb7
          clear hb7
          go_wp2_with fail
          go_ret2
          exact ⟨by rw [h5]; rfl, (HL.out _ (HB6.out.trans (HB7.out.mono HB6.out.size))).1⟩
      · obtain rfl : len = j := by omega
        have HTN : Hid (twF g.ds = none) := Lib.hid (range_find_none (fun i hi => HTW.out i (by rw [← HLE.out]; exact hi)))
        clear t1 t2 t3 t4 t5 t6 t7 t8 t9 t10 t11 t12
        go_wp2_with fail
        clear t0
        go_loopw [9] (fun i wr => ∃ j : Nat, i = .int .i64 (j : Int) ∧ j ≤ len ∧ Hid (∀ k, k < j → g.bE (arOf g.ds) k = 0) ∧ Hid (Below W0.heap.size W0 wr)) (fun i _ => len - (intOf i).toNat)
        case atStart => exact ⟨0, rfl, by omega, Lib.hid (fun k hk => by omega), HBj⟩
        case round =>
          obtain ⟨j, rfl, hj2, HTB, HBi⟩ := hrel
          obtain ⟨wi, hwi⟩ : ∃ wi, wi = wr := ⟨_, rfl⟩
          subst hwi
          have t0 := ((hT.out wi HBi.out).cells).1
          have hzi : W0.heap.size ≤ wi.heap.size := HBi.out.size
          by_cases hlt : j < len
          · obtain ⟨d, hdj⟩ : ∃ d, g.ds[j]? = some d := ⟨_, List.getElem?_eq_getElem (by rw [HLE.out]; exact hlt)⟩
            obtain ⟨hdm, hdd, kb, ko, rfl, hkl, hda⟩ := HD.out j d hdj
            obtain ⟨_, _, ⟨mv, e1, hms⟩, _⟩ := hda wi (HL.out wi HBi.out).1
            obtain ⟨ma, ml, mc, rfl, hml, hmlx, hmg⟩ := hms.open
            have HDA := Lib.hid hda
            have HML := Lib.hid hml.out
            have hkw : kb < wi.heap.size := by omega
            have HE1 : Hid (∀ W, Below wi.heap.size wi W → W.cell? ⟨kb, ko + j * 14 + 1, none⟩ = some (.slice ma ml mc)) := Lib.hid (fun W hW => (hW.cell (p := ⟨kb, _, none⟩) hkw).trans e1)
            have HMG : Hid (∀ (i : Nat) (a : Pm), d.ms[i]? = some a → a.n.size ≤ maxLen ∧ ∃ gb go, ma = some ⟨gb, go, none⟩ ∧ ∀ W, Below wi.heap.size wi W → W.cell? ⟨gb, go + i * 7, none⟩ = some (.string a.n)) := Lib.hid (fun i a hi => by
              obtain ⟨gb, go, e, hgb, ha⟩ := hmg i a hi
              have hgb' : gb < w.heap.size := hgb
              exact ⟨ha.1, gb, go, e, fun W hW => (hW.cell (p := ⟨gb, _, none⟩) (by simp only; omega)).trans ha.2.1⟩)
            obtain ⟨y, hy⟩ : ∃ y, d.b.scE (arFst g.ds) (d.ms.map Pm.n) false = y := ⟨_, rfl⟩
            have HBE : Hid (g.bE (arOf g.ds) j = y) := Lib.hid (by rw [bE_fst HTN.out, Pg.bE_def hdj]; exact hy)
            have HY := Lib.hid hy
            have HDM := Lib.hid (And.intro hdm hdd)
            have hml2 : ml ≤ 1000 := by rw [hml.out]; exact hdm
            have HJ : Hid (j ≤ g.ds.length) := Lib.hid (by rw [HLE.out]; exact hj2)
            have HBi0 := Lib.hid (Below.refl wi.heap.size wi)
            clear hdj hda hms hml hmg hy hdm hdd
            go_wp2_with fail
            clear t0 e1
            go_loopw [10, 11] (fun v i wr => ∃ (k : Nat) (a : Option Addr) (n c : Nat), i = .int .i64 (k : Int) ∧ k ≤ ml ∧ v = .slice a n c ∧ Hid (Row wi.heap.size wr (.slice a n c) ((d.ms.take k).map Pm.n)) ∧ Hid (Below wi.heap.size wi wr)) (fun _ i _ => ml - (intOf i).toNat)
            case atStart => exact ⟨0, _, _, _, rfl, by omega, rfl, Lib.hid (Row.nil _ _), HBi0⟩
            case round =>
              obtain ⟨k, sa, sn, sc, rfl, hk, rfl, HR, HBk⟩ := hrel
              obtain ⟨wk, hwk⟩ : ∃ wk, wk = wr := ⟨_, rfl⟩
              subst hwk
              have hzk : wi.heap.size ≤ wk.heap.size := HBk.out.size
              have t0 := ((hT.out wk (HBi.out.trans (HBk.out.mono hzi))).cells).1
              have e1 := HE1.out wk HBk.out
              by_cases hlt2 : k < ml
              · obtain ⟨a, ha⟩ : ∃ a, d.ms[k]? = some a := ⟨_, List.getElem?_eq_getElem (by rw [← HML.out]; exact hlt2)⟩
                obtain ⟨han, gb, go, rfl, hca⟩ := HMG.out k a ha
                have q0 := hca wk HBk.out
                have HNT : Hid ((d.ms.take (k + 1)).map Pm.n = (d.ms.take k).map Pm.n ++ [a.n]) := Lib.hid (by rw [take_snoc_get ha, List.map_append]; rfl)
                have HSO : Hid (StrSl (Fresh wk.heap.size (wk.alloc (.cells #[.string a.n] 9)).heap.size) (wk.alloc (.cells #[.string a.n] 9)) (.slice (some ⟨wk.heap.size, 0, none⟩) 1 1) [a.n]) := Lib.hid (strSl_made [a.n] (Below.refl _ _) (fun s hs => by rw [List.mem_singleton.1 hs]; exact han) (by simp [maxLen]))
                have HLN : Hid (((d.ms.take k).map Pm.n).length + [a.n].length ≤ 1000000000) := Lib.hid (by simp; omega)
                have HRA : Hid (Row wi.heap.size (wk.alloc (.cells #[.string a.n] 9)) (.slice sa sn sc) ((d.ms.take k).map Pm.n)) := Lib.hid (HR.out.alloc _)
                clear ha han hca
                go_wp2_with (at_builtin; refine wpList_app rfl _ _ rfl wi.heap.size ((d.ms.take k).map Pm.n) (.slice sa sn sc) rfl HRA.out _ _ _ _ [a.n] rfl HSO.out HLN.out (by simp only [World.size_alloc]; omega) ?_; intro ga gn gc w3 hrow hgrow _; have HRW := Lib.hid hrow; have HGW := Lib.hid hgrow; clear hrow hgrow)
                go_roundw
                case rel => exact ⟨k + 1, _, _, _, by go_num, by omega, rfl, Lib.hid (by rw [HNT.out]; exact HRW.out), Lib.hid ((HBk.out.alloc hzk _).grown HGW.out (by simp only [World.size_alloc]; omega) (fun k e => (HRA.out.lt k e).1))⟩
                case measure => simp [intOf]; omega
              · obtain rfl : ml = k := by omega
                have HRF : Hid (Row wi.heap.size wk (.slice sa sn sc) (d.ms.map Pm.n)) := Lib.hid (by
                  have h := HR.out
                  rwa [List.take_of_length_le (by rw [HML.out]; exact Nat.le_refl _)] at h)
                have hS4 : SLies wk (.slice sa sn sc) (d.ms.map Pm.n) := StrSl.mono (fun k hk => hk.2) (HRF.out.strs (by rw [List.length_map, ← HML.out]; unfold maxLen; omega)).2
                have HBK0 : Hid (Below W0.heap.size W0 wk) := Lib.hid (HBi.out.trans (HBk.out.mono hzi))
                have hzk0 : W0.heap.size ≤ wk.heap.size := HBK0.out.size
                obtain ⟨la1, ln1, lc1, aa1, an1, ac1, ta1, tn1, tc1, ua1, un1, uc1, ka1, kn1, kc1, ⟨d0, d1, d2, d3, d4, d5, d6, d7, d8, d9, d10, d11⟩, hval⟩ := ((HDA.out wk (HL.out wk HBK0.out).1).2.2.2).load'
                have hplies : PLies wk (prAgg d.b (.slice la1 ln1 lc1) (.slice aa1 an1 ac1) (.slice ta1 tn1 tc1) (.slice ua1 un1 uc1) (.slice ka1 kn1 kc1)) d.b := hval.mono (fun k hk => Nat.lt_of_lt_of_le hk (HL.out wk HBK0.out).1.size)
                have HXA : Hid (∀ W, Below wk.heap.size wk W → Calls Tryz.prog 23 #[pgAgg g (.slice (some ⟨kb, ko, none⟩) len c) (.slice gla gln glc) (.slice gaa gan gac) (.slice gta gtn gtc) (.slice gua gun guc) (.slice gka gkn gkc), prAgg d.b (.slice la1 ln1 lc1) (.slice aa1 an1 ac1) (.slice ta1 tn1 tc1) (.slice ua1 un1 uc1) (.slice ka1 kn1 kc1), .slice sa sn sc, .bool false] W fun e w' => e = .returned (.int .i64 y) ∧ Below W.heap.size W w') := Lib.hid (fun W hW =>
                  rnodeS_any g d.b _ _ _ (d.ms.map Pm.n) false W y (HL.out W (HBK0.out.trans (hW.mono hzk0))).2.1 (hplies.to hW) (hS4.to hW) (by rw [List.length_map]; have := HDM.out; omega) HY.out)
                have kt := fun Q : Later wk.heap.size wk => (hT.out Q.1 (HBK0.out.trans (Below.mono Q.2 hzk0))).cells
                have hkw2 : kb < wk.heap.size := by omega
                have lift : ∀ {i : Nat} {v : Value}, wk.cell? ⟨kb, i, none⟩ = some v → ∀ Q : Later wk.heap.size wk, Q.1.cell? ⟨kb, i, none⟩ = some v := fun h Q => (Below.cell Q.2 (p := ⟨kb, _, none⟩) hkw2).trans h
                have v0 : ∀ Q : Later wk.heap.size wk, Q.1.cell? ⟨kb, ko + j * 14 + 2, none⟩ = _ := lift d0
                have v1 : ∀ Q : Later wk.heap.size wk, Q.1.cell? ⟨kb, ko + j * 14 + 2 + 1, none⟩ = _ := lift d1
                have v2 : ∀ Q : Later wk.heap.size wk, Q.1.cell? ⟨kb, ko + j * 14 + 2 + 2, none⟩ = _ := lift d2
                have v3 : ∀ Q : Later wk.heap.size wk, Q.1.cell? ⟨kb, ko + j * 14 + 2 + 3, none⟩ = _ := lift d3
                have v4 : ∀ Q : Later wk.heap.size wk, Q.1.cell? ⟨kb, ko + j * 14 + 2 + 4, none⟩ = _ := lift d4
                have v5 : ∀ Q : Later wk.heap.size wk, Q.1.cell? ⟨kb, ko + j * 14 + 2 + 5, none⟩ = _ := lift d5
                have v6 : ∀ Q : Later wk.heap.size wk, Q.1.cell? ⟨kb, ko + j * 14 + 2 + 6, none⟩ = _ := lift d6
                have v7 : ∀ Q : Later wk.heap.size wk, Q.1.cell? ⟨kb, ko + j * 14 + 2 + 7, none⟩ = _ := lift d7
                have v8 : ∀ Q : Later wk.heap.size wk, Q.1.cell? ⟨kb, ko + j * 14 + 2 + 8, none⟩ = _ := lift d8
                have v9 : ∀ Q : Later wk.heap.size wk, Q.1.cell? ⟨kb, ko + j * 14 + 2 + 9, none⟩ = _ := lift d9
                have v10 : ∀ Q : Later wk.heap.size wk, Q.1.cell? ⟨kb, ko + j * 14 + 2 + 10, none⟩ = _ := lift d10
                have v11 : ∀ Q : Later wk.heap.size wk, Q.1.cell? ⟨kb, ko + j * 14 + 2 + 11, none⟩ = _ := lift d11
                simp only [forall_and] at kt
                obtain ⟨t0, t1, t2, t3, t4, t5, t6, t7, t8, t9, t10, t11, t12⟩ := kt
                unfold pgAgg prAgg at HXA
                clear hS4 hval hplies lift d0 d1 d2 d3 d4 d5 d6 d7 d8 d9 d10 d11
                have t0' := ((hT.out wk HBK0.out).cells).1
                go_wp2_with fail
                clear t0' e1
                refine wp_region_later wk.heap.size wk (by kernel_rfl) (by kernel_rfl) (Below.refl _ _) ?_
                repeat (go_big_quiet_step ((go_at_call 23; exact later_call _ (Nat.le_refl _) (HXA.out _ (Subtype.property _)))))
                refine wpQuiet_nil ?_
                rintro _ ⟨⟨w9, hb9⟩, rfl⟩
                have HB9 := Lib.hid (HBK0.out.trans (hb9.mono hzk0))
                clear hb9 t0 t1 t2 t3 t4 t5 t6 t7 t8 t9 t10 t11 t12 v0 v1 v2 v3 v4 v5 v6 v7 v8 v9 v10 v11
                by_cases hy0 : y = 0
                · subst hy0
                  have HTB' : Hid (∀ k, k < j + 1 → g.bE (arOf g.ds) k = 0) := Lib.hid (fun k hk => by
                    rcases Nat.lt_succ_iff_lt_or_eq.1 hk with h | rfl
                    · exact HTB.out k h
                    · exact HBE.out)
                  go_wp2_with fail
                  go_roundw
                  case rel => exact ⟨j + 1, by go_num, by omega, HTB', HB9⟩
                  case measure => simp [intOf]; omega
                · have hy1 : (y != 0) = true := by simpa using hy0
                  obtain ⟨rfl, rfl⟩ := pair_eq HC.out (Pg.chk_3 HX.out HTN.out HJ.out HTB.out HBE.out hy0)
                  have HRA : Hid (rAt ce ca len = ca) := Lib.hid (by unfold rAt; rw [if_neg hy0])
                  clear hy0
                  go_wp2_with fail
                  go_ret2
                  exact ⟨by rw [HRA.out]; rfl, (HL.out _ HB9.out).1⟩
          · obtain rfl : len = j := by omega
            obtain ⟨y, hy⟩ : ∃ y, g.m.scE (arFst g.ds) [] true = y := ⟨_, rfl⟩
            have HBE : Hid (g.bE (arOf g.ds) g.ds.length = y) := Lib.hid (by rw [bE_fst HTN.out, Pg.bE_main]; exact hy)
            have HXA : Hid (∀ W, Below wi.heap.size wi W → Calls Tryz.prog 23 #[pgAgg g (.slice pa len c) (.slice gla gln glc) (.slice gaa gan gac) (.slice gta gtn gtc) (.slice gua gun guc) (.slice gka gkn gkc), prAgg g.m (.slice gla gln glc) (.slice gaa gan gac) (.slice gta gtn gtc) (.slice gua gun guc) (.slice gka gkn gkc), .slice none 0 0, .bool true] W fun e w' => e = .returned (.int .i64 y) ∧ Below W.heap.size W w') := Lib.hid (fun W hW =>
              rnodeS_any g g.m _ _ _ [] true W y (HL.out W (HBi.out.trans (hW.mono hzi))).2.1 (HL.out W (HBi.out.trans (hW.mono hzi))).2.2 (nil_strs _ _) (by have := HMD.out; simp; omega) hy)
            have HRS : Hid (ce = y ∧ rAt ce ca len = len) := Lib.hid (by
              by_cases hy0 : y = 0
              · have h := pair_eq HC.out (Pg.chk_4 HX.out HTN.out (fun k hk => by
                  rcases Nat.lt_or_eq_of_le hk with h | rfl
                  · exact HTB.out k (by rw [← HLE.out]; exact h)
                  · rw [HBE.out, hy0]))
                refine ⟨by rw [h.1, hy0], ?_⟩
                unfold rAt; rw [if_pos h.1]
              · have h := pair_eq HC.out (Pg.chk_3 HX.out HTN.out (Nat.le_refl _) (fun k hk => HTB.out k (by rw [← HLE.out]; exact hk)) HBE.out hy0)
                refine ⟨h.1, ?_⟩
                unfold rAt; rw [h.1, if_neg hy0, h.2, HLE.out])
            have kt := fun Q : Later wi.heap.size wi => (hT.out Q.1 (HBi.out.trans (Below.mono Q.2 hzi))).cells
            unfold pgAgg prAgg at HXA
            clear hy
            go_wp2_with fail
            clear t0
            simp only [forall_and] at kt
            obtain ⟨t0, t1, t2, t3, t4, t5, t6, t7, t8, t9, t10, t11, t12⟩ := kt
            refine wp_region_later wi.heap.size wi (by kernel_rfl) (by kernel_rfl) (Below.refl _ _) ?_
            repeat (go_big_quiet_step ((go_at_call 23; exact later_call _ (Nat.le_refl _) (HXA.out _ (Subtype.property _)))))
            refine wpQuiet_nil ?_
            rintro _ ⟨⟨w9, hb9⟩, rfl⟩
            have HB9 := Lib.hid (HBi.out.trans (hb9.mono hzi))
            clear hb9 t0 t1 t2 t3 t4 t5 t6 t7 t8 t9 t10 t11 t12
            go_wp2_with fail
            go_ret2
            exact ⟨by rw [HRS.out.2, HRS.out.1]; rfl, (HL.out _ HB9.out).1⟩
  · have h1 : (x != 0) = true := by simpa using h0
    obtain ⟨rfl, rfl⟩ := pair_eq HC.out (by rw [Pg.chk_1 (by rw [HX.out]; exact h0), HX.out])
    have HRA : Hid (rAt ce 0 len = 0) := Lib.hid (by unfold rAt; rw [if_neg h0])
    clear h0
    go_wp2_with fail
    go_ret2
    exact ⟨by rw [HRA.out]; rfl, (HL.out _ HB2.out).1⟩

end Go.Proofs.YtgmdmbmkljbgiaaGreatDoor
