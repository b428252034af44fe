/- Scopes: Check. (and what follows from it) -/
import Derived.Test.YtmedijheidbmhaaDoorPz7
import Derived.Test.YtmedijheidbmhaaDoorPz6
import Derived.Test.YtmedijheidbmhaaDoorPz3
import Derived.Deep.RegionLaw

/- Scopes: Check. -/
namespace Go.Proofs.YtmedijheidbmhaaDoor
open Go.RowKit Go.Deep Go.Shelf

/-- A block with the two cells of a fault. -/
def Two2 (W : World) (b : Nat) (a0 a1 : Value) : Prop := W.heap[b]? = some (.cells #[a0, a1] 47 (0, 0))
section
variable {W W' : World} {b : Nat} {a0 a1 : Value}
theorem Two2.cells (h : Two2 W b a0 a1) : (W.cell? ⟨b, 0, none⟩ = some a0 ∧ W.cell? ⟨b, 1, none⟩ = some a1) ∧ W.frozen? ⟨b, 0, none⟩ = false ∧ W.frozen? ⟨b, 1, none⟩ = false := by
  unfold Two2 at h
  refine ⟨⟨?_, ?_⟩, ?_, ?_⟩ <;> simp [World.cell?, World.frozen?, h]
theorem Two2.lt (h : Two2 W b a0 a1) : b < W.heap.size := (Array.getElem?_eq_some_iff.1 h).1
theorem Two2.to (h : Two2 W b a0 a1) (hb : Below W.heap.size W W') : Two2 W' b a0 a1 := (hb.block b h.lt).trans h
theorem Two2.set0 (h : Two2 W b a0 a1) (v : Value) : Two2 (W.setCell ⟨b, 0, none⟩ v) b v a1 := set_block h 0 v
theorem Two2.set1 (h : Two2 W b a0 a1) (v : Value) : Two2 (W.setCell ⟨b, 1, none⟩ v) b a0 v := set_block h 1 v
end
theorem end_fault {b : Nat} {w W : World} {x y : Value} (hz : b = w.heap.size + 1) (hb : Below w.heap.size w W) (ht : Two2 W b (.int .i64 0) (.int .i64 0)) :
    Two2 ((W.setCell ⟨b, 0, none⟩ x).setCell ⟨b, 1, none⟩ y) b x y ∧ Below w.heap.size w ((W.setCell ⟨b, 0, none⟩ x).setCell ⟨b, 1, none⟩ y) := by
  subst hz
  exact ⟨(ht.set0 _).set1 _, (hb.setCell (p := ⟨w.heap.size + 1, 0, none⟩) (by simp) _).setCell (p := ⟨w.heap.size + 1, 1, none⟩) (by simp) _⟩

theorem pair_eq {a : Int × Nat} {ce x : Int} {ca i : Nat} (h : a = (ce, ca)) (k : a = (x, i)) : ce = x ∧ ca = i := by rw [h] at k; exact Prod.mk.inj k
theorem nset_names {w : World} {mb : Nat} {d : Df} (h : SetIs w mb d.ms.length (d.ms.map Pm.n)) : NSet w (some mb) (d.ms.map Pm.n) := .inr ⟨mb, rfl, by rw [List.length_map]; exact h⟩

set_option maxHeartbeats 8000000 in
set_option maxRecDepth 100000 in
theorem check_any (E : Nat) (B : Nat → Prop) (g : Pg) (hg : GGood g) (v : Value) (w : World) (hB : Low B w) (he : Env E w) (hv : PgVal B w v g) (ce : Int) (ca : Nat) (hc : g.chk = (ce, ca)) :
    Calls Tryd.prog 15 #[v] w fun e w' => e = .returned (.agg #[.int .i64 ce, .int .i64 (ca : Int)]) ∧ Below w.heap.size w w' := by
  obtain ⟨dv, lv, av, tl, tk, kv, rfl, hd, hp⟩ := hv
  have hd0 := hd
  obtain ⟨⟨la, ln, lc, rfl⟩, ⟨aa, an, ac, rfl⟩, ⟨ta, tn, tc, rfl⟩, ⟨ua, un, uc, rfl⟩, ka, kn, kc, rfl⟩ := pr_slices hp
  obtain ⟨pa, len, c, rfl, hlen, hmx, hget⟩ := hd.open
  obtain ⟨W0, hW0⟩ : ∃ W0, (w.alloc (cell13 g (.slice pa len c) (.slice la ln lc) (.slice aa an ac) (.slice ta tn tc) (.slice ua un uc) (.slice ka kn kc))).alloc (.cells #[.int .i64 0, .int .i64 0] 47) = W0 := ⟨_, rfl⟩
  have hb0 : Below w.heap.size w W0 := by rw [← hW0]; exact (blkBelow w _ _).alloc (by simp) _
  have hb1 : Below (w.heap.size + 1) (w.alloc (cell13 g (.slice pa len c) (.slice la ln lc) (.slice aa an ac) (.slice ta tn tc) (.slice ua un uc) (.slice ka kn kc))) W0 := by rw [← hW0]; exact (Below.refl _ _).alloc (by simp) _
  have hpg := boxed_pgAt (S := fun k => B k ∨ k = w.heap.size) hB hd hp hb1 (fun _ h => .inl h) (.inr rfl)
  have hsz : W0.heap.size = w.heap.size + 2 := by rw [← hW0]; simp
  have hS : Low (fun k => B k ∨ k = w.heap.size) W0 := fun k h => h.elim (fun h => by have := hB k h; omega) (fun h => by omega)
  have ht0 : Two2 W0 (w.heap.size + 1) (.int .i64 0) (.int .i64 0) := by rw [← hW0]; have h := World.alloc_heap_new (w.alloc (cell13 g (.slice pa len c) (.slice la ln lc) (.slice aa an ac) (.slice ta tn tc) (.slice ua un uc) (.slice ka kn kc))) (.cells #[.int .i64 0, .int .i64 0] 47); rwa [World.size_alloc] at h
  have HW : Hid (∀ W, Below W0.heap.size W0 W → PgAt (fun k => B k ∨ k = w.heap.size) W g w.heap.size 0 ∧ Low (fun k => B k ∨ k = w.heap.size) W ∧ Two2 W (w.heap.size + 1) (.int .i64 0) (.int .i64 0) ∧ DfSl (fun k => B k ∨ k = w.heap.size) W (.slice pa len c) g.ds ∧ W.cell? ⟨w.heap.size, 0, none⟩ = some (.slice pa len c) ∧ Below w.heap.size w W) := Lib.hid (fun W hW => by
    refine ⟨hpg.keep (hW.keeps'.mono hS), hS.le hW.size, ht0.to hW, ?_, ?_, below_seq hb0 hW⟩
    · exact (hd0.keep ((below_seq hb0 hW).keeps'.mono hB)).mono (fun _ h => .inl h)
    · exact (hW.cell (p := ⟨w.heap.size, 0, none⟩) (by simp only; omega)).trans (blk_cell hb1 0 rfl))
  have HD : Hid (∀ (j : Nat) (d : Df), g.ds[j]? = some d → ∃ kb ko, pa = some ⟨kb, ko, none⟩ ∧ B kb ∧ kb < w.heap.size ∧ d.b.depth ≤ 1000 ∧ ∀ W, Below W0.heap.size W0 W → DfAt (fun k => B k ∨ k = w.heap.size) W d kb (ko + j * 14)) := Lib.hid (fun j d hj => by
    obtain ⟨kb, ko, e, hkb, hda⟩ := hget j d hj
    refine ⟨kb, ko, e, hkb, hB kb hkb, ?_, fun W hW => (DfAt.keep ((below_seq hb0 hW).keeps'.mono hB) hkb hda).mono (fun _ h => .inl h)⟩
    exact (hg.2.2 d.b (by unfold Pg.bodies; simp; exact .inl ⟨d, List.mem_of_getElem? hj, rfl⟩)).2.1)
  have hmd : g.m.depth ≤ 1000 := (hg.2.2 g.m (by unfold Pg.bodies; simp)).2.1
  obtain ⟨x, hx⟩ : ∃ x, pprogE g = x := ⟨_, rfl⟩
  have HP : Hid (Calls Tryd.prog 23 #[pgAgg g (.slice pa len c) (.slice la ln lc) (.slice aa an ac) (.slice ta tn tc) (.slice ua un uc) (.slice ka kn kc)] W0 fun e w' => e = .returned (.int .i64 x) ∧ Below W0.heap.size W0 w') := Lib.hid (by
    rw [← hx]
    exact pprogram_any E B g hg _ W0 (fun k hk => by have := hB k hk; omega) (he.to hb0) (PgVal.to hB hb0 ⟨_, _, _, _, _, _, rfl, hd0, hp⟩))
  have HW0 := Lib.hid hW0
  have HC := Lib.hid hc
  have HX := Lib.hid hx
  have hwz : w.heap.size + 2 ≤ W0.heap.size := by omega
  obtain ⟨S, hSS⟩ : ∃ S : Nat → Prop, (fun k => B k ∨ k = w.heap.size) = S := ⟨_, rfl⟩
  have hBS : ∀ k, B k → S k := fun k hk => by rw [← hSS]; exact .inl hk
  have HBS := Lib.hid hBS
  rw [hSS] at HW HD
  unfold pgAgg at HP
  clear hp hd hd0 hget hg hB he hW0 hb0 hb1 hpg hsz hS ht0 hc hx hSS hBS
  go_enter Tryd.func15, Tryd.ntmps15
  go_wp2_with fail
  refine scalls_at HW0.out ?_
  refine HP.out.mono ?_
  rintro e w2 ⟨rfl, hb2⟩
  have HB2 := Lib.hid hb2
  clear hb2
  by_cases h0 : x = 0
  · subst h0
    obtain ⟨_, hS2, ht2, hdf2, cz, _⟩ := HW.out w2 HB2.out
    have hzw : w.heap.size < w2.heap.size := by have := HB2.out.size; omega
    obtain ⟨tw, htw⟩ : ∃ x, twF g.ds = x := ⟨_, rfl⟩
    have HFT := Lib.hid (firstTwice_any S _ g.ds w2 hS2 hdf2 tw htw)
    have HTW := Lib.hid htw
    clear hS2 ht2 hdf2 htw
    cases tw with
    | some i =>
      obtain ⟨rfl, rfl⟩ := pair_eq HC.out (Pg.chk_2 HX.out HTW.out)
      simp only [Option.getD, Option.isSome] at HFT
      go_wp2_with fail
      refine HFT.out.mono ?_
      rintro e w3 ⟨rfl, hb3⟩
      have HB3 : Hid (Below W0.heap.size W0 w3) := Lib.hid (below_seq HB2.out hb3)
      obtain ⟨_, _, ht3, _, _, hbb⟩ := HW.out w3 HB3.out
      obtain ⟨⟨q0, q1⟩, f0, f1⟩ := ht3.cells
      have HT3 := Lib.hid (And.intro hbb ht3)
      clear ht3 hb3 cz hbb
      go_wp2_with fail
      obtain ⟨t9, b9⟩ := end_fault (x := .int .i64 5) (y := .int .i64 (ca : Int)) rfl HT3.out.1 HT3.out.2
      obtain ⟨⟨r0, r1⟩, _⟩ := t9.cells
      clear q0 q1 f0 f1
      refine bodyPost_ret (v := .agg #[.int .i64 5, .int .i64 (ca : Int)]) (by simp [results, Tryd.results15, go_sem, r0, r1]) rfl ⟨rfl, b9⟩
    | none =>
      simp only [Option.getD, Option.isSome] at HFT
      go_wp2_with fail
      refine HFT.out.mono ?_
      rintro e w3 ⟨rfl, hb3⟩
      have HB3 : Hid (Below W0.heap.size W0 w3) := Lib.hid (below_seq HB2.out hb3)
      obtain ⟨_, hS3, _, hdf3, cz, _⟩ := HW.out w3 HB3.out
      have hzw3 : w.heap.size < w3.heap.size := by have := HB3.out.size; omega
      have HAR := Lib.hid (aritiesOf_any S _ g.ds w3 hS3 hdf3)
      clear hS3 hdf3 hb3
      go_wp2_with fail
      refine HAR.out.mono ?_
      rintro e w4 ⟨mb, rfl, hmb, har, hb4⟩
      have HB4 : Hid (Below W0.heap.size W0 w4) := Lib.hid (below_seq HB3.out hb4)
      have HAR4 := Lib.hid har
      obtain ⟨_, _, _, _, cz, _⟩ := HW.out w4 HB4.out
      have hzw4 : w.heap.size + 2 ≤ w4.heap.size := by have := HB4.out.size; omega
      clear hb4 har hmb HAR HFT
      go_wp2_with fail
      clear cz
      go_loopw [32] (fun i wr => ∃ j : Nat, i = .int .i64 (j : Int) ∧ j ≤ len ∧ Hid (∀ k, k < j → g.bE (arOf g.ds) k = 0) ∧ Hid (Below w4.heap.size w4 wr)) (fun i _ => len - (intOf i).toNat)
      case atStart => exact ⟨0, rfl, by omega, Lib.hid (fun k hk => by omega), Lib.hid (Below.refl _ _)⟩
      case round =>
        obtain ⟨j, rfl, hj, HT, HBj⟩ := hrel
        obtain ⟨wo, hwo⟩ : ∃ wo, wo = wr := ⟨_, rfl⟩
        subst hwo
        have HBW : Hid (∀ W, Below wo.heap.size wo W → Below W0.heap.size W0 W ∧ ArIs W mb g.ds.length (arOf g.ds)) := Lib.hid (fun W hW => ⟨below_seq (below_seq HB4.out HBj.out) hW, HAR4.out.to (below_seq HBj.out hW)⟩)
        have HB := Lib.hid (Below.refl wo.heap.size wo)
        obtain ⟨hpgo, _, _, _, cz, _⟩ := HW.out wo (HBW.out wo HB.out).1
        have hzo : w.heap.size + 2 ≤ wo.heap.size := by have := HBj.out.size; omega
        have hzo1 : w.heap.size < wo.heap.size := by omega
        by_cases hlt : j < len
        · obtain ⟨d, hdj⟩ : ∃ d, g.ds[j]? = some d := ⟨_, List.getElem?_eq_getElem (by rw [← hlen.out]; exact hlt)⟩
          obtain ⟨kb, ko, rfl, hkB, hkl, hdep, hda⟩ := HD.out j d hdj
          obtain ⟨y, hy⟩ : ∃ y, d.b.scE (arOf g.ds) (d.ms.map Pm.n) false = y := ⟨_, rfl⟩
          have HBE : Hid (g.bE (arOf g.ds) j = y) := Lib.hid (by rw [Pg.bE_def hdj]; exact hy)
          have HY := Lib.hid hy
          have HDA := Lib.hid hda
          have HKB := Lib.hid hkB
          have HDP := Lib.hid hdep
          have hkw : kb < wo.heap.size := by omega
          have HJ : Hid (j ≤ g.ds.length) := Lib.hid (by rw [← hlen.out]; exact hj)
          replace HB := Lib.hid (Below.refl wo.heap.size wo).drew
          clear hdj hkB hdep hda hy hpgo
          go_wp2_with fail
          go_region_with (first
            | (go_at_call 28; refine (paramNames_any S d kb (ko + j * 14) _ (HW.out _ (HBW.out _ HB.out).1).2.1 (HBS.out _ HKB.out) (HDA.out _ (HBW.out _ HB.out).1)).mono ?_; rintro e y1 ⟨mb1, rfl, hmb1, hset1, hh1⟩; have HS1 := Lib.hid hset1; replace HB := Lib.hid (below_seq HB.out hh1); clear hset1 hh1 hmb1)
            | (go_at_call 27; refine (placeOfBody_any (some mb1) (d.ms.map Pm.n) false _ (nset_names HS1.out)).mono ?_; rintro e y2 ⟨aq, rfl, hpl, hh2⟩; have HPL := Lib.hid hpl; replace HB := Lib.hid (below_seq HB.out hh2); clear hpl hh2)
            | (go_at_call 26; refine (bodyError_any S d.b kb (ko + j * 14 + 2) (some mb1) aq false (d.ms.map Pm.n) 0 mb g.ds.length (arOf g.ds) _ (HW.out _ (HBW.out _ HB.out).1).2.1 (HDA.out _ (HBW.out _ HB.out).1).2.2.2 HPL.out (HBW.out _ HB.out).2 (by have := HDP.out; omega) y HY.out).mono ?_; rintro e y3 ⟨rfl, hh3⟩; replace HB := Lib.hid (below_seq HB.out hh3); clear hh3))
          all_goals
            by_cases hy0 : y = 0
            · subst hy0
              have HT' : Hid (∀ k, k < j + 1 → g.bE (arOf g.ds) k = 0) := Lib.hid (fun k hk => by
                rcases Nat.lt_succ_iff_lt_or_eq.1 hk with h | rfl
                · exact HT.out k h
                · exact HBE.out)
              go_wp2_with fail
              go_roundw
              case rel => exact ⟨j + 1, by go_num, by omega, HT', Lib.hid (below_seq HBj.out HB.out)⟩
              case measure => simp [intOf]; omega
            · have hy1 : (y != 0) = true := by simpa using hy0
              obtain ⟨rfl, rfl⟩ := pair_eq HC.out (Pg.chk_3 HX.out HTW.out HJ.out HT.out HBE.out hy0)
              obtain ⟨_, _, ht3, _, _, hbb⟩ := HW.out _ (HBW.out _ HB.out).1
              obtain ⟨⟨q0, q1⟩, f0, f1⟩ := ht3.cells
              have HT3 := Lib.hid (And.intro hbb ht3)
              clear hy0 ht3 hbb cz
              go_wp2_with fail
              obtain ⟨t9, b9⟩ := end_fault (x := .int .i64 ce) (y := .int .i64 (ca : Int)) rfl HT3.out.1 HT3.out.2
              obtain ⟨⟨r0, r1⟩, _⟩ := t9.cells
              clear q0 q1 f0 f1
              refine bodyPost_ret (v := .agg #[.int .i64 ce, .int .i64 (ca : Int)]) (by simp [results, Tryd.results15, go_sem, r0, r1]) rfl ⟨rfl, b9⟩
        · obtain rfl : j = len := by omega
          have HPM : Hid (∀ W, Below wo.heap.size wo W → PrAt S W g.m w.heap.size 1) := Lib.hid (fun W hW => (HW.out W (HBW.out W hW).1).1.2.2)
          obtain ⟨y, hy⟩ : ∃ y, g.m.scE (arOf g.ds) [] true = y := ⟨_, rfl⟩
          have HBE : Hid (g.bE (arOf g.ds) g.ds.length = y) := Lib.hid (by rw [Pg.bE_main]; exact hy)
          have HY := Lib.hid hy
          have HMD := Lib.hid hmd
          clear hpgo hy cz
          have hn0 : NSet wo none [] := .inl ⟨rfl, rfl⟩
          have HN0 := Lib.hid hn0
          clear hn0
          go_wp2_with fail
          refine (placeOfBody_any none [] true wo HN0.out).mono ?_
          rintro e w6 ⟨aq, rfl, hpl, hh6⟩
          have HB6 := Lib.hid hh6
          have HPL := Lib.hid hpl
          clear hpl hh6
          go_wp2_with fail
          refine (bodyError_any S g.m w.heap.size 1 none aq true [] 0 mb g.ds.length (arOf g.ds) w6 (HW.out _ (HBW.out _ HB6.out).1).2.1 (HPM.out _ HB6.out) HPL.out (HBW.out _ HB6.out).2 (by have := HMD.out; omega) y HY.out).mono ?_
          rintro e w7 ⟨rfl, hh7⟩
          have HB7 := Lib.hid (below_seq HB6.out hh7)
          clear hh7
          obtain ⟨_, _, ht3, _, cz, hbb⟩ := HW.out _ (HBW.out _ HB7.out).1
          obtain ⟨⟨q0, q1⟩, f0, f1⟩ := ht3.cells
          have HT3 := Lib.hid (And.intro hbb ht3)
          clear ht3 hbb
          have HTL : Hid (∀ k, k < g.ds.length → g.bE (arOf g.ds) k = 0) := Lib.hid (fun k hk => HT.out k (by rw [hlen.out]; exact hk))
          by_cases hy0 : y = 0
          · subst hy0
            obtain ⟨rfl, rfl⟩ := pair_eq HC.out (Pg.chk_4 HX.out HTW.out (fun k hk => by
              rcases Nat.lt_or_eq_of_le hk with h | rfl
              · exact HTL.out k h
              · exact HBE.out))
            clear cz
            go_wp2_with fail
            obtain ⟨t9, b9⟩ := end_fault (x := .int .i64 0) (y := .int .i64 0) rfl HT3.out.1 HT3.out.2
            obtain ⟨⟨r0, r1⟩, _⟩ := t9.cells
            clear q0 q1 f0 f1
            refine bodyPost_ret (v := .agg #[.int .i64 0, .int .i64 0]) (by simp [results, Tryd.results15, go_sem, r0, r1]) rfl ⟨rfl, b9⟩
          · have hy1 : (y != 0) = true := by simpa using hy0
            obtain ⟨rfl, hca⟩ := pair_eq HC.out (Pg.chk_3 HX.out HTW.out (Nat.le_refl _) HTL.out HBE.out hy0)
            obtain rfl : ca = j := by rw [hca, hlen.out]
            clear hy0 hca
            go_wp2_with fail
            obtain ⟨t9, b9⟩ := end_fault (x := .int .i64 ce) (y := .int .i64 (ca : Int)) rfl HT3.out.1 HT3.out.2
            obtain ⟨⟨r0, r1⟩, _⟩ := t9.cells
            clear q0 q1 f0 f1
            refine bodyPost_ret (v := .agg #[.int .i64 ce, .int .i64 (ca : Int)]) (by simp [results, Tryd.results15, go_sem, r0, r1]) rfl ⟨rfl, b9⟩
  · have h1 : (x != 0) = true := by simpa using h0
    obtain ⟨rfl, rfl⟩ := pair_eq HC.out (by rw [Pg.chk_1 (by rw [HX.out]; exact h0), HX.out])
    obtain ⟨_, _, ht3, _, _, hbb⟩ := HW.out _ HB2.out
    obtain ⟨⟨q0, q1⟩, f0, f1⟩ := ht3.cells
    have HT3 := Lib.hid (And.intro hbb ht3)
    clear ht3 hbb h0
    go_wp2_with fail
    obtain ⟨t9, b9⟩ := end_fault (x := .int .i64 ce) (y := .int .i64 0) rfl HT3.out.1 HT3.out.2
    obtain ⟨⟨r0, r1⟩, _⟩ := t9.cells
    clear q0 q1 f0 f1
    refine bodyPost_ret (v := .agg #[.int .i64 ce, .int .i64 0]) (by simp [results, Tryd.results15, go_sem, r0, r1]) rfl ⟨rfl, b9⟩

end Go.Proofs.YtmedijheidbmhaaDoor

/- Scopes: the functions that Calls and Binders call for each node; Find. -/
namespace Go.Proofs.YtmedijheidbmhaaDoor
open Go.RowKit Go.Deep Go.Shelf

theorem vsSt_put {z : Nat} {fid : FuncId} {W W5 : World} {out out' : List ByteArray} {v v' : Value} (h : VsSt z fid W out) (hb : ∀ k, k < z + 4 → W5.heap[k]? = W.heap[k]?) (hv : W.heap[z + 1]? = some (.cells #[v] 23 (0, 0))) (hrow : Row (z + 4) W5 v' out') :
    VsSt z fid (W5.setCell ⟨z + 1, 0, none⟩ v') out' := by
  have k1 : W5.heap[z + 1]? = some (.cells #[v] 23 (0, 0)) := (hb _ (by omega)).trans hv
  have hne : ∀ k, k ≠ z + 1 → (W5.setCell ⟨z + 1, 0, none⟩ v').heap[k]? = W5.heap[k]? := fun k hk => by
    show (W5.heap.modify (z + 1) _)[k]? = _
    rw [Array.getElem?_modify, if_neg (fun e => hk e.symm)]
  refine ⟨⟨v', set_block k1 0 _, hrow.kept (fun k hk => hne k (by have := (hrow.lt k hk).1; omega))⟩, (hne _ (by omega)).trans ((hb _ (by omega)).trans h.fbox), (hne _ (by omega)).trans ((hb _ (by omega)).trans h.wbox)⟩

set_option maxHeartbeats 4000000 in
set_option maxRecDepth 100000 in
theorem calls1_any (z : Nat) (S : Nat → Prop) (hS : ∀ k, S k → k < z + 1) : VisF z 20 S selC := by
  intro out q b o W hst hq hn
  obtain ⟨hSb, ⟨hcz, hxz⟩, ⟨c0, c1, c2⟩, _⟩ := PrAt.eq.1 hq
  have hbz := hS b hSb
  have hzs := hst.size
  have hbw : b < W.heap.size := by omega
  unfold selC
  by_cases h8 : q.k = 8
  · rw [if_pos h8]
    rw [h8] at c0
    obtain ⟨v, hv, hrow⟩ := hst.lbox
    obtain ⟨sa, sn, sc, rfl⟩ := slice_of_row hrow.1
    have HSK : Hid (∀ X, Below W.heap.size W X → X.cell? ⟨z + 1, 0, none⟩ = some (.slice sa sn sc) ∧ X.cell? ⟨b, o + 1, none⟩ = some (.string q.c)) := Lib.hid (fun X hX => ⟨(hX.cell (p := ⟨z + 1, _, none⟩) (by simp only; omega)).trans (by simp [World.cell?, hv]), (hX.cell (p := ⟨b, _, none⟩) hbw).trans c1⟩)
    have HROW := Lib.hid hrow
    have HV := Lib.hid hv
    have HST := Lib.hid hst
    have HCZ := Lib.hid hcz
    have hl0 : out.length + [q.c].length ≤ 1000000000 := by simp; omega
    have e1 := HSK.out W (Below.refl _ _)
    obtain ⟨x1, x2⟩ := e1
    have hz1 : z + 1 < W.heap.size := by omega
    clear hst hq hSb h8 hv hrow hcz hxz c1 c2
    go_enter Tryd.func20, Tryd.ntmps20
    go_wp2_with fail
    go_region_law
      (first
        | (refine step_app (by rfl) _ _ (by rfl) (z + 4) out (.slice sa sn sc) ?_ ?_ (Fresh W.heap.size (W.drew.alloc (.cells #[.string q.c] 9)).heap.size) (some ⟨W.heap.size, 0, none⟩) 1 1 [q.c] ?_ ?_ hl0 ?_ (out ++ [q.c]) rfl ?_
           · rfl
           · exact (HROW.out.drew.alloc _)
           · rfl
           · exact strSl_made (w := W.drew) [q.c] (Below.refl _ _) (fun s hs => by rw [List.mem_singleton.1 hs]; exact HCZ.out) (by simp [maxLen])
           · (simp; omega)
           intro ga gn gc W5 hrow5 hgrow5
           have hk5 : ∀ k, k < z + 4 → W5.heap[k]? = W.heap[k]? := fun k hk => (hgrow5.block k (by simp; omega) (fun e => by have := (HROW.out.lt k e.symm).1; omega)).trans (Below.heap_alloc W.drew _ k (by simp; omega))
           have h51 : W5.heap[z + 1]? = some (.cells #[.slice sa sn sc] 23 (0, 0)) := (hk5 _ (by omega)).trans HV.out
           have v2 := Boxed.cell h51
           have f2 := Boxed.frozen h51
           have HS5 : Hid (W5.cell? ⟨z + 1, 0, none⟩ = some (.slice sa sn sc) ∧ W5.cell? ⟨b, o + 1, none⟩ = some (.string q.c)) := Lib.hid ⟨v2, by
             have h := (HSK.out W (Below.refl _ _)).2
             unfold World.cell? at h ⊢
             rw [hk5 b (by omega)]; exact h⟩
           have HK5 := Lib.hid hk5
           have HR5 := Lib.hid hrow5
           have HB5 := Lib.hid ((((Below.refl (z + 1) W).drew.alloc (by simp; omega) (.cells #[.string q.c] 9))).grown hgrow5 (by simp; omega) (fun k e => by have := (HROW.out.lt k e).1; omega))
           clear hk5 h51 hrow5 hgrow5)
        | fail)
    all_goals
      go_wp2_with fail
      go_end0
      exact ⟨⟨_, rfl⟩, vsSt_put HST.out HK5.out HV.out HR5.out, HB5.out.setCell (p := ⟨z + 1, 0, none⟩) (by simp) _⟩
  · rw [if_neg h8, List.append_nil]
    have h8' : (q.k == 8) = false := by simpa using h8
    have HST := Lib.hid hst
    clear hst hq hSb h8 c1 c2
    go_enter Tryd.func20, Tryd.ntmps20
    go_wp2_with fail
    go_end0
    exact ⟨⟨_, rfl⟩, HST.out, Below.refl _ _⟩

end Go.Proofs.YtmedijheidbmhaaDoor

/- Scopes: what Binders calls for each node; Calls, Binders, Find. -/
namespace Go.Proofs.YtmedijheidbmhaaDoor
open Go.RowKit Go.Deep Go.Shelf

set_option maxHeartbeats 4000000 in
set_option maxRecDepth 100000 in
theorem binders1_any (z : Nat) (S : Nat → Prop) (hS : ∀ k, S k → k < z + 1) : VisF z 21 S Pr.bnd := by
  intro out q b o W hst hq hn
  have hzs := hst.size
  obtain ⟨v, hv, hrow⟩ := hst.lbox
  obtain ⟨sa, sn, sc, rfl⟩ := slice_of_row hrow.1
  have x1 : W.cell? ⟨z + 1, 0, none⟩ = some (.slice sa sn sc) := by simp [World.cell?, hv]
  have hz1 : z + 1 < W.heap.size := by omega
  have hlw : Low S W := fun k hk => by have := hS k hk; omega
  have HBD := Lib.hid (bound_any S q b o W.drew (fun k hk => hlw k hk) (PrAt.keep ((((Below.refl W.heap.size W).drew).keeps').mono hlw) _ _ _ hq))
  have HROW := Lib.hid hrow
  have HV := Lib.hid hv
  have HST := Lib.hid hst
  have hl0 : out.length + q.bnd.length ≤ 1000000000 := by have := bnd_len2 q; omega
  clear hst hq hv hrow hlw
  go_enter Tryd.func21, Tryd.ntmps21
  go_wp2_with fail
  go_region_law
    (first
      | (go_simp; go_at_call 22; refine HBD.out.mono ?_; rintro e w2 ⟨la, ln, lc, rfl, hsl, hb2⟩
         have y1 := (hb2.cell (p := ⟨z + 1, 0, none⟩) (by simpa using hz1)).trans x1
         have HSL := Lib.hid hsl
         have HB2 := Lib.hid hb2
         have hz2 : z + 4 ≤ w2.heap.size := by have := hb2.size; simp at this; omega
         clear hsl hb2)
      | (refine step_app (by rfl) _ _ (by rfl) (z + 4) out (.slice sa sn sc) ?_ ?_ (Fresh W.drew.heap.size w2.heap.size) la ln lc q.bnd ?_ ?_ hl0 ?_ (out ++ q.bnd) rfl ?_
         · rfl
         · exact HROW.out.drew.to HB2.out
         · rfl
         · exact HSL.out
         · exact hz2
         intro ga gn gc W5 hrow5 hgrow5
         have hk5 : ∀ k, k < z + 4 → W5.heap[k]? = W.heap[k]? := fun k hk => (hgrow5.block k (by omega) (fun e => by have := (HROW.out.lt k e.symm).1; omega)).trans (HB2.out.block k (by simp; omega))
         have h51 : W5.heap[z + 1]? = some (.cells #[.slice sa sn sc] 23 (0, 0)) := (hk5 _ (by omega)).trans HV.out
         have v2 := Boxed.cell h51
         have f2 := Boxed.frozen h51
         have HK5 := Lib.hid hk5
         have HR5 := Lib.hid hrow5
         have HB5 := Lib.hid (((Below.refl (z + 1) W).drew.trans (HB2.out.mono (by simp; omega))).grown hgrow5 (by omega) (fun k e => by have := (HROW.out.lt k e).1; omega))
         clear hk5 h51 hrow5 hgrow5)
      | fail)
  all_goals
    go_wp2_with fail
    go_end0
    exact ⟨⟨_, rfl⟩, vsSt_put HST.out HK5.out HV.out HR5.out, HB5.out.setCell (p := ⟨z + 1, 0, none⟩) (by simp) _⟩

theorem scalls_at' {P : Program} {f : FuncId} {vs : Array Value} {Q : Ending → World → Prop} {W W0 : World} (h : W = W0) (k : Calls P f vs W0 Q) : Calls P f vs W Q := by rw [h]; exact k
/-- What a gathering function gives. -/
theorem gather_ret {w : World} {o : Obj} {fid : FuncId} {W' : World} {out : List ByteArray} (h : VsSt w.heap.size fid W' out) (hb : Below (w.heap.size + 1) (VsMade w o fid) W') (hl : out.length ≤ maxLen) :
    ∃ a n c, W'.cell? ⟨w.heap.size + 1, 0, none⟩ = some (.slice a n c) ∧ StrSl (Fresh w.heap.size W'.heap.size) W' (.slice a n c) out ∧ Below w.heap.size w W' := by
  obtain ⟨v, h1, h2⟩ := h.lbox
  obtain ⟨⟨a, n, c, rfl⟩, hs⟩ := h2.strs hl
  refine ⟨a, n, c, by simp [World.cell?, h1], hs.mono (fun k hk => ⟨by have := hk.1; omega, hk.2⟩), ?_⟩
  exact (((Below.refl w.heap.size w).alloc (Nat.le_refl _) o).trans ((vsMade w o fid).2.mono (by omega))).trans (hb.mono (by omega))

set_option maxHeartbeats 4000000 in
set_option maxRecDepth 100000 in
theorem visit_any (fid : FuncId) (S : Nat → Prop) (sel : Pr → List ByteArray) (hl : ∀ p, (sel p).length ≤ 2) (egf : ∀ args w, (callFunc fid args).run Tryd.prog w = .ok (.enter fid args) w) (w : World) (o : Obj) (hS : ∀ k, S k → k < w.heap.size + 1) (hf : VisF w.heap.size fid S sel) (p : Pr) (hsz : p.size ≤ 1000000)
    (W1 : World) (h1 : (w.alloc o).alloc (.cells #[.slice none 0 0] 23) = W1) (hp : PrAt S (VsMade w o fid) p w.heap.size 0) :
    Calls Tryd.prog 19 #[.pointer (some ⟨w.heap.size, 0, none⟩), .func (.func fid) #[] #[.pointer (some ⟨w.heap.size + 1, 0, none⟩)]] W1 fun e W' => (∃ v, e = .returned v) ∧ VsSt w.heap.size fid W' (p.gath sel) ∧ Below (w.heap.size + 1) (VsMade w o fid) W' := by
  have hs1 : W1.heap.size = w.heap.size + 1 + 1 := by rw [← h1]; simp
  have hm : (W1.alloc (.cells #[.func (.func fid) #[] #[.pointer (some ⟨w.heap.size + 1, 0, none⟩)]] 59)).alloc (.cells #[.func (.func 31) #[] #[.pointer (some ⟨W1.heap.size, 0, none⟩), .pointer (some ⟨W1.heap.size + 1, 0, none⟩)]] 59) = VsMade w o fid := by
    rw [hs1, ← h1]; rfl
  have HWK := Lib.hid (walkV_any w.heap.size fid S sel hS hl egf hf p [] w.heap.size 0 _ (vsMade w o fid).1 hp (by simp; omega))
  have HM := Lib.hid hm
  have HS1 : Hid (W1.heap.size = w.heap.size + 2) := Lib.hid hs1
  have eg2 := enters_visit
  have hsf : ∀ (w : World) (a : Addr) (m : Mode) (f : Fn) (t : Array Value) (b : Array Value), (store a (.func f t b) m).run Tryd.prog w = stored Tryd.prog w a (.func f t b) m := fun w a m f t b => run_store _ w a _ m rfl
  clear hS hf hp hs1 hm h1 hsz hl
  obtain ⟨W0, hW0⟩ : ∃ W0, VsMade w o fid = W0 := ⟨_, rfl⟩
  rw [hW0] at HWK HM ⊢
  clear hW0
  go_enter Tryd.func19, Tryd.ntmps19
  go_wp2_with fail
  refine scalls_at' HM.out ?_
  rw [HS1.out]
  refine HWK.out.mono ?_
  rintro e w2 ⟨⟨vv, rfl⟩, hs2, hb2⟩
  have HS2 := Lib.hid (And.intro hs2 hb2)
  clear hs2 hb2
  go_wp2_with fail
  go_end0
  exact ⟨⟨_, rfl⟩, by simpa using HS2.out.1, HS2.out.2⟩

set_option maxHeartbeats 4000000 in
set_option maxRecDepth 100000 in
theorem calls_any (B : Nat → Prop) (p : Pr) (hsz : p.size ≤ 1000000) (v : Value) (w : World) (hB : Low B w) (hv : PrVal B w v p) :
    Calls Tryd.prog 11 #[v] w (StrRet w (p.gath selC)) := by
  have hv' := hv
  obtain ⟨lv, av, tl, tk, kv, rfl, _⟩ := hv'
  obtain ⟨⟨la, ln, lc, rfl⟩, ⟨aa, an, ac, rfl⟩, ⟨ta, tn, tc, rfl⟩, ⟨ua, un, uc, rfl⟩, ka, kn, kc, rfl⟩ := pr_slices hv
  obtain ⟨hst, hbel⟩ := vsMade w (cell12 p (.slice la ln lc) (.slice aa an ac) (.slice ta tn tc) (.slice ua un uc) (.slice ka kn kc)) 20
  have hp := boxed_prAt (S := fun k => B k ∨ k = w.heap.size) hB hv hbel (fun k h => .inl h) (.inr rfl)
  have hS : ∀ k, (B k ∨ k = w.heap.size) → k < w.heap.size + 1 := fun k h => h.elim (fun h => by have := hB k h; omega) (fun h => by omega)
  have HVI := Lib.hid (visit_any 20 _ selC selC_len enters_calls1 w _ hS (calls1_any w.heap.size _ hS) p hsz _ rfl hp)
  have hlen := Pr.gath_len selC_len p
  have hl : (p.gath selC).length ≤ maxLen := by unfold maxLen; omega
  have HL := Lib.hid hl
  clear hst hbel hp hv hB hS hsz hlen hl
  go_enter Tryd.func11, Tryd.ntmps11
  go_wp2_with fail
  refine HVI.out.mono ?_
  rintro e w2 ⟨⟨vv, rfl⟩, hs2, hb2⟩
  obtain ⟨a, n, c, c1, hsl, hbb⟩ := gather_ret hs2 hb2 HL.out
  have HSL := Lib.hid (And.intro hsl hbb)
  clear hs2 hb2 hsl hbb
  go_wp2_with fail
  go_ret
  exact ⟨_, _, _, rfl, HSL.out.1, HSL.out.2⟩

set_option maxHeartbeats 4000000 in
set_option maxRecDepth 100000 in
theorem sbinders_any (B : Nat → Prop) (p : Pr) (hsz : p.size ≤ 1000000) (v : Value) (w : World) (hB : Low B w) (hv : PrVal B w v p) :
    Calls Tryd.prog 13 #[v] w (StrRet w (p.gath Pr.bnd)) := by
  have hv' := hv
  obtain ⟨lv, av, tl, tk, kv, rfl, _⟩ := hv'
  obtain ⟨⟨la, ln, lc, rfl⟩, ⟨aa, an, ac, rfl⟩, ⟨ta, tn, tc, rfl⟩, ⟨ua, un, uc, rfl⟩, ka, kn, kc, rfl⟩ := pr_slices hv
  obtain ⟨hst, hbel⟩ := vsMade w (cell12 p (.slice la ln lc) (.slice aa an ac) (.slice ta tn tc) (.slice ua un uc) (.slice ka kn kc)) 21
  have hp := boxed_prAt (S := fun k => B k ∨ k = w.heap.size) hB hv hbel (fun k h => .inl h) (.inr rfl)
  have hS : ∀ k, (B k ∨ k = w.heap.size) → k < w.heap.size + 1 := fun k h => h.elim (fun h => by have := hB k h; omega) (fun h => by omega)
  have HVI := Lib.hid (visit_any 21 _ Pr.bnd bnd_len2 enters_binders1 w _ hS (binders1_any w.heap.size _ hS) p hsz _ rfl hp)
  have hlen := Pr.gath_len bnd_len2 p
  have hl : (p.gath Pr.bnd).length ≤ maxLen := by unfold maxLen; omega
  have HL := Lib.hid hl
  clear hst hbel hp hv hB hS hsz hlen hl
  go_enter Tryd.func13, Tryd.ntmps13
  go_wp2_with fail
  refine HVI.out.mono ?_
  rintro e w2 ⟨⟨vv, rfl⟩, hs2, hb2⟩
  obtain ⟨a, n, c, c1, hsl, hbb⟩ := gather_ret hs2 hb2 HL.out
  have HSL := Lib.hid (And.intro hsl hbb)
  clear hs2 hb2 hsl hbb
  go_wp2_with fail
  go_ret
  exact ⟨_, _, _, rfl, HSL.out.1, HSL.out.2⟩


end Go.Proofs.YtmedijheidbmhaaDoor

/- Scopes: Find, by the program and by the reference. -/
namespace Go.Proofs.YtmedijheidbmhaaDoor
open Go.RowKit Go.Deep Go.Shelf

def nameAt (ds : List Df) (s : ByteArray) (i : Nat) : Bool := match ds[i]? with
  | some d => decide (d.n = s)
  | none => false
/-- The first definition with a name. -/
def fdI (ds : List Df) (s : ByteArray) : Option Nat := (List.range ds.length).find? (nameAt ds s)
theorem nameAt_some {ds : List Df} {s : ByteArray} {i : Nat} {d : Df} (h : ds[i]? = some d) : nameAt ds s i = decide (d.n = s) := by unfold nameAt; rw [h]
def fdZ (r : Option Nat) : Int := match r with
  | some i => (i : Int)
  | none => -1

set_option maxHeartbeats 2000000 in
set_option maxRecDepth 100000 in
theorem find_any (B : Nat → Prop) (g : Pg) (s : ByteArray) (v : Value) (w : World) (hB : Low B w) (hv : PgVal B w v g) (r : Option Nat) (hr : fdI g.ds s = r) :
    Calls Tryd.prog 8 #[v, .string s] w fun e w' => e = .returned (.tuple #[.int .i64 ((r.getD 0 : Nat) : Int), .bool r.isSome]) ∧ Below w.heap.size w w' := by
  obtain ⟨dv, lv, av, tl, tk, kv, rfl, hd, hp⟩ := hv
  obtain ⟨⟨la, ln, lc, rfl⟩, ⟨aa, an, ac, rfl⟩, ⟨ta, tn, tc, rfl⟩, ⟨ua, un, uc, rfl⟩, ka, kn, kc, rfl⟩ := pr_slices hp
  obtain ⟨pa, len, c, rfl, hlen, hmx, hget⟩ := hd.open
  have CZ : Hid (∀ W, Below (w.heap.size + 1) (w.alloc (cell13 g (.slice pa len c) (.slice la ln lc) (.slice aa an ac) (.slice ta tn tc) (.slice ua un uc) (.slice ka kn kc))) W → W.cell? ⟨w.heap.size, 0, none⟩ = some (.slice pa len c) ∧ Below w.heap.size w W) := Lib.hid (fun W hW => ⟨blk_cell hW 0 rfl, blk_below hW⟩)
  have HG : Hid (∀ (j : Nat) (d : Df), g.ds[j]? = some d → ∃ kb ko, pa = some ⟨kb, ko, none⟩ ∧ ∀ W, Below w.heap.size w W → W.cell? ⟨kb, ko + j * 14, none⟩ = some (.string d.n)) := Lib.hid (fun j d hj => by
    obtain ⟨kb, ko, e, hkb, ha⟩ := hget j d hj
    exact ⟨kb, ko, e, fun W hW => (hW.cell (p := ⟨kb, _, none⟩) (hB kb hkb)).trans ha.2.1⟩)
  have HR := Lib.hid hr
  have HB0 := Lib.hid (Below.refl (w.heap.size + 1) (w.alloc (cell13 g (.slice pa len c) (.slice la ln lc) (.slice aa an ac) (.slice ta tn tc) (.slice ua un uc) (.slice ka kn kc))))
  clear hd hp hget hB hr
  go_enter Tryd.func8, Tryd.ntmps8
  go_wp2_with fail
  go_loopw [10] (fun i wr => ∃ j : Nat, i = .int .i64 (j : Int) ∧ j ≤ len ∧ Hid (∀ k, k < j → nameAt g.ds s k = false) ∧ Hid (Below (w.heap.size + 1) (w.alloc (cell13 g (.slice pa len c) (.slice la ln lc) (.slice aa an ac) (.slice ta tn tc) (.slice ua un uc) (.slice ka kn kc))) wr)) (fun i _ => len - (intOf i).toNat)
  case atStart => exact ⟨0, rfl, by omega, Lib.hid (fun k hk => by omega), HB0⟩
  case round =>
    obtain ⟨j, rfl, hj, HT, HBj⟩ := hrel
    obtain ⟨cz, _⟩ := CZ.out wr HBj.out
    by_cases hlt : j < len
    · obtain ⟨d, hd⟩ : ∃ d, g.ds[j]? = some d := ⟨_, List.getElem?_eq_getElem (by rw [← hlen.out]; exact hlt)⟩
      obtain ⟨kb, ko, rfl, hc⟩ := HG.out j d hd
      have c0 := hc wr (CZ.out wr HBj.out).2
      have HNA : Hid (nameAt g.ds s j = decide (d.n = s)) := Lib.hid (nameAt_some hd)
      have HJ : Hid (j < g.ds.length) := Lib.hid (List.getElem?_eq_some_iff.1 hd).1
      clear hd hc
      by_cases he : d.n = s
      · have HRR : Hid (r = some j) := Lib.hid (by rw [← HR.out]; exact range_find HJ.out HT.out (by rw [HNA.out]; simpa using he))
        rw [he] at c0
        clear he
        go_wp2_with fail
        go_ret2
        exact ⟨by rw [HRR.out]; rfl, (CZ.out wr HBj.out).2⟩
      · have h1 := str_ne he
        have h2 : (d.n.toList == s.toList) = false := by simpa using h1
        have HT' : Hid (∀ k, k < j + 1 → nameAt g.ds s k = false) := Lib.hid (fun k hk => by
          rcases Nat.lt_succ_iff_lt_or_eq.1 hk with h | rfl
          · exact HT.out k h
          · rw [HNA.out]; simpa using he)
        clear he
        go_wp2_with fail
        go_roundw
        case rel => exact ⟨j + 1, by go_num, by omega, HT', HBj⟩
        case measure => simp [intOf]; omega
    · obtain rfl : j = len := by omega
      have HRR : Hid (r = none) := Lib.hid (by rw [← HR.out]; exact range_find_none (fun i hi => HT.out i (by rw [hlen.out]; exact hi)))
      clear cz
      go_wp2_with fail
      go_ret2
      exact ⟨by rw [HRR.out]; rfl, (CZ.out wr HBj.out).2⟩

set_option maxHeartbeats 2000000 in
set_option maxRecDepth 100000 in
theorem rfind_any (B : Nat → Prop) (g : Pg) (s : ByteArray) (v : Value) (w : World) (hB : Low B w) (hv : PgVal B w v g) (x : Int) (hr : fdZ (fdI g.ds s) = x) :
    Calls Tryd.prog 9 #[v, .string s] w fun e w' => e = .returned (.int .i64 x) ∧ Below w.heap.size w w' := by
  obtain ⟨dv, lv, av, tl, tk, kv, rfl, hd, hp⟩ := hv
  obtain ⟨⟨la, ln, lc, rfl⟩, ⟨aa, an, ac, rfl⟩, ⟨ta, tn, tc, rfl⟩, ⟨ua, un, uc, rfl⟩, ka, kn, kc, rfl⟩ := pr_slices hp
  obtain ⟨pa, len, c, rfl, hlen, hmx, hget⟩ := hd.open
  have CZ : Hid (∀ W, Below (w.heap.size + 1) (w.alloc (cell13 g (.slice pa len c) (.slice la ln lc) (.slice aa an ac) (.slice ta tn tc) (.slice ua un uc) (.slice ka kn kc))) W → W.cell? ⟨w.heap.size, 0, none⟩ = some (.slice pa len c) ∧ Below w.heap.size w W) := Lib.hid (fun W hW => ⟨blk_cell hW 0 rfl, blk_below hW⟩)
  have HG : Hid (∀ (j : Nat) (d : Df), g.ds[j]? = some d → ∃ kb ko, pa = some ⟨kb, ko, none⟩ ∧ ∀ W, Below w.heap.size w W → W.cell? ⟨kb, ko + j * 14, none⟩ = some (.string d.n)) := Lib.hid (fun j d hj => by
    obtain ⟨kb, ko, e, hkb, ha⟩ := hget j d hj
    exact ⟨kb, ko, e, fun W hW => (hW.cell (p := ⟨kb, _, none⟩) (hB kb hkb)).trans ha.2.1⟩)
  have HR := Lib.hid hr
  have HB0 := Lib.hid (Below.refl (w.heap.size + 1) (w.alloc (cell13 g (.slice pa len c) (.slice la ln lc) (.slice aa an ac) (.slice ta tn tc) (.slice ua un uc) (.slice ka kn kc))))
  clear hd hp hget hB hr
  go_enter Tryd.func9, Tryd.ntmps9
  go_wp2_with fail
  go_loopw [5] (fun i wr => ∃ j : Nat, i = .int .i64 (j : Int) ∧ j ≤ len ∧ Hid (∀ k, k < j → nameAt g.ds s k = false) ∧ Hid (Below (w.heap.size + 1) (w.alloc (cell13 g (.slice pa len c) (.slice la ln lc) (.slice aa an ac) (.slice ta tn tc) (.slice ua un uc) (.slice ka kn kc))) wr)) (fun i _ => len - (intOf i).toNat)
  case atStart => exact ⟨0, rfl, by omega, Lib.hid (fun k hk => by omega), HB0⟩
  case round =>
    obtain ⟨j, rfl, hj, HT, HBj⟩ := hrel
    obtain ⟨cz, _⟩ := CZ.out wr HBj.out
    by_cases hlt : j < len
    · obtain ⟨d, hd⟩ : ∃ d, g.ds[j]? = some d := ⟨_, List.getElem?_eq_getElem (by rw [← hlen.out]; exact hlt)⟩
      obtain ⟨kb, ko, rfl, hc⟩ := HG.out j d hd
      have c0 := hc wr (CZ.out wr HBj.out).2
      have HNA : Hid (nameAt g.ds s j = decide (d.n = s)) := Lib.hid (nameAt_some hd)
      have HJ : Hid (j < g.ds.length) := Lib.hid (List.getElem?_eq_some_iff.1 hd).1
      clear hd hc
      by_cases he : d.n = s
      · have HRR : Hid (x = (j : Int)) := Lib.hid (by rw [← HR.out, show fdI g.ds s = some j from range_find HJ.out HT.out (by rw [HNA.out]; simpa using he)]; rfl)
        rw [he] at c0
        clear he
        go_wp2_with fail
        go_ret
        exact ⟨by rw [HRR.out]; rfl, (CZ.out wr HBj.out).2⟩
      · have h1 := str_ne he
        have h2 : (d.n.toList == s.toList) = false := by simpa using h1
        have HT' : Hid (∀ k, k < j + 1 → nameAt g.ds s k = false) := Lib.hid (fun k hk => by
          rcases Nat.lt_succ_iff_lt_or_eq.1 hk with h | rfl
          · exact HT.out k h
          · rw [HNA.out]; simpa using he)
        clear he
        go_wp2_with fail
        go_roundw
        case rel => exact ⟨j + 1, by go_num, by omega, HT', HBj⟩
        case measure => simp [intOf]; omega
    · obtain rfl : j = len := by omega
      have HRR : Hid (x = -1) := Lib.hid (by rw [← HR.out, show fdI g.ds s = none from range_find_none (fun i hi => HT.out i (by rw [hlen.out]; exact hi))]; rfl)
      go_wp2_with fail
      go_ret
      exact ⟨by rw [HRR.out]; rfl, (CZ.out wr HBj.out).2⟩

end Go.Proofs.YtmedijheidbmhaaDoor

/- Scopes: the fixed examples of the law. -/
namespace Go.Proofs.YtmedijheidbmhaaDoor
open Go.RowKit Go.Deep Go.Shelf

abbrev bX88 : ByteArray := ⟨#[88]⟩
abbrev bx120 : ByteArray := ⟨#[120]⟩
def sCall : Pr := .mk 8 bX88 e0 [] [⟨1, bA, 0⟩] (leafT 0) []
def sCall0 : Pr := .mk 8 bX88 e0 [] [] (leafT 0) []
def sStop : Pr := .mk 1 e0 e0 [] [] (leafT 0) []
def sRecv : Pr := .mk 3 bA bx120 [] [] (leafT 0) [sCall]
def sPar : Pm := ⟨bA, leafT 3⟩
def sDef : Df := ⟨bX88, [sPar], sCall⟩
def sDefR : Df := ⟨bX88, [sPar], sRecv⟩
def sP : Pg := ⟨[sDef], sStop⟩
def sQ : Pg := ⟨[], sCall0⟩
def sR : Pg := ⟨[sDefR], sStop⟩
abbrev dfC (d : Df) (mv lv av tl tk kv : Value) : Obj := .cells #[.string d.n, mv, .int .i64 d.b.k, .string d.b.c, .string d.b.x, lv, av, .int .i64 d.b.t.k, .int .i64 d.b.t.p, .string d.b.t.n, .int .i64 d.b.t.s, tl, tk, kv] 44

/-! ### What they are -/
theorem ok_sCall : sCall.okN = true := by
  have h : sCall.r4 = true := r4_leaf _ _ _ _ _ _ (by decide)
  unfold Pr.okN Pr.shp; rw [h]; decide +kernel
theorem ok_sCall0 : sCall0.okN = true := by
  have h : sCall0.r4 = true := r4_leaf _ _ _ _ _ _ (by decide)
  unfold Pr.okN Pr.shp; rw [h]; decide +kernel
theorem ok_sStop : sStop.okN = true := by
  have h : sStop.r4 = true := r4_leaf _ _ _ _ _ _ (by decide)
  unfold Pr.okN Pr.shp; rw [h]; decide +kernel
theorem ok_sRecv : sRecv.okN = true := by
  have h : sRecv.r4 = true := r4_leaf _ _ _ _ _ _ (by decide)
  unfold Pr.okN Pr.shp; rw [h]; decide +kernel
theorem right_sCall : prightE sCall = 0 := by
  have h : preP 1 sCall = [(1, sCall)] := by rfl
  have hl : sCall.large = false := by decide +kernel
  unfold prightE; rw [h, hl]; simp [allN, ok_sCall]
theorem right_sCall0 : prightE sCall0 = 0 := by
  have h : preP 1 sCall0 = [(1, sCall0)] := by rfl
  have hl : sCall0.large = false := by decide +kernel
  unfold prightE; rw [h, hl]; simp [allN, ok_sCall0]
theorem right_sStop : prightE sStop = 0 := by
  have h : preP 1 sStop = [(1, sStop)] := by rfl
  have hl : sStop.large = false := by decide +kernel
  unfold prightE; rw [h, hl]; simp [allN, ok_sStop]
theorem right_sRecv : prightE sRecv = 0 := by
  have h : preP 1 sRecv = [(1, sRecv), (2, sCall)] := by rfl
  have hl : sRecv.large = false := by decide +kernel
  unfold prightE; rw [h, hl]; simp [allN, ok_sRecv, ok_sCall]
theorem head_sDef : hdB sDef = true := by decide +kernel
theorem head_sDefR : hdB sDefR = true := by decide +kernel
theorem prog_sP : pprogE sP = 0 := by
  have hm : sP.many = false := by decide +kernel
  have hb : sP.bodies = [sCall, sStop] := by rfl
  unfold pprogE; rw [hm, hb]; simp [firstR, right_sCall, right_sStop, sP, head_sDef]
theorem prog_sQ : pprogE sQ = 0 := by
  have hm : sQ.many = false := by decide +kernel
  have hb : sQ.bodies = [sCall0] := by rfl
  unfold pprogE; rw [hm, hb]; simp [firstR, right_sCall0, sQ]
theorem prog_sR : pprogE sR = 0 := by
  have hm : sR.many = false := by decide +kernel
  have hb : sR.bodies = [sRecv, sStop] := by rfl
  unfold pprogE; rw [hm, hb]; simp [firstR, right_sRecv, right_sStop, sR, head_sDefR]
theorem chk_sP : sP.chk = (7, 0) := Pg.chk_3 prog_sP (by decide +kernel) (by decide) (fun j hj => by omega) (by decide +kernel) (by decide)
theorem chk_sQ : sQ.chk = (4, 0) := Pg.chk_3 prog_sQ (by decide +kernel) (by decide) (fun j hj => by omega) (by decide +kernel) (by decide)
theorem chk_sR : sR.chk = (0, 0) := Pg.chk_4 prog_sR (by decide +kernel) (fun j hj => by
  have : j = 0 ∨ j = 1 := by simp [sR] at hj; omega
  rcases this with rfl | rfl <;> decide +kernel)
theorem find_sR : fdI sR.ds bX88 = some 0 := by decide +kernel
theorem calls_sR : sRecv.gath selC = [bX88] := by decide +kernel
theorem binders_sR : sRecv.gath Pr.bnd = [bx120] := by decide +kernel
theorem fine_leaf (k : Int) (h : In64 k) : (leafT k).fine := by simp [leafT, Ty.fine, Ty.fines]; first | exact ⟨h, by simp [In64]⟩ | exact h | simp_all [In64]
theorem good_sCall : PGood sCall := ⟨by simp [sCall, leafT, Pr.fine, Pr.fines, Ty.fine, Ty.fines, In64], by simp [sCall, Pr.tf, Pr.tfs, leaf_few]⟩
theorem good_sCall0 : PGood sCall0 := ⟨by simp [sCall0, leafT, Pr.fine, Pr.fines, Ty.fine, Ty.fines, In64], by simp [sCall0, Pr.tf, Pr.tfs, leaf_few]⟩
theorem good_sStop : PGood sStop := ⟨by simp [sStop, leafT, Pr.fine, Pr.fines, Ty.fine, Ty.fines, In64], by simp [sStop, Pr.tf, Pr.tfs, leaf_few]⟩
theorem good_sRecv : PGood sRecv := ⟨by simp [sRecv, sCall, leafT, Pr.fine, Pr.fines, Ty.fine, Ty.fines, In64], by simp [sRecv, sCall, Pr.tf, Pr.tfs, leaf_few]⟩
theorem good_sPar : ∀ a ∈ [sPar], a.t.fine ∧ a.t.few 300 = true := fun a ha => by
  rw [List.mem_singleton.1 ha]
  exact ⟨by simp [sPar, leafT, Ty.fine, Ty.fines, In64], leaf_few _⟩
theorem ggood_sP : GGood sP := by
  refine ⟨by simp [sP], fun d hd => ?_, fun p hp => ?_⟩
  · have : d = sDef := by simpa [sP] using hd
    subst this; exact good_sPar
  · have : p = sCall ∨ p = sStop := by simpa [sP, sDef, Pg.bodies] using hp
    rcases this with rfl | rfl
    · exact ⟨good_sCall, by decide, by decide⟩
    · exact ⟨good_sStop, by decide, by decide⟩
theorem ggood_sQ : GGood sQ := by
  refine ⟨by simp [sQ], by simp [sQ], fun p hp => ?_⟩
  have : p = sCall0 := by simpa [sQ, Pg.bodies] using hp
  subst this; exact ⟨good_sCall0, by decide, by decide⟩
theorem ggood_sR : GGood sR := by
  refine ⟨by simp [sR], fun d hd => ?_, fun p hp => ?_⟩
  · have : d = sDefR := by simpa [sR] using hd
    subst this; exact good_sPar
  · have : p = sRecv ∨ p = sStop := by simpa [sR, sDefR, Pg.bodies] using hp
    rcases this with rfl | rfl
    · exact ⟨good_sRecv, by decide, by decide⟩
    · exact ⟨good_sStop, by decide, by decide⟩

/-! ### In memory -/
theorem pms_one {B : Nat → Prop} {W : World} {b : Nat} {a : Pm} {tl tk : Value} (hb : B b) (hh : W.heap[b]? = some (.cells #[.string a.n, .int .i64 a.t.k, .int .i64 a.t.p, .string a.t.n, .int .i64 a.t.s, tl, tk] 53)) (hn : a.n.size ≤ maxLen) (ht : TyVal B W (.agg #[.int .i64 a.t.k, .int .i64 a.t.p, .string a.t.n, .int .i64 a.t.s, tl, tk]) a.t) : PmSl B W (.slice (some ⟨b, 0, none⟩) 1 1) [a] := by
  refine ⟨.inr ⟨b, 0, 1, rfl, hb, fun j x hj => ?_⟩, by simp [maxLen]⟩
  cases j with
  | zero =>
    simp only [List.getElem?_cons_zero, Option.some.injEq] at hj
    subst hj
    exact ⟨hn, cell_of hh 0, tyAt_of hb (cell_of hh 1) (cell_of hh 2) (cell_of hh 3) (cell_of hh 4) (cell_of hh 5) (cell_of hh 6) ht⟩
  | succ j => simp at hj
theorem dfs_one {B : Nat → Prop} {W : World} {b : Nat} {d : Df} {mv lv av tl tk kv : Value} (hb : B b) (hh : W.heap[b]? = some (dfC d mv lv av tl tk kv)) (hn : d.n.size ≤ maxLen) (hm : PmSl B W mv d.ms) (hv : PrVal B W (prAgg d.b lv av tl tk kv) d.b) : DfSl B W (.slice (some ⟨b, 0, none⟩) 1 1) [d] := by
  refine ⟨.inr ⟨b, 0, 1, rfl, hb, fun j x hj => ?_⟩, by simp [maxLen]⟩
  cases j with
  | zero =>
    simp only [List.getElem?_cons_zero, Option.some.injEq] at hj
    subst hj
    exact ⟨hn, cell_of hh 0, ⟨mv, cell_of hh 1, hm⟩, prAt_of hb (cell_of hh 2) (cell_of hh 3) (cell_of hh 4) (cell_of hh 5) (cell_of hh 6) (cell_of hh 7) (cell_of hh 8) (cell_of hh 9) (cell_of hh 10) (cell_of hh 11) (cell_of hh 12) (cell_of hh 13) hv⟩
  | succ j => simp at hj
def T13 (w : World) (b : Nat) (o : Obj) : Prop := w.heap[b]? = some o
theorem T13.lt {w : World} {b : Nat} {o : Obj} (h : T13 w b o) : b < w.heap.size := (Array.getElem?_eq_some_iff.1 h).1
theorem T13.to {w w' : World} {b : Nat} {o : Obj} (h : T13 w b o) (hb : Below w.heap.size w w') : T13 w' b o := (hb.block b h.lt).trans h
theorem T13.cells {w : World} {b : Nat} {a0 a1 a2 a3 a4 a5 a6 a7 a8 a9 a10 a11 a12 : Value} {t : TypeId} (h : T13 w b (.cells #[a0, a1, a2, a3, a4, a5, a6, a7, a8, a9, a10, a11, a12] t)) :
    w.cell? ⟨b, 0, none⟩ = some a0 ∧ w.cell? ⟨b, 1, none⟩ = some a1 ∧ w.cell? ⟨b, 2, none⟩ = some a2 ∧ w.cell? ⟨b, 3, none⟩ = some a3 ∧ w.cell? ⟨b, 4, none⟩ = some a4 ∧ w.cell? ⟨b, 5, none⟩ = some a5 ∧ w.cell? ⟨b, 6, none⟩ = some a6 ∧ w.cell? ⟨b, 7, none⟩ = some a7 ∧ w.cell? ⟨b, 8, none⟩ = some a8 ∧ w.cell? ⟨b, 9, none⟩ = some a9 ∧ w.cell? ⟨b, 10, none⟩ = some a10 ∧ w.cell? ⟨b, 11, none⟩ = some a11 ∧ w.cell? ⟨b, 12, none⟩ = some a12 := by
  unfold T13 at h
  refine ⟨?_, ?_, ?_, ?_, ?_, ?_, ?_, ?_, ?_, ?_, ?_, ?_, ?_⟩ <;> simp [World.cell?, h]
theorem T13.cells14 {w : World} {b : Nat} {a0 a1 a2 a3 a4 a5 a6 a7 a8 a9 a10 a11 a12 a13 : Value} {t : TypeId} (h : T13 w b (.cells #[a0, a1, a2, a3, a4, a5, a6, a7, a8, a9, a10, a11, a12, a13] t)) :
    w.cell? ⟨b, 2, none⟩ = some a2 ∧ w.cell? ⟨b, 3, none⟩ = some a3 ∧ w.cell? ⟨b, 4, none⟩ = some a4 ∧ w.cell? ⟨b, 5, none⟩ = some a5 ∧ w.cell? ⟨b, 6, none⟩ = some a6 ∧ w.cell? ⟨b, 7, none⟩ = some a7 ∧ w.cell? ⟨b, 8, none⟩ = some a8 ∧ w.cell? ⟨b, 9, none⟩ = some a9 ∧ w.cell? ⟨b, 10, none⟩ = some a10 ∧ w.cell? ⟨b, 11, none⟩ = some a11 ∧ w.cell? ⟨b, 12, none⟩ = some a12 ∧ w.cell? ⟨b, 13, none⟩ = some a13 := by
  unfold T13 at h
  refine ⟨?_, ?_, ?_, ?_, ?_, ?_, ?_, ?_, ?_, ?_, ?_, ?_⟩ <;> simp [World.cell?, h]
/-- The eleven blocks of the examples. -/
theorem made_sc (w : World) (W : World) (hW : (((((((((((w.alloc (.cells #[.int .i64 1, .string bA, .int .i64 0] 51)).alloc (cell12 sCall sl0 (sl1 (w.heap.size)) sl0 sl0 sl0)).alloc (cell12 sStop sl0 sl0 sl0 sl0 sl0)).alloc (.cells #[.string bA, .int .i64 3, .int .i64 0, .string e0, .int .i64 0, sl0, sl0] 53)).alloc (dfC sDef (sl1 (w.heap.size + 1 + 1 + 1)) sl0 (sl1 (w.heap.size)) sl0 sl0 sl0)).alloc (dfC sDef (sl1 (w.heap.size + 1 + 1 + 1)) sl0 (sl1 (w.heap.size)) sl0 sl0 sl0)).alloc (cell13 sP (sl1 (w.heap.size + 1 + 1 + 1 + 1 + 1)) sl0 sl0 sl0 sl0 sl0)).alloc (cell13 sQ sl0 sl0 sl0 sl0 sl0 sl0)).alloc (cell12 sCall sl0 (sl1 (w.heap.size)) sl0 sl0 sl0)).alloc (dfC sDefR (sl1 (w.heap.size + 1 + 1 + 1)) sl0 sl0 sl0 sl0 (sl1 (w.heap.size + 1 + 1 + 1 + 1 + 1 + 1 + 1 + 1)))).alloc (cell13 sR (sl1 (w.heap.size + 1 + 1 + 1 + 1 + 1 + 1 + 1 + 1 + 1)) sl0 sl0 sl0 sl0 sl0)) = W) :
    T13 W (w.heap.size + 1 + 1 + 1 + 1 + 1 + 1) (cell13 sP (sl1 (w.heap.size + 1 + 1 + 1 + 1 + 1)) sl0 sl0 sl0 sl0 sl0) ∧ T13 W (w.heap.size + 1 + 1 + 1 + 1 + 1 + 1 + 1) (cell13 sQ sl0 sl0 sl0 sl0 sl0 sl0) ∧ T13 W (w.heap.size + 1 + 1 + 1 + 1 + 1 + 1 + 1 + 1 + 1 + 1) (cell13 sR (sl1 (w.heap.size + 1 + 1 + 1 + 1 + 1 + 1 + 1 + 1 + 1)) sl0 sl0 sl0 sl0 sl0) ∧ T13 W (w.heap.size + 1 + 1 + 1 + 1 + 1 + 1 + 1 + 1 + 1) (dfC sDefR (sl1 (w.heap.size + 1 + 1 + 1)) sl0 sl0 sl0 sl0 (sl1 (w.heap.size + 1 + 1 + 1 + 1 + 1 + 1 + 1 + 1))) ∧
    GLies W (pgAgg sP (sl1 (w.heap.size + 1 + 1 + 1 + 1 + 1)) sl0 sl0 sl0 sl0 sl0) sP ∧ GLies W (pgAgg sQ sl0 sl0 sl0 sl0 sl0 sl0) sQ ∧ GLies W (pgAgg sR (sl1 (w.heap.size + 1 + 1 + 1 + 1 + 1 + 1 + 1 + 1 + 1)) sl0 sl0 sl0 sl0 sl0) sR ∧ PLies W (prAgg sRecv sl0 sl0 sl0 sl0 (sl1 (w.heap.size + 1 + 1 + 1 + 1 + 1 + 1 + 1 + 1))) sRecv ∧ Below w.heap.size w W := by
  have hs : W.heap.size = w.heap.size + 11 := by rw [← hW]; simp
  have k0 : W.heap[w.heap.size]? = some (.cells #[.int .i64 1, .string bA, .int .i64 0] 51) := by
    have hb1 : Below (w.heap.size + 1) (w.alloc (.cells #[.int .i64 1, .string bA, .int .i64 0] 51)) W := by
      rw [← hW]
      exact ((((((((((Below.refl _ _).alloc (by simp) _).alloc (by simp) _).alloc (by simp) _).alloc (by simp) _).alloc (by simp) _).alloc (by simp) _).alloc (by simp) _).alloc (by simp) _).alloc (by simp) _).alloc (by simp) _
    exact (hb1.block _ (by omega)).trans (World.alloc_heap_new _ _)
  have k3 : W.heap[w.heap.size + 1 + 1 + 1]? = some (.cells #[.string bA, .int .i64 3, .int .i64 0, .string e0, .int .i64 0, sl0, sl0] 53) := by rw [← hW]; simp only [heap_push, Array.getElem?_push, Array.size_push]; simp
  have k5 : W.heap[w.heap.size + 1 + 1 + 1 + 1 + 1]? = some (dfC sDef (sl1 (w.heap.size + 1 + 1 + 1)) sl0 (sl1 (w.heap.size)) sl0 sl0 sl0) := by rw [← hW]; simp only [heap_push, Array.getElem?_push, Array.size_push]; simp
  have k6 : W.heap[w.heap.size + 1 + 1 + 1 + 1 + 1 + 1]? = some (cell13 sP (sl1 (w.heap.size + 1 + 1 + 1 + 1 + 1)) sl0 sl0 sl0 sl0 sl0) := by rw [← hW]; simp only [heap_push, Array.getElem?_push, Array.size_push]; simp
  have k7 : W.heap[w.heap.size + 1 + 1 + 1 + 1 + 1 + 1 + 1]? = some (cell13 sQ sl0 sl0 sl0 sl0 sl0 sl0) := by rw [← hW]; simp only [heap_push, Array.getElem?_push, Array.size_push]; simp
  have k8 : W.heap[w.heap.size + 1 + 1 + 1 + 1 + 1 + 1 + 1 + 1]? = some (cell12 sCall sl0 (sl1 (w.heap.size)) sl0 sl0 sl0) := by rw [← hW]; simp only [heap_push, Array.getElem?_push, Array.size_push]; simp
  have k9 : W.heap[w.heap.size + 1 + 1 + 1 + 1 + 1 + 1 + 1 + 1 + 1]? = some (dfC sDefR (sl1 (w.heap.size + 1 + 1 + 1)) sl0 sl0 sl0 sl0 (sl1 (w.heap.size + 1 + 1 + 1 + 1 + 1 + 1 + 1 + 1))) := by rw [← hW]; simp only [heap_push, Array.getElem?_push, Array.size_push]; simp
  have k10 : W.heap[w.heap.size + 1 + 1 + 1 + 1 + 1 + 1 + 1 + 1 + 1 + 1]? = some (cell13 sR (sl1 (w.heap.size + 1 + 1 + 1 + 1 + 1 + 1 + 1 + 1 + 1)) sl0 sl0 sl0 sl0 sl0) := by rw [← hW]; simp only [heap_push, Array.getElem?_push, Array.size_push]; simp
  have hb : Below w.heap.size w W := by
    rw [← hW]
    exact (((((((((((Below.refl _ _).alloc (by simp) _).alloc (by simp) _).alloc (by simp; omega) _).alloc (by simp; omega) _).alloc (by simp; omega) _).alloc (by simp; omega) _).alloc (by simp; omega) _).alloc (by simp; omega) _).alloc (by simp; omega) _).alloc (by simp; omega) _).alloc (by simp; omega) _
  have vcall : PLies W (prAgg sCall sl0 (sl1 (w.heap.size)) sl0 sl0 sl0) sCall := ⟨_, _, _, _, _, rfl, ⟨by decide, by decide⟩, nil_strs _ _, vls_one (a := ⟨1, bA, 0⟩) (by omega) k0 (by decide), val_leaf _ _ 0 0 0 e0 (by decide), nil_prs _ _⟩
  have vcall0 : PLies W (prAgg sCall0 sl0 sl0 sl0 sl0 sl0) sCall0 := ⟨_, _, _, _, _, rfl, ⟨by decide, by decide⟩, nil_strs _ _, nil_vls _ _, val_leaf _ _ 0 0 0 e0 (by decide), nil_prs _ _⟩
  have vstop : PLies W (prAgg sStop sl0 sl0 sl0 sl0 sl0) sStop := ⟨_, _, _, _, _, rfl, ⟨by decide, by decide⟩, nil_strs _ _, nil_vls _ _, val_leaf _ _ 0 0 0 e0 (by decide), nil_prs _ _⟩
  have vrecv : PLies W (prAgg sRecv sl0 sl0 sl0 sl0 (sl1 (w.heap.size + 1 + 1 + 1 + 1 + 1 + 1 + 1 + 1))) sRecv := ⟨_, _, _, _, _, rfl, ⟨by decide, by decide⟩, nil_strs _ _, nil_vls _ _, val_leaf _ _ 0 0 0 e0 (by decide), prs_one (by omega) k8 vcall⟩
  have vpar : PmSl (fun k => k < W.heap.size) W (sl1 (w.heap.size + 1 + 1 + 1)) [sPar] := pms_one (a := sPar) (by omega) k3 (by decide) (val_leaf _ _ 3 0 0 e0 (by decide))
  refine ⟨k6, k7, k10, k9, ⟨_, _, _, _, _, _, rfl, dfs_one (d := sDef) (by omega) k5 (by decide) vpar vcall, vstop⟩, ⟨_, _, _, _, _, _, rfl, nil_dfs _ _, vcall0⟩, ⟨_, _, _, _, _, _, rfl, dfs_one (d := sDefR) (by omega) k9 (by decide) vpar vrecv, vstop⟩, vrecv, hb⟩

end Go.Proofs.YtmedijheidbmhaaDoor
