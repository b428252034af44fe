/- Scopes: below, placeOfBody. (and what follows from it) -/
import Derived.Test.YtmedijheidbmhaaGreatDoorPz5
import Derived.Test.YtmedijheidbmhaaGreatDoorPz8
import Derived.Test.YtmedijheidbmhaaGreatDoorTyQ
import Derived.Test.YtmedijheidbmhaaGreatDoorPz9
import Derived.Test.YtmedijheidbmhaaGreatDoorPz3
import Derived.Test.YtmedijheidbmhaaGreatDoorPz4
import Derived.Test.YtmedijheidbmhaaGreatDoorPz7
import Derived.Shelf.SlMaps.Clone
import Derived.Ground.SlmcProg
import Derived.RangeFuncBox
import Derived.Deep.RegionWith
import Derived.Deep.RegionHeld3

/- Scopes: below, placeOfBody. -/
namespace Go.Proofs.YtmedijheidbmhaaGreatDoor
open Go.Shelf
/-- The library's maps.Clone at this program: a table of numbers, and a field a fact of the program's own. -/
def scopeCloneL_ren : Go.Shelf.Ren := ⟨fun | 5 => 66 | 7 => 97 | n => n, fun | 23 => 67 | 25 => 9 | 3 => 4 | 4 => 4 | 20 => 20 | n => n, fun | n => n⟩
theorem scopeCloneL : Go.Proofs.SlLaysW.n5 Tryz.prog scopeCloneL_ren := {
  mixed := by kernel_rfl
  f5 := ⟨Tryz.f66.name, by decide, Tryz.func66.trans (congrArg some (by kernel_rfl))⟩
  f7 := Tryz.func97.trans (congrArg some (by kernel_rfl))
  t4 := Tryz.underlying4
  a4 := Tryz.isAgg4
  z4 := Tryz.sizeOf4
  v4 := Tryz.zeroValue4
  t20 := Tryz.underlying20
  a20 := Tryz.isAgg20
  z20 := Tryz.sizeOf20
  v20 := Tryz.zeroValue20
  t23 := Tryz.underlying67
  a23 := Tryz.isAgg67
  z23 := Tryz.sizeOf67
  v23 := Tryz.zeroValue67 }
end Go.Proofs.YtmedijheidbmhaaGreatDoor

namespace Go.Proofs.YtmedijheidbmhaaGreatDoor
open Go.RowKit Go.Deep Go.Shelf

theorem Pr.bnd_len' (p : Pr) : p.bnd.length ≤ 2 := by unfold Pr.bnd; split <;> (try split) <;> simp
theorem cell_same {W W' : World} {k i : Nat} (h : W'.heap[k]? = W.heap[k]?) : W'.cell? ⟨k, i, none⟩ = W.cell? ⟨k, i, none⟩ := by unfold World.cell?; rw [h]
theorem SetIs.same {w w' : World} {b n : Nat} {l : List ByteArray} (h : SetIs w b n l) (e : w'.heap[b]? = w.heap[b]?) : SetIs w' b n l := by
  obtain ⟨D, ⟨es, clock, h1, r⟩, hf⟩ := h
  exact ⟨D, ⟨es, clock, e.trans h1, r⟩, hf⟩
theorem scalls_at {P : Program} {f : FuncId} {vs : Array Value} {Q : Ending → World → Prop} {W W0 : World} (h : W = W0) (k : Calls P f vs W0 Q) : Calls P f vs W Q := by rw [h]; exact k
theorem set_other' (W : World) {b c i : Nat} (v : Value) (h : c ≠ b) : (W.setCell ⟨b, i, none⟩ v).heap[c]? = W.heap[c]? := by
  show (W.heap.modify b _)[c]? = _
  rw [Array.getElem?_modify]
  rw [if_neg (fun e => h e.symm)]
theorem mapsClone_any (b n : Nat) (l : List ByteArray) (w : World) (h : SetIs w b n l) :
    Calls Tryz.prog 66 #[.map (some b)] w fun e w' => ∃ c, e = .returned (.map (some c)) ∧ w.heap.size ≤ c ∧ SetIs w' c n l ∧ Below w.heap.size w w' := by
  obtain ⟨D, ho, hf⟩ := h
  have hcon := AnyW.maps_Clone_owns scopeCloneL 9 (plainElem Tryz.prog 4) b n D w ho
  change Calls Tryz.prog 66 _ _ _ at hcon
  exact hcon.mono fun e w' ⟨he, h1, _, hB⟩ => ⟨_, he, Nat.le_refl _, ⟨D, h1, hf⟩, hB⟩

/-- A block with the three cells of a place. -/
def Three (W : World) (b : Nat) (a0 a1 a2 : Value) : Prop := W.heap[b]? = some (.cells #[a0, a1, a2] 69 (0, 0))
section
variable {W W' : World} {b : Nat} {a0 a1 a2 : Value}
theorem Three.cells (h : Three W b a0 a1 a2) : (W.cell? ⟨b, 0, none⟩ = some a0 ∧ W.cell? ⟨b, 1, none⟩ = some a1 ∧ W.cell? ⟨b, 2, none⟩ = some a2) ∧ W.frozen? ⟨b, 0, none⟩ = false ∧ W.frozen? ⟨b, 1, none⟩ = false ∧ W.frozen? ⟨b, 2, none⟩ = false := by
  unfold Three at h
  refine ⟨⟨?_, ?_, ?_⟩, ?_, ?_, ?_⟩ <;> simp [World.cell?, World.frozen?, h]
theorem Three.lt (h : Three W b a0 a1 a2) : b < W.heap.size := (Array.getElem?_eq_some_iff.1 h).1
theorem Three.to (h : Three W b a0 a1 a2) (hb : Below W.heap.size W W') : Three W' b a0 a1 a2 := (hb.block b h.lt).trans h
theorem Three.grown {row : Option Nat} (h : Three W b a0 a1 a2) (hg : W.grownBy W' row) (hne : some b ≠ row) : Three W' b a0 a1 a2 := (hg.block b h.lt hne).trans h
theorem Three.set0 (h : Three W b a0 a1 a2) (v : Value) : Three (W.setCell ⟨b, 0, none⟩ v) b v a1 a2 := set_block h 0 v
theorem Three.set1 (h : Three W b a0 a1 a2) (v : Value) : Three (W.setCell ⟨b, 1, none⟩ v) b a0 v a2 := set_block h 1 v
theorem Three.set2 (h : Three W b a0 a1 a2) (v : Value) : Three (W.setCell ⟨b, 2, none⟩ v) b a0 a1 v := set_block h 2 v
end
theorem three_new (w : World) (a0 a1 a2 : Value) : Three (w.alloc (.cells #[a0, a1, a2] 69)) w.heap.size a0 a1 a2 := World.alloc_heap_new _ _
abbrev zero3 : Obj := .cells #[.map none, .map none, .bool false] 69

set_option maxHeartbeats 8000000 in
set_option maxRecDepth 100000 in
theorem below_any (S : Nat → Prop) (p : Pr) (b o : Nat) (pq aq : Option Nat) (g : Bool) (sc : List ByteArray) (n : Nat) (hn : n ≤ 100000000) (w : World) (hS : Low S w) (hp : PrAt S w p b o) (hpl : Plc w pq aq sc n) :
    Calls Tryz.prog 51 #[.agg #[.map pq, .map aq, .bool g], .pointer (some ⟨b, o, none⟩)] w fun e w' => ∃ cq, e = .returned (.agg #[.map pq, .map cq, .bool (g || prefixB p.k)]) ∧ Plc w' pq cq (sc ++ p.bnd) (n + 2) ∧ Below w.heap.size w w' := by
  have hb0 : Below w.heap.size w ((w.alloc (cell3 pq aq g)).alloc zero3) := (blkBelow w _ _).alloc (by simp) _
  obtain ⟨W0, hW0⟩ : ∃ W0, (w.alloc (cell3 pq aq g)).alloc zero3 = W0 := ⟨_, rfl⟩
  have t0 : Three W0 w.heap.size (.map pq) (.map aq) (.bool g) := by rw [← hW0]; exact (three_new w _ _ _).to ((Below.refl _ _).alloc (Nat.le_refl _) _)
  have t1 : Three W0 (w.heap.size + 1) (.map none) (.map none) (.bool false) := by rw [← hW0]; have h := three_new (w.alloc (cell3 pq aq g)) (.map none) (.map none) (.bool false); rwa [World.size_alloc] at h
  have hs0 : W0.heap.size = w.heap.size + 2 := by rw [← hW0]; simp
  rw [hW0] at hb0
  obtain ⟨la1, ln1, lc1, aa1, an1, ac1, ta1, tn1, tc1, ua1, un1, uc1, ka1, kn1, kc1, ⟨c0, c1, c2, c3, c4, c5, c6, c7, c8, c9, c10, c11⟩, hval⟩ := hp.load'
  obtain ⟨hSb, ⟨hcz, hxz⟩, _⟩ := PrAt.eq.1 hp
  have hbl := hS b hSb
  obtain ⟨pb, hpb⟩ : ∃ x, prefixB p.k = x := ⟨_, rfl⟩
  have HPX : Hid (∀ W, Below w.heap.size w W → Calls Tryz.prog 63 #[prAgg p (.slice la1 ln1 lc1) (.slice aa1 an1 ac1) (.slice ta1 tn1 tc1) (.slice ua1 un1 uc1) (.slice ka1 kn1 kc1)] W fun e w' => e = .returned (.bool pb) ∧ Below W.heap.size W w') := Lib.hid (fun W hW => by
    rw [← hpb]
    exact pprefix_any S p _ W (hval.keep (hW.keeps'.mono hS)))
  have HP : Hid (∀ W, Below w.heap.size w W → PrAt S W p b o ∧ Low S W ∧ Plc W pq aq sc n) := Lib.hid (fun W hW => ⟨PrAt.keep (hW.keeps'.mono hS) _ _ _ hp, hS.le hW.size, hpl.to hW⟩)
  obtain ⟨ps, us, hps, hus, hsm, hul, hmem⟩ := hpl.sets
  have HN : Hid (∀ W, Below w.heap.size w W → NSet W pq ps ∧ NSet W aq us) := Lib.hid (fun W hW => ⟨hps.to hW, hus.to hW⟩)
  have HHM := Lib.hid (And.intro hul hmem)
  have HPB := Lib.hid hpb
  clear hps hus hul hmem
  have HT0 := Lib.hid t0
  have HT1 := Lib.hid t1
  have HW0 := Lib.hid hW0
  have HB0 := Lib.hid hb0
  have HS0 := Lib.hid hs0
  unfold prAgg at HPX
  clear hp hpl hpb t0 t1 hW0 hb0 hcz hxz hval hS hSb hs0
  have gc : g = true ∨ g = false := by cases g <;> simp
  have hgb : ∀ W1 : World, (w.alloc (cell3 pq aq true)).alloc zero3 = W0 → W0.setCell ⟨w.heap.size, 2, none⟩ (.bool true) = W1 → ((w.alloc (cell3 pq aq true)).alloc zero3).setCell ⟨w.heap.size, 2, none⟩ (.bool true) = W1 := fun W1 h1 h2 => by rw [h1]; exact h2
  rcases gc with rfl | rfl
  · obtain ⟨W1, hW1⟩ : ∃ W1, W0.setCell ⟨w.heap.size, 2, none⟩ (.bool true) = W1 := ⟨_, rfl⟩
    have k0 : Hid (Three W1 w.heap.size (.map pq) (.map aq) (.bool (true || pb))) := Lib.hid (by rw [← hW1]; exact HT0.out.set2 _)
    have k1 : Hid (Three W1 (w.heap.size + 1) (.map none) (.map none) (.bool false)) := Lib.hid (by rw [← hW1]; exact (set_other' W0 _ (by omega)).trans HT1.out)
    have k2 : Hid (Below w.heap.size w W1) := Lib.hid (by rw [← hW1]; exact HB0.out.setCell (p := ⟨w.heap.size, 2, none⟩) (by simp) _)
    have k3 : w.heap.size + 2 ≤ W1.heap.size := by rw [← hW1]; simp; have := HS0.out; omega
    have hWW := hgb W1 HW0.out hW1
    clear c0 c1 c2 c3 c4 c5 c6 c7 c8 c9 c10 c11 hgb hW1
    go_enter Tryz.func51, Tryz.ntmps51
    go_wp2_with fail
    clear hWW
    obtain ⟨gg, hgg⟩ : ∃ x, (true || pb) = x := ⟨_, rfl⟩
    have HGG : Hid (gg = (true || prefixB p.k)) := Lib.hid (by rw [HPB.out, hgg])
    rw [hgg] at k0
    have hus := (HN.out W1 k2.out).2
    obtain ⟨ab, rfl, hset⟩ : ∃ ab, aq = some ab ∧ SetIs W1 ab us.length us := by
      rcases hus with ⟨rfl, _⟩ | ⟨ab, e, h⟩
      · cases hsm
      · exact ⟨ab, e, h⟩
    clear hus hsm hgg
    refine (bound_any S p b o W1 (HP.out W1 k2.out).2.1 (HP.out W1 k2.out).1).mono ?_
    rintro e w4 ⟨la, ln, lc, rfl, hsl, hb4⟩
    obtain ⟨_, _, _, e', hln, hlm, hlg⟩ := hsl.open
    simp only [Value.slice.injEq] at e'
    obtain ⟨rfl, rfl, rfl⟩ := e'
    have HT4 : Hid (Three w4 w.heap.size (.map pq) (.map (some ab)) (.bool gg)) := Lib.hid (k0.out.to hb4)
    have HU4 : Hid (Three w4 (w.heap.size + 1) (.map none) (.map none) (.bool false)) := Lib.hid (k1.out.to hb4)
    have HB4 : Hid (Below w.heap.size w w4) := Lib.hid (k2.out.trans (hb4.mono (by omega)))
    have HSET4 : Hid (SetIs w4 ab us.length us) := Lib.hid (hset.below hb4 hset.lt)
    have HLG : Hid (∀ i s, p.bnd[i]? = some s → s.size ≤ maxLen ∧ ∃ kb ko, la = some ⟨kb, ko, none⟩ ∧ W1.heap.size ≤ kb ∧ kb < w4.heap.size ∧ w4.cell? ⟨kb, ko + i, none⟩ = some (.string s)) := Lib.hid (fun i s hi => by
      obtain ⟨h1, kb, ko, e, hkb, hc⟩ := hlg i s hi
      exact ⟨h1, kb, ko, e, hkb.1, hkb.2, hc⟩)
    have hln2 : ln ≤ 2 := by have := hln.out; have := p.bnd_len'; omega
    have hz4 : w.heap.size + 2 ≤ w4.heap.size := Nat.le_trans k3 hb4.size
    clear hsl hlg hset hb4 k0 k1 k2
    obtain ⟨⟨y0, y1, y2⟩, g0, g1, g2⟩ := HT4.out.cells
    obtain ⟨⟨v0, v1, v2⟩, h0, h1, h2⟩ := HU4.out.cells
    by_cases hz : ln = 0
    · subst hz
      have hbe : p.bnd = [] := List.length_eq_zero_iff.1 hln.out.symm
      have HBE := Lib.hid hbe
      clear hbe
      go_wp2_with fail
      obtain ⟨W9, h9⟩ : ∃ W9, (((w4.setCell ⟨w.heap.size + 1, 0, none⟩ (.map pq)).setCell ⟨w.heap.size + 1, 1, none⟩ (.map (some ab))).setCell ⟨w.heap.size + 1, 2, none⟩ (.bool gg)) = W9 := ⟨_, rfl⟩
      have t9 : Three W9 (w.heap.size + 1) (.map pq) (.map (some ab)) (.bool gg) := by rw [← h9]; exact ((HU4.out.set0 _).set1 _).set2 _
      have b9 : Below w.heap.size w W9 := by rw [← h9]; exact ((HB4.out.setCell (p := ⟨w.heap.size + 1, 0, none⟩) (by simp) _).setCell (p := ⟨w.heap.size + 1, 1, none⟩) (by simp) _).setCell (p := ⟨w.heap.size + 1, 2, none⟩) (by simp) _
      rw [h9]
      obtain ⟨⟨q0, q1, q2⟩, _⟩ := t9.cells
      clear v0 v1 v2 h0 h1 h2 y0 y1 y2 g0 g1 g2
      refine bodyPost_ret (v := .agg #[.map pq, .map (some ab), .bool gg]) (by simp [results, Tryz.results51, go_sem, q0, q1, q2]) rfl ⟨some ab, by rw [HGG.out], ?_, b9⟩
      rw [HBE.out, List.append_nil]
      obtain ⟨ps', us', a1, a2, a3, a4, a5⟩ := (HP.out W9 b9).2.2.sets
      exact ⟨⟨ps', us', a1, a2, a3, by omega, a5⟩⟩
    · have hz1 : decide ((0 : Int) < (ln : Int)) = true := by simp; omega
      have hz2 : decide (0 < ln) = true := by simp; omega
      have hz3 : 0 < ln := by omega
      clear v0 v1 v2 h0 h1 h2
      go_wp2_with (go_at_call 66; refine (mapsClone_any ab us.length us w4 HSET4.out).mono ?_; rintro e w5 ⟨cb, rfl, hcb, hset5, hb5⟩; have t5 := HT4.out.to hb5; obtain ⟨⟨y0, y1, y2⟩, g0, g1, g2⟩ := t5.cells; have HT5 := Lib.hid t5; replace hset5 := Lib.hid hset5; replace hb5 := Lib.hid hb5; clear t5)
      go_loopw [28] (fun i wr => ∃ (j : Nat), i = .int .i64 (j : Int) ∧ j ≤ ln ∧ Hid (SetIs wr cb (us.length + j) (us ++ p.bnd.take j)) ∧ Hid (Three wr w.heap.size (.map pq) (.map (some cb)) (.bool gg)) ∧ Hid (Three wr (w.heap.size + 1) (.map none) (.map none) (.bool false)) ∧ Hid (∀ k, W1.heap.size ≤ k → k < w4.heap.size → wr.heap[k]? = w4.heap[k]?) ∧ Hid (Below w.heap.size w wr)) (fun i _ => ln - (intOf i).toNat)
      case atStart =>
        have e4 : ∀ k, k ≠ w.heap.size → (w5.setCell ⟨w.heap.size, 1, none⟩ (.map (some cb))).heap[k]? = w5.heap[k]? := fun k hk => set_other' _ _ hk
        refine ⟨0, rfl, by omega, Lib.hid ?_, Lib.hid ((HT5.out.set1 _)), Lib.hid ?_, Lib.hid (fun k hk1 hk2 => ?_), Lib.hid ?_⟩
        · rw [List.take_zero, List.append_nil, Nat.add_zero]; exact hset5.out.same (e4 cb (by omega))
        · exact (e4 _ (by omega)).trans (HU4.out.to hb5.out)
        · rw [e4 k (by omega)]; exact hb5.out.block k hk2
        · exact (HB4.out.trans (hb5.out.mono (by omega))).setCell (p := ⟨w.heap.size, 1, none⟩) (by simp) _
      case round =>
        obtain ⟨j, rfl, hj, HSE, HTr, HUr, HK, HBr⟩ := hrel
        obtain ⟨wo, hwo⟩ : ∃ wo, wo = wr := ⟨_, rfl⟩
        subst hwo
        obtain ⟨⟨y0, y1, y2⟩, g0, g1, g2⟩ := HTr.out.cells
        have hcbz : w.heap.size + 2 ≤ cb := by omega
        by_cases hlt : j < ln
        · obtain ⟨s, hs⟩ : ∃ s, p.bnd[j]? = some s := ⟨_, List.getElem?_eq_getElem (by rw [← hln.out]; exact hlt)⟩
          obtain ⟨hss, kb, ko, rfl, hk1, hk2, hc⟩ := HLG.out j s hs
          have q0 := (cell_same (i := ko + j) (HK.out kb hk1 hk2)).trans hc
          have hkw : kb < wo.heap.size := World.block_lt_of_cell? wo _ q0
          obtain ⟨w6, hup, hse6, hgr⟩ := HSE.out.put (by have := HHM.out.1; unfold maxLen; omega) hss
          have HS6 : Hid (SetIs w6 cb (us.length + (j + 1)) (us ++ p.bnd.take (j + 1))) := Lib.hid (by rw [take_snoc_get hs, ← List.append_assoc]; exact hse6)
          have HT6 : Hid (Three w6 w.heap.size (.map pq) (.map (some cb)) (.bool gg)) := Lib.hid (HTr.out.grown hgr (by simp; omega))
          have HU6 : Hid (Three w6 (w.heap.size + 1) (.map none) (.map none) (.bool false)) := Lib.hid (HUr.out.grown hgr (by simp; omega))
          have HK6 : Hid (∀ k, W1.heap.size ≤ k → k < w4.heap.size → w6.heap[k]? = w4.heap[k]?) := Lib.hid (fun k h1 h2 => (hgr.block k (by have := HSE.out.lt; omega) (by simp; omega)).trans (HK.out k h1 h2))
          have HB6 : Hid (Below w.heap.size w w6) := Lib.hid (HBr.out.grown hgr HBr.out.size (fun k e => by cases e; omega))
          clear hs hss hk1 hk2 hc hse6 hgr
          go_wp2_with fail
          go_roundw
          case rel => exact ⟨j + 1, by go_num, by omega, HS6, HT6, HU6, HK6, HB6⟩
          case measure => simp [intOf]; omega
        · obtain rfl : j = ln := by omega
          have HSF : Hid (SetIs wo cb (us ++ p.bnd).length (us ++ p.bnd)) := Lib.hid (by
            have h := HSE.out
            rw [List.take_of_length_le (by rw [hln.out]; exact Nat.le_refl _), hln.out] at h
            rw [List.length_append]; exact h)
          obtain ⟨⟨v0, v1, v2⟩, h0, h1, h2⟩ := HUr.out.cells
          clear HSE HK
          go_wp2_with fail
          obtain ⟨W9, h9⟩ : ∃ W9, (((wo.setCell ⟨w.heap.size + 1, 0, none⟩ (.map pq)).setCell ⟨w.heap.size + 1, 1, none⟩ (.map (some cb))).setCell ⟨w.heap.size + 1, 2, none⟩ (.bool gg)) = W9 := ⟨_, rfl⟩
          have t9 : Three W9 (w.heap.size + 1) (.map pq) (.map (some cb)) (.bool gg) := by rw [← h9]; exact ((HUr.out.set0 _).set1 _).set2 _
          have b9 : Below w.heap.size w W9 := by rw [← h9]; exact ((HBr.out.setCell (p := ⟨w.heap.size + 1, 0, none⟩) (by simp) _).setCell (p := ⟨w.heap.size + 1, 1, none⟩) (by simp) _).setCell (p := ⟨w.heap.size + 1, 2, none⟩) (by simp) _
          have s9 : SetIs W9 cb (us ++ p.bnd).length (us ++ p.bnd) := by rw [← h9]; exact HSF.out.same (by rw [set_other' _ _ (by omega), set_other' _ _ (by omega), set_other' _ _ (by omega)])
          rw [h9]
          obtain ⟨⟨q0, q1, q2⟩, _⟩ := t9.cells
          clear v0 v1 v2 h0 h1 h2 y0 y1 y2 g0 g1 g2
          refine bodyPost_ret (v := .agg #[.map pq, .map (some cb), .bool gg]) (by simp [results, Tryz.results51, go_sem, q0, q1, q2]) rfl ⟨some cb, by rw [HGG.out], ?_, b9⟩
          obtain ⟨ps', us', a1, a2, a3, a4, a5⟩ := (HP.out W9 b9).2.2.sets
          refine ⟨⟨ps, us ++ p.bnd, (HN.out W9 b9).1, .inr ⟨cb, rfl, s9⟩, rfl, by rw [List.length_append, ← hln.out]; have := HHM.out.1; omega, fun s => ?_⟩⟩
          rw [memB_append, memB_append, HHM.out.2 s, Bool.or_assoc]
  · obtain ⟨⟨x0, x1, x2⟩, f0, f1, f2⟩ := HT0.out.cells
    go_enter Tryz.func51, Tryz.ntmps51
    go_wp2_with fail
    refine scalls_at HW0.out ?_
    refine (HPX.out W0 HB0.out).mono ?_
    rintro e w2 ⟨rfl, hb2⟩
    have t0 := HT0.out.to hb2
    obtain ⟨⟨y0, y1, y2⟩, g0, g1, g2⟩ := t0.cells
    obtain ⟨W1, hWW⟩ : ∃ W1, w2.setCell ⟨w.heap.size, 2, none⟩ (.bool pb) = W1 := ⟨_, rfl⟩
    have k0 : Hid (Three W1 w.heap.size (.map pq) (.map aq) (.bool (false || pb))) := Lib.hid (by rw [← hWW, Bool.false_or]; exact t0.set2 _)
    have k1 : Hid (Three W1 (w.heap.size + 1) (.map none) (.map none) (.bool false)) := Lib.hid (by rw [← hWW]; exact (set_other' w2 _ (by omega)).trans (HT1.out.to hb2))
    have k2 : Hid (Below w.heap.size w W1) := Lib.hid (by rw [← hWW]; exact (HB0.out.trans (hb2.mono (by have := HS0.out; omega))).setCell (p := ⟨w.heap.size, 2, none⟩) (by simp) _)
    have k3 : w.heap.size + 2 ≤ W1.heap.size := by rw [← hWW]; simp; have := HS0.out; have := hb2.size; omega
    clear c0 c1 c2 c3 c4 c5 c6 c7 c8 c9 c10 c11 hgb t0 x0 x1 x2 f0 f1 f2
    go_wp2_with fail
    clear hWW y0 y1 y2 g0 g1 g2 hb2
    obtain ⟨gg, hgg⟩ : ∃ x, (false || pb) = x := ⟨_, rfl⟩
    have HGG : Hid (gg = (false || prefixB p.k)) := Lib.hid (by rw [HPB.out, hgg])
    rw [hgg] at k0
    have hus := (HN.out W1 k2.out).2
    obtain ⟨ab, rfl, hset⟩ : ∃ ab, aq = some ab ∧ SetIs W1 ab us.length us := by
      rcases hus with ⟨rfl, _⟩ | ⟨ab, e, h⟩
      · cases hsm
      · exact ⟨ab, e, h⟩
    clear hus hsm hgg
    refine (bound_any S p b o W1 (HP.out W1 k2.out).2.1 (HP.out W1 k2.out).1).mono ?_
    rintro e w4 ⟨la, ln, lc, rfl, hsl, hb4⟩
    obtain ⟨_, _, _, e', hln, hlm, hlg⟩ := hsl.open
    simp only [Value.slice.injEq] at e'
    obtain ⟨rfl, rfl, rfl⟩ := e'
    have HT4 : Hid (Three w4 w.heap.size (.map pq) (.map (some ab)) (.bool gg)) := Lib.hid (k0.out.to hb4)
    have HU4 : Hid (Three w4 (w.heap.size + 1) (.map none) (.map none) (.bool false)) := Lib.hid (k1.out.to hb4)
    have HB4 : Hid (Below w.heap.size w w4) := Lib.hid (k2.out.trans (hb4.mono (by omega)))
    have HSET4 : Hid (SetIs w4 ab us.length us) := Lib.hid (hset.below hb4 hset.lt)
    have HLG : Hid (∀ i s, p.bnd[i]? = some s → s.size ≤ maxLen ∧ ∃ kb ko, la = some ⟨kb, ko, none⟩ ∧ W1.heap.size ≤ kb ∧ kb < w4.heap.size ∧ w4.cell? ⟨kb, ko + i, none⟩ = some (.string s)) := Lib.hid (fun i s hi => by
      obtain ⟨h1, kb, ko, e, hkb, hc⟩ := hlg i s hi
      exact ⟨h1, kb, ko, e, hkb.1, hkb.2, hc⟩)
    have hln2 : ln ≤ 2 := by have := hln.out; have := p.bnd_len'; omega
    have hz4 : w.heap.size + 2 ≤ w4.heap.size := Nat.le_trans k3 hb4.size
    clear hsl hlg hset hb4 k0 k1 k2
    obtain ⟨⟨y0, y1, y2⟩, g0, g1, g2⟩ := HT4.out.cells
    obtain ⟨⟨v0, v1, v2⟩, h0, h1, h2⟩ := HU4.out.cells
    by_cases hz : ln = 0
    · subst hz
      have hbe : p.bnd = [] := List.length_eq_zero_iff.1 hln.out.symm
      have HBE := Lib.hid hbe
      clear hbe
      go_wp2_with fail
      obtain ⟨W9, h9⟩ : ∃ W9, (((w4.setCell ⟨w.heap.size + 1, 0, none⟩ (.map pq)).setCell ⟨w.heap.size + 1, 1, none⟩ (.map (some ab))).setCell ⟨w.heap.size + 1, 2, none⟩ (.bool gg)) = W9 := ⟨_, rfl⟩
      have t9 : Three W9 (w.heap.size + 1) (.map pq) (.map (some ab)) (.bool gg) := by rw [← h9]; exact ((HU4.out.set0 _).set1 _).set2 _
      have b9 : Below w.heap.size w W9 := by rw [← h9]; exact ((HB4.out.setCell (p := ⟨w.heap.size + 1, 0, none⟩) (by simp) _).setCell (p := ⟨w.heap.size + 1, 1, none⟩) (by simp) _).setCell (p := ⟨w.heap.size + 1, 2, none⟩) (by simp) _
      rw [h9]
      obtain ⟨⟨q0, q1, q2⟩, _⟩ := t9.cells
      clear v0 v1 v2 h0 h1 h2 y0 y1 y2 g0 g1 g2
      refine bodyPost_ret (v := .agg #[.map pq, .map (some ab), .bool gg]) (by simp [results, Tryz.results51, go_sem, q0, q1, q2]) rfl ⟨some ab, by rw [HGG.out], ?_, b9⟩
      rw [HBE.out, List.append_nil]
      obtain ⟨ps', us', a1, a2, a3, a4, a5⟩ := (HP.out W9 b9).2.2.sets
      exact ⟨⟨ps', us', a1, a2, a3, by omega, a5⟩⟩
    · have hz1 : decide ((0 : Int) < (ln : Int)) = true := by simp; omega
      have hz2 : decide (0 < ln) = true := by simp; omega
      have hz3 : 0 < ln := by omega
      clear v0 v1 v2 h0 h1 h2
      go_wp2_with (go_at_call 66; refine (mapsClone_any ab us.length us w4 HSET4.out).mono ?_; rintro e w5 ⟨cb, rfl, hcb, hset5, hb5⟩; have t5 := HT4.out.to hb5; obtain ⟨⟨y0, y1, y2⟩, g0, g1, g2⟩ := t5.cells; have HT5 := Lib.hid t5; replace hset5 := Lib.hid hset5; replace hb5 := Lib.hid hb5; clear t5)
      go_loopw [28] (fun i wr => ∃ (j : Nat), i = .int .i64 (j : Int) ∧ j ≤ ln ∧ Hid (SetIs wr cb (us.length + j) (us ++ p.bnd.take j)) ∧ Hid (Three wr w.heap.size (.map pq) (.map (some cb)) (.bool gg)) ∧ Hid (Three wr (w.heap.size + 1) (.map none) (.map none) (.bool false)) ∧ Hid (∀ k, W1.heap.size ≤ k → k < w4.heap.size → wr.heap[k]? = w4.heap[k]?) ∧ Hid (Below w.heap.size w wr)) (fun i _ => ln - (intOf i).toNat)
      case atStart =>
        have e4 : ∀ k, k ≠ w.heap.size → (w5.setCell ⟨w.heap.size, 1, none⟩ (.map (some cb))).heap[k]? = w5.heap[k]? := fun k hk => set_other' _ _ hk
        refine ⟨0, rfl, by omega, Lib.hid ?_, Lib.hid ((HT5.out.set1 _)), Lib.hid ?_, Lib.hid (fun k hk1 hk2 => ?_), Lib.hid ?_⟩
        · rw [List.take_zero, List.append_nil, Nat.add_zero]; exact hset5.out.same (e4 cb (by omega))
        · exact (e4 _ (by omega)).trans (HU4.out.to hb5.out)
        · rw [e4 k (by omega)]; exact hb5.out.block k hk2
        · exact (HB4.out.trans (hb5.out.mono (by omega))).setCell (p := ⟨w.heap.size, 1, none⟩) (by simp) _
      case round =>
        obtain ⟨j, rfl, hj, HSE, HTr, HUr, HK, HBr⟩ := hrel
        obtain ⟨wo, hwo⟩ : ∃ wo, wo = wr := ⟨_, rfl⟩
        subst hwo
        obtain ⟨⟨y0, y1, y2⟩, g0, g1, g2⟩ := HTr.out.cells
        have hcbz : w.heap.size + 2 ≤ cb := by omega
        by_cases hlt : j < ln
        · obtain ⟨s, hs⟩ : ∃ s, p.bnd[j]? = some s := ⟨_, List.getElem?_eq_getElem (by rw [← hln.out]; exact hlt)⟩
          obtain ⟨hss, kb, ko, rfl, hk1, hk2, hc⟩ := HLG.out j s hs
          have q0 := (cell_same (i := ko + j) (HK.out kb hk1 hk2)).trans hc
          have hkw : kb < wo.heap.size := World.block_lt_of_cell? wo _ q0
          obtain ⟨w6, hup, hse6, hgr⟩ := HSE.out.put (by have := HHM.out.1; unfold maxLen; omega) hss
          have HS6 : Hid (SetIs w6 cb (us.length + (j + 1)) (us ++ p.bnd.take (j + 1))) := Lib.hid (by rw [take_snoc_get hs, ← List.append_assoc]; exact hse6)
          have HT6 : Hid (Three w6 w.heap.size (.map pq) (.map (some cb)) (.bool gg)) := Lib.hid (HTr.out.grown hgr (by simp; omega))
          have HU6 : Hid (Three w6 (w.heap.size + 1) (.map none) (.map none) (.bool false)) := Lib.hid (HUr.out.grown hgr (by simp; omega))
          have HK6 : Hid (∀ k, W1.heap.size ≤ k → k < w4.heap.size → w6.heap[k]? = w4.heap[k]?) := Lib.hid (fun k h1 h2 => (hgr.block k (by have := HSE.out.lt; omega) (by simp; omega)).trans (HK.out k h1 h2))
          have HB6 : Hid (Below w.heap.size w w6) := Lib.hid (HBr.out.grown hgr HBr.out.size (fun k e => by cases e; omega))
          clear hs hss hk1 hk2 hc hse6 hgr
          go_wp2_with fail
          go_roundw
          case rel => exact ⟨j + 1, by go_num, by omega, HS6, HT6, HU6, HK6, HB6⟩
          case measure => simp [intOf]; omega
        · obtain rfl : j = ln := by omega
          have HSF : Hid (SetIs wo cb (us ++ p.bnd).length (us ++ p.bnd)) := Lib.hid (by
            have h := HSE.out
            rw [List.take_of_length_le (by rw [hln.out]; exact Nat.le_refl _), hln.out] at h
            rw [List.length_append]; exact h)
          obtain ⟨⟨v0, v1, v2⟩, h0, h1, h2⟩ := HUr.out.cells
          clear HSE HK
          go_wp2_with fail
          obtain ⟨W9, h9⟩ : ∃ W9, (((wo.setCell ⟨w.heap.size + 1, 0, none⟩ (.map pq)).setCell ⟨w.heap.size + 1, 1, none⟩ (.map (some cb))).setCell ⟨w.heap.size + 1, 2, none⟩ (.bool gg)) = W9 := ⟨_, rfl⟩
          have t9 : Three W9 (w.heap.size + 1) (.map pq) (.map (some cb)) (.bool gg) := by rw [← h9]; exact ((HUr.out.set0 _).set1 _).set2 _
          have b9 : Below w.heap.size w W9 := by rw [← h9]; exact ((HBr.out.setCell (p := ⟨w.heap.size + 1, 0, none⟩) (by simp) _).setCell (p := ⟨w.heap.size + 1, 1, none⟩) (by simp) _).setCell (p := ⟨w.heap.size + 1, 2, none⟩) (by simp) _
          have s9 : SetIs W9 cb (us ++ p.bnd).length (us ++ p.bnd) := by rw [← h9]; exact HSF.out.same (by rw [set_other' _ _ (by omega), set_other' _ _ (by omega), set_other' _ _ (by omega)])
          rw [h9]
          obtain ⟨⟨q0, q1, q2⟩, _⟩ := t9.cells
          clear v0 v1 v2 h0 h1 h2 y0 y1 y2 g0 g1 g2
          refine bodyPost_ret (v := .agg #[.map pq, .map (some cb), .bool gg]) (by simp [results, Tryz.results51, go_sem, q0, q1, q2]) rfl ⟨some cb, by rw [HGG.out], ?_, b9⟩
          obtain ⟨ps', us', a1, a2, a3, a4, a5⟩ := (HP.out W9 b9).2.2.sets
          refine ⟨⟨ps, us ++ p.bnd, (HN.out W9 b9).1, .inr ⟨cb, rfl, s9⟩, rfl, by rw [List.length_append, ← hln.out]; have := HHM.out.1; omega, fun s => ?_⟩⟩
          rw [memB_append, memB_append, HHM.out.2 s, Bool.or_assoc]

end Go.Proofs.YtmedijheidbmhaaGreatDoor

/- Scopes: the walk over a body, bodyError, placeOfBody. -/
namespace Go.Proofs.YtmedijheidbmhaaGreatDoor
open Go.RowKit Go.Deep Go.Shelf

/-- What lies in the blocks of a call of bodyError, from block z on. -/
structure BSt (z ab nn : Nat) (ar : ByteArray → Option Nat) (W : World) : Prop where
  abox : W.heap[z + 1]? = some (.cells #[.map (some ab)] 62 (0, 0))
  wbox : W.heap[z + 2]? = some (.cells #[.func (.func 49) #[] #[ptr (z + 1), ptr (z + 2)]] 87 (0, 0))
  ars : ArIs W ab nn ar
theorem BSt.size {z ab nn : Nat} {ar : ByteArray → Option Nat} {W : World} (h : BSt z ab nn ar W) : z + 3 ≤ W.heap.size := (Array.getElem?_eq_some_iff.1 h.wbox).1
theorem BSt.to {z ab nn : Nat} {ar : ByteArray → Option Nat} {W W' : World} (h : BSt z ab nn ar W) (hb : Below W.heap.size W W') : BSt z ab nn ar W' :=
  ⟨(hb.block _ (Array.getElem?_eq_some_iff.1 h.abox).1).trans h.abox, (hb.block _ (Array.getElem?_eq_some_iff.1 h.wbox).1).trans h.wbox, h.ars.to hb⟩
theorem BSt.cells {z ab nn : Nat} {ar : ByteArray → Option Nat} {W : World} (h : BSt z ab nn ar W) : W.cell? ⟨z + 1, 0, none⟩ = some (.map (some ab)) ∧ W.cell? ⟨z + 2, 0, none⟩ = some (.func (.func 49) #[] #[ptr (z + 1), ptr (z + 2)]) := by
  refine ⟨?_, ?_⟩
  · simp [World.cell?, h.abox]
  · simp [World.cell?, h.wbox]
theorem enters_swalk : ∀ args w, (callFunc 49 args).run Tryz.prog w = .ok (.enter 49 args) w := enters_of Tryz.func49 (by kernel_rfl) rfl

/-- What is asked of the walk at a node. -/
def SWalk (z ab nn : Nat) (ar : ByteArray → Option Nat) (p : Pr) : Prop := ∀ (S : Nat → Prop) (pq aq : Option Nat) (g : Bool) (sc : List ByteArray) (n b o : Nat) (W : World) (r : Int), BSt z ab nn ar W → PrAt S W p b o → Low S W → Plc W pq aq sc n → n + 2 * p.depth ≤ 100000000 → p.scE ar sc g = r →
  Calls Tryz.prog 49 #[.pointer (some ⟨b, o, none⟩), .agg #[.map pq, .map aq, .bool g], ptr (z + 1), ptr (z + 2)] W fun e W' => e = .returned (.int .i64 r) ∧ Below W.heap.size W W'

set_option maxHeartbeats 8000000 in
set_option maxRecDepth 100000 in
theorem swalk_step (z ab nn : Nat) (ar : ByteArray → Option Nat) (p : Pr) (ih : ∀ u ∈ p.ps, SWalk z ab nn ar u) : SWalk z ab nn ar p := by
  intro S pq aq g sc n b o w r hst hp hS hpl hn hr
  have hb0 : Below w.heap.size w (w.alloc (cell3 pq aq g)) := blkBelow w _ _
  obtain ⟨hSb, _, _, _, lv, av, kv, _, _, c11, _, _, hk⟩ := PrAt.eq.1 hp
  obtain ⟨ka, kn, kc, rfl, hkl, hkm, hkg⟩ := hk.open
  have hbl := hS b hSb
  have hzs := hst.size
  have hz1 : z + 1 < w.heap.size := by omega
  have hz2 : z + 2 < w.heap.size := by omega
  obtain ⟨x1, _⟩ := hst.cells
  have HP : Hid (∀ W, Below w.heap.size w W → PrAt S W p b o ∧ Low S W ∧ Plc W pq aq sc n ∧ BSt z ab nn ar W ∧ W.cell? ⟨b, o + 11, none⟩ = some (.slice ka kn kc)) := Lib.hid (fun W hW => ⟨PrAt.keep (hW.keeps'.mono hS) _ _ _ hp, hS.le hW.size, hpl.to hW, hst.to hW, (hW.cell (p := ⟨b, _, none⟩) hbl).trans c11⟩)
  have CZ : Hid (∀ W, Below (w.heap.size + 1) (w.alloc (cell3 pq aq g)) W → W.cell? ⟨w.heap.size, 0, none⟩ = some (.map pq) ∧ W.cell? ⟨w.heap.size, 1, none⟩ = some (.map aq) ∧ W.cell? ⟨w.heap.size, 2, none⟩ = some (.bool g)) := Lib.hid (fun W hW => ⟨blk_cell hW 0 rfl, blk_cell hW 1 rfl, blk_cell hW 2 rfl⟩)
  have HKG : Hid (∀ (i : Nat) (u : Pr), p.ps[i]? = some u → ∃ gb go, ka = some ⟨gb, go, none⟩ ∧ gb < w.heap.size ∧ ∀ W, Below w.heap.size w W → PrAt S W u gb (go + i * 12)) := Lib.hid (fun i u hi => by
    obtain ⟨gb, go, e, hgb, hu⟩ := hkg i u hi
    exact ⟨gb, go, e, hS gb hgb, fun W hW => PrAt.keep (hW.keeps'.mono hS) _ _ _ hu⟩)
  obtain ⟨ne, hne⟩ : ∃ x, p.nodeE ar sc g = x := ⟨_, rfl⟩
  obtain ⟨gb, hgb⟩ : ∃ x, (g || prefixB p.k) = x := ⟨_, rfl⟩
  have HR : Hid (r = if ne = 0 then Pr.scEs ar p.ps (sc ++ p.bnd) gb else ne) := Lib.hid (by rw [← hr, Pr.scE_eq, hne, hgb])
  have HNE : Hid (∀ W, Below w.heap.size w W → Calls Tryz.prog 50 #[.pointer (some ⟨b, o, none⟩), .agg #[.map pq, .map aq, .bool g], .map (some ab)] W fun e w' => e = .returned (.int .i64 ne) ∧ Below W.heap.size W w') := Lib.hid (fun W hW => by
    obtain ⟨q1, q2, q3, q4, _⟩ := HP.out W hW
    exact snodeError_any S p b o pq aq g sc n ab nn ar W q2 q1 q3 q4.ars ne hne)
  have HBL : Hid (∀ W, Below w.heap.size w W → Calls Tryz.prog 51 #[.agg #[.map pq, .map aq, .bool g], .pointer (some ⟨b, o, none⟩)] W fun e w' => ∃ cq, e = .returned (.agg #[.map pq, .map cq, .bool gb]) ∧ Plc w' pq cq (sc ++ p.bnd) (n + 2) ∧ Below W.heap.size W w') := Lib.hid (fun W hW => by
    obtain ⟨q1, q2, q3, _, _⟩ := HP.out W hW
    rw [← hgb]
    exact below_any S p b o pq aq g sc n (by omega) W q2 q1 q3)
  have hdep := p.depth_eq
  have HN := Lib.hid (And.intro hdep hn)
  have HIH := Lib.hid ih
  have HB0 := Lib.hid hb0
  have eg2 := enters_swalk
  clear ih hst hp hS hpl hn hr hb0 hSb c11 hk hkg hne hgb hdep
  go_enter Tryz.func49, Tryz.ntmps49
  by_cases h0 : ne = 0
  · subst h0
    have HR2 : Hid (r = Pr.scEs ar p.ps (sc ++ p.bnd) gb) := Lib.hid (by rw [HR.out, if_pos rfl])
    clear HR
    go_wp2_with fail
    refine (HNE.out _ HB0.out).mono ?_
    rintro e w2 ⟨rfl, hb2⟩
    have HB2 : Hid (Below w.heap.size w w2) := Lib.hid (HB0.out.trans (hb2.mono (by simp)))
    have hb2' : Below (w.heap.size + 1) (w.alloc (cell3 pq aq g)) w2 := hb2.mono (by simp)
    obtain ⟨z0, z1, z2⟩ := CZ.out w2 hb2'
    clear hb2 hb2' x1
    go_wp2_with fail
    refine (HBL.out w2 HB2.out).mono ?_
    rintro e w3 ⟨cq, rfl, hpl3, hb3⟩
    have HB3 : Hid (Below w.heap.size w w3) := Lib.hid (HB2.out.trans (hb3.mono HB2.out.size))
    have HB4 : Hid (Below w.heap.size w (w3.alloc (cell3 pq cq gb))) := Lib.hid (HB3.out.alloc HB3.out.size _)
    have HPL : Hid (∀ W, Below w3.heap.size w3 W → Plc W pq cq (sc ++ p.bnd) (n + 2)) := Lib.hid (fun W hW => hpl3.to hW)
    have hws : w.heap.size ≤ w3.heap.size := HB3.out.size
    obtain ⟨_, _, _, _, d11⟩ := HP.out w3 HB3.out
    have hbl3 : b < w3.heap.size := by omega
    clear hb3 hpl3 z0 z1 z2
    go_wp2_with fail
    clear d11
    go_loopw [26] (fun i wr => ∃ j : Nat, i = .int .i64 (j : Int) ∧ j ≤ kn ∧ Hid (Pr.scEs ar (p.ps.take j) (sc ++ p.bnd) gb = 0) ∧ Hid (Below (w3.heap.size + 1) (w3.alloc (cell3 pq cq gb)) wr)) (fun i _ => kn - (intOf i).toNat)
    case atStart => exact ⟨0, rfl, by omega, Lib.hid rfl, Lib.hid (Below.refl _ _)⟩
    case round =>
      obtain ⟨j, rfl, hj, HT, HBj⟩ := hrel
      obtain ⟨wo, hwo⟩ : ∃ wo, wo = wr := ⟨_, rfl⟩
      subst hwo
      have HL3 : Hid (Below w3.heap.size w3 wo) := Lib.hid (blk_below HBj.out)
      have HLW : Hid (Below w.heap.size w wo) := Lib.hid (HB3.out.trans (HL3.out.mono hws))
      have hso : w3.heap.size + 1 ≤ wo.heap.size := by have := HBj.out.size; simpa using this
      obtain ⟨_, _, _, st4, d11⟩ := HP.out wo HLW.out
      by_cases hlt : j < kn
      · obtain ⟨u, huj⟩ : ∃ u, p.ps[j]? = some u := ⟨_, List.getElem?_eq_getElem (by rw [← hkl.out]; exact hlt)⟩
        obtain ⟨kb, ko, rfl, hkb, hpa⟩ := HKG.out j u huj
        have hum := List.mem_of_getElem? huj
        have hud := Pr.depth_mem hum
        obtain ⟨x, hx⟩ : ∃ x, u.scE ar (sc ++ p.bnd) gb = x := ⟨_, rfl⟩
        obtain ⟨hn1, hn2⟩ := Pr.scEs_next huj HT.out hx
        obtain ⟨_, x2⟩ := st4.cells
        obtain ⟨y0, y1, y2⟩ : wo.cell? ⟨w3.heap.size, 0, none⟩ = some (.map pq) ∧ wo.cell? ⟨w3.heap.size, 1, none⟩ = some (.map cq) ∧ wo.cell? ⟨w3.heap.size, 2, none⟩ = some (.bool gb) := ⟨blk_cell HBj.out 0 rfl, blk_cell HBj.out 1 rfl, blk_cell HBj.out 2 rfl⟩
        have hlw : Below w.heap.size w wo.drew := HLW.out.drew
        obtain ⟨_, q2, _, q4, _⟩ := HP.out wo.drew hlw
        have hnn := HN.out
        have HIU := Lib.hid (HIH.out u hum S pq cq gb (sc ++ p.bnd) (n + 2) kb (ko + j * 12) wo.drew x q4 (hpa _ hlw) q2 (HPL.out _ HL3.out.drew) (by omega) hx)
        have HN1 := Lib.hid hn1
        have HN2 := Lib.hid hn2
        have hbo : b < wo.heap.size := by omega
        have hz3 : z + 2 < wo.heap.size := by omega
        have hz4 : w3.heap.size < wo.heap.size := by omega
        have hkw : kb < wo.heap.size := by omega
        clear huj hpa hum hud hx hn1 hn2 st4 hlw q2 q4 hnn
        by_cases h0 : x = 0
        · subst h0
          go_wp2_with fail
          go_region_with (go_at_call 49; refine HIU.out.mono ?_; rintro e w9 ⟨rfl, hb9⟩; replace hb9 := Lib.hid hb9)
          all_goals
            go_wp2_with fail
            go_roundw
            case rel => exact ⟨j + 1, by go_num, by omega, HN1, Lib.hid (HBj.out.drew.trans (hb9.out.mono (by simpa using hso)))⟩
            case measure => simp [intOf]; omega
        · have h0' : (x != 0) = true := by simpa using h0
          have HF : Hid (r = x) := Lib.hid (by rw [HR2.out]; exact HN2.out h0)
          clear h0
          go_wp2_with fail
          go_region_with (go_at_call 49; refine HIU.out.mono ?_; rintro e w9 ⟨rfl, hb9⟩; replace hb9 := Lib.hid hb9)
          all_goals
            go_wp2_with fail
            go_ret
            exact ⟨by rw [HF.out]; rfl, HLW.out.drew.trans (hb9.out.mono (by have := HLW.out.size; simpa using this))⟩
      · obtain rfl : kn = j := by omega
        have HF : Hid (r = 0) := Lib.hid (by
          have h := HT.out
          rw [List.take_of_length_le (by rw [hkl.out]; exact Nat.le_refl _)] at h
          rw [HR2.out, h])
        clear st4 d11
        go_wp2_with fail
        go_ret
        exact ⟨by rw [HF.out]; rfl, HLW.out⟩
  · have h0' : (ne != 0) = true := by simpa using h0
    have HF : Hid (r = ne) := Lib.hid (by rw [HR.out, if_neg h0])
    clear h0
    go_wp2_with fail
    refine (HNE.out _ HB0.out).mono ?_
    rintro e w2 ⟨rfl, hb2⟩
    go_wp2_with fail
    go_ret
    exact ⟨by rw [HF.out]; rfl, HB0.out.trans (hb2.mono (by simp))⟩

theorem swalk_any (z ab nn : Nat) (ar : ByteArray → Option Nat) : ∀ p : Pr, SWalk z ab nn ar p := by
  refine Pr.ind ?_
  intro k c x ls vs t ps ih
  exact swalk_step z ab nn ar (.mk k c x ls vs t ps) ih

end Go.Proofs.YtmedijheidbmhaaGreatDoor

/- Scopes: bodyError, placeOfBody. -/
namespace Go.Proofs.YtmedijheidbmhaaGreatDoor
open Go.RowKit Go.Deep Go.Shelf

set_option maxHeartbeats 4000000 in
set_option maxRecDepth 100000 in
theorem bodyError_any (S : Nat → Prop) (p : Pr) (b o : Nat) (pq aq : Option Nat) (g : Bool) (sc : List ByteArray) (n ab nn : Nat) (ar : ByteArray → Option Nat) (w : World) (hS : Low S w) (hp : PrAt S w p b o) (hpl : Plc w pq aq sc n) (ha : ArIs w ab nn ar) (hn : n + 2 * p.depth ≤ 100000000) (r : Int) (hr : p.scE ar sc g = r) :
    Calls Tryz.prog 27 #[.pointer (some ⟨b, o, none⟩), .agg #[.map pq, .map aq, .bool g], .map (some ab)] w fun e w' => e = .returned (.int .i64 r) ∧ Below w.heap.size w w' := by
  obtain ⟨W0, hW0⟩ : ∃ W0, ((w.alloc (cell3 pq aq g)).alloc (.cells #[.map (some ab)] 62)).alloc (.cells #[.func (.func 49) #[] #[.pointer (some ⟨w.heap.size + 1, 0, none⟩), .pointer (some ⟨w.heap.size + 1 + 1, 0, none⟩)]] 87) = W0 := ⟨_, rfl⟩
  have hb0 : Below w.heap.size w W0 := by rw [← hW0]; exact (((Below.refl _ _).alloc (by simp) _).alloc (by simp) _).alloc (by simp; omega) _
  have k1 : W0.heap[w.heap.size + 1]? = some (.cells #[.map (some ab)] 62 (0, 0)) := by rw [← hW0]; simp only [World.alloc, Array.getElem?_push, Array.size_push]; simp
  have k2 : W0.heap[w.heap.size + 2]? = some (.cells #[.func (.func 49) #[] #[ptr (w.heap.size + 1), ptr (w.heap.size + 2)]] 87 (0, 0)) := by rw [← hW0]; simp only [World.alloc, Array.getElem?_push, Array.size_push]; simp
  have HSW := Lib.hid (swalk_any w.heap.size ab nn ar p S pq aq g sc n b o W0 r ⟨k1, k2, ha.to hb0⟩ (PrAt.keep (hb0.keeps'.mono hS) _ _ _ hp) (hS.le hb0.size) (hpl.to hb0) hn hr)
  have HW0 := Lib.hid hW0
  have HB0 := Lib.hid hb0
  have eg2 := enters_swalk
  have hsf : ∀ (w : World) (a : Addr) (m : Mode) (f : Fn) (t : Array Value) (b : Array Value), (store a (.func f t b) m).run Tryz.prog w = stored Tryz.prog w a (.func f t b) m := fun w a m f t b => run_store _ w a _ m rfl
  clear hS hp hpl ha hn hr hW0 hb0 k1 k2
  go_enter Tryz.func27, Tryz.ntmps27
  go_wp2_with fail
  refine scalls_at HW0.out ?_
  refine HSW.out.mono ?_
  rintro e w2 ⟨rfl, hb2⟩
  go_wp2_with fail
  go_ret
  exact ⟨rfl, HB0.out.trans (hb2.mono HB0.out.size)⟩

theorem run_makeMap_bS (w : World) : (Instr.makeMap 67 none).run Tryz.prog w = .ok (.map (some w.heap.size)) (w.alloc (.map #[] 0)) := by simp [Instr.makeMap]

set_option maxHeartbeats 2000000 in
theorem placeOfBody_any (q : Option Nat) (ps : List ByteArray) (g : Bool) (w : World) (h : NSet w q ps) :
    Calls Tryz.prog 28 #[.map q, .bool g] w fun e w' => ∃ aq, e = .returned (.agg #[.map q, .map aq, .bool g]) ∧ Plc w' q aq ps 0 ∧ Below w.heap.size w w' := by
  have t0 := three_new w (.map none) (.map none) (.bool false)
  have hmk := run_makeMap_bS
  have HQ := Lib.hid h
  have HT := Lib.hid t0
  clear h t0
  go_enter Tryz.func28, Tryz.ntmps28
  go_wp2_with fail
  obtain ⟨W9, h9⟩ : ∃ W9, (w.alloc (.cells #[.map q, .map (some (w.heap.size + 1)), .bool g] 69)).alloc (.map #[] 0) = W9 := ⟨_, rfl⟩
  have b9 : Below w.heap.size w W9 := by rw [← h9]; exact (blkBelow w _ _).alloc (by simp) _
  have t9 : Three W9 w.heap.size (.map q) (.map (some (w.heap.size + 1))) (.bool g) := by rw [← h9]; exact (three_new w _ _ _).to ((Below.refl _ _).alloc (Nat.le_refl _) _)
  have s9 : SetIs W9 (w.heap.size + 1) 0 [] := by rw [← h9]; have h := SetIs.made (w.alloc (.cells #[.map q, .map (some (w.heap.size + 1)), .bool g] 69)); rwa [World.size_alloc] at h
  rw [h9]
  obtain ⟨⟨q0, q1, q2⟩, _⟩ := t9.cells
  refine bodyPost_ret (v := .agg #[.map q, .map (some (w.heap.size + 1)), .bool g]) (by simp [results, Tryz.results28, go_sem, q0, q1, q2]) rfl ⟨some (w.heap.size + 1), rfl, ⟨⟨ps, [], HQ.out.to b9, .inr ⟨_, rfl, s9⟩, rfl, Nat.le_refl _, fun s => by rw [memB_nil, Bool.or_false]⟩⟩, b9⟩

end Go.Proofs.YtmedijheidbmhaaGreatDoor

/- Scopes: paramNames, firstTwice, aritiesOf. -/
namespace Go.Proofs.YtmedijheidbmhaaGreatDoor
open Go.RowKit Go.Deep Go.Shelf

theorem run_makeMap_hintI (n : Int) (w : World) : (Instr.makeMap 62 (some (.int .i64 n))).run Tryz.prog w = .ok (.map (some w.heap.size)) (w.alloc (.map #[] 0)) := by
  have ht := Tryz.underlying62
  simp [Instr.makeMap, run_underlying ht, asInt, asIntOf]
theorem SetIs.len' {w : World} {b n : Nat} {l : List ByteArray} (h : SetIs w b n l) :
    ∃ q : Nat, (∀ ty, (Builtin.len_ #[67] ty #[.map (some b)]).run Tryz.prog w = .ok (.int .i64 q) w) ∧ q ≤ l.length ∧ (q < l.length ↔ dups l = true) := by
  obtain ⟨D, ho, hf, h1, h2⟩ := h
  exact ⟨_, fun ty => ho.len Tryz.underlying67 ty, h1, h2⟩
theorem names_take {ms : List Pm} {j : Nat} {a : Pm} (h : ms[j]? = some a) : (ms.take (j + 1)).map Pm.n = (ms.take j).map Pm.n ++ [a.n] := by rw [take_snoc_get h, List.map_append]; rfl
theorem dnames_take {ds : List Df} {j : Nat} {d : Df} (h : ds[j]? = some d) : (ds.take (j + 1)).map Df.n = (ds.take j).map Df.n ++ [d.n] := by rw [take_snoc_get h, List.map_append]; rfl

set_option maxHeartbeats 2000000 in
theorem paramNames_any (S : Nat → Prop) (d : Df) (b o : Nat) (w : World) (hS : Low S w) (hSb : S b) (hd : DfAt S w d b o) :
    Calls Tryz.prog 29 #[.pointer (some ⟨b, o, none⟩)] w fun e w' => ∃ mb, e = .returned (.map (some mb)) ∧ w.heap.size ≤ mb ∧ SetIs w' mb d.ms.length (d.ms.map Pm.n) ∧ Below w.heap.size w w' := by
  obtain ⟨_, _, ⟨mv, c1, hm⟩, _⟩ := hd
  have hbl := hS b hSb
  obtain ⟨pa, len, c, rfl, hlen, hmx, hget⟩ := hm.open
  have HC1 : Hid (∀ W, Below w.heap.size w W → W.cell? ⟨b, o + 1, none⟩ = some (.slice pa len c)) := Lib.hid (fun W hW => (hW.cell (p := ⟨b, _, none⟩) hbl).trans c1)
  have HG : Hid (∀ (j : Nat) (a : Pm), d.ms[j]? = some a → a.n.size ≤ maxLen ∧ ∃ kb ko, pa = some ⟨kb, ko, none⟩ ∧ ∀ W, Below w.heap.size w W → W.cell? ⟨kb, ko + j * 7, none⟩ = some (.string a.n)) := Lib.hid (fun j a hj => by
    obtain ⟨kb, ko, e, hkb, ha⟩ := hget j a hj
    exact ⟨ha.1, kb, ko, e, fun W hW => (hW.cell (p := ⟨kb, _, none⟩) (hS kb hkb)).trans ha.2.1⟩)
  have hmk := run_makeMap_hint
  clear hm hget hSb
  go_enter Tryz.func29, Tryz.ntmps29
  go_wp2_with fail
  clear c1
  go_loopw [16] (fun i wr => ∃ (j : Nat), i = .int .i64 (j : Int) ∧ j ≤ len ∧ Hid (SetIs wr w.heap.size j ((d.ms.take j).map Pm.n)) ∧ Below w.heap.size w wr) (fun i _ => len - (intOf i).toNat)
  case atStart => exact ⟨0, rfl, by omega, Lib.hid (SetIs.made w), (Below.refl _ _).alloc (Nat.le_refl _) _⟩
  case round =>
    obtain ⟨j, rfl, hj, HSE, hw⟩ := hrel
    have c1 := HC1.out wr hw
    by_cases hlt : j < len
    · obtain ⟨a, ha⟩ : ∃ a, d.ms[j]? = some a := ⟨_, List.getElem?_eq_getElem (by rw [← hlen.out]; exact hlt)⟩
      obtain ⟨has, kb, ko, rfl, hc⟩ := HG.out j a ha
      replace hc := hc wr hw
      obtain ⟨w1, hup, hse1, hgr⟩ := HSE.out.put (by unfold maxLen; omega) has
      have HS2 : Hid (SetIs w1 w.heap.size (j + 1) ((d.ms.take (j + 1)).map Pm.n)) := Lib.hid (by rw [names_take ha]; exact hse1)
      have HW1 : Hid (Below w.heap.size w w1) := Lib.hid (hw.grown hgr hw.size (fun k e => by cases e; exact Nat.le_refl _))
      clear ha has hse1 hgr
      go_wp2_with fail
      go_roundw
      case rel => exact ⟨j + 1, by go_num, by omega, HS2, HW1.out⟩
      case measure => simp [intOf]; omega
    · obtain rfl : j = len := by omega
      have HF : Hid (SetIs wr w.heap.size d.ms.length (d.ms.map Pm.n)) := Lib.hid (by
        have h := HSE.out
        rw [List.take_of_length_le (by rw [hlen.out]; exact Nat.le_refl _)] at h
        rw [← hlen.out]; exact h)
      go_wp2_with fail
      go_ret
      exact ⟨_, rfl, Nat.le_refl _, HF.out, hw⟩

set_option maxHeartbeats 4000000 in
set_option maxRecDepth 100000 in
theorem firstTwice_any (S : Nat → Prop) (v : Value) (ds : List Df) (w : World) (hS : Low S w) (hv : DfSl S w v ds) (r : Option Nat) (hr : twF ds = r) :
    Calls Tryz.prog 25 #[v] w fun e w' => e = .returned (.tuple #[.int .i64 ((r.getD 0 : Nat) : Int), .bool r.isSome]) ∧ Below w.heap.size w w' := by
  obtain ⟨pa, len, c, rfl, hlen, hmx, hget⟩ := hv.open
  have HS := Lib.hid hS
  have HG : Hid (∀ (j : Nat) (d : Df), ds[j]? = some d → d.n.size ≤ maxLen ∧ ∃ kb ko, pa = some ⟨kb, ko, none⟩ ∧ S kb ∧ kb < w.heap.size ∧ ∀ W, Below w.heap.size w W → DfAt S W d kb (ko + j * 14)) := Lib.hid (fun j d hj => by
    obtain ⟨kb, ko, e, hkb, ha⟩ := hget j d hj
    exact ⟨ha.1, kb, ko, e, hkb, hS kb hkb, fun W hW => DfAt.keep (hW.keeps'.mono hS) hkb ha⟩)
  have hmk := run_makeMap_hint
  have HR := Lib.hid hr
  clear hv hget hr hS
  go_enter Tryz.func25, Tryz.ntmps25
  go_wp2_with fail
  go_loopw [12] (fun i wr => ∃ (j : Nat), i = .int .i64 (j : Int) ∧ j ≤ len ∧ Hid (∀ i, i < j → twiceAt ds i = false) ∧ Hid (SetIs wr w.heap.size j ((ds.take j).map Df.n)) ∧ Below w.heap.size w wr) (fun i _ => len - (intOf i).toNat)
  case atStart => exact ⟨0, rfl, by omega, Lib.hid (fun i hi => by omega), Lib.hid (SetIs.made w), (Below.refl _ _).alloc (Nat.le_refl _) _⟩
  case round =>
    obtain ⟨j, rfl, hj, HT, HSE, hw⟩ := hrel
    by_cases hlt : j < len
    · obtain ⟨d, hd⟩ : ∃ d, ds[j]? = some d := ⟨_, List.getElem?_eq_getElem (by rw [← hlen.out]; exact hlt)⟩
      obtain ⟨hdn, kb, ko, rfl, hkS, hkl, hda⟩ := HG.out j d hd
      have c0 := (hda wr hw).2.1
      obtain ⟨mv, c1, hmv⟩ := (hda wr hw).2.2.1
      obtain ⟨ma, ml, mc, rfl, hml, _⟩ := hmv.open
      have hkw : kb < wr.heap.size := Nat.lt_of_lt_of_le hkl hw.size
      have hwd : Below w.heap.size w wr.drew := hw.drew
      obtain ⟨m, hm⟩ : ∃ m, memB d.n ((ds.take j).map Df.n) = m := ⟨_, rfl⟩
      have hsd : SetIs wr.drew w.heap.size j ((ds.take j).map Df.n) := HSE.out.below (Below.refl (w.heap.size + 1) wr).drew (Nat.lt_succ_self _)
      have hlk := hsd.look hdn
      rw [hm] at hlk
      have HTA : Hid (twiceAt ds j = (m || dups (d.ms.map Pm.n))) := Lib.hid (by unfold twiceAt; rw [hd]; simp only; rw [hm])
      have HJL : Hid (j < ds.length) := Lib.hid (List.getElem?_eq_some_iff.1 hd).1
      cases m
      · have HML := Lib.hid hml.out
        have HD : Hid (ds[j]? = some d) := Lib.hid hd
        have HDN := Lib.hid hdn
        have HKS := Lib.hid hkS
        have HSL : Hid (∀ W, Below wr.heap.size wr W → Low S W) := Lib.hid (fun W hW k hk => Nat.lt_of_lt_of_le (HS.out k hk) (Nat.le_trans hw.size hW.size))
        have HDA : Hid (∀ W, Below wr.heap.size wr W → DfAt S W d kb (ko + j * 14)) := Lib.hid (fun W hW => hda W (hw.trans (hW.mono hw.size)))
        have HSF : Hid (∀ W, Below wr.heap.size wr W → W.cell? ⟨kb, ko + j * 14, none⟩ = some (.string d.n) ∧ W.cell? ⟨kb, ko + j * 14 + 1, none⟩ = some (.slice ma ml mc) ∧ (Instr.lookup 67 (.map (some w.heap.size)) (.string d.n) false).run Tryz.prog W = .ok (.bool false) W) := Lib.hid (fun W hW => ⟨(hW.cell (p := ⟨kb, _, none⟩) hkw).trans c0, (hW.cell (p := ⟨kb, _, none⟩) hkw).trans c1, by have h := (HSE.out.below hW HSE.out.lt).look HDN.out; rwa [hm] at h⟩)
        have HB := Lib.hid (Below.refl wr.heap.size wr).drew
        clear hd hda hmv hml hm hsd hdn hkS hlk
        go_wp2_with fail
        have hlk := (HSF.out _ HB.out).2.2
        have hkw' := hkw
        go_region_with (go_at_call 29; with_reducible refine (paramNames_any S d kb (ko + j * 14) _ (HSL.out _ HB.out) HKS.out (HDA.out _ HB.out)).mono ?_; rintro e y ⟨mb, rfl, hmb, hset, hh⟩; obtain ⟨q, hq, hq1, hq2⟩ := hset.len'; rw [List.length_map, ← HML.out] at hq1 hq2; have HQ := Lib.hid (And.intro hq1 hq2); replace HB := Lib.hid (below_seq HB.out hh); obtain ⟨x0, x1, _⟩ := HSF.out _ HB.out; clear hset hh hq1 hq2 hmb)
        all_goals
          by_cases hql : q < ml
          · have hqd : decide ((q : Int) < (ml : Int)) = true := by simp; omega
            have HDU : Hid (dups (d.ms.map Pm.n) = true) := Lib.hid (HQ.out.2.1 hql)
            have HRR : Hid (r = some j) := Lib.hid (by rw [← HR.out]; exact range_find HJL.out HT.out (by rw [HTA.out, HDU.out]; rfl))
            have hqn : decide (q < ml) = true := by simpa using hql
            go_wp2_with fail
            go_ret2
            exact ⟨by rw [HRR.out]; rfl, hw.trans (HB.out.mono hw.size)⟩
          · have hqd : decide ((q : Int) < (ml : Int)) = false := by simp; omega
            have HDU : Hid (dups (d.ms.map Pm.n) = false) := Lib.hid (by
              cases h : dups (d.ms.map Pm.n) with
              | false => rfl
              | true => exact absurd (HQ.out.2.2 h) hql)
            have hst := HSE.out.below HB.out HSE.out.lt
            obtain ⟨x0, x1, _⟩ := HSF.out _ HB.out
            obtain ⟨w3, hup, hse3, hgr3⟩ := hst.put (by unfold maxLen; omega) HDN.out
            have HS3 : Hid (SetIs w3 w.heap.size (j + 1) ((ds.take (j + 1)).map Df.n)) := Lib.hid (by rw [dnames_take HD.out]; exact hse3)
            have HW3 : Hid (Below w.heap.size w w3) := Lib.hid ((hw.trans (HB.out.mono hw.size)).grown hgr3 (Nat.le_trans hw.size HB.out.size) (fun k e => by cases e; exact Nat.le_refl _))
            have HT' : Hid (∀ i, i < j + 1 → twiceAt ds i = false) := Lib.hid (fun i hi => by
              rcases Nat.lt_succ_iff_lt_or_eq.1 hi with h | rfl
              · exact HT.out i h
              · rw [HTA.out, HDU.out]; rfl)
            have hqn : decide (q < ml) = false := by simpa using hql
            clear hst hse3 hgr3
            go_wp2_with fail
            exact ⟨⟨j + 1, by go_num, by omega, HT', HS3, HW3.out⟩, by simp [intOf]; omega⟩
      · have HRR : Hid (r = some j) := Lib.hid (by rw [← HR.out]; exact range_find HJL.out HT.out (by rw [HTA.out]; rfl))
        have p0 : ∀ q : Later wr.heap.size wr, q.1.cell? ⟨kb, ko + j * 14, none⟩ = some (.string d.n) := fun q => (q.2.cell (p := ⟨kb, _, none⟩) hkw).trans c0
        have p1 : ∀ q : Later wr.heap.size wr, (Instr.lookup 67 (.map (some w.heap.size)) (.string d.n) false).run Tryz.prog q.1 = .ok (.bool true) q.1 := fun q => by have h := (HSE.out.below q.2 HSE.out.lt).look hdn; rwa [hm] at h
        clear hd hda hmv hml hm hsd hdn hlk c0 c1
        go_wp2_with fail
        refine wp_region_later wr.heap.size wr (by kernel_rfl) (by kernel_rfl) (Below.refl _ _) ?_
        repeat (go_big_quiet_step (fail))
        refine wpQuiet_nil ?_
        rintro _ ⟨⟨w5, hb5⟩, rfl⟩
        go_wp2_with fail
        go_ret2
        exact ⟨by rw [HRR.out]; rfl, hw.trans (hb5.mono hw.size)⟩
    · obtain rfl : j = len := by omega
      have HRR : Hid (r = none) := Lib.hid (by rw [← HR.out]; exact range_find_none (fun i hi => HT.out i (by rw [hlen.out]; exact hi)))
      go_wp2_with fail
      go_ret2
      exact ⟨by rw [HRR.out]; rfl, hw⟩

set_option maxHeartbeats 4000000 in
set_option maxRecDepth 100000 in
theorem aritiesOf_any (S : Nat → Prop) (v : Value) (ds : List Df) (w : World) (hS : Low S w) (hv : DfSl S w v ds) :
    Calls Tryz.prog 26 #[v] w fun e w' => ∃ mb, e = .returned (.map (some mb)) ∧ w.heap.size ≤ mb ∧ ArIs w' mb ds.length (arOf ds) ∧ Below w.heap.size w w' := by
  obtain ⟨pa, len, c, rfl, hlen, hmx, hget⟩ := hv.open
  have HG : Hid (∀ (j : Nat) (d : Df), ds[j]? = some d → d.n.size ≤ maxLen ∧ ∃ kb ko, pa = some ⟨kb, ko, none⟩ ∧ kb < w.heap.size ∧ ∀ W, Below w.heap.size w W → DfAt S W d kb (ko + j * 14)) := Lib.hid (fun j d hj => by
    obtain ⟨kb, ko, e, hkb, ha⟩ := hget j d hj
    exact ⟨ha.1, kb, ko, e, hS kb hkb, fun W hW => DfAt.keep (hW.keeps'.mono hS) hkb ha⟩)
  have hmk := run_makeMap_hintI
  clear hv hget hS
  go_enter Tryz.func26, Tryz.ntmps26
  go_wp2_with fail
  go_loopw [10] (fun i wr => ∃ (j : Nat), i = .int .i64 (j : Int) ∧ j ≤ len ∧ Hid (ArIs wr w.heap.size j (arOf (ds.take j))) ∧ Below w.heap.size w wr) (fun i _ => len - (intOf i).toNat)
  case atStart => exact ⟨0, rfl, by omega, Lib.hid (ArIs.made w), (Below.refl _ _).alloc (Nat.le_refl _) _⟩
  case round =>
    obtain ⟨j, rfl, hj, HSE, hw⟩ := hrel
    by_cases hlt : j < len
    · obtain ⟨d, hd⟩ : ∃ d, ds[j]? = some d := ⟨_, List.getElem?_eq_getElem (by rw [← hlen.out]; exact hlt)⟩
      obtain ⟨hdn, kb, ko, rfl, hkl, hda⟩ := HG.out j d hd
      have c0 := (hda wr hw).2.1
      obtain ⟨mv, c1, hmv⟩ := (hda wr hw).2.2.1
      obtain ⟨ma, ml, mc, rfl, hml, _⟩ := hmv.open
      have hkw : kb < wr.heap.size := Nat.lt_of_lt_of_le hkl hw.size
      have hsd : ArIs wr.drew w.heap.size j (arOf (ds.take j)) := HSE.out.below (Below.refl (w.heap.size + 1) wr).drew (Nat.lt_succ_self _)
      obtain ⟨w1, hup, hse1, hgr⟩ := hsd.put (by unfold maxLen; omega) hdn ml
      have HS2 : Hid (ArIs w1 w.heap.size (j + 1) (arOf (ds.take (j + 1)))) := Lib.hid (by
        obtain ⟨f, h1, h2⟩ := hse1
        exact ⟨f, h1, fun s => by rw [h2, take_snoc_get hd, arOf_snoc, hml.out]⟩)
      have HW1 : Hid (Below w.heap.size w w1) := Lib.hid (hw.drew.grown hgr (by simpa using hw.size) (fun k e => by cases e; exact Nat.le_refl _))
      clear hd hda hmv hml hsd hdn hse1 hgr
      go_wp2_with fail
      go_region_with fail
      all_goals
        go_wp2_with fail
        go_roundw
        case rel => exact ⟨j + 1, by go_num, by omega, HS2, HW1.out⟩
        case measure => simp [intOf]; omega
    · obtain rfl : j = len := by omega
      have HF : Hid (ArIs wr w.heap.size ds.length (arOf ds)) := Lib.hid (by
        have h := HSE.out
        rw [List.take_of_length_le (by rw [hlen.out]; exact Nat.le_refl _)] at h
        rw [← hlen.out]; exact h)
      go_wp2_with fail
      go_ret
      exact ⟨_, rfl, Nat.le_refl _, HF.out, hw⟩

end Go.Proofs.YtmedijheidbmhaaGreatDoor

/- Scopes: Check. -/
namespace Go.Proofs.YtmedijheidbmhaaGreatDoor
open Go.RowKit Go.Deep Go.Shelf

/-- A block with the two cells of a fault. -/
def Two2 (W : World) (b : Nat) (a0 a1 : Value) : Prop := W.heap[b]? = some (.cells #[a0, a1] 39 (0, 0))
section
variable {W W' : World} {b : Nat} {a0 a1 : Value}
theorem Two2.cells (h : Two2 W b a0 a1) : (W.cell? ⟨b, 0, none⟩ = some a0 ∧ W.cell? ⟨b, 1, none⟩ = some a1) ∧ W.frozen? ⟨b, 0, none⟩ = false ∧ W.frozen? ⟨b, 1, none⟩ = false := by
  unfold Two2 at h
  refine ⟨⟨?_, ?_⟩, ?_, ?_⟩ <;> simp [World.cell?, World.frozen?, h]
theorem Two2.lt (h : Two2 W b a0 a1) : b < W.heap.size := (Array.getElem?_eq_some_iff.1 h).1
theorem Two2.to (h : Two2 W b a0 a1) (hb : Below W.heap.size W W') : Two2 W' b a0 a1 := (hb.block b h.lt).trans h
theorem Two2.set0 (h : Two2 W b a0 a1) (v : Value) : Two2 (W.setCell ⟨b, 0, none⟩ v) b v a1 := set_block h 0 v
theorem Two2.set1 (h : Two2 W b a0 a1) (v : Value) : Two2 (W.setCell ⟨b, 1, none⟩ v) b a0 v := set_block h 1 v
end
theorem end_fault {b : Nat} {w W : World} {x y : Value} (hz : b = w.heap.size + 1) (hb : Below w.heap.size w W) (ht : Two2 W b (.int .i64 0) (.int .i64 0)) :
    Two2 ((W.setCell ⟨b, 0, none⟩ x).setCell ⟨b, 1, none⟩ y) b x y ∧ Below w.heap.size w ((W.setCell ⟨b, 0, none⟩ x).setCell ⟨b, 1, none⟩ y) := by
  subst hz
  exact ⟨(ht.set0 _).set1 _, (hb.setCell (p := ⟨w.heap.size + 1, 0, none⟩) (by simp) _).setCell (p := ⟨w.heap.size + 1, 1, none⟩) (by simp) _⟩

theorem pair_eq {a : Int × Nat} {ce x : Int} {ca i : Nat} (h : a = (ce, ca)) (k : a = (x, i)) : ce = x ∧ ca = i := by rw [h] at k; exact Prod.mk.inj k
theorem nset_names {w : World} {mb : Nat} {d : Df} (h : SetIs w mb d.ms.length (d.ms.map Pm.n)) : NSet w (some mb) (d.ms.map Pm.n) := .inr ⟨mb, rfl, by rw [List.length_map]; exact h⟩

set_option maxHeartbeats 8000000 in
set_option maxRecDepth 100000 in
theorem check_any (E : Nat) (B : Nat → Prop) (g : Pg) (hg : GGood g) (v : Value) (w : World) (hB : Low B w) (he : Env E w) (hv : PgVal B w v g) (ce : Int) (ca : Nat) (hc : g.chk = (ce, ca)) :
    Calls Tryz.prog 9 #[v] w fun e w' => e = .returned (.agg #[.int .i64 ce, .int .i64 (ca : Int)]) ∧ Below w.heap.size w w' := by
  obtain ⟨dv, lv, av, tl, tk, kv, rfl, hd, hp⟩ := hv
  have hd0 := hd
  obtain ⟨⟨la, ln, lc, rfl⟩, ⟨aa, an, ac, rfl⟩, ⟨ta, tn, tc, rfl⟩, ⟨ua, un, uc, rfl⟩, ka, kn, kc, rfl⟩ := pr_slices hp
  obtain ⟨pa, len, c, rfl, hlen, hmx, hget⟩ := hd.open
  obtain ⟨W0, hW0⟩ : ∃ W0, (w.alloc (cell13 g (.slice pa len c) (.slice la ln lc) (.slice aa an ac) (.slice ta tn tc) (.slice ua un uc) (.slice ka kn kc))).alloc (.cells #[.int .i64 0, .int .i64 0] 39) = W0 := ⟨_, rfl⟩
  have hb0 : Below w.heap.size w W0 := by rw [← hW0]; exact (blkBelow w _ _).alloc (by simp) _
  have hb1 : Below (w.heap.size + 1) (w.alloc (cell13 g (.slice pa len c) (.slice la ln lc) (.slice aa an ac) (.slice ta tn tc) (.slice ua un uc) (.slice ka kn kc))) W0 := by rw [← hW0]; exact (Below.refl _ _).alloc (by simp) _
  have hpg := boxed_pgAt (S := fun k => B k ∨ k = w.heap.size) hB hd hp hb1 (fun _ h => .inl h) (.inr rfl)
  have hsz : W0.heap.size = w.heap.size + 2 := by rw [← hW0]; simp
  have hS : Low (fun k => B k ∨ k = w.heap.size) W0 := fun k h => h.elim (fun h => by have := hB k h; omega) (fun h => by omega)
  have ht0 : Two2 W0 (w.heap.size + 1) (.int .i64 0) (.int .i64 0) := by rw [← hW0]; have h := World.alloc_heap_new (w.alloc (cell13 g (.slice pa len c) (.slice la ln lc) (.slice aa an ac) (.slice ta tn tc) (.slice ua un uc) (.slice ka kn kc))) (.cells #[.int .i64 0, .int .i64 0] 39); rwa [World.size_alloc] at h
  have HW : Hid (∀ W, Below W0.heap.size W0 W → PgAt (fun k => B k ∨ k = w.heap.size) W g w.heap.size 0 ∧ Low (fun k => B k ∨ k = w.heap.size) W ∧ Two2 W (w.heap.size + 1) (.int .i64 0) (.int .i64 0) ∧ DfSl (fun k => B k ∨ k = w.heap.size) W (.slice pa len c) g.ds ∧ W.cell? ⟨w.heap.size, 0, none⟩ = some (.slice pa len c) ∧ Below w.heap.size w W) := Lib.hid (fun W hW => by
    refine ⟨hpg.keep (hW.keeps'.mono hS), hS.le hW.size, ht0.to hW, ?_, ?_, below_seq hb0 hW⟩
    · exact (hd0.keep ((below_seq hb0 hW).keeps'.mono hB)).mono (fun _ h => .inl h)
    · exact (hW.cell (p := ⟨w.heap.size, 0, none⟩) (by simp only; omega)).trans (blk_cell hb1 0 rfl))
  have HD : Hid (∀ (j : Nat) (d : Df), g.ds[j]? = some d → ∃ kb ko, pa = some ⟨kb, ko, none⟩ ∧ B kb ∧ kb < w.heap.size ∧ d.b.depth ≤ 1000 ∧ ∀ W, Below W0.heap.size W0 W → DfAt (fun k => B k ∨ k = w.heap.size) W d kb (ko + j * 14)) := Lib.hid (fun j d hj => by
    obtain ⟨kb, ko, e, hkb, hda⟩ := hget j d hj
    refine ⟨kb, ko, e, hkb, hB kb hkb, ?_, fun W hW => (DfAt.keep ((below_seq hb0 hW).keeps'.mono hB) hkb hda).mono (fun _ h => .inl h)⟩
    exact (hg.2.2 d.b (by unfold Pg.bodies; simp; exact .inl ⟨d, List.mem_of_getElem? hj, rfl⟩)).2.1)
  have hmd : g.m.depth ≤ 1000 := (hg.2.2 g.m (by unfold Pg.bodies; simp)).2.1
  obtain ⟨x, hx⟩ : ∃ x, pprogE g = x := ⟨_, rfl⟩
  have HP : Hid (Calls Tryz.prog 24 #[pgAgg g (.slice pa len c) (.slice la ln lc) (.slice aa an ac) (.slice ta tn tc) (.slice ua un uc) (.slice ka kn kc)] W0 fun e w' => e = .returned (.int .i64 x) ∧ Below W0.heap.size W0 w') := Lib.hid (by
    rw [← hx]
    exact pprogram_any E B g hg _ W0 (fun k hk => by have := hB k hk; omega) (he.to hb0) (PgVal.to hB hb0 ⟨_, _, _, _, _, _, rfl, hd0, hp⟩))
  have HW0 := Lib.hid hW0
  have HC := Lib.hid hc
  have HX := Lib.hid hx
  have hwz : w.heap.size + 2 ≤ W0.heap.size := by omega
  obtain ⟨S, hSS⟩ : ∃ S : Nat → Prop, (fun k => B k ∨ k = w.heap.size) = S := ⟨_, rfl⟩
  have hBS : ∀ k, B k → S k := fun k hk => by rw [← hSS]; exact .inl hk
  have HBS := Lib.hid hBS
  rw [hSS] at HW HD
  unfold pgAgg at HP
  clear hp hd hd0 hget hg hB he hW0 hb0 hb1 hpg hsz hS ht0 hc hx hSS hBS
  go_enter Tryz.func9, Tryz.ntmps9
  go_wp2_with fail
  refine scalls_at HW0.out ?_
  refine HP.out.mono ?_
  rintro e w2 ⟨rfl, hb2⟩
  have HB2 := Lib.hid hb2
  clear hb2
  by_cases h0 : x = 0
  · subst h0
    obtain ⟨_, hS2, ht2, hdf2, cz, _⟩ := HW.out w2 HB2.out
    have hzw : w.heap.size < w2.heap.size := by have := HB2.out.size; omega
    obtain ⟨tw, htw⟩ : ∃ x, twF g.ds = x := ⟨_, rfl⟩
    have HFT := Lib.hid (firstTwice_any S _ g.ds w2 hS2 hdf2 tw htw)
    have HTW := Lib.hid htw
    clear hS2 ht2 hdf2 htw
    cases tw with
    | some i =>
      obtain ⟨rfl, rfl⟩ := pair_eq HC.out (Pg.chk_2 HX.out HTW.out)
      simp only [Option.getD, Option.isSome] at HFT
      go_wp2_with fail
      refine HFT.out.mono ?_
      rintro e w3 ⟨rfl, hb3⟩
      have HB3 : Hid (Below W0.heap.size W0 w3) := Lib.hid (below_seq HB2.out hb3)
      obtain ⟨_, _, ht3, _, _, hbb⟩ := HW.out w3 HB3.out
      obtain ⟨⟨q0, q1⟩, f0, f1⟩ := ht3.cells
      have HT3 := Lib.hid (And.intro hbb ht3)
      clear ht3 hb3 cz hbb
      go_wp2_with fail
      obtain ⟨t9, b9⟩ := end_fault (x := .int .i64 5) (y := .int .i64 (ca : Int)) rfl HT3.out.1 HT3.out.2
      obtain ⟨⟨r0, r1⟩, _⟩ := t9.cells
      clear q0 q1 f0 f1
      refine bodyPost_ret (v := .agg #[.int .i64 5, .int .i64 (ca : Int)]) (by simp [results, Tryz.results9, go_sem, r0, r1]) rfl ⟨rfl, b9⟩
    | none =>
      simp only [Option.getD, Option.isSome] at HFT
      go_wp2_with fail
      refine HFT.out.mono ?_
      rintro e w3 ⟨rfl, hb3⟩
      have HB3 : Hid (Below W0.heap.size W0 w3) := Lib.hid (below_seq HB2.out hb3)
      obtain ⟨_, hS3, _, hdf3, cz, _⟩ := HW.out w3 HB3.out
      have hzw3 : w.heap.size < w3.heap.size := by have := HB3.out.size; omega
      have HAR := Lib.hid (aritiesOf_any S _ g.ds w3 hS3 hdf3)
      clear hS3 hdf3 hb3
      go_wp2_with fail
      refine HAR.out.mono ?_
      rintro e w4 ⟨mb, rfl, hmb, har, hb4⟩
      have HB4 : Hid (Below W0.heap.size W0 w4) := Lib.hid (below_seq HB3.out hb4)
      have HAR4 := Lib.hid har
      obtain ⟨_, _, _, _, cz, _⟩ := HW.out w4 HB4.out
      have hzw4 : w.heap.size + 2 ≤ w4.heap.size := by have := HB4.out.size; omega
      clear hb4 har hmb HAR HFT
      go_wp2_with fail
      clear cz
      go_loopw [32] (fun i wr => ∃ j : Nat, i = .int .i64 (j : Int) ∧ j ≤ len ∧ Hid (∀ k, k < j → g.bE (arOf g.ds) k = 0) ∧ Hid (Below w4.heap.size w4 wr)) (fun i _ => len - (intOf i).toNat)
      case atStart => exact ⟨0, rfl, by omega, Lib.hid (fun k hk => by omega), Lib.hid (Below.refl _ _)⟩
      case round =>
        obtain ⟨j, rfl, hj, HT, HBj⟩ := hrel
        obtain ⟨wo, hwo⟩ : ∃ wo, wo = wr := ⟨_, rfl⟩
        subst hwo
        have HBW : Hid (∀ W, Below wo.heap.size wo W → Below W0.heap.size W0 W ∧ ArIs W mb g.ds.length (arOf g.ds)) := Lib.hid (fun W hW => ⟨below_seq (below_seq HB4.out HBj.out) hW, HAR4.out.to (below_seq HBj.out hW)⟩)
        have HB := Lib.hid (Below.refl wo.heap.size wo)
        obtain ⟨hpgo, _, _, _, cz, _⟩ := HW.out wo (HBW.out wo HB.out).1
        have hzo : w.heap.size + 2 ≤ wo.heap.size := by have := HBj.out.size; omega
        have hzo1 : w.heap.size < wo.heap.size := by omega
        by_cases hlt : j < len
        · obtain ⟨d, hdj⟩ : ∃ d, g.ds[j]? = some d := ⟨_, List.getElem?_eq_getElem (by rw [← hlen.out]; exact hlt)⟩
          obtain ⟨kb, ko, rfl, hkB, hkl, hdep, hda⟩ := HD.out j d hdj
          obtain ⟨y, hy⟩ : ∃ y, d.b.scE (arOf g.ds) (d.ms.map Pm.n) false = y := ⟨_, rfl⟩
          have HBE : Hid (g.bE (arOf g.ds) j = y) := Lib.hid (by rw [Pg.bE_def hdj]; exact hy)
          have HY := Lib.hid hy
          have HDA := Lib.hid hda
          have HKB := Lib.hid hkB
          have HDP := Lib.hid hdep
          have hkw : kb < wo.heap.size := by omega
          have HJ : Hid (j ≤ g.ds.length) := Lib.hid (by rw [← hlen.out]; exact hj)
          replace HB := Lib.hid (Below.refl wo.heap.size wo).drew
          clear hdj hkB hdep hda hy hpgo
          go_wp2_with fail
          go_region_with (first
            | (go_at_call 29; refine (paramNames_any S d kb (ko + j * 14) _ (HW.out _ (HBW.out _ HB.out).1).2.1 (HBS.out _ HKB.out) (HDA.out _ (HBW.out _ HB.out).1)).mono ?_; rintro e y1 ⟨mb1, rfl, hmb1, hset1, hh1⟩; have HS1 := Lib.hid hset1; replace HB := Lib.hid (below_seq HB.out hh1); clear hset1 hh1 hmb1)
            | (go_at_call 28; refine (placeOfBody_any (some mb1) (d.ms.map Pm.n) false _ (nset_names HS1.out)).mono ?_; rintro e y2 ⟨aq, rfl, hpl, hh2⟩; have HPL := Lib.hid hpl; replace HB := Lib.hid (below_seq HB.out hh2); clear hpl hh2)
            | (go_at_call 27; refine (bodyError_any S d.b kb (ko + j * 14 + 2) (some mb1) aq false (d.ms.map Pm.n) 0 mb g.ds.length (arOf g.ds) _ (HW.out _ (HBW.out _ HB.out).1).2.1 (HDA.out _ (HBW.out _ HB.out).1).2.2.2 HPL.out (HBW.out _ HB.out).2 (by have := HDP.out; omega) y HY.out).mono ?_; rintro e y3 ⟨rfl, hh3⟩; replace HB := Lib.hid (below_seq HB.out hh3); clear hh3))
          all_goals
            by_cases hy0 : y = 0
            · subst hy0
              have HT' : Hid (∀ k, k < j + 1 → g.bE (arOf g.ds) k = 0) := Lib.hid (fun k hk => by
                rcases Nat.lt_succ_iff_lt_or_eq.1 hk with h | rfl
                · exact HT.out k h
                · exact HBE.out)
              go_wp2_with fail
              go_roundw
              case rel => exact ⟨j + 1, by go_num, by omega, HT', Lib.hid (below_seq HBj.out HB.out)⟩
              case measure => simp [intOf]; omega
            · have hy1 : (y != 0) = true := by simpa using hy0
              obtain ⟨rfl, rfl⟩ := pair_eq HC.out (Pg.chk_3 HX.out HTW.out HJ.out HT.out HBE.out hy0)
              obtain ⟨_, _, ht3, _, _, hbb⟩ := HW.out _ (HBW.out _ HB.out).1
              obtain ⟨⟨q0, q1⟩, f0, f1⟩ := ht3.cells
              have HT3 := Lib.hid (And.intro hbb ht3)
              clear hy0 ht3 hbb cz
              go_wp2_with fail
              obtain ⟨t9, b9⟩ := end_fault (x := .int .i64 ce) (y := .int .i64 (ca : Int)) rfl HT3.out.1 HT3.out.2
              obtain ⟨⟨r0, r1⟩, _⟩ := t9.cells
              clear q0 q1 f0 f1
              refine bodyPost_ret (v := .agg #[.int .i64 ce, .int .i64 (ca : Int)]) (by simp [results, Tryz.results9, go_sem, r0, r1]) rfl ⟨rfl, b9⟩
        · obtain rfl : j = len := by omega
          have HPM : Hid (∀ W, Below wo.heap.size wo W → PrAt S W g.m w.heap.size 1) := Lib.hid (fun W hW => (HW.out W (HBW.out W hW).1).1.2.2)
          obtain ⟨y, hy⟩ : ∃ y, g.m.scE (arOf g.ds) [] true = y := ⟨_, rfl⟩
          have HBE : Hid (g.bE (arOf g.ds) g.ds.length = y) := Lib.hid (by rw [Pg.bE_main]; exact hy)
          have HY := Lib.hid hy
          have HMD := Lib.hid hmd
          clear hpgo hy cz
          have hn0 : NSet wo none [] := .inl ⟨rfl, rfl⟩
          have HN0 := Lib.hid hn0
          clear hn0
          go_wp2_with fail
          refine (placeOfBody_any none [] true wo HN0.out).mono ?_
          rintro e w6 ⟨aq, rfl, hpl, hh6⟩
          have HB6 := Lib.hid hh6
          have HPL := Lib.hid hpl
          clear hpl hh6
          go_wp2_with fail
          refine (bodyError_any S g.m w.heap.size 1 none aq true [] 0 mb g.ds.length (arOf g.ds) w6 (HW.out _ (HBW.out _ HB6.out).1).2.1 (HPM.out _ HB6.out) HPL.out (HBW.out _ HB6.out).2 (by have := HMD.out; omega) y HY.out).mono ?_
          rintro e w7 ⟨rfl, hh7⟩
          have HB7 := Lib.hid (below_seq HB6.out hh7)
          clear hh7
          obtain ⟨_, _, ht3, _, cz, hbb⟩ := HW.out _ (HBW.out _ HB7.out).1
          obtain ⟨⟨q0, q1⟩, f0, f1⟩ := ht3.cells
          have HT3 := Lib.hid (And.intro hbb ht3)
          clear ht3 hbb
          have HTL : Hid (∀ k, k < g.ds.length → g.bE (arOf g.ds) k = 0) := Lib.hid (fun k hk => HT.out k (by rw [hlen.out]; exact hk))
          by_cases hy0 : y = 0
          · subst hy0
            obtain ⟨rfl, rfl⟩ := pair_eq HC.out (Pg.chk_4 HX.out HTW.out (fun k hk => by
              rcases Nat.lt_or_eq_of_le hk with h | rfl
              · exact HTL.out k h
              · exact HBE.out))
            clear cz
            go_wp2_with fail
            obtain ⟨t9, b9⟩ := end_fault (x := .int .i64 0) (y := .int .i64 0) rfl HT3.out.1 HT3.out.2
            obtain ⟨⟨r0, r1⟩, _⟩ := t9.cells
            clear q0 q1 f0 f1
            refine bodyPost_ret (v := .agg #[.int .i64 0, .int .i64 0]) (by simp [results, Tryz.results9, go_sem, r0, r1]) rfl ⟨rfl, b9⟩
          · have hy1 : (y != 0) = true := by simpa using hy0
            obtain ⟨rfl, hca⟩ := pair_eq HC.out (Pg.chk_3 HX.out HTW.out (Nat.le_refl _) HTL.out HBE.out hy0)
            obtain rfl : ca = j := by rw [hca, hlen.out]
            clear hy0 hca
            go_wp2_with fail
            obtain ⟨t9, b9⟩ := end_fault (x := .int .i64 ce) (y := .int .i64 (ca : Int)) rfl HT3.out.1 HT3.out.2
            obtain ⟨⟨r0, r1⟩, _⟩ := t9.cells
            clear q0 q1 f0 f1
            refine bodyPost_ret (v := .agg #[.int .i64 ce, .int .i64 (ca : Int)]) (by simp [results, Tryz.results9, go_sem, r0, r1]) rfl ⟨rfl, b9⟩
  · have h1 : (x != 0) = true := by simpa using h0
    obtain ⟨rfl, rfl⟩ := pair_eq HC.out (by rw [Pg.chk_1 (by rw [HX.out]; exact h0), HX.out])
    obtain ⟨_, _, ht3, _, _, hbb⟩ := HW.out _ HB2.out
    obtain ⟨⟨q0, q1⟩, f0, f1⟩ := ht3.cells
    have HT3 := Lib.hid (And.intro hbb ht3)
    clear ht3 hbb h0
    go_wp2_with fail
    obtain ⟨t9, b9⟩ := end_fault (x := .int .i64 ce) (y := .int .i64 0) rfl HT3.out.1 HT3.out.2
    obtain ⟨⟨r0, r1⟩, _⟩ := t9.cells
    clear q0 q1 f0 f1
    refine bodyPost_ret (v := .agg #[.int .i64 ce, .int .i64 0]) (by simp [results, Tryz.results9, go_sem, r0, r1]) rfl ⟨rfl, b9⟩

end Go.Proofs.YtmedijheidbmhaaGreatDoor

/- Processes: the reference's name, value, plain. -/
namespace Go.Proofs.YtmedijheidbmhaaGreatDoor
open Go.RowKit Go.Deep Go.Shelf

set_option maxHeartbeats 400000 in
theorem rpname_any (x : ByteArray) (b : Bool) (hb : nameB x = b) (hx : x.size ≤ maxLen) (w : World) : Calls Tryz.prog 35 #[.string x] w fun e w' => e = .returned (.bool b) ∧ Below w.heap.size w w' := by
  have HN := Lib.hid (fun W => name_is x b hb (by unfold maxLen at hx; omega) W)
  clear hb hx
  go_enter Tryz.func35, Tryz.ntmps35
  go_wp2_with (go_at_call 53; refine (HN.out _).mono ?_; rintro e w2 ⟨rfl, hb2⟩)
  go_ret
  exact ⟨rfl, hb2⟩

set_option maxHeartbeats 2000000 in
set_option maxRecDepth 100000 in
theorem rvalue_any (k y : Int) (n : ByteArray) (b : Bool) (hb : vlB ⟨k, n, y⟩ = b) (hn : n.size ≤ maxLen) (w : World) : Calls Tryz.prog 98 #[.agg #[.int .i64 k, .string n, .int .i64 y]] w fun e w' => e = .returned (.bool b) ∧ Below w.heap.size w w' := by
  obtain ⟨nb, hnb⟩ : ∃ b, nameB n = b := ⟨_, rfl⟩
  have HN := Lib.hid (fun W => rpname_any n nb hnb hn W)
  have hv : vlB ⟨k, n, y⟩ = if k = 1 then nb && y == 0 else if k = 2 then n.toList.isEmpty else if k = 3 then n.toList.isEmpty && (y == 0 || y == 1) else false := by unfold vlB; simp only [hnb]
  rw [← hb, hv]
  clear hv hnb hb hn
  by_cases h1 : k = 1
  · subst h1
    rw [if_pos rfl]
    go_enter Tryz.func98, Tryz.ntmps98
    go_wp2_with (go_at_call 35; refine (HN.out _).mono ?_; rintro e w2 ⟨rfl, hb2⟩; obtain ⟨hcl, hfz⟩ := bcell hb2)
    all_goals (go_ret; refine ⟨ret_bool ?_, ?_⟩; rotate_left; (first | exact blkBelow w _ _ | exact below_seq (blkBelow w _ _) (by assumption)); clear HN; (try simp_all); (try (rw [Bool.eq_iff_iff]; simp)); (try omega))
  · by_cases h2 : k = 2
    · subst h2
      rw [if_neg h1, if_pos rfl]
      go_enter Tryz.func98, Tryz.ntmps98
      go_wp2_with fail
      all_goals (go_ret; refine ⟨ret_bool ?_, ?_⟩; rotate_left; (first | exact blkBelow w _ _ | exact below_seq (blkBelow w _ _) (by assumption)); clear HN; (try simp_all); (try (rw [Bool.eq_iff_iff]; simp)); (try omega))
    · by_cases h3 : k = 3
      · subst h3
        rw [if_neg h1, if_neg h2, if_pos rfl]
        go_enter Tryz.func98, Tryz.ntmps98
        go_wp2_with fail
        all_goals (go_ret; refine ⟨ret_bool ?_, ?_⟩; rotate_left; (first | exact blkBelow w _ _ | exact below_seq (blkBelow w _ _) (by assumption)); clear HN; (try simp_all); (try (rw [Bool.eq_iff_iff]; simp)); (try omega))
      · rw [if_neg h1, if_neg h2, if_neg h3]
        have e1 : (k == 1) = false := by simpa using h1
        have e2 : (k == 2) = false := by simpa using h2
        have e3 : (k == 3) = false := by simpa using h3
        clear h1 h2 h3
        go_enter Tryz.func98, Tryz.ntmps98
        go_wp2_with fail
        all_goals (go_ret; refine ⟨ret_bool ?_, ?_⟩; rotate_left; (first | exact blkBelow w _ _ | exact below_seq (blkBelow w _ _) (by assumption)); clear HN; (try simp_all); (try (rw [Bool.eq_iff_iff]; simp)); (try omega))

set_option maxHeartbeats 1000000 in
set_option maxRecDepth 100000 in
theorem rplain_any (B : Nat → Prop) (p : Pr) (b : Bool) (hb : eqB p.t default = b) (v : Value) (w : World) (hB : Low B w) (hv : PrVal B w v p) : Calls Tryz.prog 99 #[v] w fun e w' => e = .returned (.bool b) ∧ Below w.heap.size w w' := by
  obtain ⟨lv, av, tl, tk, kv, rfl, _, hl, ha, ht, hk⟩ := hv
  obtain ⟨⟨ta, tn, tc, rfl⟩, ua, un, uc, rfl⟩ := slices_of ht
  have HY : Hid (∀ W, Below w.heap.size w W → Calls Tryz.prog 117 #[.agg #[.int .i64 p.t.k, .int .i64 p.t.p, .string p.t.n, .int .i64 p.t.s, .slice ta tn tc, .slice ua un uc], .agg #[.int .i64 0, .int .i64 0, .string ⟨#[]⟩, .int .i64 0, .slice none 0 0, .slice none 0 0]] W fun e w' => e = .returned (.bool b) ∧ Below W.heap.size W w') := Lib.hid (fun W hW => by
    rw [← hb]; exact rsame_any B p.t default _ _ W (hB.le hW.size) (ht.keep (hW.keeps'.mono hB)) (tyVal_zero B W))
  obtain ⟨la, ln, lc, rfl, _⟩ := hl.open
  obtain ⟨aa, an, ac, rfl, _⟩ := ha.open
  obtain ⟨ka, kn, kc, rfl, _⟩ := hk.open
  clear hb ht hl ha hk
  unfold prAgg
  go_enter Tryz.func99, Tryz.ntmps99
  go_wp2_with (go_at_call 117; refine (HY.out _ (blkBelow w _ _)).mono ?_; rintro e w2 ⟨rfl, hb2⟩)
  go_ret
  exact ⟨rfl, below_seq (blkBelow w _ _) hb2⟩

theorem gnext {w wr w2 : World} {cs : Array Value} {t : TypeId} (h : Below (w.heap.size + 1) (w.alloc (.cells cs t)) wr) (g : Below wr.heap.size wr w2) : Below (w.heap.size + 1) (w.alloc (.cells cs t)) w2 :=
  h.trans (g.mono (by have := h.size; simpa using this))

end Go.Proofs.YtmedijheidbmhaaGreatDoor

/- Processes: what a node of each kind has to be, in the reference's order. -/
namespace Go.Proofs.YtmedijheidbmhaaGreatDoor
open Go.RowKit Go.Deep Go.Shelf

theorem vlsB_nil {vs : List Vl} (h : decide (vs.length = 0) = true) : vlsB vs = true := by
  obtain rfl : vs = [] := List.eq_nil_of_length_eq_zero (of_decide_eq_true h)
  simp [vlsB]
theorem labelsB_one {ls : List ByteArray} {s : ByteArray} (h : ls = [s]) : labelsB ls = nameB s := by subst h; simp [labelsB]

theorem okN_1 (c x : ByteArray) (ls : List ByteArray) (vs : List Vl) (t : Ty) (ps : List Pr) :
    (Pr.mk 1 c x ls vs t ps).okN = (vlsB vs && (c.toList.isEmpty && (x.toList.isEmpty && (decide (vs.length = 0) && (decide (ls.length = 0) && (decide (ps.length = 0) && eqB t default)))))) := by
  have e : (Pr.mk 1 c x ls vs t ps).okN = (true && (c.toList.isEmpty && ((x.toList.isEmpty) && ((decide (ls.length = 0)) && ((decide (vs.length = 0)) && ((eqB t default) && (decide (ps.length = 0)))))))) := rfl
  have h0 := @vlsB_nil vs
  rw [e]
  clear e
  generalize c.toList.isEmpty = a3 at *
  generalize x.toList.isEmpty = a4 at *
  generalize (decide (vs.length = 0)) = a5 at *
  generalize (decide (ls.length = 0)) = a7 at *
  generalize (decide (ps.length = 0)) = b3 at *
  generalize (eqB t default) = b8 at *
  generalize (vlsB vs) = c1 at *
  revert h0 a3 a4 a5 a7 b3 b8 c1
  decide
theorem okN_2 (c x : ByteArray) (ls : List ByteArray) (vs : List Vl) (t : Ty) (ps : List Pr) :
    (Pr.mk 2 c x ls vs t ps).okN = (vlsB vs && (nameB c && (x.toList.isEmpty && (decide (vs.length = 1) && (decide (ls.length = 0) && (decide (ps.length = 1) && eqB t default)))))) := by
  have e : (Pr.mk 2 c x ls vs t ps).okN = (true && (nameB c && ((x.toList.isEmpty) && ((decide (ls.length = 0)) && ((decide (vs.length = 1) && vlsB vs) && ((eqB t default) && (decide (ps.length = 1)))))))) := rfl
  have h0 := @vlsB_nil vs
  rw [e]
  clear e
  generalize (nameB c) = a1 at *
  generalize x.toList.isEmpty = a4 at *
  generalize (decide (vs.length = 0)) = a5 at *
  generalize (decide (vs.length = 1)) = a6 at *
  generalize (decide (ls.length = 0)) = a7 at *
  generalize (decide (ps.length = 1)) = b4 at *
  generalize (eqB t default) = b8 at *
  generalize (vlsB vs) = c1 at *
  revert h0 a1 a4 a5 a6 a7 b4 b8 c1
  decide
theorem okN_3 (c x : ByteArray) (ls : List ByteArray) (vs : List Vl) (t : Ty) (ps : List Pr) :
    (Pr.mk 3 c x ls vs t ps).okN = (vlsB vs && (nameB c && (nameB x && (decide (vs.length = 0) && (decide (ls.length = 0) && (decide (ps.length = 1) && eqB t default)))))) := by
  have e : (Pr.mk 3 c x ls vs t ps).okN = (true && (nameB c && ((nameB x) && ((decide (ls.length = 0)) && ((decide (vs.length = 0)) && ((eqB t default) && (decide (ps.length = 1)))))))) := rfl
  have h0 := @vlsB_nil vs
  rw [e]
  clear e
  generalize (nameB c) = a1 at *
  generalize (nameB x) = a2 at *
  generalize (decide (vs.length = 0)) = a5 at *
  generalize (decide (ls.length = 0)) = a7 at *
  generalize (decide (ps.length = 1)) = b4 at *
  generalize (eqB t default) = b8 at *
  generalize (vlsB vs) = c1 at *
  revert h0 a1 a2 a5 a7 b4 b8 c1
  decide
theorem okN_4 (c x : ByteArray) (ls : List ByteArray) (vs : List Vl) (t : Ty) (ps : List Pr) :
    (Pr.mk 4 c x ls vs t ps).okN = (vlsB vs && (nameB c && (x.toList.isEmpty && (decide (vs.length = 0) && (decide (ls.length = 1) && (labelsB ls && (decide (ps.length = 1) && eqB t default))))))) := by
  have e : (Pr.mk 4 c x ls vs t ps).okN = (true && (nameB c && ((x.toList.isEmpty) && ((decide (ls.length = 1) && labelsB ls) && ((decide (vs.length = 0)) && ((eqB t default) && (decide (ps.length = 1)))))))) := rfl
  have h0 := @vlsB_nil vs
  rw [e]
  clear e
  generalize (nameB c) = a1 at *
  generalize x.toList.isEmpty = a4 at *
  generalize (decide (vs.length = 0)) = a5 at *
  generalize (decide (ls.length = 1)) = a8 at *
  generalize (labelsB ls) = b1 at *
  generalize (decide (ps.length = 1)) = b4 at *
  generalize (eqB t default) = b8 at *
  generalize (vlsB vs) = c1 at *
  revert h0 a1 a4 a5 a8 b1 b4 b8 c1
  decide
theorem okN_5 (c x : ByteArray) (ls : List ByteArray) (vs : List Vl) (t : Ty) (ps : List Pr) :
    (Pr.mk 5 c x ls vs t ps).okN = (vlsB vs && (nameB c && (x.toList.isEmpty && (decide (vs.length = 0) && (decide (0 < ls.length) && (labelsB ls && (decide (ps.length = ls.length) && eqB t default))))))) := by
  have e : (Pr.mk 5 c x ls vs t ps).okN = (true && (nameB c && ((x.toList.isEmpty) && ((labelsB ls && decide (0 < ls.length)) && ((decide (vs.length = 0)) && ((eqB t default) && (decide (ps.length = ls.length)))))))) := rfl
  have h0 := @vlsB_nil vs
  rw [e]
  clear e
  generalize (nameB c) = a1 at *
  generalize x.toList.isEmpty = a4 at *
  generalize (decide (vs.length = 0)) = a5 at *
  generalize (labelsB ls) = b1 at *
  generalize (decide (0 < ls.length)) = b2 at *
  generalize (decide (ps.length = ls.length)) = b5 at *
  generalize (eqB t default) = b8 at *
  generalize (vlsB vs) = c1 at *
  revert h0 a1 a4 a5 b1 b2 b5 b8 c1
  decide
theorem okN_6 (c x : ByteArray) (ls : List ByteArray) (vs : List Vl) (t : Ty) (ps : List Pr) :
    (Pr.mk 6 c x ls vs t ps).okN = (vlsB vs && (nameB c && (nameB x && (!decide (x = c) && (decide (vs.length = 0) && (decide (ls.length = 0) && (decide (ps.length = 1) && (rightE t == 0 && (t.k != 1 && t.k != 2))))))))) := by
  have e : (Pr.mk 6 c x ls vs t ps).okN = (true && (nameB c && ((nameB x && !decide (x = c)) && ((decide (ls.length = 0)) && ((decide (vs.length = 0)) && (((t.k != 1 && t.k != 2) && rightE t == 0) && (decide (ps.length = 1)))))))) := rfl
  have h0 := @vlsB_nil vs
  rw [e]
  clear e
  generalize (nameB c) = a1 at *
  generalize (nameB x) = a2 at *
  generalize (decide (vs.length = 0)) = a5 at *
  generalize (decide (ls.length = 0)) = a7 at *
  generalize (decide (ps.length = 1)) = b4 at *
  generalize (vlsB vs) = c1 at *
  generalize (decide (x = c)) = c2 at *
  generalize (rightE t == 0) = c3 at *
  generalize (t.k != 1 && t.k != 2) = c4 at *
  revert h0 a1 a2 a5 a7 b4 c1 c2 c3 c4
  decide
theorem okN_7 (c x : ByteArray) (ls : List ByteArray) (vs : List Vl) (t : Ty) (ps : List Pr) :
    (Pr.mk 7 c x ls vs t ps).okN = (vlsB vs && (decide (∀ p ∈ ps, p.k ≠ 7) && (c.toList.isEmpty && (x.toList.isEmpty && (decide (vs.length = 0) && (decide (ls.length = 0) && (decide (1 < ps.length) && eqB t default))))))) := by
  have e : (Pr.mk 7 c x ls vs t ps).okN = (true && (c.toList.isEmpty && ((x.toList.isEmpty) && ((decide (ls.length = 0)) && ((decide (vs.length = 0)) && ((eqB t default) && (decide (∀ p ∈ ps, p.k ≠ 7) && decide (1 < ps.length)))))))) := rfl
  have h0 := @vlsB_nil vs
  rw [e]
  clear e
  generalize c.toList.isEmpty = a3 at *
  generalize x.toList.isEmpty = a4 at *
  generalize (decide (vs.length = 0)) = a5 at *
  generalize (decide (ls.length = 0)) = a7 at *
  generalize (decide (∀ p ∈ ps, p.k ≠ 7)) = b6 at *
  generalize (decide (1 < ps.length)) = b7 at *
  generalize (eqB t default) = b8 at *
  generalize (vlsB vs) = c1 at *
  revert h0 a3 a4 a5 a7 b6 b7 b8 c1
  decide
theorem okN_8 (c x : ByteArray) (ls : List ByteArray) (vs : List Vl) (t : Ty) (ps : List Pr) :
    (Pr.mk 8 c x ls vs t ps).okN = (vlsB vs && (nameB c && (x.toList.isEmpty && (decide (ls.length = 0) && (decide (ps.length = 0) && eqB t default))))) := by
  have e : (Pr.mk 8 c x ls vs t ps).okN = (true && (nameB c && ((x.toList.isEmpty) && ((decide (ls.length = 0)) && ((vlsB vs) && ((eqB t default) && (decide (ps.length = 0)))))))) := rfl
  have h0 := @vlsB_nil vs
  rw [e]
  clear e
  generalize (nameB c) = a1 at *
  generalize x.toList.isEmpty = a4 at *
  generalize (decide (vs.length = 0)) = a5 at *
  generalize (decide (ls.length = 0)) = a7 at *
  generalize (decide (ps.length = 0)) = b3 at *
  generalize (eqB t default) = b8 at *
  generalize (vlsB vs) = c1 at *
  revert h0 a1 a4 a5 a7 b3 b8 c1
  decide
theorem okN_0 (k : Int) (c x : ByteArray) (ls : List ByteArray) (vs : List Vl) (t : Ty) (ps : List Pr) (hk : k < 1 ∨ 8 < k) : (Pr.mk k c x ls vs t ps).okN = false := by
  have e : pknK k = false := by unfold pknK; rw [Bool.eq_false_iff]; simp; omega
  have : (Pr.mk k c x ls vs t ps).okN = (pknK k && (Pr.mk k c x ls vs t ps).shp) := rfl
  rw [this, e, Bool.false_and]

end Go.Proofs.YtmedijheidbmhaaGreatDoor

/- Processes: the reference's node, kind 0. -/
namespace Go.Proofs.YtmedijheidbmhaaGreatDoor
open Go.RowKit Go.Deep Go.Shelf

set_option maxHeartbeats 8000000 in
set_option maxRecDepth 100000 in
theorem rnode_0 (B : Nat → Prop) (k : Int) (hkk : k < 1 ∨ 8 < k) (c x : ByteArray) (ls : List ByteArray) (vs : List Vl) (t : Ty) (ps : List Pr) (_hsz : t.size ≤ 1000000) (v : Value) (w : World) (hB : Low B w) (hv : PrVal B w v (Pr.mk k c x ls vs t ps)) :
    Calls Tryz.prog 67 #[v] w fun e w' => e = .returned (.bool (Pr.mk k c x ls vs t ps).okN) ∧ Below w.heap.size w w' := by
  have hv0 := hv
  obtain ⟨lv, av, tl, tk, kv, rfl, ⟨hcs, hxs⟩, hl, ha, ht, hk⟩ := hv
  replace hcs : c.size ≤ maxLen := hcs
  replace hxs : x.size ≤ maxLen := hxs
  replace hl : StrSl B w lv ls := hl
  replace ha : VlSl B w av vs := ha
  replace hk : PrSl B w kv ps := hk
  replace ht : TyVal B w (.agg #[.int .i64 t.k, .int .i64 t.p, .string t.n, .int .i64 t.s, tl, tk]) t := ht
  have hlB := fun W (hW : Below w.heap.size w W) => rlabels_any B lv ls W (hB.le hW.size) (hl.keep (hW.keeps'.mono hB))
  obtain ⟨ka, kn, kc, rfl, hkn, hkm, hkg⟩ := hk.open
  obtain ⟨aa, an, ac, rfl, han, ham, hag⟩ := ha.open
  obtain ⟨la, ln, lc, rfl, hln, hlm, hlg⟩ := hl.open
  obtain ⟨⟨ta, tn, tc, rfl⟩, ua, un, uc, rfl⟩ := slices_of ht
  have hs : (Pr.mk k c x ls vs t ps).okN = false := okN_0 k c x ls vs t ps hkk
  have e1 : (k == 1) = false := by simp; omega
  have e2 : (k == 2) = false := by simp; omega
  have e3 : (k == 3) = false := by simp; omega
  have e4 : (k == 4) = false := by simp; omega
  have e5 : (k == 5) = false := by simp; omega
  have e6 : (k == 6) = false := by simp; omega
  have e7 : (k == 7) = false := by simp; omega
  have e8 : (k == 8) = false := by simp; omega
  clear hkk
  have HGV := Lib.hid hag
  have HGK := Lib.hid hkg
  have HGL := Lib.hid hlg
  have HVL := Lib.hid (rfl : vlsB vs = vlsB vs)
  rw [hs]
  have HB := Lib.hid hB
  clear hs hv0 hcs hxs hl ha ht hk hlB hkg hag hlg hB
  go_enter Tryz.func67, Tryz.ntmps67
  go_wp2_with fail
  go_loopw [3] (fun i wr => ∃ (j : Nat), i = .int .i64 j ∧ j ≤ an ∧ Hid (∀ v ∈ vs.take j, vlB v = true) ∧ Below (w.heap.size + 1) (w.alloc (Obj.cells #[.int .i64 k, .string c, .string x, .slice la ln lc, .slice aa an ac, .int .i64 t.k, .int .i64 t.p, .string t.n, .int .i64 t.s, .slice ta tn tc, .slice ua un uc, .slice ka kn kc] 30)) wr) (fun i _ => an - (intOf i).toNat)
  case atStart => exact ⟨0, rfl, by omega, Lib.hid (by simp), Below.refl _ _⟩
  case round =>
    obtain ⟨j, rfl, hj, HT, hb⟩ := hrel
    have hw := blk_below hb
    by_cases hlt : j < an
    · have c4 := blk_cell hb 4 rfl
      obtain ⟨u, hu⟩ : ∃ u, vs[j]? = some u := ⟨_, List.getElem?_eq_getElem (by rw [← han.out]; exact hlt)⟩
      obtain ⟨hun, kb, ko, rfl, hkb, hc⟩ := HGV.out j u hu
      have e0 := (hw.cell (p := ⟨kb, _, none⟩) (HB.out kb hkb)).trans hc.1
      have e1 := (hw.cell (p := ⟨kb, _, none⟩) (HB.out kb hkb)).trans hc.2.1
      have e2 := (hw.cell (p := ⟨kb, _, none⟩) (HB.out kb hkb)).trans hc.2.2
      have HX := Lib.hid hu
      obtain ⟨uk, un', uy⟩ := u
      simp only at e0 e1 e2 hun
      obtain ⟨vb, hvb⟩ : ∃ b, vlB ⟨uk, un', uy⟩ = b := ⟨_, rfl⟩
      have HV := Lib.hid (fun W => rvalue_any uk uy un' vb hvb hun W)
      have HVB := Lib.hid hvb
      clear hc hu hvb hun
      cases vb with
      | false =>
        have hf : Hid (vlsB vs = false) := Lib.hid (by
          unfold vlsB
          rw [decide_eq_false_iff_not]
          intro h
          have := h _ (List.mem_of_getElem? HX.out)
          rw [HVB.out] at this
          cases this)
        go_wp2_with (go_at_call 98; refine (HV.out _).mono ?_; rintro e w2 ⟨rfl, g⟩)
        go_ret
        exact ⟨ret_bool (by rfl), hw.trans (g.mono hw.size)⟩
      | true =>
        have hf : Hid (∀ v ∈ vs.take (j + 1), vlB v = true) := Lib.hid (by
          rw [take_snoc_get HX.out]
          intro q hq
          rcases List.mem_append.1 hq with hq | hq
          · exact HT.out q hq
          · obtain rfl := List.mem_singleton.1 hq
            exact HVB.out)
        go_wp2_with (go_at_call 98; refine (HV.out _).mono ?_; rintro e w2 ⟨rfl, g⟩)
        go_roundw
        case rel => exact ⟨j + 1, by go_num, by omega, hf, gnext hb g⟩
        case measure => simp [intOf]; omega
    · obtain rfl : j = an := by omega
      have HVT : Hid (vlsB vs = true) := Lib.hid (by
        have := HT.out
        rw [List.take_of_length_le (by rw [han.out]; exact Nat.le_refl _)] at this
        unfold vlsB
        rw [decide_eq_true_eq]
        exact this)
      clear HT
      have c0 := blk_cell hb 0 rfl
      have c1 := blk_cell hb 1 rfl
      have c2 := blk_cell hb 2 rfl
      have c3 := blk_cell hb 3 rfl
      have c4 := blk_cell hb 4 rfl
      have c5 := blk_cell hb 5 rfl
      have c6 := blk_cell hb 6 rfl
      have c7 := blk_cell hb 7 rfl
      have c8 := blk_cell hb 8 rfl
      have c9 := blk_cell hb 9 rfl
      have c10 := blk_cell hb 10 rfl
      have c11 := blk_cell hb 11 rfl
      go_wp2_with fail
      go_ret
      exact ⟨rfl, hw⟩

end Go.Proofs.YtmedijheidbmhaaGreatDoor

/- Processes: the reference's node, kind 1. -/
namespace Go.Proofs.YtmedijheidbmhaaGreatDoor
open Go.RowKit Go.Deep Go.Shelf

set_option maxHeartbeats 8000000 in
set_option maxRecDepth 100000 in
theorem rnode_1 (B : Nat → Prop) (c x : ByteArray) (ls : List ByteArray) (vs : List Vl) (t : Ty) (ps : List Pr) (_hsz : t.size ≤ 1000000) (v : Value) (w : World) (hB : Low B w) (hv : PrVal B w v (Pr.mk 1 c x ls vs t ps)) :
    Calls Tryz.prog 67 #[v] w fun e w' => e = .returned (.bool (Pr.mk 1 c x ls vs t ps).okN) ∧ Below w.heap.size w w' := by
  have hv0 := hv
  obtain ⟨lv, av, tl, tk, kv, rfl, ⟨hcs, hxs⟩, hl, ha, ht, hk⟩ := hv
  replace hcs : c.size ≤ maxLen := hcs
  replace hxs : x.size ≤ maxLen := hxs
  replace hl : StrSl B w lv ls := hl
  replace ha : VlSl B w av vs := ha
  replace hk : PrSl B w kv ps := hk
  replace ht : TyVal B w (.agg #[.int .i64 t.k, .int .i64 t.p, .string t.n, .int .i64 t.s, tl, tk]) t := ht
  have hlB := fun W (hW : Below w.heap.size w W) => rlabels_any B lv ls W (hB.le hW.size) (hl.keep (hW.keeps'.mono hB))
  obtain ⟨ka, kn, kc, rfl, hkn, hkm, hkg⟩ := hk.open
  obtain ⟨aa, an, ac, rfl, han, ham, hag⟩ := ha.open
  obtain ⟨la, ln, lc, rfl, hln, hlm, hlg⟩ := hl.open
  obtain ⟨⟨ta, tn, tc, rfl⟩, ua, un, uc, rfl⟩ := slices_of ht
  have hs : (Pr.mk 1 c x ls vs t ps).okN = (vlsB vs && (c.toList.isEmpty && (x.toList.isEmpty && (decide (vs.length = 0) && (decide (ls.length = 0) && (decide (ps.length = 0) && eqB t default)))))) := okN_1 c x ls vs t ps
  rw [← han.out, ← hln.out, ← hkn.out] at hs
  obtain ⟨pl, hpl⟩ : ∃ b, eqB t default = b := ⟨_, rfl⟩
  have HPL : Hid (∀ (n1 n2 n3 : Nat), n1 = an → n2 = ln → n3 = kn → ∀ W, Below w.heap.size w W → Calls Tryz.prog 99 #[.agg #[.int .i64 1, .string c, .string x, .slice la n2 lc, .slice aa n1 ac, .int .i64 t.k, .int .i64 t.p, .string t.n, .int .i64 t.s, .slice ta tn tc, .slice ua un uc, .slice ka n3 kc]] W fun e w' => e = .returned (.bool pl) ∧ Below W.heap.size W w') := Lib.hid (by
    rintro _ _ _ rfl rfl rfl
    exact fun W hW => rplain_any B (Pr.mk 1 c x ls vs t ps) pl hpl _ W (hB.le hW.size) (hv0.to hB hW))
  rw [hpl] at hs
  clear hpl
  have HGV := Lib.hid hag
  have HGK := Lib.hid hkg
  have HGL := Lib.hid hlg
  have HVL := Lib.hid (rfl : vlsB vs = vlsB vs)
  rw [hs]
  have HB := Lib.hid hB
  clear hs hv0 hcs hxs hl ha ht hk hlB hkg hag hlg hB
  go_enter Tryz.func67, Tryz.ntmps67
  go_wp2_with fail
  go_loopw [3] (fun i wr => ∃ (j : Nat), i = .int .i64 j ∧ j ≤ an ∧ Hid (∀ v ∈ vs.take j, vlB v = true) ∧ Below (w.heap.size + 1) (w.alloc (Obj.cells #[.int .i64 1, .string c, .string x, .slice la ln lc, .slice aa an ac, .int .i64 t.k, .int .i64 t.p, .string t.n, .int .i64 t.s, .slice ta tn tc, .slice ua un uc, .slice ka kn kc] 30)) wr) (fun i _ => an - (intOf i).toNat)
  case atStart => exact ⟨0, rfl, by omega, Lib.hid (by simp), Below.refl _ _⟩
  case round =>
    obtain ⟨j, rfl, hj, HT, hb⟩ := hrel
    have hw := blk_below hb
    by_cases hlt : j < an
    · have c4 := blk_cell hb 4 rfl
      obtain ⟨u, hu⟩ : ∃ u, vs[j]? = some u := ⟨_, List.getElem?_eq_getElem (by rw [← han.out]; exact hlt)⟩
      obtain ⟨hun, kb, ko, rfl, hkb, hc⟩ := HGV.out j u hu
      have e0 := (hw.cell (p := ⟨kb, _, none⟩) (HB.out kb hkb)).trans hc.1
      have e1 := (hw.cell (p := ⟨kb, _, none⟩) (HB.out kb hkb)).trans hc.2.1
      have e2 := (hw.cell (p := ⟨kb, _, none⟩) (HB.out kb hkb)).trans hc.2.2
      have HX := Lib.hid hu
      obtain ⟨uk, un', uy⟩ := u
      simp only at e0 e1 e2 hun
      obtain ⟨vb, hvb⟩ : ∃ b, vlB ⟨uk, un', uy⟩ = b := ⟨_, rfl⟩
      have HV := Lib.hid (fun W => rvalue_any uk uy un' vb hvb hun W)
      have HVB := Lib.hid hvb
      clear hc hu hvb hun
      cases vb with
      | false =>
        have hf : Hid (vlsB vs = false) := Lib.hid (by
          unfold vlsB
          rw [decide_eq_false_iff_not]
          intro h
          have := h _ (List.mem_of_getElem? HX.out)
          rw [HVB.out] at this
          cases this)
        go_wp2_with (go_at_call 98; refine (HV.out _).mono ?_; rintro e w2 ⟨rfl, g⟩)
        go_ret
        exact ⟨ret_bool (by rw [hf.out, Bool.false_and]), hw.trans (g.mono hw.size)⟩
      | true =>
        have hf : Hid (∀ v ∈ vs.take (j + 1), vlB v = true) := Lib.hid (by
          rw [take_snoc_get HX.out]
          intro q hq
          rcases List.mem_append.1 hq with hq | hq
          · exact HT.out q hq
          · obtain rfl := List.mem_singleton.1 hq
            exact HVB.out)
        go_wp2_with (go_at_call 98; refine (HV.out _).mono ?_; rintro e w2 ⟨rfl, g⟩)
        go_roundw
        case rel => exact ⟨j + 1, by go_num, by omega, hf, gnext hb g⟩
        case measure => simp [intOf]; omega
    · obtain rfl : j = an := by omega
      have HVT : Hid (vlsB vs = true) := Lib.hid (by
        have := HT.out
        rw [List.take_of_length_le (by rw [han.out]; exact Nat.le_refl _)] at this
        unfold vlsB
        rw [decide_eq_true_eq]
        exact this)
      clear HT
      have c0 := blk_cell hb 0 rfl
      have c1 := blk_cell hb 1 rfl
      have c2 := blk_cell hb 2 rfl
      have c3 := blk_cell hb 3 rfl
      have c4 := blk_cell hb 4 rfl
      have c5 := blk_cell hb 5 rfl
      have c6 := blk_cell hb 6 rfl
      have c7 := blk_cell hb 7 rfl
      have c8 := blk_cell hb 8 rfl
      have c9 := blk_cell hb 9 rfl
      have c10 := blk_cell hb 10 rfl
      have c11 := blk_cell hb 11 rfl
      go_wp2_with (first | (go_at_call 99; refine (HPL.out _ _ _ (by omega) (by omega) (by omega) _ (blk_below (by assumption))).mono ?_; rintro e w2 ⟨rfl, g⟩; have gb2 := gnext (by assumption) g))
      all_goals (go_ret; refine ⟨ret_bool ?_, ?_⟩; rotate_left; (first | exact blk_below (by assumption) | exact below_drewN (blk_below (by assumption)) _); rw [HVT.out, Bool.true_and]; (try (first | rw [show decide (j = 0) = true from decide_eq_true (by omega)] | rw [show decide (j = 0) = false from decide_eq_false (by omega)])); (try (first | rw [show decide (ln = 0) = true from decide_eq_true (by omega)] | rw [show decide (ln = 0) = false from decide_eq_false (by omega)])); (try (first | rw [show decide (kn = 0) = true from decide_eq_true (by omega)] | rw [show decide (kn = 0) = false from decide_eq_false (by omega)])); clear HGV HGK HGL HVL HB HPL HVT; (try simp_all); (try (rw [Bool.eq_iff_iff]; simp)); (try omega))

end Go.Proofs.YtmedijheidbmhaaGreatDoor
