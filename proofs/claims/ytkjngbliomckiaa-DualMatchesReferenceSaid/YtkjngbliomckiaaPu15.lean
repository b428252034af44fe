/- Duals: the law reads a graph back. (and what follows from it) -/
import Derived.Test.YtkjngbliomckiaaPu5
import Derived.Test.YtkjngbliomckiaaPu4
import Derived.BigRegion
import Derived.Deep.RegionWith
import Derived.Deep.Cut

/- Duals: the law reads a graph back. -/
namespace Go.Proofs.Ytkjngbliomckiaa
open Go.RowKit Go.Deep Go.Shelf

set_option maxHeartbeats 4000000 in
set_option maxRecDepth 100000 in
theorem dback_any (ns : List GNode) (na : Option Addr) (nn nc : Nat) (w : World) (hns : NodeSl (fun k => k < w.heap.size) w (.slice na nn nc) ns) (hw : wfG ns) (hl : ns.length ≤ 1000000) (hx : ∀ g ∈ ns, g.nx.length ≤ 1000000) :
    Calls Try.prog 19 #[.agg #[.slice na nn nc]] w fun e w' => ∃ (oa : Option Addr) (on oc : Nat), e = .returned (.tuple #[.slice oa on oc, .bool true]) ∧ NodeSl (fun k => k < w'.heap.size) w' (.slice oa on oc) ns ∧ Below w.heap.size w w' := by
  obtain ⟨_, _, _, e0, hlen, _, _⟩ := hns.open
  simp only [Value.slice.injEq] at e0
  obtain ⟨rfl, rfl, rfl⟩ := e0
  have hnn : nn ≤ 1000000 := by have := hlen.out; omega
  obtain ⟨W1, hW1⟩ : ∃ W1, w.alloc (.cells #[.slice na nn nc] 27) = W1 := ⟨_, rfl⟩
  have hb1 : Below w.heap.size w W1 := by rw [← hW1]; exact blkBelow w _ _
  have hs1 : W1.heap.size = w.heap.size + 1 := by rw [← hW1]; simp
  have x1 : W1.heap[w.heap.size]? = some (.cells #[.slice na nn nc] 27 (0, 0)) := by rw [← hW1]; exact World.alloc_heap_new _ _
  have HBX := Lib.hid (fun (W : World) (hW : Below W1.heap.size W1 W) => show W.cell? ⟨w.heap.size, 0, none⟩ = some (.slice na nn nc) from by
    have a1 : W.heap[w.heap.size]? = _ := (hW.block _ (by omega)).trans x1
    simp [World.cell?, a1])
  have HNS := Lib.hid (fun (W : World) (hW : Below W1.heap.size W1 W) => hns.keep ((below_seq hb1 hW).keeps'.mono (fun k hk => hk)))
  have HB1 := Lib.hid hb1
  have HS1 := Lib.hid hs1
  have HW1 := Lib.hid hW1
  have HL := Lib.hid hlen.out
  have HWF := Lib.hid hw
  have HXL := Lib.hid hx
  clear hns hb1 hs1 x1 hW1 hlen hw hx
  go_enter Try.func19, Try.ntmps19
  go_upto_region 2 with fail
  rw [show w.alloc (.cells #[.slice na nn nc] 27) = W1 from HW1.out]
  go_wp2_with fail
  go_loopw [4, 5] (fun o i wr => ∃ (j : Nat) (oa : Option Addr) (on oc : Nat) (xs : List NV), i = .int .i64 j ∧ j ≤ nn ∧ o = .slice oa on oc ∧ Hid (GRow 58 4 W1.heap.size wr (.slice oa on oc) (xs.map NV.cells)) ∧ Hid (∀ x ∈ xs, x.Ok (fun k => k < wr.heap.size ∧ some k ≠ (Value.slice oa on oc).ownBlock) wr) ∧ Hid (xs.map NV.g = ns.take j) ∧ Hid (Below W1.heap.size W1 wr)) (fun _ i _ => nn - (intOf i).toNat)
  case atStart => exact ⟨0, _, _, _, [], rfl, by omega, rfl, Lib.hid (by simpa using GRow.nil _ _ _ _), Lib.hid (fun x hx => by cases hx), Lib.hid (by simp), Lib.hid (Below.refl _ _)⟩
  case round =>
    rename World => V
    obtain ⟨j, oa, on, oc, xs, rfl, hj, rfl, HG, HX, HM, HB⟩ := hrel
    by_cases hlt : j < nn
    · obtain ⟨⟨xk, xp, xl, xn⟩, hg⟩ : ∃ x, ns[j]? = some x := ⟨_, List.getElem?_eq_getElem (by rw [← HL.out]; exact hlt)⟩
      obtain ⟨_, _, _, e, _, _, hget⟩ := (HNS.out V HB.out).open
      simp only [Value.slice.injEq] at e
      obtain ⟨rfl, rfl, rfl⟩ := e
      obtain ⟨kb, ko, rfl, hkb, n0, n1, lv, nv, n2, n3, nl, n5⟩ := hget j _ hg
      obtain ⟨x1, x2, x3, rfl, hxn, hmx, hgx⟩ := n5.open
      have d0 := HBX.out V HB.out
      have hk1 : kb < W1.heap.size := by have := HS1.out; omega
      have hkw : kb < V.heap.size := Nat.lt_of_lt_of_le hk1 HB.out.size
      have hwl : w.heap.size < V.heap.size := by have := HS1.out; have := HB.out.size; omega
      have nl' := nl
      obtain ⟨la, ln, lc, rfl, _⟩ := nl'.open
      have n0' : V.cell? ⟨kb, ko + j * 4, none⟩ = some (.int .i64 xk) := n0
      have n1' : V.cell? ⟨kb, ko + j * 4 + 1, none⟩ = some (.int .i64 xp) := n1
      have HNL := Lib.hid nl
      have HXN := Lib.hid hxn
      have HGX := Lib.hid hgx
      clear hget n0 n1 nl n5 hxn hgx
      have HGG := Lib.hid hg
      clear hg
      go_wp2_with fail
      go_region
      obtain ⟨W2, hW2⟩ : ∃ W2, (V.alloc (.cells #[.int .i64 xk, .int .i64 xp, .slice la ln lc, .slice none 0 0] 58)).drew = W2 := ⟨_, rfl⟩
      have hs2 : W2.heap.size = V.heap.size + 1 := by rw [← hW2]; simp
      have hb2 : Below V.heap.size V W2 := by rw [← hW2]; exact (blkBelow V _ _).drew
      have x2' : W2.heap[V.heap.size]? = some (.cells #[.int .i64 xk, .int .i64 xp, .slice la ln lc, .slice none 0 0] 58 (0, 0)) := by rw [← hW2]; exact World.alloc_heap_new V _
      have HS2 := Lib.hid hs2
      have HB2 := Lib.hid hb2
      have HX2 := Lib.hid x2'
      have HW2 := Lib.hid hW2
      have N3 := Lib.hid n3
      clear hs2 hb2 x2' hW2 n0' n1' n2 n3 d0
      rw [show (V.alloc (.cells #[.int .i64 xk, .int .i64 xp, .slice la ln lc, .slice none 0 0] 58)).drew = W2 from HW2.out]
      go_wp2_with fail
      go_loopw [7] (fun i2 wr => ∃ (q : Nat) (pa : Option Addr) (pn pc : Nat), i2 = .int .i64 q ∧ q ≤ x2 ∧ Hid (wr.heap[V.heap.size]? = some (.cells #[.int .i64 xk, .int .i64 xp, .slice la ln lc, .slice pa pn pc] 58 (0, 0))) ∧ Hid (GRow 59 2 (V.heap.size + 1) wr (.slice pa pn pc) ((xn.take q).map refCells)) ∧ Hid (Below V.heap.size V wr) ∧ V.heap.size + 1 ≤ wr.heap.size) (fun i2 _ => x2 - (intOf i2).toNat)
      case atStart => exact ⟨0, _, _, _, rfl, by omega, HX2, Lib.hid (by simpa using GRow.nil _ _ _ _), HB2, by have := HS2.out; omega⟩
      case round =>
        clear HX2 HB2 HS2 HW2
        obtain ⟨q, pa, pn, pc, rfl, hq, HP, HR, HBB, hsz⟩ := hrel
        have n3 := (HBB.out.cell (p := ⟨kb, _, none⟩) hkw).trans N3.out
        have d0 := HBX.out wr (below_seq HB.out HBB.out)
        by_cases hlq : q < x2
        · obtain ⟨r, hr⟩ : ∃ r, xn[q]? = some r := ⟨_, List.getElem?_eq_getElem (by have h : x2 = xn.length := HXN.out; omega)⟩
          obtain ⟨rb, ro, rfl, hrb, r0, r1⟩ := HGX.out q r hr
          have hrw : rb < V.heap.size := by omega
          have r0' := (HBB.out.cell (p := ⟨rb, _, none⟩) hrw).trans r0
          have r1' := (HBB.out.cell (p := ⟨rb, _, none⟩) hrw).trans r1
          have hrn : r.n < nn := by
            have := HWF.out j _ HGG.out r (List.mem_of_getElem? hr)
            rwa [← HL.out] at this
          have HTK := Lib.hid (take_snoc_get hr)
          have hrb2 : rb < wr.heap.size := by omega
          have hkb2 : kb < wr.heap.size := by omega
          have hw2 : w.heap.size < wr.heap.size := by omega
          have HPL : Hid ((xn.take q).length ≤ 1000000) := Lib.hid (by
            have h1 := HXL.out _ (List.mem_of_getElem? HGG.out)
            simp only at h1
            rw [List.length_take]; omega)
          clear hr r0 r1
          go_upto_region 10 with fail
          obtain ⟨W3, hW3⟩ : ∃ W3, wr.alloc (.cells #[.int .i64 r.n, .int .i64 r.s] 42) = W3 := ⟨_, rfl⟩
          have hs3 : W3.heap.size = wr.heap.size + 1 := by rw [← hW3]; simp
          have hb3 : Below wr.heap.size wr W3 := by rw [← hW3]; exact blkBelow wr _ _
          have x3' : W3.heap[wr.heap.size]? = some (.cells #[.int .i64 r.n, .int .i64 r.s] 42 (0, 0)) := by rw [← hW3]; exact World.alloc_heap_new wr _
          have hp3 : W3.heap[V.heap.size]? = some (.cells #[.int .i64 xk, .int .i64 xp, .slice la ln lc, .slice pa pn pc] 58 (0, 0)) := (hb3.block _ (by omega)).trans HP.out
          have HR3 := Lib.hid (HR.out.to hb3)
          have d03 := (hb3.cell (p := ⟨w.heap.size, 0, none⟩) hw2).trans d0
          have c80 : W3.cell? ⟨wr.heap.size, 0, none⟩ = some (.int .i64 r.n) := by simp [World.cell?, x3']
          have c81 : W3.cell? ⟨wr.heap.size, 1, none⟩ = some (.int .i64 r.s) := by simp [World.cell?, x3']
          have b33 : W3.cell? ⟨V.heap.size, 3, none⟩ = some (.slice pa pn pc) := by simp [World.cell?, hp3]
          have HP3 := Lib.hid hp3
          have HB3 := Lib.hid (hb3.mono (show V.heap.size ≤ wr.heap.size by omega))
          have HS3 := Lib.hid hs3
          have hz3 : V.heap.size < W3.heap.size := by omega
          have hne3 : Hid (some V.heap.size ≠ (Value.slice pa pn pc).ownBlock) := Lib.hid (HR3.out.ne hp3 (by decide))
          have e5 : decide ((r.n : Int) < 0) = false := decide_eq_false (by omega)
          have e6 : decide ((r.n : Int) ≥ nn) = false := decide_eq_false (by omega)
          have HW3 := Lib.hid hW3
          clear hs3 hb3 x3' hp3 hW3 n3 r0' r1' d0
          rw [show wr.alloc (.cells #[.int .i64 r.n, .int .i64 r.s] 42) = W3 from HW3.out]
          go_upto_region 12 with fail
          go_wp2_with (at_builtin; refine wpList_appG rrefElem rfl _ _ rfl rfl (HR3.out.alloc _) (some ⟨W3.heap.size, 0, none⟩) 1 1 [refCells r] rfl rfl ?_ ?_ ?_ ?_ ?_ ?_)
          · intro e he; rw [List.mem_singleton.1 he]; rfl
          · exact src_new W3 (refCells r) _
          · intro e he u hu
            rw [List.mem_singleton.1 he] at hu
            simp only [refCells, List.mem_cons, List.not_mem_nil, or_false] at hu
            rcases hu with rfl | rfl <;> rfl
          · have := HPL.out
            simp only [List.length_map, List.length_singleton]
            omega
          · rw [World.size_alloc]; omega
          intro ga gn gc w6 hr6 hg6 hq6
          have hx6 : w6.heap[V.heap.size]? = some (.cells #[.int .i64 xk, .int .i64 xp, .slice la ln lc, .slice pa pn pc] 58 (0, 0)) := (hg6.block _ (by rw [World.size_alloc]; omega) hne3.out).trans ((Below.heap_alloc _ _ _ hz3).trans HP3.out)
          have b63 : w6.cell? ⟨V.heap.size, 3, none⟩ = some (.slice pa pn pc) := by simp [World.cell?, hx6]
          have f6 : w6.frozen? ⟨V.heap.size, 3, none⟩ = false := by simp [World.frozen?, hx6]
          have HR6 := Lib.hid hr6
          have HG6 := Lib.hid hg6
          have HQ6 := Lib.hid hq6
          have HX6 := Lib.hid hx6
          clear hr6 hg6 hq6 hx6
          go_wp2_with fail
          go_roundw
          case rel =>
            refine ⟨q + 1, ga, gn, gc, by go_num, by omega, Lib.hid ?_, Lib.hid ?_, Lib.hid ?_, ?_⟩
            · exact set_block HX6.out 3 (.slice ga gn gc)
            · have h := HR6.out.kept (W' := w6.setCell ⟨V.heap.size, 3, none⟩ (.slice ga gn gc)) (fun k hk => set_oth w6 3 _ (by have := (HR6.out.lt k hk).1; omega))
              rw [HTK.out]
              simpa [List.map_take] using h
            · exact ((((HBB.out.trans HB3.out).alloc (by omega) _).grown HG6.out (by rw [World.size_alloc]; omega) (fun k hk => Nat.le_trans (Nat.le_succ _) (HR3.out.lt k hk).1)).setCell (p := ⟨V.heap.size, 3, none⟩) (Nat.le_refl _) _)
            · have h1 := HG6.out.size
              rw [World.size_alloc] at h1
              simp
              omega
          case measure => simp [intOf]; omega
        · obtain rfl : q = x2 := by omega
          have hpw : wr.heap[V.heap.size]? = some (.cells #[.int .i64 xk, .int .i64 xp, .slice la ln lc, .slice pa pn pc] 58 (0, 0)) := HP.out
          have b0 : wr.cell? ⟨V.heap.size, 0, none⟩ = some (.int .i64 xk) := by simp [World.cell?, hpw]
          have b1 : wr.cell? ⟨V.heap.size, 1, none⟩ = some (.int .i64 xp) := by simp [World.cell?, hpw]
          have b2 : wr.cell? ⟨V.heap.size, 2, none⟩ = some (.slice la ln lc) := by simp [World.cell?, hpw]
          have b3 : wr.cell? ⟨V.heap.size, 3, none⟩ = some (.slice pa pn pc) := by simp [World.cell?, hpw]
          have HGW := Lib.hid (HG.out.to HBB.out)
          have HML : Hid ((xs.map NV.cells).length ≤ 1000000) := Lib.hid (by
            have h := congrArg List.length HM.out
            rw [List.length_map, List.length_take] at h
            rw [List.length_map]; omega)
          have HTJ := Lib.hid (take_snoc_get HGG.out)
          have HSZ := Lib.hid hsz
          have hx1 : W1.heap.size ≤ wr.heap.size := Nat.le_trans HB.out.size HBB.out.size
          clear hpw
          go_upto_region 13 with fail
          go_wp2_with (at_builtin; refine wpList_appG rnodeElem rfl _ _ rfl rfl (HGW.out.alloc _) (some ⟨wr.heap.size, 0, none⟩) 1 1 [NV.cells ⟨⟨xk, xp, xl, xn⟩, .slice la ln lc, .slice pa pn pc⟩] rfl rfl ?_ ?_ ?_ ?_ ?_ ?_)
          · intro e he; rw [List.mem_singleton.1 he]; rfl
          · exact src_new wr (NV.cells ⟨⟨xk, xp, xl, xn⟩, .slice la ln lc, .slice pa pn pc⟩) _
          · intro e he u hu
            rw [List.mem_singleton.1 he] at hu
            simp only [NV.cells, List.mem_cons, List.not_mem_nil, or_false] at hu
            rcases hu with rfl | rfl | rfl | rfl <;> rfl
          · have := HML.out
            simp only [List.length_singleton]
            omega
          · rw [World.size_alloc]; omega
          intro ga gn gc w6 hr6 hg6 hq6
          have HR6 := Lib.hid hr6
          have HG6 := Lib.hid hg6
          have HQ6 := Lib.hid hq6
          clear hr6 hg6 hq6
          go_wp2_with fail
          go_roundw
          case rel =>
            have hs6 := HG6.out.size
            rw [World.size_alloc] at hs6
            have hq6 := HQ6.out
            have hmv : ∀ y : NV, y.Ok (fun k => k < wr.heap.size ∧ some k ≠ (Value.slice oa on oc).ownBlock) wr → y.Ok (fun k => k < w6.heap.size ∧ some k ≠ (Value.slice ga gn gc).ownBlock) w6 := fun y hy => by
              refine ((hy.keep ((blkBelow wr _ _).keeps'.mono (fun k hk => hk.1))).keep (Keeps.grown HG6.out (fun k hk => hk.2))).mono (fun k hk => ⟨by omega, fun e => ?_⟩)
              rcases hq6 with h | h
              · exact hk.2 (e.trans h)
              · have := e.trans h
                simp only [Option.some.injEq] at this
                omega
            have hown : ∀ k, (Value.slice oa on oc).ownBlock = some k → W1.heap.size ≤ k ∧ k < V.heap.size := fun k hk => HG.out.lt k hk
            refine ⟨j + 1, ga, gn, gc, xs ++ [⟨⟨xk, xp, xl, xn⟩, .slice la ln lc, .slice pa pn pc⟩], by go_num, by omega, rfl, Lib.hid ?_, Lib.hid ?_, Lib.hid ?_, Lib.hid ?_⟩
            · rw [List.map_append]
              exact HR6.out
            · intro y hy
              rcases List.mem_append.1 hy with hy | hy
              · exact hmv y (((HX.out y hy).keep (HBB.out.keeps'.mono (fun k hk => hk.1))).mono (fun k hk => ⟨by omega, hk.2⟩))
              · rw [List.mem_singleton.1 hy]
                have hxt : xn.take q = xn := List.take_of_length_le (by have h : q = xn.length := HXN.out; omega)
                have hrr := HR.out
                rw [hxt] at hrr
                refine hmv _ ⟨?_, ?_⟩
                · exact (HNL.out.keep (HBB.out.keeps'.mono (fun k hk => by omega))).mono (fun k hk => ⟨by omega, fun e => by have := hown k e.symm; have := HS1.out; omega⟩)
                · exact (hrr.refs (by have h : q = xn.length := HXN.out; unfold maxLen; omega)).mono (fun k hk => ⟨hk.2, fun e => by have := (hown k e.symm).2; omega⟩)
            · rw [List.map_append, HM.out, HTJ.out]; rfl
            · exact ((HB.out.trans (HBB.out.mono HB.out.size)).alloc hx1 _).grown HG6.out (by rw [World.size_alloc]; omega) (fun k hk => (hown k hk).1)
          case measure => simp [intOf]; omega
    · obtain rfl : j = nn := by omega
      have d0 := HBX.out V HB.out
      go_wp2_with fail
      go_ret2
      have hm : xs.map NV.g = ns := by rw [HM.out, HL.out, List.take_length]
      have hxl : xs.length = ns.length := by rw [← hm, List.length_map]
      refine ⟨oa, on, oc, rfl, ?_, below_seq HB1.out HB.out⟩
      have h := (HG.out.nodes HX.out (by rw [hxl]; unfold maxLen; omega)).mono (C := fun k => k < V.heap.size) (fun k hk => hk.elim (fun h => h.1) (fun h => h.2))
      rwa [hm] at h
end Go.Proofs.Ytkjngbliomckiaa
