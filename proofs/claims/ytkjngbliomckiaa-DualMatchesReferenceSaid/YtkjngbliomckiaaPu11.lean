/- Duals: Close. (and what follows from it) -/
import Derived.Test.YtkjngbliomckiaaPu10
import Derived.Test.YtkjngbliomckiaaPu9
import Derived.Deep.Cut
import Derived.Deep.RegionWith

/- Duals: Close. -/
namespace Go.Proofs.Ytkjngbliomckiaa
open Go.RowKit Go.Deep Go.Shelf

set_option maxHeartbeats 2000000 in
set_option maxRecDepth 100000 in
theorem close1_any (i : Int) (y : NV) (w : World) (hok : y.Ok (fun k => k < w.heap.size) w) (hl : y.g.ls.length ≤ 400000000) (hx : y.g.nx.length ≤ 100000000) :
    Calls Try.prog 24 #[.int .i64 i, y.val] w fun e w' => ∃ x : NV, e = .returned x.val ∧ x.g = y.g ∧ x.Ok (Fresh w.heap.size w'.heap.size) w' ∧ Below w.heap.size w w' := by
  obtain ⟨⟨k, p, ls, nx⟩, lv, nv⟩ := y
  obtain ⟨la, ln, lc, e1, _⟩ := hok.l.open
  obtain ⟨na, nn, nc, e2, _⟩ := hok.n.open
  simp only at e1 e2
  subst e1
  subst e2
  obtain ⟨W2, hW2⟩ : ∃ W2, (w.alloc (.cells #[.int .i64 k, .int .i64 p, .slice la ln lc, .slice na nn nc] 46)).alloc (.cells #[.int .i64 0, .int .i64 0, .slice none 0 0, .slice none 0 0] 46) = W2 := ⟨_, rfl⟩
  obtain ⟨hs2, hb2, x0, x1⟩ := two_made hW2
  obtain ⟨r0, r1, r2, r3, _, _, _, _⟩ := gcell4 x0
  have HC := Lib.hid (dclone_any ⟨⟨k, p, ls, nx⟩, .slice la ln lc, .slice na nn nc⟩ W2 ((hok.keep (hb2.keeps'.mono (fun k hk => hk))).mono (fun k hk => Nat.lt_of_lt_of_le hk hb2.size)) hl hx)
  have HW2 := Lib.hid hW2
  have HB2 := Lib.hid hb2
  have HX1 := Lib.hid x1
  have HS2 := Lib.hid hs2
  clear hok hW2 hb2 x0 x1 hl hx hs2
  go_enter Try.func24, Try.ntmps24
  go_upto_region 1 with fail
  rw [show (w.alloc (.cells #[.int .i64 k, .int .i64 p, .slice la ln lc, .slice na nn nc] 46)).alloc (.cells #[.int .i64 0, .int .i64 0, .slice none 0 0, .slice none 0 0] 46) = W2 from HW2.out]
  go_wp2_with (go_at_call 25; go_loud (refine HC.out.mono ?_; rintro en w5 ⟨⟨⟨xk, xp, xls, xnx⟩, xlv, xnv⟩, rfl, hxg, hxok, hb5⟩; simp only at hxg; obtain ⟨xa, xn, xc, e7, _⟩ := hxok.l.open; obtain ⟨za, zn, zc, e8, _⟩ := hxok.n.open; simp only at e7 e8; subst e7; subst e8; have HXG := Lib.hid hxg; have HXOK := Lib.hid hxok; have HB5 := Lib.hid hb5; have HX5 := Lib.hid ((HB5.out.block (w.heap.size + 1) (by have := HS2.out; omega)).trans HX1.out); obtain ⟨_, _, _, _, g0, g1, g2, g3⟩ := gcell4 HX5.out; obtain ⟨o0, o1, o2, o3, _, _, _, _⟩ := gcell4 HX5.out; clear hxg hxok hb5))
  obtain ⟨W7, hW7⟩ : ∃ W7, (((w5.setCell ⟨w.heap.size + 1, 0, none⟩ (.int .i64 xk)).setCell ⟨w.heap.size + 1, 1, none⟩ (.int .i64 xp)).setCell ⟨w.heap.size + 1, 2, none⟩ (.slice xa xn xc)).setCell ⟨w.heap.size + 1, 3, none⟩ (.slice za zn zc) = W7 := ⟨_, rfl⟩
  have y7 : W7.heap[w.heap.size + 1]? = some (.cells #[.int .i64 xk, .int .i64 xp, .slice xa xn xc, .slice za zn zc] 46 (0, 0)) := by rw [← hW7]; exact set_block (set_block (set_block (set_block HX5.out 0 _) 1 _) 2 _) 3 _
  have hk7 : ∀ j, j ≠ w.heap.size + 1 → W7.heap[j]? = w5.heap[j]? := fun j hj => by rw [← hW7]; exact (set_oth _ _ _ hj).trans ((set_oth _ _ _ hj).trans ((set_oth _ _ _ hj).trans (set_oth _ _ _ hj)))
  have hz7 : W7.heap.size = w5.heap.size := by rw [← hW7]; simp [World.setCell]
  have hb7 : Below w.heap.size w W7 := by rw [← hW7]; exact ((((below_seq HB2.out HB5.out).setCell (p := ⟨w.heap.size + 1, 0, none⟩) (Nat.le_succ _) _).setCell (p := ⟨w.heap.size + 1, 1, none⟩) (Nat.le_succ _) _).setCell (p := ⟨w.heap.size + 1, 2, none⟩) (Nat.le_succ _) _).setCell (p := ⟨w.heap.size + 1, 3, none⟩) (Nat.le_succ _) _
  rw [hW7]
  clear hW7
  obtain ⟨z0, z1, z2, z3, _, _, _, _⟩ := gcell4 y7
  refine bodyPost_ret (v := .agg #[.int .i64 xk, .int .i64 xp, .slice xa xn xc, .slice za zn zc]) (by simp [results, Try.results24, go_sem, z0, z1, z2, z3]) rfl ?_
  refine ⟨⟨⟨xk, xp, xls, xnx⟩, .slice xa xn xc, .slice za zn zc⟩, rfl, HXG.out, ?_, hb7⟩
  refine (HXOK.out.keep (fun j _ hj ho _ => (hk7 j (by have := hj.1; have := HS2.out; omega)).trans ho)).mono (fun j hj => ⟨by have := hj.1; have := HS2.out; omega, by have := hj.2; omega⟩)

set_option maxHeartbeats 2000000 in
set_option maxRecDepth 100000 in
theorem close2_any (i : Int) (y : NV) (nb N : Nat) (w : World) (hok : y.Ok (fun k => k < w.heap.size) w) (hl : y.g.ls.length ≤ 400000000) (hx : y.g.nx.length ≤ 100000000) (hN : N ≤ 1000000000) (hr : ∀ r ∈ y.g.nx, r.n ≤ 1000000000) (hnb : ∀ W, Below w.heap.size w W → W.cell? ⟨nb, 0, none⟩ = some (.int .i64 (N : Int))) :
    Calls Try.prog 26 #[.int .i64 i, y.val, .pointer (some ⟨nb, 0, none⟩)] w fun e w' => ∃ x : NV, e = .returned x.val ∧ x.g = nodeD N y.g ∧ x.Ok (Fresh w.heap.size w'.heap.size) w' ∧ Below w.heap.size w w' := by
  obtain ⟨⟨k, p, ls, nx⟩, lv, nv⟩ := y
  obtain ⟨la, ln, lc, e1, _⟩ := hok.l.open
  obtain ⟨na, nn, nc, e2, _⟩ := hok.n.open
  simp only at e1 e2
  subst e1
  subst e2
  obtain ⟨W2, hW2⟩ : ∃ W2, (w.alloc (.cells #[.int .i64 k, .int .i64 p, .slice la ln lc, .slice na nn nc] 46)).alloc (.cells #[.int .i64 0, .int .i64 0, .slice none 0 0, .slice none 0 0] 46) = W2 := ⟨_, rfl⟩
  obtain ⟨hs2, hb2, x0, x1⟩ := two_made hW2
  obtain ⟨r0, r1, r2, r3, _, _, _, _⟩ := gcell4 x0
  have HC := Lib.hid (dualNode_any ⟨⟨k, p, ls, nx⟩, .slice la ln lc, .slice na nn nc⟩ N W2 ((hok.keep (hb2.keeps'.mono (fun k hk => hk))).mono (fun k hk => Nat.lt_of_lt_of_le hk hb2.size)) hl hx hN hr)
  have n0 := hnb W2 hb2
  have HW2 := Lib.hid hW2
  have HB2 := Lib.hid hb2
  have HX1 := Lib.hid x1
  have HS2 := Lib.hid hs2
  clear hok hW2 hb2 x0 x1 hl hx hs2 hr hnb
  go_enter Try.func26, Try.ntmps26
  go_upto_region 1 with fail
  rw [show (w.alloc (.cells #[.int .i64 k, .int .i64 p, .slice la ln lc, .slice na nn nc] 46)).alloc (.cells #[.int .i64 0, .int .i64 0, .slice none 0 0, .slice none 0 0] 46) = W2 from HW2.out]
  go_wp2_with (go_at_call 27; go_loud (refine HC.out.mono ?_; rintro en w5 ⟨⟨⟨xk, xp, xls, xnx⟩, xlv, xnv⟩, rfl, hxg, hxok, hb5⟩; simp only at hxg; obtain ⟨xa, xn, xc, e7, _⟩ := hxok.l.open; obtain ⟨za, zn, zc, e8, _⟩ := hxok.n.open; simp only at e7 e8; subst e7; subst e8; have HXG := Lib.hid hxg; have HXOK := Lib.hid hxok; have HB5 := Lib.hid hb5; have HX5 := Lib.hid ((HB5.out.block (w.heap.size + 1) (by have := HS2.out; omega)).trans HX1.out); obtain ⟨_, _, _, _, g0, g1, g2, g3⟩ := gcell4 HX5.out; obtain ⟨o0, o1, o2, o3, _, _, _, _⟩ := gcell4 HX5.out; clear hxg hxok hb5))
  obtain ⟨W7, hW7⟩ : ∃ W7, (((w5.setCell ⟨w.heap.size + 1, 0, none⟩ (.int .i64 xk)).setCell ⟨w.heap.size + 1, 1, none⟩ (.int .i64 xp)).setCell ⟨w.heap.size + 1, 2, none⟩ (.slice xa xn xc)).setCell ⟨w.heap.size + 1, 3, none⟩ (.slice za zn zc) = W7 := ⟨_, rfl⟩
  have y7 : W7.heap[w.heap.size + 1]? = some (.cells #[.int .i64 xk, .int .i64 xp, .slice xa xn xc, .slice za zn zc] 46 (0, 0)) := by rw [← hW7]; exact set_block (set_block (set_block (set_block HX5.out 0 _) 1 _) 2 _) 3 _
  have hk7 : ∀ j, j ≠ w.heap.size + 1 → W7.heap[j]? = w5.heap[j]? := fun j hj => by rw [← hW7]; exact (set_oth _ _ _ hj).trans ((set_oth _ _ _ hj).trans ((set_oth _ _ _ hj).trans (set_oth _ _ _ hj)))
  have hz7 : W7.heap.size = w5.heap.size := by rw [← hW7]; simp [World.setCell]
  have hb7 : Below w.heap.size w W7 := by rw [← hW7]; exact ((((below_seq HB2.out HB5.out).setCell (p := ⟨w.heap.size + 1, 0, none⟩) (Nat.le_succ _) _).setCell (p := ⟨w.heap.size + 1, 1, none⟩) (Nat.le_succ _) _).setCell (p := ⟨w.heap.size + 1, 2, none⟩) (Nat.le_succ _) _).setCell (p := ⟨w.heap.size + 1, 3, none⟩) (Nat.le_succ _) _
  rw [hW7]
  clear hW7
  obtain ⟨z0, z1, z2, z3, _, _, _, _⟩ := gcell4 y7
  refine bodyPost_ret (v := .agg #[.int .i64 xk, .int .i64 xp, .slice xa xn xc, .slice za zn zc]) (by simp [results, Try.results26, go_sem, z0, z1, z2, z3]) rfl ?_
  refine ⟨⟨⟨xk, xp, xls, xnx⟩, .slice xa xn xc, .slice za zn zc⟩, rfl, HXG.out, ?_, hb7⟩
  refine (HXOK.out.keep (fun j _ hj ho _ => (hk7 j (by have := hj.1; have := HS2.out; omega)).trans ho)).mono (fun j hj => ⟨by have := hj.1; have := HS2.out; omega, by have := hj.2; omega⟩)

set_option maxHeartbeats 4000000 in
set_option maxRecDepth 100000 in
/-- Close gives the closed graph, in new memory. -/
theorem close_any (ns : List GNode) (na : Option Addr) (nn nc : Nat) (w : World) (hns : NodeSl (fun k => k < w.heap.size) w (.slice na nn nc) ns) (hl : ns.length ≤ 1000000) (hx : ∀ g ∈ ns, g.nx.length ≤ 1000000 ∧ g.ls.length ≤ 400000000) (hw : wfG ns) :
    Calls Try.prog 12 #[grV na nn nc] w fun e w' => ∃ (oa : Option Addr) (on oc : Nat), e = .returned (grV oa on oc) ∧ NodeSl (fun k => k < w'.heap.size) w' (.slice oa on oc) (closeG ns) ∧ Below w.heap.size w w' := by
  obtain ⟨_, _, _, e, hln, _, _⟩ := hns.open
  simp only [Value.slice.injEq] at e
  obtain ⟨rfl, rfl, rfl⟩ := e
  obtain ⟨W2, hW2⟩ : ∃ W2, (w.alloc (grO na nn nc)).alloc (grO none 0 0) = W2 := ⟨_, rfl⟩
  obtain ⟨hs2, hb2, x0, x1⟩ := two_made hW2
  obtain ⟨W3, hW3⟩ : ∃ W3, W2.alloc (.cells #[.int .i64 (nn : Int)] 3) = W3 := ⟨_, rfl⟩
  have hb3 : Below W2.heap.size W2 W3 := by rw [← hW3]; exact blkBelow W2 _ _
  have hs3 : W3.heap.size = w.heap.size + 3 := by rw [← hW3, World.size_alloc]; omega
  have x2 : W3.heap[W2.heap.size]? = some (.cells #[.int .i64 (nn : Int)] 3) := by rw [← hW3]; exact World.alloc_heap_new _ _
  have hbw := below_seq hb2 hb3
  have hns3 := hns.keep (hbw.keeps'.mono (fun k hk => hk))
  obtain ⟨ys, hyg, hyo, hyn, hys⟩ := hns3.nvs
  have hyl : ys.length ≤ 100000000 := by have := congrArg List.length hyg; rw [List.length_map] at this; omega
  have hyo3 : ∀ y ∈ ys, y.Ok (fun k => k < W3.heap.size) W3 := fun y hy => (hyo y hy).mono (fun k hk => Nat.lt_of_lt_of_le hk hbw.size)
  have hyb : ∀ y ∈ ys, y.g.nx.length ≤ 100000000 ∧ y.g.ls.length ≤ 400000000 ∧ ∀ r ∈ y.g.nx, r.n ≤ 1000000000 := fun y hy => by
    have hm : y.g ∈ ns := by rw [← hyg]; exact List.mem_map_of_mem hy
    have h1 := hx _ hm
    refine ⟨by omega, h1.2, fun r hr => ?_⟩
    obtain ⟨j, hj⟩ := List.mem_iff_getElem?.1 hm
    have := hw j _ hj r hr
    omega
  have hat : ∀ {i : Nat} {y : NV}, ys[i]? = some y → y ∈ ys := fun h => List.mem_of_getElem? h
  have hm1 : MapsN 24 #[] W3 ys id := fun i y hy wr hwr => by
    have h := hyb y (hat hy)
    exact close1_any i y wr (((hyo3 y (hat hy)).keep (hwr.keeps'.mono (fun k hk => hk))).mono (fun k hk => Nat.lt_of_lt_of_le hk hwr.size)) h.2.1 h.1
  have hn0 : ∀ W, Below W3.heap.size W3 W → W.cell? ⟨W2.heap.size, 0, none⟩ = some (.int .i64 (nn : Int)) := fun W hW => by
    have h := (hW.block W2.heap.size (by omega)).trans x2
    simp [World.cell?, h]
  have hm2 : MapsN 26 #[.pointer (some ⟨W2.heap.size, 0, none⟩)] W3 ys (nodeD nn) := fun i y hy wr hwr => by
    have h := hyb y (hat hy)
    exact close2_any i y W2.heap.size nn wr (((hyo3 y (hat hy)).keep (hwr.keeps'.mono (fun k hk => hk))).mono (fun k hk => Nat.lt_of_lt_of_le hk hwr.size)) h.2.1 h.1 (by have := hln.out; omega) h.2.2 (fun W hW => hn0 W (below_seq hwr hW))
  have HM1 := Lib.hid (mappedN_any na nn nc ys id 24 #[] W3 hyo3 hyn hys hyl enters_c1 hm1)
  have HM2 : Hid (∀ W, Below W3.heap.size W3 W → Calls Try.prog 23 #[.slice na nn nc, .func (.func 26) #[] #[.pointer (some ⟨W2.heap.size, 0, none⟩)]] W (NodesRet W (ys.map (fun y => nodeD nn y.g)))) := Lib.hid (fun W hW => by
    refine mappedN_any na nn nc ys (nodeD nn) 26 #[.pointer (some ⟨W2.heap.size, 0, none⟩)] W (fun y hy => ((hyo3 y hy).keep (hW.keeps'.mono (fun k hk => hk))).mono (fun k hk => Nat.lt_of_lt_of_le hk hW.size)) hyn ?_ hyl enters_c2 (fun i y hy wr hwr => hm2 i y hy wr (below_seq hW hwr))
    obtain ⟨_, _, _, e4, _, _, _⟩ := hns3.open
    rcases hys with h | ⟨b, o, e5, h⟩
    · exact .inl h
    · refine .inr ⟨b, o, e5, fun j el i u hj hi => ?_⟩
      have hc := h j el i u hj hi
      refine (hW.cell (p := ⟨b, _, none⟩) ?_).trans hc
      exact World.block_lt_of_cell? _ ⟨b, _, none⟩ hc)
  have HW2 := Lib.hid hW2
  have HW3 := Lib.hid hW3
  have HBW := Lib.hid hbw
  have HX0 := Lib.hid x0
  have HX1 := Lib.hid x1
  have HX2 := Lib.hid x2
  have HS2 := Lib.hid hs2
  have HS3 := Lib.hid hs3
  have HLN := hln
  have HYG := Lib.hid hyg
  have HB2 := Lib.hid hb2
  have HB3 := Lib.hid hb3
  have HL := Lib.hid hl
  have g0 : W2.cell? ⟨w.heap.size, 0, none⟩ = some (.slice na nn nc) := by simp [World.cell?, x0]
  clear hns hx hw hln hW2 hs2 hb2 x0 x1 hW3 hb3 hs3 x2 hbw hns3 hyg hyo hyn hys hyl hyo3 hyb hat hm1 hn0 hm2 hl
  go_enter Try.func12, Try.ntmps12
  go_upto_region 1 with fail
  rw [show (w.alloc (.cells #[.slice na nn nc] 27)).alloc (.cells #[.slice none 0 0] 27) = W2 from HW2.out]
  go_upto_region 2 with fail
  rw [show W2.alloc (.cells #[.int .i64 (nn : Int)] 3) = W3 from HW3.out]
  have hg : ∀ W, Below W3.heap.size W3 W → W.heap[w.heap.size]? = some (grO na nn nc) ∧ W.heap[w.heap.size + 1]? = some (grO none 0 0) := fun W hW => by
    have h2 := HS2.out
    have h3 := HS3.out
    exact ⟨(hW.block _ (by omega)).trans ((HB3.out.block _ (by omega)).trans HX0.out), (hW.block _ (by omega)).trans ((HB3.out.block _ (by omega)).trans HX1.out)⟩
  have HG := Lib.hid hg
  clear g0
  have g3 : W3.cell? ⟨w.heap.size, 0, none⟩ = some (.slice na nn nc) := by simp [World.cell?, (hg W3 (Below.refl _ _)).1]
  clear hg
  go_upto_region 3 with (go_at_call 23; go_loud (refine HM1.out.mono ?_; rintro en V ⟨sa, sn, sc, xs, rfl, hrow, hxg, hxo, hbV⟩; have HROW := Lib.hid hrow; have HXG := Lib.hid hxg; have HXO := Lib.hid hxo; have HBV := Lib.hid hbV; have g4 : V.cell? ⟨w.heap.size, 0, none⟩ = some (.slice na nn nc) := (by simp [World.cell?, (HG.out V hbV).1]); clear hrow hxg hxo hbV))
  clear g3
  go_upto_region 4 with (go_at_call 23; go_loud (refine (HM2.out V HBV.out).mono ?_; rintro en U ⟨da, dn, dc, zs, rfl, hrow, hxg, hxo, hbU⟩; have HROW2 := Lib.hid hrow; have HXG2 := Lib.hid hxg; have HXO2 := Lib.hid hxo; have HBU := Lib.hid hbU; clear hrow hxg hxo hbU))
  clear g4
  have hVU := HBU.out.size
  have h3V := HBV.out.size
  have HRU : Hid (GRow 46 4 W3.heap.size U (.slice sa sn sc) (xs.map NV.cells)) := Lib.hid (HROW.out.to HBU.out)
  have hxl : xs.length = ns.length := by have h := congrArg List.length HXG.out; rw [List.length_map, List.length_map] at h; have h2 := congrArg List.length HYG.out; rw [List.length_map] at h2; omega
  have hzl : zs.length = ns.length := by have h := congrArg List.length HXG2.out; rw [List.length_map, List.length_map] at h; have h2 := congrArg List.length HYG.out; rw [List.length_map] at h2; omega
  obtain ⟨_, _, _, e9, hdn, hdsrc⟩ := HROW2.out.src
  simp only [Value.slice.injEq] at e9
  obtain ⟨rfl, rfl, rfl⟩ := e9
  have hg := HG.out U (below_seq HBV.out HBU.out)
  have HGU := Lib.hid hg
  have hfr : U.frozen? ⟨w.heap.size + 1, 0, none⟩ = false := frozen_of_block hg.2 0
  have hfc : U.cell? ⟨w.heap.size + 1, 0, none⟩ = some (.slice none 0 0) := by simp [World.cell?, hg.2]
  have HXL := Lib.hid hxl
  have HZL := Lib.hid hzl
  have HDN := Lib.hid hdn
  have HDS := Lib.hid hdsrc
  clear hg hxl hzl hdn hdsrc hfr hfc
  go_wp2_with (at_builtin; refine wpList_appG nodeElem rfl _ _ rfl rfl HRU.out da dn dc (zs.map NV.cells) rfl HDN.out (one_nodes HXO2.out).1 HDS.out (one_nodes HXO2.out).2 ?_ ?_ ?_)
  · have := HXL.out
    have := HZL.out
    have := HL.out
    simp only [List.length_map]; omega
  · omega
  · intro ga gn gc U6 hr6 hg6 hq6
    have hge : ∀ k, (Value.slice sa sn sc).ownBlock = some k → W3.heap.size ≤ k ∧ k < V.heap.size := fun k hk => HROW.out.lt k hk
    have hs3' := HS3.out
    have hk6 : ∀ k, k < U.heap.size → some k ≠ (Value.slice sa sn sc).ownBlock → U6.heap[k]? = U.heap[k]? := fun k hk hn => hg6.block k hk hn
    have hu6 : U6.heap[w.heap.size + 1]? = some (grO none 0 0) := (hk6 _ (by omega) (fun e => by have := hge _ e.symm; omega)).trans HGU.out.2
    have hb6 : Below w.heap.size w U6 := (below_seq HBW.out (below_seq HBV.out HBU.out)).grown hg6 (by omega) (fun k hk => by have := (hge k hk).1; omega)
    have hfr : U6.frozen? ⟨w.heap.size + 1, 0, none⟩ = false := frozen_of_block hu6 0
    have hfc : U6.cell? ⟨w.heap.size + 1, 0, none⟩ = some (.slice none 0 0) := by simp [World.cell?, hu6]
    have hz6 := hg6.size
    have HR6 := Lib.hid hr6
    have HK6 := Lib.hid hk6
    have HU6 := Lib.hid hu6
    have HB6 := Lib.hid hb6
    have HGE := Lib.hid hge
    have HQ6 := Lib.hid hq6
    clear hr6 hk6 hu6 hb6 hge hg6 hq6
    go_wp2_with fail
    clear hfr hfc
    obtain ⟨W9, hW9⟩ : ∃ W9, U6.setCell ⟨w.heap.size + 1, 0, none⟩ (.slice ga gn gc) = W9 := ⟨_, rfl⟩
    have hx9 : W9.heap[w.heap.size + 1]? = some (grO ga gn gc) := by rw [← hW9]; exact set_block HU6.out 0 _
    have hk9 : ∀ k, k ≠ w.heap.size + 1 → W9.heap[k]? = U6.heap[k]? := fun k hk => by rw [← hW9]; exact set_oth _ _ _ hk
    have hs9 : W9.heap.size = U6.heap.size := by rw [← hW9]; simp [World.setCell]
    have hbe : Below w.heap.size w W9 := by rw [← hW9]; exact HB6.out.setCell (p := ⟨w.heap.size + 1, 0, none⟩) (Nat.le_succ _) _
    rw [hW9]
    clear hW9
    have c9 : W9.cell? ⟨w.heap.size + 1, 0, none⟩ = some (.slice ga gn gc) := by simp [World.cell?, hx9]
    refine bodyPost_ret (v := grV ga gn gc) (by simp [results, Try.results12, go_sem, c9, grV]) rfl ?_
    refine ⟨ga, gn, gc, rfl, ?_, hbe⟩
    have hrow9 : GRow 46 4 W3.heap.size W9 (.slice ga gn gc) ((xs ++ zs).map NV.cells) := by
      rw [List.map_append]
      exact HR6.out.kept (fun k hk => hk9 k (by have := (HR6.out.lt k hk).1; omega))
    have hok9 : ∀ x ∈ xs ++ zs, x.Ok (fun k => k < W9.heap.size) W9 := fun x hx => by
      rcases List.mem_append.1 hx with hx | hx
      · refine ((HXO.out x hx).keep (fun k _ hk ho _ => ?_)).mono (fun k hk => by have := hk.2.1; omega)
        exact (hk9 k (by have := hk.1; omega)).trans ((HK6.out k (by have := hk.2.1; omega) hk.2.2).trans ((HBU.out.block k hk.2.1).trans ho))
      · refine ((HXO2.out x hx).keep (fun k _ hk ho _ => ?_)).mono (fun k hk => by have := hk.2.1; omega)
        exact (hk9 k (by have := hk.1; omega)).trans ((HK6.out k hk.2.1 (fun e => by have := (HGE.out k e.symm).2; have := hk.1; omega)).trans ho)
    have h := hrow9.nodes hok9 (by have := HXL.out; have := HZL.out; have := HL.out; simp only [List.length_append, maxLen]; omega)
    have hg : (xs ++ zs).map NV.g = closeG ns := by
      rw [List.map_append, HXG.out, HXG2.out]
      unfold closeG
      rw [← HLN.out, ← HYG.out]
      simp
    rw [hg] at h
    exact h.mono (fun k hk => by
      rcases hk with hk | hk
      · exact hk
      · exact hk.2)
end Go.Proofs.Ytkjngbliomckiaa

/- Duals: Of; Session. -/
namespace Go.Proofs.Ytkjngbliomckiaa
open Go.RowKit Go.Deep Go.Shelf

set_option maxHeartbeats 4000000 in
set_option maxRecDepth 100000 in
theorem of_any (na : Option Addr) (N nc a : Nat) (s : Int) (w : World) (hn : N ≤ 1000000000) (ha : a ≤ 1000000000) :
    Calls Try.prog 16 #[grV na (2 * N) nc, rfV a s] w fun e w' => e = .returned (rfV (ofD N ⟨a, s⟩).n (ofD N ⟨a, s⟩).s) ∧ Below w.heap.size w w' := by
  obtain ⟨W3, hW3⟩ : ∃ W3, ((w.alloc (grO na (2 * N) nc)).alloc (refO (.int .i64 (a : Int)) (.int .i64 s))).alloc (refO (.int .i64 0) (.int .i64 0)) = W3 := ⟨_, rfl⟩
  obtain ⟨hs3, hb3, x0, x1, x2⟩ := three_made hW3
  have g0 : W3.cell? ⟨w.heap.size, 0, none⟩ = some (.slice na (2 * N) nc) := by simp [World.cell?, x0]
  obtain ⟨r0, r1, _, _⟩ := refO_cells x1
  have HW3 := Lib.hid hW3
  have HB3 := Lib.hid hb3
  have HX2 := Lib.hid x2
  have HS3 := Lib.hid hs3
  have hq : Int.tdiv ((2 * N : Nat) : Int) 2 = (N : Int) := by rw [Int.tdiv_eq_ediv_of_nonneg (by omega)]; omega
  have hq' : Int.tdiv (2 * (N : Int)) 2 = (N : Int) := by rw [Int.tdiv_eq_ediv_of_nonneg (by omega)]; omega
  clear hW3 hb3 x0 x1 x2 hs3
  by_cases hlt : a < N
  · have hv : rfV (ofD N ⟨a, s⟩).n (ofD N ⟨a, s⟩).s = .agg #[.int .i64 ((a : Int) + (N : Int)), .int .i64 s] := by rw [ofD, if_pos hlt]; simp [rfV]
    have HBE := Lib.hid (fun W => behind_any (a : Int) s (N : Int) W (by rw [IntKind.wrap_i64]; omega))
    rw [hv]
    clear hv
    go_enter Try.func16, Try.ntmps16
    go_upto_region 1 with fail
    rw [show ((w.alloc (.cells #[.slice na (2 * N) nc] 27)).alloc (.cells #[.int .i64 (a : Int), .int .i64 s] 42)).alloc (.cells #[.int .i64 0, .int .i64 0] 42) = W3 from HW3.out]
    go_wp2_with (go_at_call 28; go_loud (refine (HBE.out _).mono ?_; rintro en w5 ⟨rfl, hb5⟩; have HB5 := Lib.hid hb5; have HY1 := Lib.hid ((HB5.out.block (w.heap.size + 2) (by have := HS3.out; omega)).trans HX2.out); obtain ⟨y0, y1, y2, y3⟩ := refO_cells HY1.out; clear hb5))
    obtain ⟨W6, hW6⟩ : ∃ W6, (w5.setCell ⟨w.heap.size + 1 + 1, 0, none⟩ (.int .i64 ((a : Int) + (N : Int)))).setCell ⟨w.heap.size + 1 + 1, 1, none⟩ (.int .i64 s) = W6 := ⟨_, rfl⟩
    have hy := refO_fill HY1.out (.int .i64 ((a : Int) + (N : Int))) (.int .i64 s)
    have hb6 : Below w.heap.size w W6 := by rw [← hW6]; exact ((below_seq HB3.out HB5.out).setCell (p := ⟨w.heap.size + 1 + 1, 0, none⟩) (by show w.heap.size ≤ w.heap.size + 1 + 1; omega) _).setCell (p := ⟨w.heap.size + 1 + 1, 1, none⟩) (by show w.heap.size ≤ w.heap.size + 1 + 1; omega) _
    rw [show w.heap.size + 2 = w.heap.size + 1 + 1 from rfl, hW6] at hy
    rw [hW6]
    obtain ⟨z0, z1, _, _⟩ := refO_cells hy
    refine bodyPost_ret (v := .agg #[.int .i64 ((a : Int) + (N : Int)), .int .i64 s]) (by simp [results, Try.results16, go_sem, z0, z1]) rfl ?_
    exact ⟨rfl, hb6⟩
  · have hv : rfV (ofD N ⟨a, s⟩).n (ofD N ⟨a, s⟩).s = .agg #[.int .i64 ((a : Int) + -(N : Int)), .int .i64 s] := by rw [ofD, if_neg hlt]; simp only [rfV]; rw [show ((a - N : Nat) : Int) = (a : Int) + -(N : Int) by omega]
    have HBE := Lib.hid (fun W => behind_any (a : Int) s (-(N : Int)) W (by rw [IntKind.wrap_i64]; omega))
    rw [hv]
    clear hv
    go_enter Try.func16, Try.ntmps16
    go_upto_region 1 with fail
    rw [show ((w.alloc (.cells #[.slice na (2 * N) nc] 27)).alloc (.cells #[.int .i64 (a : Int), .int .i64 s] 42)).alloc (.cells #[.int .i64 0, .int .i64 0] 42) = W3 from HW3.out]
    go_wp2_with (go_at_call 28; go_loud (refine (HBE.out _).mono ?_; rintro en w5 ⟨rfl, hb5⟩; have HB5 := Lib.hid hb5; have HY1 := Lib.hid ((HB5.out.block (w.heap.size + 2) (by have := HS3.out; omega)).trans HX2.out); obtain ⟨y0, y1, y2, y3⟩ := refO_cells HY1.out; clear hb5))
    obtain ⟨W6, hW6⟩ : ∃ W6, (w5.setCell ⟨w.heap.size + 1 + 1, 0, none⟩ (.int .i64 ((a : Int) + -(N : Int)))).setCell ⟨w.heap.size + 1 + 1, 1, none⟩ (.int .i64 s) = W6 := ⟨_, rfl⟩
    have hy := refO_fill HY1.out (.int .i64 ((a : Int) + -(N : Int))) (.int .i64 s)
    have hb6 : Below w.heap.size w W6 := by rw [← hW6]; exact ((below_seq HB3.out HB5.out).setCell (p := ⟨w.heap.size + 1 + 1, 0, none⟩) (by show w.heap.size ≤ w.heap.size + 1 + 1; omega) _).setCell (p := ⟨w.heap.size + 1 + 1, 1, none⟩) (by show w.heap.size ≤ w.heap.size + 1 + 1; omega) _
    rw [show w.heap.size + 2 = w.heap.size + 1 + 1 from rfl, hW6] at hy
    rw [hW6]
    obtain ⟨z0, z1, _, _⟩ := refO_cells hy
    refine bodyPost_ret (v := .agg #[.int .i64 ((a : Int) + -(N : Int)), .int .i64 s]) (by simp [results, Try.results16, go_sem, z0, z1]) rfl ?_
    exact ⟨rfl, hb6⟩

set_option maxHeartbeats 2000000 in
set_option maxRecDepth 100000 in
theorem session_any (t : Ty) (v : Value) (w : World) (h : Lies w v t) :
    Calls Try.prog 18 #[v] w fun e w' => e = .returned (.bool (decide (t.k ≠ 1 ∧ t.k ≠ 2))) ∧ Below w.heap.size w w' := by
  obtain ⟨lv, kv, rfl, _, hl, hk⟩ := h
  obtain ⟨la, ln, lc, rfl, _⟩ := hl.open
  obtain ⟨ka, kn, kc, rfl, _⟩ := hk.open
  obtain ⟨W0, hW0⟩ : ∃ W0, w.alloc (.cells #[.int .i64 t.k, .int .i64 t.p, .string t.n, .int .i64 t.s, .slice la ln lc, .slice ka kn kc] 50) = W0 := ⟨_, rfl⟩
  have hb0 : Below w.heap.size w W0 := by rw [← hW0]; exact blkBelow w _ _
  have x0 : W0.heap[w.heap.size]? = some (.cells #[.int .i64 t.k, .int .i64 t.p, .string t.n, .int .i64 t.s, .slice la ln lc, .slice ka kn kc] 50) := by rw [← hW0]; exact World.alloc_heap_new _ _
  have c0 : W0.cell? ⟨w.heap.size, 0, none⟩ = some (.int .i64 t.k) := by simp [World.cell?, x0]
  have HW0 := Lib.hid hW0
  have HB0 := Lib.hid hb0
  clear hl hk hb0 hW0 x0
  obtain ⟨k, hkk⟩ : ∃ k, t.k = k := ⟨_, rfl⟩
  rw [hkk] at c0 HW0 ⊢
  clear hkk
  by_cases h1 : k = 1
  · subst h1
    go_enter Try.func18, Try.ntmps18
    go_upto_region 1 with fail
    rw [show w.alloc (.cells #[.int .i64 1, .int .i64 t.p, .string t.n, .int .i64 t.s, .slice la ln lc, .slice ka kn kc] 50) = W0 from HW0.out]
    go_wp2_with fail
    go_ret
    exact ⟨rfl, HB0.out⟩
  by_cases h2 : k = 2
  · subst h2
    go_enter Try.func18, Try.ntmps18
    go_upto_region 1 with fail
    rw [show w.alloc (.cells #[.int .i64 2, .int .i64 t.p, .string t.n, .int .i64 t.s, .slice la ln lc, .slice ka kn kc] 50) = W0 from HW0.out]
    go_wp2_with fail
    go_ret
    exact ⟨rfl, HB0.out⟩
  have e : decide (k ≠ 1 ∧ k ≠ 2) = true := by simp [h1, h2]
  rw [e]
  have b1 : (k == 1) = false := by simpa using h1
  have b2 : (k == 2) = false := by simpa using h2
  have b1' : decide (k = 1) = false := by simpa using h1
  have b2' : decide (k = 2) = false := by simpa using h2
  have H1 := Lib.hid h1
  have H2 := Lib.hid h2
  clear h1 h2 e
  go_enter Try.func18, Try.ntmps18
  go_upto_region 1 with fail
  rw [show w.alloc (.cells #[.int .i64 k, .int .i64 t.p, .string t.n, .int .i64 t.s, .slice la ln lc, .slice ka kn kc] 50) = W0 from HW0.out]
  go_wp2_with fail
  go_ret
  refine ⟨ret_bool ?_, HB0.out⟩
  simp [H1.out, H2.out]
end Go.Proofs.Ytkjngbliomckiaa

/- Heads: Label. -/
namespace Go.Proofs.Ytkjngbliomckiaa
open Go.RowKit Go.Deep Go.Shelf

/-- The cells of what a call of Next answers. -/
def refN : Option GRef → Int
  | some q => (q.n : Int)
  | none => 0
def refS : Option GRef → Int
  | some q => q.s
  | none => 0
theorem refR_eq (o : Option GRef) : refR o = .tuple #[.agg #[.int .i64 (refN o), .int .i64 (refS o)], .bool o.isSome] := by cases o <;> rfl

end Go.Proofs.Ytkjngbliomckiaa

/- Heads: raising a reference raises what is behind it. -/
namespace Go.Proofs.Ytkjngbliomckiaa
open Go.RowKit Go.Deep Go.Shelf

/-- A drawn region: a call, and its result stored into a new box. -/
structure CB (V : World) (o0 o1 b : Value) (ic im ix ib ia is iz : Nat) (L : Nat → Bool) (vals : Nat → Value) (w : World) : Prop where
  dn : L is = true → L ix = true ∧ L ia = true
  out : Below V.heap.size V w
  vc : L ic = true → vals ic = .tuple #[.agg #[o0, o1], b]
  vm : L im = true → vals im = .tuple #[.agg #[o0, o1], b]
  vx : L ix = true → vals ix = .agg #[o0, o1]
  vb : L ib = true → vals ib = b
  va : L ia = true → L is = false → ∃ X, vals ia = .pointer (some ⟨X, 0, none⟩) ∧ V.heap.size ≤ X ∧ w.heap[X]? = some (refO (.int .i64 0) (.int .i64 0))
  vs : L is = true → ∃ X, vals ia = .pointer (some ⟨X, 0, none⟩) ∧ V.heap.size ≤ X ∧ w.heap[X]? = some (refO o0 o1)
  vz : L iz = true → vals iz = b

/-- A row of references, read later. -/
theorem refs_at {ra : Option Addr} {rn rc : Nat} {rs : List GRef} {w : World} (h : RefSl (fun k => k < w.heap.size) w (.slice ra rn rc) rs) (h0 : 0 < rs.length) :
    rn = rs.length ∧ ∃ rb ro, ra = some ⟨rb, ro, none⟩ ∧ ∀ W, Below w.heap.size w W → ∀ (j : Nat) (r : GRef), rs[j]? = some r → W.cell? ⟨rb, ro + j * 2, none⟩ = some (.int .i64 r.n) ∧ W.cell? ⟨rb, ro + j * 2 + 1, none⟩ = some (.int .i64 r.s) := by
  obtain ⟨_, _, _, e, hl, _, hg⟩ := h.open
  simp only [Value.slice.injEq] at e
  obtain ⟨rfl, rfl, rfl⟩ := e
  obtain ⟨r0, hr0⟩ : ∃ r, rs[0]? = some r := ⟨_, List.getElem?_eq_getElem h0⟩
  obtain ⟨rb, ro, e0, _⟩ := hg 0 r0 hr0
  refine ⟨hl.out, rb, ro, e0, fun W hW j r hj => ?_⟩
  obtain ⟨kb, ko, e1, hk, c0, c1⟩ := hg j r hj
  rw [e0] at e1
  have e2 := Option.some.inj e1
  simp only [Addr.mk.injEq] at e2
  obtain ⟨rfl, rfl, _⟩ := e2
  exact ⟨(hW.cell (p := ⟨rb, _, none⟩) hk).trans c0, (hW.cell (p := ⟨rb, _, none⟩) hk).trans c1⟩
theorem aft_two (o : Option GRef) (k : Int) : ∃ (ob : Bool) (qn : Nat) (s1 s2 : Int), refR o = .tuple #[.agg #[.int .i64 (qn : Int), .int .i64 s1], .bool ob] ∧ refR (o.map (upR k)) = .tuple #[.agg #[.int .i64 (qn : Int), .int .i64 s2], .bool ob] ∧ (ob = true → s2 = s1 + k ∧ ∃ q, o = some q ∧ q.s = s1) := by
  cases o with
  | none => exact ⟨false, 0, 0, 0, rfl, rfl, fun h => by cases h⟩
  | some q => exact ⟨true, q.n, q.s, q.s + k, rfl, rfl, fun _ => ⟨rfl, q, rfl, rfl⟩⟩
theorem low_two (P : List Int) (k : Int) : ∃ (pb : Bool) (m1 m2 : Int), lowV P = .tuple #[.int .i64 m1, .bool pb] ∧ lowV (P.map (· + k)) = .tuple #[.int .i64 m2, .bool pb] ∧ (pb = true → m2 = m1 + k ∧ P ≠ [] ∧ minF P = m1) := by
  refine ⟨!P.isEmpty, minF P, minF (P.map (· + k)), rfl, by simp only [lowV, List.isEmpty_map], fun h => ?_⟩
  have hne : P ≠ [] := fun e => by rw [e] at h; cases h
  exact ⟨minF_up k P hne, hne, rfl⟩

end Go.Proofs.Ytkjngbliomckiaa
