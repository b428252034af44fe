/- Duals: the reference's Close. (and what follows from it) -/
import Derived.Test.YtkjngbliomckiaaPu11
import Derived.Test.YtkjngbliomckiaaPu15

/- Duals: the reference's Close. -/
namespace Go.Proofs.Ytkjngbliomckiaa
open Go.RowKit Go.Deep Go.Shelf

def nodeE (N : Nat) (g : GNode) : GNode := ⟨kindD g.k, g.p, g.ls, g.nx.mapIdx (refE g.k N)⟩
def closeE (ns : List GNode) : List GNode := ns ++ ns.map (nodeE ns.length)
theorem closeE_eq {ns : List GNode} (h : ∀ g ∈ ns, okN g) : closeE ns = closeG ns := by
  unfold closeE closeG
  congr 1
  apply List.map_congr_left
  intro g hg
  simp only [nodeE, nodeD, refE_eq (h g hg)]
theorem rcell4 {w : World} {X : Nat} {a b c d : Value} (h : w.heap[X]? = some (.cells #[a, b, c, d] 58 (0, 0))) : w.cell? ⟨X, 0, none⟩ = some a ∧ w.cell? ⟨X, 1, none⟩ = some b ∧ w.cell? ⟨X, 2, none⟩ = some c ∧ w.cell? ⟨X, 3, none⟩ = some d ∧ w.frozen? ⟨X, 0, none⟩ = false ∧ w.frozen? ⟨X, 1, none⟩ = false ∧ w.frozen? ⟨X, 2, none⟩ = false ∧ w.frozen? ⟨X, 3, none⟩ = false := by
  refine ⟨?_, ?_, ?_, ?_, frozen_of_block h 0, frozen_of_block h 1, frozen_of_block h 2, frozen_of_block h 3⟩ <;> simp [World.cell?, h]
theorem take_mapIdx {α : Type} {f : Nat → α → α} {l : List α} {q : Nat} {x : α} (h : l[q]? = some x) : (l.mapIdx f).take (q + 1) = (l.mapIdx f).take q ++ [f q x] := by
  have h1 : (l.mapIdx f)[q]? = some (f q x) := by rw [List.getElem?_mapIdx, h]; rfl
  exact take_snoc_get h1

/-- The drawn region that makes the dual node: a call, and the node stored into a new block. -/
structure RC (V : World) (k p : Int) (lv : Value) (L : Nat → Bool) (vals : Nat → Value) (w : World) : Prop where
  dn : (L 16 = true → L 5 = true) ∧ (L 18 = true → L 16 = true ∧ L 17 = true)
  out : Below V.heap.size V w
  v5 : L 5 = true → vals 5 = .int .i64 (kindD k)
  v16 : L 16 = true → vals 16 = .agg #[.int .i64 (kindD k), .int .i64 p, lv, .slice none 0 0]
  va : L 17 = true → L 18 = false → ∃ X, vals 17 = .pointer (some ⟨X, 0, none⟩) ∧ V.heap.size ≤ X ∧ w.heap[X]? = some (.cells #[.int .i64 0, .int .i64 0, .slice none 0 0, .slice none 0 0] 58 (0, 0))
  vs : L 18 = true → ∃ X, vals 17 = .pointer (some ⟨X, 0, none⟩) ∧ V.heap.size ≤ X ∧ w.heap[X]? = some (.cells #[.int .i64 (kindD k), .int .i64 p, lv, .slice none 0 0] 58 (0, 0))

set_option maxHeartbeats 16000000 in
set_option maxRecDepth 100000 in
theorem rclose_any (ns : List GNode) (na : Option Addr) (nn nc : Nat) (w : World) (hns : NodeSl (fun k => k < w.heap.size) w (.slice na nn nc) ns) (hw : wfG ns) (hl : ns.length ≤ 1000000) (hx : ∀ g ∈ ns, g.nx.length ≤ 1000000) :
    Calls Try.prog 13 #[.slice na nn nc] w fun e w' => ∃ (oa : Option Addr) (on oc : Nat), e = .returned (.slice oa on oc) ∧ NodeSl (fun k => k < w'.heap.size) w' (.slice oa on oc) (closeE ns) ∧ Below w.heap.size w w' := by
  obtain ⟨_, _, _, e0, hlen, _, _⟩ := hns.open
  simp only [Value.slice.injEq] at e0
  obtain ⟨rfl, rfl, rfl⟩ := e0
  have hnn : nn ≤ 1000000 := by have := hlen.out; omega
  obtain ⟨ys, hyg, hyo, hyn, hys⟩ := hns.nvs
  have HNS := Lib.hid (fun (W : World) (hW : Below w.heap.size w W) => hns.keep (hW.keeps'.mono (fun k hk => hk)))
  have HYG := Lib.hid hyg
  have HYO := Lib.hid hyo
  have HYN := Lib.hid hyn
  have HYS := Lib.hid hys
  have HL := Lib.hid hlen.out
  have HWF := Lib.hid hw
  have HXL := Lib.hid hx
  have hyl : Hid (ys.length = nn) := Lib.hid (by rw [hyn, List.length_map])
  clear hns hlen hw hx hyg hyo hyn hys
  go_enter Try.func13, Try.ntmps13
  go_upto_region 2 with (at_builtin; refine wpList_appG rnodeElem rfl _ _ rfl rfl (GRow.empty 58 4 w.heap.size w _ rfl (Nat.le_refl _)) na nn nc (ys.map NV.cells) rfl HYN.out (one_nodes HYO.out).1 ?_ (one_nodes HYO.out).2 ?_ ?_ ?_)
  · rcases HYS.out with h | ⟨b, o, e, h⟩
    · exact .inl h
    · exact .inr ⟨b, o, e, fun j e i u hj hi => Lib.cell?_alloc_some _ (h j e i u hj hi)⟩
  · have := hyl.out
    simp only [List.length_nil, List.length_map]; omega
  · simp
  intro ga0 gn0 gc0 w1 hrow0 hgrow0 hq0
  have hb1 : Below w.heap.size w w1 := ((Below.refl _ w).alloc (Nat.le_refl _) _).grown hgrow0 (by simp) (fun k hk => by cases hk; exact Nat.le_refl _)
  have HR0 : Hid (GRow 58 4 w.heap.size w1 (.slice ga0 gn0 gc0) (ys.map NV.cells)) := Lib.hid (by simpa using hrow0)
  have HB0 := Lib.hid hb1
  have HY0 : Hid (∀ x ∈ ys, x.Ok (fun k => k < w1.heap.size ∧ some k ≠ (Value.slice ga0 gn0 gc0).ownBlock) w1) := Lib.hid (fun x hx => ((HYO.out x hx).keep (hb1.keeps'.mono (fun k hk => hk))).mono (fun k hk => ⟨Nat.lt_of_lt_of_le hk hb1.size, fun e => by have := (HR0.out.lt k e.symm).1; omega⟩))
  clear hrow0 hgrow0 hq0 hb1
  go_wp2_with fail
  go_loopw [3, 4] (fun o i wr => ∃ (j : Nat) (oa : Option Addr) (on oc : Nat) (xs : List NV), i = .int .i64 j ∧ j ≤ nn ∧ o = .slice oa on oc ∧ Hid (GRow 58 4 w.heap.size wr (.slice oa on oc) (xs.map NV.cells)) ∧ Hid (∀ x ∈ xs, x.Ok (fun k => k < wr.heap.size ∧ some k ≠ (Value.slice oa on oc).ownBlock) wr) ∧ Hid (xs.map NV.g = ns ++ (ns.take j).map (nodeE nn)) ∧ Hid (Below w.heap.size w wr)) (fun _ i _ => nn - (intOf i).toNat)
  case atStart => exact ⟨0, _, _, _, ys, rfl, by omega, rfl, HR0, HY0, Lib.hid (by rw [HYG.out]; simp), HB0⟩
  case round =>
    rename World => V
    obtain ⟨j, oa, on, oc, xs, rfl, hj, rfl, HG, HX, HM, HB⟩ := hrel
    by_cases hlt : j < nn
    · obtain ⟨⟨xk, xp, xl, xn⟩, hg⟩ : ∃ x, ns[j]? = some x := ⟨_, List.getElem?_eq_getElem (by rw [← HL.out]; exact hlt)⟩
      obtain ⟨_, _, _, e, _, _, hget⟩ := (HNS.out V HB.out).open
      simp only [Value.slice.injEq] at e
      obtain ⟨rfl, rfl, rfl⟩ := e
      obtain ⟨kb, ko, rfl, hkb, n0, n1, lv, nv, n2, n3, nl, n5⟩ := hget j _ hg
      obtain ⟨x1, x2, x3, rfl, hxn, hmx, hgx⟩ := n5.open
      have hkw : kb < V.heap.size := Nat.lt_of_lt_of_le hkb HB.out.size
      have nl' := nl
      obtain ⟨la, ln, lc, rfl, _⟩ := nl'.open
      have HNL := Lib.hid nl
      have HXN := Lib.hid hxn
      have HGX := Lib.hid hgx
      have HSS : Hid (∀ W, Below V.heap.size V W → W.cell? ⟨kb, ko + j * 4, none⟩ = some (.int .i64 xk) ∧ W.cell? ⟨kb, ko + j * 4 + 1, none⟩ = some (.int .i64 xp) ∧ W.cell? ⟨kb, ko + j * 4 + 2, none⟩ = some (.slice la ln lc) ∧ W.cell? ⟨kb, ko + j * 4 + 3, none⟩ = some (.slice x1 x2 x3)) := Lib.hid (fun W hW => ⟨(hW.cell (p := ⟨kb, _, none⟩) hkw).trans n0, (hW.cell (p := ⟨kb, _, none⟩) hkw).trans n1, (hW.cell (p := ⟨kb, _, none⟩) hkw).trans n2, (hW.cell (p := ⟨kb, _, none⟩) hkw).trans n3⟩)
      clear hget n0 n1 n2 n3 nl n5 hxn hgx
      have HGG := Lib.hid hg
      have HRK := Lib.hid (fun W => rkind_any xk W)
      clear hg
      go_upto_region 5 with fail
      refine wp_region_held_drew (S := fun W => W.cell? ⟨kb, ko + j * 4, none⟩ = some (.int .i64 xk) ∧ W.cell? ⟨kb, ko + j * 4 + 1, none⟩ = some (.int .i64 xp) ∧ W.cell? ⟨kb, ko + j * 4 + 2, none⟩ = some (.slice la ln lc) ∧ W.cell? ⟨kb, ko + j * 4 + 3, none⟩ = some (.slice x1 x2 x3)) (by kernel_rfl) (HSS.out V (Below.refl _ _)) (fun hHeld => ?_)
      refine wpAnyH_take_l 0 (v := ?v0) rfl rfl (by kernel_rfl) (by kernel_rfl) (by kernel_rfl) (fun _ _ _ h => h) ?h0 (by assumption) ?r0
      case h0 => (intro w hSw; (try dsimp only at hSw); go_simp; try rfl)
      case' r0 => simp only [setD, List.set_cons_succ, List.set_cons_zero]
      refine wpAnyH_take_l 1 (v := ?v1) rfl rfl (by kernel_rfl) (by kernel_rfl) (by kernel_rfl) (fun _ _ _ h => h) ?h1 (by assumption) ?r1
      case h1 => (intro w hSw; (try dsimp only at hSw); go_simp; try rfl)
      case' r1 => simp only [setD, List.set_cons_succ, List.set_cons_zero]
      refine wpAnyH_take_l 2 (v := ?v2) rfl rfl (by kernel_rfl) (by kernel_rfl) (by kernel_rfl) (fun _ _ _ h => h) ?h2 (by assumption) ?r2
      case h2 => (intro w hSw; (try dsimp only at hSw); go_simp; try rfl)
      case' r2 => simp only [setD, List.set_cons_succ, List.set_cons_zero]
      refine wpAnyH_take_l 3 (v := ?v3) rfl rfl (by kernel_rfl) (by kernel_rfl) (by kernel_rfl) (fun _ _ _ h => h) ?h3 (by assumption) ?r3
      case h3 => (intro w hSw; (try dsimp only at hSw); go_simp; try rfl)
      case' r3 => simp only [setD, List.set_cons_succ, List.set_cons_zero]
      refine wpAnyH_take_l 4 (v := ?v4) rfl rfl (by kernel_rfl) (by kernel_rfl) (by kernel_rfl) (fun _ _ _ h => h) ?h4 (by assumption) ?r4
      case h4 => (intro w hSw; (try dsimp only at hSw); go_simp; try rfl)
      case' r4 => simp only [setD, List.set_cons_succ, List.set_cons_zero]
      refine wpAnyH_take_l 6 (v := ?v6) rfl rfl (by kernel_rfl) (by kernel_rfl) (by kernel_rfl) (fun _ _ _ h => h) ?h6 (by assumption) ?r6
      case h6 => (intro w hSw; (try dsimp only at hSw); go_simp; try rfl)
      case' r6 => simp only [setD, List.set_cons_succ, List.set_cons_zero]
      refine wpAnyH_take_l 7 (v := ?v7) rfl rfl (by kernel_rfl) (by kernel_rfl) (by kernel_rfl) (fun _ _ _ h => h) ?h7 (by assumption) ?r7
      case h7 => (intro w hSw; (try dsimp only at hSw); go_simp; try rfl)
      case' r7 => simp only [setD, List.set_cons_succ, List.set_cons_zero]
      refine wpAnyH_take_l 8 (v := ?v8) rfl rfl (by kernel_rfl) (by kernel_rfl) (by kernel_rfl) (fun _ _ _ h => h) ?h8 (by assumption) ?r8
      case h8 => (intro w hSw; (try dsimp only at hSw); go_simp; try rfl)
      case' r8 => simp only [setD, List.set_cons_succ, List.set_cons_zero]
      refine wpAnyH_take_l 9 (v := ?v9) rfl rfl (by kernel_rfl) (by kernel_rfl) (by kernel_rfl) (fun _ _ _ h => h) ?h9 (by assumption) ?r9
      case h9 => (intro w hSw; (try dsimp only at hSw); go_simp; try rfl)
      case' r9 => simp only [setD, List.set_cons_succ, List.set_cons_zero]
      refine wpAnyH_take_l 10 (v := ?v10) rfl rfl (by kernel_rfl) (by kernel_rfl) (by kernel_rfl) (fun _ _ _ h => h) ?h10 (by assumption) ?r10
      case h10 => (intro w hSw; (try dsimp only at hSw); go_simp; try rfl)
      case' r10 => simp only [setD, List.set_cons_succ, List.set_cons_zero]
      refine wpAnyH_take_l 11 (v := ?v11) rfl rfl (by kernel_rfl) (by kernel_rfl) (by kernel_rfl) (fun _ _ _ h => h) ?h11 (by assumption) ?r11
      case h11 => (intro w hSw; (try dsimp only at hSw); go_simp; try rfl)
      case' r11 => simp only [setD, List.set_cons_succ, List.set_cons_zero]
      refine wpAnyH_take_l 12 (v := ?v12) rfl rfl (by kernel_rfl) (by kernel_rfl) (by kernel_rfl) (fun _ _ _ h => h) ?h12 (by assumption) ?r12
      case h12 => (intro w hSw; (try dsimp only at hSw); go_simp; try rfl)
      case' r12 => simp only [setD, List.set_cons_succ, List.set_cons_zero]
      refine wpAnyH_take_l 13 (v := ?v13) rfl rfl (by kernel_rfl) (by kernel_rfl) (by kernel_rfl) (fun _ _ _ h => h) ?h13 (by assumption) ?r13
      case h13 => (intro w hSw; (try dsimp only at hSw); go_simp; try rfl)
      case' r13 => simp only [setD, List.set_cons_succ, List.set_cons_zero]
      refine wpAnyH_take_l 14 (v := ?v14) rfl rfl (by kernel_rfl) (by kernel_rfl) (by kernel_rfl) (fun _ _ _ h => h) ?h14 (by assumption) ?r14
      case h14 => (intro w hSw; (try dsimp only at hSw); go_simp; try rfl)
      case' r14 => simp only [setD, List.set_cons_succ, List.set_cons_zero]
      refine wpAnyH_take_l 15 (v := ?v15) rfl rfl (by kernel_rfl) (by kernel_rfl) (by kernel_rfl) (fun _ _ _ h => h) ?h15 (by assumption) ?r15
      case h15 => (intro w hSw; (try dsimp only at hSw); go_simp; try rfl)
      case' r15 => simp only [setD, List.set_cons_succ, List.set_cons_zero]
      refine wpAnyH_start [5, 16, 17, 18] (RC V xk xp (.slice la ln lc)) (by kernel_rfl) (by kernel_rfl) (fun L vals W hR => HSS.out _ hR.out) ?start ?steps ?stop
      case start => exact ⟨⟨fun h => (Bool.false_ne_true h).elim, fun h => (Bool.false_ne_true h).elim⟩, (Below.refl _ _).drew, fun h => (Bool.false_ne_true h).elim, fun h => (Bool.false_ne_true h).elim, fun h => (Bool.false_ne_true h).elim, fun h => (Bool.false_ne_true h).elim⟩
      case steps =>
        refine List.forall_mem_cons.2 ⟨?_, List.forall_mem_cons.2 ⟨?_, List.forall_mem_cons.2 ⟨?_, List.forall_mem_cons.2 ⟨?_, fun _ h => by cases h⟩⟩⟩⟩
        · refine InvStep.list (k := 5) rfl rfl [] (by kernel_rfl) [(5, some 22), (16, some 33), (17, some 5), (18, none)] (by kernel_rfl) (by decide) (fun L vals olds wx hLk hdeps hR K hK => ?_)
          have hK2 := hK.out
          clear hK
          simp only [fillL, setD, List.set_cons_succ, List.set_cons_zero] at hK2 ⊢
          clear hdeps
          go_simp
          refine (HRK.out _).mono ?_
          rintro en w9 ⟨rfl, rfl⟩
          dsimp only
          obtain ⟨rD, rO, r5, r16, ra, rs⟩ := hR
          exact hK2 _ _ ⟨⟨fun _ => rfl, rD.2⟩, rO, fun _ => rfl, r16, ra, rs⟩
        · refine InvStep.list (k := 16) rfl rfl [5] (by kernel_rfl) [(5, some 22), (16, some 33), (17, some 5), (18, none)] (by kernel_rfl) (by decide) (fun L vals olds wx hLk hdeps hR K hK => ?_)
          have hK2 := hK.out
          clear hK
          simp only [fillL, setD, List.set_cons_succ, List.set_cons_zero] at hK2 ⊢
          simp only [List.all_cons, List.all_nil, Bool.and_true] at hdeps
          have es := (slotO_done (vals := vals) (olds := olds) hdeps).trans (hR.v5 hdeps)
          simp only [es] at hK2 ⊢
          clear es
          go_simp
          obtain ⟨rD, rO, r5, r16, ra, rs⟩ := hR
          exact hK2 _ _ ⟨⟨fun _ => hdeps, fun h => ⟨rfl, (rD.2 h).2⟩⟩, rO, r5, fun _ => rfl, ra, rs⟩
        · refine InvStep.list (k := 17) rfl rfl [] (by kernel_rfl) [(5, some 22), (16, some 33), (17, some 5), (18, none)] (by kernel_rfl) (by decide) (fun L vals olds wx hLk hdeps hR K hK => ?_)
          have hK2 := hK.out
          clear hK
          simp only [fillL, setD, List.set_cons_succ, List.set_cons_zero] at hK2 ⊢
          clear hdeps
          have f18 : L 18 = false := by
            cases e : L 18 with
            | false => rfl
            | true => rw [(hR.dn.2 e).2] at hLk; cases hLk
          go_simp
          obtain ⟨rD, rO, r5, r16, ra, rs⟩ := hR
          exact hK2 _ _ ⟨⟨rD.1, fun h => absurd (f18.symm.trans h) (by decide)⟩, rO.alloc rO.size _, r5, r16, fun _ _ => ⟨_, rfl, rO.size, World.alloc_heap_new _ _⟩, fun h => absurd (f18.symm.trans h) (by decide)⟩
        · refine InvStep.list (k := 18) rfl rfl [16, 17] (by kernel_rfl) [(5, some 22), (16, some 33), (17, some 5), (18, none)] (by kernel_rfl) (by decide) (fun L vals olds wx hLk hdeps hR K hK => ?_)
          have hK2 := hK.out
          clear hK
          simp only [fillL, setD, List.set_cons_succ, List.set_cons_zero] at hK2 ⊢
          simp only [List.all_cons, List.all_nil, Bool.and_true, Bool.and_eq_true] at hdeps
          obtain ⟨X, eX, hX1, hX2⟩ := hR.va hdeps.2 hLk
          have es := (slotO_done (vals := vals) (olds := olds) hdeps.1).trans (hR.v16 hdeps.1)
          have es2 := (slotO_done (vals := vals) (olds := olds) hdeps.2).trans eX
          simp only [es, es2] at hK2 ⊢
          clear es es2
          obtain ⟨q0, q1, q2, q3, p0, p1, p2, p3⟩ := rcell4 hX2
          have EX := Lib.hid eX
          clear eX
          go_simp
          clear q0 q1 q2 q3 p0 p1 p2 p3
          obtain ⟨rD, rO, r5, r16, ra, rs⟩ := hR
          refine hK2 undef _ ⟨⟨rD.1, fun _ => hdeps⟩, (((rO.setCell (p := ⟨X, 0, none⟩) hX1 _).setCell (p := ⟨X, 1, none⟩) hX1 _).setCell (p := ⟨X, 2, none⟩) hX1 _).setCell (p := ⟨X, 3, none⟩) hX1 _, r5, r16, fun _ h => (Bool.false_ne_true h.symm).elim, fun _ => ⟨X, EX.out, hX1, set_block (set_block (set_block (set_block hX2 0 _) 1 _) 2 _) 3 _⟩⟩
      case stop =>
        refine end_plain [(5, some 22), (16, some 33), (17, some 5), (18, none)] (by kernel_rfl) (by decide) (fun L vals olds W2 hall hR => ?_)
        simp only [List.all_cons, List.all_nil, Bool.and_true, Bool.and_eq_true] at hall
        obtain ⟨q5, q16, q17, q18⟩ := hall
        obtain ⟨X, eX, hX1, hX2⟩ := hR.vs q18
        have HW2 := Lib.hid hR.out
        have HX2 := Lib.hid hX2
        have e5 := hR.v5 q5
        have e16 := hR.v16 q16
        simp only [fillL, List.set_cons_succ, List.set_cons_zero, slotO_done q5, slotO_done q16, slotO_done q17, e5, e16, eX]
        have hXl : X < W2.heap.size := (Array.getElem?_eq_some_iff.1 hX2).1
        clear hR q5 q16 q17 q18 hX2 eX e5 e16 hHeld
        go_wp2_with fail
        go_loopw [6] (fun i2 wr => ∃ (q : Nat) (pa : Option Addr) (pn pc : Nat), i2 = .int .i64 q ∧ q ≤ x2 ∧ Hid (wr.heap[X]? = some (.cells #[.int .i64 (kindD xk), .int .i64 xp, .slice la ln lc, .slice pa pn pc] 58 (0, 0))) ∧ Hid (GRow 59 2 W2.heap.size wr (.slice pa pn pc) (((xn.mapIdx (refE xk nn)).take q).map refCells)) ∧ Hid (Below V.heap.size V wr) ∧ W2.heap.size ≤ wr.heap.size) (fun i2 _ => x2 - (intOf i2).toNat)
        case atStart => exact ⟨0, _, _, _, rfl, by omega, HX2, Lib.hid (by simpa using GRow.nil _ _ _ _), HW2, Nat.le_refl _⟩
        case round =>
          obtain ⟨q, pa, pn, pc, rfl, hq, HP, HR, HBB, hsz⟩ := hrel
          obtain ⟨n0, n1, n2, n3⟩ := HSS.out wr HBB.out
          by_cases hlq : q < x2
          · obtain ⟨r, hr⟩ : ∃ r, xn[q]? = some r := ⟨_, List.getElem?_eq_getElem (by have h : x2 = xn.length := HXN.out; omega)⟩
            obtain ⟨rb, ro, rfl, hrb, r0, r1⟩ := HGX.out q r hr
            have hrw : rb < V.heap.size := Nat.lt_of_lt_of_le hrb HB.out.size
            have r0' := (HBB.out.cell (p := ⟨rb, _, none⟩) hrw).trans r0
            have r1' := (HBB.out.cell (p := ⟨rb, _, none⟩) hrw).trans r1
            have hrn : r.n < nn := by
              have := HWF.out j _ HGG.out r (List.mem_of_getElem? hr)
              rwa [← HL.out] at this
            have HTK := Lib.hid (take_mapIdx (f := refE xk nn) hr)
            have hxl1 : x2 ≤ 1000000 := by
              have h1 := HXL.out _ (List.mem_of_getElem? HGG.out)
              have h2 : x2 = xn.length := HXN.out
              simp only at h1
              omega
            have HPL : Hid (((xn.mapIdx (refE xk nn)).take q).length ≤ 1000000) := Lib.hid (by
              rw [List.length_take]; omega)
            clear hr r0 r1
            go_upto_region 10 with fail
            obtain ⟨W3, hW3⟩ : ∃ W3, wr.alloc (.cells #[.int .i64 r.n, .int .i64 r.s] 59) = W3 := ⟨_, rfl⟩
            have hs3 : W3.heap.size = wr.heap.size + 1 := by rw [← hW3]; simp
            have hb3 : Below wr.heap.size wr W3 := by rw [← hW3]; exact blkBelow wr _ _
            have x3' : W3.heap[wr.heap.size]? = some (.cells #[.int .i64 r.n, .int .i64 r.s] 59 (0, 0)) := by rw [← hW3]; exact World.alloc_heap_new wr _
            have hp3 : W3.heap[X]? = some (.cells #[.int .i64 (kindD xk), .int .i64 xp, .slice la ln lc, .slice pa pn pc] 58 (0, 0)) := (hb3.block _ (by omega)).trans HP.out
            have HR3 := Lib.hid (HR.out.to hb3)
            obtain ⟨m0, _, _, _⟩ := HSS.out W3 (HBB.out.trans (hb3.mono (by omega)))
            have c80 : W3.cell? ⟨wr.heap.size, 0, none⟩ = some (.int .i64 r.n) := by simp [World.cell?, x3']
            have c81 : W3.cell? ⟨wr.heap.size, 1, none⟩ = some (.int .i64 r.s) := by simp [World.cell?, x3']
            have b33 : W3.cell? ⟨X, 3, none⟩ = some (.slice pa pn pc) := by simp [World.cell?, hp3]
            have f80 : W3.frozen? ⟨wr.heap.size, 0, none⟩ = false := frozen_of_block x3' 0
            have HP3 := Lib.hid hp3
            have HX3 := Lib.hid x3'
            have HB3 := Lib.hid (hb3.mono (show V.heap.size ≤ wr.heap.size by omega))
            have HS3 := Lib.hid hs3
            have hz3 : X < W3.heap.size := by omega
            have hne3 : Hid (some X ≠ (Value.slice pa pn pc).ownBlock) := Lib.hid (HR3.out.ne hp3 (by decide))
            have HW3 := Lib.hid hW3
            clear hs3 hb3 x3' hp3 hW3 n0 n1 n2 n3 r0' r1'
            rw [show wr.alloc (.cells #[.int .i64 r.n, .int .i64 r.s] 59) = W3 from HW3.out]
            obtain ⟨c, hc⟩ : ∃ c, r.n + nn = c := ⟨_, rfl⟩
            have e7 : (r.n : Int) + (nn : Int) = (c : Int) := by omega
            have hcl : c ≤ 2000000 := by omega
            have HC := Lib.hid hc
            clear hc
            by_cases hq1 : q = 1
            · subst hq1
              have hrp : refE xk nn 1 r = ⟨c, r.s⟩ := by rw [← HC.out]; exact if_pos (.inl rfl)
              go_upto_region 12 with fail
              clear m0 c80 c81 b33 f80 e7
              obtain ⟨W4, hW4⟩ : ∃ W4, W3.setCell ⟨wr.heap.size, 0, none⟩ (.int .i64 (c : Int)) = W4 := ⟨_, rfl⟩
              have hs4 : W4.heap.size = W3.heap.size := by rw [← hW4]; simp [World.setCell]
              have x4 : W4.heap[wr.heap.size]? = some (.cells #[.int .i64 (c : Int), .int .i64 r.s] 59 (0, 0)) := by rw [← hW4]; exact set_block HX3.out 0 _
              have hk4 : ∀ k, k ≠ wr.heap.size → W4.heap[k]? = W3.heap[k]? := fun k hk => by rw [← hW4]; exact set_oth _ _ _ hk
              have HB4 : Hid (Below V.heap.size wr W4) := Lib.hid (by rw [← hW4]; exact HB3.out.setCell (p := ⟨wr.heap.size, 0, none⟩) HBB.out.size _)
              have HR4 := Lib.hid (HR3.out.kept (W' := W4) (fun k hk => hk4 k (by have := (HR.out.lt k hk).2; omega)))
              have hp4 := (hk4 X (by omega)).trans HP3.out
              have HP4 := Lib.hid hp4
              have c80 : W4.cell? ⟨wr.heap.size, 0, none⟩ = some (.int .i64 (c : Int)) := by simp [World.cell?, x4]
              have c81 : W4.cell? ⟨wr.heap.size, 1, none⟩ = some (.int .i64 r.s) := by simp [World.cell?, x4]
              have b33 : W4.cell? ⟨X, 3, none⟩ = some (.slice pa pn pc) := by simp [World.cell?, hp4]
              have hz4 : X < W4.heap.size := by omega
              have hss : wr.heap.size ≤ W4.heap.size := by have := HS3.out; omega
              rw [hW4]
              clear hW4 hk4 x4 hp4 hs4
              go_wp2_with (at_builtin; refine wpList_appG rrefElem rfl _ _ rfl rfl (HR4.out.alloc _) (some ⟨W4.heap.size, 0, none⟩) 1 1 [refCells ⟨c, r.s⟩] rfl rfl ?_ ?_ ?_ ?_ ?_ ?_)
              · intro e he; rw [List.mem_singleton.1 he]; rfl
              · exact src_new W4 (refCells ⟨c, r.s⟩) _
              · intro e he u hu
                rw [List.mem_singleton.1 he] at hu
                simp only [refCells, List.mem_cons, List.not_mem_nil, or_false] at hu
                rcases hu with rfl | rfl <;> rfl
              · have := HPL.out
                simp only [List.length_map, List.length_singleton]
                omega
              · rw [World.size_alloc]; omega
              intro ga gn gc w6 hr6 hg6 hq6
              have hx6 : w6.heap[X]? = some (.cells #[.int .i64 (kindD xk), .int .i64 xp, .slice la ln lc, .slice pa pn pc] 58 (0, 0)) := (hg6.block _ (by rw [World.size_alloc]; omega) hne3.out).trans ((Below.heap_alloc _ _ _ hz4).trans HP4.out)
              have b63 : w6.cell? ⟨X, 3, none⟩ = some (.slice pa pn pc) := by simp [World.cell?, hx6]
              have f6 : w6.frozen? ⟨X, 3, none⟩ = false := by simp [World.frozen?, hx6]
              have HR6 := Lib.hid hr6
              have HG6 := Lib.hid hg6
              have HQ6 := Lib.hid hq6
              have HX6 := Lib.hid hx6
              clear hr6 hg6 hq6 hx6
              go_wp2_with fail
              go_roundw
              case rel =>
                have h1 := HG6.out.size
                rw [World.size_alloc] at h1
                refine ⟨1 + 1, ga, gn, gc, by go_num, by omega, Lib.hid ?_, Lib.hid ?_, Lib.hid ?_, ?_⟩
                · exact set_block HX6.out 3 (.slice ga gn gc)
                · have h := HR6.out.kept (W' := w6.setCell ⟨X, 3, none⟩ (.slice ga gn gc)) (fun k hk => set_oth w6 3 _ (by have := (HR6.out.lt k hk).1; omega))
                  rw [HTK.out, List.map_append, List.map_take]
                  rw [← hrp] at h
                  exact h
                · exact ((((HBB.out.trans HB4.out).alloc (by omega) _).grown HG6.out (by rw [World.size_alloc]; omega) (fun k hk => by have := (HR4.out.lt k hk).1; have := HW2.out.size; omega)).setCell (p := ⟨X, 3, none⟩) hX1 _)
                · simp only [World.setCell]
                  simp
                  omega
              case measure => simp [intOf]; omega
            have hb1 : ((q : Int) == 1) = false := by simp; omega
            have hb1' : decide ((q : Int) = 1) = false := by simp; omega
            by_cases h6 : 6 ≤ xk
            · have hb6 : decide (6 ≤ xk) = true := decide_eq_true h6
              have hrp : refE xk nn q r = ⟨c, r.s⟩ := by rw [← HC.out]; exact if_pos (.inr h6)
              go_upto_region 12 with fail
              clear m0 c80 c81 b33 f80 e7 hb1 hb1' hb6
              obtain ⟨W4, hW4⟩ : ∃ W4, W3.setCell ⟨wr.heap.size, 0, none⟩ (.int .i64 (c : Int)) = W4 := ⟨_, rfl⟩
              have hs4 : W4.heap.size = W3.heap.size := by rw [← hW4]; simp [World.setCell]
              have x4 : W4.heap[wr.heap.size]? = some (.cells #[.int .i64 (c : Int), .int .i64 r.s] 59 (0, 0)) := by rw [← hW4]; exact set_block HX3.out 0 _
              have hk4 : ∀ k, k ≠ wr.heap.size → W4.heap[k]? = W3.heap[k]? := fun k hk => by rw [← hW4]; exact set_oth _ _ _ hk
              have HB4 : Hid (Below V.heap.size wr W4) := Lib.hid (by rw [← hW4]; exact HB3.out.setCell (p := ⟨wr.heap.size, 0, none⟩) HBB.out.size _)
              have HR4 := Lib.hid (HR3.out.kept (W' := W4) (fun k hk => hk4 k (by have := (HR.out.lt k hk).2; omega)))
              have hp4 := (hk4 X (by omega)).trans HP3.out
              have HP4 := Lib.hid hp4
              have c80 : W4.cell? ⟨wr.heap.size, 0, none⟩ = some (.int .i64 (c : Int)) := by simp [World.cell?, x4]
              have c81 : W4.cell? ⟨wr.heap.size, 1, none⟩ = some (.int .i64 r.s) := by simp [World.cell?, x4]
              have b33 : W4.cell? ⟨X, 3, none⟩ = some (.slice pa pn pc) := by simp [World.cell?, hp4]
              have hz4 : X < W4.heap.size := by omega
              have hss : wr.heap.size ≤ W4.heap.size := by have := HS3.out; omega
              rw [hW4]
              clear hW4 hk4 x4 hp4 hs4
              go_wp2_with (at_builtin; refine wpList_appG rrefElem rfl _ _ rfl rfl (HR4.out.alloc _) (some ⟨W4.heap.size, 0, none⟩) 1 1 [refCells ⟨c, r.s⟩] rfl rfl ?_ ?_ ?_ ?_ ?_ ?_)
              · intro e he; rw [List.mem_singleton.1 he]; rfl
              · exact src_new W4 (refCells ⟨c, r.s⟩) _
              · intro e he u hu
                rw [List.mem_singleton.1 he] at hu
                simp only [refCells, List.mem_cons, List.not_mem_nil, or_false] at hu
                rcases hu with rfl | rfl <;> rfl
              · have := HPL.out
                simp only [List.length_map, List.length_singleton]
                omega
              · rw [World.size_alloc]; omega
              intro ga gn gc w6 hr6 hg6 hq6
              have hx6 : w6.heap[X]? = some (.cells #[.int .i64 (kindD xk), .int .i64 xp, .slice la ln lc, .slice pa pn pc] 58 (0, 0)) := (hg6.block _ (by rw [World.size_alloc]; omega) hne3.out).trans ((Below.heap_alloc _ _ _ hz4).trans HP4.out)
              have b63 : w6.cell? ⟨X, 3, none⟩ = some (.slice pa pn pc) := by simp [World.cell?, hx6]
              have f6 : w6.frozen? ⟨X, 3, none⟩ = false := by simp [World.frozen?, hx6]
              have HR6 := Lib.hid hr6
              have HG6 := Lib.hid hg6
              have HQ6 := Lib.hid hq6
              have HX6 := Lib.hid hx6
              clear hr6 hg6 hq6 hx6
              go_wp2_with fail
              go_roundw
              case rel =>
                have h1 := HG6.out.size
                rw [World.size_alloc] at h1
                refine ⟨q + 1, ga, gn, gc, by go_num, by omega, Lib.hid ?_, Lib.hid ?_, Lib.hid ?_, ?_⟩
                · exact set_block HX6.out 3 (.slice ga gn gc)
                · have h := HR6.out.kept (W' := w6.setCell ⟨X, 3, none⟩ (.slice ga gn gc)) (fun k hk => set_oth w6 3 _ (by have := (HR6.out.lt k hk).1; omega))
                  rw [HTK.out, List.map_append, List.map_take]
                  rw [← hrp] at h
                  exact h
                · exact ((((HBB.out.trans HB4.out).alloc (by omega) _).grown HG6.out (by rw [World.size_alloc]; omega) (fun k hk => by have := (HR4.out.lt k hk).1; have := HW2.out.size; omega)).setCell (p := ⟨X, 3, none⟩) hX1 _)
                · simp only [World.setCell]
                  simp
                  omega
              case measure => simp [intOf]; omega
            · have hb6 : decide (6 ≤ xk) = false := decide_eq_false h6
              have hrp : refE xk nn q r = ⟨r.n, r.s⟩ := if_neg (fun h => h.elim hq1 h6)
              have hss : wr.heap.size ≤ W3.heap.size := by have := HS3.out; omega
              go_upto_region 12 with fail
              clear m0 hb1 hb1' hb6 e7
              go_wp2_with (at_builtin; refine wpList_appG rrefElem rfl _ _ rfl rfl (HR3.out.alloc _) (some ⟨W3.heap.size, 0, none⟩) 1 1 [refCells ⟨r.n, r.s⟩] rfl rfl ?_ ?_ ?_ ?_ ?_ ?_)
              · exact src_new W3 (refCells ⟨r.n, r.s⟩) _
              · exact ⟨rfl, rfl⟩
              · skip
                have := HPL.out
                rw [List.length_take, List.length_mapIdx] at this
                omega
              · omega
              intro ga gn gc w6 hr6 hg6 hq6
              have hx6 : w6.heap[X]? = some (.cells #[.int .i64 (kindD xk), .int .i64 xp, .slice la ln lc, .slice pa pn pc] 58 (0, 0)) := (hg6.block _ (by rw [World.size_alloc]; omega) hne3.out).trans ((Below.heap_alloc _ _ _ hz3).trans HP3.out)
              have b63 : w6.cell? ⟨X, 3, none⟩ = some (.slice pa pn pc) := by simp [World.cell?, hx6]
              have f6 : w6.frozen? ⟨X, 3, none⟩ = false := by simp [World.frozen?, hx6]
              have HR6 := Lib.hid hr6
              have HG6 := Lib.hid hg6
              have HQ6 := Lib.hid hq6
              have HX6 := Lib.hid hx6
              clear hr6 hg6 hq6 hx6
              go_wp2_with fail
              go_roundw
              case rel =>
                have h1 := HG6.out.size
                rw [World.size_alloc] at h1
                refine ⟨q + 1, ga, gn, gc, by go_num, by omega, Lib.hid ?_, Lib.hid ?_, Lib.hid ?_, ?_⟩
                · exact set_block HX6.out 3 (.slice ga gn gc)
                · have h := HR6.out.kept (W' := w6.setCell ⟨X, 3, none⟩ (.slice ga gn gc)) (fun k hk => set_oth w6 3 _ (by have := (HR6.out.lt k hk).1; omega))
                  rw [HTK.out, List.map_append, List.map_take]
                  rw [← hrp] at h
                  exact h
                · exact ((((HBB.out.trans HB3.out).alloc (by omega) _).grown HG6.out (by rw [World.size_alloc]; omega) (fun k hk => by have := (HR3.out.lt k hk).1; have := HW2.out.size; omega)).setCell (p := ⟨X, 3, none⟩) hX1 _)
                · simp only [World.setCell]
                  simp
                  omega
              case measure => simp [intOf]; omega
          · obtain rfl : q = x2 := by omega
            have hpw : wr.heap[X]? = some (.cells #[.int .i64 (kindD xk), .int .i64 xp, .slice la ln lc, .slice pa pn pc] 58 (0, 0)) := HP.out
            obtain ⟨b0, b1, b2, b3, _, _, _, _⟩ := rcell4 hpw
            have HGW := Lib.hid (HG.out.to HBB.out)
            have hml : xs.length ≤ 2000000 := by
              have h := congrArg List.length HM.out
              rw [List.length_map, List.length_append, List.length_map, List.length_take] at h
              have := HL.out
              omega
            have HTJ := Lib.hid (take_snoc_get HGG.out)
            have HSZ := Lib.hid hsz
            have hx1 : w.heap.size ≤ wr.heap.size := Nat.le_trans HB.out.size HBB.out.size
            clear hpw n0 n1 n2
            go_upto_region 13 with fail
            clear n3
            go_wp2_with (at_builtin; refine wpList_appG rnodeElem rfl _ _ rfl rfl (HGW.out.alloc _) (some ⟨wr.heap.size, 0, none⟩) 1 1 [NV.cells ⟨⟨kindD xk, xp, xl, xn.mapIdx (refE xk nn)⟩, .slice la ln lc, .slice pa pn pc⟩] rfl rfl ?_ ?_ ?_ ?_ ?_ ?_)
            · intro e he; rw [List.mem_singleton.1 he]; rfl
            · exact src_new wr (NV.cells ⟨⟨kindD xk, xp, xl, xn.mapIdx (refE xk nn)⟩, .slice la ln lc, .slice pa pn pc⟩) _
            · intro e he u hu
              rw [List.mem_singleton.1 he] at hu
              simp only [NV.cells, List.mem_cons, List.not_mem_nil, or_false] at hu
              rcases hu with rfl | rfl | rfl | rfl <;> rfl
            · simp only [List.length_map, List.length_singleton]
              omega
            · rw [World.size_alloc]; omega
            intro ga gn gc w6 hr6 hg6 hq6
            have HR6 := Lib.hid hr6
            have HG6 := Lib.hid hg6
            have HQ6 := Lib.hid hq6
            clear hr6 hg6 hq6
            go_wp2_with fail
            go_roundw
            case rel =>
              have hs6 := HG6.out.size
              rw [World.size_alloc] at hs6
              have hq6 := HQ6.out
              have hVr := HBB.out.size
              have hmv : ∀ y : NV, y.Ok (fun k => k < wr.heap.size ∧ some k ≠ (Value.slice oa on oc).ownBlock) wr → y.Ok (fun k => k < w6.heap.size ∧ some k ≠ (Value.slice ga gn gc).ownBlock) w6 := fun y hy => by
                refine ((hy.keep ((blkBelow wr _ _).keeps'.mono (fun k hk => hk.1))).keep (Keeps.grown HG6.out (fun k hk => hk.2))).mono (fun k hk => ⟨by omega, fun e => ?_⟩)
                rcases hq6 with h | h
                · exact hk.2 (e.trans h)
                · have := e.trans h
                  simp only [Option.some.injEq] at this
                  omega
              have hown : ∀ k, (Value.slice oa on oc).ownBlock = some k → w.heap.size ≤ k ∧ k < V.heap.size := fun k hk => HG.out.lt k hk
              refine ⟨j + 1, ga, gn, gc, xs ++ [⟨⟨kindD xk, xp, xl, xn.mapIdx (refE xk nn)⟩, .slice la ln lc, .slice pa pn pc⟩], by go_num, by omega, rfl, Lib.hid ?_, Lib.hid ?_, Lib.hid ?_, Lib.hid ?_⟩
              · rw [List.map_append]
                exact HR6.out
              · intro y hy
                rcases List.mem_append.1 hy with hy | hy
                · exact hmv y (((HX.out y hy).keep (HBB.out.keeps'.mono (fun k hk => hk.1))).mono (fun k hk => ⟨by omega, hk.2⟩))
                · rw [List.mem_singleton.1 hy]
                  have hxt : (xn.mapIdx (refE xk nn)).take q = xn.mapIdx (refE xk nn) := List.take_of_length_le (by rw [List.length_mapIdx]; have h : q = xn.length := HXN.out; omega)
                  have hrr := HR.out
                  rw [hxt] at hrr
                  refine hmv _ ⟨?_, ?_⟩
                  · exact (HNL.out.keep (HBB.out.keeps'.mono (fun k hk => by have := HB.out.size; omega))).mono (fun k hk => ⟨by omega, fun e => by have := hown k e.symm; omega⟩)
                  · exact (hrr.refs (by rw [List.length_mapIdx]; have h : q = xn.length := HXN.out; unfold maxLen; omega)).mono (fun k hk => ⟨hk.2, fun e => by have := (hown k e.symm).2; have := HW2.out.size; omega⟩)
              · rw [List.map_append, HM.out, HTJ.out, List.map_append, List.append_assoc]; rfl
              · exact ((HB.out.trans (HBB.out.mono HB.out.size)).alloc hx1 _).grown HG6.out (by rw [World.size_alloc]; omega) (fun k hk => (hown k hk).1)
            case measure => simp [intOf]; omega
    · obtain rfl : j = nn := by omega
      go_wp2_with fail
      go_ret
      have hm : xs.map NV.g = closeE ns := by rw [HM.out, HL.out, List.take_length]; rfl
      have hxl : xs.length ≤ 2000000 := by have h := congrArg List.length hm; simp only [closeE, List.length_map, List.length_append] at h; omega
      refine ⟨oa, on, oc, rfl, ?_, HB.out⟩
      have h := (HG.out.nodes HX.out (by unfold maxLen; omega)).mono (C := fun k => k < V.heap.size) (fun k hk => hk.elim (fun h => h.1) (fun h => h.2))
      rwa [hm] at h
end Go.Proofs.Ytkjngbliomckiaa
