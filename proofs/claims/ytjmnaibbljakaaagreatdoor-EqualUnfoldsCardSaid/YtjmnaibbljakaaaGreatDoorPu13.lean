/- Equality, walks: compare. (and what follows from it) -/
import Derived.Test.YtjmnaibbljakaaaGreatDoorPu12

/- Equality, walks: compare. -/
namespace Go.Proofs.YtjmnaibbljakaaaGreatDoor
open Go.RowKit Go.Deep Go.Shelf

theorem cell_same {w w' : World} {b : Nat} (h : w'.heap[b]? = w.heap[b]?) (o : Nat) : w'.cell? ⟨b, o, none⟩ = w.cell? ⟨b, o, none⟩ := by
  simp only [World.cell?, h]
/-- What compare answers. -/
def CmpRet (ns : List GNode) (al : Bool) (x y : GRef) (e : Ending) : Prop := ∃ r, e = .returned (.bool r) ∧ (r = true ↔ (lgN ns).Eqv al x y)
/-- The region that takes two references off the list into boxes. -/
structure PB (p q : GRef) (V : World) (L : Nat → Bool) (vals : Nat → Value) (w : World) : Prop where
  dn : (L 12 = true → L 10 = true) ∧ (L 13 = true → L 11 = true ∧ L 12 = true)
  out : Below V.heap.size V w
  a0 : L 10 = true → L 12 = false → ∃ X, vals 10 = .pointer (some ⟨X, 0, none⟩) ∧ V.heap.size ≤ X ∧ w.heap[X]? = some (refO (.int .i64 0) (.int .i64 0))
  a1 : L 12 = true → ∃ X, vals 10 = .pointer (some ⟨X, 0, none⟩) ∧ V.heap.size ≤ X ∧ w.heap[X]? = some (refO (.int .i64 (p.n : Int)) (.int .i64 p.s))
  b0 : L 11 = true → L 13 = false → ∃ X, vals 11 = .pointer (some ⟨X, 0, none⟩) ∧ V.heap.size ≤ X ∧ w.heap[X]? = some (refO (.int .i64 0) (.int .i64 0))
  b1 : L 13 = true → ∃ X, vals 11 = .pointer (some ⟨X, 0, none⟩) ∧ V.heap.size ≤ X ∧ w.heap[X]? = some (refO (.int .i64 (q.n : Int)) (.int .i64 q.s))
  ne : L 10 = true → L 11 = true → vals 10 ≠ vals 11

set_option maxHeartbeats 16000000 in
set_option maxRecDepth 100000 in
theorem compare_any (ns : List GNode) (na : Option Addr) (nn nc fg : Nat) (cb : Array Value) (al : Bool) (x y : GRef) (mv ml B0 : Nat) (w : World) (hG : EqG ns) (hN : ns.length ≤ 10000) (hns : NodeSl (fun k => k < B0) w (.slice na nn nc) ns) (hB0 : B0 ≤ w.heap.size)
    (hx : Bd ns 0 x) (hy : Bd ns 0 y) (hmv : B0 ≤ mv) (hml : B0 ≤ ml) (hmm : mv ≠ ml) (hvis : VisIs w mv 0 (fun _ _ => false)) (hlead : LeadIs w ml (fun _ => none)) (henf : ∀ args w, (callFunc fg args).run Tryz.prog w = .ok (.enter fg args) w)
    (hfit : ∀ (a b : GRef) (ga gb : GNode), ns[a.n]? = some ga → ns[b.n]? = some gb → (-1000000000000 ≤ a.s ∧ a.s ≤ 1000000000000) → (-1000000000000 ≤ b.s ∧ b.s ≤ 1000000000000) → ∀ W, Below B0 w W → Calls Tryz.prog fg (#[rfV a.n a.s, rfV b.n b.s] ++ cb) W fun e w' => e = .returned (.bool (fitB al ga a.s gb b.s)) ∧ Below W.heap.size W w') :
    Calls Tryz.prog 28 #[cmV na nn nc (.func (.func fg) #[] cb) mv ml, rfV x.n x.s, rfV y.n y.s] w fun e w' => CmpRet ns al x y e ∧ Below B0 w w' := by
  obtain ⟨W3, hW3⟩ : ∃ W3, ((w.alloc (cmO na nn nc (.func (.func fg) #[] cb) mv ml)).alloc (refO (.int .i64 (x.n : Int)) (.int .i64 x.s))).alloc (refO (.int .i64 (y.n : Int)) (.int .i64 y.s)) = W3 := ⟨_, rfl⟩
  obtain ⟨hs3, hb3, x0, x1, x2⟩ := three_made hW3
  obtain ⟨r0, r1, _, _⟩ := refO_cells x1
  obtain ⟨t0, t1, _, _⟩ := refO_cells x2
  have hmvl := hvis.lt
  have hmll := hlead.lt
  have hcs : CSt ns al x y mv ml [(x, y)] 0 [] (fun _ _ => false) id (fun _ => 0) (fun _ => none) W3 := CSt.start hx hy (hlead.same (hb3.block ml hmll)) (hvis.same (hb3.block mv hmvl))
  have HCS := Lib.hid hcs
  have HW3 := Lib.hid hW3
  have HB3 := Lib.hid hb3
  have HS3 := Lib.hid hs3
  have HX0 := Lib.hid x0
  have HNS := Lib.hid hns
  have HG := Lib.hid hG
  have HFIT := Lib.hid hfit
  have HP := Lib.hid (And.intro hB0 (And.intro hmv (And.intro hml (And.intro hmm (And.intro hmvl hmll)))))
  clear hns hG hx hy hvis hlead hfit hcs hW3 hb3 hs3 x0 x1 x2 hmv hml hmm hmvl hmll hB0
  go_enter Tryz.func28, Tryz.ntmps28
  go_upto_region 1 with fail
  rw [show ((w.alloc (.cells #[.slice na nn nc, .func (.func fg) #[] cb, .map (some mv), .map (some ml)] 67)).alloc (.cells #[.int .i64 (x.n : Int), .int .i64 x.s] 37)).alloc (.cells #[.int .i64 (y.n : Int), .int .i64 y.s] 37) = W3 from HW3.out]
  go_wp2_with fail
  go_loopw [7] (fun v wr => ∃ (todo : List (GRef × GRef)) (k : Nat) (G : List (GRef × GRef)) (V : Nat → Nat → Bool) (lead rank : Nat → Nat) (f : Nat → Option Nat) (a : Option Addr) (n c : Nat), v = .slice a n c ∧ n ≤ 30000000 ∧ Hid (n = todo.length) ∧ Hid (GRow 84 4 W3.heap.size wr (.slice a n c) (todo.map pairC)) ∧ Hid (CSt ns al x y mv ml todo k G V lead rank f wr) ∧ Hid (wr.heap[w.heap.size]? = some (cmO na nn nc (.func (.func fg) #[] cb) mv ml)) ∧ Hid (Below B0 w wr) ∧ Hid (W3.heap.size ≤ wr.heap.size)) (fun v wr => (2 * ns.length - mapN wr mv) * 1001 + lenOfV v)
  case atStart =>
    refine ⟨[(x, y)], 0, [], _, _, _, _, _, _, _, rfl, by omega, Lib.hid rfl, Lib.hid (GRow.single W3 (pairC (x, y)) rfl (Nat.le_refl _)), Lib.hid (HCS.out.to (Below.heap_alloc _ _ _ ?_) (Below.heap_alloc _ _ _ ?_)), Lib.hid ((Below.heap_alloc _ _ _ ?_).trans HX0.out), Lib.hid ((HB3.out.mono HP.out.1).alloc ?_ _), Lib.hid ?_⟩
    · have := HP.out; have := HS3.out; omega
    · have := HP.out; have := HS3.out; omega
    · have := HS3.out; omega
    · have := HP.out; have := HS3.out; omega
    · rw [World.size_alloc]; omega
  case round =>
    obtain ⟨todo, k, G, V, lead, rank, f, a, n, c, rfl, hn3, HN, HR, HS, HBX, HB, HSZ⟩ := hrel
    rcases List.eq_nil_or_concat todo with rfl | ⟨todo', ⟨p, q⟩, rfl⟩
    · obtain rfl : n = 0 := HN.out
      go_wp2_with fail
      go_ret
      exact ⟨⟨true, rfl, fun _ => HS.out.cmp.fin (lgN_ok HG.out), fun _ => rfl⟩, HB.out⟩
    · obtain ⟨m, hm⟩ : ∃ m, todo'.length = m := ⟨_, rfl⟩
      have HS' : Hid (CSt ns al x y mv ml (todo' ++ [(p, q)]) k G V lead rank f wr) := Lib.hid (by have h := HS.out; simpa using h)
      have HR' : Hid (GRow 84 4 W3.heap.size wr (.slice a n c) (todo'.map pairC ++ [pairC (p, q)])) := Lib.hid (by have h := HR.out; simpa using h)
      clear HS HR
      obtain ⟨g, hv, hgb, hqc, z0, z1, z2, z3⟩ : ∃ g, Value.slice a n c = .slice (some ⟨g, 0, none⟩) (m + 1) c ∧ W3.heap.size ≤ g ∧ m ≤ c ∧ wr.cell? ⟨g, m * 4, none⟩ = some (.int .i64 (p.n : Int)) ∧ wr.cell? ⟨g, m * 4 + 1, none⟩ = some (.int .i64 p.s) ∧ wr.cell? ⟨g, m * 4 + 2, none⟩ = some (.int .i64 (q.n : Int)) ∧ wr.cell? ⟨g, m * 4 + 3, none⟩ = some (.int .i64 q.s) := by
        have hj : (todo'.map pairC ++ [pairC (p, q)])[m]? = some (pairC (p, q)) := by rw [List.getElem?_append_right (by simp [hm])]; simp [hm]
        obtain ⟨g0, c0, e0, h0⟩ := HR'.out.cell (i := 0) hj rfl
        obtain ⟨g1, c1, e1, h1⟩ := HR'.out.cell (i := 1) hj rfl
        obtain ⟨g2, c2, e2, h2⟩ := HR'.out.cell (i := 2) hj rfl
        obtain ⟨g3, c3, e3, h3⟩ := HR'.out.cell (i := 3) hj rfl
        rcases HR'.out.parts with ⟨_, hh⟩ | ⟨g, cap, e, hg, _, hcp, _⟩
        · simp at hh
        · rw [e] at e0 e1 e2 e3
          simp only [Value.slice.injEq, Option.some.injEq, Addr.mk.injEq, and_true, true_and] at e0 e1 e2 e3
          obtain ⟨rfl, rfl⟩ := e0
          obtain ⟨rfl, -⟩ := e1
          obtain ⟨rfl, -⟩ := e2
          obtain ⟨rfl, -⟩ := e3
          have e5 : (todo'.map pairC ++ [pairC (p, q)]).length = m + 1 := by simp [hm]
          rw [e5] at e hcp
          simp only [Value.slice.injEq] at e
          obtain ⟨rfl, rfl, rfl⟩ := e
          exact ⟨g, rfl, hg, by omega, by simpa using h0, h1, h2, h3⟩
      simp only [Value.slice.injEq, and_true] at hv
      obtain ⟨rfl, rfl⟩ := hv
      obtain ⟨hbp, hbq⟩ := HS'.out.bnd (p, q) (by simp)
      obtain ⟨gp, hgp⟩ : ∃ gp, ns[p.n]? = some gp := ⟨_, List.getElem?_eq_getElem hbp.1⟩
      obtain ⟨gq, hgq⟩ : ∃ gq, ns[q.n]? = some gq := ⟨_, List.getElem?_eq_getElem hbq.1⟩
      have HPOP := Lib.hid HR'.out.pop
      have hgl : g < wr.heap.size := (HR'.out.lt g rfl).2
      have hk2 : k ≤ 2 * ns.length := by have := HS'.out.cnt; omega
      have HPS : Hid (-1000000000000 ≤ p.s ∧ p.s ≤ 1000000000000) := Lib.hid (by obtain ⟨_, h1, h2⟩ := hbp; simp only at h1 h2; omega)
      have HQS : Hid (-1000000000000 ≤ q.s ∧ q.s ≤ 1000000000000) := Lib.hid (by obtain ⟨_, h1, h2⟩ := hbq; simp only at h1 h2; omega)
      have HGP := Lib.hid hgp
      have HGQ := Lib.hid hgq
      have HMM := Lib.hid hm
      have HSS : Hid (∀ W, Below wr.heap.size wr W → W.cell? ⟨g, m * 4, none⟩ = some (.int .i64 (p.n : Int)) ∧ W.cell? ⟨g, m * 4 + 1, none⟩ = some (.int .i64 p.s) ∧ W.cell? ⟨g, m * 4 + 2, none⟩ = some (.int .i64 (q.n : Int)) ∧ W.cell? ⟨g, m * 4 + 3, none⟩ = some (.int .i64 q.s)) := Lib.hid (fun W hW => ⟨(hW.cell (p := ⟨g, _, none⟩) hgl).trans z0, (hW.cell (p := ⟨g, _, none⟩) hgl).trans z1, (hW.cell (p := ⟨g, _, none⟩) hgl).trans z2, (hW.cell (p := ⟨g, _, none⟩) hgl).trans z3⟩)
      have hi1 : (m : Int) < (m : Int) + 1 := by omega
      clear hbp hbq hgp hgq hm HN
      go_upto_region 4 with fail
      refine wp_region_held_drew (S := fun W => W.cell? ⟨g, m * 4, none⟩ = some (.int .i64 (p.n : Int)) ∧ W.cell? ⟨g, m * 4 + 1, none⟩ = some (.int .i64 p.s) ∧ W.cell? ⟨g, m * 4 + 2, none⟩ = some (.int .i64 (q.n : Int)) ∧ W.cell? ⟨g, m * 4 + 3, none⟩ = some (.int .i64 q.s)) (by kernel_rfl) (HSS.out wr (Below.refl _ _)) (fun hHeld => ?_)
      refine wpAnyH_take_l 0 (v := ?va0) rfl rfl (by kernel_rfl) (by kernel_rfl) (by kernel_rfl) (fun _ _ _ h => h) ?ha0 (by assumption) ?ra0
      case ha0 => (intro w hSw; (try dsimp only at hSw); go_simp; try rfl)
      case' ra0 => simp only [setD, List.set_cons_succ, List.set_cons_zero]
      refine wpAnyH_take_l 1 (v := ?va1) rfl rfl (by kernel_rfl) (by kernel_rfl) (by kernel_rfl) (fun _ _ _ h => h) ?ha1 (by assumption) ?ra1
      case ha1 => (intro w hSw; (try dsimp only at hSw); go_simp; try rfl)
      case' ra1 => simp only [setD, List.set_cons_succ, List.set_cons_zero]
      refine wpAnyH_take_l 2 (v := ?va2) rfl rfl (by kernel_rfl) (by kernel_rfl) (by kernel_rfl) (fun _ _ _ h => h) ?ha2 (by assumption) ?ra2
      case ha2 => (intro w hSw; (try dsimp only at hSw); go_simp; try rfl)
      case' ra2 => simp only [setD, List.set_cons_succ, List.set_cons_zero]
      refine wpAnyH_take_l 3 (v := ?va3) rfl rfl (by kernel_rfl) (by kernel_rfl) (by kernel_rfl) (fun _ _ _ h => h) ?ha3 (by assumption) ?ra3
      case ha3 => (intro w hSw; (try dsimp only at hSw); go_simp; try rfl)
      case' ra3 => simp only [setD, List.set_cons_succ, List.set_cons_zero]
      refine wpAnyH_take_l 4 (v := ?va4) rfl rfl (by kernel_rfl) (by kernel_rfl) (by kernel_rfl) (fun _ _ _ h => h) ?ha4 (by assumption) ?ra4
      case ha4 => (intro w hSw; (try dsimp only at hSw); go_simp; try rfl)
      case' ra4 => simp only [setD, List.set_cons_succ, List.set_cons_zero]
      refine wpAnyH_take_l 5 (v := ?va5) rfl rfl (by kernel_rfl) (by kernel_rfl) (by kernel_rfl) (fun _ _ _ h => h) ?ha5 (by assumption) ?ra5
      case ha5 => (intro w hSw; (try dsimp only at hSw); go_simp; try rfl)
      case' ra5 => simp only [setD, List.set_cons_succ, List.set_cons_zero]
      refine wpAnyH_take_l 6 (v := ?va6) rfl rfl (by kernel_rfl) (by kernel_rfl) (by kernel_rfl) (fun _ _ _ h => h) ?ha6 (by assumption) ?ra6
      case ha6 => (intro w hSw; (try dsimp only at hSw); go_simp; try rfl)
      case' ra6 => simp only [setD, List.set_cons_succ, List.set_cons_zero]
      refine wpAnyH_take_l 7 (v := ?va7) rfl rfl (by kernel_rfl) (by kernel_rfl) (by kernel_rfl) (fun _ _ _ h => h) ?ha7 (by assumption) ?ra7
      case ha7 => (intro w hSw; (try dsimp only at hSw); go_simp; try rfl)
      case' ra7 => simp only [setD, List.set_cons_succ, List.set_cons_zero]
      refine wpAnyH_take_l 8 (v := ?va8) rfl rfl (by kernel_rfl) (by kernel_rfl) (by kernel_rfl) (fun _ _ _ h => h) ?ha8 (by assumption) ?ra8
      case ha8 => (intro w hSw; (try dsimp only at hSw); go_simp; try rfl)
      case' ra8 => simp only [setD, List.set_cons_succ, List.set_cons_zero]
      refine wpAnyH_take_l 9 (v := ?va9) rfl rfl (by kernel_rfl) (by kernel_rfl) (by kernel_rfl) (fun _ _ _ h => h) ?ha9 (by assumption) ?ra9
      case ha9 => (intro w hSw; (try dsimp only at hSw); go_simp; try rfl)
      case' ra9 => simp only [setD, List.set_cons_succ, List.set_cons_zero]
      refine wpAnyH_start [10, 11, 12, 13] (PB p q wr) (by kernel_rfl) (by kernel_rfl) (fun L vals W hR => HSS.out _ hR.out) ?starta ?stepsa ?stopa
      case starta => exact ⟨⟨fun h => (Bool.false_ne_true h).elim, fun h => (Bool.false_ne_true h).elim⟩, (Below.refl _ _).drew, fun h => (Bool.false_ne_true h).elim, fun h => (Bool.false_ne_true h).elim, fun h => (Bool.false_ne_true h).elim, fun h => (Bool.false_ne_true h).elim, fun h => (Bool.false_ne_true h).elim⟩
      case stepsa =>
        refine List.forall_mem_cons.2 ⟨?_, List.forall_mem_cons.2 ⟨?_, List.forall_mem_cons.2 ⟨?_, List.forall_mem_cons.2 ⟨?_, fun _ h => by cases h⟩⟩⟩⟩
        · refine InvStep.list (k := 10) rfl rfl [] (by kernel_rfl) [(10, some 9), (11, some 10), (12, none), (13, none)] (by kernel_rfl) (by decide) (fun L vals olds wx hLk hdeps hR K hK => ?_)
          have hK2 := hK.out
          clear hK
          simp only [fillL, setD, List.set_cons_succ, List.set_cons_zero] at hK2 ⊢
          clear hdeps
          have f10 : L 12 = false := by
            cases e : L 12 with
            | false => rfl
            | true => rw [hR.dn.1 e] at hLk; cases hLk
          go_simp
          obtain ⟨rD, rO, ra0, ra1, rb0, rb1, rne⟩ := hR
          exact hK2 _ _ ⟨⟨fun _ => rfl, rD.2⟩, rO.alloc rO.size _, fun _ _ => ⟨_, rfl, rO.size, World.alloc_heap_new _ _⟩, fun h => absurd (f10.symm.trans h) (by decide), fun h h2 => (by obtain ⟨X, e1, e2, e3⟩ := rb0 h h2; exact ⟨X, e1, e2, (Below.heap_alloc _ _ _ (Array.getElem?_eq_some_iff.1 e3).1).trans e3⟩), fun h => (by obtain ⟨X, e1, e2, e3⟩ := rb1 h; exact ⟨X, e1, e2, (Below.heap_alloc _ _ _ (Array.getElem?_eq_some_iff.1 e3).1).trans e3⟩), fun _ h e => (by
            cases eo : L 13 with
            | false => obtain ⟨X, e1, _, e3⟩ := rb0 h eo; have e4 : Value.pointer (some ⟨wx.heap.size, 0, none⟩) = Value.pointer (some ⟨X, 0, none⟩) := e.trans e1; simp only [Value.pointer.injEq, Option.some.injEq, Addr.mk.injEq, and_true] at e4; have := (Array.getElem?_eq_some_iff.1 e3).1; omega
            | true => obtain ⟨X, e1, _, e3⟩ := rb1 eo; have e4 : Value.pointer (some ⟨wx.heap.size, 0, none⟩) = Value.pointer (some ⟨X, 0, none⟩) := e.trans e1; simp only [Value.pointer.injEq, Option.some.injEq, Addr.mk.injEq, and_true] at e4; have := (Array.getElem?_eq_some_iff.1 e3).1; omega)⟩
        · refine InvStep.list (k := 11) rfl rfl [] (by kernel_rfl) [(10, some 9), (11, some 10), (12, none), (13, none)] (by kernel_rfl) (by decide) (fun L vals olds wx hLk hdeps hR K hK => ?_)
          have hK2 := hK.out
          clear hK
          simp only [fillL, setD, List.set_cons_succ, List.set_cons_zero] at hK2 ⊢
          clear hdeps
          have f10 : L 13 = false := by
            cases e : L 13 with
            | false => rfl
            | true => rw [(hR.dn.2 e).1] at hLk; cases hLk
          go_simp
          obtain ⟨rD, rO, ra0, ra1, rb0, rb1, rne⟩ := hR
          exact hK2 _ _ ⟨⟨rD.1, fun h => absurd (f10.symm.trans h) (by decide)⟩, rO.alloc rO.size _, fun h h2 => (by obtain ⟨X, e1, e2, e3⟩ := ra0 h h2; exact ⟨X, e1, e2, (Below.heap_alloc _ _ _ (Array.getElem?_eq_some_iff.1 e3).1).trans e3⟩), fun h => (by obtain ⟨X, e1, e2, e3⟩ := ra1 h; exact ⟨X, e1, e2, (Below.heap_alloc _ _ _ (Array.getElem?_eq_some_iff.1 e3).1).trans e3⟩), fun _ _ => ⟨_, rfl, rO.size, World.alloc_heap_new _ _⟩, fun h => absurd (f10.symm.trans h) (by decide), fun h _ e => (by
            cases eo : L 12 with
            | false => obtain ⟨X, e1, _, e3⟩ := ra0 h eo; have e4 : Value.pointer (some ⟨wx.heap.size, 0, none⟩) = Value.pointer (some ⟨X, 0, none⟩) := e.symm.trans e1; simp only [Value.pointer.injEq, Option.some.injEq, Addr.mk.injEq, and_true] at e4; have := (Array.getElem?_eq_some_iff.1 e3).1; omega
            | true => obtain ⟨X, e1, _, e3⟩ := ra1 eo; have e4 : Value.pointer (some ⟨wx.heap.size, 0, none⟩) = Value.pointer (some ⟨X, 0, none⟩) := e.symm.trans e1; simp only [Value.pointer.injEq, Option.some.injEq, Addr.mk.injEq, and_true] at e4; have := (Array.getElem?_eq_some_iff.1 e3).1; omega)⟩
        · refine InvStep.list (k := 12) rfl rfl [10] (by kernel_rfl) [(10, some 9), (11, some 10), (12, none), (13, none)] (by kernel_rfl) (by decide) (fun L vals olds wx hLk hdeps hR K hK => ?_)
          have hK2 := hK.out
          clear hK
          simp only [fillL, setD, List.set_cons_succ, List.set_cons_zero] at hK2 ⊢
          simp only [List.all_cons, List.all_nil, Bool.and_true] at hdeps
          obtain ⟨X, eX, hX1, hX2⟩ := hR.a0 hdeps hLk
          have es2 := (slotO_done (vals := vals) (olds := olds) hdeps).trans eX
          simp only [es2] at hK2 ⊢
          clear es2
          have z0 := (refO_cells hX2).1
          have z1 := (refO_cells hX2).2.1
          have z2 := (refO_cells hX2).2.2.1
          have z3 := (refO_cells hX2).2.2.2
          have EX := Lib.hid eX
          clear eX
          go_simp
          clear z0 z1 z2 z3
          obtain ⟨rD, rO, ra0, ra1, rb0, rb1, rne⟩ := hR
          refine hK2 undef _ ⟨⟨fun _ => hdeps, fun h => ⟨(rD.2 h).1, rfl⟩⟩, (rO.setCell (p := ⟨X, 0, none⟩) hX1 _).setCell (p := ⟨X, 1, none⟩) hX1 _, fun _ h => (Bool.false_ne_true h.symm).elim, fun _ => ⟨X, EX.out, hX1, refO_fill hX2 _ _⟩, fun h h2 => (by obtain ⟨Y, e1, e2, e3⟩ := rb0 h h2; have hne : Y ≠ X := fun e => rne hdeps h (by rw [EX.out, e1, e]); exact ⟨Y, e1, e2, ((set_oth _ 1 _ hne).trans (set_oth _ 0 _ hne)).trans e3⟩), fun h => (by obtain ⟨Y, e1, e2, e3⟩ := rb1 h; have hne : Y ≠ X := fun e => rne hdeps (rD.2 h).1 (by rw [EX.out, e1, e]); exact ⟨Y, e1, e2, ((set_oth _ 1 _ hne).trans (set_oth _ 0 _ hne)).trans e3⟩), rne⟩
        · refine InvStep.list (k := 13) rfl rfl [11, 12] (by kernel_rfl) [(10, some 9), (11, some 10), (12, none), (13, none)] (by kernel_rfl) (by decide) (fun L vals olds wx hLk hdeps hR K hK => ?_)
          have hK2 := hK.out
          clear hK
          simp only [fillL, setD, List.set_cons_succ, List.set_cons_zero] at hK2 ⊢
          simp only [List.all_cons, List.all_nil, Bool.and_true, Bool.and_eq_true] at hdeps
          obtain ⟨X, eX, hX1, hX2⟩ := hR.b0 hdeps.1 hLk
          have es2 := (slotO_done (vals := vals) (olds := olds) hdeps.1).trans eX
          simp only [es2] at hK2 ⊢
          clear es2
          have z0 := (refO_cells hX2).1
          have z1 := (refO_cells hX2).2.1
          have z2 := (refO_cells hX2).2.2.1
          have z3 := (refO_cells hX2).2.2.2
          have EX := Lib.hid eX
          clear eX
          go_simp
          clear z0 z1 z2 z3
          obtain ⟨rD, rO, ra0, ra1, rb0, rb1, rne⟩ := hR
          refine hK2 undef _ ⟨⟨rD.1, fun _ => hdeps⟩, (rO.setCell (p := ⟨X, 0, none⟩) hX1 _).setCell (p := ⟨X, 1, none⟩) hX1 _, fun h h2 => (by obtain ⟨Y, e1, e2, e3⟩ := ra0 h h2; have hne : Y ≠ X := fun e => rne h hdeps.1 (by rw [EX.out, e1, e]); exact ⟨Y, e1, e2, ((set_oth _ 1 _ hne).trans (set_oth _ 0 _ hne)).trans e3⟩), fun h => (by obtain ⟨Y, e1, e2, e3⟩ := ra1 h; have hne : Y ≠ X := fun e => rne (rD.1 h) hdeps.1 (by rw [EX.out, e1, e]); exact ⟨Y, e1, e2, ((set_oth _ 1 _ hne).trans (set_oth _ 0 _ hne)).trans e3⟩), fun _ h => (Bool.false_ne_true h.symm).elim, fun _ => ⟨X, EX.out, hX1, refO_fill hX2 _ _⟩, rne⟩
      case stopa =>
        refine end_plain [(10, some 9), (11, some 10), (12, none), (13, none)] (by kernel_rfl) (by decide) (fun L vals olds w8 hall hR => ?_)
        simp only [List.all_cons, List.all_nil, Bool.and_true, Bool.and_eq_true] at hall
        obtain ⟨q10, q11, q12, q13⟩ := hall
        obtain ⟨X, eX, hX1, hX2⟩ := hR.a1 q12
        obtain ⟨Y, eY, hY1, hY2⟩ := hR.b1 q13
        have HW8 := Lib.hid hR.out
        have HX8 := Lib.hid (And.intro hX1 hX2)
        have HY8 := Lib.hid (And.intro hY1 hY2)
        simp only [fillL, List.set_cons_succ, List.set_cons_zero, slotO_done q10, slotO_done q11, eX, eY]
        clear hR q10 q11 q12 q13 hX1 hX2 eX hY1 hY2 eY hHeld
        clear r0 r1 t0 t1 z0 z1 z2 z3
        obtain ⟨hX1, hX2⟩ := HX8.out
        obtain ⟨hY1, hY2⟩ := HY8.out
        have hbx8 : w8.heap[w.heap.size]? = some (cmO na nn nc (.func (.func fg) #[] cb) mv ml) := (HW8.out.block _ (by have := HSZ.out; have := HS3.out; omega)).trans HBX.out
        have hXl := (Array.getElem?_eq_some_iff.1 hX2).1
        have hYl := (Array.getElem?_eq_some_iff.1 hY2).1
        have hbl := (Array.getElem?_eq_some_iff.1 hbx8).1
        have HB8 : Hid (Below B0 w w8) := Lib.hid (HB.out.trans (HW8.out.mono (by have := HB.out.size; have := HP.out.1; omega)))
        have HNW : Hid (∀ W, Below B0 w W → NodeSl (fun k => k < W.heap.size) W (.slice na nn nc) ns) := Lib.hid (fun W hW => (HNS.out.keep (hW.keeps'.mono (fun k hk => hk))).mono (fun k hk => Nat.lt_of_lt_of_le (Nat.lt_of_lt_of_le hk HP.out.1) hW.size))
        have HCE : Hid (∀ W, Below w8.heap.size w8 W → (W.cell? ⟨w.heap.size, 0, none⟩ = some (.slice na nn nc) ∧ W.cell? ⟨w.heap.size, 1, none⟩ = some (.func (.func fg) #[] cb) ∧ W.cell? ⟨w.heap.size, 2, none⟩ = some (.map (some mv)) ∧ W.cell? ⟨w.heap.size, 3, none⟩ = some (.map (some ml))) ∧ (W.cell? ⟨X, 0, none⟩ = some (.int .i64 (p.n : Int)) ∧ W.cell? ⟨X, 1, none⟩ = some (.int .i64 p.s)) ∧ (W.cell? ⟨Y, 0, none⟩ = some (.int .i64 (q.n : Int)) ∧ W.cell? ⟨Y, 1, none⟩ = some (.int .i64 q.s))) := Lib.hid (fun W hW => by
          have a1 := refO_cells ((hW.block X hXl).trans hX2)
          have a2 := refO_cells ((hW.block Y hYl).trans hY2)
          exact ⟨cmO_cells ((hW.block _ hbl).trans hbx8), ⟨a1.1, a1.2.1⟩, ⟨a2.1, a2.2.1⟩⟩)
        have HB0 : Hid (∀ W, Below w8.heap.size w8 W → Below B0 w W) := Lib.hid (fun W hW => HB8.out.trans (hW.mono (by have := HB8.out.size; have := HP.out.1; omega)))
        have hlen := HG.out.len
        have HKP := Lib.hid (fun q' : Later w8.heap.size w8 => kind_any ns na nn nc p.n p.s gp q'.1 (HNW.out q'.1 (HB0.out q'.1 q'.2)) HGP.out hlen)
        have HKQ := Lib.hid (fun q' : Later w8.heap.size w8 => kind_any ns na nn nc q.n q.s gq q'.1 (HNW.out q'.1 (HB0.out q'.1 q'.2)) HGQ.out hlen)
        obtain ⟨ft, hft⟩ : ∃ ft, fitB al gp p.s gq q.s = ft := ⟨_, rfl⟩
        have HFF := Lib.hid (fun q' : Later w8.heap.size w8 => HFIT.out p q gp gq HGP.out HGQ.out HPS.out HQS.out q'.1 (HB0.out q'.1 q'.2))
        rw [hft] at HFF
        have HFI : Hid ((lgN ns).fits al p q ↔ gp.k = gq.k ∧ ft = true) := Lib.hid (by rw [fits_iff HGP.out HGQ.out, hft])
        obtain ⟨kp, hkp⟩ : ∃ kp, gp.k = kp := ⟨_, rfl⟩
        obtain ⟨kq, hkq⟩ : ∃ kq, gq.k = kq := ⟨_, rfl⟩
        rw [hkp] at HKP HFI
        rw [hkq] at HKQ HFI
        have HXW : Hid (∀ W, Below w8.heap.size w8 W → W.heap[X]? = some (refO (.int .i64 (p.n : Int)) (.int .i64 p.s)) ∧ W.heap[Y]? = some (refO (.int .i64 (q.n : Int)) (.int .i64 q.s))) := Lib.hid (fun W hW => ⟨(hW.block X hXl).trans hX2, (hW.block Y hYl).trans hY2⟩)
        have HXY := Lib.hid (And.intro hX1 (And.intro hY1 (And.intro hXl (And.intro hYl hbl))))
        have HBX8 := Lib.hid hbx8
        clear hft hkp hkq hX1 hX2 hY1 hY2 hbx8 hXl hYl hbl hlen HX8 HY8
        go_upto_region 6 with fail
        have f0 := fun q' : Later w8.heap.size w8 => (HCE.out q'.1 q'.2).1.1
        have f1 := fun q' : Later w8.heap.size w8 => (HCE.out q'.1 q'.2).1.2.1
        have f2 := fun q' : Later w8.heap.size w8 => (HCE.out q'.1 q'.2).2.1.1
        have f3 := fun q' : Later w8.heap.size w8 => (HCE.out q'.1 q'.2).2.1.2
        have f4 := fun q' : Later w8.heap.size w8 => (HCE.out q'.1 q'.2).2.2.1
        have f5 := fun q' : Later w8.heap.size w8 => (HCE.out q'.1 q'.2).2.2.2
        by_cases hk : kp = kq
        · subst hk
          have HFI2 : Hid ((lgN ns).fits al p q ↔ ft = true) := Lib.hid (by rw [HFI.out]; simp)
          have hb1 : (kp != kp) = false := by simp
          cases ft
          · have HNF : Hid (¬ (lgN ns).comp al p q) := Lib.hid (fun h => Bool.false_ne_true (HFI2.out.1 h.1))
            refine wp_region_later w8.heap.size w8 (by kernel_rfl) (by kernel_rfl) (Below.refl _ _) ?_
            repeat (go_big_quiet_step (first | (go_at_call 44; with_reducible exact later_call _ (Nat.le_refl _) (HKP.out _)) | (go_at_call 44; with_reducible exact later_call _ (Nat.le_refl _) (HKQ.out _)) | (go_at_fn fg; with_reducible exact later_call _ (Nat.le_refl _) (HFF.out _))))
            refine wpQuiet_nil ?_
            rintro _ ⟨⟨wD, hbD⟩, rfl⟩
            clear f0 f1 f2 f3 f4 f5
            go_wp2_with fail
            go_ret
            exact ⟨⟨false, rfl, fun h => (Bool.false_ne_true h).elim, fun h => absurd h (HS'.out.cmp.bad HNF.out)⟩, HB0.out _ hbD⟩
          · refine wp_region_later w8.heap.size w8 (by kernel_rfl) (by kernel_rfl) (Below.refl _ _) ?_
            repeat (go_big_quiet_step (first | (go_at_call 44; with_reducible exact later_call _ (Nat.le_refl _) (HKP.out _)) | (go_at_call 44; with_reducible exact later_call _ (Nat.le_refl _) (HKQ.out _)) | (go_at_fn fg; with_reducible exact later_call _ (Nat.le_refl _) (HFF.out _))))
            refine wpQuiet_nil ?_
            rintro w9 ⟨⟨_, hb9⟩, rfl⟩
            clear f0 f1 f2 f3 f4 f5
            have HB9 := Lib.hid hb9
            have HB09 : Hid (Below B0 w w9) := Lib.hid (HB0.out _ hb9)
            clear hb9
            have hS9 : CSt ns al x y mv ml (todo' ++ [(p, q)]) k G V lead rank f w9 := HS'.out.to ((HB9.out.block mv (by have := HP.out; have := HXY.out; omega)).trans (HW8.out.block mv (by have := HP.out; have := HSZ.out; have := HS3.out; omega))) ((HB9.out.block ml (by have := HP.out; have := HXY.out; omega)).trans (HW8.out.block ml (by have := HP.out; have := HSZ.out; have := HS3.out; omega)))
            have HVI := visit_any na nn nc (.func (.func fg) #[] cb) mv ml lead rank p.n q.n f V w9 hS9.frs hS9.ldi k hS9.vis HP.out.2.2.2.1
            have HS9 := Lib.hid hS9
            have HFT : Hid ((lgN ns).fits al p q) := Lib.hid (HFI2.out.2 rfl)
            obtain ⟨c9, x9, y9⟩ := HCE.out w9 HB9.out
            obtain ⟨c0, c1, c2, c3⟩ := c9
            obtain ⟨p0, p1⟩ := x9
            obtain ⟨q0, q1⟩ := y9
            obtain ⟨vt, hvt⟩ : ∃ vt, V (lead p.n) (lead q.n) = vt := ⟨_, rfl⟩
            rw [hvt] at HVI
            have HVT := Lib.hid hvt
            clear hS9 hvt
            cases vt
            · have HV2 : Hid (Calls Tryz.prog 45 #[cmV na nn nc (.func (.func fg) #[] cb) mv ml, .int .i64 (p.n : Int), .int .i64 (q.n : Int)] w9 fun e w' => e = .returned (.bool true) ∧ Out2 ml (some mv) w9 w' ∧ ∃ f' rank', LeadIs w' ml f' ∧ Forest f' (leadTo lead (lead p.n) (lead q.n)) rank' ∧ VisIs w' mv (k + 1) (setV V (lead p.n) (lead q.n))) := Lib.hid (HVI.mono (fun e w' h => by
                obtain ⟨h1, f', rank', h2, h3 | h3⟩ := h
                · exact (Bool.false_ne_true h3.1).elim
                · exact ⟨h3.2.1, h1, f', rank', h2, h3.2.2⟩))
              clear HVI
              go_upto_region 9 with (go_at_call 45; go_loud (refine HV2.out.mono ?_; rintro en w10 ⟨rfl, ho, f', rank', hl, hf, hvi⟩; have HO := Lib.hid ho; have HL10 := Lib.hid hl; have HF10 := Lib.hid hf; have HV10 := Lib.hid hvi; clear ho hl hf hvi))
              clear c0 c1 c2 c3 p0 p1 q0 q1
              have hn : w.heap.size < W3.heap.size := by have := HS3.out; omega
              have hg9 : g < w9.heap.size := by have := HB9.out.size; have := HW8.out.size; omega
              have hgg : w10.heap[g]? = wr.heap[g]? := (HO.out.block g hg9 (by have := HP.out; omega) (fun e => by have := Option.some.inj e; have := HP.out; omega)).trans ((HB9.out.block g (by have := HW8.out.size; omega)).trans (HW8.out.block g hgl))
              have HR10 : Hid (GRow 84 4 W3.heap.size w10 (.slice (some ⟨g, 0, none⟩) m c) (todo'.map pairC)) := Lib.hid (HPOP.out.kept (fun j hj => by
                simp only [Value.ownBlock, Option.some.injEq] at hj
                subst hj; exact hgg))
              have HBX10 : Hid (w10.heap[w.heap.size]? = some (cmO na nn nc (.func (.func fg) #[] cb) mv ml)) := Lib.hid ((HO.out.block _ (by have := HB9.out.size; have := HW8.out.size; have := HSZ.out; omega) (by have := HP.out; omega) (fun e => by have := Option.some.inj e; have := HP.out; omega)).trans ((HB9.out.block _ (by have := HXY.out; omega)).trans HBX8.out))
              have HB10 : Hid (Below B0 w w10) := Lib.hid (HB09.out.trans ⟨HO.out.os, HO.out.tape, HO.out.output, HO.out.size, fun j hj => HO.out.block j (by have := HP.out; have := HB09.out.size; omega) (by have := HP.out; omega) (fun e => by have := Option.some.inj e; have := HP.out; omega)⟩)
              have HSZ10 : Hid (W3.heap.size ≤ w10.heap.size) := Lib.hid (by have := HO.out.size; have := HB9.out.size; have := HW8.out.size; have := HSZ.out; omega)
              have HXB : Hid (w10.heap[X]? = some (refO (.int .i64 (p.n : Int)) (.int .i64 p.s)) ∧ w10.heap[Y]? = some (refO (.int .i64 (q.n : Int)) (.int .i64 q.s))) := Lib.hid (by
                have hxw := HXW.out w9 HB9.out
                exact ⟨(HO.out.block X (by have := HB9.out.size; have := HXY.out; omega) (by have := HP.out; have := HXY.out; omega) (fun e => by have := Option.some.inj e; have := HP.out; have := HXY.out; omega)).trans hxw.1, (HO.out.block Y (by have := HB9.out.size; have := HXY.out; omega) (by have := HP.out; have := HXY.out; omega) (fun e => by have := Option.some.inj e; have := HP.out; have := HXY.out; omega)).trans hxw.2⟩)
              have HCE10 : Hid (∀ W, Below w10.heap.size w10 W → W.cell? ⟨w.heap.size, 0, none⟩ = some (.slice na nn nc) ∧ W.cell? ⟨X, 0, none⟩ = some (.int .i64 (p.n : Int)) ∧ W.cell? ⟨X, 1, none⟩ = some (.int .i64 p.s) ∧ W.cell? ⟨Y, 0, none⟩ = some (.int .i64 (q.n : Int)) ∧ W.cell? ⟨Y, 1, none⟩ = some (.int .i64 q.s)) := Lib.hid (fun W hW => by
                have a1 := refO_cells ((hW.block X (Array.getElem?_eq_some_iff.1 HXB.out.1).1).trans HXB.out.1)
                have a2 := refO_cells ((hW.block Y (Array.getElem?_eq_some_iff.1 HXB.out.2).1).trans HXB.out.2)
                exact ⟨(cmO_cells ((hW.block _ (Array.getElem?_eq_some_iff.1 HBX10.out).1).trans HBX10.out)).1, a1.1, a1.2.1, a2.1, a2.2.1⟩)
              have HB0' : Hid (∀ W, Below w10.heap.size w10 W → Below B0 w W) := Lib.hid (fun W hW => HB10.out.trans (hW.mono (by have := HB10.out.size; have := HP.out.1; omega)))
              have HLP : Hid (∀ W, Below w10.heap.size w10 W → Calls Tryz.prog 47 #[grV na nn nc, rfV p.n p.s] W fun e w' => ∃ sa sn sc, e = .returned (.slice sa sn sc) ∧ StrSl (fun k => k < w'.heap.size) w' (.slice sa sn sc) (srtL gp.ls) ∧ Below W.heap.size W w') := Lib.hid (fun W hW => labelsL_any ns na nn nc p.n p.s gp W (HNW.out W (HB0'.out W hW)) HGP.out HG.out.len (by have h1 := HG.out.ok gp (List.mem_of_getElem? HGP.out); have h2 := h1.labs_le (HG.out.nx gp (List.mem_of_getElem? HGP.out)); omega))
              have HLQ : Hid (∀ W, Below w10.heap.size w10 W → Calls Tryz.prog 47 #[grV na nn nc, rfV q.n q.s] W fun e w' => ∃ sa sn sc, e = .returned (.slice sa sn sc) ∧ StrSl (fun k => k < w'.heap.size) w' (.slice sa sn sc) (srtL gq.ls) ∧ Below W.heap.size W w') := Lib.hid (fun W hW => labelsL_any ns na nn nc q.n q.s gq W (HNW.out W (HB0'.out W hW)) HGQ.out HG.out.len (by have h1 := HG.out.ok gq (List.mem_of_getElem? HGQ.out); have h2 := h1.labs_le (HG.out.nx gq (List.mem_of_getElem? HGQ.out)); omega))
              clear hn hg9 hgg
              refine wp_region_held_drew (S := fun W => W.cell? ⟨w.heap.size, 0, none⟩ = some (.slice na nn nc) ∧ W.cell? ⟨X, 0, none⟩ = some (.int .i64 (p.n : Int)) ∧ W.cell? ⟨X, 1, none⟩ = some (.int .i64 p.s) ∧ W.cell? ⟨Y, 0, none⟩ = some (.int .i64 (q.n : Int)) ∧ W.cell? ⟨Y, 1, none⟩ = some (.int .i64 q.s)) (by kernel_rfl) (HCE10.out w10 (Below.refl _ _)) (fun hHeld => ?_)
              refine wpAnyH_take_l 0 (v := ?vb0) rfl rfl (by kernel_rfl) (by kernel_rfl) (by kernel_rfl) (fun _ _ _ h => h) ?hb0 (by assumption) ?rb0
              case hb0 => (intro w hSw; (try dsimp only at hSw); go_simp; try rfl)
              case' rb0 => simp only [setD, List.set_cons_succ, List.set_cons_zero]
              refine wpAnyH_take_l 1 (v := ?vb1) rfl rfl (by kernel_rfl) (by kernel_rfl) (by kernel_rfl) (fun _ _ _ h => h) ?hb1 (by assumption) ?rb1
              case hb1 => (intro w hSw; (try dsimp only at hSw); go_simp; try rfl)
              case' rb1 => simp only [setD, List.set_cons_succ, List.set_cons_zero]
              refine wpAnyH_take_l 2 (v := ?vb2) rfl rfl (by kernel_rfl) (by kernel_rfl) (by kernel_rfl) (fun _ _ _ h => h) ?hb2 (by assumption) ?rb2
              case hb2 => (intro w hSw; (try dsimp only at hSw); go_simp; try rfl)
              case' rb2 => simp only [setD, List.set_cons_succ, List.set_cons_zero]
              refine wpAnyH_take_l 4 (v := ?vb4) rfl rfl (by kernel_rfl) (by kernel_rfl) (by kernel_rfl) (fun _ _ _ h => h) ?hb4 (by assumption) ?rb4
              case hb4 => (intro w hSw; (try dsimp only at hSw); go_simp; try rfl)
              case' rb4 => simp only [setD, List.set_cons_succ, List.set_cons_zero]
              refine wpAnyH_take_l 5 (v := ?vb5) rfl rfl (by kernel_rfl) (by kernel_rfl) (by kernel_rfl) (fun _ _ _ h => h) ?hb5 (by assumption) ?rb5
              case hb5 => (intro w hSw; (try dsimp only at hSw); go_simp; try rfl)
              case' rb5 => simp only [setD, List.set_cons_succ, List.set_cons_zero]
              refine wpAnyH_take_l 6 (v := ?vb6) rfl rfl (by kernel_rfl) (by kernel_rfl) (by kernel_rfl) (fun _ _ _ h => h) ?hb6 (by assumption) ?rb6
              case hb6 => (intro w hSw; (try dsimp only at hSw); go_simp; try rfl)
              case' rb6 => simp only [setD, List.set_cons_succ, List.set_cons_zero]
              refine wpAnyH_one 3 rfl rfl (by kernel_rfl) (fun K hK => ?_)
              have hK2 := hK.out
              clear hK
              simp only [setD, List.set_cons_succ, List.set_cons_zero] at hK2 ⊢
              go_simp
              have hbd : Below w10.heap.size w10 w10.drew := (Below.refl _ _).drew
              refine (HLP.out _ hbd).mono ?_
              rintro en wa ⟨sa, sn, sc, rfl, hsta, hba⟩
              dsimp only
              have hbwa : Below w10.heap.size w10 wa := below_seq hbd hba
              refine hK2 _ _ (HCE10.out wa hbwa) (fun _ => ?_)
              clear hK2 K hbd hba
              refine wpAnyH_one 7 rfl rfl (by kernel_rfl) (fun K hK => ?_)
              have hK2 := hK.out
              clear hK
              simp only [setD, List.set_cons_succ, List.set_cons_zero] at hK2 ⊢
              go_simp
              refine (HLQ.out _ hbwa).mono ?_
              rintro en wb ⟨ta, tn, tc, rfl, hstb, hbb⟩
              dsimp only
              have hbwb : Below w10.heap.size w10 wb := below_seq hbwa hbb
              have hsta2 := (hsta.keep (hbb.keeps'.mono (fun k hk => hk))).mono (C := fun k => k < wb.heap.size) (fun k hk => Nat.lt_of_lt_of_le hk hbb.size)
              refine hK2 _ _ (HCE10.out wb hbwb) (fun _ => ?_)
              clear hK2 K hsta
              refine wpAnyH_one 8 rfl rfl (by kernel_rfl) (fun K hK => ?_)
              have hK2 := hK.out
              clear hK
              simp only [setD, List.set_cons_succ, List.set_cons_zero] at hK2 ⊢
              go_simp
              obtain ⟨le, hle⟩ : ∃ le, decide (srtL gp.ls = srtL gq.ls) = le := ⟨_, rfl⟩
              have hE := eqStr_any _ _ _ _ _ hsta2 hstb
              rw [hle] at hE
              refine hE.mono ?_
              rintro en wc ⟨rfl, hbc⟩
              dsimp only
              have hbwc : Below w10.heap.size w10 wc := below_seq hbwb hbc
              refine hK2 _ _ (HCE10.out wc hbwc) (fun _ => ?_)
              clear hK2 K hsta2 hstb hbb hbc hbwb hbwa hE
              refine wpAnyH_take_l 9 (v := ?vb9) rfl rfl (by kernel_rfl) (by kernel_rfl) (by kernel_rfl) (fun _ _ _ h => h) ?hb9 (by assumption) ?rb9
              case hb9 => (intro w hSw; (try dsimp only at hSw); go_simp; try rfl)
              case' rb9 => simp only [setD, List.set_cons_succ, List.set_cons_zero]
              refine wpAnyH_done (by kernel_rfl) ?_ _
              clear hHeld
              have HLE := Lib.hid hle
              have HBC := Lib.hid hbwc
              clear hle hbwc
              cases le
              · have HNC : Hid (¬ (lgN ns).comp al p q) := Lib.hid (fun h => by
                  have h2 := h.2
                  rw [lgN_labs HGP.out, lgN_labs HGQ.out] at h2
                  have := HLE.out
                  simp [h2] at this)
                go_wp2_with fail
                go_ret
                exact ⟨⟨false, rfl, fun h => (Bool.false_ne_true h).elim, fun h => absurd h (HS'.out.cmp.bad HNC.out)⟩, HB0'.out _ HBC.out⟩
              · have HCO : Hid ((lgN ns).comp al p q) := Lib.hid ⟨HFT.out, by rw [lgN_labs HGP.out, lgN_labs HGQ.out]; simpa using HLE.out⟩
                have HLL : Hid ((behE gq q.s).length = (behE gp p.s).length) := Lib.hid (by
                  have h := comp_len (lgN_ok HG.out) HCO.out
                  rw [lgN_beh HG.out HGP.out, lgN_beh HG.out HGQ.out] at h
                  exact h.symm)
                have HG10 : Hid (g < w10.heap.size ∧ W3.heap.size ≤ g) := Lib.hid ⟨by have := HO.out.size; have := HB9.out.size; have := HW8.out.size; omega, hgb⟩
                have HZB : Hid ((behE gp p.s).length ≤ 1000) := Lib.hid (beh_length HG.out (List.mem_of_getElem? HGP.out) p.s)
                have HBQ : Hid (∀ W, Below w10.heap.size w10 W → Calls Tryz.prog 48 #[grV na nn nc, rfV q.n q.s] W fun e w' => ∃ a m c, e = .returned (.slice a m c) ∧ GRow 37 2 W.heap.size w' (.slice a m c) ((behE gq q.s).map refCells) ∧ Below W.heap.size W w') := Lib.hid (fun W hW => behind_any ns na nn nc q gq W (HNW.out W (HB0'.out W hW)) HGQ.out HG.out HQS.out)
                have HBP : Hid (∀ W, Below w10.heap.size w10 W → Calls Tryz.prog 48 #[grV na nn nc, rfV p.n p.s] W fun e w' => ∃ a m c, e = .returned (.slice a m c) ∧ GRow 37 2 W.heap.size w' (.slice a m c) ((behE gp p.s).map refCells) ∧ Below W.heap.size W w') := Lib.hid (fun W hW => behind_any ns na nn nc p gp W (HNW.out W (HB0'.out W hW)) HGP.out HG.out HPS.out)
                obtain ⟨Z, hZ⟩ : ∃ Z, (behE gp p.s).zip (behE gq q.s) = Z := ⟨_, rfl⟩
                have HZ := Lib.hid hZ
                clear hZ
                obtain ⟨BP, hBP⟩ : ∃ BP, behE gp p.s = BP := ⟨_, rfl⟩
                obtain ⟨BQ, hBQ⟩ : ∃ BQ, behE gq q.s = BQ := ⟨_, rfl⟩
                have HZ2 : Hid (BP.zip BQ = Z) := Lib.hid (by rw [← hBP, ← hBQ]; exact HZ.out)
                rw [hBP] at HLL HZB HBP
                rw [hBQ] at HLL HBQ
                clear hBP hBQ
                obtain ⟨c0, p0, p1, q0, q1⟩ := HCE10.out wc HBC.out
                go_upto_region 12 with (go_at_call 48; go_loud (refine (HBQ.out _ HBC.out).mono ?_; rintro en wd ⟨ba, bm, bc, rfl, hrb, hbd⟩; have HRB := Lib.hid hrb; have HBD := Lib.hid hbd; clear hrb hbd))
                clear c0 p0 p1 q0 q1
                have HBD2 : Hid (Below w10.heap.size w10 wd) := Lib.hid (below_seq HBC.out HBD.out)
                obtain ⟨c0, p0, p1, q0, q1⟩ := HCE10.out wd HBD2.out
                go_wp2_with (go_at_call 48; go_loud (refine (HBP.out _ HBD2.out).mono ?_; rintro en we ⟨aa, am, ac, rfl, hra, hbe⟩; have HRA := Lib.hid hra; have HBE := Lib.hid hbe; clear hra hbe))
                clear c0 p0 p1 q0 q1
                have HBE2 : Hid (Below w10.heap.size w10 we) := Lib.hid (below_seq HBD2.out HBE.out)
                have ham : am = BP.length := by
                  obtain ⟨_, _, _, e, e2, _⟩ := HRA.out.src
                  simp only [Value.slice.injEq] at e
                  rw [e.2.1, e2, List.length_map]
                have hbm : bm = BQ.length := by
                  obtain ⟨_, _, _, e, e2, _⟩ := HRB.out.src
                  simp only [Value.slice.injEq] at e
                  rw [e.2.1, e2, List.length_map]
                obtain rfl : am = bm := by rw [ham, hbm, HLL.out]
                have ham1 : am ≤ 1000 := by rw [ham]; exact HZB.out
                have HAM := Lib.hid (And.intro ham hbm)
                have HZL : Hid (Z.length = am) := Lib.hid (by rw [← HZ2.out, List.length_zip, ← ham, ← hbm]; omega)
                have HRBe : Hid (GRow 37 2 wc.heap.size we (.slice ba am bc) (BQ.map refCells)) := Lib.hid (HRB.out.to HBE.out)
                have HRow0 : Hid (GRow 84 4 W3.heap.size we (.slice (some ⟨g, 0, none⟩) m c) (todo'.map pairC)) := Lib.hid (HR10.out.to HBE2.out)
                have HSZW : Hid (w10.heap.size ≤ wc.heap.size ∧ wc.heap.size ≤ wd.heap.size ∧ wd.heap.size ≤ we.heap.size) := Lib.hid ⟨HBC.out.size, HBD.out.size, HBE.out.size⟩
                have HTL : Hid (m ≤ 25000000) := Lib.hid (by have := HS'.out.len; simp only [List.length_append, List.length_singleton] at this; have := HMM.out; omega)
                clear ham hbm
                go_loopw [7, 80] (fun v i wr2 => ∃ (j : Nat) (ta : Option Addr) (tn tc : Nat), i = .int .i64 j ∧ j ≤ am ∧ v = .slice ta tn tc ∧ Hid (GRow 84 4 W3.heap.size wr2 (.slice ta tn tc) ((todo' ++ Z.take j).map pairC)) ∧ Hid (∀ b, (Value.slice ta tn tc).ownBlock = some b → b = g ∨ we.heap.size ≤ b) ∧ Hid (Out2 g none we wr2)) (fun _ i _ => am - (intOf i).toNat)
                case atStart => exact ⟨0, _, _, _, rfl, by omega, rfl, Lib.hid (by simpa using HRow0.out), Lib.hid (fun b hb => .inl (by simpa [Value.ownBlock] using hb.symm)), Lib.hid (Out2.refl _ _ _)⟩
                case round =>
                  obtain ⟨j, ta, tn, tc, rfl, hj, rfl, HRT, HOW, HOU⟩ := hrel
                  by_cases hlt : j < am
                  · skip
                    obtain ⟨za, hza⟩ : ∃ za, BP[j]? = some za := ⟨_, List.getElem?_eq_getElem (by rw [← HAM.out.1]; exact hlt)⟩
                    obtain ⟨zb, hzb⟩ : ∃ zb, BQ[j]? = some zb := ⟨_, List.getElem?_eq_getElem (by rw [← HAM.out.2]; exact hlt)⟩
                    obtain ⟨ra, rac, e, hc0⟩ := HRA.out.cell (j := j) (i := 0) (e := refCells za) (u := .int .i64 (za.n : Int)) (by rw [List.getElem?_map, hza]; rfl) rfl
                    simp only [Value.slice.injEq] at e
                    obtain ⟨rfl, e2, rfl⟩ := e
                    obtain ⟨_, _, e, hc1⟩ := HRA.out.cell (j := j) (i := 1) (e := refCells za) (u := .int .i64 za.s) (by rw [List.getElem?_map, hza]; rfl) rfl
                    simp only [Value.slice.injEq, Option.some.injEq, Addr.mk.injEq, and_true] at e
                    obtain ⟨rfl, -, -⟩ := e
                    obtain ⟨rb, rbc, e, hd0⟩ := HRBe.out.cell (j := j) (i := 0) (e := refCells zb) (u := .int .i64 (zb.n : Int)) (by rw [List.getElem?_map, hzb]; rfl) rfl
                    simp only [Value.slice.injEq] at e
                    obtain ⟨rfl, e3, rfl⟩ := e
                    obtain ⟨_, _, e, hd1⟩ := HRBe.out.cell (j := j) (i := 1) (e := refCells zb) (u := .int .i64 zb.s) (by rw [List.getElem?_map, hzb]; rfl) rfl
                    simp only [Value.slice.injEq, Option.some.injEq, Addr.mk.injEq, and_true] at e
                    obtain ⟨rfl, -, -⟩ := e
                    obtain ⟨hra1, hra2⟩ := HRA.out.lt ra rfl
                    obtain ⟨hrb1, hrb2⟩ := HRBe.out.lt rb rfl
                    have hwa : wr.heap[ra]? = we.heap[ra]? := HOU.out.block ra hra2 (by have := HSZW.out; have := HG10.out; omega) (by simp)
                    have hwb : wr.heap[rb]? = we.heap[rb]? := HOU.out.block rb hrb2 (by have := HSZW.out; have := HG10.out; omega) (by simp)
                    have a0 : wr.cell? ⟨ra, j * 2, none⟩ = some (.int .i64 (za.n : Int)) := (cell_same hwa _).trans (by simpa using hc0)
                    have a1 : wr.cell? ⟨ra, j * 2 + 1, none⟩ = some (.int .i64 za.s) := (cell_same hwa _).trans hc1
                    have HB1' : Hid (∀ W, Below wr.heap.size wr W → W.cell? ⟨rb, j * 2, none⟩ = some (.int .i64 (zb.n : Int)) ∧ W.cell? ⟨rb, j * 2 + 1, none⟩ = some (.int .i64 zb.s)) := Lib.hid (fun W hW => by
                      have hh : W.heap[rb]? = we.heap[rb]? := (hW.block rb (Nat.lt_of_lt_of_le hrb2 HOU.out.size)).trans hwb
                      exact ⟨(cell_same hh _).trans (by simpa using hd0), (cell_same hh _).trans hd1⟩)
                    have HTK : Hid (Z.take (j + 1) = Z.take j ++ [(za, zb)]) := Lib.hid (take_snoc_get (by rw [← HZ2.out]; exact List.getElem?_zip_eq_some.2 ⟨hza, hzb⟩))
                    have hj2 : (j : Int) < (am : Int) := by omega
                    have HRBG : Hid (rb < we.heap.size ∧ rb ≠ g) := Lib.hid ⟨hrb2, by have := HSZW.out; have := HG10.out; omega⟩
                    clear hza hzb hc0 hc1 hd0 hd1 e2 e3 hra1 hra2 hrb1 hrb2 hwa hwb
                    go_upto_region 15 with fail
                    obtain ⟨W5, hW5⟩ : ∃ W5, wr.alloc (refO (.int .i64 (za.n : Int)) (.int .i64 za.s)) = W5 := ⟨_, rfl⟩
                    have hx5 : W5.heap[wr.heap.size]? = some (refO (.int .i64 (za.n : Int)) (.int .i64 za.s)) := by rw [← hW5]; exact World.alloc_heap_new _ _
                    have hb5 : Below wr.heap.size wr W5 := by rw [← hW5]; exact blkBelow wr _ _
                    rw [show wr.alloc (.cells #[.int .i64 (za.n : Int), .int .i64 za.s] 37) = W5 from hW5]
                    have hs5 : W5.heap.size = wr.heap.size + 1 := by rw [← hW5]; simp
                    clear hW5 a0 a1
                    have HRT5 := Lib.hid (HRT.out.to hb5)
                    have HSX : Hid (∀ W, Below W5.heap.size W5 W → (W.cell? ⟨wr.heap.size, 0, none⟩ = some (.int .i64 (za.n : Int)) ∧ W.cell? ⟨wr.heap.size, 1, none⟩ = some (.int .i64 za.s)) ∧ W.cell? ⟨rb, j * 2, none⟩ = some (.int .i64 (zb.n : Int)) ∧ W.cell? ⟨rb, j * 2 + 1, none⟩ = some (.int .i64 zb.s)) := Lib.hid (fun W hW => by
                      have a1 := refO_cells ((hW.block _ (by omega)).trans hx5)
                      exact ⟨⟨a1.1, a1.2.1⟩, HB1'.out W (below_seq hb5 hW)⟩)
                    have HSY : Hid (∀ W : World, W.heap[wr.heap.size]? = W5.heap[wr.heap.size]? → W.heap[rb]? = W5.heap[rb]? → (W.cell? ⟨wr.heap.size, 0, none⟩ = some (.int .i64 (za.n : Int)) ∧ W.cell? ⟨wr.heap.size, 1, none⟩ = some (.int .i64 za.s)) ∧ W.cell? ⟨rb, j * 2, none⟩ = some (.int .i64 (zb.n : Int)) ∧ W.cell? ⟨rb, j * 2 + 1, none⟩ = some (.int .i64 zb.s)) := Lib.hid (fun W h1 h2 => by
                      have a1 := refO_cells (h1.trans hx5)
                      have a2 := HB1'.out W5 hb5
                      exact ⟨⟨a1.1, a1.2.1⟩, (cell_same h2 _).trans a2.1, (cell_same h2 _).trans a2.2⟩)
                    have HB5 := Lib.hid hb5
                    have HS5 := Lib.hid hs5
                    clear hx5 hb5 hs5
                    refine wp_region_held_drew (S := fun W => (W.cell? ⟨wr.heap.size, 0, none⟩ = some (.int .i64 (za.n : Int)) ∧ W.cell? ⟨wr.heap.size, 1, none⟩ = some (.int .i64 za.s)) ∧ W.cell? ⟨rb, j * 2, none⟩ = some (.int .i64 (zb.n : Int)) ∧ W.cell? ⟨rb, j * 2 + 1, none⟩ = some (.int .i64 zb.s)) (by kernel_rfl) (HSX.out W5 (Below.refl _ _)) (fun hHeld => ?_)
                    refine wpAnyH_take_l 0 (v := ?vc0) rfl rfl (by kernel_rfl) (by kernel_rfl) (by kernel_rfl) (fun _ _ _ h => h) ?hc0 (by assumption) ?rc0
                    case hc0 => (intro w hSw; (try dsimp only at hSw); go_simp; try rfl)
                    case' rc0 => simp only [setD, List.set_cons_succ, List.set_cons_zero]
                    refine wpAnyH_take_l 1 (v := ?vc1) rfl rfl (by kernel_rfl) (by kernel_rfl) (by kernel_rfl) (fun _ _ _ h => h) ?hc1 (by assumption) ?rc1
                    case hc1 => (intro w hSw; (try dsimp only at hSw); go_simp; try rfl)
                    case' rc1 => simp only [setD, List.set_cons_succ, List.set_cons_zero]
                    refine wpAnyH_take_l 2 (v := ?vc2) rfl rfl (by kernel_rfl) (by kernel_rfl) (by kernel_rfl) (fun _ _ _ h => h) ?hc2 (by assumption) ?rc2
                    case hc2 => (intro w hSw; (try dsimp only at hSw); go_simp; try rfl)
                    case' rc2 => simp only [setD, List.set_cons_succ, List.set_cons_zero]
                    refine wpAnyH_take_l 3 (v := ?vc3) rfl rfl (by kernel_rfl) (by kernel_rfl) (by kernel_rfl) (fun _ _ _ h => h) ?hc3 (by assumption) ?rc3
                    case hc3 => (intro w hSw; (try dsimp only at hSw); go_simp; try rfl)
                    case' rc3 => simp only [setD, List.set_cons_succ, List.set_cons_zero]
                    refine wpAnyH_take_l 4 (v := ?vc4) rfl rfl (by kernel_rfl) (by kernel_rfl) (by kernel_rfl) (fun _ _ _ h => h) ?hc4 (by assumption) ?rc4
                    case hc4 => (intro w hSw; (try dsimp only at hSw); go_simp; try rfl)
                    case' rc4 => simp only [setD, List.set_cons_succ, List.set_cons_zero]
                    refine wpAnyH_take_l 5 (v := ?vc5) rfl rfl (by kernel_rfl) (by kernel_rfl) (by kernel_rfl) (fun _ _ _ h => h) ?hc5 (by assumption) ?rc5
                    case hc5 => (intro w hSw; (try dsimp only at hSw); go_simp; try rfl)
                    case' rc5 => simp only [setD, List.set_cons_succ, List.set_cons_zero]
                    refine wpAnyH_take_l 6 (v := ?vc6) rfl rfl (by kernel_rfl) (by kernel_rfl) (by kernel_rfl) (fun _ _ _ h => h) ?hc6 (by assumption) ?rc6
                    case hc6 => (intro w hSw; (try dsimp only at hSw); go_simp; try rfl)
                    case' rc6 => simp only [setD, List.set_cons_succ, List.set_cons_zero]
                    refine wpAnyH_one 7 rfl rfl (by kernel_rfl) (fun K hK => ?_)
                    have hK2 := hK.out
                    clear hK
                    simp only [setD, List.set_cons_succ, List.set_cons_zero] at hK2 ⊢
                    go_simp
                    have hba : ∀ o, Below W5.heap.size W5 (W5.drew.alloc o) := fun o => ((Below.refl _ _).drew).alloc (Nat.le_refl _) o
                    refine hK2 _ _ (HSX.out _ (hba _)) (fun _ => ?_)
                    clear hK2 K
                    refine wpAnyH_one 8 rfl rfl (by kernel_rfl) (fun K hK => ?_)
                    have hK2 := hK.out
                    clear hK
                    simp only [setD, List.set_cons_succ, List.set_cons_zero] at hK2 ⊢
                    refine wp_wanted (ops := #[]) rfl (step_appG pairElem (by rfl) _ _ (by rfl) (by rfl) (HRT5.out.drew.alloc _) (some ⟨W5.heap.size, 0, none⟩) 1 1 [pairC (za, zb)] (by rfl) rfl (fun e he => by rw [List.mem_singleton.1 he]; rfl) (src_new W5.drew (pairC (za, zb)) _) (fun e he u hu => by
                      rw [List.mem_singleton.1 he] at hu
                      simp only [pairC, List.mem_cons, List.not_mem_nil, or_false] at hu
                      rcases hu with rfl | rfl | rfl | rfl <;> rfl) (by have := HTL.out; have := HMM.out; simp only [List.length_map, List.length_append, List.length_take, List.length_singleton]; omega) (by have := HOU.out.size; have := HSZW.out; have := HSZ10.out; have := HS5.out; show W3.heap.size ≤ (W5.alloc _).heap.size; rw [World.size_alloc]; omega) _ rfl ?_)
                    intro ga gn gc w8' hr8 hg8 hq8
                    have hb8 : Below W3.heap.size W5 w8' := ((hba _).mono (by have := HOU.out.size; have := HSZW.out; have := HSZ10.out; have := HS5.out; omega)).grown hg8 (by have := HOU.out.size; have := HSZW.out; have := HSZ10.out; have := HS5.out; show W3.heap.size ≤ (W5.alloc _).heap.size; rw [World.size_alloc]; omega) (fun k hk => (HRT5.out.lt k hk).1)
                    have hsd : W5.drew.heap.size = W5.heap.size := rfl
                    have hal : ∀ o k, k < W5.heap.size → (W5.drew.alloc o).heap[k]? = W5.heap[k]? := fun o k hk => Below.heap_alloc _ _ _ hk
                    have hou : Out2 g none we w8' := by
                      have h1 := ((HOU.out.to HB5.out).drew).alloc' (.cells (pairC (za, zb)).toArray 84)
                      exact ⟨hg8.os.trans h1.os, hg8.tape.trans h1.tape, hg8.output.trans h1.output, Nat.le_trans h1.size hg8.size, fun k hk hn hr => (hg8.block k (Nat.lt_of_lt_of_le hk h1.size) (fun e => by rcases HOW.out k e.symm with h | h <;> omega)).trans (h1.block k hk hn hr)⟩
                    have how : ∀ b, (Value.slice ga gn gc).ownBlock = some b → b = g ∨ we.heap.size ≤ b := fun b hb => by
                      rcases hq8 with h | h
                      · exact HOW.out b (h.symm.trans hb)
                      · have hbb := Option.some.inj (h.symm.trans hb)
                        have h3 : W5.heap.size + 1 = b := by rw [← hbb]; exact (World.size_alloc _ _).symm
                        have := HOU.out.size; have := HS5.out; right; omega
                    have hnx : w8'.heap[wr.heap.size]? = W5.heap[wr.heap.size]? := (hg8.block _ (by show _ < (W5.alloc _).heap.size; rw [World.size_alloc]; have := HS5.out; omega) (fun e => by have := (HRT.out.lt _ e.symm).2; omega)).trans (hal _ _ (by have := HS5.out; omega))
                    have hrx : w8'.heap[rb]? = W5.heap[rb]? := (hg8.block _ (by show _ < (W5.alloc _).heap.size; rw [World.size_alloc]; have := HS5.out; have := HRBG.out; have := HOU.out.size; omega) (fun e => by have := HRBG.out; rcases HOW.out rb e.symm with h | h <;> omega)).trans (hal _ _ (by have := HS5.out; have := HRBG.out; have := HOU.out.size; omega))
                    refine hK2 _ _ (HSY.out w8' hnx hrx) (fun _ => ?_)
                    clear hK2 K hg8 hq8 hba hal hnx hrx hb8
                    have HR8 := Lib.hid hr8
                    have HOU8 := Lib.hid hou
                    have HOW8 := Lib.hid how
                    clear hr8 hou how hsd
                    refine wpAnyH_take_l 9 (v := ?vc9) rfl rfl (by kernel_rfl) (by kernel_rfl) (by kernel_rfl) (fun _ _ _ h => h) ?hc9 (by assumption) ?rc9
                    case hc9 => (intro w hSw; (try dsimp only at hSw); go_simp; try rfl)
                    case' rc9 => simp only [setD, List.set_cons_succ, List.set_cons_zero]
                    refine wpAnyH_done (by kernel_rfl) ?_ _
                    clear hHeld
                    go_wp2_with fail
                    go_roundw
                    case rel => exact ⟨j + 1, _, _, _, by go_num, by omega, rfl, Lib.hid (by rw [HTK.out, ← List.append_assoc, List.map_append]; exact HR8.out), HOW8, HOU8⟩
                    case measure => simp [intOf]; omega
                  · obtain rfl : am = j := by omega
                    have hzt : Z.take am = Z := List.take_of_length_le (by rw [HZL.out]; exact Nat.le_refl _)
                    have hsv : ∀ b, b < w10.heap.size → b ≠ g → wr.heap[b]? = w10.heap[b]? := fun b hb hbg => (HOU.out.block b (by have := HSZW.out; omega) hbg (by simp)).trans (HBE2.out.block b hb)
                    have hm1 : wr.heap[ml]? = w10.heap[ml]? := hsv ml HL10.out.lt (by have := HG10.out; have := HP.out; have := HS3.out; omega)
                    have hm2 : wr.heap[mv]? = w10.heap[mv]? := hsv mv HV10.out.lt (by have := HG10.out; have := HP.out; have := HS3.out; omega)
                    have hgo := HS9.out.go HG.out HCO.out HVT.out HGP.out HGQ.out HF10.out (HL10.out.same hm1) (HV10.out.same hm2)
                    rw [HZ.out] at hgo
                    have hrow := HRT.out
                    rw [hzt] at hrow
                    have HRW := Lib.hid hrow
                    have hlen : tn = (todo' ++ Z).length := by
                      obtain ⟨_, _, _, e, e2, _⟩ := hrow.src
                      simp only [Value.slice.injEq] at e
                      rw [e.2.1, e2, List.length_map]
                    have hbx : wr.heap[w.heap.size]? = some (cmO na nn nc (.func (.func fg) #[] cb) mv ml) := (hsv _ (Array.getElem?_eq_some_iff.1 HBX10.out).1 (by have := HG10.out; have := HS3.out; omega)).trans HBX10.out
                    have hbb : Below B0 w wr := (HB0'.out _ HBE2.out).trans ⟨HOU.out.os, HOU.out.tape, HOU.out.output, HOU.out.size, fun b hb => HOU.out.block b (by have := HP.out; have := HSZW.out; have := HB10.out.size; omega) (by have := HP.out; have := HG10.out; have := HS3.out; omega) (by simp)⟩
                    have HGO := Lib.hid hgo
                    have HLN := Lib.hid hlen
                    have HBXX := Lib.hid hbx
                    have HBBB := Lib.hid hbb
                    clear hzt hsv hm1 hm2 hgo hrow hlen hbx hbb
                    go_wp2_with fail
                    go_roundw
                    case rel =>
                      refine ⟨todo' ++ Z, k + 1, _, _, _, rank', f', _, _, _, rfl, ?_, HLN, HRW, HGO, HBXX, HBBB, Lib.hid ?_⟩
                      · have := HGO.out.len; have := HGO.out.cnt; have := HLN.out; omega
                      · have := HOU.out.size; have := HSZW.out; have := HSZ10.out; omega
                    case measure =>
                      rw [HGO.out.vis.num, HS'.out.vis.num]
                      simp only [lenOfV]
                      have h1 := HGO.out.cnt
                      have h2 := HLN.out
                      rw [List.length_append, HZL.out] at h2
                      have h3 := HMM.out
                      omega
            · have HV2 : Hid (Calls Tryz.prog 45 #[cmV na nn nc (.func (.func fg) #[] cb) mv ml, .int .i64 (p.n : Int), .int .i64 (q.n : Int)] w9 fun e w' => e = .returned (.bool false) ∧ Out2 ml (some mv) w9 w' ∧ ∃ f' rank', LeadIs w' ml f' ∧ Forest f' lead rank' ∧ VisIs w' mv k V) := Lib.hid (HVI.mono (fun e w' h => by
                obtain ⟨h1, f', rank', h2, h3 | h3⟩ := h
                · exact ⟨h3.2.1, h1, f', rank', h2, h3.2.2⟩
                · exact (Bool.false_ne_true h3.1.symm).elim))
              clear HVI
              go_wp2_with (go_at_call 45; go_loud (refine HV2.out.mono ?_; rintro en w10 ⟨rfl, ho, f', rank', hl, hf, hvi⟩; have HO := Lib.hid ho; have HL10 := Lib.hid hl; have HF10 := Lib.hid hf; have HV10 := Lib.hid hvi; clear ho hl hf hvi))
              have hn : w.heap.size < W3.heap.size := by have := HS3.out; omega
              have hg9 : g < w9.heap.size := by have := HB9.out.size; have := HW8.out.size; omega
              have hgg : w10.heap[g]? = wr.heap[g]? := (HO.out.block g hg9 (by have := HP.out; omega) (fun e => by have := Option.some.inj e; have := HP.out; omega)).trans ((HB9.out.block g (by have := HW8.out.size; omega)).trans (HW8.out.block g hgl))
              have HR10 : Hid (GRow 84 4 W3.heap.size w10 (.slice (some ⟨g, 0, none⟩) m c) (todo'.map pairC)) := Lib.hid (HPOP.out.kept (fun j hj => by
                simp only [Value.ownBlock, Option.some.injEq] at hj
                subst hj; exact hgg))
              have HBX10 : Hid (w10.heap[w.heap.size]? = some (cmO na nn nc (.func (.func fg) #[] cb) mv ml)) := Lib.hid ((HO.out.block _ (by have := HB9.out.size; have := HW8.out.size; have := HSZ.out; omega) (by have := HP.out; omega) (fun e => by have := Option.some.inj e; have := HP.out; omega)).trans ((HB9.out.block _ (by have := HXY.out; omega)).trans HBX8.out))
              have HB10 : Hid (Below B0 w w10) := Lib.hid (HB09.out.trans ⟨HO.out.os, HO.out.tape, HO.out.output, HO.out.size, fun j hj => HO.out.block j (by have := HP.out; have := HB09.out.size; omega) (by have := HP.out; omega) (fun e => by have := Option.some.inj e; have := HP.out; omega)⟩)
              have HSZ10 : Hid (W3.heap.size ≤ w10.heap.size) := Lib.hid (by have := HO.out.size; have := HB9.out.size; have := HW8.out.size; have := HSZ.out; omega)
              go_roundw
              case rel => exact ⟨todo', k, G, V, lead, rank', f', _, m, c, rfl, by omega, Lib.hid HMM.out.symm, HR10, Lib.hid (HS9.out.skip HFT.out HVT.out HF10.out HL10.out HV10.out), HBX10, HB10, HSZ10⟩
              case measure =>
                rw [HV10.out.num, HS'.out.vis.num]
                simp only [lenOfV]
                omega
        · have hb1 : (kp == kq) = false := by simpa using hk
          have hb2 : (kp != kq) = true := by simpa using hk
          have hb3 : decide (kp = kq) = false := by simpa using hk
          have HNF : Hid (¬ (lgN ns).comp al p q) := Lib.hid (fun h => hk (HFI.out.1 h.1).1)
          clear hk
          refine wp_region_later w8.heap.size w8 (by kernel_rfl) (by kernel_rfl) (Below.refl _ _) ?_
          repeat (go_big_quiet_step (first | (go_at_call 44; with_reducible exact later_call _ (Nat.le_refl _) (HKP.out _)) | (go_at_call 44; with_reducible exact later_call _ (Nat.le_refl _) (HKQ.out _))))
          refine wpQuiet_nil ?_
          rintro _ ⟨⟨wD, hbD⟩, rfl⟩
          clear f0 f1 f2 f3 f4 f5
          go_wp2_with fail
          go_ret
          exact ⟨⟨false, rfl, fun h => (Bool.false_ne_true h).elim, fun h => absurd h (HS'.out.cmp.bad HNF.out)⟩, HB0.out _ hbD⟩

end Go.Proofs.YtjmnaibbljakaaaGreatDoor
