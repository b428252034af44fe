/- Equality, walks: Equal, Alike. (and what follows from it) -/
import Derived.Test.YtjmnaibbljakaaaGreatDoorPu13
import Derived.Test.YtjmnaibbljakaaaGreatDoorPu12
import Derived.Test.YtjmnaibbljakaaaGreatDoorPu2
import Derived.Test.YtjmnaibbljakaaaGreatDoorPu9

/- Equality, walks: Equal, Alike. -/
namespace Go.Proofs.YtjmnaibbljakaaaGreatDoor
open Go.RowKit Go.Deep Go.Shelf

abbrev cmZ : Obj := .cells #[.slice none 0 0, .nilFunc, .map none, .map none] 67
theorem run_store_fn {P : Program} (w : World) (a : Addr) (f : Fn) (x y : Array Value) (m : Mode) : (store a (.func f x y) m).run P w = stored P w a (.func f x y) m := run_store P w a _ m rfl
attribute [local go_sem] run_store_fn
theorem cmZ_cells {w : World} {b : Nat} (h : w.heap[b]? = some cmZ) :
    w.cell? ⟨b, 0, none⟩ = some (.slice none 0 0) ∧ w.cell? ⟨b, 1, none⟩ = some .nilFunc ∧ w.cell? ⟨b, 2, none⟩ = some (.map none) ∧ w.cell? ⟨b, 3, none⟩ = some (.map none) ∧ w.frozen? ⟨b, 0, none⟩ = false ∧ w.frozen? ⟨b, 1, none⟩ = false ∧ w.frozen? ⟨b, 2, none⟩ = false ∧ w.frozen? ⟨b, 3, none⟩ = false := by
  refine ⟨?_, ?_, ?_, ?_, frozen_of_block h 0, frozen_of_block h 1, frozen_of_block h 2, frozen_of_block h 3⟩ <;> simp [World.cell?, h]
theorem cmO_fill {w : World} {b : Nat} {a0 a1 a2 a3 v0 v1 v2 v3 : Value} (h : w.heap[b]? = some (.cells #[a0, a1, a2, a3] 67)) :
    ((((w.setCell ⟨b, 0, none⟩ v0).setCell ⟨b, 1, none⟩ v1).setCell ⟨b, 2, none⟩ v2).setCell ⟨b, 3, none⟩ v3).heap[b]? = some (.cells #[v0, v1, v2, v3] 67) :=
  set_block (set_block (set_block (set_block h 0 v0) 1 v1) 2 v2) 3 v3
set_option maxHeartbeats 2000000 in
set_option maxRecDepth 100000 in
theorem newCmp_any (na : Option Addr) (nn nc fg : Nat) (cb : Array Value) (w : World) :
    Calls Tryz.prog 25 #[grV na nn nc, .func (.func fg) #[] cb] w fun e w' => ∃ mv ml, e = .returned (cmV na nn nc (.func (.func fg) #[] cb) mv ml) ∧ Below w.heap.size w w' ∧ w.heap.size ≤ mv ∧ w.heap.size ≤ ml ∧ mv ≠ ml ∧ VisIs w' mv 0 (fun _ _ => false) ∧ LeadIs w' ml (fun _ => none) := by
  obtain ⟨W2, hW2⟩ : ∃ W2, (w.alloc (grO na nn nc)).alloc (cmZ) = W2 := ⟨_, rfl⟩
  obtain ⟨hs2, hb2, x0, x1⟩ := two_made hW2
  have g0 : W2.cell? ⟨w.heap.size, 0, none⟩ = some (.slice na nn nc) := by simp [World.cell?, x0]
  have HW2 := Lib.hid hW2
  have HB2 := Lib.hid hb2
  have HS2 := Lib.hid hs2
  obtain ⟨W4, hW4⟩ : ∃ W4, (W2.alloc (.map #[] 0)).alloc (.map #[] 0) = W4 := ⟨_, rfl⟩
  obtain ⟨hs4, hb4, y0, y1⟩ := two_made hW4
  have hmk1 : (Instr.makeMap 64 none).run Tryz.prog W2 = .ok (.map (some (w.heap.size + 2))) (W2.alloc (.map #[] 0)) := by rw [run_makeMap, hs2]
  have hmk2 : (Instr.makeMap 65 none).run Tryz.prog (W2.alloc (.map #[] 0)) = .ok (.map (some (w.heap.size + 3))) W4 := by rw [run_makeMap, World.size_alloc, hs2, hW4]
  have x14 : W4.heap[w.heap.size + 1]? = some cmZ := (hb4.block _ (by omega)).trans x1
  have hvis : VisIs W4 (w.heap.size + 2) 0 (fun _ _ => false) := by
    have h := VisIs.made W2
    rw [hs2] at h
    refine h.same ?_
    rw [← hW4]
    exact Below.heap_alloc _ _ _ (by rw [World.size_alloc]; omega)
  have hlead : LeadIs W4 (w.heap.size + 3) (fun _ => none) := by
    have h := LeadIs.made (W2.alloc (.map #[] 0))
    rw [World.size_alloc, hs2, hW4] at h
    exact h
  obtain ⟨z0, z1, z2, z3, z4, z5, z6, z7⟩ := cmZ_cells x14
  have HX14 := Lib.hid x14
  have HM := Lib.hid (And.intro hvis hlead)
  have HB4 : Hid (Below w.heap.size w W4) := Lib.hid (below_seq hb2 hb4)
  have HS4 : Hid (W4.heap.size = w.heap.size + 4) := Lib.hid (by omega)
  have HX1 := Lib.hid x1
  clear hW2 hb2 x0 x1 hs2 hW4 hs4 hb4 y0 y1 x14 hvis hlead
  go_enter Tryz.func25, Tryz.ntmps25
  go_upto_region 1 with fail
  rw [show (w.alloc (.cells #[.slice na nn nc] 32)).alloc cmZ = W2 from HW2.out]
  go_wp2_with fail
  clear z0 z1 z2 z3 z4 z5 z6 z7
  have hfl := cmO_fill (v0 := .slice na nn nc) (v1 := .func (.func fg) #[] cb) (v2 := .map (some (w.heap.size + 2))) (v3 := .map (some (w.heap.size + 3))) HX14.out
  obtain ⟨u0, u1, u2, u3⟩ := cmO_cells hfl
  refine bodyPost_ret (v := cmV na nn nc (.func (.func fg) #[] cb) (w.heap.size + 2) (w.heap.size + 3)) (by simp [results, Tryz.results25, go_sem, u0, u1, u2, u3]) rfl ?_
  have hk : ∀ k, k ≠ w.heap.size + 1 → ((((W4.setCell ⟨w.heap.size + 1, 0, none⟩ (.slice na nn nc)).setCell ⟨w.heap.size + 1, 1, none⟩ (.func (.func fg) #[] cb)).setCell ⟨w.heap.size + 1, 2, none⟩ (.map (some (w.heap.size + 2)))).setCell ⟨w.heap.size + 1, 3, none⟩ (.map (some (w.heap.size + 3)))).heap[k]? = W4.heap[k]? := fun k hk => (set_oth _ 3 _ hk).trans ((set_oth _ 2 _ hk).trans ((set_oth _ 1 _ hk).trans (set_oth _ 0 _ hk)))
  refine ⟨_, _, rfl, ?_, by omega, by omega, by omega, HM.out.1.same (hk _ (by omega)), HM.out.2.same (hk _ (by omega))⟩
  exact (((HB4.out.setCell (p := ⟨w.heap.size + 1, 0, none⟩) (by show w.heap.size ≤ w.heap.size + 1; omega) _).setCell (p := ⟨w.heap.size + 1, 1, none⟩) (by show w.heap.size ≤ w.heap.size + 1; omega) _).setCell (p := ⟨w.heap.size + 1, 2, none⟩) (by show w.heap.size ≤ w.heap.size + 1; omega) _).setCell (p := ⟨w.heap.size + 1, 3, none⟩) (by show w.heap.size ≤ w.heap.size + 1; omega) _

set_option maxHeartbeats 2000000 in
set_option maxRecDepth 100000 in
theorem fitE_any (ns : List GNode) (na : Option Addr) (nn nc gb : Nat) (a b : GRef) (ga hb : GNode) (w : World) (hG : EqG ns) (hns : NodeSl (fun k => k < w.heap.size) w (.slice na nn nc) ns) (hgb : w.heap[gb]? = some (grO na nn nc)) (ha : ns[a.n]? = some ga) (hb' : ns[b.n]? = some hb) (has : -1000000000000 ≤ a.s ∧ a.s ≤ 1000000000000) (hbs : -1000000000000 ≤ b.s ∧ b.s ≤ 1000000000000) :
    Calls Tryz.prog 26 #[rfV a.n a.s, rfV b.n b.s, .pointer (some ⟨gb, 0, none⟩)] w fun e w' => e = .returned (.bool (fitB false ga a.s hb b.s)) ∧ Below w.heap.size w w' := by
  obtain ⟨W2, hW2⟩ : ∃ W2, (w.alloc (refO (.int .i64 (a.n : Int)) (.int .i64 a.s))).alloc (refO (.int .i64 (b.n : Int)) (.int .i64 b.s)) = W2 := ⟨_, rfl⟩
  obtain ⟨hs2, hb2, x0, x1⟩ := two_made hW2
  have hgl := (Array.getElem?_eq_some_iff.1 hgb).1
  have HC : Hid (∀ W, Below W2.heap.size W2 W → W.cell? ⟨gb, 0, none⟩ = some (.slice na nn nc) ∧ (W.cell? ⟨w.heap.size, 0, none⟩ = some (.int .i64 (a.n : Int)) ∧ W.cell? ⟨w.heap.size, 1, none⟩ = some (.int .i64 a.s)) ∧ (W.cell? ⟨w.heap.size + 1, 0, none⟩ = some (.int .i64 (b.n : Int)) ∧ W.cell? ⟨w.heap.size + 1, 1, none⟩ = some (.int .i64 b.s))) := Lib.hid (fun W hW => by
    have h0 : W.heap[gb]? = some (grO na nn nc) := (hW.block gb (by omega)).trans ((hb2.block gb hgl).trans hgb)
    have h1 := refO_cells ((hW.block w.heap.size (by omega)).trans x0)
    have h2 := refO_cells ((hW.block (w.heap.size + 1) (by omega)).trans x1)
    exact ⟨by simp [World.cell?, h0], ⟨h1.1, h1.2.1⟩, ⟨h2.1, h2.2.1⟩⟩)
  have HPA := Lib.hid (fun q : Later W2.heap.size W2 => eprio_any ns na nn nc a.n a.s ga q.1 (hns.to (below_seq hb2 q.2)) ha hG.len ((hG.sm ga (List.mem_of_getElem? ha)).1) has)
  have HPB := Lib.hid (fun q : Later W2.heap.size W2 => eprio_any ns na nn nc b.n b.s hb q.1 (hns.to (below_seq hb2 q.2)) hb' hG.len ((hG.sm hb (List.mem_of_getElem? hb')).1) hbs)
  obtain ⟨pa, hpa⟩ : ∃ pa, prE ga a.s = pa := ⟨_, rfl⟩
  obtain ⟨pb, hpb⟩ : ∃ pb, prE hb b.s = pb := ⟨_, rfl⟩
  have HV : Hid (fitB false ga a.s hb b.s = decide (pa = pb)) := Lib.hid (by rw [← hpa, ← hpb]; rfl)
  rw [hpa] at HPA
  rw [hpb] at HPB
  rw [HV.out]
  have HW2 := Lib.hid hW2
  have HB2 := Lib.hid hb2
  clear hW2 hb2 x0 x1 hs2 hgl hG hns hgb ha hb' has hbs hpa hpb
  go_enter Tryz.func26, Tryz.ntmps26
  go_upto_region 1 with fail
  rw [show (w.alloc (.cells #[.int .i64 (a.n : Int), .int .i64 a.s] 37)).alloc (.cells #[.int .i64 (b.n : Int), .int .i64 b.s] 37) = W2 from HW2.out]
  have f0 := fun q : Later W2.heap.size W2 => (HC.out q.1 q.2).1
  have f1 := fun q : Later W2.heap.size W2 => (HC.out q.1 q.2).2.1.1
  have f2 := fun q : Later W2.heap.size W2 => (HC.out q.1 q.2).2.1.2
  have f3 := fun q : Later W2.heap.size W2 => (HC.out q.1 q.2).2.2.1
  have f4 := fun q : Later W2.heap.size W2 => (HC.out q.1 q.2).2.2.2
  refine wp_region_later W2.heap.size W2 (by kernel_rfl) (by kernel_rfl) (Below.refl _ _) ?_
  repeat (go_big_quiet_step (first | (go_at_call 27; with_reducible exact later_call _ (Nat.le_refl _) (HPA.out _)) | (go_at_call 27; with_reducible exact later_call _ (Nat.le_refl _) (HPB.out _))))
  refine wpQuiet_nil ?_
  rintro w9 ⟨⟨_, hb9⟩, rfl⟩
  clear f0 f1 f2 f3 f4
  go_wp2_with fail
  go_ret
  exact ⟨by show Ending.returned (.bool (pa == pb)) = _; rw [show (pa == pb) = decide (pa = pb) from by rw [Bool.eq_iff_iff]; simp], below_seq HB2.out hb9⟩
theorem fitA_any (a b : GRef) (ga hb : GNode) (w : World) :
    Calls Tryz.prog 29 #[rfV a.n a.s, rfV b.n b.s] w fun e w' => e = .returned (.bool (fitB true ga a.s hb b.s)) ∧ Below w.heap.size w w' := by
  have HV : Hid (fitB true ga a.s hb b.s = true) := Lib.hid rfl
  rw [HV.out]
  go_enter Tryz.func29, Tryz.ntmps29
  go_wp2_with fail
  go_ret
  exact ⟨rfl, ((Below.refl _ _).alloc (Nat.le_refl _) _).alloc (by simp) _⟩

set_option maxHeartbeats 4000000 in
set_option maxRecDepth 100000 in
theorem equal_any (ns : List GNode) (na : Option Addr) (nn nc : Nat) (x y : GRef) (w : World) (hG : EqG ns) (hN : ns.length ≤ 10000) (hns : NodeSl (fun k => k < w.heap.size) w (.slice na nn nc) ns) (hx : Bd ns 0 x) (hy : Bd ns 0 y) :
    Calls Tryz.prog 11 #[grV na nn nc, rfV x.n x.s, rfV y.n y.s] w fun e w' => CmpRet ns false x y e ∧ Below w.heap.size w w' := by
  obtain ⟨W3, hW3⟩ : ∃ W3, ((w.alloc (grO na nn nc)).alloc (refO (.int .i64 (x.n : Int)) (.int .i64 x.s))).alloc (refO (.int .i64 (y.n : Int)) (.int .i64 y.s)) = W3 := ⟨_, rfl⟩
  obtain ⟨hs3, hb3, x0, x1, x2⟩ := three_made hW3
  have HS : Hid (∀ W, Below W3.heap.size W3 W → (W.cell? ⟨w.heap.size, 0, none⟩ = some (.slice na nn nc)) ∧ (W.cell? ⟨w.heap.size + 1, 0, none⟩ = some (.int .i64 (x.n : Int)) ∧ W.cell? ⟨w.heap.size + 1, 1, none⟩ = some (.int .i64 x.s)) ∧ (W.cell? ⟨w.heap.size + 2, 0, none⟩ = some (.int .i64 (y.n : Int)) ∧ W.cell? ⟨w.heap.size + 2, 1, none⟩ = some (.int .i64 y.s))) := Lib.hid (fun W hW => by
    have h0 : W.heap[w.heap.size]? = some (grO na nn nc) := (hW.block _ (by omega)).trans x0
    have h1 := refO_cells ((hW.block (w.heap.size + 1) (by omega)).trans x1)
    have h2 := refO_cells ((hW.block (w.heap.size + 2) (by omega)).trans x2)
    exact ⟨by simp [World.cell?, h0], ⟨h1.1, h1.2.1⟩, ⟨h2.1, h2.2.1⟩⟩)
  have HNS : Hid (∀ W, Below W3.heap.size W3 W → NodeSl (fun k => k < W.heap.size) W (.slice na nn nc) ns) := Lib.hid (fun W hW => hns.to (below_seq hb3 hW))
  have HN3 : Hid (NodeSl (fun k => k < W3.heap.size) W3 (.slice na nn nc) ns) := Lib.hid (hns.to hb3)
  have HXG : Hid (∀ W, Below W3.heap.size W3 W → W.heap[w.heap.size]? = some (grO na nn nc)) := Lib.hid (fun W hW => (hW.block _ (by omega)).trans x0)
  have HBS : Hid (w.heap.size < W3.heap.size) := Lib.hid (by omega)
  have HG := Lib.hid hG
  have HXY := Lib.hid (And.intro hx hy)
  have HB3 := Lib.hid hb3
  have HW3 := Lib.hid hW3
  clear hG hns hx hy hW3 hs3 hb3 x0 x1 x2
  go_enter Tryz.func11, Tryz.ntmps11
  go_upto_region 1 with fail
  rw [show ((w.alloc (.cells #[.slice na nn nc] 32)).alloc (.cells #[.int .i64 (x.n : Int), .int .i64 x.s] 37)).alloc (.cells #[.int .i64 (y.n : Int), .int .i64 y.s] 37) = W3 from HW3.out]
  refine wp_region_held_drew (S := fun W => (W.cell? ⟨w.heap.size, 0, none⟩ = some (.slice na nn nc)) ∧ (W.cell? ⟨w.heap.size + 1, 0, none⟩ = some (.int .i64 (x.n : Int)) ∧ W.cell? ⟨w.heap.size + 1, 1, none⟩ = some (.int .i64 x.s)) ∧ (W.cell? ⟨w.heap.size + 2, 0, none⟩ = some (.int .i64 (y.n : Int)) ∧ W.cell? ⟨w.heap.size + 2, 1, none⟩ = some (.int .i64 y.s))) (by kernel_rfl) (HS.out W3 (Below.refl _ _)) (fun hHeld => ?_)
  refine wpAnyH_take_l 0 (v := ?ve0) rfl rfl (by kernel_rfl) (by kernel_rfl) (by kernel_rfl) (fun _ _ _ h => h) ?he0 (by assumption) ?re0
  case he0 => (intro w hSw; (try dsimp only at hSw); go_simp; try rfl)
  case' re0 => simp only [setD, List.set_cons_succ, List.set_cons_zero]
  refine wpAnyH_take_l 1 (v := ?ve1) rfl rfl (by kernel_rfl) (by kernel_rfl) (by kernel_rfl) (fun _ _ _ h => h) ?he1 (by assumption) ?re1
  case he1 => (intro w hSw; (try dsimp only at hSw); go_simp; try rfl)
  case' re1 => simp only [setD, List.set_cons_succ, List.set_cons_zero]
  refine wpAnyH_take_l 3 (v := ?ve3) rfl rfl (by kernel_rfl) (by kernel_rfl) (by kernel_rfl) (fun _ _ _ h => h) ?he3 (by assumption) ?re3
  case he3 => (intro w hSw; (try dsimp only at hSw); go_simp; try rfl)
  case' re3 => simp only [setD, List.set_cons_succ, List.set_cons_zero]
  refine wpAnyH_take_l 4 (v := ?ve4) rfl rfl (by kernel_rfl) (by kernel_rfl) (by kernel_rfl) (fun _ _ _ h => h) ?he4 (by assumption) ?re4
  case he4 => (intro w hSw; (try dsimp only at hSw); go_simp; try rfl)
  case' re4 => simp only [setD, List.set_cons_succ, List.set_cons_zero]
  refine wpAnyH_one 2 rfl rfl (by kernel_rfl) (fun K hK => ?_)
  have hK2 := hK.out
  clear hK
  simp only [setD, List.set_cons_succ, List.set_cons_zero] at hK2 ⊢
  go_simp
  refine (newCmp_any na nn nc 26 #[.pointer (some ⟨w.heap.size, 0, none⟩)] _).mono ?_
  rintro en w1 ⟨mv, ml, rfl, hb1, h1, h2, h3, h4, h5⟩
  dsimp only
  have hbw1 : Below W3.heap.size W3 w1 := below_seq ((Below.refl _ _).drew) hb1
  have hbw1s : W3.heap.size ≤ w1.heap.size := hbw1.size
  refine hK2 _ _ (HS.out w1 hbw1) (fun _ => ?_)
  clear hK2 K
  refine wpAnyH_one 5 rfl rfl (by kernel_rfl) (fun K hK => ?_)
  have hK2 := hK.out
  clear hK
  simp only [setD, List.set_cons_succ, List.set_cons_zero] at hK2 ⊢
  go_simp
  have HX1' := HXG.out w1 hbw1
  have hnsB : NodeSl (fun k => k < W3.heap.size) w1 (.slice na nn nc) ns := HN3.out.keep (hbw1.keeps'.mono (fun _ hk => hk))
  refine (compare_any ns na nn nc 26 #[.pointer (some ⟨w.heap.size, 0, none⟩)] false x y mv ml W3.heap.size w1 HG.out hN hnsB hbw1s HXY.out.1 HXY.out.2 h1 h2 h3 h4 h5 (enters_of Tryz.func26 (by kernel_rfl) rfl) (fun a b ga hb ha hb' has hbs W hW => fitE_any ns na nn nc w.heap.size a b ga hb W HG.out (HNS.out W (hbw1.trans hW)) ((hW.block _ HBS.out).trans HX1') ha hb' has hbs)).mono ?_
  rintro en w2 ⟨⟨r, rfl, hr⟩, hb2⟩
  dsimp only
  have hbw2 : Below W3.heap.size W3 w2 := hbw1.trans hb2
  refine hK2 _ _ (HS.out w2 hbw2) (fun _ => ?_)
  clear hK2 K
  refine wpAnyH_take_l 6 (v := ?ve6) rfl rfl (by kernel_rfl) (by kernel_rfl) (by kernel_rfl) (fun _ _ _ h => h) ?he6 (by assumption) ?re6
  case he6 => (intro w hSw; (try dsimp only at hSw); go_simp; try rfl)
  case' re6 => simp only [setD, List.set_cons_succ, List.set_cons_zero]
  refine wpAnyH_done (by kernel_rfl) ?_ _
  clear hHeld
  have HR := Lib.hid hr
  have HB2 := Lib.hid hbw2
  clear hr hbw2 hb2 hnsB HX1' hbw1 hbw1s hb1 h1 h2 h3 h4 h5
  go_wp2_with fail
  go_ret
  exact ⟨⟨r, rfl, HR.out⟩, below_seq HB3.out HB2.out⟩

set_option maxHeartbeats 4000000 in
set_option maxRecDepth 100000 in
theorem alike_any (ns : List GNode) (na : Option Addr) (nn nc : Nat) (x y : GRef) (w : World) (hG : EqG ns) (hN : ns.length ≤ 10000) (hns : NodeSl (fun k => k < w.heap.size) w (.slice na nn nc) ns) (hx : Bd ns 0 x) (hy : Bd ns 0 y) :
    Calls Tryz.prog 12 #[grV na nn nc, rfV x.n x.s, rfV y.n y.s] w fun e w' => CmpRet ns true x y e ∧ Below w.heap.size w w' := by
  obtain ⟨W3, hW3⟩ : ∃ W3, ((w.alloc (grO na nn nc)).alloc (refO (.int .i64 (x.n : Int)) (.int .i64 x.s))).alloc (refO (.int .i64 (y.n : Int)) (.int .i64 y.s)) = W3 := ⟨_, rfl⟩
  obtain ⟨hs3, hb3, x0, x1, x2⟩ := three_made hW3
  have HS : Hid (∀ W, Below W3.heap.size W3 W → (W.cell? ⟨w.heap.size, 0, none⟩ = some (.slice na nn nc)) ∧ (W.cell? ⟨w.heap.size + 1, 0, none⟩ = some (.int .i64 (x.n : Int)) ∧ W.cell? ⟨w.heap.size + 1, 1, none⟩ = some (.int .i64 x.s)) ∧ (W.cell? ⟨w.heap.size + 2, 0, none⟩ = some (.int .i64 (y.n : Int)) ∧ W.cell? ⟨w.heap.size + 2, 1, none⟩ = some (.int .i64 y.s))) := Lib.hid (fun W hW => by
    have h0 : W.heap[w.heap.size]? = some (grO na nn nc) := (hW.block _ (by omega)).trans x0
    have h1 := refO_cells ((hW.block (w.heap.size + 1) (by omega)).trans x1)
    have h2 := refO_cells ((hW.block (w.heap.size + 2) (by omega)).trans x2)
    exact ⟨by simp [World.cell?, h0], ⟨h1.1, h1.2.1⟩, ⟨h2.1, h2.2.1⟩⟩)
  have HNS : Hid (∀ W, Below W3.heap.size W3 W → NodeSl (fun k => k < W.heap.size) W (.slice na nn nc) ns) := Lib.hid (fun W hW => hns.to (below_seq hb3 hW))
  have HN3 : Hid (NodeSl (fun k => k < W3.heap.size) W3 (.slice na nn nc) ns) := Lib.hid (hns.to hb3)
  have HXG : Hid (∀ W, Below W3.heap.size W3 W → W.heap[w.heap.size]? = some (grO na nn nc)) := Lib.hid (fun W hW => (hW.block _ (by omega)).trans x0)
  have HBS : Hid (w.heap.size < W3.heap.size) := Lib.hid (by omega)
  have HG := Lib.hid hG
  have HXY := Lib.hid (And.intro hx hy)
  have HB3 := Lib.hid hb3
  have HW3 := Lib.hid hW3
  clear hG hns hx hy hW3 hs3 hb3 x0 x1 x2
  go_enter Tryz.func12, Tryz.ntmps12
  go_upto_region 1 with fail
  rw [show ((w.alloc (.cells #[.slice na nn nc] 32)).alloc (.cells #[.int .i64 (x.n : Int), .int .i64 x.s] 37)).alloc (.cells #[.int .i64 (y.n : Int), .int .i64 y.s] 37) = W3 from HW3.out]
  refine wp_region_held_drew (S := fun W => (W.cell? ⟨w.heap.size, 0, none⟩ = some (.slice na nn nc)) ∧ (W.cell? ⟨w.heap.size + 1, 0, none⟩ = some (.int .i64 (x.n : Int)) ∧ W.cell? ⟨w.heap.size + 1, 1, none⟩ = some (.int .i64 x.s)) ∧ (W.cell? ⟨w.heap.size + 2, 0, none⟩ = some (.int .i64 (y.n : Int)) ∧ W.cell? ⟨w.heap.size + 2, 1, none⟩ = some (.int .i64 y.s))) (by kernel_rfl) (HS.out W3 (Below.refl _ _)) (fun hHeld => ?_)
  refine wpAnyH_take_l 0 (v := ?ve0) rfl rfl (by kernel_rfl) (by kernel_rfl) (by kernel_rfl) (fun _ _ _ h => h) ?he0 (by assumption) ?re0
  case he0 => (intro w hSw; (try dsimp only at hSw); go_simp; try rfl)
  case' re0 => simp only [setD, List.set_cons_succ, List.set_cons_zero]
  refine wpAnyH_take_l 2 (v := ?ve2) rfl rfl (by kernel_rfl) (by kernel_rfl) (by kernel_rfl) (fun _ _ _ h => h) ?he2 (by assumption) ?re2
  case he2 => (intro w hSw; (try dsimp only at hSw); go_simp; try rfl)
  case' re2 => simp only [setD, List.set_cons_succ, List.set_cons_zero]
  refine wpAnyH_take_l 3 (v := ?ve3) rfl rfl (by kernel_rfl) (by kernel_rfl) (by kernel_rfl) (fun _ _ _ h => h) ?he3 (by assumption) ?re3
  case he3 => (intro w hSw; (try dsimp only at hSw); go_simp; try rfl)
  case' re3 => simp only [setD, List.set_cons_succ, List.set_cons_zero]
  refine wpAnyH_one 1 rfl rfl (by kernel_rfl) (fun K hK => ?_)
  have hK2 := hK.out
  clear hK
  simp only [setD, List.set_cons_succ, List.set_cons_zero] at hK2 ⊢
  go_simp
  refine (newCmp_any na nn nc 29 #[] _).mono ?_
  rintro en w1 ⟨mv, ml, rfl, hb1, h1, h2, h3, h4, h5⟩
  dsimp only
  have hbw1 : Below W3.heap.size W3 w1 := below_seq ((Below.refl _ _).drew) hb1
  have hbw1s : W3.heap.size ≤ w1.heap.size := hbw1.size
  refine hK2 _ _ (HS.out w1 hbw1) (fun _ => ?_)
  clear hK2 K
  refine wpAnyH_one 4 rfl rfl (by kernel_rfl) (fun K hK => ?_)
  have hK2 := hK.out
  clear hK
  simp only [setD, List.set_cons_succ, List.set_cons_zero] at hK2 ⊢
  go_simp
  have HX1' := HXG.out w1 hbw1
  have hnsB : NodeSl (fun k => k < W3.heap.size) w1 (.slice na nn nc) ns := HN3.out.keep (hbw1.keeps'.mono (fun _ hk => hk))
  refine (compare_any ns na nn nc 29 #[] true x y mv ml W3.heap.size w1 HG.out hN hnsB hbw1s HXY.out.1 HXY.out.2 h1 h2 h3 h4 h5 (enters_of Tryz.func29 (by kernel_rfl) rfl) (fun a b ga hb _ _ _ _ W _ => fitA_any a b ga hb W)).mono ?_
  rintro en w2 ⟨⟨r, rfl, hr⟩, hb2⟩
  dsimp only
  have hbw2 : Below W3.heap.size W3 w2 := hbw1.trans hb2
  refine hK2 _ _ (HS.out w2 hbw2) (fun _ => ?_)
  clear hK2 K
  refine wpAnyH_take_l 5 (v := ?ve5) rfl rfl (by kernel_rfl) (by kernel_rfl) (by kernel_rfl) (fun _ _ _ h => h) ?he5 (by assumption) ?re5
  case he5 => (intro w hSw; (try dsimp only at hSw); go_simp; try rfl)
  case' re5 => simp only [setD, List.set_cons_succ, List.set_cons_zero]
  refine wpAnyH_done (by kernel_rfl) ?_ _
  clear hHeld
  have HR := Lib.hid hr
  have HB2 := Lib.hid hbw2
  clear hr hbw2 hb2 hnsB HX1' hbw1 hbw1s hb1 h1 h2 h3 h4 h5
  go_wp2_with fail
  go_ret
  exact ⟨⟨r, rfl, HR.out⟩, below_seq HB3.out HB2.out⟩
end Go.Proofs.YtjmnaibbljakaaaGreatDoor

/- Equality, walks: allSteps. -/
namespace Go.Proofs.YtjmnaibbljakaaaGreatDoor
open Go.RowKit Go.Deep Go.Shelf

theorem stepElem : ElemOf 74 33 1 := elemOf Tryz.underlying74 (z := .slice none 0 0) (bytes := 24) (by kernel_rfl) (by decide) rfl (by decide)
/-- The priority of a reference of a graph, or 0. -/
def prR (ns : List GNode) (r : GRef) : Int := match ns[r.n]? with
  | some g => prE g r.s
  | none => 0
theorem prR_at {ns : List GNode} {r : GRef} {g : GNode} (h : ns[r.n]? = some g) : prR ns r = prE g r.s := by unfold prR; rw [h]
/-- The steps of a node that is raised to the priority 0. -/
def stN (ns : List GNode) (g : GNode) : List GRef := (behE g (-(prE g 0))).map (fun r => ⟨r.n, prR ns r⟩)
abbrev slC (v : Value) : List Value := [v]
/-- Lists of references lie in memory. -/
structure StSl (w : World) (base : Nat) (v : Value) (st : List (List GRef)) : Prop where
  row : ∃ vs : List Value, GRow 33 1 base w v (vs.map slC) ∧ vs.length = st.length ∧ ∀ (i : Nat) (l : List GRef), st[i]? = some l → ∃ u, vs[i]? = some u ∧ GRow 37 2 base w u (l.map refCells)
theorem StSl.mono {w : World} {base b2 : Nat} {v : Value} {st : List (List GRef)} (h : StSl w base v st) (hb : b2 ≤ base) : StSl w b2 v st := by
  obtain ⟨vs, h1, h2, h3⟩ := h.row
  exact ⟨vs, h1.mono hb, h2, fun i l hl => by obtain ⟨u, h4, h5⟩ := h3 i l hl; exact ⟨u, h4, h5.mono hb⟩⟩
theorem StSl.to {w w' : World} {base : Nat} {v : Value} {st : List (List GRef)} (h : StSl w base v st) (hb : Below w.heap.size w w') : StSl w' base v st := by
  obtain ⟨vs, h1, h2, h3⟩ := h.row
  exact ⟨vs, h1.to hb, h2, fun i l hl => by obtain ⟨u, h4, h5⟩ := h3 i l hl; exact ⟨u, h4, h5.to hb⟩⟩
theorem frozenOf {el : TypeId} {sz base : Nat} {W : World} {g n c o : Nat} {es : List (List Value)} (h : GRow el sz base W (.slice (some ⟨g, 0, none⟩) n c) es) : W.frozen? ⟨g, o, none⟩ = false := by
  rcases h.parts with ⟨e, _⟩ | ⟨g', c', e, _, _, _, hf⟩
  · simp at e
  · simp only [Value.slice.injEq, Option.some.injEq, Addr.mk.injEq, and_true] at e
    obtain ⟨rfl, -⟩ := e
    exact hf o
theorem set_step {F : GRef → GRef} {B : List GRef} {k : Nat} {q : GRef} (h : B[k]? = some q) : (((B.take k).map F ++ B.drop k).map refCells).set k (refCells (F q)) = ((B.take (k + 1)).map F ++ B.drop (k + 1)).map refCells := by
  have hk := (List.getElem?_eq_some_iff.1 h).1
  have hd : B.drop k = q :: B.drop (k + 1) := by rw [List.drop_eq_getElem_cons hk, (List.getElem?_eq_some_iff.1 h).2]
  have hl : (((B.take k).map F).map refCells).length = k := by simp; omega
  rw [List.map_append, List.set_append_right _ _ (by rw [hl]; exact Nat.le_refl _), hl, Nat.sub_self, hd, List.map_cons, List.set_cons_zero, take_snoc_get h]
  simp
theorem at_step {F : GRef → GRef} {B : List GRef} {k : Nat} {q : GRef} (h : B[k]? = some q) : (((B.take k).map F ++ B.drop k).map refCells)[k]? = some (refCells q) := by
  have hk := (List.getElem?_eq_some_iff.1 h).1
  have hl : (((B.take k).map F).map refCells).length = k := by simp; omega
  rw [List.map_append, List.getElem?_append_right (by rw [hl]; exact Nat.le_refl _), hl, Nat.sub_self, List.getElem?_map, List.getElem?_drop, Nat.add_zero, h]
  rfl
theorem prE_small {ns : List GNode} (hG : EqG ns) {g : GNode} (hg : g ∈ ns) : 0 ≤ prE g 0 ∧ prE g 0 ≤ 1000000 := by
  have h := (hG.sm g hg).1
  unfold prE
  split <;> omega

set_option maxHeartbeats 8000000 in
set_option maxRecDepth 100000 in
theorem allSteps_any (ns : List GNode) (na : Option Addr) (nn nc : Nat) (w : World) (hG : EqG ns) (hns : NodeSl (fun k => k < w.heap.size) w (.slice na nn nc) ns) :
    Calls Tryz.prog 32 #[grV na nn nc] w fun e w' => ∃ a m c, e = .returned (.slice a m c) ∧ StSl w' w.heap.size (.slice a m c) (ns.map (stN ns)) ∧ Below w.heap.size w w' := by
  obtain ⟨_, _, _, e0, hln, _, _⟩ := hns.open
  simp only [Value.slice.injEq] at e0
  obtain ⟨rfl, rfl, rfl⟩ := e0
  have hlen := hG.len
  obtain ⟨W1, hW1⟩ : ∃ W1, w.alloc (grO na nn nc) = W1 := ⟨_, rfl⟩
  have hb1 : Below w.heap.size w W1 := by rw [← hW1]; exact blkBelow w _ _
  have hs1 : W1.heap.size = w.heap.size + 1 := by rw [← hW1]; simp
  have x1 : W1.heap[w.heap.size]? = some (grO na nn nc) := by rw [← hW1]; exact World.alloc_heap_new _ _
  have HC : Hid (∀ W, Below W1.heap.size W1 W → W.cell? ⟨w.heap.size, 0, none⟩ = some (.slice na nn nc)) := Lib.hid (fun W hW => by
    have h0 : W.heap[w.heap.size]? = some (grO na nn nc) := (hW.block _ (by omega)).trans x1
    simp [World.cell?, h0])
  have HNS : Hid (∀ W, Below W1.heap.size W1 W → NodeSl (fun k => k < W.heap.size) W (.slice na nn nc) ns) := Lib.hid (fun W hW => hns.to (below_seq hb1 hW))
  have HLN : Hid (nn = ns.length) := hln
  have hnn : nn ≤ 1000000 := by rw [hln.out]; exact hlen
  have HG := Lib.hid hG
  have HW1 := Lib.hid hW1
  have HB1 := Lib.hid hb1
  have HS1 := Lib.hid hs1
  have g0 := HC.out W1 (Below.refl _ _)
  clear hns hG hW1 hb1 hs1 x1 hln hlen
  go_enter Tryz.func32, Tryz.ntmps32
  go_upto_region 1 with fail
  rw [show w.alloc (.cells #[.slice na nn nc] 32) = W1 from HW1.out]
  go_wp2_with fail
  clear g0
  go_loopw [12, 3] (fun i v wr => ∃ (j : Nat) (a : Option Addr) (m c : Nat) (vs : List Value), i = .int .i64 j ∧ j ≤ nn ∧ v = .slice a m c ∧ Hid (GRow 33 1 W1.heap.size wr (.slice a m c) (vs.map slC)) ∧ Hid (vs.length = j) ∧ Hid (∀ i g, i < j → ns[i]? = some g → ∃ u, vs[i]? = some u ∧ GRow 37 2 W1.heap.size wr u ((stN ns g).map refCells)) ∧ Hid (Below W1.heap.size W1 wr)) (fun i _ _ => nn - (intOf i).toNat)
  case atStart => exact ⟨0, _, _, _, [], rfl, by omega, rfl, Lib.hid (GRow.nil _ _ _ _), Lib.hid rfl, Lib.hid (fun i g h => by omega), Lib.hid (Below.refl _ _)⟩
  case round =>
    obtain ⟨j, a, m, c, vs, rfl, hj, rfl, HR, HV, HE, HB⟩ := hrel
    by_cases hlt : j < nn
    · obtain ⟨g, hg⟩ : ∃ g, ns[j]? = some g := ⟨_, List.getElem?_eq_getElem (by rw [← HLN.out]; exact hlt)⟩
      have hgm := List.mem_of_getElem? hg
      have hpb := prE_small HG.out hgm
      go_upto_region 6 with fail
      obtain ⟨W4, hW4⟩ : ∃ W4, wr.alloc (refO (.int .i64 (j : Int)) (.int .i64 0)) = W4 := ⟨_, rfl⟩
      have hb4 : Below wr.heap.size wr W4 := by rw [← hW4]; exact blkBelow wr _ _
      have x4 : W4.heap[wr.heap.size]? = some (refO (.int .i64 (j : Int)) (.int .i64 0)) := by rw [← hW4]; exact World.alloc_heap_new _ _
      have hs4 : W4.heap.size = wr.heap.size + 1 := by rw [← hW4]; simp
      rw [show wr.alloc (.cells #[.int .i64 (j : Int), .int .i64 0] 37) = W4 from hW4]
      have HB4 : Hid (Below W1.heap.size W1 W4) := Lib.hid (below_seq HB.out hb4)
      have HC4 : Hid (∀ W, Below W4.heap.size W4 W → W.cell? ⟨w.heap.size, 0, none⟩ = some (.slice na nn nc) ∧ W.cell? ⟨wr.heap.size, 0, none⟩ = some (.int .i64 (j : Int)) ∧ W.cell? ⟨wr.heap.size, 1, none⟩ = some (.int .i64 0)) := Lib.hid (fun W hW => by
        have h1 := refO_cells ((hW.block _ (by omega)).trans x4)
        exact ⟨HC.out W (below_seq HB4.out hW), h1.1, h1.2.1⟩)
      obtain ⟨pv, hpv⟩ : ∃ pv, prE g 0 = pv := ⟨_, rfl⟩
      have HPR : Hid (∀ W, Below W4.heap.size W4 W → Calls Tryz.prog 27 #[grV na nn nc, rfV j 0] W fun e w' => e = .returned (.int .i64 pv) ∧ Below W.heap.size W w') := Lib.hid (fun W hW => by
        rw [← hpv]
        exact eprio_any ns na nn nc j 0 g W (HNS.out W (below_seq HB4.out hW)) hg HG.out.len ((HG.out.sm g hgm).1) (by omega))
      rw [hpv] at hpb
      have hwr : IntKind.i64.wrap (-pv) = -pv := by rw [IntKind.wrap_i64]; omega
      have HRA : Hid (∀ W, Calls Tryz.prog 30 #[rfV j 0, .int .i64 (-pv)] W fun e w' => e = .returned (rfV j (-pv)) ∧ Below W.heap.size W w') := Lib.hid (fun W => by
        have h := hraise_any j 0 (-pv) W (by omega)
        rwa [Int.zero_add] at h)
      have HBH : Hid (∀ W, Below W4.heap.size W4 W → Calls Tryz.prog 48 #[grV na nn nc, rfV j (-pv)] W fun e w' => ∃ a m c, e = .returned (.slice a m c) ∧ GRow 37 2 W.heap.size w' (.slice a m c) ((behE g (-pv)).map refCells) ∧ Below W.heap.size W w') := Lib.hid (fun W hW => behind_any ns na nn nc ⟨j, -pv⟩ g W (HNS.out W (below_seq HB4.out hW)) hg HG.out (by simp only; omega))
      obtain ⟨B, hB⟩ : ∃ B, behE g (-pv) = B := ⟨_, rfl⟩
      have HBD : Hid (∀ q ∈ B, q.n < ns.length ∧ -3000000 ≤ q.s ∧ q.s ≤ 3000000) := Lib.hid (fun q hq => by
        rw [← hB] at hq
        obtain ⟨h1, h2, h3⟩ := beh_bound HG.out hgm hq
        exact ⟨h1, by omega, by omega⟩)
      have HBL : Hid (B.length ≤ 1000) := Lib.hid (by rw [← hB]; exact beh_length HG.out hgm _)
      have HST : Hid (stN ns g = B.map (fun r => ⟨r.n, prR ns r⟩)) := Lib.hid (by rw [← hB, ← hpv]; rfl)
      rw [hB] at HBH
      have HGG := Lib.hid hg
      have HR4 := Lib.hid (HR.out.to hb4)
      have HE4 : Hid (∀ i g, i < j → ns[i]? = some g → ∃ u, vs[i]? = some u ∧ GRow 37 2 W1.heap.size W4 u ((stN ns g).map refCells)) := Lib.hid (fun i g h1 h2 => by obtain ⟨u, h3, h4⟩ := HE.out i g h1 h2; exact ⟨u, h3, h4.to hb4⟩)
      have HS4 := Lib.hid hs4
      clear hg hgm hB hpv hW4 hb4 x4 hs4 HR HE
      refine wp_region_held_drew (S := fun W => W.cell? ⟨w.heap.size, 0, none⟩ = some (.slice na nn nc) ∧ W.cell? ⟨wr.heap.size, 0, none⟩ = some (.int .i64 (j : Int)) ∧ W.cell? ⟨wr.heap.size, 1, none⟩ = some (.int .i64 0)) (by kernel_rfl) (HC4.out W4 (Below.refl _ _)) (fun hHeld => ?_)
      refine wpAnyH_take_l 0 (v := ?vb0) rfl rfl (by kernel_rfl) (by kernel_rfl) (by kernel_rfl) (fun _ _ _ h => h) ?hb0 (by assumption) ?rb0
      case hb0 => (intro w hSw; (try dsimp only at hSw); go_simp; try rfl)
      case' rb0 => simp only [setD, List.set_cons_succ, List.set_cons_zero]
      refine wpAnyH_take_l 1 (v := ?vb1) rfl rfl (by kernel_rfl) (by kernel_rfl) (by kernel_rfl) (fun _ _ _ h => h) ?hb1 (by assumption) ?rb1
      case hb1 => (intro w hSw; (try dsimp only at hSw); go_simp; try rfl)
      case' rb1 => simp only [setD, List.set_cons_succ, List.set_cons_zero]
      refine wpAnyH_take_l 2 (v := ?vb2) rfl rfl (by kernel_rfl) (by kernel_rfl) (by kernel_rfl) (fun _ _ _ h => h) ?hb2 (by assumption) ?rb2
      case hb2 => (intro w hSw; (try dsimp only at hSw); go_simp; try rfl)
      case' rb2 => simp only [setD, List.set_cons_succ, List.set_cons_zero]
      refine wpAnyH_take_l 3 (v := ?vb3) rfl rfl (by kernel_rfl) (by kernel_rfl) (by kernel_rfl) (fun _ _ _ h => h) ?hb3 (by assumption) ?rb3
      case hb3 => (intro w hSw; (try dsimp only at hSw); go_simp; try rfl)
      case' rb3 => simp only [setD, List.set_cons_succ, List.set_cons_zero]
      refine wpAnyH_one 4 rfl rfl (by kernel_rfl) (fun K hK => ?_)
      have hK2 := hK.out
      clear hK
      simp only [setD, List.set_cons_succ, List.set_cons_zero] at hK2 ⊢
      go_simp
      have hbd : Below W4.heap.size W4 W4.drew := (Below.refl _ _).drew
      refine (HPR.out _ hbd).mono ?_
      rintro en wa ⟨rfl, hba⟩
      dsimp only
      have hbwa : Below W4.heap.size W4 wa := below_seq hbd hba
      refine hK2 _ _ (HC4.out wa hbwa) (fun _ => ?_)
      clear hK2 K hbd hba
      refine wpAnyH_take_l 5 (v := ?vb5) rfl rfl (by kernel_rfl) (by kernel_rfl) (by kernel_rfl) (fun _ _ _ h => h) ?hb5 (by assumption) ?rb5
      case hb5 => (intro w hSw; (try dsimp only at hSw); go_simp; try rfl)
      case' rb5 => simp only [setD, List.set_cons_succ, List.set_cons_zero]
      refine wpAnyH_one 6 rfl rfl (by kernel_rfl) (fun K hK => ?_)
      have hK2 := hK.out
      clear hK
      simp only [setD, List.set_cons_succ, List.set_cons_zero] at hK2 ⊢
      go_simp
      refine (HRA.out _).mono ?_
      rintro en wb ⟨rfl, hbb⟩
      dsimp only
      have hbwb : Below W4.heap.size W4 wb := below_seq hbwa hbb
      refine hK2 _ _ (HC4.out wb hbwb) (fun _ => ?_)
      clear hK2 K hbb
      refine wpAnyH_one 7 rfl rfl (by kernel_rfl) (fun K hK => ?_)
      have hK2 := hK.out
      clear hK
      simp only [setD, List.set_cons_succ, List.set_cons_zero] at hK2 ⊢
      go_simp
      refine (HBH.out _ hbwb).mono ?_
      rintro en wc ⟨ba, bm, bc, rfl, hrb, hbc⟩
      dsimp only
      have hbwc : Below W4.heap.size W4 wc := below_seq hbwb hbc
      refine hK2 _ _ (HC4.out wc hbwc) (fun _ => ?_)
      clear hK2 K
      refine wpAnyH_take_l 8 (v := ?vb8) rfl rfl (by kernel_rfl) (by kernel_rfl) (by kernel_rfl) (fun _ _ _ h => h) ?hb8 (by assumption) ?rb8
      case hb8 => (intro w hSw; (try dsimp only at hSw); go_simp; try rfl)
      case' rb8 => simp only [setD, List.set_cons_succ, List.set_cons_zero]
      refine wpAnyH_done (by kernel_rfl) ?_ _
      clear hHeld
      have HRB : Hid (GRow 37 2 W4.heap.size wc (.slice ba bm bc) (B.map refCells)) := Lib.hid (hrb.mono hbwb.size)
      have HBC := Lib.hid hbwc
      have hbm : bm = B.length := by
        obtain ⟨_, _, _, e, e2, _⟩ := hrb.src
        simp only [Value.slice.injEq] at e
        rw [e.2.1, e2, List.length_map]
      have hbm1 : bm ≤ 1000 := by rw [hbm]; exact HBL.out
      have HBM := Lib.hid hbm
      clear hbwa hbwb hbwc hbc hrb hbm hwr hpb
      go_wp2_with fail
      go_loopw [27] (fun i wr2 => ∃ (k : Nat), i = .int .i64 k ∧ k ≤ bm ∧ Hid (GRow 37 2 W4.heap.size wr2 (.slice ba bm bc) (((B.take k).map (fun r => (⟨r.n, prR ns r⟩ : GRef)) ++ B.drop k).map refCells)) ∧ Hid (Below W4.heap.size W4 wr2)) (fun i _ => bm - (intOf i).toNat)
      case atStart => exact ⟨0, rfl, by omega, Lib.hid (by simpa using HRB.out), HBC⟩
      case round =>
        rename World => V
        obtain ⟨k, rfl, hk, HRK, HBK⟩ := hrel
        by_cases hkl : k < bm
        · obtain ⟨q, hq⟩ : ∃ q, B[k]? = some q := ⟨_, List.getElem?_eq_getElem (by rw [← HBM.out]; exact hkl)⟩
          obtain ⟨hq1, hq2⟩ := HBD.out q (List.mem_of_getElem? hq)
          obtain ⟨gq, hgq⟩ : ∃ gq, ns[q.n]? = some gq := ⟨_, List.getElem?_eq_getElem hq1⟩
          obtain ⟨gb, cap, e, hc0⟩ := HRK.out.cell (j := k) (i := 0) (e := refCells q) (u := .int .i64 (q.n : Int)) (at_step hq) rfl
          simp only [Value.slice.injEq] at e
          obtain ⟨rfl, -, rfl⟩ := e
          obtain ⟨_, _, e, hc1⟩ := HRK.out.cell (j := k) (i := 1) (e := refCells q) (u := .int .i64 q.s) (at_step hq) rfl
          simp only [Value.slice.injEq, Option.some.injEq, Addr.mk.injEq, and_true] at e
          obtain ⟨rfl, -, -⟩ := e
          have hgl := (HRK.out.lt gb rfl).2
          have a0 : V.cell? ⟨gb, k * 2, none⟩ = some (.int .i64 (q.n : Int)) := by simpa using hc0
          have hc1' : V.cell? ⟨gb, k * 2 + 1, none⟩ = some (.int .i64 q.s) := hc1
          go_upto_region 10 with fail
          obtain ⟨V5, hV5⟩ : ∃ V5, V.alloc (refO (.int .i64 (q.n : Int)) (.int .i64 q.s)) = V5 := ⟨_, rfl⟩
          have hb5 : Below V.heap.size V V5 := by rw [← hV5]; exact blkBelow V _ _
          have x5 : V5.heap[V.heap.size]? = some (refO (.int .i64 (q.n : Int)) (.int .i64 q.s)) := by rw [← hV5]; exact World.alloc_heap_new _ _
          rw [show V.alloc (.cells #[.int .i64 (q.n : Int), .int .i64 q.s] 37) = V5 from hV5]
          have hb45 : Below W4.heap.size W4 V5 := below_seq HBK.out hb5
          obtain ⟨g0, _, _⟩ := HC4.out V5 hb45
          obtain ⟨r0, r1, _, _⟩ := refO_cells x5
          have HPQ := Lib.hid (eprio_any ns na nn nc q.n q.s gq V5 (HNS.out V5 (below_seq HB4.out hb45)) hgq HG.out.len ((HG.out.sm gq (List.mem_of_getElem? hgq)).1) (by omega))
          obtain ⟨pq, hpq⟩ : ∃ pq, prE gq q.s = pq := ⟨_, rfl⟩
          rw [hpq] at HPQ
          have HPV : Hid (prR ns q = pq) := Lib.hid (by rw [prR_at hgq, hpq])
          have HB45 := Lib.hid hb45
          have HR5 := Lib.hid (HRK.out.to hb5)
          have HCG : Hid (∀ W, Below V5.heap.size V5 W → W.cell? ⟨gb, k * 2 + 1, none⟩ = some (.int .i64 q.s)) := Lib.hid (fun W hW => ((below_seq hb5 hW).cell (p := ⟨gb, _, none⟩) hgl).trans hc1')
          have HQ := Lib.hid hq
          clear hq hq1 hq2 hgq hc0 hc1 hc1' a0 hV5 hb5 x5 hb45 hpq hgl
          go_wp2_with (go_at_call 27; go_loud (refine HPQ.out.mono ?_; rintro en w9 ⟨rfl, hb9⟩; have d0 := HCG.out w9 hb9; have hr9 := HR5.out.to hb9; have d1 : w9.frozen? ⟨gb, k * 2 + 1, none⟩ = false := frozenOf hr9; have HB9 := Lib.hid hb9; have HR9 := Lib.hid hr9; clear hb9 hr9))
          go_roundw
          case rel =>
            refine ⟨k + 1, by go_num, by omega, Lib.hid ?_, Lib.hid ((below_seq HB45.out HB9.out).setCell (p := ⟨gb, k * 2 + 1, none⟩) (HRK.out.lt gb rfl).1 _)⟩
            have h := HR9.out.set (i := 1) (at_step HQ.out) (by decide) rfl (.int .i64 pq)
            have h2 := set_step (F := fun r => (⟨r.n, prR ns r⟩ : GRef)) HQ.out
            rw [← h2]
            simp only [HPV.out]
            exact h
          case measure => simp [intOf]; omega
        · obtain rfl : bm = k := by omega
          have HRV : Hid (GRow 37 2 W4.heap.size V (.slice ba bm bc) ((stN ns g).map refCells)) := Lib.hid (by
            have h := HRK.out
            rw [List.take_of_length_le (by rw [HBM.out]; exact Nat.le_refl _), List.drop_of_length_le (by rw [HBM.out]; exact Nat.le_refl _), List.append_nil] at h
            rw [HST.out]
            exact h)
          have HRT := Lib.hid (HR4.out.to HBK.out)
          have hjl : j ≤ 1000000 := by omega
          go_wp2_with (at_builtin; refine wpList_appG stepElem rfl _ _ rfl rfl (HRT.out.alloc _) (some ⟨V.heap.size, 0, none⟩) 1 1 [slC (.slice ba bm bc)] rfl rfl (by intro e' he'; rw [List.mem_singleton.1 he']; rfl) (src_new V (slC (.slice ba bm bc)) _) (fun e he u hu => by rw [List.mem_singleton.1 he] at hu; simp only [slC, List.mem_cons, List.not_mem_nil, or_false] at hu; subst hu; rfl) ?_ ?_ ?_)
          · have := HV.out
            simp only [List.length_map, List.length_singleton]; omega
          · have := HBK.out.size
            have := HB4.out.size
            simp; omega
          · intro ga gn gc w7 hrow hgrow _
            have hbv : Below W1.heap.size W1 V := below_seq HB4.out HBK.out
            have hb : Below W1.heap.size W1 w7 := (hbv.alloc hbv.size _).grown hgrow (by have := hbv.size; simp; omega) (fun k hk => (HRT.out.lt k hk).1)
            have hkeep : ∀ (x : Value) (es : List (List Value)) (bs : Nat), GRow 37 2 bs V x es → GRow 37 2 bs w7 x es := fun x es bs hx => hx.kept (fun b hbx => by
              have hl := (hx.lt b hbx).2
              refine (hgrow.block b (by rw [World.size_alloc]; omega) (fun e => ?_)).trans (Below.heap_alloc _ _ _ hl)
              obtain ⟨cs, hcs⟩ := hx.obj hbx
              obtain ⟨cs2, hcs2⟩ := HRT.out.obj e.symm
              rw [hcs] at hcs2
              simp only [Option.some.injEq, Obj.cells.injEq] at hcs2
              exact absurd hcs2.2.1 (by decide))
            have he7 : ∀ i g', i < j + 1 → ns[i]? = some g' → ∃ u, (vs ++ [Value.slice ba bm bc])[i]? = some u ∧ GRow 37 2 W1.heap.size w7 u ((stN ns g').map refCells) := fun i g' hi hg' => by
              by_cases hij : i < j
              · obtain ⟨u, h1, h2⟩ := HE4.out i g' hij hg'
                exact ⟨u, by rw [List.getElem?_append_left (by rw [HV.out]; exact hij)]; exact h1, hkeep _ _ _ (h2.to HBK.out)⟩
              · obtain rfl : i = j := by omega
                have hgg := Option.some.inj (HGG.out.symm.trans hg')
                subst hgg
                exact ⟨_, by rw [List.getElem?_append_right (by rw [HV.out]; exact Nat.le_refl _), HV.out, Nat.sub_self]; rfl, hkeep _ _ _ (HRV.out.mono HB4.out.size)⟩
            have HRN : Hid (GRow 33 1 W1.heap.size w7 (.slice ga gn gc) ((vs ++ [Value.slice ba bm bc]).map slC)) := Lib.hid (by rw [List.map_append]; exact hrow)
            have HBN := Lib.hid hb
            have HEN := Lib.hid he7
            clear hrow hb hgrow hkeep he7 hbv
            go_wp2_with fail
            go_roundw
            case rel => exact ⟨j + 1, _, _, _, vs ++ [Value.slice ba bm bc], by go_num, by omega, rfl, HRN, Lib.hid (by rw [List.length_append, HV.out]; rfl), HEN, HBN⟩
            case measure => simp [intOf]; omega
    · obtain rfl : nn = j := by omega
      have hfin : StSl wr W1.heap.size (.slice a m c) (ns.map (stN ns)) := ⟨vs, HR.out, by rw [HV.out, List.length_map, HLN.out], fun i l hl => by
        rw [List.getElem?_map] at hl
        obtain ⟨g, hg, rfl⟩ := Option.map_eq_some_iff.1 hl
        exact HE.out i g (by rw [HLN.out]; exact (List.getElem?_eq_some_iff.1 hg).1) hg⟩
      have HFI := Lib.hid hfin
      clear hfin
      go_wp2_with fail
      go_ret
      exact ⟨_, _, _, rfl, HFI.out.mono (by have := HS1.out; omega), below_seq HB1.out HB.out⟩
end Go.Proofs.YtjmnaibbljakaaaGreatDoor

/- Equality, walks: Offset. -/
namespace Go.Proofs.YtjmnaibbljakaaaGreatDoor
open Go.RowKit Go.Deep Go.Shelf

/-- The number by which x is raised. -/
def offE (ns : List GNode) (x y : GRef) : Int := prR ns y - prR ns x
/-- What Offset answers. -/
def OffRet (ns : List GNode) (x y : GRef) (e : Ending) : Prop := ∃ r, e = .returned (.tuple #[.int .i64 (if r = true then offE ns x y else 0), .bool r]) ∧ (r = true ↔ (lgN ns).Eqv false (upG x (offE ns x y)) y)
set_option maxHeartbeats 8000000 in
set_option maxRecDepth 100000 in
theorem offset_any (ns : List GNode) (na : Option Addr) (nn nc : Nat) (x y : GRef) (w : World) (hG : EqG ns) (hN : ns.length ≤ 10000) (hns : NodeSl (fun k => k < w.heap.size) w (.slice na nn nc) ns) (hx : x.n < ns.length) (hy : y.n < ns.length) (hxs : -1000000000 ≤ x.s ∧ x.s ≤ 1000000000) (hys : -1000000000 ≤ y.s ∧ y.s ≤ 1000000000) :
    Calls Tryz.prog 13 #[grV na nn nc, rfV x.n x.s, rfV y.n y.s] w fun e w' => OffRet ns x y e ∧ Below w.heap.size w w' := by
  obtain ⟨W3, hW3⟩ : ∃ W3, ((w.alloc (grO na nn nc)).alloc (refO (.int .i64 (x.n : Int)) (.int .i64 x.s))).alloc (refO (.int .i64 (y.n : Int)) (.int .i64 y.s)) = W3 := ⟨_, rfl⟩
  obtain ⟨hs3, hb3, x0, x1, x2⟩ := three_made hW3
  have HS : Hid (∀ W, Below W3.heap.size W3 W → (W.cell? ⟨w.heap.size, 0, none⟩ = some (.slice na nn nc)) ∧ (W.cell? ⟨w.heap.size + 1, 0, none⟩ = some (.int .i64 (x.n : Int)) ∧ W.cell? ⟨w.heap.size + 1, 1, none⟩ = some (.int .i64 x.s)) ∧ (W.cell? ⟨w.heap.size + 2, 0, none⟩ = some (.int .i64 (y.n : Int)) ∧ W.cell? ⟨w.heap.size + 2, 1, none⟩ = some (.int .i64 y.s))) := Lib.hid (fun W hW => by
    have h0 : W.heap[w.heap.size]? = some (grO na nn nc) := (hW.block _ (by omega)).trans x0
    have h1 := refO_cells ((hW.block (w.heap.size + 1) (by omega)).trans x1)
    have h2 := refO_cells ((hW.block (w.heap.size + 2) (by omega)).trans x2)
    exact ⟨by simp [World.cell?, h0], ⟨h1.1, h1.2.1⟩, ⟨h2.1, h2.2.1⟩⟩)
  have HNS : Hid (∀ W, Below W3.heap.size W3 W → NodeSl (fun k => k < W.heap.size) W (.slice na nn nc) ns) := Lib.hid (fun W hW => hns.to (below_seq hb3 hW))
  obtain ⟨gx, hgx⟩ : ∃ gx, ns[x.n]? = some gx := ⟨_, List.getElem?_eq_getElem hx⟩
  obtain ⟨gy, hgy⟩ : ∃ gy, ns[y.n]? = some gy := ⟨_, List.getElem?_eq_getElem hy⟩
  have hpx := (hG.sm gx (List.mem_of_getElem? hgx)).1
  have hpy := (hG.sm gy (List.mem_of_getElem? hgy)).1
  have HPX := Lib.hid (fun q : Later W3.heap.size W3 => eprio_any ns na nn nc x.n x.s gx q.1 (HNS.out q.1 q.2) hgx hG.len hpx (by omega))
  have HPY := Lib.hid (fun q : Later W3.heap.size W3 => eprio_any ns na nn nc y.n y.s gy q.1 (HNS.out q.1 q.2) hgy hG.len hpy (by omega))
  obtain ⟨px, hpxe⟩ : ∃ px, prE gx x.s = px := ⟨_, rfl⟩
  obtain ⟨py, hpye⟩ : ∃ py, prE gy y.s = py := ⟨_, rfl⟩
  have hbx : -1000000000 ≤ px ∧ px ≤ 1001000000 := by rw [← hpxe]; unfold prE; split <;> omega
  have hby : -1000000000 ≤ py ∧ py ≤ 1001000000 := by rw [← hpye]; unfold prE; split <;> omega
  have HOF : Hid (offE ns x y = py - px) := Lib.hid (by unfold offE; rw [prR_at hgx, prR_at hgy, hpxe, hpye])
  rw [hpxe] at HPX
  rw [hpye] at HPY
  have hwr : IntKind.i64.wrap (py - px) = py - px := by rw [IntKind.wrap_i64]; omega
  obtain ⟨k, hk⟩ : ∃ k, py - px = k := ⟨_, rfl⟩
  have HRA : Hid (∀ W, Calls Tryz.prog 30 #[rfV x.n x.s, .int .i64 k] W fun e w' => e = .returned (rfV x.n (x.s + k)) ∧ Below W.heap.size W w') := Lib.hid (fun W => hraise_any x.n x.s k W (by omega))
  have HEQ : Hid (∀ W, Below W3.heap.size W3 W → Calls Tryz.prog 11 #[grV na nn nc, rfV x.n (x.s + k), rfV y.n y.s] W fun e w' => CmpRet ns false ⟨x.n, x.s + k⟩ y e ∧ Below W.heap.size W w') := Lib.hid (fun W hW => equal_any ns na nn nc ⟨x.n, x.s + k⟩ y W hG hN (HNS.out W hW) ⟨hx, by simp only; omega, by simp only; omega⟩ ⟨hy, by omega, by omega⟩)
  have HKK : Hid (offE ns x y = k) := Lib.hid (by rw [HOF.out, hk])
  rw [hk] at hwr
  have HB3 := Lib.hid hb3
  have HW3 := Lib.hid hW3
  clear hG hN hns hx hy hxs hys hW3 hs3 hb3 x0 x1 x2 hgx hgy hpx hpy hpxe hpye hbx hby
  go_enter Tryz.func13, Tryz.ntmps13
  go_upto_region 1 with fail
  rw [show ((w.alloc (.cells #[.slice na nn nc] 32)).alloc (.cells #[.int .i64 (x.n : Int), .int .i64 x.s] 37)).alloc (.cells #[.int .i64 (y.n : Int), .int .i64 y.s] 37) = W3 from HW3.out]
  have f0 := fun q : Later W3.heap.size W3 => (HS.out q.1 q.2).1
  have f1 := fun q : Later W3.heap.size W3 => (HS.out q.1 q.2).2.1.1
  have f2 := fun q : Later W3.heap.size W3 => (HS.out q.1 q.2).2.1.2
  have f3 := fun q : Later W3.heap.size W3 => (HS.out q.1 q.2).2.2.1
  have f4 := fun q : Later W3.heap.size W3 => (HS.out q.1 q.2).2.2.2
  refine wp_region_later W3.heap.size W3 (by kernel_rfl) (by kernel_rfl) (Below.refl _ _) ?_
  repeat (go_big_quiet_step (first | (go_at_call 27; with_reducible exact later_call _ (Nat.le_refl _) (HPY.out _)) | (go_at_call 27; with_reducible exact later_call _ (Nat.le_refl _) (HPX.out _))))
  refine wpQuiet_nil ?_
  rintro w5 ⟨⟨_, hb5⟩, rfl⟩
  clear f0 f1 f2 f3 f4
  have HB5 := Lib.hid hb5
  clear hb5
  go_upto_region 2 with fail
  refine wp_region_held_drew (S := fun W => (W.cell? ⟨w.heap.size, 0, none⟩ = some (.slice na nn nc)) ∧ (W.cell? ⟨w.heap.size + 1, 0, none⟩ = some (.int .i64 (x.n : Int)) ∧ W.cell? ⟨w.heap.size + 1, 1, none⟩ = some (.int .i64 x.s)) ∧ (W.cell? ⟨w.heap.size + 2, 0, none⟩ = some (.int .i64 (y.n : Int)) ∧ W.cell? ⟨w.heap.size + 2, 1, none⟩ = some (.int .i64 y.s))) (by kernel_rfl) (HS.out w5 HB5.out) (fun hHeld => ?_)
  refine wpAnyH_take_l 0 (v := ?ve0) rfl rfl (by kernel_rfl) (by kernel_rfl) (by kernel_rfl) (fun _ _ _ h => h) ?he0 (by assumption) ?re0
  case he0 => (intro w hSw; (try dsimp only at hSw); go_simp; try rfl)
  case' re0 => simp only [setD, List.set_cons_succ, List.set_cons_zero]
  refine wpAnyH_take_l 1 (v := ?ve1) rfl rfl (by kernel_rfl) (by kernel_rfl) (by kernel_rfl) (fun _ _ _ h => h) ?he1 (by assumption) ?re1
  case he1 => (intro w hSw; (try dsimp only at hSw); go_simp; try rfl)
  case' re1 => simp only [setD, List.set_cons_succ, List.set_cons_zero]
  refine wpAnyH_take_l 2 (v := ?ve2) rfl rfl (by kernel_rfl) (by kernel_rfl) (by kernel_rfl) (fun _ _ _ h => h) ?he2 (by assumption) ?re2
  case he2 => (intro w hSw; (try dsimp only at hSw); go_simp; try rfl)
  case' re2 => simp only [setD, List.set_cons_succ, List.set_cons_zero]
  refine wpAnyH_take_l 4 (v := ?ve4) rfl rfl (by kernel_rfl) (by kernel_rfl) (by kernel_rfl) (fun _ _ _ h => h) ?he4 (by assumption) ?re4
  case he4 => (intro w hSw; (try dsimp only at hSw); go_simp; try rfl)
  case' re4 => simp only [setD, List.set_cons_succ, List.set_cons_zero]
  refine wpAnyH_one 3 rfl rfl (by kernel_rfl) (fun K hK => ?_)
  have hK2 := hK.out
  clear hK
  simp only [setD, List.set_cons_succ, List.set_cons_zero] at hK2 ⊢
  go_simp
  have hbd : Below W3.heap.size W3 w5.drew := HB5.out.drew
  refine (HRA.out _).mono ?_
  rintro en wa ⟨rfl, hba⟩
  dsimp only
  have hbwa : Below W3.heap.size W3 wa := below_seq hbd hba
  refine hK2 _ _ (HS.out wa hbwa) (fun _ => ?_)
  clear hK2 K hbd hba
  refine wpAnyH_one 5 rfl rfl (by kernel_rfl) (fun K hK => ?_)
  have hK2 := hK.out
  clear hK
  simp only [setD, List.set_cons_succ, List.set_cons_zero] at hK2 ⊢
  go_simp
  refine (HEQ.out _ hbwa).mono ?_
  rintro en wb ⟨⟨r, rfl, hr⟩, hbb⟩
  dsimp only
  have hbwb : Below W3.heap.size W3 wb := below_seq hbwa hbb
  refine hK2 _ _ (HS.out wb hbwb) (fun _ => ?_)
  clear hK2 K hbb hbwa
  refine wpAnyH_take_l 6 (v := ?ve6) rfl rfl (by kernel_rfl) (by kernel_rfl) (by kernel_rfl) (fun _ _ _ h => h) ?he6 (by assumption) ?re6
  case he6 => (intro w hSw; (try dsimp only at hSw); go_simp; try rfl)
  case' re6 => simp only [setD, List.set_cons_succ, List.set_cons_zero]
  refine wpAnyH_done (by kernel_rfl) ?_ _
  clear hHeld hk hwr
  have HR := Lib.hid hr
  have HBW := Lib.hid hbwb
  clear hr hbwb
  cases r
  · go_wp2_with fail
    go_ret2
    exact ⟨⟨false, rfl, by rw [HKK.out]; exact HR.out⟩, below_seq HB3.out HBW.out⟩
  · go_wp2_with fail
    go_ret2
    exact ⟨⟨true, by rw [HKK.out]; rfl, by rw [HKK.out]; exact ⟨fun _ => HR.out.1 (by trivial), fun _ => rfl⟩⟩, below_seq HB3.out HBW.out⟩
end Go.Proofs.YtjmnaibbljakaaaGreatDoor

/- Equality, laws: the law's send and loop. -/
namespace Go.Proofs.YtjmnaibbljakaaaGreatDoor
open Go.RowKit Go.Deep Go.Shelf

set_option maxHeartbeats 1000000 in
set_option maxRecDepth 100000 in
theorem send_any (B : Nat → Prop) (p : Int) (r : Ty) (v : Value) (w : World) (hB : Low B w) (h : TyVal B w v r) : Calls Tryz.prog 20 #[.int .i64 p, v] w (TyIn B w (sendT p r)) := by
  have h' := h
  obtain ⟨lv, kv, rfl, hn, hl, hk⟩ := h'
  obtain ⟨pa, len, c, rfl, _, _, _⟩ := hk.open
  obtain ⟨la, ln, lc, rfl, _, _, _⟩ := hl.open
  have HL := Lib.hid h
  clear h hl hk hn
  go_enter Tryz.func20, Tryz.ntmps20
  go_wp2_with fail
  obtain ⟨W1, hW1⟩ : ∃ W1, ((w.alloc (.cells #[.int .i64 r.k, .int .i64 r.p, .string r.n, .int .i64 r.s, .slice la ln lc, .slice pa len c] 25)).alloc (.cells #[.int .i64 4, .int .i64 p, .string ⟨#[]⟩, .int .i64 0, .slice none 0 0, .slice (some ⟨w.heap.size + 1 + 1, 0, none⟩) 2 2] 25)) = W1 := ⟨_, rfl⟩
  rw [hW1]
  have hs : w.heap.size + 1 + 1 = W1.heap.size := by rw [← hW1]; simp
  have hb1 : Below w.heap.size w W1 := by rw [← hW1]; exact box2_below w _ _
  have hr := send_rest (p := p) (hB.le hb1.size) (HL.out.to hB hb1)
  have hbx := below_seq hb1 (blkBelow W1 (send12 r.k r.p r.s r.n (.slice la ln lc) (.slice pa len c)) 25)
  have k1 : (W1.alloc (.cells (send12 r.k r.p r.s r.n (.slice la ln lc) (.slice pa len c)) 25)).heap[w.heap.size + 1]? = some (.cells #[.int .i64 4, .int .i64 p, .string ⟨#[]⟩, .int .i64 0, .slice none 0 0, .slice (some ⟨w.heap.size + 1 + 1, 0, none⟩) 2 2] 25 (0, 0)) := by
    refine (Below.heap_alloc _ _ _ (by omega)).trans ?_
    rw [← hW1]
    have h := World.alloc_heap_new (w.alloc (.cells #[.int .i64 r.k, .int .i64 r.p, .string r.n, .int .i64 r.s, .slice la ln lc, .slice pa len c] 25)) (.cells #[.int .i64 4, .int .i64 p, .string ⟨#[]⟩, .int .i64 0, .slice none 0 0, .slice (some ⟨w.heap.size + 1 + 1, 0, none⟩) 2 2] 25)
    rw [World.size_alloc] at h
    exact h
  have hs2 : W1.heap.size < (W1.alloc (.cells (send12 r.k r.p r.s r.n (.slice la ln lc) (.slice pa len c)) 25)).heap.size := by simp
  have hr2 : TyVal (fun k => B k ∨ Fresh w.heap.size (W1.alloc (.cells (send12 r.k r.p r.s r.n (.slice la ln lc) (.slice pa len c)) 25)).heap.size k) _ _ _ := hr.mono (fun k h => h.imp id (fun e => ⟨by omega, by rw [e]; exact hs2⟩))
  rw [hs] at k1 ⊢
  have c0 := cell_of k1 0
  have c1 := cell_of k1 1
  have c2 := cell_of k1 2
  have c3 := cell_of k1 3
  have c4 := cell_of k1 4
  have c5 := cell_of k1 5
  simp at c0 c1 c2 c3 c4 c5
  unfold send12 at *
  generalize W1.alloc _ = W2 at *
  exact bodyPost_ret (v := .agg #[.int .i64 4, .int .i64 p, .string ⟨#[]⟩, .int .i64 0, .slice none 0 0, .slice (some ⟨W1.heap.size, 0, none⟩) 2 2]) (by simp [results, Tryz.results20, go_sem, c0, c1, c2, c3, c4, c5]) rfl ⟨_, _, _, _, _, _, rfl, hr2, hbx⟩

set_option maxHeartbeats 1000000 in
set_option maxRecDepth 100000 in
theorem loop_any (p k : Int) (w : World) : Calls Tryz.prog 19 #[.int .i64 p, .int .i64 k] w (TyOut w (loopT p k)) := by
  have HS : Hid (∀ W, Calls Tryz.prog 20 #[.int .i64 p, .agg #[.int .i64 9, .int .i64 0, .string ⟨#[116]⟩, .int .i64 k, .slice none 0 0, .slice none 0 0]] W fun e w' => ∃ la ln lc ka kn kc, e = .returned (.agg #[.int .i64 4, .int .i64 p, .string ⟨#[]⟩, .int .i64 0, .slice la ln lc, .slice ka kn kc]) ∧
      TyVal (fun k => False ∨ Fresh W.heap.size w'.heap.size k) w' (.agg #[.int .i64 4, .int .i64 p, .string ⟨#[]⟩, .int .i64 0, .slice la ln lc, .slice ka kn kc]) (sendT p (varT k)) ∧ Below W.heap.size W w') := Lib.hid (fun W => send_any (fun _ => False) p (varT k) (.agg #[.int .i64 9, .int .i64 0, .string ⟨#[116]⟩, .int .i64 k, .slice none 0 0, .slice none 0 0]) W (fun _ h => h.elim) (val_leaf _ W 9 0 k tT (by decide)))
  go_enter Tryz.func19, Tryz.ntmps19
  go_wp2_with (go_at_call 20; refine (HS.out _).mono ?_; rintro e w2 ⟨la, ln, lc, ka, kn, kc, rfl, hv2, hb2⟩; obtain ⟨⟨d0, d1, d2, d3, d4, d5⟩, hf6⟩ := ((Six.new w (.int .i64 0) (.int .i64 0) (.string ⟨#[]⟩) (.int .i64 0) (.slice none 0 0) (.slice none 0 0)).to hb2).cells; have hq2 := alloc_lt hb2; replace hv2 := Lib.hid hv2)
  have h6 := ((Six.new w (.int .i64 0) (.int .i64 0) (.string ⟨#[]⟩) (.int .i64 0) (.slice none 0 0) (.slice none 0 0)).to hb2).fill (.int .i64 8) (.int .i64 0) (.string ⟨#[116]⟩) (.int .i64 0) (.slice none 0 0) (.slice (some ⟨w2.heap.size, 0, none⟩) 1 1)
  have hsz : (w2.setCells w.heap.size 0 [.int .i64 8, .int .i64 0, .string ⟨#[116]⟩, .int .i64 0, .slice none 0 0, .slice (some ⟨w2.heap.size, 0, none⟩) 1 1]).heap.size = w2.heap.size := size_setCells _ _ _ _
  have hv5 : TyVal (fun k => False ∨ Fresh (w.heap.size + 1) w2.heap.size k) (w2.setCells w.heap.size 0 [.int .i64 8, .int .i64 0, .string ⟨#[116]⟩, .int .i64 0, .slice none 0 0, .slice (some ⟨w2.heap.size, 0, none⟩) 1 1]) (.agg #[.int .i64 4, .int .i64 p, .string ⟨#[]⟩, .int .i64 0, .slice la ln lc, .slice ka kn kc]) (sendT p (varT k)) := by
    have h := hv2.out
    rw [World.size_alloc] at h
    refine h.keep (fun j o hj ho _ => (heap_setCells_other (g := w.heap.size) ?_ _ _ _).trans ho)
    rcases hj with hj | hj
    · exact hj.elim
    · have := hj.1; omega
  have hb5 : Below w.heap.size w (w2.setCells w.heap.size 0 [.int .i64 8, .int .i64 0, .string ⟨#[116]⟩, .int .i64 0, .slice none 0 0, .slice (some ⟨w2.heap.size, 0, none⟩) 1 1]) := (below_seq (blkBelow w _ _) hb2).trans (below_setCells _ (Nat.le_refl _) _ _ _)
  rw [setCells6] at hsz hv5 hb5
  simp only [Nat.zero_add] at hsz hv5 hb5
  generalize (((((w2.setCell _ _).setCell _ _).setCell _ _).setCell _ _).setCell _ _).setCell _ _ = W5 at *
  rw [← hsz] at h6 ⊢
  have hr := rec_val (k := 8) (p := 0) (s := 0) (u := sendT p (varT k)) (lv := .slice la ln lc) (kv := .slice ka kn kc) (n := tT) (by decide) (fun j hj => hj.elim (fun h => h.elim) (fun h => by rw [hsz]; exact h.2) : Low (fun k => False ∨ Fresh (w.heap.size + 1) w2.heap.size k) W5) hv5
  have k6 := h6.to (blkBelow W5 #[.int .i64 4, .int .i64 p, .string ⟨#[]⟩, .int .i64 0, .slice la ln lc, .slice ka kn kc] 25)
  have hbx := hb5.trans ((blkBelow W5 #[.int .i64 4, .int .i64 p, .string ⟨#[]⟩, .int .i64 0, .slice la ln lc, .slice ka kn kc] 25).mono hb5.size)
  obtain ⟨⟨c0, c1, c2, c3, c4, c5⟩, _⟩ := k6.cells
  have hlt : W5.heap.size < (W5.alloc (.cells #[.int .i64 4, .int .i64 p, .string ⟨#[]⟩, .int .i64 0, .slice la ln lc, .slice ka kn kc] 25)).heap.size := by simp
  have hl : Lies (W5.alloc (.cells #[.int .i64 4, .int .i64 p, .string ⟨#[]⟩, .int .i64 0, .slice la ln lc, .slice ka kn kc] 25)) (.agg #[.int .i64 8, .int .i64 0, .string ⟨#[116]⟩, .int .i64 0, .slice none 0 0, .slice (some ⟨W5.heap.size, 0, none⟩) 1 1]) (loopT p k) := hr.mono (fun j hj => by
    rcases hj with (hj | hj) | hj
    · exact hj.elim
    · have := hj.2; omega
    · omega)
  clear h6 hv5 hr k6 hb2 hv2 d0 d1 d2 d3 d4 d5 hf6
  generalize W5.alloc _ = W6 at *
  exact bodyPost_ret (v := .agg #[.int .i64 8, .int .i64 0, .string ⟨#[116]⟩, .int .i64 0, .slice none 0 0, .slice (some ⟨W5.heap.size, 0, none⟩) 1 1]) (by simp [results, Tryz.results19, go_sem, c0, c1, c2, c3, c4, c5]) rfl ⟨_, _, _, _, _, _, rfl, hl, hbx⟩

end Go.Proofs.YtjmnaibbljakaaaGreatDoor

/- Equality, walks: firsts: the index of the first equal element. -/
namespace Go.Proofs.YtjmnaibbljakaaaGreatDoor
open Go.RowKit Go.Deep Go.Shelf

abbrev encB (s : ByteArray) : Value := .string s
theorem beqB (a b : ByteArray) : (a == b) = decide (a = b) := by
  obtain ⟨x⟩ := a
  obtain ⟨y⟩ := b
  show (x == y) = _
  by_cases h : x = y
  · subst h; simp
  · simp [h]
theorem keyB : KeyT 9 encB where
  find := find_of_now Tryz.underlying9 (fun a b => congrArg some (beqB a b))
  check w em k := by
    rw [show (10000 : Nat) = 9999 + 1 from rfl, Instr.checkKey]
    simp [Sem.run_bind, run_underlying Tryz.underlying9, Sem.run_pure]
  bits k := by
    rw [show (10000 : Nat) = 9999 + 1 from rfl]
    simp [Instr.sameBits, beqB]
section
variable {κ : Type} [DecidableEq κ]
/-- The index of the first element that is k. -/
def fIdx (l : List κ) (k : κ) : Nat := l.findIdx (fun x => decide (x = k))
def fList (l : List κ) : List Nat := l.map (fIdx l)
theorem fIdx_new {l : List κ} {i : Nat} {k : κ} (hi : l[i]? = some k) (hn : k ∉ l.take i) : fIdx l k = i := by
  obtain ⟨hlt, he⟩ := List.getElem?_eq_some_iff.1 hi
  unfold fIdx
  rw [List.findIdx_eq hlt]
  refine ⟨by simp [he], fun j hj => ?_⟩
  simp only [decide_eq_false_iff_not]
  intro hc
  exact hn (by rw [List.mem_take_iff_getElem]; exact ⟨j, by omega, hc⟩)
theorem fIdx_lt {l : List κ} {k : κ} (h : k ∈ l) : fIdx l k < l.length := List.findIdx_lt_length_of_exists ⟨k, h, by simp⟩
theorem fIdx_at {l : List κ} {k : κ} (h : k ∈ l) : l[fIdx l k]? = some k := by
  have h1 := fIdx_lt h
  have h2 := List.findIdx_getElem (w := h1)
  rw [List.getElem?_eq_getElem h1]
  simp only [decide_eq_true_eq] at h2
  exact congrArg some h2
theorem fIdx_inj {l : List κ} {a b : κ} (ha : a ∈ l) (hb : b ∈ l) : fIdx l a = fIdx l b ↔ a = b := by
  constructor
  · intro h
    have h1 := fIdx_at ha
    have h2 := fIdx_at hb
    rw [h] at h1
    exact Option.some.inj (h1.symm.trans h2)
  · rintro rfl; rfl
/-- Where firsts stands. -/
def FSt (enc : κ → Value) (l : List κ) (w : World) (b i : Nat) : Prop := ∃ n F, AMap enc w b n F ∧ ∀ k, F k = if k ∈ l.take i then some (.int .i64 (fIdx l k : Int)) else none
theorem FSt.same {enc : κ → Value} {l : List κ} {w w' : World} {b i : Nat} (h : FSt enc l w b i) (hb : w'.heap[b]? = w.heap[b]?) : FSt enc l w' b i := by
  obtain ⟨n, F, h, hF⟩ := h; exact ⟨n, F, h.same hb, hF⟩
theorem FSt.lt {enc : κ → Value} {l : List κ} {w : World} {b i : Nat} (h : FSt enc l w b i) : b < w.heap.size := by obtain ⟨_, _, h, _⟩ := h; exact h.lt
theorem FSt.made (enc : κ → Value) (l : List κ) (w : World) : FSt enc l (w.alloc (.map #[] 0)) w.heap.size 0 := ⟨0, _, AMap.made w, fun k => by simp⟩
theorem FSt.seen {enc : κ → Value} {l : List κ} {w : World} {b i : Nat} {k : κ} (h : FSt enc l w b i) (hi : l[i]? = some k) (hk : k ∈ l.take i) : FSt enc l w b (i + 1) := by
  obtain ⟨n, F, h, hF⟩ := h
  refine ⟨n, F, h, fun q => ?_⟩
  rw [hF q, take_snoc_get hi]
  by_cases hq : q ∈ l.take i
  · rw [if_pos hq, if_pos (List.mem_append_left _ hq)]
  · rw [if_neg hq, if_neg (fun h => by
      rcases List.mem_append.1 h with h | h
      · exact hq h
      · rw [List.mem_singleton.1 h] at hq; exact hq hk)]
theorem FSt.look {enc : κ → Value} {kt t : TypeId} (H : KeyT kt enc) (ht : Tryz.prog.underlying t = some (.map kt 3)) {l : List κ} {w : World} {b i : Nat} (h : FSt enc l w b i) (k : κ) :
    (k ∈ l.take i → (Instr.lookup t (.map (some b)) (enc k) true).run Tryz.prog w = .ok (.tuple #[.int .i64 (fIdx l k : Int), .bool true]) w ∧ (Instr.lookup t (.map (some b)) (enc k) false).run Tryz.prog w = .ok (.int .i64 (fIdx l k : Int)) w) ∧
    (k ∉ l.take i → (Instr.lookup t (.map (some b)) (enc k) true).run Tryz.prog w = .ok (.tuple #[.int .i64 0, .bool false]) w) := by
  obtain ⟨n, F, h, hF⟩ := h
  refine ⟨fun hk => ?_, fun hk => ?_⟩
  · have e : F k = some (.int .i64 (fIdx l k : Int)) := by rw [hF k, if_pos hk]
    refine ⟨?_, ?_⟩
    · rw [h.look_ok H ht (zero_intE w) k true, e]; rfl
    · rw [h.look_ok H ht (zero_intE w) k false, e]; rfl
  · have e : F k = none := by rw [hF k, if_neg hk]
    rw [h.look_ok H ht (zero_intE w) k true, e]; rfl
theorem FSt.put {enc : κ → Value} {kt t : TypeId} (H : KeyT kt enc) (ht : Tryz.prog.underlying t = some (.map kt 3)) {l : List κ} {w : World} {b i : Nat} (h : FSt enc l w b i) {k : κ} (hi : l[i]? = some k) (hk : k ∉ l.take i) :
    ∃ w', (Instr.mapUpdate t (.map (some b)) (enc k) (.int .i64 (i : Int))).run Tryz.prog w = .ok () w' ∧ FSt enc l w' b (i + 1) ∧ w.grownBy w' (some b) := by
  obtain ⟨n, F, h, hF⟩ := h
  obtain ⟨w', hr, h', hg⟩ := h.put H ht k (.int .i64 (i : Int))
  refine ⟨w', hr, ⟨_, _, h', fun q => ?_⟩, hg⟩
  rw [take_snoc_get hi]
  by_cases hq : q = k
  · subst hq
    rw [if_pos rfl, if_pos (by simp), fIdx_new hi hk]
  · rw [if_neg hq, hF q]
    by_cases h2 : q ∈ l.take i
    · rw [if_pos h2, if_pos (List.mem_append_left _ h2)]
    · rw [if_neg h2, if_neg (fun h => by
        rcases List.mem_append.1 h with h | h
        · exact h2 h
        · exact hq (List.mem_singleton.1 h))]
end

set_option maxHeartbeats 4000000 in
set_option maxRecDepth 100000 in
theorem firstsS_any (ls : List ByteArray) (v : Value) (w : World) (hv : StrSl (fun k => k < w.heap.size) w v ls) (hl : ls.length ≤ 1000000) :
    Calls Tryz.prog 56 #[v] w fun e w' => ∃ a m c, e = .returned (.slice a m c) ∧ GRow 3 1 (w.heap.size + 1) w' (.slice a m c) ((fList ls).map natC) ∧ Below w.heap.size w w' := by
  obtain ⟨pa, len, c, rfl, hlen, hm, hget⟩ := hv.open
  have HG : Hid (∀ i s, ls[i]? = some s → ∃ kb ko, pa = some ⟨kb, ko, none⟩ ∧ kb < w.heap.size ∧ w.cell? ⟨kb, ko + i, none⟩ = some (.string s)) := Lib.hid (fun i s hi => (hget i s hi).2)
  have HLN := Lib.hid hlen.out
  have HLL : Hid (ls.length ≤ 1000000) := Lib.hid hl
  obtain ⟨W1, hW1⟩ : ∃ W1, w.alloc (.map #[] 0) = W1 := ⟨_, rfl⟩
  have hb1 : Below w.heap.size w W1 := by rw [← hW1]; exact (Below.refl _ _).alloc (Nat.le_refl _) _
  have hmk : (Instr.makeMap 126 none).run Tryz.prog w = .ok (.map (some w.heap.size)) W1 := by rw [run_makeMap, hW1]
  have HF1 : Hid (FSt encB ls W1 w.heap.size 0) := Lib.hid (by rw [← hW1]; exact FSt.made _ _ _)
  have HS1 : Hid (W1.heap.size = w.heap.size + 1) := Lib.hid (by rw [← hW1]; simp)
  have HB1 := Lib.hid hb1
  have hl1 : len ≤ 1000000 := by rw [hlen.out]; exact hl
  clear hv hget hlen hl hW1 hb1
  go_enter Tryz.func56, Tryz.ntmps56
  go_wp2_with fail
  clear hmk
  go_loopw [12, 4] (fun i v wr => ∃ (j : Nat) (a : Option Addr) (m c : Nat), i = .int .i64 j ∧ j ≤ len ∧ v = .slice a m c ∧ Hid (GRow 3 1 (w.heap.size + 1) wr (.slice a m c) (((ls.take j).map (fIdx ls)).map natC)) ∧ Hid (FSt encB ls wr w.heap.size j) ∧ Hid (Below w.heap.size w wr)) (fun i _ _ => len - (intOf i).toNat)
  case atStart => exact ⟨0, _, _, _, rfl, by omega, rfl, Lib.hid (GRow.nil _ _ _ _), HF1, HB1⟩
  case round =>
    obtain ⟨j, a, m, c, rfl, hj, rfl, HR, HF, HB⟩ := hrel
    by_cases hlt : j < len
    · obtain ⟨e, he⟩ : ∃ e, ls[j]? = some e := ⟨_, List.getElem?_eq_getElem (by rw [← HLN.out]; exact hlt)⟩
      have HTK : Hid (ls.take (j + 1) = ls.take j ++ [e]) := Lib.hid (take_snoc_get he)
      have HE := Lib.hid he
      obtain ⟨kb, ko, rfl, hkb, hc⟩ := HG.out j e he
      have e0 := (HB.out.cell (p := ⟨kb, ko + j, none⟩) hkb).trans hc
      by_cases hin : e ∈ ls.take j
      · have hf5 := HF.out.seen he hin
        obtain ⟨hlk1, hlk2⟩ := (HF.out.look keyB Tryz.underlying126 e).1 hin
        have HF5 := Lib.hid hf5
        have HR5 := HR
        have HB5 := HB
        clear he hin hc hf5
        go_upto_region 9 with fail
        go_wp2_with (at_builtin; refine wpList_appG intElem rfl _ _ rfl rfl (HR5.out.alloc _) (some ⟨wr.heap.size, 0, none⟩) 1 1 [natC (fIdx ls e)] rfl rfl (by intro e' he'; rw [List.mem_singleton.1 he']; rfl) (src_new wr (natC (fIdx ls e)) _) (fun e he u hu => by rw [List.mem_singleton.1 he] at hu; simp only [natC, List.mem_cons, List.not_mem_nil, or_false] at hu; subst hu; rfl) ?_ ?_ ?_)
        · have := HLL.out
          simp only [List.length_map, List.length_take, List.length_singleton]; omega
        · have := HB5.out.size
          have := HS1.out
          simp; omega
        · intro ga gn gc w7 hrow hgrow _
          have hb : Below w.heap.size w w7 := (HB5.out.alloc HB5.out.size _).grown hgrow (by have := HB5.out.size; simp; omega) (fun k hk => by have := (HR5.out.lt k hk).1; have := HS1.out; omega)
          have hf : FSt encB ls w7 w.heap.size (j + 1) := HF5.out.same ((hgrow.block _ (by rw [World.size_alloc]; have := HF5.out.lt; omega) (fun e => by have := (HR5.out.lt _ e.symm).1; have := HS1.out; omega)).trans (Below.heap_alloc _ _ _ HF5.out.lt))
          have HRN := Lib.hid hrow
          have HBN := Lib.hid hb
          have HFN := Lib.hid hf
          clear hrow hb hgrow hf
          go_wp2_with fail
          go_roundw
          case rel => exact ⟨j + 1, _, _, _, by go_num, by omega, rfl, Lib.hid (by have h := HRN.out; simp only [HTK.out, List.map_append, List.map_map, List.map_take, List.map_cons, List.map_nil]; exact h), HFN, HBN⟩
          case measure => simp [intOf]; omega

      · obtain hlk1 := (HF.out.look keyB Tryz.underlying126 e).2 hin
        obtain ⟨w5, hup, hf5, hg5⟩ := HF.out.put keyB Tryz.underlying126 he hin
        have hlk2 := ((hf5.look keyB Tryz.underlying126 e).1 (by rw [take_snoc_get he]; simp)).2
        have HF5 := Lib.hid hf5
        have HR5 : Hid (GRow 3 1 (w.heap.size + 1) w5 (.slice a m c) (((ls.take j).map (fIdx ls)).map natC)) := Lib.hid (HR.out.kept (fun k hk => hg5.block k (HR.out.lt k hk).2 (fun e => by have := (HR.out.lt k hk).1; have := Option.some.inj e; omega)))
        have HB5 : Hid (Below w.heap.size w w5) := Lib.hid (HB.out.grown hg5 HB.out.size (fun k e => by cases e; omega))
        clear he hin hc hf5 hg5
        go_upto_region 9 with fail
        go_wp2_with (at_builtin; refine wpList_appG intElem rfl _ _ rfl rfl (HR5.out.alloc _) (some ⟨w5.heap.size, 0, none⟩) 1 1 [natC (fIdx ls e)] rfl rfl (by intro e' he'; rw [List.mem_singleton.1 he']; rfl) (src_new w5 (natC (fIdx ls e)) _) (fun e he u hu => by rw [List.mem_singleton.1 he] at hu; simp only [natC, List.mem_cons, List.not_mem_nil, or_false] at hu; subst hu; rfl) ?_ ?_ ?_)
        · have := HLL.out
          simp only [List.length_map, List.length_take, List.length_singleton]; omega
        · have := HB5.out.size
          have := HS1.out
          simp; omega
        · intro ga gn gc w7 hrow hgrow _
          have hb : Below w.heap.size w w7 := (HB5.out.alloc HB5.out.size _).grown hgrow (by have := HB5.out.size; simp; omega) (fun k hk => by have := (HR5.out.lt k hk).1; have := HS1.out; omega)
          have hf : FSt encB ls w7 w.heap.size (j + 1) := HF5.out.same ((hgrow.block _ (by rw [World.size_alloc]; have := HF5.out.lt; omega) (fun e => by have := (HR5.out.lt _ e.symm).1; have := HS1.out; omega)).trans (Below.heap_alloc _ _ _ HF5.out.lt))
          have HRN := Lib.hid hrow
          have HBN := Lib.hid hb
          have HFN := Lib.hid hf
          clear hrow hb hgrow hf
          go_wp2_with fail
          go_roundw
          case rel => exact ⟨j + 1, _, _, _, by go_num, by omega, rfl, Lib.hid (by have h := HRN.out; simp only [HTK.out, List.map_append, List.map_map, List.map_take, List.map_cons, List.map_nil]; exact h), HFN, HBN⟩
          case measure => simp [intOf]; omega

    · obtain rfl : len = j := by omega
      have HRF : Hid (GRow 3 1 (w.heap.size + 1) wr (.slice a m c) ((fList ls).map natC)) := Lib.hid (by
        have h := HR.out
        rw [List.take_of_length_le (by rw [HLN.out]; exact Nat.le_refl _)] at h
        exact h)
      go_wp2_with fail
      go_ret
      exact ⟨_, _, _, rfl, HRF.out, HB.out⟩
end Go.Proofs.YtjmnaibbljakaaaGreatDoor

/- Equality, walks: firsts of pairs of numbers. -/
namespace Go.Proofs.YtjmnaibbljakaaaGreatDoor
open Go.RowKit Go.Deep Go.Shelf

abbrev p2C (p : Int × Int) : List Value := [.int .i64 p.1, .int .i64 p.2]
set_option maxHeartbeats 4000000 in
set_option maxRecDepth 100000 in
theorem firstsP_any (ls : List (Int × Int)) (v : Value) (base : Nat) (w : World) (hv : GRow 103 2 base w v (ls.map p2C)) (hl : ls.length ≤ 1000000) :
    Calls Tryz.prog 57 #[v] w fun e w' => ∃ a m c, e = .returned (.slice a m c) ∧ GRow 3 1 (w.heap.size + 1) w' (.slice a m c) ((fList ls).map natC) ∧ Below w.heap.size w w' := by
  obtain ⟨pa, len, c, rfl, hlen, _⟩ := hv.src
  rw [List.length_map] at hlen
  have HG : Hid (∀ i s, ls[i]? = some s → ∃ kb, pa = some ⟨kb, 0, none⟩ ∧ kb < w.heap.size ∧ w.cell? ⟨kb, i * 2, none⟩ = some (.int .i64 s.1) ∧ w.cell? ⟨kb, i * 2 + 1, none⟩ = some (.int .i64 s.2)) := Lib.hid (fun i s hi => by
    obtain ⟨g, cap, e, h0⟩ := hv.cell (j := i) (i := 0) (e := p2C s) (u := .int .i64 s.1) (by rw [List.getElem?_map, hi]; rfl) rfl
    obtain ⟨g', cap', e', h1⟩ := hv.cell (j := i) (i := 1) (e := p2C s) (u := .int .i64 s.2) (by rw [List.getElem?_map, hi]; rfl) rfl
    rw [e] at e'
    simp only [Value.slice.injEq, Option.some.injEq, Addr.mk.injEq, and_true] at e e'
    obtain ⟨rfl, -⟩ := e'
    obtain ⟨rfl, -⟩ := e
    exact ⟨g, rfl, (hv.lt g rfl).2, by simpa using h0, h1⟩)
  have HLN := Lib.hid hlen
  have HLL : Hid (ls.length ≤ 1000000) := Lib.hid hl
  obtain ⟨W1, hW1⟩ : ∃ W1, w.alloc (.map #[] 0) = W1 := ⟨_, rfl⟩
  have hb1 : Below w.heap.size w W1 := by rw [← hW1]; exact (Below.refl _ _).alloc (Nat.le_refl _) _
  have hmk : (Instr.makeMap 127 none).run Tryz.prog w = .ok (.map (some w.heap.size)) W1 := by rw [run_makeMap, hW1]
  have HF1 : Hid (FSt enc2 ls W1 w.heap.size 0) := Lib.hid (by rw [← hW1]; exact FSt.made _ _ _)
  have HS1 : Hid (W1.heap.size = w.heap.size + 1) := Lib.hid (by rw [← hW1]; simp)
  have HB1 := Lib.hid hb1
  have hl1 : len ≤ 1000000 := by rw [hlen]; exact hl
  clear hv hlen hl hW1 hb1
  go_enter Tryz.func57, Tryz.ntmps57
  go_wp2_with fail
  clear hmk
  go_loopw [12, 4] (fun i v wr => ∃ (j : Nat) (a : Option Addr) (m c : Nat), i = .int .i64 j ∧ j ≤ len ∧ v = .slice a m c ∧ Hid (GRow 3 1 (w.heap.size + 1) wr (.slice a m c) (((ls.take j).map (fIdx ls)).map natC)) ∧ Hid (FSt enc2 ls wr w.heap.size j) ∧ Hid (Below w.heap.size w wr)) (fun i _ _ => len - (intOf i).toNat)
  case atStart => exact ⟨0, _, _, _, rfl, by omega, rfl, Lib.hid (GRow.nil _ _ _ _), HF1, HB1⟩
  case round =>
    obtain ⟨j, a, m, c, rfl, hj, rfl, HR, HF, HB⟩ := hrel
    by_cases hlt : j < len
    · obtain ⟨e, he⟩ : ∃ e, ls[j]? = some e := ⟨_, List.getElem?_eq_getElem (by rw [← HLN.out]; exact hlt)⟩
      have HTK : Hid (ls.take (j + 1) = ls.take j ++ [e]) := Lib.hid (take_snoc_get he)
      have HE := Lib.hid he
      obtain ⟨kb, rfl, hkb, hc0, hc1⟩ := HG.out j e he
      have e0 := (HB.out.cell (p := ⟨kb, j * 2, none⟩) hkb).trans hc0
      have e1 := (HB.out.cell (p := ⟨kb, j * 2 + 1, none⟩) hkb).trans hc1
      clear he hc0 hc1
      obtain ⟨x, y⟩ := e
      simp only at e0 e1
      go_upto_region 6 with fail
      obtain ⟨W4, hW4⟩ : ∃ W4, wr.alloc (arO x y) = W4 := ⟨_, rfl⟩
      have hb4 : Below wr.heap.size wr W4 := by rw [← hW4]; exact blkBelow wr _ _
      have x4 : W4.heap[wr.heap.size]? = some (arO x y) := by rw [← hW4]; exact World.alloc_heap_new _ _
      rw [show wr.alloc (.cells #[.int .i64 x, .int .i64 y] 103) = W4 from hW4]
      have hf4 := HF.out.same (hb4.block _ HF.out.lt)
      have HR4 := Lib.hid (HR.out.to hb4)
      have HB4 : Hid (Below w.heap.size w W4) := Lib.hid (below_seq HB.out hb4)
      have HX4 := Lib.hid x4
      have HF4 := Lib.hid hf4
      clear hW4 hb4 x4 e0 e1
      obtain ⟨p0, p1, _, _⟩ := arO_cells HX4.out
      by_cases hin : (x, y) ∈ ls.take j
      · have hf5 := hf4.seen HE.out hin
        obtain ⟨hlk1, hlk2⟩ := (hf4.look key2 Tryz.underlying127 (x, y)).1 hin
        simp only [enc2] at hlk1 hlk2
        have HF5 := Lib.hid hf5
        have HR5 := HR4
        have HB5 := HB4
        clear hin hf5 hf4
        go_upto_region 9 with fail
        go_wp2_with (at_builtin; refine wpList_appG intElem rfl _ _ rfl rfl (HR5.out.alloc _) (some ⟨W4.heap.size, 0, none⟩) 1 1 [natC (fIdx ls (x, y))] rfl rfl (by intro e' he'; rw [List.mem_singleton.1 he']; rfl) (src_new W4 (natC (fIdx ls (x, y))) _) (fun e he u hu => by rw [List.mem_singleton.1 he] at hu; simp only [natC, List.mem_cons, List.not_mem_nil, or_false] at hu; subst hu; rfl) ?_ ?_ ?_)
        · have := HLL.out
          simp only [List.length_map, List.length_take, List.length_singleton]; omega
        · have := HB5.out.size
          have := HS1.out
          simp; omega
        · intro ga gn gc w7 hrow hgrow _
          have hb : Below w.heap.size w w7 := (HB5.out.alloc HB5.out.size _).grown hgrow (by have := HB5.out.size; simp; omega) (fun k hk => by have := (HR5.out.lt k hk).1; have := HS1.out; omega)
          have hf : FSt enc2 ls w7 w.heap.size (j + 1) := HF5.out.same ((hgrow.block _ (by rw [World.size_alloc]; have := HF5.out.lt; omega) (fun e => by have := (HR5.out.lt _ e.symm).1; have := HS1.out; omega)).trans (Below.heap_alloc _ _ _ HF5.out.lt))
          have HRN := Lib.hid hrow
          have HBN := Lib.hid hb
          have HFN := Lib.hid hf
          clear hrow hb hgrow hf
          go_wp2_with fail
          go_roundw
          case rel => exact ⟨j + 1, _, _, _, by go_num, by omega, rfl, Lib.hid (by have h := HRN.out; simp only [HTK.out, List.map_append, List.map_map, List.map_take, List.map_cons, List.map_nil]; exact h), HFN, HBN⟩
          case measure => simp [intOf]; omega

      · obtain hlk1 := (hf4.look key2 Tryz.underlying127 (x, y)).2 hin
        obtain ⟨w5, hup, hf5, hg5⟩ := hf4.put key2 Tryz.underlying127 HE.out hin
        have hlk2 := ((hf5.look key2 Tryz.underlying127 (x, y)).1 (by rw [HTK.out]; simp)).2
        simp only [enc2] at hlk1 hlk2 hup
        have HF5 := Lib.hid hf5
        have HR5 : Hid (GRow 3 1 (w.heap.size + 1) w5 (.slice a m c) (((ls.take j).map (fIdx ls)).map natC)) := Lib.hid (HR4.out.kept (fun k hk => hg5.block k (HR4.out.lt k hk).2 (fun e => by have := (HR4.out.lt k hk).1; have := Option.some.inj e; omega)))
        have HB5 : Hid (Below w.heap.size w w5) := Lib.hid (HB4.out.grown hg5 HB4.out.size (fun k e => by cases e; omega))
        have HX5 : Hid (w5.heap[wr.heap.size]? = some (arO x y)) := Lib.hid ((hg5.block _ (Array.getElem?_eq_some_iff.1 HX4.out).1 (fun e => by have := Option.some.inj e; have := HF.out.lt; omega)).trans HX4.out)
        clear hin hf5 hg5 hf4
        go_upto_region 9 with fail
        clear p0 p1
        obtain ⟨p0, p1, _, _⟩ := arO_cells HX5.out
        go_wp2_with (at_builtin; refine wpList_appG intElem rfl _ _ rfl rfl (HR5.out.alloc _) (some ⟨w5.heap.size, 0, none⟩) 1 1 [natC (fIdx ls (x, y))] rfl rfl (by intro e' he'; rw [List.mem_singleton.1 he']; rfl) (src_new w5 (natC (fIdx ls (x, y))) _) (fun e he u hu => by rw [List.mem_singleton.1 he] at hu; simp only [natC, List.mem_cons, List.not_mem_nil, or_false] at hu; subst hu; rfl) ?_ ?_ ?_)
        · have := HLL.out
          simp only [List.length_map, List.length_take, List.length_singleton]; omega
        · have := HB5.out.size
          have := HS1.out
          simp; omega
        · intro ga gn gc w7 hrow hgrow _
          have hb : Below w.heap.size w w7 := (HB5.out.alloc HB5.out.size _).grown hgrow (by have := HB5.out.size; simp; omega) (fun k hk => by have := (HR5.out.lt k hk).1; have := HS1.out; omega)
          have hf : FSt enc2 ls w7 w.heap.size (j + 1) := HF5.out.same ((hgrow.block _ (by rw [World.size_alloc]; have := HF5.out.lt; omega) (fun e => by have := (HR5.out.lt _ e.symm).1; have := HS1.out; omega)).trans (Below.heap_alloc _ _ _ HF5.out.lt))
          have HRN := Lib.hid hrow
          have HBN := Lib.hid hb
          have HFN := Lib.hid hf
          clear hrow hb hgrow hf
          go_wp2_with fail
          go_roundw
          case rel => exact ⟨j + 1, _, _, _, by go_num, by omega, rfl, Lib.hid (by have h := HRN.out; simp only [HTK.out, List.map_append, List.map_map, List.map_take, List.map_cons, List.map_nil]; exact h), HFN, HBN⟩
          case measure => simp [intOf]; omega

    · obtain rfl : len = j := by omega
      have HRF : Hid (GRow 3 1 (w.heap.size + 1) wr (.slice a m c) ((fList ls).map natC)) := Lib.hid (by
        have h := HR.out
        rw [List.take_of_length_le (by rw [HLN.out]; exact Nat.le_refl _)] at h
        exact h)
      go_wp2_with fail
      go_ret
      exact ⟨_, _, _, rfl, HRF.out, HB.out⟩
end Go.Proofs.YtjmnaibbljakaaaGreatDoor

/- Equality: lists of steps get equal numbers exactly if they are equal (mathematics); the map of the numbers. -/
namespace Go.Proofs.YtjmnaibbljakaaaGreatDoor
open Go.RowKit Go.Deep Go.Shelf

abbrev K3 := Int × Int × Int
structure Tri (F : K3 → Option Nat) (n : Nat) : Prop where
  inj : ∀ k k' m, F k = some m → F k' = some m → k = k'
  rng : ∀ k m, F k = some m → 1 ≤ m ∧ m ≤ n
def walkT (F : K3 → Option Nat) : Nat → List (Int × Int) → Option Nat
  | a, [] => some a
  | a, x :: r => (F ((a : Int), x.1, x.2)).bind (fun m => walkT F m r)
def ExtT (F F' : K3 → Option Nat) : Prop := ∀ k m, F k = some m → F' k = some m
theorem ExtT.refl (F : K3 → Option Nat) : ExtT F F := fun _ _ h => h
theorem ExtT.trans {F F' F'' : K3 → Option Nat} (h : ExtT F F') (k : ExtT F' F'') : ExtT F F'' := fun a m e => k a m (h a m e)
theorem walk_ext {F F' : K3 → Option Nat} (h : ExtT F F') : ∀ (l : List (Int × Int)) (a m : Nat), walkT F a l = some m → walkT F' a l = some m
  | [], _, _, e => e
  | x :: r, a, m, e => by
    rw [walkT] at e ⊢
    obtain ⟨q, h1, h2⟩ := Option.bind_eq_some_iff.1 e
    rw [h _ _ h1]
    exact walk_ext h r q m h2
theorem walk_snoc (F : K3 → Option Nat) (x : Int × Int) : ∀ (l : List (Int × Int)) (a : Nat), walkT F a (l ++ [x]) = (walkT F a l).bind (fun m => F ((m : Int), x.1, x.2))
  | [], a => by
    simp only [List.nil_append, walkT]
    cases h : F ((a : Int), x.1, x.2) <;> simp [h]
  | y :: r, a => by
    rw [List.cons_append, walkT, walkT]
    cases F ((a : Int), y.1, y.2) with
    | none => rfl
    | some m => exact walk_snoc F x r m
theorem walk_inj {F : K3 → Option Nat} {n : Nat} (h : Tri F n) : ∀ (k : Nat) (p q : List (Int × Int)) (a : Nat), p.length = k → walkT F 0 p = some a → walkT F 0 q = some a → p = q := by
  intro k
  induction k with
  | zero =>
    intro p q a hp h1 h2
    obtain rfl := List.eq_nil_of_length_eq_zero hp
    have ha : (0 : Nat) = a := Option.some.inj h1
    subst ha
    rcases List.eq_nil_or_concat q with rfl | ⟨q', y, rfl⟩
    · rfl
    · simp only [List.concat_eq_append] at h2
      rw [walk_snoc] at h2
      obtain ⟨m, _, h3⟩ := Option.bind_eq_some_iff.1 h2
      have := (h.rng _ _ h3).1
      omega
  | succ k ih =>
    intro p q a hp h1 h2
    rcases List.eq_nil_or_concat p with rfl | ⟨p', x, rfl⟩
    · simp at hp
    · simp only [List.concat_eq_append] at hp h1 ⊢
      rw [walk_snoc] at h1
      obtain ⟨m, h3, h4⟩ := Option.bind_eq_some_iff.1 h1
      have hpl : p'.length = k := by simpa using hp
      rcases List.eq_nil_or_concat q with rfl | ⟨q', y, rfl⟩
      · have ha : (0 : Nat) = a := Option.some.inj h2
        have := (h.rng _ _ h4).1
        omega
      · simp only [List.concat_eq_append] at h2 ⊢
        rw [walk_snoc] at h2
        obtain ⟨m', h5, h6⟩ := Option.bind_eq_some_iff.1 h2
        have e := h.inj _ _ _ h4 h6
        simp only [Prod.mk.injEq] at e
        obtain ⟨e1, e2, e3⟩ := e
        obtain rfl : m = m' := by omega
        have := ih p' q' m hpl h3 h5
        rw [this]
        obtain ⟨x1, x2⟩ := x
        obtain ⟨y1, y2⟩ := y
        simp only at e2 e3
        rw [e2, e3]
def putT (F : K3 → Option Nat) (k : K3) (m : Nat) : K3 → Option Nat := fun q => if q = k then some m else F q
theorem Tri.put {F : K3 → Option Nat} {n : Nat} (h : Tri F n) {k : K3} (hk : F k = none) : Tri (putT F k (n + 1)) (n + 1) ∧ ExtT F (putT F k (n + 1)) := by
  refine ⟨⟨fun a b m ha hb => ?_, fun a m ha => ?_⟩, fun a m ha => ?_⟩
  · unfold putT at ha hb
    split at ha
    · next e =>
      split at hb
      · next e' => rw [e, e']
      · have := (h.rng _ _ hb).2
        have := Option.some.inj ha
        omega
    · split at hb
      · have := (h.rng _ _ ha).2
        have := Option.some.inj hb
        omega
      · exact h.inj _ _ _ ha hb
  · unfold putT at ha
    split at ha
    · have := Option.some.inj ha; omega
    · have := h.rng _ _ ha; omega
  · unfold putT
    rw [if_neg (fun e => by rw [e, hk] at ha; cases ha)]
    exact ha
theorem Tri.start : Tri (fun _ => none) 0 := ⟨fun _ _ _ h => (by cases h), fun _ _ h => (by cases h)⟩

/-- Block b is the map of the numbers. -/
def TrIs (w : World) (b n : Nat) (F : K3 → Option Nat) : Prop := ∃ Fv, AMap enc3 w b n Fv ∧ ∀ k, Fv k = (F k).map (fun m : Nat => Value.int .i64 (m : Int))
theorem TrIs.lt {w : World} {b n : Nat} {F : K3 → Option Nat} (h : TrIs w b n F) : b < w.heap.size := by obtain ⟨_, h, _⟩ := h; exact h.lt
theorem TrIs.same {w w' : World} {b n : Nat} {F : K3 → Option Nat} (h : TrIs w b n F) (hb : w'.heap[b]? = w.heap[b]?) : TrIs w' b n F := by
  obtain ⟨Fv, h, hF⟩ := h; exact ⟨Fv, h.same hb, hF⟩
theorem TrIs.made (w : World) : TrIs (w.alloc (.map #[] 0)) w.heap.size 0 (fun _ => none) := ⟨_, AMap.made w, fun _ => rfl⟩
theorem TrIs.look {w : World} {b n : Nat} {F : K3 → Option Nat} (h : TrIs w b n F) (x y z : Int) :
    (Instr.lookup 100 (.map (some b)) (.agg #[.int .i64 x, .int .i64 y, .int .i64 z]) false).run Tryz.prog w = .ok (.int .i64 (((F (x, y, z)).getD 0 : Nat) : Int)) w := by
  obtain ⟨Fv, h, hF⟩ := h
  have := h.look_ok key3 Tryz.underlying100 (zero_intE w) (x, y, z) false
  rw [hF] at this
  rw [this]
  cases F (x, y, z) <;> rfl
theorem TrIs.put {w : World} {b n : Nat} {F : K3 → Option Nat} (h : TrIs w b n F) (x y z : Int) (hk : F (x, y, z) = none) (m : Nat) :
    ∃ w', (Instr.mapUpdate 100 (.map (some b)) (.agg #[.int .i64 x, .int .i64 y, .int .i64 z]) (.int .i64 (m : Int))).run Tryz.prog w = .ok () w' ∧ TrIs w' b (n + 1) (putT F (x, y, z) m) ∧ w.grownBy w' (some b) := by
  obtain ⟨Fv, h, hF⟩ := h
  obtain ⟨w', hr, h', hg⟩ := h.put key3 Tryz.underlying100 (x, y, z) (.int .i64 (m : Int))
  rw [hF, hk] at h'
  refine ⟨w', hr, ⟨_, h', fun q => ?_⟩, hg⟩
  unfold putT
  by_cases hq : q = (x, y, z)
  · simp only [if_pos hq]; rfl
  · simp only [if_neg hq]; exact hF q
theorem TrIs.len {w : World} {b n : Nat} {F : K3 → Option Nat} (h : TrIs w b n F) (ty : TypeId) : (Builtin.len_ #[100] ty #[.map (some b)]).run Tryz.prog w = .ok (.int .i64 (n : Int)) w := by
  obtain ⟨Fv, ⟨es, c, h1, h2, _⟩, _⟩ := h
  have hg : (getObj b).run Tryz.prog w = .ok (.map (es.map (entA enc3)).toArray c) w := by simp [getObj, Sem.run, h1]
  unfold Builtin.len_
  simp [Sem.run_bind, run_underlying Tryz.underlying100, hg, Sem.run_pure, goInt, h2]
/-- Elements that are equal in pairs have equal lists of first indices. -/
theorem fList_congr {κ μ : Type} [DecidableEq κ] [DecidableEq μ] {l : List κ} {m : List μ} (hl : l.length = m.length) (h : ∀ (i j : Nat) (a b : κ) (c d : μ), l[i]? = some a → l[j]? = some b → m[i]? = some c → m[j]? = some d → (a = b ↔ c = d)) : fList l = fList m := by
  apply List.ext_getElem (by simp [fList, hl])
  intro i h1 h2
  simp only [fList, List.getElem_map]
  have hi : i < l.length := by simpa [fList] using h1
  have hi2 : i < m.length := by omega
  have ha : l[i]? = some l[i] := List.getElem?_eq_getElem hi
  have hc : m[i]? = some m[i] := List.getElem?_eq_getElem hi2
  have hm : l[i] ∈ l := List.getElem_mem hi
  have hm2 : m[i] ∈ m := List.getElem_mem hi2
  have e1 := fIdx_at hm
  have e2 := fIdx_at hm2
  -- the first index of each is no greater than that of the other
  have le1 : ∀ j, l[j]? = some l[i] → fIdx l l[i] ≤ j := fun j hj => by
    refine Classical.byContradiction fun hgt => ?_
    have := List.not_of_lt_findIdx (p := fun x => decide (x = l[i])) (xs := l) (i := j) (by unfold fIdx at hgt; omega)
    obtain ⟨hjl, hje⟩ := List.getElem?_eq_some_iff.1 hj
    simp [hje] at this
  have le2 : ∀ j, m[j]? = some m[i] → fIdx m m[i] ≤ j := fun j hj => by
    refine Classical.byContradiction fun hgt => ?_
    have := List.not_of_lt_findIdx (p := fun x => decide (x = m[i])) (xs := m) (i := j) (by unfold fIdx at hgt; omega)
    obtain ⟨hjl, hje⟩ := List.getElem?_eq_some_iff.1 hj
    simp [hje] at this
  have hlt1 := fIdx_lt hm
  have hlt2 := fIdx_lt hm2
  obtain ⟨c, hcc⟩ : ∃ c, m[fIdx l l[i]]? = some c := ⟨m[fIdx l l[i]]'(by omega), List.getElem?_eq_getElem (by omega)⟩
  obtain ⟨a, haa⟩ : ∃ a, l[fIdx m m[i]]? = some a := ⟨l[fIdx m m[i]]'(by omega), List.getElem?_eq_getElem (by omega)⟩
  have g1 := (h _ _ _ _ _ _ e1 ha hcc hc).1 rfl
  have g2 := (h _ _ _ _ _ _ haa ha e2 hc).2 rfl
  subst g1 g2
  exact Nat.le_antisymm (le1 _ haa) (le2 _ hcc)
end Go.Proofs.YtjmnaibbljakaaaGreatDoor
