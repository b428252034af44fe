/- Duals: the fixed example of the law comes out right. (and what follows from it) -/
import Derived.Test.YtkjngbliomckiaaPu11

/- Duals: the fixed example of the law comes out right. -/
namespace Go.Proofs.Ytkjngbliomckiaa
open Go.RowKit Go.Deep Go.Shelf

/-- A drawn region: a call whose result, a reference, is stored into a new box. -/
structure OC (V : World) (o0 o1 : Value) (ic ia is : Nat) (L : Nat → Bool) (vals : Nat → Value) (w : World) : Prop where
  dn : L is = true → L ic = true ∧ L ia = true
  out : Below V.heap.size V w
  vc : L ic = true → vals ic = .agg #[o0, o1]
  va : L ia = true → L is = false → ∃ X, vals ia = .pointer (some ⟨X, 0, none⟩) ∧ V.heap.size ≤ X ∧ w.heap[X]? = some (refO (.int .i64 0) (.int .i64 0))
  vs : L is = true → ∃ X, vals ia = .pointer (some ⟨X, 0, none⟩) ∧ V.heap.size ≤ X ∧ w.heap[X]? = some (refO o0 o1)

abbrev zInt : Ty := .mk 1 0 ⟨#[]⟩ 0 [] []
abbrev zEnd : Ty := .mk 3 0 ⟨#[]⟩ 0 [] []
abbrev zVar : Ty := .mk 9 0 ⟨#[116]⟩ 1 [] []
abbrev zRecv : Ty := .mk 5 1 ⟨#[]⟩ 0 [] [zInt, zEnd]
abbrev zSend : Ty := .mk 4 3 ⟨#[]⟩ 0 [] [zRecv, zVar]
abbrev zRec : Ty := .mk 8 0 ⟨#[116]⟩ 0 [] [zSend]
abbrev zTs : List Ty := [zRec]
abbrev zNs : List GNode := [⟨4, 3, [], [⟨1, 0⟩, ⟨0, 1⟩]⟩, ⟨5, 1, [], [⟨2, 0⟩, ⟨3, 0⟩]⟩, ⟨1, 0, [], []⟩, ⟨3, 0, [], []⟩]
abbrev zRs : List GRef := [⟨0, 0⟩]
theorem zNodes : gNodes zTs = zNs := by
  simp [gNodes, Ty.pnods, Ty.pnod, Ty.pnod1, Ty.prefs, Ty.pref, upE, Ty.gcnt, Ty.gcnts]
theorem zRefs : gRefs zTs = zRs := by
  simp [gRefs, Ty.prefs, Ty.pref, Ty.pref1]
theorem zOk : Ty.okgs zTs := by simp [Ty.okgs, Ty.okg]
theorem zRight : ∀ t ∈ zTs, nodeR [] 0 false t = 0 := by
  intro t ht
  simp only [List.mem_cons, List.not_mem_nil, or_false] at ht
  rcases ht with rfl <;> decide +kernel
theorem zWf : wfG zNs := by rw [← zNodes]; exact hwf_all zRight zOk
theorem zClose : (closeG zNs)[4]? = some ⟨5, 3, [], [⟨1, 0⟩, ⟨4, 1⟩]⟩ := by rfl

abbrev z1 : List Value := [.int .i64 1, .int .i64 0, .string ⟨#[]⟩, .int .i64 0, .slice none 0 0, .slice none 0 0]
abbrev z3 : List Value := [.int .i64 3, .int .i64 0, .string ⟨#[]⟩, .int .i64 0, .slice none 0 0, .slice none 0 0]
abbrev z9 : List Value := [.int .i64 9, .int .i64 0, .string ⟨#[116]⟩, .int .i64 1, .slice none 0 0, .slice none 0 0]
abbrev z5 (b : Nat) : List Value := [.int .i64 5, .int .i64 1, .string ⟨#[]⟩, .int .i64 0, .slice none 0 0, .slice (some ⟨b, 0, none⟩) 2 2]
abbrev z4 (b : Nat) : List Value := [.int .i64 4, .int .i64 3, .string ⟨#[]⟩, .int .i64 0, .slice none 0 0, .slice (some ⟨b, 0, none⟩) 2 2]
abbrev z8 (b : Nat) : List Value := [.int .i64 8, .int .i64 0, .string ⟨#[116]⟩, .int .i64 0, .slice none 0 0, .slice (some ⟨b, 0, none⟩) 1 1]
theorem znilStr (B : Nat → Prop) (W : World) : StrSl B W (.slice none 0 0) [] := ⟨.inl ⟨⟨_, _, rfl⟩, rfl⟩, by simp [maxLen], fun s hs => by cases hs⟩
theorem znilTys (B : Nat → Prop) (W : World) : TySl B W (.slice none 0 0) [] := ⟨.inl ⟨⟨_, _, rfl⟩, rfl⟩, by simp [maxLen]⟩
theorem z_ts {B : Nat → Prop} {W : World} {b0 b2 b3 b5 : Nat} {T : TypeId} {f0 f2 f3 f5 : Nat × Nat} (h0 : W.heap[b0]? = some (.cells (z1 ++ z3).toArray T f0)) (h2 : W.heap[b2]? = some (.cells (z5 b0 ++ z9).toArray T f2)) (h3 : W.heap[b3]? = some (.cells (z4 b2).toArray T f3)) (h5 : W.heap[b5]? = some (.cells (z8 b3).toArray T f5)) (k0 : B b0) (k2 : B b2) (k3 : B b3) (k5 : B b5) :
    TySl B W (.slice (some ⟨b5, 0, none⟩) 1 1) zTs := by
  have cell : ∀ {b : Nat} {l : List Value} {f : Nat × Nat}, W.heap[b]? = some (.cells l.toArray T f) → ∀ i u, l[i]? = some u → W.cell? ⟨b, i, none⟩ = some u := by
    intro b l f h i u hi
    simp only [World.cell?, h]
    simpa using hi
  have a1 : TyAt B W zInt b0 0 := tyAt_of (v5 := .slice none 0 0) (v6 := .slice none 0 0) k0 (cell h0 0 _ rfl) (cell h0 1 _ rfl) (cell h0 2 _ rfl) (cell h0 3 _ rfl) (cell h0 4 _ rfl) (cell h0 5 _ rfl) ⟨_, _, rfl, by decide, znilStr _ _, znilTys _ _⟩
  have a3 : TyAt B W zEnd b0 (0 + 6) := tyAt_of (v5 := .slice none 0 0) (v6 := .slice none 0 0) k0 (cell h0 6 _ rfl) (cell h0 7 _ rfl) (cell h0 8 _ rfl) (cell h0 9 _ rfl) (cell h0 10 _ rfl) (cell h0 11 _ rfl) ⟨_, _, rfl, by decide, znilStr _ _, znilTys _ _⟩
  have t2 : TySl B W (.slice (some ⟨b0, 0, none⟩) 2 2) [zInt, zEnd] := ⟨.inr ⟨b0, 0, 2, rfl, k0, by simp only [TysAt]; exact ⟨a1, a3, trivial⟩⟩, by simp [maxLen]⟩
  have a5 : TyAt B W zRecv b2 0 := tyAt_of (v5 := .slice none 0 0) (v6 := .slice (some ⟨b0, 0, none⟩) 2 2) k2 (cell h2 0 _ rfl) (cell h2 1 _ rfl) (cell h2 2 _ rfl) (cell h2 3 _ rfl) (cell h2 4 _ rfl) (cell h2 5 _ rfl) ⟨_, _, rfl, by decide, znilStr _ _, t2⟩
  have a9 : TyAt B W zVar b2 (0 + 6) := tyAt_of (v5 := .slice none 0 0) (v6 := .slice none 0 0) k2 (cell h2 6 _ rfl) (cell h2 7 _ rfl) (cell h2 8 _ rfl) (cell h2 9 _ rfl) (cell h2 10 _ rfl) (cell h2 11 _ rfl) ⟨_, _, rfl, by decide, znilStr _ _, znilTys _ _⟩
  have t3 : TySl B W (.slice (some ⟨b2, 0, none⟩) 2 2) [zRecv, zVar] := ⟨.inr ⟨b2, 0, 2, rfl, k2, by simp only [TysAt]; exact ⟨a5, a9, trivial⟩⟩, by simp [maxLen]⟩
  have a4 : TyAt B W zSend b3 0 := tyAt_of (v5 := .slice none 0 0) (v6 := .slice (some ⟨b2, 0, none⟩) 2 2) k3 (cell h3 0 _ rfl) (cell h3 1 _ rfl) (cell h3 2 _ rfl) (cell h3 3 _ rfl) (cell h3 4 _ rfl) (cell h3 5 _ rfl) ⟨_, _, rfl, by decide, znilStr _ _, t3⟩
  have t4 : TySl B W (.slice (some ⟨b3, 0, none⟩) 1 1) [zSend] := ⟨.inr ⟨b3, 0, 1, rfl, k3, by simp only [TysAt]; exact ⟨a4, trivial⟩⟩, by simp [maxLen]⟩
  have a8 : TyAt B W zRec b5 0 := tyAt_of (v5 := .slice none 0 0) (v6 := .slice (some ⟨b3, 0, none⟩) 1 1) k5 (cell h5 0 _ rfl) (cell h5 1 _ rfl) (cell h5 2 _ rfl) (cell h5 3 _ rfl) (cell h5 4 _ rfl) (cell h5 5 _ rfl) ⟨_, _, rfl, by decide, znilStr _ _, t4⟩
  exact ⟨.inr ⟨b5, 0, 1, rfl, k5, by simp only [TysAt]; exact ⟨a8, trivial⟩⟩, by simp [maxLen]⟩
theorem six_heap (w : World) (o0 o1 o2 o3 o4 o5 : Obj) {W : World} (h : (((((w.alloc o0).alloc o1).alloc o2).alloc o3).alloc o4).alloc o5 = W) : W.heap[w.heap.size]? = some o0 ∧ W.heap[w.heap.size + 1 + 1]? = some o2 ∧ W.heap[w.heap.size + 1 + 1 + 1]? = some o3 ∧ W.heap[w.heap.size + 1 + 1 + 1 + 1 + 1]? = some o5 ∧ Below w.heap.size w W ∧ W.heap.size = w.heap.size + 6 := by
  subst h
  obtain ⟨W3, hW3⟩ : ∃ W3, ((w.alloc o0).alloc o1).alloc o2 = W3 := ⟨_, rfl⟩
  obtain ⟨s3, b3, x0, x1, x2⟩ := three_made hW3
  rw [hW3]
  obtain ⟨W6, hW6⟩ : ∃ W6, ((W3.alloc o3).alloc o4).alloc o5 = W6 := ⟨_, rfl⟩
  obtain ⟨s6, b6, y0, y1, y2⟩ := three_made hW6
  rw [hW6]
  refine ⟨(b6.block _ (by omega)).trans x0, (b6.block _ (by omega)).trans x2, ?_, ?_, below_seq b3 b6, by omega⟩
  · rw [show w.heap.size + 1 + 1 + 1 = W3.heap.size by omega]; exact y0
  · rw [show w.heap.size + 1 + 1 + 1 + 1 + 1 = W3.heap.size + 2 by omega]; exact y2
theorem zcalls_at {P : Program} {f : FuncId} {vs : Array Value} {Q : Ending → World → Prop} {W W0 : World} (h : W = W0) (k : Calls P f vs W0 Q) : Calls P f vs W Q := by rw [h]; exact k

set_option maxHeartbeats 16000000 in
set_option maxRecDepth 100000 in
theorem dawake_any (w : World) : Calls Try.prog 7 #[] w fun e w' => e = .returned (.bool true) ∧ Below w.heap.size w w' := by
  obtain ⟨W6, hW6⟩ : ∃ W6, (((((w.alloc (.cells (z1 ++ z3).toArray 50)).alloc (.cells (z5 w.heap.size).toArray 50)).alloc (.cells (z5 w.heap.size ++ z9).toArray 50)).alloc (.cells (z4 (w.heap.size + 1 + 1)).toArray 50)).alloc (.cells (z8 (w.heap.size + 1 + 1 + 1)).toArray 50)).alloc (.cells (z8 (w.heap.size + 1 + 1 + 1)).toArray 50) = W6 := ⟨_, rfl⟩
  obtain ⟨h0, h2, h3, h5, hb6, hs6⟩ := six_heap w _ _ _ _ _ _ hW6
  have hts : TySl (fun k => k < W6.heap.size) W6 (.slice (some ⟨w.heap.size + 1 + 1 + 1 + 1 + 1, 0, none⟩) 1 1) zTs := z_ts h0 h2 h3 h5 (by omega) (by omega) (by omega) (by omega)
  have HGR := Lib.hid (graph_any zTs _ W6 hts (by decide) (by decide) zRight (by rw [zNodes]; decide) (by rw [zNodes]; decide) (by rw [zRefs]; decide))
  rw [zNodes, zRefs] at HGR
  have HW6 := Lib.hid hW6
  have HB6 := Lib.hid hb6
  clear h0 h2 h3 h5 hb6 hs6 hts hW6
  go_enter Try.func7, Try.ntmps7
  go_upto_region 4 with (go_at_call 9; go_loud (refine zcalls_at HW6.out ?_; refine HGR.out.mono ?_; rintro en w8 ⟨na, nn, nc, ra, rn, rc, rfl, hn8, hr8, hb8⟩; have HN8 := Lib.hid hn8; have HR8 := Lib.hid hr8; have HB8 := Lib.hid (below_seq HB6.out hb8); clear hn8 hr8 hb8))
  obtain ⟨W9, hW9⟩ : ∃ W9, w8.alloc (.cells #[.slice na nn nc] 27) = W9 := ⟨_, rfl⟩
  have hb9 : Below w8.heap.size w8 W9 := by rw [← hW9]; exact blkBelow w8 _ _
  have x9 : W9.heap[w8.heap.size]? = some (grO na nn nc) := by rw [← hW9]; exact World.alloc_heap_new _ _
  have HNG : Hid (∀ W, Below W9.heap.size W9 W → NodeSl (fun k => k < W.heap.size) W (.slice na nn nc) zNs ∧ RefSl (fun k => k < W.heap.size) W (.slice ra rn rc) zRs) := Lib.hid (fun W hW => by
    have b1 := below_seq hb9 hW
    exact ⟨(HN8.out.keep (b1.keeps'.mono (fun k hk => hk))).mono (fun k hk => Nat.lt_of_lt_of_le hk b1.size), (HR8.out.keep (b1.keeps'.mono (fun k hk => hk))).mono (fun k hk => Nat.lt_of_lt_of_le hk b1.size)⟩)
  obtain ⟨e9, rb, ro, rfl, hrc⟩ := refs_at (HNG.out W9 (Below.refl _ _)).2 (by decide)
  obtain rfl : rn = 1 := e9
  have HRC := Lib.hid hrc
  have HCL := Lib.hid (close_any zNs na nn nc W9 (HNG.out W9 (Below.refl _ _)).1 (by decide) (by decide) zWf)
  have HB9 : Hid (Below w.heap.size w W9) := Lib.hid (below_seq HB8.out hb9)
  have g9 : W9.cell? ⟨w8.heap.size, 0, none⟩ = some (.slice na nn nc) := by simp [World.cell?, x9]
  rw [show w8.alloc (.cells #[.slice na nn nc] 27) = W9 from hW9]
  clear hW9 hb9 x9 hrc
  go_upto_region 5 with (go_at_call 12; go_loud (refine HCL.out.mono ?_; rintro en w10 ⟨oa, on, oc, rfl, hn10, hb10⟩; have HN10 := Lib.hid hn10; have HB10 := Lib.hid hb10; clear hn10 hb10))
  clear g9
  obtain ⟨W11, hW11⟩ : ∃ W11, w10.alloc (.cells #[.slice oa on oc] 27) = W11 := ⟨_, rfl⟩
  have hb11 : Below w10.heap.size w10 W11 := by rw [← hW11]; exact blkBelow w10 _ _
  have x11 : W11.heap[w10.heap.size]? = some (grO oa on oc) := by rw [← hW11]; exact World.alloc_heap_new _ _
  have hs11 : w10.heap.size < W11.heap.size := (Array.getElem?_eq_some_iff.1 x11).1
  have hn11 : NodeSl (fun k => k < W11.heap.size) W11 (.slice oa on oc) (closeG zNs) := (HN10.out.keep (hb11.keeps'.mono (fun k hk => hk))).mono (fun k hk => Nat.lt_of_lt_of_le hk hb11.size)
  obtain ⟨_, hon, kb, ko, lv, xa, xc, rfl, hcl, hrf⟩ := node_at hn11 zClose
  obtain rfl : on = 8 := hon
  obtain ⟨xb, xo, rfl, hx0⟩ := hrf 0 ⟨1, 0⟩ rfl
  obtain ⟨_, _, ex, hx1⟩ := hrf 1 ⟨4, 1⟩ rfl
  obtain ⟨rfl, rfl, -⟩ := Addr.mk.inj (Option.some.inj ex)
  have HS : Hid (∀ W, Below W11.heap.size W11 W → W.cell? ⟨w10.heap.size, 0, none⟩ = some (.slice (some ⟨kb, ko, none⟩) 8 oc) ∧ W.cell? ⟨kb, ko + 16, none⟩ = some (.int .i64 5) ∧ W.cell? ⟨kb, ko + 17, none⟩ = some (.int .i64 3) ∧ W.cell? ⟨kb, ko + 19, none⟩ = some (.slice (some ⟨xb, xo, none⟩) 2 xc) ∧ W.cell? ⟨xb, xo, none⟩ = some (.int .i64 1) ∧ W.cell? ⟨xb, xo + 1, none⟩ = some (.int .i64 0) ∧ W.cell? ⟨xb, xo + 2, none⟩ = some (.int .i64 4) ∧ W.cell? ⟨xb, xo + 3, none⟩ = some (.int .i64 1) ∧ W.cell? ⟨rb, ro, none⟩ = some (.int .i64 0) ∧ W.cell? ⟨rb, ro + 1, none⟩ = some (.int .i64 0)) := Lib.hid (fun W hW => by
    have a1 : W.heap[w10.heap.size]? = _ := (hW.block _ hs11).trans x11
    obtain ⟨b0, b1, _, b3, _⟩ := hcl W hW
    obtain ⟨c0, c1⟩ := hx0 W hW
    obtain ⟨c2, c3⟩ := hx1 W hW
    obtain ⟨d0, d1⟩ := HRC.out W (below_seq HB10.out (below_seq hb11 hW)) 0 _ rfl
    exact ⟨by simp [World.cell?, a1], by simpa using b0, by simpa using b1, by simpa using b3, by simpa using c0, by simpa using c1, by simpa using c2, by simpa using c3, by simpa using d0, by simpa using d1⟩)
  have HOF8 : Hid (∀ W, Below W11.heap.size W11 W → Calls Try.prog 16 #[.agg #[.slice (some ⟨kb, ko, none⟩) 8 oc], .agg #[.int .i64 0, .int .i64 0]] W fun e w' => e = .returned (.agg #[.int .i64 4, .int .i64 0]) ∧ Below W.heap.size W w') := Lib.hid (fun W _ => of_any (some ⟨kb, ko, none⟩) 4 oc 0 0 W (by decide) (by decide))
  have HB11 : Hid (Below w.heap.size w W11) := Lib.hid (below_seq HB9.out (below_seq HB10.out hb11))
  rw [show w10.alloc (.cells #[.slice (some ⟨kb, ko, none⟩) 8 oc] 27) = W11 from hW11]
  clear hW11 hb11 x11 hs11 hn11 hcl hrf hx0 hx1
  obtain ⟨a0, a1, a2, a3, a4, a5, a6, a7, a8, a9⟩ := HS.out W11 (Below.refl _ _)
  go_upto_region 7 with fail
  clear a0 a1 a2 a3 a4 a5 a6 a7 a8 a9
  refine wp_region_held_drew (S := fun W => W.cell? ⟨w10.heap.size, 0, none⟩ = some (.slice (some ⟨kb, ko, none⟩) 8 oc) ∧ W.cell? ⟨kb, ko + 16, none⟩ = some (.int .i64 5) ∧ W.cell? ⟨kb, ko + 17, none⟩ = some (.int .i64 3) ∧ W.cell? ⟨kb, ko + 19, none⟩ = some (.slice (some ⟨xb, xo, none⟩) 2 xc) ∧ W.cell? ⟨xb, xo, none⟩ = some (.int .i64 1) ∧ W.cell? ⟨xb, xo + 1, none⟩ = some (.int .i64 0) ∧ W.cell? ⟨xb, xo + 2, none⟩ = some (.int .i64 4) ∧ W.cell? ⟨xb, xo + 3, none⟩ = some (.int .i64 1) ∧ W.cell? ⟨rb, ro, none⟩ = some (.int .i64 0) ∧ W.cell? ⟨rb, ro + 1, none⟩ = some (.int .i64 0)) (by kernel_rfl) (HS.out W11 (Below.refl _ _)) (fun hHeld => ?_)
  refine wpAnyH_take_l 0 (v := ?vp0) rfl rfl (by kernel_rfl) (by kernel_rfl) (by kernel_rfl) (fun _ _ _ h => h) ?hp0 (by assumption) ?rp0
  case hp0 => (intro w hSw; (try dsimp only at hSw); go_simp; try rfl)
  case' rp0 => simp only [setD, List.set_cons_succ, List.set_cons_zero]
  refine wpAnyH_take_l 1 (v := ?vp1) rfl rfl (by kernel_rfl) (by kernel_rfl) (by kernel_rfl) (fun _ _ _ h => h) ?hp1 (by assumption) ?rp1
  case hp1 => (intro w hSw; (try dsimp only at hSw); go_simp; try rfl)
  case' rp1 => simp only [setD, List.set_cons_succ, List.set_cons_zero]
  refine wpAnyH_take_l 2 (v := ?vp2) rfl rfl (by kernel_rfl) (by kernel_rfl) (by kernel_rfl) (fun _ _ _ h => h) ?hp2 (by assumption) ?rp2
  case hp2 => (intro w hSw; (try dsimp only at hSw); go_simp; try rfl)
  case' rp2 => simp only [setD, List.set_cons_succ, List.set_cons_zero]
  refine wpAnyH_take_l 3 (v := ?vp3) rfl rfl (by kernel_rfl) (by kernel_rfl) (by kernel_rfl) (fun _ _ _ h => h) ?hp3 (by assumption) ?rp3
  case hp3 => (intro w hSw; (try dsimp only at hSw); go_simp; try rfl)
  case' rp3 => simp only [setD, List.set_cons_succ, List.set_cons_zero]
  refine wpAnyH_start [4, 5, 6] (OC W11 (.int .i64 4) (.int .i64 0) 4 5 6) (by kernel_rfl) (by kernel_rfl) (fun L vals W hR => HS.out _ hR.out) ?startp ?stepsp ?stopp
  case startp => exact ⟨fun h => (Bool.false_ne_true h).elim, (Below.refl _ _).drew, fun h => (Bool.false_ne_true h).elim, fun h => (Bool.false_ne_true h).elim, fun h => (Bool.false_ne_true h).elim⟩
  case stepsp =>
    refine List.forall_mem_cons.2 ⟨?_, List.forall_mem_cons.2 ⟨?_, List.forall_mem_cons.2 ⟨?_, fun _ h => by cases h⟩⟩⟩
    · refine InvStep.list (k := 4) rfl rfl [] (by kernel_rfl) [(4, some 42), (5, some 6), (6, none)] (by kernel_rfl) (by decide) (fun L vals olds wx hLk hdeps hR K hK => ?_)
      have hK2 := hK.out
      clear hK
      simp only [fillL, setD, List.set_cons_succ, List.set_cons_zero] at hK2 ⊢
      clear hdeps
      go_simp
      refine (HOF8.out _ hR.out).mono ?_
      rintro en w9 ⟨rfl, hb9⟩
      dsimp only
      obtain ⟨rD, rO, rc, ra', rs'⟩ := hR
      refine hK2 _ _ ⟨fun h => ⟨rfl, (rD h).2⟩, below_seq rO hb9, fun _ => rfl, fun h h' => ?_, fun h => ?_⟩
      · obtain ⟨X, e1, e2, e3⟩ := ra' h h'; exact ⟨X, e1, e2, (hb9.block X (Array.getElem?_eq_some_iff.1 e3).1).trans e3⟩
      · obtain ⟨X, e1, e2, e3⟩ := rs' h; exact ⟨X, e1, e2, (hb9.block X (Array.getElem?_eq_some_iff.1 e3).1).trans e3⟩
    · refine InvStep.list (k := 5) rfl rfl [] (by kernel_rfl) [(4, some 42), (5, some 6), (6, none)] (by kernel_rfl) (by decide) (fun L vals olds wx hLk hdeps hR K hK => ?_)
      have hK2 := hK.out
      clear hK
      simp only [fillL, setD, List.set_cons_succ, List.set_cons_zero] at hK2 ⊢
      clear hdeps
      have f10 : L 6 = false := by
        cases e : L 6 with
        | false => rfl
        | true => rw [(hR.dn e).2] at hLk; cases hLk
      go_simp
      obtain ⟨rD, rO, rc, ra', rs'⟩ := hR
      exact hK2 _ _ ⟨fun h => absurd (f10.symm.trans h) (by decide), rO.alloc rO.size _, rc, fun _ _ => ⟨_, rfl, rO.size, World.alloc_heap_new _ _⟩, fun h => absurd (f10.symm.trans h) (by decide)⟩
    · refine InvStep.list (k := 6) rfl rfl [4, 5] (by kernel_rfl) [(4, some 42), (5, some 6), (6, none)] (by kernel_rfl) (by decide) (fun L vals olds wx hLk hdeps hR K hK => ?_)
      have hK2 := hK.out
      clear hK
      simp only [fillL, setD, List.set_cons_succ, List.set_cons_zero] at hK2 ⊢
      simp only [List.all_cons, List.all_nil, Bool.and_true, Bool.and_eq_true] at hdeps
      obtain ⟨X, eX, hX1, hX2⟩ := hR.va hdeps.2 hLk
      have es := (slotO_done (vals := vals) (olds := olds) hdeps.1).trans (hR.vc hdeps.1)
      have es2 := (slotO_done (vals := vals) (olds := olds) hdeps.2).trans eX
      simp only [es, es2] at hK2 ⊢
      clear es es2
      have z0 := (refO_cells hX2).1
      have z1 := (refO_cells hX2).2.1
      have z2 := (refO_cells hX2).2.2.1
      have z3 := (refO_cells hX2).2.2.2
      have EX := Lib.hid eX
      clear eX
      go_simp
      clear z0 z1 z2 z3
      obtain ⟨rD, rO, rc, ra', rs'⟩ := hR
      refine hK2 undef _ ⟨fun _ => hdeps, (rO.setCell (p := ⟨X, 0, none⟩) hX1 _).setCell (p := ⟨X, 1, none⟩) hX1 _, rc, fun _ h => (Bool.false_ne_true h.symm).elim, fun _ => ⟨X, EX.out, hX1, refO_fill hX2 _ _⟩⟩
  case stopp =>
    refine end_plain [(4, some 42), (5, some 6), (6, none)] (by kernel_rfl) (by decide) (fun L vals olds wC hall hR => ?_)
    simp only [List.all_cons, List.all_nil, Bool.and_true, Bool.and_eq_true] at hall
    obtain ⟨q4, q5, q6⟩ := hall
    obtain ⟨X, eX, hX1, hX2⟩ := hR.vs q6
    have HWC := Lib.hid hR.out
    have HXC := Lib.hid hX2
    have eC := hR.vc q4
    simp only [fillL, List.set_cons_succ, List.set_cons_zero, slotO_done q5, slotO_done q4, eX, eC]
    clear hR q4 q5 q6 hX1 hX2 eX eC hHeld
    have hXl : X < wC.heap.size := (Array.getElem?_eq_some_iff.1 HXC.out).1
    have HXC2 : Hid (∀ W, Below wC.heap.size wC W → W.cell? ⟨X, 0, none⟩ = some (.int .i64 4) ∧ W.cell? ⟨X, 1, none⟩ = some (.int .i64 0)) := Lib.hid (fun W hW => by
      obtain ⟨a, b, _, _⟩ := refO_cells ((hW.block X hXl).trans HXC.out)
      exact ⟨a, b⟩)
    have HOB : Hid (∀ q : Later wC.heap.size wC, Calls Try.prog 16 #[.agg #[.slice (some ⟨kb, ko, none⟩) 8 oc], .agg #[.int .i64 4, .int .i64 0]] q.1 fun e w' => e = .returned (.agg #[.int .i64 0, .int .i64 0]) ∧ Below q.1.heap.size q.1 w') := Lib.hid (fun q => of_any (some ⟨kb, ko, none⟩) 4 oc 4 0 q.1 (by decide) (by decide))
    have HK6 : Hid (∀ q : Later wC.heap.size wC, Calls Try.prog 14 #[.int .i64 6] q.1 fun e w' => e = .returned (.int .i64 7) ∧ Below q.1.heap.size q.1 w') := Lib.hid (fun q => dkind_any 6 q.1)
    have HK99 : Hid (∀ q : Later wC.heap.size wC, Calls Try.prog 14 #[.int .i64 99] q.1 fun e w' => e = .returned (.int .i64 99) ∧ Below q.1.heap.size q.1 w') := Lib.hid (fun q => dkind_any 99 q.1)
    have HKM : Hid (∀ q : Later wC.heap.size wC, Calls Try.prog 14 #[.int .i64 (-1)] q.1 fun e w' => e = .returned (.int .i64 (-1)) ∧ Below q.1.heap.size q.1 w') := Lib.hid (fun q => dkind_any (-1) q.1)
    have f0 := fun q : Later wC.heap.size wC => (HS.out q.1 (below_seq HWC.out q.2)).1
    have f1 := fun q : Later wC.heap.size wC => (HS.out q.1 (below_seq HWC.out q.2)).2.1
    have f2 := fun q : Later wC.heap.size wC => (HS.out q.1 (below_seq HWC.out q.2)).2.2.1
    have f3 := fun q : Later wC.heap.size wC => (HS.out q.1 (below_seq HWC.out q.2)).2.2.2.1
    have f4 := fun q : Later wC.heap.size wC => (HS.out q.1 (below_seq HWC.out q.2)).2.2.2.2.1
    have f5 := fun q : Later wC.heap.size wC => (HS.out q.1 (below_seq HWC.out q.2)).2.2.2.2.2.1
    have f6 := fun q : Later wC.heap.size wC => (HS.out q.1 (below_seq HWC.out q.2)).2.2.2.2.2.2.1
    have f7 := fun q : Later wC.heap.size wC => (HS.out q.1 (below_seq HWC.out q.2)).2.2.2.2.2.2.2.1
    have f8 := fun q : Later wC.heap.size wC => (HS.out q.1 (below_seq HWC.out q.2)).2.2.2.2.2.2.2.2.1
    have f9 := fun q : Later wC.heap.size wC => (HS.out q.1 (below_seq HWC.out q.2)).2.2.2.2.2.2.2.2.2
    have f10 := fun q : Later wC.heap.size wC => (HXC2.out q.1 q.2).1
    have f11 := fun q : Later wC.heap.size wC => (HXC2.out q.1 q.2).2
    go_upto_region 8 with fail
    refine wp_region_later wC.heap.size wC (by kernel_rfl) (by kernel_rfl) (Below.refl _ _) ?_
    repeat (go_big_quiet_step (first | (go_at_call 16; with_reducible exact later_call _ (Nat.le_refl _) (HOB.out _)) | (go_at_call 14; first | (with_reducible exact later_call _ (Nat.le_refl _) (HK6.out _)) | (with_reducible exact later_call _ (Nat.le_refl _) (HK99.out _)) | (with_reducible exact later_call _ (Nat.le_refl _) (HKM.out _)))))
    refine wpQuiet_nil ?_
    rintro _ ⟨⟨wD, hbD⟩, rfl⟩
    clear f0 f1 f2 f3 f4 f5 f6 f7 f8 f9 f10 f11 HOB HK6 HK99 HKM
    go_wp2_with fail
    go_ret
    exact ⟨rfl, below_seq HB11.out (below_seq HWC.out hbD)⟩
end Go.Proofs.Ytkjngbliomckiaa
