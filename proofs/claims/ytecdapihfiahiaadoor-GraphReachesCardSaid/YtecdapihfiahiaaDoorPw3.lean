/- Graphs: add. (and what follows from it) -/
import Derived.Test.YtecdapihfiahiaaDoorPw2
import Derived.Laws.Bits64b
import Derived.Laws.MakeOwn
import Derived.BigQuiet
import Derived.Laws.OwnMore

/- Graphs: add. -/
namespace Go.Proofs.YtecdapihfiahiaaDoor
open Go.RowKit Go.Deep Go.Shelf

/-- One operation that comes up alone. -/
theorem wpAnyH_one {P : Program} {md : Region.Mode} {l : List Oper} {Q : Exit → Act → World → Prop} {S : World → Prop} {fuel : Nat} {B : List Bool} {T : List Value} {ds : List Deferred} {w : World} (i : Nat) {o : Oper} (ho : l[i]? = some o) (hg : o.guard = none)
    (hr : Region.ready md l.toArray B.toArray = [i])
    (h : ∀ K : Act → World → Prop, Shut (∀ v w', S w' → (S w' → wpAnyH P md l.toArray Q S fuel (B.set i true).toArray ⟨(setD T o.dst v).toArray, ds⟩ w') → K ⟨(setD T o.dst v).toArray, ds⟩ w') → Oper.wp P o ⟨T.toArray, ds⟩ w K Q) :
    wpAnyH P md l.toArray Q S (fuel + 1) B.toArray ⟨T.toArray, ds⟩ w := by
  refine wpAnyH_all hr (by simp) (fun j hj => ?_)
  obtain rfl := List.mem_singleton.1 hj
  have ho' : l.toArray[j]? = some o := by simpa using ho
  have hw : Region.wanted o (yielded l.toArray T.toArray) = true := by simp [Region.wanted, hg]
  unfold wpOp
  simp only [ho']
  rw [if_pos hw]
  refine .inl (h _ (fun v w' h1 h2 => ?_))
  refine ⟨h1, ?_⟩
  rw [List.setIfInBounds_toArray]
  exact h2 h1

theorem pref_9 {p s : Int} {n : ByteArray} {ls : List ByteArray} {ts : List Ty} (i : Nat) (e : ByteArray → Nat) : (Ty.mk 9 p n s ls ts).pref i e = ⟨e n, s⟩ := by rw [Ty.pref, if_neg (by decide), if_pos rfl]
theorem pnod_9 {p s : Int} {n : ByteArray} {ls : List ByteArray} {ts : List Ty} (i : Nat) (e : ByteArray → Nat) : (Ty.mk 9 p n s ls ts).pnod i e = [] := by rw [Ty.pnod, if_neg (by decide), if_pos rfl]
theorem pref_8 {p s : Int} {n : ByteArray} {ls : List ByteArray} {u : Ty} (i : Nat) (e : ByteArray → Nat) : (Ty.mk 8 p n s ls [u]).pref i e = u.pref i (upE e n i) := by rw [Ty.pref, if_pos rfl, Ty.pref1]
theorem pnod_8 {p s : Int} {n : ByteArray} {ls : List ByteArray} {u : Ty} (i : Nat) (e : ByteArray → Nat) : (Ty.mk 8 p n s ls [u]).pnod i e = u.pnod i (upE e n i) := by rw [Ty.pnod, if_pos rfl, Ty.pnod1]
theorem pref_k {t : Ty} (h8 : t.k ≠ 8) (h9 : t.k ≠ 9) (i : Nat) (e : ByteArray → Nat) : t.pref i e = ⟨i, 0⟩ := by cases t; simp only [Ty.k] at h8 h9; rw [Ty.pref, if_neg h8, if_neg h9]
theorem pnod_k {t : Ty} (h8 : t.k ≠ 8) (h9 : t.k ≠ 9) (i : Nat) (e : ByteArray → Nat) : t.pnod i e = ⟨t.k, t.p, t.ls, Ty.prefs (i + 1) e t.ts⟩ :: Ty.pnods (i + 1) e t.ts := by cases t; simp only [Ty.k] at h8 h9; rw [Ty.pnod, if_neg h8, if_neg h9]; rfl

/-- A block of two cells: a reference that is to be returned. -/
abbrev refBox (a b : Value) : Obj := .cells #[a, b] 37
def Two0 (w : World) (b : Nat) (o : Obj) : Prop := w.heap[b]? = some o
theorem two_cells {w : World} {b : Nat} {a c : Value} (h : w.heap[b]? = some (refBox a c)) : w.cell? ⟨b, 0, none⟩ = some a ∧ w.cell? ⟨b, 1, none⟩ = some c ∧ w.frozen? ⟨b, 0, none⟩ = false ∧ w.frozen? ⟨b, 1, none⟩ = false := by
  refine ⟨?_, ?_, frozen_of_block h 0, frozen_of_block h 1⟩ <;> simp [World.cell?, h]
theorem two_fill {w : World} {b : Nat} {a c : Value} (h : w.heap[b]? = some (refBox a c)) (u v : Value) : ((w.setCell ⟨b, 0, none⟩ u).setCell ⟨b, 1, none⟩ v).heap[b]? = some (refBox u v) := set_block (set_block h 0 u) 1 v
theorem set_oth (w : World) {b k : Nat} (i : Nat) (v : Value) (hk : k ≠ b) : (w.setCell ⟨b, i, none⟩ v).heap[k]? = w.heap[k]? := by
  show (w.heap.modify b _)[k]? = _
  rw [Array.getElem?_modify, if_neg (fun e => hk e.symm)]
theorem two_other {w : World} {b k : Nat} (hk : k ≠ b) (u v : Value) : ((w.setCell ⟨b, 0, none⟩ u).setCell ⟨b, 1, none⟩ v).heap[k]? = w.heap[k]? := by
  exact (set_oth _ 1 v hk).trans (set_oth w 0 u hk)
theorem Bu.drew {base bx : Nat} {w : World} {v : Value} {xs : List NV} (h : Bu base bx w v xs) : Bu base bx w.drew v xs := ⟨h.box, h.hbx, h.hw, h.row.drew⟩
/-- A builder's call, then two stores into a block of the caller's own. -/
theorem Bu.fill {base bx b : Nat} {w : World} {v : Value} {xs : List NV} (h : Bu base bx w v xs) {a c : Value} (hb : w.heap[b]? = some (refBox a c)) (x y : Value) : Bu base bx ((w.setCell ⟨b, 0, none⟩ x).setCell ⟨b, 1, none⟩ y) v xs := by
  have hx : bx ≠ b := fun e => by subst e; have := h.box.symm.trans hb; cases this
  refine ⟨(two_other hx x y).trans h.box, h.hbx, by simpa using h.hw, h.row.kept (fun k hk => two_other (fun e => ?_) x y)⟩
  obtain ⟨cs, hc⟩ := h.row.obj hk
  subst e
  have := hc.symm.trans hb
  cases this
theorem BkG.fill {base bx b : Nat} {w w1 : World} {v v1 : Value} (h : BkG base bx w v w1 v1) (hb : w.heap.size ≤ b) (hbase : base ≤ w.heap.size) (x y : Value) : BkG base bx w v ((w1.setCell ⟨b, 0, none⟩ x).setCell ⟨b, 1, none⟩ y) v1 :=
  ⟨(h.below.setCell (p := ⟨b, 0, none⟩) (Nat.le_trans hbase hb) x).setCell (p := ⟨b, 1, none⟩) (Nat.le_trans hbase hb) y, fun k h1 h2 h3 => (two_other (by omega) x y).trans (h.side k h1 h2 h3), h.own⟩
theorem NV.Ok.fill {bx b : Nat} {w0 w : World} {v : Value} {x : NV} (h : x.Ok (New bx w0 w v) w) (hne : ∀ k, New bx w0 w v k → k ≠ b) (u z : Value) : x.Ok (New bx w0 ((w.setCell ⟨b, 0, none⟩ u).setCell ⟨b, 1, none⟩ z) v) ((w.setCell ⟨b, 0, none⟩ u).setCell ⟨b, 1, none⟩ z) :=
  (h.keep (fun k _ hk ho _ => (two_other (hne k hk) u z).trans ho)).mono (fun k hk => ⟨⟨by simpa using hk.1.1, hk.1.2⟩, hk.2⟩)

set_option maxHeartbeats 8000000 in
set_option maxRecDepth 100000 in
theorem add_9 (p s : Int) (nm : ByteArray) (ls : List ByteArray) (ts : List Ty) : AddAt (.mk 9 p nm s ls ts) := by
  intro base bx kb ko eb n e v xs w hbu hta hev hd hs hok
  obtain ⟨la, ln, lc, ka, kn, kc, ⟨c0, c1, c2, c3, c4, c5⟩, hval⟩ := hta.load'
  simp only [Ty.k, Ty.p, Ty.n, Ty.s] at c0 c1 c2 c3
  have hkb : kb < base := (TyAt.eq.1 hta).1
  have hnm : nm.size ≤ maxLen := (TyAt.eq.1 hta).2.1
  have hbw := hbu.hw
  have HBU := Lib.hid hbu
  have HEV := Lib.hid hev
  have HC0 : Hid (∀ W, Below base w W → W.cell? ⟨kb, ko, none⟩ = some (.int .i64 9) ∧ W.cell? ⟨kb, ko + 2, none⟩ = some (.string nm) ∧ W.cell? ⟨kb, ko + 3, none⟩ = some (.int .i64 s)) := Lib.hid (fun W hW => ⟨(hW.cell (p := ⟨kb, _, none⟩) hkb).trans c0, (hW.cell (p := ⟨kb, _, none⟩) hkb).trans c2, (hW.cell (p := ⟨kb, _, none⟩) hkb).trans c3⟩)
  obtain ⟨W0, hW0⟩ : ∃ W0, w.alloc (refBox (.int .i64 0) (.int .i64 0)) = W0 := ⟨_, rfl⟩
  have hb0 : Below w.heap.size w W0 := by rw [← hW0]; exact blkBelow w _ _
  have t0 : W0.heap[w.heap.size]? = some (refBox (.int .i64 0) (.int .i64 0)) := by rw [← hW0]; exact World.alloc_heap_new _ _
  have HW0 := Lib.hid hW0
  have HB0 := Lib.hid hb0
  have HT0 := Lib.hid t0
  have HNM := Lib.hid hnm
  clear hbu hev hd hs hok hta hval c0 c1 c2 c3 c4 c5 hW0 hb0 t0 hnm
  go_enter Tryd.func32, Tryd.ntmps32
  obtain ⟨c0, c2, c3⟩ := HC0.out W0 (HB0.out.mono hbw)
  go_upto_region 1 with fail
  rw [show w.alloc (.cells #[.int .i64 0, .int .i64 0] 37) = W0 from HW0.out]
  go_upto_region 3 with fail
  refine wp_region_held_drew (S := fun W => W.cell? ⟨kb, ko, none⟩ = some (.int .i64 9) ∧ W.cell? ⟨kb, ko + 2, none⟩ = some (.string nm) ∧ W.cell? ⟨kb, ko + 3, none⟩ = some (.int .i64 s) ∧ (Instr.lookup 64 (.map (some eb)) (.string nm) false).run Tryd.prog W = .ok (.int .i64 (e nm)) W) (by kernel_rfl) ⟨c0, c2, c3, ((HEV.out.to HB0.out).same (w' := W0.drew) rfl).look HNM.out⟩ (fun hHeld => ?_)
  refine wpAnyH_take_l 0 (v := ?v0) rfl rfl (by kernel_rfl) (by kernel_rfl) (by kernel_rfl) (fun _ _ _ h => h) ?h0 (by assumption) ?r0
  case h0 => (intro w hSw; (try dsimp only at hSw); go_simp; try rfl)
  case' r0 => simp only [setD, List.set_cons_succ, List.set_cons_zero]
  refine wpAnyH_take_l 1 (v := ?v1) rfl rfl (by kernel_rfl) (by kernel_rfl) (by kernel_rfl) (fun _ _ _ h => h) ?h1 (by assumption) ?r1
  case h1 => (intro w hSw; (try dsimp only at hSw); go_simp; try rfl)
  case' r1 => simp only [setD, List.set_cons_succ, List.set_cons_zero]
  refine wpAnyH_take_l 2 (v := ?v2) rfl rfl (by kernel_rfl) (by kernel_rfl) (by kernel_rfl) (fun _ _ _ h => h) ?h2 (by assumption) ?r2
  case h2 => (intro w hSw; (try dsimp only at hSw); go_simp; try rfl)
  case' r2 => simp only [setD, List.set_cons_succ, List.set_cons_zero]
  refine wpAnyH_take_l 3 (v := ?v3) rfl rfl (by kernel_rfl) (by kernel_rfl) (by kernel_rfl) (fun _ _ _ h => h) ?h3 (by assumption) ?r3
  case h3 => (intro w hSw; (try dsimp only at hSw); go_simp; try rfl)
  case' r3 => simp only [setD, List.set_cons_succ, List.set_cons_zero]
  refine wpAnyH_take_l 4 (v := ?v4) rfl rfl (by kernel_rfl) (by kernel_rfl) (by kernel_rfl) (fun _ _ _ h => h) ?h4 (by assumption) ?r4
  case h4 => (intro w hSw; (try dsimp only at hSw); go_simp; try rfl)
  case' r4 => simp only [setD, List.set_cons_succ, List.set_cons_zero]
  refine wpAnyH_take_l 5 (v := ?v5) rfl rfl (by kernel_rfl) (by kernel_rfl) (by kernel_rfl) (fun _ _ _ h => h) ?h5 (by assumption) ?r5
  case h5 => (intro w hSw; (try dsimp only at hSw); go_simp; try rfl)
  case' r5 => simp only [setD, List.set_cons_succ, List.set_cons_zero]
  refine wpAnyH_take_l 6 (v := ?v6) rfl rfl (by kernel_rfl) (by kernel_rfl) (by kernel_rfl) (fun _ _ _ h => h) ?h6 (by assumption) ?r6
  case h6 => (intro w hSw; (try dsimp only at hSw); go_simp; try rfl)
  case' r6 => simp only [setD, List.set_cons_succ, List.set_cons_zero]
  refine wpAnyH_take_l 7 (v := ?v7) rfl rfl (by kernel_rfl) (by kernel_rfl) (by kernel_rfl) (fun _ _ _ h => h) ?h7 (by assumption) ?r7
  case h7 => (intro w hSw; (try dsimp only at hSw); go_simp; try rfl)
  case' r7 => simp only [setD, List.set_cons_succ, List.set_cons_zero]
  refine wpAnyH_take_l 8 (v := ?v8) rfl rfl (by kernel_rfl) (by kernel_rfl) (by kernel_rfl) (fun _ _ _ h => h) ?h8 (by assumption) ?r8
  case h8 => (intro w hSw; (try dsimp only at hSw); go_simp; try rfl)
  case' r8 => simp only [setD, List.set_cons_succ, List.set_cons_zero]
  refine wpAnyH_take_l 9 (v := ?v9) rfl rfl (by kernel_rfl) (by kernel_rfl) (by kernel_rfl) (fun _ _ _ h => h) ?h9 (by assumption) ?r9
  case h9 => (intro w hSw; (try dsimp only at hSw); go_simp; try rfl)
  case' r9 => simp only [setD, List.set_cons_succ, List.set_cons_zero]
  refine wpAnyH_take_l 10 (v := ?v10) rfl rfl (by kernel_rfl) (by kernel_rfl) (by kernel_rfl) (fun _ _ _ h => h) ?h10 (by assumption) ?r10
  case h10 => (intro w hSw; (try dsimp only at hSw); go_simp; try rfl)
  case' r10 => simp only [setD, List.set_cons_succ, List.set_cons_zero]
  obtain ⟨z0, z1, z2, z3⟩ := two_cells HT0.out
  refine wpAnyH_one 11 rfl rfl (by kernel_rfl) (fun K hK => ?_)
  have hK2 := hK.out
  clear hK
  simp only [setD] at hK2 ⊢
  go_simp
  clear z0 z1 z2 z3
  obtain ⟨W1, hW1⟩ : ∃ W1, ((W0.setCell ⟨w.heap.size, 0, none⟩ (.int .i64 (e nm))).setCell ⟨w.heap.size, 1, none⟩ (.int .i64 s)).drew = W1 := ⟨_, rfl⟩
  have hB1 : Bu base bx W1 v xs := by rw [← hW1]; exact ((HBU.out.to HB0.out).fill HT0.out _ _).drew
  have hK1 : BkG base bx w v W1 v := by rw [← hW1]; exact ((BkG.of_below HB0.out hbw bx v).fill (Nat.le_refl _) hbw _ _).drew
  have hT1 : W1.heap[w.heap.size]? = some (refBox (.int .i64 (e nm)) (.int .i64 s)) := by rw [← hW1]; exact two_fill HT0.out _ _
  rw [hW1]
  obtain ⟨d0, d2, d3⟩ := HC0.out W1 hK1.below
  refine hK2 undef W1 ⟨d0, d2, d3, (HEV.out.bk HBU.out hK1).look HNM.out⟩ (fun _ => ?_)
  clear hK2 K
  refine wpAnyH_done (by kernel_rfl) ?_ _
  obtain ⟨y0, y1, _, _⟩ := two_cells hT1
  have HB1 := Lib.hid hB1
  have HK1 := Lib.hid hK1
  clear hB1 hK1 hT1 d0 d2 d3 hHeld c0 c2 c3
  go_wp2_with fail
  refine bodyPost_ret (v := .agg #[.int .i64 (e nm), .int .i64 s]) (by simp [results, Tryd.results32, go_sem, y0, y1]) rfl ?_
  refine ⟨v, [], ?_, by rw [List.append_nil]; exact HB1.out, (fun y hy => by cases hy), by rw [pnod_9]; rfl, HK1.out⟩
  rw [pref_9]

set_option maxHeartbeats 8000000 in
set_option maxRecDepth 100000 in
theorem add_k (t : Ty) (hall : AddAllAt t.ts) (h8 : t.k ≠ 8) (h9 : t.k ≠ 9) : AddAt t := by
  intro base bx kb ko eb n e v xs w hbu hta hev hd hs hok
  obtain ⟨la, ln, lc, ka, kn, kc, ⟨c0, c1, c2, c3, c4, c5⟩, hval⟩ := hta.load'
  have hkb : kb < base := (TyAt.eq.1 hta).1
  have hbw := hbu.hw
  obtain ⟨W0, hW0⟩ : ∃ W0, w.alloc (refBox (.int .i64 0) (.int .i64 0)) = W0 := ⟨_, rfl⟩
  have hb0 : Below w.heap.size w W0 := by rw [← hW0]; exact blkBelow w _ _
  have t0 : W0.heap[w.heap.size]? = some (refBox (.int .i64 0) (.int .i64 0)) := by rw [← hW0]; exact World.alloc_heap_new _ _
  have HC := Lib.hid (addNode_any t hall base bx kb ko eb n e v xs W0 (hbu.to hb0) (TyAt.keep (hb0.mono hbw).keeps' _ _ _ hta) (hev.to hb0) hd hs hok)
  have c0' : W0.cell? ⟨kb, ko, none⟩ = some (.int .i64 t.k) := ((hb0.mono hbw).cell (p := ⟨kb, _, none⟩) hkb).trans c0
  have hk8 : (t.k == 8) = false := by simpa using h8
  have hk9 : (t.k == 9) = false := by simpa using h9
  have HW0 := Lib.hid hW0
  have HB0 := Lib.hid hb0
  have HT0 := Lib.hid t0
  have HB := Lib.hid hbu
  have HK8 := Lib.hid h8
  have HK9 := Lib.hid h9
  clear hbu hev hd hs hok hta hval c0 c1 c2 c3 c4 c5 hW0 hb0 t0 hall h8 h9
  go_enter Tryd.func32, Tryd.ntmps32
  go_upto_region 1 with fail
  rw [show w.alloc (.cells #[.int .i64 0, .int .i64 0] 37) = W0 from HW0.out]
  go_wp2_with (go_at_call 38; refine HC.out.mono ?_; rintro en w5 ⟨v5, ys, rfl, hb5, hn5, hy5, hk5⟩; have hlt5 : w.heap.size < W0.heap.size := (Array.getElem?_eq_some_iff.1 HT0.out).1; have ht5 : w5.heap[w.heap.size]? = some (refBox (.int .i64 0) (.int .i64 0)) := (hk5.side _ hlt5 (by have := HB.out.lt; omega) (fun e => by have := (HB.out.row.lt _ e.symm).2; omega)).trans HT0.out; obtain ⟨z0, z1, z2, z3⟩ := two_cells ht5; have HT5 := Lib.hid ht5; have HB5 := Lib.hid hb5; have HN5 := Lib.hid hn5; have HY5 := Lib.hid hy5; have HK5 := Lib.hid hk5; clear hb5 hn5 hy5 hk5 ht5)
  clear z0 z1 z2 z3
  obtain ⟨W1, hW1⟩ : ∃ W1, ((w5.setCell ⟨w.heap.size, 0, none⟩ (.int .i64 (xs.length : Int))).setCell ⟨w.heap.size, 1, none⟩ (.int .i64 0)) = W1 := ⟨_, rfl⟩
  have hT1 : W1.heap[w.heap.size]? = some (refBox (.int .i64 (xs.length : Int)) (.int .i64 0)) := by rw [← hW1]; exact two_fill HT5.out _ _
  have hB1 : Bu base bx W1 v5 (xs ++ ys) := by rw [← hW1]; exact HB5.out.fill HT5.out _ _
  have hK1 : BkG base bx w v W1 v5 := by rw [← hW1]; exact ((BkG.of_below HB0.out hbw bx v).trans HK5.out).fill (Nat.le_refl _) hbw _ _
  have hN1 : ∀ y ∈ ys, y.Ok (New bx w W1 v5) W1 := by
    intro y hy
    have h1 := HN5.out y hy
    have hs0 := HB0.out.size
    rw [← hW1]
    have hlt : w.heap.size < W0.heap.size := (Array.getElem?_eq_some_iff.1 HT0.out).1
    have h2 : y.Ok (fun k => New bx w w5 v5 k ∧ k ≠ w.heap.size) w5 := h1.mono (fun k hk => ⟨⟨hk.1, Nat.le_trans hs0 hk.2⟩, by have := hk.2; omega⟩)
    exact (h2.keep (fun k _ hk ho _ => (two_other hk.2 _ _).trans ho)).mono (fun k hk => ⟨⟨by simpa using hk.1.1.1, hk.1.1.2⟩, hk.1.2⟩)
  rw [hW1]
  obtain ⟨y0, y1, _, _⟩ := two_cells hT1
  refine bodyPost_ret (v := .agg #[.int .i64 (xs.length : Int), .int .i64 0]) (by simp [results, Tryd.results32, go_sem, y0, y1]) rfl ?_
  refine ⟨v5, ys, ?_, hB1, hN1, ?_, hK1⟩
  · rw [pref_k HK8.out HK9.out]
  · rw [pnod_k HK8.out HK9.out]; exact HY5.out
end Go.Proofs.YtecdapihfiahiaaDoor

/- Graphs: add at a TRec; Build. -/
namespace Go.Proofs.YtecdapihfiahiaaDoor
open Go.RowKit Go.Deep Go.Shelf

set_option maxHeartbeats 16000000 in
set_option maxRecDepth 100000 in
theorem add_8 (p s : Int) (nm : ByteArray) (ls : List ByteArray) (u : Ty) (ih : AddAt u) : AddAt (.mk 8 p nm s ls [u]) := by
  intro base bx kb ko eb n e v xs w hbu hta hev hd hs hok
  obtain ⟨la, ln, lc, ka, kn, kc, ⟨c0, c1, c2, c3, c4, c5⟩, hval⟩ := hta.load'
  obtain ⟨lv, kv, ea, _, _, hks⟩ := hval
  simp only [Value.agg.injEq, Array.mk.injEq, List.cons.injEq, and_true, true_and] at ea
  obtain ⟨rfl, rfl⟩ := ea
  obtain ⟨pa', len', c', e0, hlen, hmx, hget⟩ := hks.open
  simp only [Value.slice.injEq] at e0
  obtain ⟨rfl, rfl, rfl⟩ := e0
  have hlen1 : kn = 1 := hlen.out
  subst hlen1
  obtain ⟨ub, uo, rfl, hub, hua⟩ := hget 0 u rfl
  rw [Nat.zero_mul, Nat.add_zero] at hua
  simp only [Ty.k, Ty.p, Ty.n, Ty.s] at c0 c1 c2 c3
  have hkb : kb < base := (TyAt.eq.1 hta).1
  have hnm : nm.size ≤ maxLen := (TyAt.eq.1 hta).2.1
  have hbw := hbu.hw
  have hok' : u.okg := by simp only [Ty.okg, Ty.okgs] at hok; exact hok.2.2.2.2.1
  have hdu : n + 1 + u.depth ≤ 100000 := by simp only [Ty.depth, Ty.depths] at hd; omega
  have hsu : xs.length + u.size ≤ 1000000 := by simp only [Ty.size, Ty.sizes] at hs; omega
  obtain ⟨va, vc, rfl⟩ := hbu.slice
  have HBU := Lib.hid hbu
  have HEV := Lib.hid hev
  have HC0 : Hid (∀ W, Below base w W → W.cell? ⟨kb, ko, none⟩ = some (.int .i64 8) ∧ W.cell? ⟨kb, ko + 2, none⟩ = some (.string nm) ∧ W.cell? ⟨kb, ko + 5, none⟩ = some (.slice (some ⟨ub, uo, none⟩) 1 kc)) := Lib.hid (fun W hW => ⟨(hW.cell (p := ⟨kb, _, none⟩) hkb).trans c0, (hW.cell (p := ⟨kb, _, none⟩) hkb).trans c2, (hW.cell (p := ⟨kb, _, none⟩) hkb).trans c5⟩)
  obtain ⟨W0, hW0⟩ : ∃ W0, w.alloc (refBox (.int .i64 0) (.int .i64 0)) = W0 := ⟨_, rfl⟩
  have hb0 : Below w.heap.size w W0 := by rw [← hW0]; exact blkBelow w _ _
  have t0 : W0.heap[w.heap.size]? = some (refBox (.int .i64 0) (.int .i64 0)) := by rw [← hW0]; exact World.alloc_heap_new _ _
  have HW0 := Lib.hid hW0
  have HB0 := Lib.hid hb0
  have HT0 := Lib.hid t0
  have HNM := Lib.hid hnm
  have HW := Lib.hid (with_any eb n e nm xs.length W0.drew ((hev.to hb0).same (w' := W0.drew) rfl) (by omega) hnm)
  have HUA := Lib.hid hua
  have HIH := Lib.hid ih
  have HB0' : Hid (Bu base bx W0.drew (.slice va xs.length vc) xs) := Lib.hid (hbu.to hb0).drew
  have HOK := Lib.hid hok'
  clear hbu hev hd hs hok hta hks hget c0 c1 c2 c3 c4 c5 hW0 hb0 t0 hnm hua ih hok'
  go_enter Tryd.func32, Tryd.ntmps32
  obtain ⟨c0, c2, c5⟩ := HC0.out W0 (HB0.out.mono hbw)
  go_upto_region 1 with fail
  rw [show w.alloc (.cells #[.int .i64 0, .int .i64 0] 37) = W0 from HW0.out]
  go_upto_region 5 with fail
  refine wp_region_held_drew (S := fun W => W.cell? ⟨kb, ko, none⟩ = some (.int .i64 8) ∧ W.cell? ⟨kb, ko + 2, none⟩ = some (.string nm) ∧ W.cell? ⟨kb, ko + 5, none⟩ = some (.slice (some ⟨ub, uo, none⟩) 1 kc)) (by kernel_rfl) ⟨c0, c2, c5⟩ (fun hHeld => ?_)
  refine wpAnyH_take_l 0 (v := ?v0) rfl rfl (by kernel_rfl) (by kernel_rfl) (by kernel_rfl) (fun _ _ _ h => h) ?h0 (by assumption) ?r0
  case h0 => (intro w hSw; (try dsimp only at hSw); go_simp; try rfl)
  case' r0 => simp only [setD, List.set_cons_succ, List.set_cons_zero]
  refine wpAnyH_take_l 1 (v := ?v1) rfl rfl (by kernel_rfl) (by kernel_rfl) (by kernel_rfl) (fun _ _ _ h => h) ?h1 (by assumption) ?r1
  case h1 => (intro w hSw; (try dsimp only at hSw); go_simp; try rfl)
  case' r1 => simp only [setD, List.set_cons_succ, List.set_cons_zero]
  refine wpAnyH_take_l 2 (v := ?v2) rfl rfl (by kernel_rfl) (by kernel_rfl) (by kernel_rfl) (fun _ _ _ h => h) ?h2 (by assumption) ?r2
  case h2 => (intro w hSw; (try dsimp only at hSw); go_simp; try rfl)
  case' r2 => simp only [setD, List.set_cons_succ, List.set_cons_zero]
  refine wpAnyH_take_l 3 (v := ?v3) rfl rfl (by kernel_rfl) (by kernel_rfl) (by kernel_rfl) (fun _ _ _ h => h) ?h3 (by assumption) ?r3
  case h3 => (intro w hSw; (try dsimp only at hSw); go_simp; try rfl)
  case' r3 => simp only [setD, List.set_cons_succ, List.set_cons_zero]
  refine wpAnyH_take_l 4 (v := ?v4) rfl rfl (by kernel_rfl) (by kernel_rfl) (by kernel_rfl) (fun _ _ _ h => h) ?h4 (by assumption) ?r4
  case h4 => (intro w hSw; (try dsimp only at hSw); go_simp; try rfl)
  case' r4 => simp only [setD, List.set_cons_succ, List.set_cons_zero]
  refine wpAnyH_take_l 5 (v := ?v5) rfl rfl (by kernel_rfl) (by kernel_rfl) (by kernel_rfl) (fun _ _ _ h => h) ?h5 (by assumption) ?r5
  case h5 => (intro w hSw; (try dsimp only at hSw); go_simp; try rfl)
  case' r5 => simp only [setD, List.set_cons_succ, List.set_cons_zero]
  refine wpAnyH_take_l 6 (v := ?v6) rfl rfl (by kernel_rfl) (by kernel_rfl) (by kernel_rfl) (fun _ _ _ h => h) ?h6 (by assumption) ?r6
  case h6 => (intro w hSw; (try dsimp only at hSw); go_simp; try rfl)
  case' r6 => simp only [setD, List.set_cons_succ, List.set_cons_zero]
  refine wpAnyH_take_l 7 (v := ?v7) rfl rfl (by kernel_rfl) (by kernel_rfl) (by kernel_rfl) (fun _ _ _ h => h) ?h7 (by assumption) ?r7
  case h7 => (intro w hSw; (try dsimp only at hSw); go_simp; try rfl)
  case' r7 => simp only [setD, List.set_cons_succ, List.set_cons_zero]
  refine wpAnyH_take_l 8 (v := ?v8) rfl rfl (by kernel_rfl) (by kernel_rfl) (by kernel_rfl) (fun _ _ _ h => h) ?h8 (by assumption) ?r8
  case h8 => (intro w hSw; (try dsimp only at hSw); go_simp; try rfl)
  case' r8 => simp only [setD, List.set_cons_succ, List.set_cons_zero]
  refine wpAnyH_take_l 9 (v := ?v9) rfl rfl (by kernel_rfl) (by kernel_rfl) (by kernel_rfl) (fun _ _ _ h => h) ?h9 (by assumption) ?r9
  case h9 => (intro w hSw; (try dsimp only at hSw); go_simp; try rfl)
  case' r9 => simp only [setD, List.set_cons_succ, List.set_cons_zero]
  refine wpAnyH_take_l 10 (v := ?v10) rfl rfl (by kernel_rfl) (by kernel_rfl) (by kernel_rfl) (fun _ _ _ h => h) ?h10 (by assumption) ?r10
  case h10 => (intro w hSw; (try dsimp only at hSw); go_simp; try rfl)
  case' r10 => simp only [setD, List.set_cons_succ, List.set_cons_zero]
  refine wpAnyH_take_l 11 (v := ?v11) rfl rfl (by kernel_rfl) (by kernel_rfl) (by kernel_rfl) (fun _ _ _ h => h) ?h11 (by assumption) ?r11
  case h11 => (intro w hSw; (try dsimp only at hSw); go_simp; try rfl)
  case' r11 => simp only [setD, List.set_cons_succ, List.set_cons_zero]
  refine wpAnyH_take_l 12 (v := ?v12) rfl rfl (by kernel_rfl) (by kernel_rfl) (by kernel_rfl) (fun _ _ _ h => h) ?h12 (by assumption) ?r12
  case h12 => (intro w hSw; (try dsimp only at hSw); go_simp; try rfl)
  case' r12 => simp only [setD, List.set_cons_succ, List.set_cons_zero]
  refine wpAnyH_take_l 13 (v := ?v13) rfl rfl (by kernel_rfl) (by kernel_rfl) (by kernel_rfl) (fun _ _ _ h => h) ?h13 (by assumption) ?r13
  case h13 => (intro w hSw; (try dsimp only at hSw); go_simp; try rfl)
  case' r13 => simp only [setD, List.set_cons_succ, List.set_cons_zero]
  have q0 := HB0'.out.cell
  refine wpAnyH_one 14 rfl rfl (by kernel_rfl) (fun K hK => ?_)
  have hK2 := hK.out
  clear hK
  simp only [setD, List.set_cons_succ, List.set_cons_zero] at hK2 ⊢
  go_simp
  refine hK2 _ _ hHeld (fun _ => ?_)
  clear hK2 K
  clear q0 c0 c2 c5 hHeld
  refine wpAnyH_one 15 rfl rfl (by kernel_rfl) (fun K hK => ?_)
  have hK2 := hK.out
  clear hK
  simp only [setD, List.set_cons_succ, List.set_cons_zero] at hK2 ⊢
  go_simp
  refine hK2 _ _ (HC0.out W0.drew (HB0.out.mono hbw).drew) (fun _ => ?_)
  clear hK2 K
  refine wpAnyH_one 16 rfl rfl (by kernel_rfl) (fun K hK => ?_)
  have hK2 := hK.out
  clear hK
  simp only [setD, List.set_cons_succ, List.set_cons_zero] at hK2 ⊢
  go_simp
  refine HW.out.mono ?_
  rintro en w1 ⟨cb, rfl, hcb, hev1, hb1⟩
  dsimp only
  have hbb1 := HB0'.out.to hb1
  have hk1 : BkG base bx w (.slice va xs.length vc) w1 (.slice va xs.length vc) := (BkG.of_below HB0.out hbw bx _).drew.trans (BkG.of_below hb1 HB0'.out.hw bx _)
  have ht1 : w1.heap[w.heap.size]? = some (refBox (.int .i64 0) (.int .i64 0)) := (hb1.block _ (Array.getElem?_eq_some_iff.1 (show W0.drew.heap[w.heap.size]? = _ from HT0.out)).1).trans HT0.out
  have HK1 := Lib.hid hk1
  have HB1 := Lib.hid hbb1
  have HT1 := Lib.hid ht1
  have HEV1 := Lib.hid hev1
  refine hK2 _ _ (HC0.out w1 hk1.below) (fun _ => ?_)
  clear hbb1 hk1 ht1 hev1 hb1
  clear hK2 K
  refine wpAnyH_one 17 rfl rfl (by kernel_rfl) (fun K hK => ?_)
  have hK2 := hK.out
  clear hK
  simp only [setD, List.set_cons_succ, List.set_cons_zero] at hK2 ⊢
  have HA := Lib.hid (HIH.out base bx ub uo cb (n + 1) (upE e nm xs.length) (.slice va xs.length vc) xs w1 HB1.out (TyAt.keep HK1.out.below.keeps' _ _ _ HUA.out) HEV1.out hdu hsu HOK.out)
  go_simp
  refine HA.out.mono ?_
  rintro en w2 ⟨v2, ys, rfl, hb2, hn2, hy2, hk2⟩
  dsimp only
  have hlt1 : w.heap.size < w1.heap.size := (Array.getElem?_eq_some_iff.1 HT1.out).1
  have ht2 : w2.heap[w.heap.size]? = some (refBox (.int .i64 0) (.int .i64 0)) := by
    obtain ⟨h1, h2⟩ := HB1.out.apart HT1.out (fun cs t fr e => by cases e; exact refT_plain)
    exact (hk2.side _ hlt1 h1 h2).trans HT1.out
  have HK2 := Lib.hid (HK1.out.trans hk2)
  have HB2 := Lib.hid hb2
  have HN2 := Lib.hid hn2
  have HY2 := Lib.hid hy2
  have HT2 := Lib.hid ht2
  refine hK2 _ _ (HC0.out w2 HK2.out.below) (fun _ => ?_)
  clear hb2 hn2 hy2 hk2 ht2
  clear hK2 K
  refine wpAnyH_one 18 rfl rfl (by kernel_rfl) (fun K hK => ?_)
  have hK2 := hK.out
  clear hK
  simp only [setD] at hK2 ⊢
  obtain ⟨z0, z1, z2, z3⟩ := two_cells HT2.out
  obtain ⟨r, hr⟩ : ∃ r, u.pref xs.length (upE e nm xs.length) = r := ⟨_, rfl⟩
  rw [hr] at hK2 ⊢
  have HR := Lib.hid hr
  clear hr
  go_simp
  clear z0 z1 z2 z3
  obtain ⟨W3, hW3⟩ : ∃ W3, ((w2.setCell ⟨w.heap.size, 0, none⟩ (.int .i64 r.n)).setCell ⟨w.heap.size, 1, none⟩ (.int .i64 r.s)) = W3 := ⟨_, rfl⟩
  have hT3 : W3.heap[w.heap.size]? = some (refBox (.int .i64 r.n) (.int .i64 r.s)) := by rw [← hW3]; exact two_fill HT2.out _ _
  have hB3 : Bu base bx W3 v2 (xs ++ ys) := by rw [← hW3]; exact HB2.out.fill HT2.out _ _
  have hK3 : BkG base bx w (.slice va xs.length vc) W3 v2 := by rw [← hW3]; exact HK2.out.fill (Nat.le_refl _) hbw _ _
  have hN3 : ∀ y ∈ ys, y.Ok (New bx w W3 v2) W3 := by
    intro y hy
    have h1 := HN2.out y hy
    have hs0 := HK1.out.below.size
    rw [← hW3]
    have h2 : y.Ok (fun k => New bx w w2 v2 k ∧ k ≠ w.heap.size) w2 := h1.mono (fun k hk => ⟨⟨hk.1, Nat.le_trans hs0 hk.2⟩, by have := hk.2; omega⟩)
    exact (h2.keep (fun k _ hk ho _ => (two_other hk.2 _ _).trans ho)).mono (fun k hk => ⟨⟨by simpa using hk.1.1.1, hk.1.1.2⟩, hk.1.2⟩)
  rw [hW3]
  refine hK2 undef W3 (HC0.out W3 hK3.below) (fun _ => ?_)
  clear hK2 K
  refine wpAnyH_done (by kernel_rfl) ?_ _
  obtain ⟨y0, y1, _, _⟩ := two_cells hT3
  have HB3 := Lib.hid hB3
  have HK3 := Lib.hid hK3
  have HN3 := Lib.hid hN3
  clear hB3 hK3 hN3 hT3
  go_wp2_with fail
  refine bodyPost_ret (v := .agg #[.int .i64 r.n, .int .i64 r.s]) (by simp [results, Tryd.results32, go_sem, y0, y1]) rfl ?_
  refine ⟨v2, ys, ?_, HB3.out, HN3.out, ?_, HK3.out⟩
  · rw [pref_8, HR.out]
  · rw [pnod_8]; exact HY2.out
theorem add_any : ∀ t : Ty, t.okg → AddAt t := by
  refine Ty.ind ?_
  intro k p n s ls ts ih hok
  have hok0 := hok
  simp only [Ty.okg] at hok
  obtain ⟨_, h1, _, _, hk⟩ := hok
  have ih' : ∀ t ∈ ts, AddAt t := fun t ht => ih t ht (Ty.okgs_mem hk t ht)
  by_cases h8 : k = 8
  · subst h8
    obtain ⟨u, rfl⟩ : ∃ u, ts = [u] := by
      match ts, h1 rfl with
      | [u], _ => exact ⟨u, rfl⟩
    exact add_8 p s n ls u (ih' u (by simp))
  · by_cases h9 : k = 9
    · subst h9
      exact add_9 p s n ls ts
    · exact add_k (.mk k p n s ls ts) (addAll_any ts ih') h8 h9
theorem addAll_ok (ts : List Ty) (h : Ty.okgs ts) : AddAllAt ts := addAll_any ts (fun t ht => add_any t (Ty.okgs_mem h t ht))

end Go.Proofs.YtecdapihfiahiaaDoor

/- Graphs: Build. -/
namespace Go.Proofs.YtecdapihfiahiaaDoor
open Go.RowKit Go.Deep Go.Shelf

theorem run_makeMap_env (w : World) : (Instr.makeMap 64 none).run Tryd.prog w = .ok (.map (some w.heap.size)) (w.alloc (.map #[] 0)) := by simp [Instr.makeMap]
/-- The nodes and the references of a list of types. -/
def gNodes (ts : List Ty) : List GNode := Ty.pnods 0 (fun _ => 0) ts
def gRefs (ts : List Ty) : List GRef := Ty.prefs 0 (fun _ => 0) ts

set_option maxHeartbeats 8000000 in
set_option maxRecDepth 100000 in
theorem build_any (ts : List Ty) (pa : Option Addr) (len c : Nat) (w : World) (hts : TySl (fun k => k < w.heap.size) w (.slice pa len c) ts) (hs : Ty.sizes ts ≤ 1000000) (hdp : Ty.depths ts ≤ 100000) (hok : Ty.okgs ts) :
    Calls Tryd.prog 9 #[.slice pa len c] w fun en w' => ∃ (na : Option Addr) (nn nc : Nat) (ra : Option Addr) (rn rc : Nat), en = .returned (.tuple #[.agg #[.slice na nn nc], .slice ra rn rc]) ∧ NodeSl (Fresh w.heap.size w'.heap.size) w' (.slice na nn nc) (gNodes ts) ∧ RefSl (Fresh w.heap.size w'.heap.size) w' (.slice ra rn rc) (gRefs ts) ∧ Below w.heap.size w w' := by
  obtain ⟨W1, hW1⟩ : ∃ W1, ((w.alloc (.cells #[.slice none 0 0] 27)).alloc (.cells #[.slice none 0 0] 61)) = W1 := ⟨_, rfl⟩
  obtain ⟨W2, hW2⟩ : ∃ W2, W1.alloc (.map #[] 0) = W2 := ⟨_, rfl⟩
  have hs1 : W1.heap.size = w.heap.size + 2 := by rw [← hW1]; simp
  have hs2 : W2.heap.size = w.heap.size + 3 := by rw [← hW2]; simp [hs1]
  have hb1 : Below w.heap.size w W1 := by rw [← hW1]; exact ((Below.refl _ _).alloc (Nat.le_refl _) _).alloc (by simp) _
  have hb2 : Below w.heap.size w W2 := by rw [← hW2]; exact hb1.alloc (by omega) _
  have g1 : W2.heap[w.heap.size]? = some (.cells #[.slice none 0 0] 27 (0, 0)) := by
    rw [← hW2, (Below.heap_alloc W1 _ _ (by omega)), ← hW1, (Below.heap_alloc _ _ _ (by simp))]; exact World.alloc_heap_new _ _
  have g2 : W2.heap[w.heap.size + 1]? = some (.cells #[.slice none 0 0] 61 (0, 0)) := by
    rw [← hW2, (Below.heap_alloc W1 _ _ (by omega)), ← hW1]
    have := World.alloc_heap_new (w.alloc (.cells #[.slice none 0 0] 27)) (.cells #[.slice none 0 0] 61)
    rwa [World.size_alloc] at this
  have hbu : Bu w.heap.size (w.heap.size + 1) W2 (.slice none 0 0) [] := ⟨g2, by omega, by omega, GRow.nil _ _ _ _⟩
  have hev : EnvIs W2 (w.heap.size + 2) 0 (fun _ => 0) := by
    have := EnvIs.made W1
    rw [hW2, hs1] at this; exact this
  have HC := Lib.hid (addAll_ok ts hok w.heap.size (w.heap.size + 1) (w.heap.size + 2) 0 (fun _ => 0) (.slice none 0 0) [] pa len c W2 hbu (hts.keep hb2.keeps') hev (by omega) (by simpa using hs) hok)
  have HBU := Lib.hid hbu
  have HW1 := Lib.hid hW1
  have HW2 := Lib.hid hW2
  have HB2 := Lib.hid hb2
  have HG1 := Lib.hid g1
  have HS := Lib.hid hs
  have HOK := Lib.hid hok
  clear hbu hev hdp hts hs hok hW1 hW2 hb1 hb2 g1 g2
  go_enter Tryd.func9, Tryd.ntmps9
  go_upto_region 2 with fail
  rw [show (w.alloc (.cells #[.slice none 0 0] 27)).alloc (.cells #[.slice none 0 0] 61) = W1 from HW1.out]
  have hmk : (Instr.makeMap 64 none).run Tryd.prog W1 = .ok (.map (some (w.heap.size + 2))) W2 := by rw [run_makeMap_env, hs1, HW2.out]
  have hgp : 27 ≠ 52 ∧ 27 ≠ 61 := by decide
  go_wp2_with (go_at_call 20; go_loud (refine HC.out.mono ?_; rintro en w5 ⟨v5, rv, ys, rfl, hr5, hb5, hn5, hy5, hk5⟩; obtain ⟨ra, rn, rc, rfl⟩ := hr5.slice; obtain ⟨na, nc, rfl⟩ := hb5.slice; have q0 := hb5.cell; have ht5 : w5.heap[w.heap.size]? = some (.cells #[.slice none 0 0] 27 (0, 0)) := (hk5.side _ (by omega) (by omega) (fun e => by cases e)).trans HG1.out; have q1 : w5.cell? ⟨w.heap.size, 0, none⟩ = some (.slice none 0 0) := (by simp [World.cell?, ht5]); have q2 := frozen_of_block ht5 0; have HT5 := Lib.hid ht5; have HR5 := Lib.hid hr5; have HB5 := Lib.hid hb5; have HN5 := Lib.hid hn5; have HY5 := Lib.hid hy5; have HK5 := Lib.hid hk5; clear hr5 hb5 hn5 hy5 hk5 ht5))
  clear q0 q1 q2
  obtain ⟨W6, hW6⟩ : ∃ W6, w5.setCell ⟨w.heap.size, 0, none⟩ (.slice na ys.length nc) = W6 := ⟨_, rfl⟩
  have hT6 : W6.heap[w.heap.size]? = some (.cells #[.slice na ys.length nc] 27 (0, 0)) := by rw [← hW6]; exact set_block HT5.out 0 _
  have y0 : W6.cell? ⟨w.heap.size, 0, none⟩ = some (.slice na ys.length nc) := by simp [World.cell?, hT6]
  have hoth : ∀ k, k ≠ w.heap.size → W6.heap[k]? = w5.heap[k]? := fun k hk => by rw [← hW6]; exact set_oth _ _ _ hk
  have hs6 : W6.heap.size = w5.heap.size := by rw [← hW6]; simp
  rw [hW6]
  refine bodyPost_ret (v := .tuple #[.agg #[.slice na ys.length nc], .slice ra rn rc]) (by simp [results, Tryd.results9, go_sem, y0]) rfl ?_
  refine ⟨na, _, nc, ra, rn, rc, rfl, ?_, ?_, ?_⟩
  · have hlen : ys.length ≤ 1000000 := by
      have h := congrArg List.length HY5.out
      rw [List.length_map, pnods_ok _ _ HOK.out] at h
      have := Ty.gcnts_le ts
      have := HS.out
      omega
    have hrow : GRow 52 4 w.heap.size W6 (.slice na ys.length nc) (([] ++ ys).map NV.cells) := HB5.out.row.kept (fun k hk => hoth k (fun e => by
      obtain ⟨cs, hc⟩ := HB5.out.row.obj hk
      subst e
      have := hc.symm.trans HT5.out
      cases this))
    have hok6 : ∀ x ∈ [] ++ ys, x.Ok (fun k => w.heap.size ≤ k ∧ k < W6.heap.size) W6 := by
      intro x hx
      have h1 := HN5.out x hx
      refine (h1.keep (fun k o hk ho _ => (hoth k (by have := hk.1.2; omega)).trans ho)).mono (fun k hk => ⟨by have := hk.1.2; omega, by rw [hs6]; exact hk.1.1.1⟩)
    have h := hrow.nodes hok6 (by simp [maxLen]; omega)
    rw [List.nil_append, HY5.out] at h
    refine h.mono (fun k hk => ?_)
    rcases hk with hk | hk
    · exact hk
    · exact hk
  · have hl : (Ty.prefs ([] : List NV).length (fun _ => 0) ts).length ≤ maxLen := by
      have h1 := prefs_len (e := fun _ => 0) ts ([] : List NV).length
      have h2 := Ty.length_sizes ts
      have := HS.out
      rw [h1]; unfold maxLen; omega
    have h := HR5.out.refs hl
    have h' := h.keep (w' := W6) (fun k o hk ho _ => (hoth k (by omega)).trans ho)
    exact h'.mono (fun k hk => ⟨by omega, by rw [hs6]; exact hk.2⟩)
  · rw [← hW6]; exact (HB2.out.trans (HK5.out.below)).setCell (Nat.le_refl _) _
end Go.Proofs.YtecdapihfiahiaaDoor

/- Graphs: sets of numbers as words of bits. -/
namespace Go.Proofs.YtecdapihfiahiaaDoor
open Go.RowKit Go.Deep Go.Shelf

abbrev wordV (x : Nat) : Value := .int .u64 (x : Int)
/-- Block b holds these words. -/
structure Words (W : World) (b : Nat) (ws : List Nat) : Prop where
  at_ : W.heap[b]? = some (.cells (ws.map wordV).toArray 78 (0, 0))
  lt : ∀ x ∈ ws, x < 18446744073709551616
theorem Words.cell {W : World} {b : Nat} {ws : List Nat} (h : Words W b ws) {i x : Nat} (hi : ws[i]? = some x) : W.cell? ⟨b, i, none⟩ = some (wordV x) ∧ W.frozen? ⟨b, i, none⟩ = false := by
  refine ⟨?_, frozen_of_block h.at_ i⟩
  simp only [World.cell?, h.at_]
  simp [hi]
theorem Words.same {W W' : World} {b : Nat} {ws : List Nat} (h : Words W b ws) (e : W'.heap[b]? = W.heap[b]?) : Words W' b ws := ⟨e.trans h.at_, h.lt⟩
theorem Words.set {W : World} {b : Nat} {ws : List Nat} (h : Words W b ws) (i x : Nat) (hx : x < 18446744073709551616) : Words (W.setCell ⟨b, i, none⟩ (wordV x)) b (ws.set i x) := by
  refine ⟨?_, fun y hy => ?_⟩
  · rw [set_block h.at_ i (wordV x), List.map_set, List.setIfInBounds_toArray]
  · rcases List.mem_or_eq_of_mem_set hy with hy | rfl
    · exact h.lt y hy
    · exact hx
/-- Is a number in the set? -/
def inW (ws : List Nat) (n : Nat) : Bool := (ws.getD (n / 64) 0).testBit (n % 64)
theorem inW_new (N n : Nat) : inW (List.replicate N 0) n = false := by
  unfold inW
  by_cases h : n / 64 < N
  · simp [List.getD, h]
  · simp [List.getD, h]
theorem inW_add {ws : List Nat} {n x : Nat} (hn : ws[n / 64]? = some x) (m : Nat) : inW (ws.set (n / 64) (x ||| 2 ^ (n % 64))) m = (m == n || inW ws m) := by
  unfold inW
  have hl : n / 64 < ws.length := (List.getElem?_eq_some_iff.1 hn).1
  by_cases h : m / 64 = n / 64
  · rw [h]
    have e1 : (ws.set (n / 64) (x ||| 2 ^ (n % 64))).getD (n / 64) 0 = x ||| 2 ^ (n % 64) := by simp [List.getD, hl]
    have e2 : ws.getD (n / 64) 0 = x := by simp [List.getD, hn]
    rw [e1, e2, Nat.testBit_or, Nat.testBit_two_pow]
    have e3 : decide (n % 64 = m % 64) = (m == n) := by
      rw [Bool.eq_iff_iff]; simp; omega
    rw [e3, Bool.or_comm]
  · have e1 : (ws.set (n / 64) (x ||| 2 ^ (n % 64))).getD (m / 64) 0 = ws.getD (m / 64) 0 := by
      simp [List.getD, Ne.symm h]
    have e2 : (m == n) = false := by simp; intro e; exact h (by rw [e])
    rw [e1, e2, Bool.false_or]

set_option maxHeartbeats 4000000 in
set_option maxRecDepth 100000 in
theorem add_bit (b : Nat) (ws : List Nat) (n c : Nat) (x : Nat) (w : World) (h : Words w b ws) (hx : ws[n / 64]? = some x) (hn : n < 100000000) :
    Calls Tryd.prog 25 #[.slice (some ⟨b, 0, none⟩) ws.length c, .int .i64 (n : Int)] w fun e w' => e = .returned (.bool (!inW ws n)) ∧ Words w' b (ws.set (n / 64) (x ||| 2 ^ (n % 64))) ∧ w.grownBy w' (some b) := by
  have hl : n / 64 < ws.length := (List.getElem?_eq_some_iff.1 hx).1
  obtain ⟨q, hq⟩ : ∃ q, n / 64 = q := ⟨_, rfl⟩
  obtain ⟨r, hr⟩ : ∃ r, n % 64 = r := ⟨_, rfl⟩
  obtain ⟨N, hN⟩ : ∃ N, ws.length = N := ⟨_, rfl⟩
  have hr64 : r < 64 := by omega
  rw [hq] at hl hx ⊢
  rw [hr]
  obtain ⟨hc, hf⟩ := h.cell hx
  have eq1 : ((n : Int).tdiv 64) = (q : Int) := by rw [← hq]; rfl
  have eq2 : ((n : Int).tmod 64) = (r : Int) := by rw [← hr]; rfl
  rw [hN] at hl ⊢
  have hx64 : x < 18446744073709551616 := h.lt x (List.mem_of_getElem? hx)
  obtain ⟨m, hm⟩ : ∃ m, 2 ^ r = m := ⟨_, rfl⟩
  have hm64 : m < 18446744073709551616 := by rw [← hm]; exact Nat.pow_lt_pow_right (by decide) hr64
  have hm0 : 0 < m := by rw [← hm]; exact Nat.two_pow_pos r
  have ew : IntKind.u64.wrap (2 ^ r) = (m : Int) := by
    have e : ((2 : Int) ^ r) = (m : Int) := by rw [← hm]; simp
    rw [e, IntKind.wrap_u64]; omega
  have eor : bits .or .u64 (x : Int) (m : Int) = ((x ||| m : Nat) : Int) := bits_or_u64_nat x m hx64 hm64
  have hor : x ||| m < 18446744073709551616 := Nat.or_lt_two_pow (n := 64) hx64 hm64
  obtain ⟨z, hz⟩ : ∃ z, x ||| m = z := ⟨_, rfl⟩
  have hin : inW ws n = x.testBit r := by unfold inW; rw [hq, hr]; simp [List.getD, hx]
  have HH := Lib.hid h
  have HZ := Lib.hid hor
  rw [hm, hz]
  rw [hz] at eor
  rw [hz] at HZ
  have HIN := Lib.hid hin
  cases hb : x.testBit r
  all_goals (
    have HBT := Lib.hid hb
    have eand : bits .and .u64 (x : Int) (m : Int) = ((if x.testBit r then m else 0 : Nat) : Int) := by
      rw [bits_and_u64_nat x m hx64 hm64, ← hm]
      congr 1
      apply Nat.eq_of_testBit_eq
      intro i
      rw [Nat.testBit_and, Nat.testBit_two_pow]
      by_cases hi : r = i
      · subst hi
        cases hbb : x.testBit r with
        | true => simp
        | false => simp
      · simp [hi]
        split <;> simp [hi]
    rw [hb] at eand
    have hm1 : ((m : Int) == 0) = false := by simp; omega
    simp only [Bool.false_eq_true, if_false, if_true] at eand
    clear h hin hx64 hm64 hor hz hb hm hx)
  all_goals (go_enter Tryd.func25, Tryd.ntmps25; go_upto_region 1 with fail; go_quiet (fail); go_wp2_with fail; go_ret)
  all_goals exact ⟨by rw [HIN.out, HBT.out]; rfl, (HH.out.set q z HZ.out).same rfl, ⟨rfl, rfl, rfl, by simp, fun k _ hne => set_oth _ _ _ (fun e => hne (by rw [e]))⟩⟩
end Go.Proofs.YtecdapihfiahiaaDoor

/- Graphs: the numbers of a set in ascending order. -/
namespace Go.Proofs.YtecdapihfiahiaaDoor
open Go.RowKit Go.Deep Go.Shelf

/-! ### The bits of a word -/
def bitsOf (x : Nat) : List Nat := (List.range 64).filter (fun j => x.testBit j)
theorem filter_step {p q : Nat → Bool} {k : Nat} (hk : p k = true) (hlt : ∀ j, j < k → p j = false) (hq : ∀ j, q j = (p j && !(j == k))) : ∀ n, (n ≤ k → (List.range n).filter p = [] ∧ (List.range n).filter q = []) ∧ (k < n → (List.range n).filter p = k :: (List.range n).filter q)
  | 0 => ⟨fun _ => ⟨rfl, rfl⟩, fun h => by omega⟩
  | n + 1 => by
    obtain ⟨h1, h2⟩ := filter_step hk hlt hq n
    rw [List.range_succ, List.filter_append, List.filter_append]
    refine ⟨fun hn => ?_, fun hn => ?_⟩
    · obtain ⟨a, b⟩ := h1 (by omega)
      rw [a, b]
      have e1 := hlt n (by omega)
      have e2 := hq n
      rw [e1] at e2
      simp [e1, e2]
    · by_cases hkn : k < n
      · rw [h2 hkn]
        have e2 := hq n
        have e3 : (n == k) = false := by simp; omega
        rw [e3] at e2
        simp only [Bool.not_false, Bool.and_true] at e2
        simp only [List.filter_cons, e2, List.filter_nil, List.cons_append]
      · obtain rfl : k = n := by omega
        obtain ⟨a, b⟩ := h1 (Nat.le_refl _)
        rw [a, b]
        have e2 := hq k
        simp only [beq_self_eq_true, Bool.not_true, Bool.and_false] at e2
        simp [hk, e2]
theorem bits_step {y : Nat} (h0 : y ≠ 0) (h : y < 18446744073709551616) : bitsOf y = Lib.ctz 64 y :: bitsOf (y &&& (y - 1)) ∧ y &&& (y - 1) < y ∧ Lib.ctz 64 y < 64 := by
  obtain ⟨m, hm, hk⟩ := Lib.ctzFrom_spec 64 y (by omega) h
  have hz : Lib.ctz 64 y = Lib.ctzFrom 64 y := by unfold Lib.ctz; rw [if_neg h0]
  rw [hz]
  obtain ⟨k, ek⟩ : ∃ k, Lib.ctzFrom 64 y = k := ⟨_, rfl⟩
  rw [ek] at hm hk ⊢
  have hp : 0 < 2 ^ k := Nat.two_pow_pos k
  have ey : y = 2 ^ (k + 1) * m + 2 ^ k := by rw [hm, Nat.pow_succ]; simp only [Nat.mul_add, Nat.mul_one, Nat.mul_assoc]
  have ey1 : y - 1 = 2 ^ (k + 1) * m + (2 ^ k - 1) := by rw [ey]; omega
  have hb1 : 2 ^ k < 2 ^ (k + 1) := Nat.pow_lt_pow_right (by decide) (by omega)
  have t1 : ∀ j, y.testBit j = if j < k + 1 then decide (k = j) else m.testBit (j - (k + 1)) := fun j => by
    rw [ey, Nat.testBit_two_pow_mul_add m hb1 j, Nat.testBit_two_pow]
  have t2 : ∀ j, (y - 1).testBit j = if j < k + 1 then decide (j < k) else m.testBit (j - (k + 1)) := fun j => by
    rw [ey1, Nat.testBit_two_pow_mul_add m (by omega) j, Nat.testBit_two_pow_sub_one]
  have t3 : ∀ j, (y &&& (y - 1)).testBit j = (y.testBit j && !(j == k)) := fun j => by
    rw [Nat.testBit_and, t2, t1]
    by_cases hj : j < k + 1
    · rw [if_pos hj, if_pos hj]
      by_cases hjk : k = j
      · subst hjk; simp
      · simp [hjk]
    · rw [if_neg hj, if_neg hj]
      have : (j == k) = false := by simp; omega
      rw [this]; simp
  have hkt : y.testBit k = true := by rw [t1, if_pos (by omega)]; simp
  refine ⟨(filter_step (q := fun j => (y &&& (y - 1)).testBit j) hkt (fun j hj => by rw [t1, if_pos (by omega)]; simp; omega) t3 64).2 hk, ?_, hk⟩
  have hle : y &&& (y - 1) ≤ y - 1 := Nat.and_le_right
  omega
/-- All numbers of a set. -/
def allOf (ws : List Nat) : List Nat := (List.range (64 * ws.length)).filter (inW ws)
/-- .. of its first words. -/
def numsTo (ws : List Nat) (i : Nat) : List Nat := (List.range (64 * i)).filter (inW ws)
theorem numsTo_next {ws : List Nat} {i x : Nat} (h : ws[i]? = some x) : numsTo ws (i + 1) = numsTo ws i ++ (bitsOf x).map (fun j => i * 64 + j) := by
  unfold numsTo bitsOf
  rw [show 64 * (i + 1) = 64 * i + 64 by omega, List.range_add, List.filter_append]
  congr 1
  rw [List.filter_map]
  have e : (inW ws ∘ fun x => 64 * i + x) = fun j => inW ws (64 * i + j) := rfl
  rw [e]
  have e2 : (List.range 64).filter (fun j => inW ws (64 * i + j)) = (List.range 64).filter (fun j => x.testBit j) := by
    refine List.filter_congr (fun j hj => ?_)
    have hj64 := List.mem_range.1 hj
    unfold inW
    have e3 : (64 * i + j) / 64 = i := by omega
    have e4 : (64 * i + j) % 64 = j := by omega
    rw [e3, e4]
    simp [List.getD, h]
  rw [e2]
  refine List.map_congr_left (fun j _ => by omega)

abbrev intCell (n : Nat) : List Value := [.int .i64 (n : Int)]
theorem intT_plain : 3 ≠ 52 := by decide
set_option maxHeartbeats 8000000 in
set_option maxRecDepth 100000 in
theorem numbers_any (b c : Nat) (ws : List Nat) (E : Nat) (w : World) (he : GEnvW E w) (h : Words w b ws) (hN : ws.length ≤ 100000) :
    Calls Tryd.prog 26 #[.slice (some ⟨b, 0, none⟩) ws.length c] w fun e w' => ∃ (ra : Option Addr) (rn rc : Nat), e = .returned (.slice ra rn rc) ∧ GRow 3 1 w.heap.size w' (.slice ra rn rc) ((allOf ws).map intCell) ∧ Below w.heap.size w w' := by
  obtain ⟨N, hNl⟩ : ∃ N, ws.length = N := ⟨_, rfl⟩
  rw [hNl]
  have HNL := Lib.hid hNl
  have HH := Lib.hid h
  have HE := Lib.hid he
  have hN' : N ≤ 100000 := by omega
  have hbl : b < w.heap.size := (Array.getElem?_eq_some_iff.1 h.at_).1
  clear hN hNl h he
  go_enter Tryd.func26, Tryd.ntmps26
  go_wp2_with fail
  go_loopw [3, 8] (fun v i wr => ∃ (j : Nat) (ra : Option Addr) (rn rc : Nat), i = .int .i64 j ∧ j ≤ N ∧ v = .slice ra rn rc ∧ Hid (GRow 3 1 w.heap.size wr (.slice ra rn rc) ((numsTo ws j).map intCell)) ∧ Hid (Below w.heap.size w wr)) (fun _ i _ => N - (intOf i).toNat)
  case atStart => exact ⟨0, _, _, _, rfl, by omega, rfl, Lib.hid (by simpa [numsTo] using GRow.nil _ _ _ _), Lib.hid (Below.refl _ _)⟩
  case round =>
    obtain ⟨j, ra, rn, rc, rfl, hj, rfl, HR, HB⟩ := hrel
    obtain ⟨wo, hwo⟩ : ∃ wo, wo = wr := ⟨_, rfl⟩
    subst hwo
    by_cases hlt : j < N
    · obtain ⟨x, hx⟩ : ∃ x, ws[j]? = some x := ⟨_, List.getElem?_eq_getElem (by rw [HNL.out]; exact hlt)⟩
      obtain ⟨q0, _⟩ := (HH.out.same (HB.out.block b hbl)).cell hx
      have HX := Lib.hid hx
      have hx64 : x < 18446744073709551616 := HH.out.lt x (List.mem_of_getElem? hx)
      have hj64 : (j : Int) * 64 ≤ 6400000 := by omega
      clear hx
      go_wp2_with fail
      go_loopw [3, 5] (fun v y wr => ∃ (m : Nat) (ra : Option Addr) (rn rc : Nat) (pre : List Nat), y = .int .u64 (m : Int) ∧ m < 18446744073709551616 ∧ v = .slice ra rn rc ∧ Hid (GRow 3 1 w.heap.size wr (.slice ra rn rc) (pre.map intCell)) ∧ Hid (pre ++ (bitsOf m).map (fun i => j * 64 + i) = numsTo ws (j + 1)) ∧ Hid (Below w.heap.size w wr)) (fun _ y _ => (intOf y).toNat)
      case atStart => exact ⟨x, _, _, _, numsTo ws j, rfl, hx64, rfl, HR, Lib.hid (numsTo_next HX.out).symm, HB⟩
      case round =>
        obtain ⟨m, ra, rn, rc, pre, rfl, hm, rfl, HR, HP, HB⟩ := hrel
        by_cases h0 : m = 0
        · subst h0
          have HP' : Hid (pre = numsTo ws (j + 1)) := Lib.hid (by have h := HP.out; rwa [show bitsOf 0 = [] by decide, List.map_nil, List.append_nil] at h)
          go_wp2_with fail
          go_roundw
          case rel => exact ⟨j + 1, _, _, _, by go_num, by omega, rfl, Lib.hid (by rw [← HP'.out]; exact HR.out), HB⟩
          case measure => simp [intOf]; omega
        · obtain ⟨hb1, hb2, hk64⟩ := bits_step h0 hm
          obtain ⟨k, hk⟩ : ∃ k, Lib.ctz 64 m = k := ⟨_, rfl⟩
          obtain ⟨m', hm'⟩ : ∃ m', m &&& (m - 1) = m' := ⟨_, rfl⟩
          rw [hk] at hk64 hb1
          rw [hm'] at hb1 hb2
          have HTZ := Lib.hid (tz64_any m hm E wr (HE.out.to (HB.out.mono HE.out.le)))
          rw [hk] at HTZ
          have e0 : ((m : Int) == 0) = false := by simpa using h0
          have e1 : IntKind.i64.wrap ((j : Int) * 64) = (j : Int) * 64 := by rw [IntKind.wrap_i64]; omega
          have e2 : IntKind.i64.wrap ((j : Int) * 64 + (k : Int)) = (j : Int) * 64 + (k : Int) := by rw [IntKind.wrap_i64]; omega
          have e3 : IntKind.u64.wrap ((m : Int) - 1) = ((m - 1 : Nat) : Int) := by rw [IntKind.wrap_u64]; omega
          have e4 : bits .and .u64 (m : Int) ((m - 1 : Nat) : Int) = (m' : Int) := by rw [bits_and_u64_nat m (m - 1) hm (by omega), hm']
          have HV : Hid (intCell (j * 64 + k) = [.int .i64 ((j : Int) * 64 + (k : Int))]) := Lib.hid (by simp [intCell])
          have HPL : Hid (pre.length ≤ 6500000) := Lib.hid (by
            have h := congrArg List.length HP.out
            rw [List.length_append] at h
            have h2 : (numsTo ws (j + 1)).length ≤ 64 * (j + 1) := by unfold numsTo; refine Nat.le_trans (List.length_filter_le _ _) ?_; simp
            omega)
          have HP' : Hid ((pre ++ [j * 64 + k]) ++ (bitsOf m').map (fun i => j * 64 + i) = numsTo ws (j + 1)) := Lib.hid (by
            have h := HP.out
            rw [hb1, List.map_cons] at h
            rw [List.append_assoc]; exact h)
          have hwr : w.heap.size ≤ wr.heap.size := HB.out.size
          clear hb1 hk hm'
          go_wp2_with (first | (go_at_call 33; refine HTZ.out.mono ?_; rintro en w5 ⟨rfl, rfl⟩) | (at_builtin; refine wpList_appG intElem rfl _ _ rfl rfl (HR.out.alloc _) (some ⟨w5.heap.size, 0, none⟩) 1 1 [[.int .i64 ((j : Int) * 64 + (k : Int))]] rfl rfl (fun e he => by rw [List.mem_singleton.1 he]; rfl) (src_new w5 [.int .i64 ((j : Int) * 64 + (k : Int))] _) (fun e he u hu => by rw [List.mem_singleton.1 he] at hu; simp only [List.mem_cons, List.not_mem_nil, or_false] at hu; subst hu; rfl) (by have := HPL.out; simp only [List.length_map, List.length_singleton]; omega) (by simp; omega) ?_; intro ga gn gc w6 hr6 hg6 hq6; have HR6 := Lib.hid hr6; have HG6 := Lib.hid hg6; clear hr6 hg6 hq6))
          go_roundw
          case rel =>
            refine ⟨m', ga, gn, gc, pre ++ [j * 64 + k], rfl, by omega, rfl, Lib.hid (by rw [List.map_append, List.map_singleton, HV.out]; exact HR6.out), HP', Lib.hid ?_⟩
            exact (HB.out.alloc hwr _).grown HG6.out (by simp; omega) (fun k hk => (HR.out.lt k hk).1)
          case measure => simp [intOf]; omega
    · obtain rfl : j = N := by omega
      go_wp2_with fail
      go_ret
      have h := HR.out
      have e : numsTo ws j = allOf ws := by unfold numsTo allOf; rw [HNL.out]
      rw [e] at h
      exact ⟨_, _, _, rfl, h, HB.out⟩
end Go.Proofs.YtecdapihfiahiaaDoor

/- Graphs: what is reached (mathematics), an empty set, lists that are popped. -/
namespace Go.Proofs.YtecdapihfiahiaaDoor
open Go.RowKit Go.Deep Go.Shelf

/-! ### What is reached -/
def ClosedG (ns : List GNode) (C : Nat → Prop) : Prop := ∀ (n : Nat) (g : GNode), ns[n]? = some g → C n → ∀ r ∈ g.nx, C r.n
/-- The least closed set with a node in it. -/
structure Least (ns : List GNode) (a : Nat) (S : Nat → Bool) : Prop where
  start : S a = true
  closed : ClosedG ns (fun n => S n = true)
  min : ∀ C : Nat → Prop, C a → ClosedG ns C → ∀ n, S n = true → C n
theorem Least.unique {ns : List GNode} {a : Nat} {S T : Nat → Bool} (h : Least ns a S) (k : Least ns a T) : S = T := by
  funext n
  rw [Bool.eq_iff_iff]
  exact ⟨fun hn => h.min _ k.start k.closed n hn, fun hn => k.min _ h.start h.closed n hn⟩
/-- All references are to nodes of the graph. -/
def wfG (ns : List GNode) : Prop := ∀ (n : Nat) (g : GNode), ns[n]? = some g → ∀ r ∈ g.nx, r.n < ns.length
theorem Least.lt {ns : List GNode} {a : Nat} {S : Nat → Bool} (h : Least ns a S) (hw : wfG ns) (ha : a < ns.length) {n : Nat} (hn : S n = true) : n < ns.length :=
  h.min (fun n => n < ns.length) ha (fun m g hm _ r hr => hw m g hm r hr) n hn
/-- How many nodes are not in a set. -/
def cntG (ns : List GNode) (S : Nat → Bool) : Nat := ((List.range ns.length).filter fun j => !S j).length
theorem cntG_upd {ns : List GNode} {S : Nat → Bool} {k : Nat} (hk : k < ns.length) (hS : S k = false) : cntG ns (updL S k) + 1 = cntG ns S :=
  filter_upd (List.range ns.length) List.nodup_range (List.mem_range.2 hk) hS

/-- While a list of nodes is to be done. -/
structure Search (ns : List GNode) (a : Nat) (S : Nat → Bool) (T : List Nat) : Prop where
  start : S a = true
  todo : ∀ n ∈ T, S n = true
  done : ∀ (n : Nat) (g : GNode), ns[n]? = some g → S n = true → n ∈ T ∨ ∀ r ∈ g.nx, S r.n = true
  min : ∀ C : Nat → Prop, C a → ClosedG ns C → ∀ n, S n = true → C n
theorem Search.least {ns : List GNode} {a : Nat} {S : Nat → Bool} (h : Search ns a S []) : Least ns a S :=
  ⟨h.start, fun n g hn hS r hr => by
    rcases h.done n g hn hS with h | h
    · cases h
    · exact h r hr, h.min⟩
/-- While the references of a node of the list are followed. -/
structure Search1 (ns : List GNode) (a n0 : Nat) (g0 : GNode) (k : Nat) (S : Nat → Bool) (T : List Nat) : Prop where
  start : S a = true
  here : S n0 = true
  todo : ∀ n ∈ T, S n = true
  done : ∀ (n : Nat) (g : GNode), ns[n]? = some g → S n = true → n = n0 ∨ n ∈ T ∨ ∀ r ∈ g.nx, S r.n = true
  part : ∀ r ∈ g0.nx.take k, S r.n = true
  min : ∀ C : Nat → Prop, C a → ClosedG ns C → ∀ n, S n = true → C n
theorem Search.one {ns : List GNode} {a n0 : Nat} {g0 : GNode} {S : Nat → Bool} {T : List Nat} (h : Search ns a S (T ++ [n0])) : Search1 ns a n0 g0 0 S T :=
  ⟨h.start, h.todo n0 (by simp), fun n hn => h.todo n (by simp [hn]), fun n g hn hS => by
    rcases h.done n g hn hS with h | h
    · rcases List.mem_append.1 h with h | h
      · exact .inr (.inl h)
      · exact .inl (List.mem_singleton.1 h)
    · exact .inr (.inr h), fun r hr => by simp at hr, h.min⟩
theorem Search1.end {ns : List GNode} {a n0 : Nat} {g0 : GNode} {S : Nat → Bool} {T : List Nat} {k : Nat} (h : Search1 ns a n0 g0 k S T) (hg : ns[n0]? = some g0) (hk : g0.nx.length ≤ k) : Search ns a S T :=
  ⟨h.start, h.todo, fun n g hn hS => by
    rcases h.done n g hn hS with rfl | h | h'
    · obtain rfl := Option.some.inj (hg.symm.trans hn)
      have := h.part
      rw [List.take_of_length_le hk] at this
      exact .inr this
    · exact .inl h
    · exact .inr h', h.min⟩
theorem Search1.old {ns : List GNode} {a n0 : Nat} {g0 : GNode} {S : Nat → Bool} {T : List Nat} {k : Nat} {r : GRef} (h : Search1 ns a n0 g0 k S T) (hr : g0.nx[k]? = some r) (hS : S r.n = true) : Search1 ns a n0 g0 (k + 1) S T :=
  ⟨h.start, h.here, h.todo, h.done, fun x hx => by
    rw [take_snoc_get hr] at hx
    rcases List.mem_append.1 hx with hx | hx
    · exact h.part x hx
    · rw [List.mem_singleton.1 hx]; exact hS, h.min⟩
theorem Search1.new {ns : List GNode} {a n0 : Nat} {g0 : GNode} {S : Nat → Bool} {T : List Nat} {k : Nat} {r : GRef} (h : Search1 ns a n0 g0 k S T) (hg : ns[n0]? = some g0) (hr : g0.nx[k]? = some r) : Search1 ns a n0 g0 (k + 1) (updL S r.n) (T ++ [r.n]) := by
  have up : ∀ n, S n = true → updL S r.n n = true := fun n hn => by simp [updL, hn]
  refine ⟨up _ h.start, up _ h.here, fun n hn => ?_, fun n g hn hS => ?_, fun x hx => ?_, fun C hC hcl n hn => ?_⟩
  · rcases List.mem_append.1 hn with hn | hn
    · exact up _ (h.todo n hn)
    · rw [List.mem_singleton.1 hn]; simp [updL]
  · simp only [updL, Bool.or_eq_true, beq_iff_eq] at hS
    rcases hS with rfl | hS
    · exact .inr (.inl (by simp))
    · rcases h.done n g hn hS with h1 | h1 | h1
      · exact .inl h1
      · exact .inr (.inl (by simp [h1]))
      · exact .inr (.inr (fun x hx => up _ (h1 x hx)))
  · rw [take_snoc_get hr] at hx
    rcases List.mem_append.1 hx with hx | hx
    · exact up _ (h.part x hx)
    · rw [List.mem_singleton.1 hx]; simp [updL]
  · simp only [updL, Bool.or_eq_true, beq_iff_eq] at hn
    rcases hn with rfl | hn
    · exact hcl n0 g0 hg (h.min C hC hcl n0 h.here) r (List.mem_of_getElem? hr)
    · exact h.min C hC hcl n hn
theorem Search.begin (ns : List GNode) (a : Nat) : Search ns a (fun n => n == a) [a] :=
  ⟨by simp, fun n hn => by simp at hn; simp [hn], fun n g _ hS => .inl (by simpa using hS), fun C hC _ n hn => by
    have : n = a := by simpa using hn
    rw [this]; exact hC⟩

/-! ### An empty set -/
set_option maxHeartbeats 2000000 in
set_option maxRecDepth 100000 in
theorem emptySet_any (n : Nat) (hn : n ≤ 1000000) (w : World) :
    Calls Tryd.prog 24 #[.int .i64 (n : Int)] w fun e w' => ∃ N b, N = (n + 63) / 64 ∧ e = .returned (.slice (some ⟨b, 0, none⟩) N N) ∧ w.heap.size ≤ b ∧ Words w' b (List.replicate N 0) ∧ Below w.heap.size w w' := by
  obtain ⟨N, hN⟩ : ∃ N, (n + 63) / 64 = N := ⟨_, rfl⟩
  have e1 : IntKind.i64.wrap ((n : Int) + 63) = (n : Int) + 63 := by rw [IntKind.wrap_i64]; omega
  have e2 : ((n : Int) + 63).tdiv 64 = (N : Int) := by rw [← hN]; rfl
  have hi : (Tryd.prog.info? 78).map (fun i => (i.zero, i.size, i.bytes)) = some (some (.int .u64 0), 1, 8) := by kernel_rfl
  obtain ⟨i0, hi0, hz0, hz1, hz2⟩ := info_parts hi
  have hmk : (Instr.makeSlice 69 (.int .i64 (N : Int)) (.int .i64 (N : Int))).run Tryd.prog w = .ok (.slice (some ⟨w.heap.size, 0, none⟩) N N) (w.alloc (.cells (madeCells #[.int .u64 0] N) 78)) := by
    have h := run_makeSlice (P := Tryd.prog) w 69 78 i0 (.int .u64 0) Tryd.underlying69 hi0 hz0 .i64 .i64 (N : Int) (N : Int) (by omega) (Int.le_refl _) (by rw [hz1]; simp; omega) (by rw [hz2]; omega) (by omega)
    rw [hz1, show (Value.int IntKind.u64 0).cells = #[.int .u64 0] from rfl] at h
    simpa using h
  clear hi hi0 hz0 hz1 hz2
  go_enter Tryd.func24, Tryd.ntmps24
  go_wp2_with fail
  go_ret
  refine ⟨N, w.heap.size, hN.symm, rfl, Nat.le_refl _, ⟨?_, fun x hx => ?_⟩, blkBelow w _ _⟩
  · rw [World.alloc_heap_new]
    have h := toList_madeCells_one (.int .u64 0) N
    have h2 : madeCells #[.int .u64 0] N = ((List.replicate N 0).map wordV).toArray := by
      rw [List.map_replicate]
      apply Array.toList_inj.1
      rw [h]
      rfl
    rw [h2]
  · rw [(List.mem_replicate.1 hx).2]; decide

/-! ### A list that is popped -/
theorem GRow.pop {el : TypeId} {sz base : Nat} {W : World} {g n cap : Nat} {es : List (List Value)} {e : List Value} (h : GRow el sz base W (.slice (some ⟨g, 0, none⟩) (n + 1) cap) (es ++ [e])) : GRow el sz base W (.slice (some ⟨g, 0, none⟩) n cap) es := by
  have hl := gflat_len h.len
  have hl2 := gflat_len (l := es) (fun x hx => h.len x (by simp [hx]))
  refine ⟨⟨hl2, ?_⟩, fun x hx => h.len x (by simp [hx])⟩
  rcases h.own.2 with ⟨e1, _⟩ | ⟨g', cap', cur, e1, hbg, hg, hc, hcm, hcs, htk⟩
  · cases e1
  · simp only [Value.slice.injEq, Option.some.injEq, Addr.mk.injEq, and_true] at e1
    obtain ⟨rfl, hn, rfl⟩ := e1
    rw [List.length_append, List.length_singleton] at hn hc htk
    have hn' : n = es.length := by omega
    subst hn'
    refine .inr ⟨g, cap, cur, rfl, hbg, hg, by omega, hcm, hcs, ?_⟩
    have h1 : cur.toList.take (es.length * sz) = (cur.toList.take ((es.length + 1) * sz)).take (es.length * sz) := by
      rw [List.take_take, Nat.min_eq_left (Nat.mul_le_mul_right _ (by omega))]
    rw [h1, htk, List.flatten_append, List.take_append_of_le_length (by rw [hl2]; exact Nat.le_refl _), List.take_of_length_le (by rw [hl2]; exact Nat.le_refl _)]
/-- A block just made, of one element. -/
theorem GRow.single {el : TypeId} {sz base : Nat} (w : World) (cs : List Value) (hcs : cs.length = sz) (hb : base ≤ w.heap.size) : GRow el sz base (w.alloc (.cells cs.toArray el)) (.slice (some ⟨w.heap.size, 0, none⟩) 1 1) [cs] := by
  refine ⟨⟨by simp [hcs], .inr ⟨w.heap.size, 1, cs.toArray, rfl, hb, World.alloc_heap_new _ _, Nat.le_refl _, by unfold maxLen; omega, by simp [hcs], ?_⟩⟩, fun x hx => by rw [List.mem_singleton.1 hx]; exact hcs⟩
  rw [show ([cs] : List (List Value)).flatten = cs by simp, List.take_of_length_le (by simp [hcs])]
end Go.Proofs.YtecdapihfiahiaaDoor
