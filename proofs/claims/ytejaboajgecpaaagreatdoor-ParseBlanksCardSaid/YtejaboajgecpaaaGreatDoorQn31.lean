/- Package lex: lemmas. -/
import Derived.Test.YtejaboajgecpaaaGreatDoorQn30
import Derived.Lib.Join
import Derived.StillTactics
import Derived.Laws.Pointers
set_option maxHeartbeats 16000000
set_option maxRecDepth 100000
namespace Go.Proofs.YtejaboajgecpaaaGreatDoor.Tok
open Go.Lib (hid)
open Go.RowKit Go.Shelf
attribute [local go_sem] Oper.semAt_some
theorem scan_any (s : ByteArray) (w : World) :
 Calls Tryz.prog 75 #[.string s] w fun e w' => e = .returned (.func (.func 105) #[] #[.pointer (some ⟨w.heap.size, 0, none⟩)]) /\ w' = w.alloc (.cells #[.string s] 9) := by
 go_enter Tryz.func75, Tryz.ntmps75
 go_wp2
 go_ret
 exact ⟨rfl, rfl⟩
theorem scan_stops (n : Nat) (hn : 1 <= n) (Bn O n₀ B : Nat) (hBn : Bn < n₀) (hBO : Bn ≠ O) (hB : B <= O) (hO : O < n₀) (s : ByteArray) (hs : s.size <= 281474976710656) (w : World) (hI : Inv O n₀ Bn B s w) :
 SeqStopsK Fence.wide n Tryz.prog 105 #[.pointer (some ⟨Bn, 0, none⟩)] encs (Kp O n₀) (fun ys => ys = items (s.size + 1) s.data.toList (Lx.skipG false s.data.toList))
  (fun pre => pre <+: items (s.size + 1) s.data.toList (Lx.skipG false s.data.toList)) (items (s.size + 1) s.data.toList (Lx.skipG false s.data.toList)).length w :=
 fun l J Jx W hW hJ _ hY h0 => scan1_in n hn l Bn O n₀ B hBn hBO hB hO s hs _ rfl J Jx W (hI.to hO hW) hJ hY h0
theorem tokInfo : (Tryz.prog.info? 99).map (fun i => (i.zero, i.size, i.bytes)) = some (some (.agg #[.int .i64 0, .string ⟨#[]⟩, .int .i64 0, .int .i64 0]), 4, 40) := by kernel_rfl
def cellsOf (x : Item) : List Value := [.int .i64 x.k, .string x.t, .int .i64 x.v, .int .i64 x.a]
def rowOf (xs : List Item) : List Value := xs.flatMap cellsOf
theorem rowOf_snoc (pre : List Item) (x : Item) : rowOf (pre ++ [x]) = rowOf pre ++ cellsOf x := by simp [rowOf]
theorem cells4_new (W : World) (x : Item) : ∀ (j : Nat) u, (cellsOf x)[j]? = some u -> (W.alloc (.cells #[.int .i64 x.k, .string x.t, .int .i64 x.v, .int .i64 x.a] 99)).cell? ((⟨W.heap.size, 0, none⟩ : Addr).add j) = some u := by
 intro j u hj
 match j, hj with
 | 0, hj => simp [cellsOf] at hj; subst hj; simp [Addr.add]
 | 1, hj => simp [cellsOf] at hj; subst hj; simp [Addr.add]
 | 2, hj => simp [cellsOf] at hj; subst hj; simp [Addr.add]
 | 3, hj => simp [cellsOf] at hj; subst hj; simp [Addr.add]
 | j + 4, hj => simp [cellsOf] at hj
theorem one4 (x : Item) : ∀ u ∈ cellsOf x, u.oneCell' = true := by
 intro u hu
 simp only [cellsOf, List.mem_cons, List.not_mem_nil, or_false] at hu
 rcases hu with rfl | rfl | rfl | rfl <;> rfl
theorem heap_set_ne {W : World} {b o k : Nat} {v : Value} (h : k ≠ b) : (W.setCell ⟨b, o, none⟩ v).heap[k]? = W.heap[k]? := Below.heap_setCell _ _ _ k h
theorem grownBy_set (W : World) (b o : Nat) (v : Value) : W.grownBy (W.setCell ⟨b, o, none⟩ v) (some b) :=
 ⟨rfl, rfl, rfl, by simp, fun k _ hk => Below.heap_setCell _ _ _ k (fun e => hk (by rw [e]))⟩
theorem set_block {W : World} {b : Nat} {cs : Array Value} {t : TypeId} {fr : Nat × Nat} (h : W.heap[b]? = some (.cells cs t fr)) (o : Nat) (v : Value) : (W.setCell ⟨b, o, none⟩ v).heap[b]? = some (.cells (cs.setIfInBounds o v) t fr) := by
 obtain ⟨hlt, hk⟩ := Array.getElem?_eq_some_iff.1 h
 show (W.heap.modify b _)[b]? = _
 rw [Array.getElem?_eq_getElem (by rw [Array.size_modify]; exact hlt), Array.getElem_modify_self, hk]
 rfl
def TokI (w : World) (pre : List Item) (W : World) : Prop :=
 (((∃ v, Boxed W (w.heap.size + 1 + 1) 96 v /\ W.ownsRow (w.heap.size + 1 + 1 + 1 + 1) 99 4 v pre.length (rowOf pre) /\ (v = .slice none 0 0 ↔ pre = [])) /\
  (Boxed W w.heap.size 96 (.slice none 0 0) /\ W.heap[w.heap.size + 1]? = some (.cells #[.int .i64 0, .int .i64 0] 36 (0, 0)))) /\ (∀ x ∈ pre, x.e = 0)) /\ Below w.heap.size w W
def TokX (w : World) (c : Code) (pre : List Item) (W : World) : Prop :=
 (c = .ret /\ ∃ q x, pre = q ++ [x] /\ x.e ≠ 0 /\ Boxed W w.heap.size 96 (.slice none 0 0) /\ W.heap[w.heap.size + 1]? = some (.cells #[.int .i64 x.e, .int .i64 x.p] 36 (0, 0))) /\ Below w.heap.size w W
theorem TokI.own (w : World) (D : Nat) (hD : w.heap.size <= D) : OwnFrom D (TokI w) := by
 refine OwnFrom.and (OwnFrom.and (OwnFrom.and (Own.from (holdsRow_own _ _ 96 99 4 (fun pre => pre.length) rowOf (fun pre v => v = .slice none 0 0 ↔ pre = [])) _) ?_) ?_) (ownFrom_below (Nat.le_refl _) hD)
 ·exact fun s A B row hs hg hr => ⟨cells_kept hs.1 hg (fun r e => (hr r e).2), cells_kept hs.2 hg (fun r e => (hr r e).2)⟩
 ·exact fun s A B row hs _ _ => hs
theorem TokX.own (w : World) (D : Nat) (hD : w.heap.size <= D) (c : Code) : OwnFrom D (TokX w c) := by
 refine OwnFrom.and ?_ (ownFrom_below (Nat.le_refl _) hD)
 rintro s A B row ⟨hc, q, x, h1, h2, h3, h4⟩ hg hr
 exact ⟨hc, q, x, h1, h2, cells_kept h3 hg (fun r e => (hr r e).2), cells_kept h4 hg (fun r e => (hr r e).2)⟩
def TokPost (w : World) (xs : List Item) (e : Ending) (W' : World) : Prop :=
 ((∃ q x, xs = q ++ [x] /\ x.e ≠ 0 /\ e = .returned (.tuple #[.slice none 0 0, .agg #[.int .i64 x.e, .int .i64 x.p]])) \/
  ((∀ x ∈ xs, x.e = 0) /\ ∃ v, e = .returned (.tuple #[v, .agg #[.int .i64 0, .int .i64 0]]) /\ W'.ownsRow w.heap.size 99 4 v xs.length (rowOf xs) /\ (v = .slice none 0 0 ↔ xs = []))) /\ Below w.heap.size w W'
theorem tokens_in (n : Nat) (hn : 3 <= n) (s : ByteArray) (hs : s.size <= 65536) (xs : List Item) (hxs : items (s.size + 1) s.data.toList (Lx.skipG false s.data.toList) = xs) (B : Nat) (w : World) (he : Env B w) :
 CallsIn Fence.wide n Tryz.prog 46 #[.string s] w (TokPost w xs) := by
 have h1 : 1 <= n := by omega
 have hxl := items_len (s.size + 1) s.data.toList (Lx.skipG false s.data.toList)
 have hlast := items_last (s.size + 1) s.data.toList (Lx.skipG false s.data.toList)
 have hdec : decide ((65536 : Int) < (s.size : Int)) = false := by simp; omega
 rw [hxs] at hxl hlast
 have HX := hid hxs
 have HL := hid hlast
 clear hxs hlast
 obtain ⟨i0, hi, hz0, hz1, hz2⟩ := info_parts tokInfo
 refine callsIn_of_wp_marks Tryz.func46 rfl trivial ?_ rfl
 simp only [Tryz.ntmps46, List.size_toArray, List.length_cons, List.length_nil, Nat.reduceAdd, Nat.reduceSub, Array.replicate_succ, Array.replicate_zero, List.push_toArray, List.append_toArray, List.nil_append, List.cons_append]
 gi_wp2_with (refine ⟨trivial, ?_⟩; gi_at_call 75; refine (callsIn_wide.2 (scan_any _ _)).mono ?_; rintro e w' ⟨rfl, rfl⟩)
 have b2 := (((Boxed.new w 96 (.slice none 0 0)).alloc (.cells #[.int .i64 0, .int .i64 0] 36)).alloc (.cells #[.slice none 0 0] 96)).alloc (.cells #[.string s] 9)
 have b3 : ((((w.alloc (.cells #[.slice none 0 0] 96)).alloc (.cells #[.int .i64 0, .int .i64 0] 36)).alloc (.cells #[.slice none 0 0] 96)).alloc (.cells #[.string s] 9)).heap[w.heap.size + 1]? = some (.cells #[.int .i64 0, .int .i64 0] 36 (0, 0)) := by
  have h := World.alloc_heap_new (w.alloc (.cells #[.slice none 0 0] 96)) (.cells #[.int .i64 0, .int .i64 0] 36)
  rw [World.size_alloc] at h
  exact (Below.heap_alloc _ _ _ (by simp)).trans ((Below.heap_alloc _ _ _ (by simp)).trans h)
 have b4 := (Boxed.new ((w.alloc (.cells #[.slice none 0 0] 96)).alloc (.cells #[.int .i64 0, .int .i64 0] 36)) 96 (.slice none 0 0)).alloc (.cells #[.string s] 9)
 have b5 := Boxed.new (((w.alloc (.cells #[.slice none 0 0] 96)).alloc (.cells #[.int .i64 0, .int .i64 0] 36)).alloc (.cells #[.slice none 0 0] 96)) 9 (.string s)
 simp only [World.size_alloc] at b4 b5
 have hB0 : Below w.heap.size w ((((w.alloc (.cells #[.slice none 0 0] 96)).alloc (.cells #[.int .i64 0, .int .i64 0] 36)).alloc (.cells #[.slice none 0 0] 96)).alloc (.cells #[.string s] 9)) :=
  ((((Below.refl _ w).alloc (Nat.le_refl _) _).alloc (by simp) _).alloc (by simp; omega) _).alloc (by simp; omega) _
 have hsz : ((((w.alloc (.cells #[.slice none 0 0] 96)).alloc (.cells #[.int .i64 0, .int .i64 0] 36)).alloc (.cells #[.slice none 0 0] 96)).alloc (.cells #[.string s] 9)).heap.size = w.heap.size + 4 := by simp
 obtain ⟨W0, hW0⟩ : ∃ W0, ((((w.alloc (.cells #[.slice none 0 0] 96)).alloc (.cells #[.int .i64 0, .int .i64 0] 36)).alloc (.cells #[.slice none 0 0] 96)).alloc (.cells #[.string s] 9)) = W0 := ⟨_, rfl⟩
 rw [hW0] at b2 b3 b4 b5 hB0 hsz |-
 clear hW0
 have hInv : Inv (w.heap.size + 1 + 1) (w.heap.size + 1 + 1 + 1 + 1) (w.heap.size + 1 + 1 + 1) B s W0 := ⟨b5, he.to hB0, fun k hk => by rw [boxed_refers b4] at hk; simp [Value.ownBlock] at hk, by omega⟩
 have hbw := he.size
 refine wpIn_rangeFunc_ownH rfl h1 (gf := 105) (lb := #[.pointer (some ⟨w.heap.size + 1 + 1 + 1, 0, none⟩)]) rfl trivial (enters_of Tryz.func105 (by kernel_rfl) rfl)
  (scan_stops (n - 1) (by omega) (w.heap.size + 1 + 1 + 1) (w.heap.size + 1 + 1) (w.heap.size + 1 + 1 + 1 + 1) B (by omega) (by omega) (by omega) (by omega) s (by omega) W0 hInv) Kp.trans (Kp.put (by omega)) (Below.refl _ _) (fun _ => rfl)
  (TokI w) (TokX w) (TokI.own w _ (by omega)) (fun c => TokX.own w _ (by omega) c)
  ⟨⟨⟨⟨_, b4, World.ownsRow_nil _ _ _ _, by simp⟩, b2, b3⟩, fun x hx => by cases hx⟩, hB0⟩
  (fun x a' W => ∃ bT bF, w.heap.size + 1 + 1 + 1 + 1 <= bF /\ W.heap[bT]? = some (.cells #[.int .i64 x.k, .string x.t, .int .i64 x.v, .int .i64 x.a] 99 (0, 0)) /\ W.heap[bF]? = some (.cells #[.int .i64 x.e, .int .i64 x.p] 36 (0, 0)) /\
   a' = { tmps := #[.string s, undef, .pointer (some ⟨w.heap.size, 0, none⟩), .pointer (some ⟨w.heap.size + 1, 0, none⟩), .pointer (some ⟨w.heap.size + 1 + 1, 0, none⟩), .pointer (some ⟨bT, 0, none⟩), .pointer (some ⟨bF, 0, none⟩), .string s, .int .i64 s.size, .bool false, undef, .string s,
    .func (.func 105) #[] #[.pointer (some ⟨w.heap.size + 1 + 1 + 1, 0, none⟩)], .agg #[.int .i64 x.k, .string x.t, .int .i64 x.v, .int .i64 x.a], .agg #[.int .i64 x.e, .int .i64 x.p], undef, undef, undef, undef, undef, undef, undef, undef, undef, undef], defers := [] })
  (fun x a' _ X Y row hs hg hr => by obtain ⟨bT, bF, h0, h1, h2, h3⟩ := hs; exact ⟨bT, bF, h0, cells_kept h1 hg (fun r e => (hr r e).2), cells_kept h2 hg (fun r e => (hr r e).2), h3⟩)
  ?assign ?body ?done ?stop
 case assign =>
  rintro l pre x W K hI hK
  gi_wp2
  have hO : w.heap.size + 1 + 1 < W.heap.size := by obtain ⟨⟨⟨⟨v, hv, _⟩, _⟩, _⟩, _⟩ := hI; exact hv.lt
  have hbA : Below W.heap.size W ((W.alloc (.cells #[.int .i64 x.k, .string x.t, .int .i64 x.v, .int .i64 x.a] 99)).alloc (.cells #[.int .i64 x.e, .int .i64 x.p] 36)) := ((Below.refl _ W).alloc (Nat.le_refl _) _).alloc (by simp) _
  have hT := World.alloc_heap_new W (.cells #[.int .i64 x.k, .string x.t, .int .i64 x.v, .int .i64 x.a] 99)
  have hF := World.alloc_heap_new (W.alloc (.cells #[.int .i64 x.k, .string x.t, .int .i64 x.v, .int .i64 x.a] 99)) (.cells #[.int .i64 x.e, .int .i64 x.p] 36)
  rw [World.size_alloc] at hF
  exact hK _ _ (((KeepsOthers.alloc _ _).trans (KeepsOthers.alloc _ _)).from _) (Kp.of_below hO hbA) ((TokI.own w _ (Nat.le_refl _)).alloc _ ((TokI.own w _ (Nat.le_refl _)).alloc _ hI))
   ⟨_, _, by omega, (Below.heap_alloc _ _ _ (by simp)).trans hT, hF, rfl⟩
 case body =>
  rintro l pre x a' W hl ⟨r, hr⟩ ⟨⟨⟨⟨v, hv, hrow, hnil⟩, hr1, hr2⟩, hok⟩, hB⟩ ⟨bT, bF, hbF, hT, hF, rfl⟩ hlt
  rw [HX.out] at hlt
  have hc := hv.cell
  have hfz := hv.frozen
  have f0 : W.cell? ⟨bF, 0, none⟩ = some (.int .i64 x.e) := by simp [World.cell?, hF]
  have f1 : W.cell? ⟨bF, 1, none⟩ = some (.int .i64 x.p) := by simp [World.cell?, hF]
  have t0 : W.cell? ⟨bT, 0, none⟩ = some (.int .i64 x.k) := by simp [World.cell?, hT]
  have t1 : W.cell? ⟨bT, 1, none⟩ = some (.string x.t) := by simp [World.cell?, hT]
  have t2 : W.cell? ⟨bT, 2, none⟩ = some (.int .i64 x.v) := by simp [World.cell?, hT]
  have t3 : W.cell? ⟨bT, 3, none⟩ = some (.int .i64 x.a) := by simp [World.cell?, hT]
  by_cases he0 : x.e = 0
  ·have hne : (x.e != 0) = false := by rw [he0]; rfl
   have HE := hid he0
   have HR := hid hr2
   have HR1 := hid hr1
   have HT := hid hT
   clear he0 hr2 hr1 hF hT
   have hle : w.heap.size + 1 + 1 + 1 + 1 <= W.heap.size := by have := (Array.getElem?_eq_some_iff.1 hr).1; omega
   clear hr
   have hb1 : w.heap.size + 1 + 1 + 1 + 1 <= (W.alloc (.cells #[.int .i64 x.k, .string x.t, .int .i64 x.v, .int .i64 x.a] 99)).heap.size := by simp; omega
   gi_wp2_with (gi_at_builtin; go_must (refine wpListIn_append_own_at _ rfl _ _ 96 rfl (w.heap.size + 1 + 1 + 1 + 1) 99 i0 (.agg #[.int .i64 0, .string ⟨#[]⟩, .int .i64 0, .int .i64 0]) 4 40 Tryz.underlying96 hi hz0 hz1 hz2 rfl (by decide) _ _ _ rfl (hrow.alloc _) ⟨W.heap.size, 0, none⟩ 1 1 (cellsOf x) rfl rfl (cells4_new W x) (one4 x) (by unfold maxLen; omega) (by omega) hb1 ?_); intro v' w1 hown' hgrow _ hwh; obtain ⟨g', cap', rfl⟩ := ownsRow_succ hown'; obtain ⟨hv1, hv2, _, hk2, hb2⟩ := hv.appended (n₀ := w.heap.size) (by decide) (ownsRow_base hrow (by omega)) (by omega) (by omega) (ownsRow_base hown' (by omega)) hgrow; have hrw := hown'.kept (grownBy_setCell' w1 (w.heap.size + 1 + 1) (.slice (some ⟨g', 0, none⟩) (pre.length + 1) cap')) (.inr (hv1.not_row (by decide) hown').symm); have hkp := Kp.append hv (by decide) hrow (Nat.le_refl _) hown' hgrow hwh; have hc1 := hv1.cell; have hf1 := hv1.frozen)
   have nref : ∀ k, k < w.heap.size + 1 + 1 + 1 + 1 -> ¬ Refers (w.heap.size + 1 + 1) W k := fun k hk hr => by
    have := (ownsRow_block hrow ((boxed_refers hv).1 hr)).1; omega
   have hok' : ∀ y ∈ pre ++ [x], y.e = 0 := fun y hy => (List.mem_append.1 hy).elim (hok y) (fun h => by simp at h; rw [h]; exact HE.out)
   exact ⟨hk2.from _, hkp, ⟨⟨⟨_, hv2, by rw [rowOf_snoc, List.length_append]; exact hrw, by simp⟩, hkp.keep _ _ HR1.out rfl (by omega) (nref _ (by omega)), hkp.keep _ _ HR.out rfl (by omega) (nref _ (by omega))⟩, hok'⟩, hB.trans hb2⟩
  ·have hne : (x.e != 0) = true := by simpa using he0
   have HE : Hid (x.e ≠ 0) := hid he0
   clear he0
   have e1 : ¬ w.heap.size = bF := by omega
   have e2 : ¬ w.heap.size + 1 = bF := by omega
   have e3 : ¬ bF = w.heap.size := by omega
   have e4 : ¬ bF = w.heap.size + 1 := by omega
   have g1 := hr1.cell
   have g2 := hr1.frozen
   have g3 : W.cell? ⟨w.heap.size + 1, 0, none⟩ = some (.int .i64 0) := by simp [World.cell?, hr2]
   have g4 : W.cell? ⟨w.heap.size + 1, 1, none⟩ = some (.int .i64 0) := by simp [World.cell?, hr2]
   have g5 : ∀ o, W.frozen? ⟨w.heap.size + 1, o, none⟩ = false := by simp [World.frozen?, hr2]
   gi_wp2
   have mixed : Tryz.prog.follows .mixedOrders = true := by kernel_rfl
   have hO : w.heap.size + 1 + 1 < W.heap.size := hv.lt
   have k1 : Boxed ((((W.setCell ⟨w.heap.size, 0, none⟩ (.slice none 0 0)).setCell ⟨w.heap.size + 1, 0, none⟩ (.int .i64 x.e)).setCell ⟨w.heap.size + 1, 1, none⟩ (.int .i64 x.p)).drew) w.heap.size 96 (.slice none 0 0) := by
    show (((W.setCell ⟨w.heap.size, 0, none⟩ (.slice none 0 0)).setCell ⟨w.heap.size + 1, 0, none⟩ (.int .i64 x.e)).setCell ⟨w.heap.size + 1, 1, none⟩ (.int .i64 x.p)).heap[w.heap.size]? = _
    exact (heap_set_ne (by omega)).trans ((heap_set_ne (by omega)).trans (hr1.set _))
   have k2 : ((((W.setCell ⟨w.heap.size, 0, none⟩ (.slice none 0 0)).setCell ⟨w.heap.size + 1, 0, none⟩ (.int .i64 x.e)).setCell ⟨w.heap.size + 1, 1, none⟩ (.int .i64 x.p)).drew).heap[w.heap.size + 1]? = some (.cells #[.int .i64 x.e, .int .i64 x.p] 36 (0, 0)) :=
    set_block (set_block ((heap_set_ne (by omega)).trans hr2) 0 (.int .i64 x.e)) 1 (.int .i64 x.p)
   have k3 : KeepsOthers W ((((W.setCell ⟨w.heap.size, 0, none⟩ (.slice none 0 0)).setCell ⟨w.heap.size + 1, 0, none⟩ (.int .i64 x.e)).setCell ⟨w.heap.size + 1, 1, none⟩ (.int .i64 x.p)).drew) :=
    (((KeepsOthers.setCell _ _ _).trans (KeepsOthers.setCell _ _ _)).trans (KeepsOthers.setCell _ _ _)).trans (KeepsOthers.drew _)
   have k4 : Below w.heap.size w ((((W.setCell ⟨w.heap.size, 0, none⟩ (.slice none 0 0)).setCell ⟨w.heap.size + 1, 0, none⟩ (.int .i64 x.e)).setCell ⟨w.heap.size + 1, 1, none⟩ (.int .i64 x.p)).drew) :=
    (((hB.setCell (p := ⟨w.heap.size, 0, none⟩) (Nat.le_refl _) _).setCell (p := ⟨w.heap.size + 1, 0, none⟩) (by simp) _).setCell (p := ⟨w.heap.size + 1, 1, none⟩) (by simp) _).drew
   have K1 := hid k1
   have K2 := hid k2
   clear k1 k2 hr1 hr2 hF hT hr
   gi_region_with_o (fail)
   all_goals gi_wp2
   all_goals exact ⟨k3.from _, ⟨rfl, pre, x, rfl, HE.out, K1.out, K2.out⟩, k4⟩
 case done =>
  rintro D ys W hD hys ⟨⟨⟨⟨v, hv, hrow, hnil⟩, hr1, hr2⟩, hok⟩, hB⟩ hK
  rw [HX.out] at hys
  obtain ⟨ba, le, ca, rfl⟩ : ∃ a k c, v = .slice a k c := by
   rcases hrow.2 with ⟨rfl, _⟩ | ⟨g, cap, cur, rfl, _⟩
   ·exact ⟨_, _, _, rfl⟩
   ·exact ⟨_, _, _, rfl⟩
  have hc := hv.cell
  have g1 := hr1.cell
  have g2 := hr1.frozen
  have g3 : W.cell? ⟨w.heap.size + 1, 0, none⟩ = some (.int .i64 0) := by simp [World.cell?, hr2]
  have g4 : W.cell? ⟨w.heap.size + 1, 1, none⟩ = some (.int .i64 0) := by simp [World.cell?, hr2]
  have g5 : ∀ o, W.frozen? ⟨w.heap.size + 1, o, none⟩ = false := by simp [World.frozen?, hr2]
  have HN := hid hnil
  have HY := hid hys
  have HR2 := hid hr2
  have HK := hid hK
  clear hnil hys hr2 hK
  gi_wp2
  have hsW : W0.heap.size <= W.heap.size := by have := (Array.getElem?_eq_some_iff.1 HK.out).1; have := hv.lt; omega
  have k1 : Boxed (((W.setCell ⟨w.heap.size, 0, none⟩ (.slice ba le ca)).setCell ⟨w.heap.size + 1, 0, none⟩ (.int .i64 0)).setCell ⟨w.heap.size + 1, 1, none⟩ (.int .i64 0)) w.heap.size 96 (.slice ba le ca) :=
   (heap_set_ne (by omega)).trans ((heap_set_ne (by omega)).trans (hr1.set _))
  have k2 : (((W.setCell ⟨w.heap.size, 0, none⟩ (.slice ba le ca)).setCell ⟨w.heap.size + 1, 0, none⟩ (.int .i64 0)).setCell ⟨w.heap.size + 1, 1, none⟩ (.int .i64 0)).heap[w.heap.size + 1]? = some (.cells #[.int .i64 0, .int .i64 0] 36 (0, 0)) :=
   set_block (set_block ((heap_set_ne (by omega)).trans HR2.out) 0 (.int .i64 0)) 1 (.int .i64 0)
  have k3 : (((W.setCell ⟨w.heap.size, 0, none⟩ (.slice ba le ca)).setCell ⟨w.heap.size + 1, 0, none⟩ (.int .i64 0)).setCell ⟨w.heap.size + 1, 1, none⟩ (.int .i64 0)).heap[D]? = some (.deferred (some [])) :=
   (heap_set_ne (by omega)).trans ((heap_set_ne (by omega)).trans ((heap_set_ne (by omega)).trans HK.out))
  have k4 : Below w.heap.size w (((W.setCell ⟨w.heap.size, 0, none⟩ (.slice ba le ca)).setCell ⟨w.heap.size + 1, 0, none⟩ (.int .i64 0)).setCell ⟨w.heap.size + 1, 1, none⟩ (.int .i64 0)) :=
   ((hB.setCell (p := ⟨w.heap.size, 0, none⟩) (Nat.le_refl _) _).setCell (p := ⟨w.heap.size + 1, 0, none⟩) (by simp) _).setCell (p := ⟨w.heap.size + 1, 1, none⟩) (by simp) _
  have k5 : (((W.setCell ⟨w.heap.size, 0, none⟩ (.slice ba le ca)).setCell ⟨w.heap.size + 1, 0, none⟩ (.int .i64 0)).setCell ⟨w.heap.size + 1, 1, none⟩ (.int .i64 0)).ownsRow w.heap.size 99 4 (.slice ba le ca) ys.length (rowOf ys) := by
   have nr : ∀ b, b < w.heap.size + 1 + 1 + 1 + 1 -> Value.ownBlock (.slice ba le ca) ≠ some b := fun b hb e => by have := (ownsRow_block hrow e).1; omega
   exact ownsRow_base (((hrow.kept (grownBy_set W _ 0 _) (.inr (nr _ (by omega)))).kept (grownBy_set _ _ 0 _) (.inr (nr _ (by omega)))).kept (grownBy_set _ _ 1 _) (.inr (nr _ (by omega)))) (by omega)
  generalize (((W.setCell ⟨w.heap.size, 0, none⟩ (.slice ba le ca)).setCell ⟨w.heap.size + 1, 0, none⟩ (.int .i64 0)).setCell ⟨w.heap.size + 1, 1, none⟩ (.int .i64 0)) = W3 at *
  refine ⟨by simp, .inl ⟨_, _, rfl, run_takeDeferred k3, ?_⟩⟩
  have k1' : (W3.putObj D (.deferred none)).heap[w.heap.size]? = some (.cells #[.slice ba le ca] 96 (0, 0)) := (World.putObj_heap_other (by omega)).trans k1
  have k2' : (W3.putObj D (.deferred none)).heap[w.heap.size + 1]? = some (.cells #[.int .i64 0, .int .i64 0] 36 (0, 0)) := (World.putObj_heap_other (by omega)).trans k2
  have c1 : (W3.putObj D (.deferred none)).cell? ⟨w.heap.size, 0, none⟩ = some (.slice ba le ca) := by simp [World.cell?, k1']
  have c2 : (W3.putObj D (.deferred none)).cell? ⟨w.heap.size + 1, 0, none⟩ = some (.int .i64 0) := by simp [World.cell?, k2']
  have c3 : (W3.putObj D (.deferred none)).cell? ⟨w.heap.size + 1, 1, none⟩ = some (.int .i64 0) := by simp [World.cell?, k2']
  have k6 := ownsRow_putObj k5 (.deferred none) k3 rfl
  have k7 : Below w.heap.size w (W3.putObj D (.deferred none)) := k4.trans (belowK_b (w := w) (Nat.le_refl _) W3 D _ _ (by omega) k3 rfl rfl)
  generalize W3.putObj D (.deferred none) = W4 at *
  refine ⟨.tuple #[.slice ba le ca, .agg #[.int .i64 0, .int .i64 0]], by simp [results, Tryz.results46, go_sem, c1, c2, c3], ?_⟩
  have hys' := HY.out
  subst hys'
  exact ⟨.inr ⟨hok, _, rfl, k6, HN.out⟩, k7⟩
 case stop =>
  rintro D c pre W hD hpre ⟨⟨rfl, q, x, rfl, hx, hr1, hr2⟩, hB⟩ hK
  rw [HX.out] at hpre
  gi_wp2
  refine ⟨by simp, .inl ⟨_, _, rfl, run_takeDeferred hK, ?_⟩⟩
  have k1' : (W.putObj D (.deferred none)).heap[w.heap.size]? = some (.cells #[.slice none 0 0] 96 (0, 0)) := (World.putObj_heap_other (by omega)).trans hr1
  have k2' : (W.putObj D (.deferred none)).heap[w.heap.size + 1]? = some (.cells #[.int .i64 x.e, .int .i64 x.p] 36 (0, 0)) := (World.putObj_heap_other (by omega)).trans hr2
  have c1 : (W.putObj D (.deferred none)).cell? ⟨w.heap.size, 0, none⟩ = some (.slice none 0 0) := by simp [World.cell?, k1']
  have c2 : (W.putObj D (.deferred none)).cell? ⟨w.heap.size + 1, 0, none⟩ = some (.int .i64 x.e) := by simp [World.cell?, k2']
  have c3 : (W.putObj D (.deferred none)).cell? ⟨w.heap.size + 1, 1, none⟩ = some (.int .i64 x.p) := by simp [World.cell?, k2']
  have k7 : Below w.heap.size w (W.putObj D (.deferred none)) := hB.trans (belowK_b (w := w) (Nat.le_refl _) W D _ _ (by omega) hK rfl rfl)
  generalize W.putObj D (.deferred none) = W4 at *
  refine ⟨.tuple #[.slice none 0 0, .agg #[.int .i64 x.e, .int .i64 x.p]], by simp [results, Tryz.results46, go_sem, c1, c2, c3], ?_⟩
  obtain ⟨r, hr⟩ := hpre
  have hr' : r = [] := HL.out q r x (by rw [<- hr]; simp) hx
  subst hr'
  exact ⟨.inl ⟨q, x, by rw [<- hr]; simp, hx, rfl⟩, k7⟩
end Go.Proofs.YtejaboajgecpaaaGreatDoor.Tok
namespace Go.Proofs.YtejaboajgecpaaaGreatDoor.Tok
open Go.RowKit Go.Shelf
theorem tokens_any (s : ByteArray) (hs : s.size <= 65536) (B : Nat) (w : World) (he : Env B w) :
 Calls Tryz.prog 46 #[.string s] w (TokPost w (items (s.size + 1) s.data.toList (Lx.skipG false s.data.toList))) :=
 callsIn_wide.1 (tokens_in 3 (Nat.le_refl _) s hs _ rfl B w he)
theorem tokens_long (s : ByteArray) (hs : 65536 < s.size) (w : World) :
 Calls Tryz.prog 46 #[.string s] w fun e W' => e = .returned (.tuple #[.slice none 0 0, .agg #[.int .i64 2, .int .i64 65536]]) /\ Below w.heap.size w W' := by
 have hd : decide ((65536 : Int) < (s.size : Int)) = true := by simp; omega
 go_enter Tryz.func46, Tryz.ntmps46
 go_wp2
 refine bodyPost_ret (v := .tuple #[.slice none 0 0, .agg #[.int .i64 2, .int .i64 65536]]) (by simp [results, Tryz.results46, go_sem]) rfl ⟨rfl, ?_⟩
 exact ((Below.refl _ w).alloc (Nat.le_refl _) _).alloc (by simp) _
def kwAt : Nat -> ByteArray
 | 0 => ⟨#[100, 101, 102]⟩
 | 1 => ⟨#[109, 97, 105, 110]⟩
 | 2 => ⟨#[115, 116, 111, 112]⟩
 | 3 => ⟨#[110, 101, 119]⟩
 | 4 => ⟨#[105, 110, 116]⟩
 | 5 => ⟨#[98, 111, 111, 108]⟩
 | 6 => ⟨#[101, 110, 100]⟩
 | 7 => ⟨#[114, 101, 99]⟩
 | 8 => ⟨#[116, 114, 117, 101]⟩
 | _ => ⟨#[102, 97, 108, 115, 101]⟩
theorem kwU : Tryz.prog.underlying 180 = some (.array 10 9) := by kernel_rfl
def kwB : Nat -> ByteArray -> Bool
 | 0, _ => false
 | k + 1, s => kwB k s || (kwAt k).toList == s.toList
def nameB (s : ByteArray) : Bool := !s.toList.isEmpty && decide (Lx.wordLen s.data.toList = s.size) && !kwB 10 s
end Go.Proofs.YtejaboajgecpaaaGreatDoor.Tok
namespace Go.Proofs.YtejaboajgecpaaaGreatDoor.Tok
open Go.RowKit Go.Shelf Go.Deep
def TokAt (w : World) (g o : Nat) (xs : List Item) : Prop :=
 ∀ (k : Nat) (x : Item), xs[k]? = some x -> w.cell? ⟨g, o + k * 4, none⟩ = some (.int .i64 x.k) /\ w.cell? ⟨g, o + k * 4 + 1, none⟩ = some (.string x.t) /\ w.cell? ⟨g, o + k * 4 + 2, none⟩ = some (.int .i64 x.v) /\ w.cell? ⟨g, o + k * 4 + 3, none⟩ = some (.int .i64 x.a)
def joinL (xs : List Item) : List UInt8 := Lib.join ((xs.map Item.t).map (·.data.toList)) [32]
theorem rowOf_get : ∀ (xs : List Item) (k i : Nat) (x : Item), xs[k]? = some x -> i < 4 -> (rowOf xs)[k * 4 + i]? = (cellsOf x)[i]?
 | [], k, i, x, h, _ => by simp at h
 | y :: xs, 0, i, x, h, hi => by
  simp at h; subst h
  have e : rowOf (y :: xs) = cellsOf y ++ rowOf xs := by simp [rowOf]
  rw [e, Nat.zero_mul, Nat.zero_add, List.getElem?_append_left (by simpa [cellsOf] using hi)]
 | y :: xs, k + 1, i, x, h, hi => by
  have e : rowOf (y :: xs) = cellsOf y ++ rowOf xs := by simp [rowOf]
  have el : (cellsOf y).length = 4 := rfl
  rw [e, List.getElem?_append_right (by omega), el]
  have e2 : (k + 1) * 4 + i - 4 = k * 4 + i := by omega
  rw [e2]; exact rowOf_get xs k i x (by simpa using h) hi
theorem tokens_bad (s : ByteArray) (hs : s.size <= 65536) (q : List Item) (x : Item) (hx : items (s.size + 1) s.data.toList (Lx.skipG false s.data.toList) = q ++ [x]) (hxe : x.e ≠ 0) (B : Nat) (w : World) (he : Env B w) :
 Calls Tryz.prog 46 #[.string s] w fun e W' => e = .returned (.tuple #[.slice none 0 0, .agg #[.int .i64 x.e, .int .i64 x.p]]) /\ Below w.heap.size w W' := by
 refine (tokens_any s hs B w he).mono ?_
 rw [hx]
 rintro e W' ⟨⟨q', x', h, _, rfl⟩ | ⟨hok, _⟩, hb⟩
 ·obtain ⟨_, h⟩ := List.append_inj' h rfl
  cases h
  exact ⟨rfl, hb⟩
 ·exact absurd (hok x (by simp)) hxe
theorem items_three (s : ByteArray) : (∃ q x, items (s.size + 1) s.data.toList (Lx.skipG false s.data.toList) = q ++ [x] /\ x.e ≠ 0 /\ ∀ y ∈ q, y.e = 0) \/
 items (s.size + 1) s.data.toList (Lx.skipG false s.data.toList) = [] \/
 (items (s.size + 1) s.data.toList (Lx.skipG false s.data.toList) ≠ [] /\ ∀ x ∈ items (s.size + 1) s.data.toList (Lx.skipG false s.data.toList), x.e = 0) := by
 have hl := items_last (s.size + 1) s.data.toList (Lx.skipG false s.data.toList)
 generalize items (s.size + 1) s.data.toList (Lx.skipG false s.data.toList) = xs at hl |-
 by_cases h : ∀ x ∈ xs, x.e = 0
 ·by_cases h0 : xs = []
  ·exact .inr (.inl h0)
  ·exact .inr (.inr ⟨h0, h⟩)
 ·left
  have : ∀ l : List Item, ¬ (∀ x ∈ l, x.e = 0) -> ∃ q x r, l = q ++ x :: r /\ x.e ≠ 0 /\ ∀ y ∈ q, y.e = 0 := by
   intro l
   induction l with
   | nil => intro h; exact absurd (fun x hx => by cases hx) h
   | cons y l ih =>
    intro h
    by_cases hy : y.e = 0
    ·obtain ⟨q, x, r, e, hx, hq⟩ := ih (fun hl => h (fun x hx => (List.mem_cons.1 hx).elim (fun e => by rw [e]; exact hy) (hl x)))
     exact ⟨y :: q, x, r, by rw [e]; rfl, hx, fun z hz => (List.mem_cons.1 hz).elim (fun e => by rw [e]; exact hy) (hq z)⟩
    ·exact ⟨[], y, l, rfl, hy, fun z hz => by cases hz⟩
  obtain ⟨q, x, r, e, hx, hq⟩ := this xs h
  have hr := hl q r x e hx
  subst hr
  exact ⟨q, x, e, hx, hq⟩
end Go.Proofs.YtejaboajgecpaaaGreatDoor.Tok
namespace Go.Proofs.YtejaboajgecpaaaGreatDoor.Tok
open Go.RowKit Go.Shelf Go.Deep
theorem rtokInfo : (Tryz.prog.info? 93).map (fun i => (i.zero, i.size, i.bytes)) = some (some (.agg #[.int .i64 0, .string ⟨#[]⟩, .int .i64 0, .int .i64 0]), 4, 40) := by kernel_rfl
theorem cells4r_new (W : World) (x : Item) : ∀ (j : Nat) u, (cellsOf x)[j]? = some u -> (W.alloc (.cells #[.int .i64 x.k, .string x.t, .int .i64 x.v, .int .i64 x.a] 93)).cell? ((⟨W.heap.size, 0, none⟩ : Addr).add j) = some u := by
 intro j u hj
 match j, hj with
 | 0, hj => simp [cellsOf] at hj; subst hj; simp [Addr.add]
 | 1, hj => simp [cellsOf] at hj; subst hj; simp [Addr.add]
 | 2, hj => simp [cellsOf] at hj; subst hj; simp [Addr.add]
 | 3, hj => simp [cellsOf] at hj; subst hj; simp [Addr.add]
 | j + 4, hj => simp [cellsOf] at hj
section
variable {P : Program} (w : World)
end
def Holds (W : World) (v : Value) (xs : List Item) : Prop :=
 (v = .slice none 0 0 /\ xs = []) \/ ∃ g o cap, v = .slice (some ⟨g, o, none⟩) xs.length cap /\ g < W.heap.size /\ TokAt W g o xs
theorem tokAt_of_row' {W : World} {base g n cap : Nat} {e : TypeId} {xs : List Item} (h : W.ownsRow base e 4 (.slice (some ⟨g, 0, none⟩) n cap) n (rowOf xs)) (hn : n = xs.length) : TokAt W g 0 xs := by
 intro k x hx
 have hk := (List.getElem?_eq_some_iff.1 hx).1
 have key : ∀ i, i < 4 -> W.cell? ⟨g, k * 4 + i, none⟩ = (cellsOf x)[i]? := fun i hi => (h.cellAt _ (by omega)).trans (rowOf_get xs k i x hx hi)
 rw [Nat.zero_add]
 exact ⟨key 0 (by omega), key 1 (by omega), key 2 (by omega), key 3 (by omega)⟩
theorem holds_of_row {W : World} {base : Nat} {e : TypeId} {v : Value} {xs : List Item} (h : W.ownsRow base e 4 v xs.length (rowOf xs)) : Holds W v xs := by
 have h2 := h.2
 rcases h2 with ⟨rfl, h0⟩ | ⟨g, cap, cur, rfl, _⟩
 ·exact .inl ⟨rfl, List.eq_nil_of_length_eq_zero h0⟩
 ·exact .inr ⟨g, 0, cap, rfl, (ownsRow_block h rfl).2, tokAt_of_row' h rfl⟩
end Go.Proofs.YtejaboajgecpaaaGreatDoor.Tok
