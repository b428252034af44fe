/- Rows of structs that a call owns: lemmas. -/
import Derived.Test.YtejaboajgecpaaaGreatDoorQn10
import Derived.Deep.RegionLaw
set_option maxHeartbeats 16000000
set_option maxRecDepth 100000
namespace Go.Proofs.YtejaboajgecpaaaGreatDoor
open Go.RowKit Go.Deep Go.Shelf
structure ElemOf (sl el : TypeId) (sz : Nat) : Prop where
 ht : Tryz.prog.underlying sl = some (.slice el)
 hi : ∃ (i : TypeInfo) (z : Value), Tryz.prog.info? el = some i /\ i.zero = some z /\ i.size = sz /\ i.bytes <= 10000 /\ z.cells.size = sz
 hs : 0 < sz
theorem elemOf {sl el : TypeId} {sz : Nat} {z : Value} {bytes : Nat} (ht : Tryz.prog.underlying sl = some (.slice el)) (h : (Tryz.prog.info? el).map (fun i => (i.zero, i.size, i.bytes)) = some (some z, sz, bytes)) (hb : bytes <= 10000) (hz : z.cells.size = sz) (hs : 0 < sz) : ElemOf sl el sz := by
 obtain ⟨i0, hi, hz0, hz1, hz2⟩ := info_parts h
 exact ⟨ht, ⟨i0, z, hi, hz0, hz1, by omega, hz⟩, hs⟩
theorem gflat_len {sz : Nat} : ∀ {l : List (List Value)}, (∀ e ∈ l, e.length = sz) -> l.flatten.length = l.length * sz
 | [], _ => by simp
 | e :: r, h => by
  have h1 := h e (by simp)
  have h2 := gflat_len (l := r) (fun x hx => h x (by simp [hx]))
  rw [List.flatten_cons, List.length_append, h1, h2, List.length_cons, Nat.succ_mul]; omega
theorem gflat_get {sz : Nat} : ∀ {l : List (List Value)} (j i : Nat) (e : List Value), (∀ e ∈ l, e.length = sz) -> l[j]? = some e -> i < sz -> l.flatten[j * sz + i]? = e[i]?
 | [], j, i, e, _, h, _ => by simp at h
 | x :: r, 0, i, e, hl, h, hi => by
  simp at h; subst h
  rw [List.flatten_cons, Nat.zero_mul, Nat.zero_add, List.getElem?_append_left (by rw [hl x (by simp)]; exact hi)]
 | x :: r, j + 1, i, e, hl, h, hi => by
  have hx := hl x (by simp)
  have e1 : (j + 1) * sz + i = x.length + (j * sz + i) := by rw [hx, Nat.succ_mul]; omega
  rw [List.flatten_cons, e1, List.getElem?_append_right (Nat.le_add_right _ _), Nat.add_sub_cancel_left]
  exact gflat_get j i e (fun y hy => hl y (by simp [hy])) (by simpa using h) hi
theorem gflat_inv {l : List (List Value)} {u : Value} (h : u ∈ l.flatten) : ∃ e ∈ l, u ∈ e := by
 obtain ⟨e, he, hu⟩ := List.mem_flatten.1 h; exact ⟨e, he, hu⟩
structure GRow (el : TypeId) (sz base : Nat) (W : World) (v : Value) (es : List (List Value)) : Prop where
 own : W.ownsRow base el sz v es.length es.flatten
 len : ∀ e ∈ es, e.length = sz
section
variable {sl el : TypeId} {sz base : Nat} {W W' : World} {v : Value} {es : List (List Value)}
theorem GRow.nil (el : TypeId) (sz base : Nat) (W : World) : GRow el sz base W (.slice none 0 0) [] := ⟨World.ownsRow_nil _ _ _ _, fun _ h => by cases h⟩
theorem GRow.alloc (h : GRow el sz base W v es) (o : Obj) : GRow el sz base (W.alloc o) v es := ⟨World.ownsRow.alloc h.own o, h.len⟩
theorem GRow.lt (h : GRow el sz base W v es) : ∀ k, v.ownBlock = some k -> base <= k /\ k < W.heap.size := World.ownsRow.lt h.own
theorem GRow.kept (h : GRow el sz base W v es) (hb : ∀ k, v.ownBlock = some k -> W'.heap[k]? = W.heap[k]?) : GRow el sz base W' v es := by
 refine ⟨⟨h.own.1, ?_⟩, h.len⟩
 rcases h.own.2 with h0 | ⟨g, cap, cur, rfl, hbg, hg, r⟩
 ·exact .inl h0
 ·exact .inr ⟨g, cap, cur, rfl, hbg, (hb g rfl).trans hg, r⟩
theorem GRow.to (h : GRow el sz base W v es) (hb : Below W.heap.size W W') : GRow el sz base W' v es := h.kept fun k hk => hb.block k (h.lt k hk).2
theorem GRow.slice (h : GRow el sz base W v es) : ∃ a m c, v = .slice a m c := by
 rcases h.own.2 with ⟨rfl, _⟩ | ⟨g, cap, cur, rfl, _⟩
 ·exact ⟨_, _, _, rfl⟩
 ·exact ⟨_, _, _, rfl⟩
theorem GRow.parts (h : GRow el sz base W v es) : (v = .slice none 0 0 /\ es = []) \/ ∃ g cap, v = .slice (some ⟨g, 0, none⟩) es.length cap /\ base <= g /\ g < W.heap.size /\ es.length <= cap /\ ∀ i, W.frozen? ⟨g, i, none⟩ = false := by
 rcases h.own.2 with ⟨rfl, h0⟩ | ⟨g, cap, cur, rfl, hbg, hg, hc, _⟩
 ·exact .inl ⟨rfl, List.length_eq_zero_iff.1 h0⟩
 ·exact .inr ⟨g, cap, rfl, hbg, (h.lt g rfl).2, hc, fun i => frozen_of_block hg i⟩
theorem GRow.cell (h : GRow el sz base W v es) {j i : Nat} {e : List Value} {u : Value} (hj : es[j]? = some e) (hi : e[i]? = some u) : ∃ g cap, v = .slice (some ⟨g, 0, none⟩) es.length cap /\ W.cell? ⟨g, j * sz + i, none⟩ = some u := by
 have hjl : j < es.length := (List.getElem?_eq_some_iff.1 hj).1
 have he := h.len e (List.mem_of_getElem? hj)
 have hil : i < sz := by have := (List.getElem?_eq_some_iff.1 hi).1; omega
 rcases h.parts with ⟨_, rfl⟩ | ⟨g, cap, rfl, _⟩
 ·simp at hj
 ·refine ⟨g, cap, rfl, ?_⟩
  have hlt : j * sz + i < es.length * sz := by
   have : (j + 1) * sz <= es.length * sz := Nat.mul_le_mul_right _ hjl
   rw [Nat.succ_mul] at this; omega
  rw [World.ownsRow.cellAt h.own (j * sz + i) hlt, gflat_get j i e h.len hj hil]
  exact hi
theorem run_nothingG (I : ElemOf sl el sz) (ty : TypeId) (h : GRow el sz base W v es) (a : Option Addr) (c : Nat) :
 (Builtin.append_ #[sl, sl] ty #[v, .slice a 0 c]).run Tryz.prog W = .ok v W := by
 obtain ⟨i0, z, hi, hz0, hz1, hz2, hz3⟩ := I.hi
 have ht := I.ht
 rcases h.own.2 with ⟨rfl, h0⟩ | ⟨g, cap, cur, rfl, _, _, hnc, _⟩
 ·cases a with
  | none => simp [Builtin.append_, run_underlying ht, sizeOf, typeInfo, hi, Builtin.lenOf, Builtin.firstCells]
  | some ad => simp [Builtin.append_, run_underlying ht, sizeOf, typeInfo, hi, Builtin.lenOf, Builtin.firstCells, loadCells, loadCellsFrom]
 ·cases a with
  | none => simp [Builtin.append_, run_underlying ht, sizeOf, typeInfo, hi, Builtin.lenOf, Builtin.firstCells, hnc, storeCells]
  | some ad => simp [Builtin.append_, run_underlying ht, sizeOf, typeInfo, hi, Builtin.lenOf, Builtin.firstCells, hnc, storeCells, loadCells, loadCellsFrom]
def RowSrc (sz : Nat) (W : World) (na : Option Addr) (news : List (List Value)) : Prop :=
 news = [] \/ ∃ b o, na = some ⟨b, o, none⟩ /\ ∀ (j : Nat) (e : List Value) (i : Nat) (u : Value), news[j]? = some e -> e[i]? = some u -> W.cell? ⟨b, o + (j * sz + i), none⟩ = some u
theorem GRow.src (h : GRow el sz base W v es) : ∃ a n c, v = .slice a n c /\ n = es.length /\ RowSrc sz W a es := by
 rcases h.parts with ⟨rfl, rfl⟩ | ⟨g, cap, rfl, _⟩
 ·exact ⟨_, _, _, rfl, rfl, .inl rfl⟩
 ·refine ⟨_, _, _, rfl, rfl, .inr ⟨g, 0, rfl, fun j e i u hj hi => ?_⟩⟩
  obtain ⟨g', cap', e1, e2⟩ := h.cell hj hi
  simp only [Value.slice.injEq, Option.some.injEq, Addr.mk.injEq, and_true, true_and] at e1
  rw [Nat.zero_add, e1.1]; exact e2
theorem run_appG (I : ElemOf sl el sz) (ty : TypeId) (h : GRow el sz base W v es) (na : Option Addr) (nn nc : Nat) (news : List (List Value)) (hnn : nn = news.length) (hlen : ∀ e ∈ news, e.length = sz) (hsrc : RowSrc sz W na news) (hone : ∀ e ∈ news, ∀ u ∈ e, u.oneCell' = true) (h63 : es.length + news.length <= 1000000000) (hbase : base <= W.heap.size) :
 ∃ ga gn gc w', (Builtin.append_ #[sl, sl] ty #[v, .slice na nn nc]).run Tryz.prog W = .ok (.slice ga gn gc) w' /\ GRow el sz base w' (.slice ga gn gc) (es ++ news) /\ W.grownBy w' v.ownBlock /\ ((Value.slice ga gn gc).ownBlock = v.ownBlock \/ (Value.slice ga gn gc).ownBlock = some W.heap.size) := by
 obtain ⟨i0, z, hi, hz0, hz1, hz2, hz3⟩ := I.hi
 have hs := I.hs
 subst hnn
 rcases hsrc with rfl | ⟨b, o, rfl, hc⟩
 ·obtain ⟨ga, gn, gc, rfl⟩ := h.slice
  exact ⟨_, _, _, W, run_nothingG I ty h na nc, by rw [List.append_nil]; exact h, ⟨rfl, rfl, rfl, Nat.le_refl _, fun _ _ _ => rfl⟩, .inl rfl⟩
 ·obtain ⟨v', w', hr, h2, h3, h4, h5⟩ := run_append_own_at (P := Tryz.prog) W base sl ty el i0 z sz i0.bytes I.ht hi hz0 hz1 rfl hz3 hs _ _ _ h.own ⟨b, o, none⟩ news.length nc news.flatten (gflat_len hlen) (fun j u hj => by
   have hjl : j < news.length * sz := by have := (List.getElem?_eq_some_iff.1 hj).1; rwa [gflat_len hlen] at this
   have hq : j / sz < news.length := (Nat.div_lt_iff_lt_mul hs).2 hjl
   obtain ⟨e, he⟩ : ∃ e, news[j / sz]? = some e := ⟨_, List.getElem?_eq_getElem hq⟩
   have hj2 : j = j / sz * sz + j % sz := by have := Nat.div_add_mod j sz; rw [Nat.mul_comm] at this; omega
   rw [hj2, gflat_get (j / sz) (j % sz) e hlen he (Nat.mod_lt _ hs)] at hj
   have h := hc (j / sz) e (j % sz) u he hj
   rw [<- hj2] at h
   cases j with
   | zero => simpa [Addr.add] using h
   | succ j => simpa [Addr.add] using h) (fun u hu => by
   obtain ⟨e, he, hue⟩ := gflat_inv hu
   exact hone e he u hue) (by unfold maxLen; omega) (by
    have : (es.length + news.length) * i0.bytes <= 1000000000 * 10000 := Nat.mul_le_mul h63 hz2
    omega) hbase
  have h2' : GRow el sz base w' v' (es ++ news) := ⟨by rw [List.length_append, List.flatten_append]; exact h2, fun e he => by
   rcases List.mem_append.1 he with he | he
   ·exact h.len e he
   ·exact hlen e he⟩
  obtain ⟨ga, gn, gc, rfl⟩ := h2'.slice
  exact ⟨_, _, _, w', hr, h2', h3, h5⟩
theorem step_appG {ops : Array Oper} {o : Oper} {a : Act} {w : World} {K : Act -> World -> Prop} {Q : Exit -> Act -> World -> Prop} {E : Prop} (I : ElemOf sl el sz) (hgd : o.guard = none) (s x : Operand)
 (ho : o.op = .call { callee := .builtin .append, args := #[s, x], argTypes := #[sl, sl] })
 (hs : a.eval s = v) (h : GRow el sz base w v es) (na : Option Addr) (nn nc : Nat) (news : List (List Value)) (hx : a.eval x = .slice na nn nc) (hnn : nn = news.length) (hlen : ∀ e ∈ news, e.length = sz) (hsrc : RowSrc sz w na news) (hone : ∀ e ∈ news, ∀ u ∈ e, u.oneCell' = true) (h63 : es.length + news.length <= 1000000000) (hbase : base <= w.heap.size)
 (m : List (List Value)) (hm : es ++ news = m)
 (hk : ∀ ga gn gc w', GRow el sz base w' (.slice ga gn gc) m -> w.grownBy w' v.ownBlock -> ((Value.slice ga gn gc).ownBlock = v.ownBlock \/ (Value.slice ga gn gc).ownBlock = some w.heap.size) -> K (a.put o.dst (.slice ga gn gc)) w') :
 if Region.wanted o (yielded ops a.tmps) = true then Oper.wp Tryz.prog o a w K Q else E := by
 subst hm
 have hw : Region.wanted o (yielded ops a.tmps) = true := by simp [Region.wanted, hgd]
 rw [if_pos hw]
 obtain ⟨ga, gn, gc, w', hr, h2, h3, h4⟩ := run_appG I o.type h na nn nc news hnn hlen hsrc hone h63 hbase
 unfold Oper.wp execOp
 simp only [ho, resolve, invoke, builtin, Sem.run_bind, Sem.run_pure, Result.andThen_ok, List.map_toArray, List.map_cons, List.map_nil, hs, hx, hr]
 exact hk ga gn gc w' h2 h3 h4
end
end Go.Proofs.YtejaboajgecpaaaGreatDoor
namespace Go.Proofs.YtejaboajgecpaaaGreatDoor
open Go.RowKit Go.Deep Go.Shelf
theorem wpList_appG {sl el : TypeId} {sz base : Nat} {v : Value} {es : List (List Value)} {ops : Array Oper} {rest : List Oper} {o : Oper} {a : Act} {w : World} {Q : Exit -> Act -> World -> Prop} (I : ElemOf sl el sz) (hgd : o.guard = none) (s x : Operand)
 (ho : o.op = .call { callee := .builtin .append, args := #[s, x], argTypes := #[sl, sl] })
 (hs : a.eval s = v) (h : GRow el sz base w v es) (na : Option Addr) (nn nc : Nat) (news : List (List Value)) (hx : a.eval x = .slice na nn nc) (hnn : nn = news.length) (hlen : ∀ e ∈ news, e.length = sz) (hsrc : RowSrc sz w na news) (hone : ∀ e ∈ news, ∀ u ∈ e, u.oneCell' = true) (h63 : es.length + news.length <= 1000000000) (hbase : base <= w.heap.size)
 (hk : ∀ ga gn gc w', GRow el sz base w' (.slice ga gn gc) (es ++ news) -> w.grownBy w' v.ownBlock -> ((Value.slice ga gn gc).ownBlock = v.ownBlock \/ (Value.slice ga gn gc).ownBlock = some w.heap.size) -> wpList Tryz.prog ops Q rest (a.put o.dst (.slice ga gn gc)) w') : wpList Tryz.prog ops Q (o :: rest) a w := by
 refine wpList_plain hgd fun K hK => ?_
 obtain ⟨ga, gn, gc, w', hr, h2, h3, h4⟩ := run_appG I o.type h na nn nc news hnn hlen hsrc hone h63 hbase
 unfold Oper.wp execOp
 simp only [ho, resolve, invoke, builtin, Sem.run_bind, Sem.run_pure, Result.andThen_ok, List.map_toArray, List.map_cons, List.map_nil, hs, hx, hr]
 exact hK _ _ (hk ga gn gc w' h2 h3 h4)
theorem src_at {sz : Nat} {w : World} {cs : List Value} {t : TypeId} {fr : Nat × Nat} {b : Nat} (h : w.heap[b]? = some (.cells cs.toArray t fr)) : RowSrc sz w (some ⟨b, 0, none⟩) [cs] := by
 refine .inr ⟨b, 0, rfl, fun j e i u hj hi => ?_⟩
 cases j with
 | zero =>
  simp only [List.getElem?_cons_zero, Option.some.injEq] at hj
  subst hj
  rw [show 0 + (0 * sz + i) = i by omega]
  simp only [World.cell?, h]
  simpa using hi
 | succ j => simp at hj
theorem GRow.single {el : TypeId} {sz base : Nat} (w : World) (cs : List Value) (hcs : cs.length = sz) (hb : base <= w.heap.size) : GRow el sz base (w.alloc (.cells cs.toArray el)) (.slice (some ⟨w.heap.size, 0, none⟩) 1 1) [cs] := by
 refine ⟨⟨by simp [hcs], .inr ⟨w.heap.size, 1, cs.toArray, rfl, hb, World.alloc_heap_new _ _, Nat.le_refl _, by unfold maxLen; omega, by simp [hcs], ?_⟩⟩, fun x hx => by rw [List.mem_singleton.1 hx]; exact hcs⟩
 rw [show ([cs] : List (List Value)).flatten = cs by simp, List.take_of_length_le (by simp [hcs])]
abbrev cl (v : Value) : List Value := v.cells.toList
structure Lyer {α : Type} (V : (Nat -> Prop) -> World -> Value -> α -> Prop) (sz : Nat) : Prop where
 keep : ∀ {B : Nat -> Prop} {w w' : World} {v : Value} {x : α}, Keeps B w w' -> V B w v x -> V B w' v x
 mono : ∀ {B C : Nat -> Prop} {w : World} {v : Value} {x : α}, (∀ k, B k -> C k) -> V B w v x -> V C w v x
 len : ∀ {B : Nat -> Prop} {w : World} {v : Value} {x : α}, V B w v x -> (cl v).length = sz
 one : ∀ {B : Nat -> Prop} {w : World} {v : Value} {x : α}, V B w v x -> ∀ u ∈ cl v, u.oneCell' = true
theorem lyTy : Lyer (fun B w v t => TyVal B w v t) 6 := by
 refine ⟨fun h hv => hv.keep h, fun h hv => hv.mono h, ?_, ?_⟩
 ·rintro B w v x ⟨lv, kv, rfl, _⟩; rfl
 ·rintro B w v x ⟨lv, kv, rfl, _, hl, hk⟩ u hu
  obtain ⟨la, ln, lc, rfl, _⟩ := hl.open
  obtain ⟨ka, kn, kc, rfl, _⟩ := hk.open
  simp only [cl, Value.cells, List.mem_cons, List.not_mem_nil, or_false] at hu
  rcases hu with rfl | rfl | rfl | rfl | rfl | rfl <;> rfl
theorem lyPr : Lyer (fun B w v p => PrVal B w v p) 12 := by
 refine ⟨fun h hv => hv.keep h, fun h hv => hv.mono h, ?_, ?_⟩
 ·rintro B w v x ⟨lv, av, tl, tk, kv, rfl, _⟩; rfl
 ·intro B w v x h u hu
  obtain ⟨la, ln, lc, aa, an, ac, ta, tn, tc, ua, un, uc, ka, kn, kc, rfl⟩ := PrVal.open h
  simp only [cl, Value.cells, List.mem_cons, List.not_mem_nil, or_false] at hu
  rcases hu with rfl | rfl | rfl | rfl | rfl | rfl | rfl | rfl | rfl | rfl | rfl | rfl <;> rfl
def VlVal (_ : Nat -> Prop) (_ : World) (v : Value) (a : Vl) : Prop := v = .agg #[.int .i64 a.k, .string a.n, .int .i64 a.x] /\ a.n.size <= maxLen
theorem lyVl : Lyer VlVal 3 := by
 refine ⟨fun _ hv => hv, fun _ hv => hv, ?_, ?_⟩
 ·rintro B w v x ⟨rfl, _⟩; rfl
 ·rintro B w v x ⟨rfl, _⟩ u hu
  simp only [cl, Value.cells, List.mem_cons, List.not_mem_nil, or_false] at hu
  rcases hu with rfl | rfl | rfl <;> rfl
def PmVal (B : Nat -> Prop) (w : World) (v : Value) (a : Pm) : Prop := ∃ tl tk, v = .agg #[.string a.n, .int .i64 a.t.k, .int .i64 a.t.p, .string a.t.n, .int .i64 a.t.s, tl, tk] /\ a.n.size <= maxLen /\ TyVal B w (.agg #[.int .i64 a.t.k, .int .i64 a.t.p, .string a.t.n, .int .i64 a.t.s, tl, tk]) a.t
theorem TyVal.slices {B : Nat -> Prop} {w : World} {t : Ty} {x1 x2 : Value} {k p s : Value} {n : Value} (h : TyVal B w (.agg #[k, p, n, s, x1, x2]) t) : ∃ la ln lc ka kn kc, x1 = .slice la ln lc /\ x2 = .slice ka kn kc := by
 obtain ⟨lv, kv, e, _, hl, hk⟩ := h
 simp only [Value.agg.injEq, Array.mk.injEq, List.cons.injEq, and_true] at e
 obtain ⟨-, -, -, -, rfl, rfl⟩ := e
 obtain ⟨la, ln, lc, rfl, _⟩ := hl.open
 obtain ⟨ka, kn, kc, rfl, _⟩ := hk.open
 exact ⟨_, _, _, _, _, _, rfl, rfl⟩
theorem lyPm : Lyer PmVal 7 := by
 refine ⟨?_, ?_, ?_, ?_⟩
 ·rintro B w w' v x h ⟨tl, tk, e, hn, ht⟩; exact ⟨tl, tk, e, hn, ht.keep h⟩
 ·rintro B C w v x h ⟨tl, tk, e, hn, ht⟩; exact ⟨tl, tk, e, hn, ht.mono h⟩
 ·rintro B w v x ⟨tl, tk, rfl, _⟩; rfl
 ·rintro B w v x ⟨tl, tk, rfl, _, ht⟩ u hu
  obtain ⟨la, ln, lc, ka, kn, kc, rfl, rfl⟩ := ht.slices
  simp only [cl, Value.cells, List.mem_cons, List.not_mem_nil, or_false] at hu
  rcases hu with rfl | rfl | rfl | rfl | rfl | rfl | rfl <;> rfl
structure ButO (P : Nat) (O : Nat -> Prop) (w w' : World) : Prop where
 os : w'.os = w.os
 tape : w'.tape = w.tape
 output : w'.output = w.output
 size : w.heap.size <= w'.heap.size
 block : ∀ k, k < w.heap.size -> k ≠ P -> ¬ O k -> w'.heap[k]? = w.heap[k]?
section
variable {P : Nat} {O O' : Nat -> Prop} {w w' w'' : World}
theorem ButO.refl (P : Nat) (O : Nat -> Prop) (w : World) : ButO P O w w := ⟨rfl, rfl, rfl, Nat.le_refl _, fun _ _ _ _ => rfl⟩
theorem But.o (h : But P w w') (O : Nat -> Prop) : ButO P O w w' := ⟨h.os, h.tape, h.output, h.size, fun k hk hn _ => h.block k hk hn⟩
theorem ButO.but (h : ButO P O w w') (hO : ∀ k, k < w.heap.size -> ¬ O k) : But P w w' := ⟨h.os, h.tape, h.output, h.size, fun k hk hn => h.block k hk hn (hO k hk)⟩
theorem ButO.trans (h : ButO P O w w') (k : ButO P O' w' w'') (hO : ∀ j, O' j -> O j \/ w.heap.size <= j) : ButO P O w w'' := ⟨k.os.trans h.os, k.tape.trans h.tape, k.output.trans h.output, Nat.le_trans h.size k.size, fun j hj hn ho => (k.block j (Nat.lt_of_lt_of_le hj h.size) hn (fun e => (hO j e).elim ho (fun e => by omega))).trans (h.block j hj hn ho)⟩
theorem ButO.to (h : ButO P O w w') (k : Below w'.heap.size w' w'') : ButO P O w w'' := h.trans (O' := fun _ => False) ((But.of k).o _) (fun _ h => h.elim)
theorem ButO.below {B : Nat} (h : ButO P O w w') (hP : B <= P) (hO : ∀ k, O k -> B <= k) (hB : B <= w.heap.size) : Below B w w' := ⟨h.os, h.tape, h.output, h.size, fun j hj => h.block j (by omega) (by omega) (fun e => by have := hO j e; omega)⟩
theorem ButO.grown {row : Option Nat} (h : w.grownBy w' row) (P : Nat) : ButO P (fun k => some k = row) w w' := ⟨h.os, h.tape, h.output, h.size, fun k hk _ ho => h.block k hk ho⟩
end
structure LRow {α : Type} (el : TypeId) (sz base : Nat) (V : (Nat -> Prop) -> World -> Value -> α -> Prop) (O : Nat -> Prop) (w : World) (l : Value) (vs : List Value) (xs : List α) : Prop where
 row : GRow el sz base w l (vs.map cl)
 len : vs.length = xs.length
 val : ∀ (j : Nat) (u : Value) (x : α), vs[j]? = some u -> xs[j]? = some x -> V (fun k => base <= k /\ k < w.heap.size /\ ¬ O k /\ some k ≠ l.ownBlock) w u x
 out : ∀ k, l.ownBlock = some k -> ¬ O k
section
variable {α : Type} {el : TypeId} {sz base P : Nat} {V : (Nat -> Prop) -> World -> Value -> α -> Prop} {O O' : Nat -> Prop} {w w' : World} {l : Value} {vs : List Value} {xs : List α}
theorem LRow.nil (el : TypeId) (sz base : Nat) (V : (Nat -> Prop) -> World -> Value -> α -> Prop) (O : Nat -> Prop) (w : World) : LRow el sz base V O w (.slice none 0 0) [] ([] : List α) := ⟨GRow.nil _ _ _ _, rfl, fun j u x h => by simp at h, fun k h => by cases h⟩
theorem LRow.frame (L : Lyer V sz) (h : LRow el sz base V O w l vs xs) (hb : ButO P O w w') (hP : P < base) (hO : ∀ k, O' k -> O k \/ w.heap.size <= k) : LRow el sz base V O' w' l vs xs := by
 refine ⟨h.row.kept fun k hk => hb.block k (h.row.lt k hk).2 (fun e => by have := (h.row.lt k hk).1; omega) (h.out k hk), h.len, fun j u x hu hx => ?_, fun k hk e => ?_⟩
 ·refine L.mono (fun k hk => ?_) (L.keep (w' := w') (fun k o hk ho _ => (hb.block k hk.2.1 (fun e => by have := hk.1; omega) hk.2.2.1).trans ho) (h.val j u x hu hx))
  exact ⟨hk.1, Nat.lt_of_lt_of_le hk.2.1 hb.size, fun e => (hO k e).elim hk.2.2.1 (fun e => by have := hk.2.1; omega), hk.2.2.2⟩
 ·rcases hO k e with e | e
  ·exact h.out k hk e
  ·have := (h.row.lt k hk).2; omega
theorem LRow.grow {l' : Value} {u : Value} {x : α} (L : Lyer V sz) (h : LRow el sz base V O w l vs xs) (hu : V (fun k => base <= k /\ k < w.heap.size /\ ¬ O k /\ some k ≠ l.ownBlock) w u x) (hr : GRow el sz base w' l' (vs.map cl ++ [cl u])) (hg : w.grownBy w' l.ownBlock) (hl : l'.ownBlock = l.ownBlock \/ l'.ownBlock = some w.heap.size) (hO : ∀ k, O k -> k < w.heap.size) : LRow el sz base V O w' l' (vs ++ [u]) (xs ++ [x]) := by
 have hk : Keeps (fun k => base <= k /\ k < w.heap.size /\ ¬ O k /\ some k ≠ l.ownBlock) w w' := fun k o hk ho _ => (hg.block k hk.2.1 hk.2.2.2).trans ho
 have hm : ∀ k, (base <= k /\ k < w.heap.size /\ ¬ O k /\ some k ≠ l.ownBlock) -> base <= k /\ k < w'.heap.size /\ ¬ O k /\ some k ≠ l'.ownBlock := fun k hk => ⟨hk.1, Nat.lt_of_lt_of_le hk.2.1 hg.size, hk.2.2.1, fun e => by
  rcases hl with hl | hl
  ·exact hk.2.2.2 (e.trans hl)
  ·have := Option.some.inj (e.trans hl); have := hk.2.1; omega⟩
 refine ⟨by rw [List.map_append]; exact hr, by simp [h.len], fun j v y hv hy => ?_, fun k hk e => ?_⟩
 ·rcases Nat.lt_or_ge j vs.length with hj | hj
  ·rw [List.getElem?_append_left hj] at hv
   rw [List.getElem?_append_left (by rw [<- h.len]; exact hj)] at hy
   exact L.mono hm (L.keep hk (h.val j v y hv hy))
  ·rw [List.getElem?_append_right hj] at hv
   rw [List.getElem?_append_right (by rw [<- h.len]; exact hj), <- h.len] at hy
   cases hq : j - vs.length with
   | zero =>
    rw [hq] at hv hy
    simp only [List.getElem?_cons_zero, Option.some.injEq] at hv hy
    subst hv hy
    exact L.mono hm (L.keep hk hu)
   | succ q => rw [hq] at hv; simp at hv
 ·rcases hl with hl | hl
  ·exact h.out k (hl ▸ hk) e
  ·have := Option.some.inj (hl.symm.trans hk); have := hO k e; omega
theorem LRow.one {u : Value} {x : α} (L : Lyer V sz) (hu : V (fun k => base <= k /\ k < w.heap.size /\ ¬ O k) w u x) (hO : ∀ k, O k -> k < w.heap.size) (hb : base <= w.heap.size) : LRow el sz base V O (w.alloc (.cells (cl u).toArray el)) (.slice (some ⟨w.heap.size, 0, none⟩) 1 1) [u] [x] := by
 refine ⟨GRow.single w (cl u) (L.len hu) hb, rfl, fun j v y hv hy => ?_, fun k hk e => ?_⟩
 ·cases j with
  | zero =>
   simp only [List.getElem?_cons_zero, Option.some.injEq] at hv hy
   subst hv hy
   refine L.mono (fun k hk => ?_) (L.keep (w' := w.alloc (.cells (cl u).toArray el)) (fun k o hk ho _ => (Below.heap_alloc _ _ _ hk.2.1).trans ho) hu)
   exact ⟨hk.1, by rw [World.size_alloc]; have := hk.2.1; omega, hk.2.2, fun e => by have e' : k = w.heap.size := Option.some.inj e; have := hk.2.1; omega⟩
  | succ j => simp at hv
 ·have e' : w.heap.size = k := Option.some.inj hk
  have := hO k e
  omega
theorem LRow.reO (L : Lyer V sz) (h : LRow el sz base V O w l vs xs) (hO : ∀ k, O' k -> O k) : LRow el sz base V O' w l vs xs := ⟨h.row, h.len, fun j u x hu hx => L.mono (fun k hk => ⟨hk.1, hk.2.1, fun e => hk.2.2.1 (hO k e), hk.2.2.2⟩) (h.val j u x hu hx), fun k hk e => h.out k hk (hO k e)⟩
end
theorem tysAt_all {B : Nat -> Prop} {w : World} {b : Nat} : ∀ (ts : List Ty) (o : Nat), (∀ (j : Nat) (t : Ty), ts[j]? = some t -> TyAt B w t b (o + j * 6)) -> TysAt B w ts b o
 | [], _, _ => by simp only [TysAt]
 | t :: r, o, h => by
  simp only [TysAt]
  refine ⟨by simpa using h 0 t rfl, tysAt_all r (o + 6) (fun j u hj => ?_)⟩
  have := h (j + 1) u (by simpa using hj)
  rwa [show o + (j + 1) * 6 = o + 6 + j * 6 by omega] at this
theorem prsAt_all {B : Nat -> Prop} {w : World} {b : Nat} : ∀ (ps : List Pr) (o : Nat), (∀ (j : Nat) (p : Pr), ps[j]? = some p -> PrAt B w p b (o + j * 12)) -> PrsAt B w ps b o
 | [], _, _ => by simp only [PrsAt]
 | t :: r, o, h => by
  simp only [PrsAt]
  refine ⟨by simpa using h 0 t rfl, prsAt_all r (o + 12) (fun j u hj => ?_)⟩
  have := h (j + 1) u (by simpa using hj)
  rwa [show o + (j + 1) * 12 = o + 12 + j * 12 by omega] at this
section
variable {base sz : Nat} {el : TypeId} {w : World} {l : Value} {vs : List Value} {C : Nat -> Prop}
theorem LRow.cells {α : Type} {V : (Nat -> Prop) -> World -> Value -> α -> Prop} {O : Nat -> Prop} {xs : List α} (h : LRow el sz base V O w l vs xs) {g n cap : Nat} (hl : l = .slice (some ⟨g, 0, none⟩) n cap) {j : Nat} {u : Value} (hu : vs[j]? = some u) {i : Nat} {z : Value} (hz : (cl u)[i]? = some z) : w.cell? ⟨g, j * sz + i, none⟩ = some z := by
 obtain ⟨g', cap', e, hc⟩ := h.row.cell (j := j) (i := i) (e := cl u) (u := z) (by rw [List.getElem?_map, hu]; rfl) hz
 rw [hl] at e
 simp only [Value.slice.injEq, Option.some.injEq, Addr.mk.injEq, and_true] at e
 rw [e.1]; exact hc
theorem LRow.parts {α : Type} {V : (Nat -> Prop) -> World -> Value -> α -> Prop} {O : Nat -> Prop} {xs : List α} (h : LRow el sz base V O w l vs xs) : (l = .slice none 0 0 /\ xs = []) \/ ∃ g cap, l = .slice (some ⟨g, 0, none⟩) xs.length cap /\ base <= g /\ g < w.heap.size /\ xs.length <= cap := by
 rcases h.row.parts with ⟨e, hn⟩ | ⟨g, cap, e, h1, h2, h3, _⟩
 ·refine .inl ⟨e, List.length_eq_zero_iff.1 ?_⟩
  rw [<- h.len]
  simpa using hn
 ·rw [List.length_map, h.len] at e h3
  exact .inr ⟨g, cap, e, h1, h2, h3⟩
theorem LRow.at {α : Type} {V : (Nat -> Prop) -> World -> Value -> α -> Prop} {O : Nat -> Prop} {xs : List α} (h : LRow el sz base V O w l vs xs) {j : Nat} {x : α} (hx : xs[j]? = some x) : ∃ u, vs[j]? = some u /\ V (fun k => base <= k /\ k < w.heap.size /\ ¬ O k /\ some k ≠ l.ownBlock) w u x := by
 have hj := (List.getElem?_eq_some_iff.1 hx).1
 rw [<- h.len] at hj
 exact ⟨_, List.getElem?_eq_getElem hj, h.val j _ x (List.getElem?_eq_getElem hj) hx⟩
theorem LRow.tys {O : Nat -> Prop} {xs : List Ty} (h : LRow 28 6 base (fun B w v t => TyVal B w v t) O w l vs xs) (hm : xs.length <= maxLen) : TySl (fun k => base <= k /\ k < w.heap.size /\ ¬ O k) w l xs := by
 rcases h.parts with ⟨rfl, rfl⟩ | ⟨g, cap, e, h1, h2, _⟩
 ·exact ⟨.inl ⟨⟨_, _, rfl⟩, rfl⟩, Nat.zero_le _⟩
 ·have hB : base <= g /\ g < w.heap.size /\ ¬ O g := ⟨h1, h2, h.out g (by rw [e]; rfl)⟩
  refine ⟨.inr ⟨g, 0, cap, e, hB, tysAt_all xs 0 (fun j t hj => ?_)⟩, hm⟩
  obtain ⟨u, hu, hv⟩ := h.at hj
  have hc := fun i z (hz : (cl u)[i]? = some z) => h.cells e hu (i := i) (z := z) hz
  have hv' := lyTy.mono (C := fun k => base <= k /\ k < w.heap.size /\ ¬ O k) (fun k hk => ⟨hk.1, hk.2.1, hk.2.2.1⟩) hv
  obtain ⟨lv, kv, rfl, _⟩ := hv
  rw [Nat.zero_add]
  exact tyAt_of hB (hc 0 _ rfl) (hc 1 _ rfl) (hc 2 _ rfl) (hc 3 _ rfl) (hc 4 _ rfl) (hc 5 _ rfl) hv'
theorem LRow.prs {O : Nat -> Prop} {xs : List Pr} (h : LRow 31 12 base (fun B w v t => PrVal B w v t) O w l vs xs) (hm : xs.length <= maxLen) : PrSl (fun k => base <= k /\ k < w.heap.size /\ ¬ O k) w l xs := by
 rcases h.parts with ⟨rfl, rfl⟩ | ⟨g, cap, e, h1, h2, _⟩
 ·exact ⟨.inl ⟨⟨_, _, rfl⟩, rfl⟩, Nat.zero_le _⟩
 ·have hB : base <= g /\ g < w.heap.size /\ ¬ O g := ⟨h1, h2, h.out g (by rw [e]; rfl)⟩
  refine ⟨.inr ⟨g, 0, cap, e, hB, prsAt_all xs 0 (fun j t hj => ?_)⟩, hm⟩
  obtain ⟨u, hu, hv⟩ := h.at hj
  have hc := fun i z (hz : (cl u)[i]? = some z) => h.cells e hu (i := i) (z := z) hz
  have hv' := lyPr.mono (C := fun k => base <= k /\ k < w.heap.size /\ ¬ O k) (fun k hk => ⟨hk.1, hk.2.1, hk.2.2.1⟩) hv
  obtain ⟨lv, av, tl, tk, kv, rfl, _⟩ := hv
  rw [Nat.zero_add]
  exact prAt_of hB (hc 0 _ rfl) (hc 1 _ rfl) (hc 2 _ rfl) (hc 3 _ rfl) (hc 4 _ rfl) (hc 5 _ rfl) (hc 6 _ rfl) (hc 7 _ rfl) (hc 8 _ rfl) (hc 9 _ rfl) (hc 10 _ rfl) (hc 11 _ rfl) hv'
theorem LRow.vls {O : Nat -> Prop} {xs : List Vl} (h : LRow 82 3 base VlVal O w l vs xs) (hm : xs.length <= maxLen) : VlSl (fun k => base <= k /\ k < w.heap.size /\ ¬ O k) w l xs := by
 have hn : ∀ a ∈ xs, a.n.size <= maxLen := fun a ha => by
  obtain ⟨j, hj⟩ := List.getElem?_of_mem ha
  obtain ⟨u, hu, hv⟩ := h.at hj
  exact hv.2
 rcases h.parts with ⟨rfl, rfl⟩ | ⟨g, cap, e, h1, h2, h3⟩
 ·exact ⟨.inl ⟨⟨_, _, rfl⟩, rfl⟩, Nat.zero_le _, hn⟩
 ·refine ⟨.inr ⟨g, 0, cap, e, ⟨h1, h2, h.out g (by rw [e]; rfl)⟩, h3, fun j a hj => ?_⟩, hm, hn⟩
  obtain ⟨u, hu, hv⟩ := h.at hj
  have hc := fun i z (hz : (cl u)[i]? = some z) => h.cells e hu (i := i) (z := z) hz
  obtain ⟨rfl, _⟩ := hv
  rw [Nat.zero_add]
  exact ⟨hc 0 _ rfl, hc 1 _ rfl, hc 2 _ rfl⟩
theorem LRow.pms {O : Nat -> Prop} {xs : List Pm} (h : LRow 63 7 base PmVal O w l vs xs) (hm : xs.length <= maxLen) : PmSl (fun k => base <= k /\ k < w.heap.size /\ ¬ O k) w l xs := by
 rcases h.parts with ⟨rfl, rfl⟩ | ⟨g, cap, e, h1, h2, _⟩
 ·exact ⟨.inl ⟨⟨_, _, rfl⟩, rfl⟩, Nat.zero_le _⟩
 ·have hB : base <= g /\ g < w.heap.size /\ ¬ O g := ⟨h1, h2, h.out g (by rw [e]; rfl)⟩
  refine ⟨.inr ⟨g, 0, cap, e, hB, fun j a hj => ?_⟩, hm⟩
  obtain ⟨u, hu, hv⟩ := h.at hj
  have hc := fun i z (hz : (cl u)[i]? = some z) => h.cells e hu (i := i) (z := z) hz
  have hv' := lyPm.mono (C := fun k => base <= k /\ k < w.heap.size /\ ¬ O k) (fun k hk => ⟨hk.1, hk.2.1, hk.2.2.1⟩) hv
  obtain ⟨tl, tk, rfl, hn, _⟩ := hv
  obtain ⟨tl', tk', e', _, ht⟩ := hv'
  simp only [Value.agg.injEq, Array.mk.injEq, List.cons.injEq, and_true, true_and] at e'
  obtain ⟨rfl, rfl⟩ := e'
  rw [Nat.zero_add]
  exact ⟨hn, hc 0 _ rfl, tyAt_of hB (hc 1 _ rfl) (hc 2 _ rfl) (hc 3 _ rfl) (hc 4 _ rfl) (hc 5 _ rfl) (hc 6 _ rfl) ht⟩
end
def ElemOK {γ α : Type} (P tb : Nat) (E : Int) (B : Nat) (f : Nat) (bs cs : Array Value) (F : List Tk -> PR γ) (pr : γ -> α) (V : (Nat -> Prop) -> World -> Value -> α -> Prop) (St : List γ -> World -> Prop) (Ow : World -> Nat -> Prop) (n : Nat) : Prop :=
 ∀ (xs : List γ) (ts : List Tk) (W : World), ts.length < n -> xs.length <= 1000000 -> Env B W -> PaIs P tb E ts W -> St xs W -> Calls Tryz.prog f (bs ++ cs) W fun e w' => match F ts with
  | .ok x r => (∃ v, e = .returned v /\ V (fun k => W.heap.size <= k /\ k < w'.heap.size /\ ¬ Ow w' k) w' v (pr x)) /\ PaIs P tb E r w' /\ St (xs ++ [x]) w' /\ ButO P (Ow W) W w' /\ ∀ k, Ow w' k -> Ow W k \/ W.heap.size <= k
  | .bad err r => e = .panicked (faultP err (posE E r)) /\ ButO P (Ow W) W w'
structure Noted {γ : Type} (St : List γ -> World -> Prop) (Ow : World -> Nat -> Prop) (P : Nat) : Prop where
 lt : ∀ {xs W k}, St xs W -> Ow W k -> k < W.heap.size /\ k ≠ P
 keep : ∀ {xs W W'}, St xs W -> W.heap.size <= W'.heap.size -> (∀ k, Ow W k -> W'.heap[k]? = W.heap[k]?) -> St xs W' /\ ∀ k, Ow W' k ↔ Ow W k
section
variable {γ : Type} {St : List γ -> World -> Prop} {Ow : World -> Nat -> Prop} {P : Nat} {xs : List γ} {W W' : World}
theorem Noted.but (N : Noted St Ow P) (h : St xs W) (hb : But P W W') : St xs W' /\ ∀ k, Ow W' k ↔ Ow W k := N.keep h hb.size (fun k hk => hb.block k (N.lt h hk).1 (N.lt h hk).2)
theorem Noted.to (N : Noted St Ow P) (h : St xs W) (hb : Below W.heap.size W W') : St xs W' /\ ∀ k, Ow W' k ↔ Ow W k := N.but h (But.of hb)
theorem Noted.grown {row : Option Nat} (N : Noted St Ow P) (h : St xs W) (hg : W.grownBy W' row) (hr : ∀ k, Ow W k -> some k ≠ row) : St xs W' /\ ∀ k, Ow W' k ↔ Ow W k := N.keep h hg.size (fun k hk => hg.block k (N.lt h hk).1 (hr k hk))
end
def ListRes {γ : Type} (P tb : Nat) (E : Int) (w : World) (r : PR (List γ)) (G : World -> List γ -> Value -> Prop) (St : List γ -> World -> Prop) (Ow : World -> Nat -> Prop) (e : Ending) (w' : World) : Prop :=
 match r with
 | .ok xs r => (∃ v, e = .returned v /\ G w' xs v) /\ PaIs P tb E r w' /\ St xs w' /\ ButO P (Ow w) w w' /\ ∀ k, Ow w' k -> Ow w k \/ w.heap.size <= k
 | .bad err r => e = .panicked (faultP err (posE E r)) /\ ButO P (Ow w) w w'
def ptail {γ : Type} (F : List Tk -> PR γ) (g : Nat) (rs : List Tk) : PR (List γ) := if hd sComma rs = true then plist F g rs.tail else .ok [] rs
theorem plist_tail {γ : Type} (F : List Tk -> PR γ) (g : Nat) (ts : List Tk) : plist F (g + 1) ts = (F ts).bind fun x r => (ptail F g r).bind fun l r => .ok (x :: l) r := by
 rw [plist]
 cases F ts with
 | bad e r => rfl
 | ok x r =>
  show (if hd sComma r = true then _ else _) = PR.bind (ptail F g r) _
  unfold ptail
  split <;> rfl
def leftW (P : Nat) (w : World) : Nat := match w.cell? ⟨P, 0, none⟩ with | some (.slice _ n _) => n | _ => 0
theorem PaIs.left {P tb : Nat} {E : Int} {ts : List Tk} {w : World} (h : PaIs P tb E ts w) : leftW P w = ts.length + 1 := by
 obtain ⟨o, cap, c0, _⟩ := head_tk h
 simp only [leftW, c0]
theorem PaIs.grown {P tb : Nat} {E : Int} {ts : List Tk} {w w' : World} {row : Option Nat} (h : PaIs P tb E ts w) (hg : w.grownBy w' row) (hP : some P ≠ row) (ht : some tb ≠ row) : PaIs P tb E ts w' := by
 obtain ⟨o, cap, h1, h2, h3, h4, h5, h6⟩ := h
 have hPl := (gl h1)
 have hb := hg.block tb h2 ht
 refine ⟨o, cap, (hg.block P hPl hP).trans h1, Nat.lt_of_lt_of_le h2 hg.size, h3, h4, h5, fun j x hj => ?_⟩
 obtain ⟨e0, e1, e2, e3, e4⟩ := h6 j x hj
 exact ⟨e0, by simpa only [World.cell?, hb] using e1, by simpa only [World.cell?, hb] using e2, by simpa only [World.cell?, hb] using e3, by simpa only [World.cell?, hb] using e4⟩
end Go.Proofs.YtejaboajgecpaaaGreatDoor
