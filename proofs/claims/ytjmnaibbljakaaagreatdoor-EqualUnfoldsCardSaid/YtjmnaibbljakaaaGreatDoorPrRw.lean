/- Rows of structs that a call owns, whatever the struct: append to them, their cells, stores into them. -/
import Derived.Test.YtjmnaibbljakaaaGreatDoorTyOd
import Derived.Maps.AppendAt
import Derived.Laws.OwnMore
import Derived.Deep.RegionLaw
namespace Go.Proofs.YtjmnaibbljakaaaGreatDoor
open Go.RowKit Go.Deep Go.Shelf

/-- el is the type of the elements of the slice type sl, and has sz cells. -/
structure ElemOf (sl el : TypeId) (sz : Nat) : Prop where
  ht : Tryz.prog.underlying sl = some (.slice el)
  hi : ∃ (i : TypeInfo) (z : Value), Tryz.prog.info? el = some i ∧ i.zero = some z ∧ i.size = sz ∧ i.bytes ≤ 10000 ∧ z.cells.size = sz
  hs : 0 < sz
theorem elemOf {sl el : TypeId} {sz : Nat} {z : Value} {bytes : Nat} (ht : Tryz.prog.underlying sl = some (.slice el)) (h : (Tryz.prog.info? el).map (fun i => (i.zero, i.size, i.bytes)) = some (some z, sz, bytes)) (hb : bytes ≤ 10000) (hz : z.cells.size = sz) (hs : 0 < sz) : ElemOf sl el sz := by
  obtain ⟨i0, hi, hz0, hz1, hz2⟩ := info_parts h
  exact ⟨ht, ⟨i0, z, hi, hz0, hz1, by omega, hz⟩, hs⟩

/-! ### Elements one behind the other -/
theorem gflat_len {sz : Nat} : ∀ {l : List (List Value)}, (∀ e ∈ l, e.length = sz) → l.flatten.length = l.length * sz
  | [], _ => by simp
  | e :: r, h => by
    have h1 := h e (by simp)
    have h2 := gflat_len (l := r) (fun x hx => h x (by simp [hx]))
    rw [List.flatten_cons, List.length_append, h1, h2, List.length_cons, Nat.succ_mul]; omega
theorem gflat_get {sz : Nat} : ∀ {l : List (List Value)} (j i : Nat) (e : List Value), (∀ e ∈ l, e.length = sz) → l[j]? = some e → i < sz → l.flatten[j * sz + i]? = e[i]?
  | [], j, i, e, _, h, _ => by simp at h
  | x :: r, 0, i, e, hl, h, hi => by
    simp at h; subst h
    rw [List.flatten_cons, Nat.zero_mul, Nat.zero_add, List.getElem?_append_left (by rw [hl x (by simp)]; exact hi)]
  | x :: r, j + 1, i, e, hl, h, hi => by
    have hx := hl x (by simp)
    have e1 : (j + 1) * sz + i = x.length + (j * sz + i) := by rw [hx, Nat.succ_mul]; omega
    rw [List.flatten_cons, e1, List.getElem?_append_right (Nat.le_add_right _ _), Nat.add_sub_cancel_left]
    exact gflat_get j i e (fun y hy => hl y (by simp [hy])) (by simpa using h) hi
theorem gflat_inv {l : List (List Value)} {u : Value} (h : u ∈ l.flatten) : ∃ e ∈ l, u ∈ e := by
  obtain ⟨e, he, hu⟩ := List.mem_flatten.1 h; exact ⟨e, he, hu⟩
theorem gflat_set {sz : Nat} : ∀ {l : List (List Value)} (j i : Nat) (e : List Value) (u : Value), (∀ e ∈ l, e.length = sz) → l[j]? = some e → i < sz → l.flatten.set (j * sz + i) u = (l.set j (e.set i u)).flatten
  | [], j, i, e, u, _, h, _ => by simp at h
  | x :: r, 0, i, e, u, hl, h, hi => by
    simp at h; subst h
    rw [List.flatten_cons, Nat.zero_mul, Nat.zero_add, List.set_append_left _ _ (by rw [hl x (by simp)]; exact hi), List.set_cons_zero, List.flatten_cons]
  | x :: r, j + 1, i, e, u, hl, h, hi => by
    have hx := hl x (by simp)
    have e1 : (j + 1) * sz + i = x.length + (j * sz + i) := by rw [hx, Nat.succ_mul]; omega
    rw [List.flatten_cons, e1, List.set_append_right _ _ (Nat.le_add_right _ _), Nat.add_sub_cancel_left, gflat_set j i e u (fun y hy => hl y (by simp [hy])) (by simpa using h) hi, List.set_cons_succ, List.flatten_cons]

/-! ### Rows -/
structure GRow (el : TypeId) (sz base : Nat) (W : World) (v : Value) (es : List (List Value)) : Prop where
  own : W.ownsRow base el sz v es.length es.flatten
  len : ∀ e ∈ es, e.length = sz
section
variable {sl el : TypeId} {sz base : Nat} {W W' : World} {v : Value} {es : List (List Value)}
theorem GRow.nil (el : TypeId) (sz base : Nat) (W : World) : GRow el sz base W (.slice none 0 0) [] := ⟨World.ownsRow_nil _ _ _ _, fun _ h => by cases h⟩
theorem GRow.alloc (h : GRow el sz base W v es) (o : Obj) : GRow el sz base (W.alloc o) v es := ⟨World.ownsRow.alloc h.own o, h.len⟩
theorem GRow.drew (h : GRow el sz base W v es) : GRow el sz base W.drew v es := ⟨h.own, h.len⟩
theorem GRow.lt (h : GRow el sz base W v es) : ∀ k, v.ownBlock = some k → base ≤ k ∧ k < W.heap.size := World.ownsRow.lt h.own
theorem GRow.kept (h : GRow el sz base W v es) (hb : ∀ k, v.ownBlock = some k → W'.heap[k]? = W.heap[k]?) : GRow el sz base W' v es := by
  refine ⟨⟨h.own.1, ?_⟩, h.len⟩
  rcases h.own.2 with h0 | ⟨g, cap, cur, rfl, hbg, hg, r⟩
  · exact .inl h0
  · exact .inr ⟨g, cap, cur, rfl, hbg, (hb g rfl).trans hg, r⟩
theorem GRow.to (h : GRow el sz base W v es) (hb : Below W.heap.size W W') : GRow el sz base W' v es := h.kept fun k hk => hb.block k (h.lt k hk).2
theorem GRow.mono {base' : Nat} (h : GRow el sz base W v es) (hb : base' ≤ base) : GRow el sz base' W v es := by
  refine ⟨⟨h.own.1, ?_⟩, h.len⟩
  rcases h.own.2 with h0 | ⟨g, cap, cur, e, hbg, r⟩
  · exact .inl h0
  · exact .inr ⟨g, cap, cur, e, Nat.le_trans hb hbg, r⟩
theorem GRow.slice (h : GRow el sz base W v es) : ∃ a m c, v = .slice a m c := by
  rcases h.own.2 with ⟨rfl, _⟩ | ⟨g, cap, cur, rfl, _⟩
  · exact ⟨_, _, _, rfl⟩
  · exact ⟨_, _, _, rfl⟩
/-- Nil, or a block of its own. -/
theorem GRow.parts (h : GRow el sz base W v es) : (v = .slice none 0 0 ∧ es = []) ∨ ∃ g cap, v = .slice (some ⟨g, 0, none⟩) es.length cap ∧ base ≤ g ∧ g < W.heap.size ∧ es.length ≤ cap ∧ ∀ i, W.frozen? ⟨g, i, none⟩ = false := by
  rcases h.own.2 with ⟨rfl, h0⟩ | ⟨g, cap, cur, rfl, hbg, hg, hc, _⟩
  · exact .inl ⟨rfl, List.length_eq_zero_iff.1 h0⟩
  · exact .inr ⟨g, cap, rfl, hbg, (h.lt g rfl).2, hc, fun i => frozen_of_block hg i⟩
/-- The cells of an element. -/
theorem GRow.cell (h : GRow el sz base W v es) {j i : Nat} {e : List Value} {u : Value} (hj : es[j]? = some e) (hi : e[i]? = some u) : ∃ g cap, v = .slice (some ⟨g, 0, none⟩) es.length cap ∧ W.cell? ⟨g, j * sz + i, none⟩ = some u := by
  have hjl : j < es.length := (List.getElem?_eq_some_iff.1 hj).1
  have he := h.len e (List.mem_of_getElem? hj)
  have hil : i < sz := by have := (List.getElem?_eq_some_iff.1 hi).1; omega
  rcases h.parts with ⟨_, rfl⟩ | ⟨g, cap, rfl, _⟩
  · simp at hj
  · refine ⟨g, cap, rfl, ?_⟩
    have hlt : j * sz + i < es.length * sz := by
      have : (j + 1) * sz ≤ es.length * sz := Nat.mul_le_mul_right _ hjl
      rw [Nat.succ_mul] at this; omega
    rw [World.ownsRow.cellAt h.own (j * sz + i) hlt, gflat_get j i e h.len hj hil]
    exact hi
theorem GRow.empty (el : TypeId) (sz base : Nat) (w0 : World) (b : Nat) (hb : b = w0.heap.size) (h : base ≤ w0.heap.size) : GRow el sz base (w0.alloc (.cells #[] el)) (.slice (some ⟨b, 0, none⟩) 0 0) [] := by
  subst hb
  refine ⟨⟨by simp, .inr ⟨w0.heap.size, 0, #[], rfl, h, World.alloc_heap_new _ _, ?_⟩⟩, fun _ h => by cases h⟩
  simp
theorem GRow.ne {t : TypeId} {b : Nat} {cs : Array Value} {fr : Nat × Nat} (h : GRow el sz base W v es) (hb : W.heap[b]? = some (.cells cs t fr)) (hne : t ≠ el) : some b ≠ v.ownBlock := by
  intro e
  rcases h.own.2 with ⟨rfl, _⟩ | ⟨g, cap, cur, rfl, _, hg, _⟩
  · cases e
  · obtain rfl : b = g := Option.some.inj e
    rw [hg] at hb
    simp only [Option.some.injEq, Obj.cells.injEq] at hb
    exact hne hb.2.1.symm

theorem run_nothingG (I : ElemOf sl el sz) (ty : TypeId) (h : GRow el sz base W v es) (a : Option Addr) (c : Nat) :
    (Builtin.append_ #[sl, sl] ty #[v, .slice a 0 c]).run Tryz.prog W = .ok v W := by
  obtain ⟨i0, z, hi, hz0, hz1, hz2, hz3⟩ := I.hi
  have ht := I.ht
  rcases h.own.2 with ⟨rfl, h0⟩ | ⟨g, cap, cur, rfl, _, _, hnc, _⟩
  · cases a with
    | none => simp [Builtin.append_, run_underlying ht, sizeOf, typeInfo, hi, Builtin.lenOf, Builtin.firstCells]
    | some ad => simp [Builtin.append_, run_underlying ht, sizeOf, typeInfo, hi, Builtin.lenOf, Builtin.firstCells, loadCells, loadCellsFrom]
  · cases a with
    | none => simp [Builtin.append_, run_underlying ht, sizeOf, typeInfo, hi, Builtin.lenOf, Builtin.firstCells, hnc, storeCells]
    | some ad => simp [Builtin.append_, run_underlying ht, sizeOf, typeInfo, hi, Builtin.lenOf, Builtin.firstCells, hnc, storeCells, loadCells, loadCellsFrom]

/-- What lies at an address: elements. -/
def RowSrc (sz : Nat) (W : World) (na : Option Addr) (news : List (List Value)) : Prop :=
  news = [] ∨ ∃ b o, na = some ⟨b, o, none⟩ ∧ ∀ (j : Nat) (e : List Value) (i : Nat) (u : Value), news[j]? = some e → e[i]? = some u → W.cell? ⟨b, o + (j * sz + i), none⟩ = some u
theorem GRow.src (h : GRow el sz base W v es) : ∃ a n c, v = .slice a n c ∧ n = es.length ∧ RowSrc sz W a es := by
  rcases h.parts with ⟨rfl, rfl⟩ | ⟨g, cap, rfl, _⟩
  · exact ⟨_, _, _, rfl, rfl, .inl rfl⟩
  · refine ⟨_, _, _, rfl, rfl, .inr ⟨g, 0, rfl, fun j e i u hj hi => ?_⟩⟩
    obtain ⟨g', cap', e1, e2⟩ := h.cell hj hi
    simp only [Value.slice.injEq, Option.some.injEq, Addr.mk.injEq, and_true, true_and] at e1
    rw [Nat.zero_add, e1.1]; exact e2
/-- append of elements, which may be none, to a row of the call's own, which may be nil. -/
theorem run_appG (I : ElemOf sl el sz) (ty : TypeId) (h : GRow el sz base W v es) (na : Option Addr) (nn nc : Nat) (news : List (List Value)) (hnn : nn = news.length) (hlen : ∀ e ∈ news, e.length = sz) (hsrc : RowSrc sz W na news) (hone : ∀ e ∈ news, ∀ u ∈ e, u.oneCell' = true) (h63 : es.length + news.length ≤ 1000000000) (hbase : base ≤ W.heap.size) :
    ∃ ga gn gc w', (Builtin.append_ #[sl, sl] ty #[v, .slice na nn nc]).run Tryz.prog W = .ok (.slice ga gn gc) w' ∧ GRow el sz base w' (.slice ga gn gc) (es ++ news) ∧ W.grownBy w' v.ownBlock ∧ ((Value.slice ga gn gc).ownBlock = v.ownBlock ∨ (Value.slice ga gn gc).ownBlock = some W.heap.size) := by
  obtain ⟨i0, z, hi, hz0, hz1, hz2, hz3⟩ := I.hi
  have hs := I.hs
  subst hnn
  rcases hsrc with rfl | ⟨b, o, rfl, hc⟩
  · obtain ⟨ga, gn, gc, rfl⟩ := h.slice
    exact ⟨_, _, _, W, run_nothingG I ty h na nc, by rw [List.append_nil]; exact h, ⟨rfl, rfl, rfl, Nat.le_refl _, fun _ _ _ => rfl⟩, .inl rfl⟩
  · obtain ⟨v', w', hr, h2, h3, h4, h5⟩ := run_append_own_at (P := Tryz.prog) W base sl ty el i0 z sz i0.bytes I.ht hi hz0 hz1 rfl hz3 hs _ _ _ h.own ⟨b, o, none⟩ news.length nc news.flatten (gflat_len hlen) (fun j u hj => by
      have hjl : j < news.length * sz := by have := (List.getElem?_eq_some_iff.1 hj).1; rwa [gflat_len hlen] at this
      have hq : j / sz < news.length := (Nat.div_lt_iff_lt_mul hs).2 hjl
      obtain ⟨e, he⟩ : ∃ e, news[j / sz]? = some e := ⟨_, List.getElem?_eq_getElem hq⟩
      have hj2 : j = j / sz * sz + j % sz := by have := Nat.div_add_mod j sz; rw [Nat.mul_comm] at this; omega
      rw [hj2, gflat_get (j / sz) (j % sz) e hlen he (Nat.mod_lt _ hs)] at hj
      have h := hc (j / sz) e (j % sz) u he hj
      rw [← hj2] at h
      cases j with
      | zero => simpa [Addr.add] using h
      | succ j => simpa [Addr.add] using h) (fun u hu => by
      obtain ⟨e, he, hue⟩ := gflat_inv hu
      exact hone e he u hue) (by unfold maxLen; omega) (by
        have : (es.length + news.length) * i0.bytes ≤ 1000000000 * 10000 := Nat.mul_le_mul h63 hz2
        omega) hbase
    have h2' : GRow el sz base w' v' (es ++ news) := ⟨by rw [List.length_append, List.flatten_append]; exact h2, fun e he => by
      rcases List.mem_append.1 he with he | he
      · exact h.len e he
      · exact hlen e he⟩
    obtain ⟨ga, gn, gc, rfl⟩ := h2'.slice
    exact ⟨_, _, _, w', hr, h2', h3, h5⟩

/-- .. at a step of a region. -/
theorem step_appG {ops : Array Oper} {o : Oper} {a : Act} {w : World} {K : Act → World → Prop} {Q : Exit → Act → World → Prop} {E : Prop} (I : ElemOf sl el sz) (hgd : o.guard = none) (s x : Operand)
    (ho : o.op = .call { callee := .builtin .append, args := #[s, x], argTypes := #[sl, sl] })
    (hs : a.eval s = v) (h : GRow el sz base w v es) (na : Option Addr) (nn nc : Nat) (news : List (List Value)) (hx : a.eval x = .slice na nn nc) (hnn : nn = news.length) (hlen : ∀ e ∈ news, e.length = sz) (hsrc : RowSrc sz w na news) (hone : ∀ e ∈ news, ∀ u ∈ e, u.oneCell' = true) (h63 : es.length + news.length ≤ 1000000000) (hbase : base ≤ w.heap.size)
    (m : List (List Value)) (hm : es ++ news = m)
    (hk : ∀ ga gn gc w', GRow el sz base w' (.slice ga gn gc) m → w.grownBy w' v.ownBlock → ((Value.slice ga gn gc).ownBlock = v.ownBlock ∨ (Value.slice ga gn gc).ownBlock = some w.heap.size) → K (a.put o.dst (.slice ga gn gc)) w') :
    if Region.wanted o (yielded ops a.tmps) = true then Oper.wp Tryz.prog o a w K Q else E := by
  subst hm
  have hw : Region.wanted o (yielded ops a.tmps) = true := by simp [Region.wanted, hgd]
  rw [if_pos hw]
  obtain ⟨ga, gn, gc, w', hr, h2, h3, h4⟩ := run_appG I o.type h na nn nc news hnn hlen hsrc hone h63 hbase
  unfold Oper.wp execOp
  simp only [ho, resolve, invoke, builtin, Sem.run_bind, Sem.run_pure, Result.andThen_ok, List.map_toArray, List.map_cons, List.map_nil, hs, hx, hr]
  exact hk ga gn gc w' h2 h3 h4
/-- A store into a cell of an element. -/
theorem GRow.set (h : GRow el sz base W v es) {j i : Nat} {e : List Value} (hj : es[j]? = some e) (hi : i < sz) {g n cap : Nat} (hv : v = .slice (some ⟨g, 0, none⟩) n cap) (u : Value) : GRow el sz base (W.setCell ⟨g, j * sz + i, none⟩ u) v (es.set j (e.set i u)) := by
  have he := h.len e (List.mem_of_getElem? hj)
  refine ⟨⟨?_, ?_⟩, fun x hx => ?_⟩
  · rw [gflat_len (sz := sz)]
    intro x hx
    rcases List.mem_or_eq_of_mem_set hx with hx | rfl
    · exact h.len x hx
    · rw [List.length_set]; exact he
  · rcases h.own.2 with ⟨e1, _⟩ | ⟨g', cap', cur, e1, hbg, hg, hc, hcm, hcs, htk⟩
    · rw [hv] at e1; cases e1
    · rw [hv] at e1
      simp only [Value.slice.injEq, Option.some.injEq, Addr.mk.injEq, and_true] at e1
      obtain ⟨rfl, rfl, rfl⟩ := e1
      refine .inr ⟨g, cap, cur.setIfInBounds (j * sz + i) u, by rw [List.length_set]; exact hv, hbg, set_block hg _ u, by rw [List.length_set]; exact hc, hcm, by simpa using hcs, ?_⟩
      rw [List.length_set, ← gflat_set j i e u h.len hj hi, ← htk]
      rw [Array.toList_setIfInBounds, List.take_set]
  · rcases List.mem_or_eq_of_mem_set hx with hx | rfl
    · exact h.len x hx
    · rw [List.length_set]; exact he
end
end Go.Proofs.YtjmnaibbljakaaaGreatDoor
