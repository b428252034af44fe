/- Rows of structs that a call owns, and append of one to them. (and what follows from it) -/
import Derived.Test.YtipjjhkgcbabnaaDoorPk11
import Derived.Test.YtipjjhkgcbabnaaDoorPk8
import Derived.Test.YtipjjhkgcbabnaaDoorPk4
import Derived.Test.YtipjjhkgcbabnaaDoorPk10
import Derived.Laws.OwnMore
import Derived.Deep.RegionLaw
import Derived.Deep.RegionHeld3
import Derived.Deep.RegionHeldLaw
import Derived.Deep.WholeRow
import Derived.Deep.Cut

/- Rows of structs that a call owns, and append of one to them. -/
namespace Go.Proofs.YtipjjhkgcbabnaaDoor
open Go.RowKit Go.Deep Go.Shelf

theorem flat_len {sz : Nat} : ∀ {rows : List (List Value)}, (∀ r ∈ rows, r.length = sz) → rows.flatten.length = rows.length * sz
  | [], _ => by simp
  | x :: r, h => by
    rw [List.flatten_cons, List.length_append, h x (by simp), flat_len (fun y hy => h y (by simp [hy])), List.length_cons, Nat.succ_mul]; omega
theorem flat_get {sz : Nat} : ∀ (rows : List (List Value)), (∀ r ∈ rows, r.length = sz) → ∀ (j i : Nat) (r : List Value), rows[j]? = some r → i < sz → rows.flatten[j * sz + i]? = r[i]?
  | [], _, j, i, r, h, _ => by simp at h
  | x :: l, hl, 0, i, r, h, hi => by
    simp at h; subst h
    rw [List.flatten_cons, Nat.zero_mul, Nat.zero_add, List.getElem?_append_left (by rw [hl x (by simp)]; exact hi)]
  | x :: l, hl, j + 1, i, r, h, hi => by
    rw [List.flatten_cons, List.getElem?_append_right (by rw [hl x (by simp), Nat.succ_mul]; omega), hl x (by simp), show (j + 1) * sz + i - sz = j * sz + i by rw [Nat.succ_mul]; omega]
    exact flat_get l (fun y hy => hl y (by simp [hy])) j i r (by simpa using h) hi

/-- Rows of sz cells each in a block of the call's own. -/
structure KRow (base : Nat) (e : TypeId) (sz : Nat) (W : World) (v : Value) (rows : List (List Value)) : Prop where
  own : W.ownsRow base e sz v rows.length rows.flatten
  len : ∀ r ∈ rows, r.length = sz
section
variable {base : Nat} {e : TypeId} {sz : Nat} {W W' : World} {v : Value} {rows : List (List Value)}
theorem KRow.nil (base : Nat) (e : TypeId) (sz : Nat) (W : World) : KRow base e sz W (.slice none 0 0) [] := ⟨World.ownsRow_nil _ _ _ _, fun r h => by cases h⟩
theorem KRow.lt (h : KRow base e sz W v rows) : ∀ k, v.ownBlock = some k → base ≤ k ∧ k < W.heap.size := h.own.lt
theorem KRow.kept (h : KRow base e sz W v rows) (hb : ∀ k, v.ownBlock = some k → W'.heap[k]? = W.heap[k]?) : KRow base e sz W' v rows := by
  refine ⟨⟨h.own.1, ?_⟩, h.len⟩
  rcases h.own.2 with h0 | ⟨g, cap, cur, rfl, hbg, hg, r⟩
  · exact .inl h0
  · exact .inr ⟨g, cap, cur, rfl, hbg, (hb g rfl).trans hg, r⟩
theorem KRow.slice (h : KRow base e sz W v rows) : ∃ a m c, v = .slice a m c := by
  rcases h.own.2 with ⟨rfl, _⟩ | ⟨g, cap, cur, rfl, _⟩
  · exact ⟨_, _, _, rfl⟩
  · exact ⟨_, _, _, rfl⟩
theorem KRow.parts (h : KRow base e sz W v rows) : (∃ a c, v = .slice a 0 c) ∧ rows = [] ∨ ∃ g c, v = .slice (some ⟨g, 0, none⟩) rows.length c ∧ base ≤ g ∧ g < W.heap.size ∧ ∀ (j i : Nat) (r : List Value) (u : Value), rows[j]? = some r → r[i]? = some u → W.cell? ⟨g, j * sz + i, none⟩ = some u := by
  rcases h.own.2 with ⟨rfl, h0⟩ | ⟨g, cap, cur, rfl, hbg, hg, r⟩
  · exact .inl ⟨⟨_, _, rfl⟩, List.length_eq_zero_iff.1 h0⟩
  · refine .inr ⟨g, cap, rfl, hbg, (Array.getElem?_eq_some_iff.1 hg).1, fun j i x u hj hi => ?_⟩
    have hx := h.len x (List.mem_of_getElem? hj)
    have hi' : i < sz := by have := (List.getElem?_eq_some_iff.1 hi).1; omega
    have hjl : j < rows.length := (List.getElem?_eq_some_iff.1 hj).1
    have hlt : j * sz + i < rows.length * sz := by
      have : (j + 1) * sz ≤ rows.length * sz := Nat.mul_le_mul_right _ hjl
      rw [Nat.succ_mul] at this; omega
    rw [World.ownsRow.cellAt h.own (j * sz + i) hlt, flat_get rows h.len j i x hj hi']
    exact hi

/-- append of one struct. -/
theorem run_appK (t ty : TypeId) {i : TypeInfo} {z : Value} {bytes : Nat} (ht : Tryd.prog.underlying t = some (.slice e)) (hi : Tryd.prog.info? e = some i) (hz : i.zero = some z) (hsize : i.size = sz) (hby : i.bytes = bytes) (hzs : z.cells.size = sz) (hsz : 0 < sz)
    (hown : KRow base e sz W v rows) (b cp : Nat) (row : List Value) (hrl : row.length = sz) (hsrc : ∀ (j : Nat) (u : Value), row[j]? = some u → W.cell? ⟨b, j, none⟩ = some u) (hone : ∀ u ∈ row, u.oneCell' = true) (h63 : rows.length + 1 ≤ maxLen) (hbytes : (rows.length + 1) * bytes ≤ 140737488355328) (hbase : base ≤ W.heap.size) :
    ∃ ga gn gc w', (Builtin.append_ #[t, t] ty #[v, .slice (some ⟨b, 0, none⟩) 1 cp]).run Tryd.prog W = .ok (.slice ga gn gc) w' ∧ KRow base e sz w' (.slice ga gn gc) (rows ++ [row]) ∧ W.grownBy w' v.ownBlock ∧ ((Value.slice ga gn gc).ownBlock = v.ownBlock ∨ (Value.slice ga gn gc).ownBlock = some W.heap.size) := by
  obtain ⟨v', w', hr, h2, h3, h4, h5⟩ := run_append_own_at (P := Tryd.prog) W base t ty e i z sz bytes ht hi hz hsize hby hzs hsz v rows.length rows.flatten hown.own ⟨b, 0, none⟩ 1 cp row (by rw [hrl]; omega) (fun j u hj => by rw [addr_add0, Nat.zero_add]; exact hsrc j u hj) hone h63 hbytes hbase
  have h2' : KRow base e sz w' v' (rows ++ [row]) := ⟨by rw [List.length_append, List.flatten_append]; simpa using h2, fun r hm => by
    rcases List.mem_append.1 hm with hm | hm
    · exact hown.len r hm
    · rw [List.mem_singleton.1 hm]; exact hrl⟩
  obtain ⟨ga, gn, gc, rfl⟩ := h2'.slice
  exact ⟨_, _, _, w', hr, h2', h3, h5⟩
/-- .. at a step of a region that draws its order. -/
theorem step_appK {ops : Array Oper} {o : Oper} {a : Act} {K : Act → World → Prop} {Q : Exit → Act → World → Prop} {E : Prop} (hgd : o.guard = none) (s x : Operand) (t : TypeId)
    (ho : o.op = .call { callee := .builtin .append, args := #[s, x], argTypes := #[t, t] }) {i : TypeInfo} {z : Value} {bytes : Nat} (ht : Tryd.prog.underlying t = some (.slice e)) (hi : Tryd.prog.info? e = some i) (hz : i.zero = some z) (hsize : i.size = sz) (hby : i.bytes = bytes) (hzs : z.cells.size = sz) (hsz : 0 < sz)
    (hs : a.eval s = v) (hown : KRow base e sz W v rows) (b cp : Nat) (row : List Value) (hx : a.eval x = .slice (some ⟨b, 0, none⟩) 1 cp) (hrl : row.length = sz) (hsrc : ∀ (j : Nat) (u : Value), row[j]? = some u → W.cell? ⟨b, j, none⟩ = some u) (hone : ∀ u ∈ row, u.oneCell' = true) (h63 : rows.length + 1 ≤ maxLen) (hbytes : (rows.length + 1) * bytes ≤ 140737488355328) (hbase : base ≤ W.heap.size)
    (h : ∀ ga gn gc w', KRow base e sz w' (.slice ga gn gc) (rows ++ [row]) → W.grownBy w' v.ownBlock → ((Value.slice ga gn gc).ownBlock = v.ownBlock ∨ (Value.slice ga gn gc).ownBlock = some W.heap.size) → K (a.put o.dst (.slice ga gn gc)) w') :
    if Region.wanted o (yielded ops a.tmps) = true then Oper.wp Tryd.prog o a W K Q else E := by
  have hw : Region.wanted o (yielded ops a.tmps) = true := by simp [Region.wanted, hgd]
  rw [if_pos hw]
  obtain ⟨ga, gn, gc, w', hr, h2, h3, h4⟩ := run_appK t o.type ht hi hz hsize hby hzs hsz hown b cp row hrl hsrc hone h63 hbytes hbase
  unfold Oper.wp execOp
  simp only [ho, resolve, invoke, builtin, Sem.run_bind, Sem.run_pure, Result.andThen_ok, List.map_toArray, List.map_cons, List.map_nil, hs, hx, hr]
  exact h ga gn gc w' h2 h3 h4
end

/-! ### Kids in such rows -/
/-- A relation on cells and what they are, which other blocks don't matter to. -/
structure Lawful {α : Type} (Good : (Nat → Prop) → World → List Value → α → Prop) : Prop where
  keep : ∀ {B : Nat → Prop} {w w' : World} {r : List Value} {g : α}, Keeps B w w' → Good B w r g → Good B w' r g
  mono : ∀ {B C : Nat → Prop} {w : World} {r : List Value} {g : α}, (∀ k, B k → C k) → Good B w r g → Good C w r g
structure Kids {α : Type} (e : TypeId) (sz : Nat) (Good : (Nat → Prop) → World → List Value → α → Prop) (m : Nat) (w : World) (v : Value) (rows : List (List Value)) (gs : List α) : Prop where
  row : KRow m e sz w v rows
  len : rows.length = gs.length
  each : ∀ (i : Nat) (g : α), gs[i]? = some g → ∃ r, rows[i]? = some r ∧ Good (fun k => Fresh m w.heap.size k ∧ some k ≠ v.ownBlock) w r g
section
variable {α : Type} {e : TypeId} {sz : Nat} {Good : (Nat → Prop) → World → List Value → α → Prop} {m : Nat} {w w' : World} {v v' : Value} {rows : List (List Value)} {gs : List α}
theorem Kids.nil (w : World) : Kids e sz Good m w (.slice none 0 0) [] [] := ⟨KRow.nil _ _ _ _, rfl, fun i g h => by simp at h⟩
theorem Kids.keep (hL : Lawful Good) (h : Kids e sz Good m w v rows gs) (hs : w.heap.size ≤ w'.heap.size) (hb : ∀ k, m ≤ k → k < w.heap.size → w'.heap[k]? = w.heap[k]?) : Kids e sz Good m w' v rows gs := by
  refine ⟨h.row.kept (fun k hk => hb k (h.row.lt k hk).1 (h.row.lt k hk).2), h.len, fun i g hi => ?_⟩
  obtain ⟨r, h1, h2⟩ := h.each i g hi
  have hk : Keeps (fun k => Fresh m w.heap.size k ∧ some k ≠ v.ownBlock) w w' := fun k o hk ho _ => (hb k hk.1.1 hk.1.2).trans ho
  exact ⟨r, h1, hL.mono (fun k hk => ⟨⟨hk.1.1, Nat.lt_of_lt_of_le hk.1.2 hs⟩, hk.2⟩) (hL.keep hk h2)⟩
theorem Kids.to (hL : Lawful Good) (h : Kids e sz Good m w v rows gs) (hb : Below w.heap.size w w') : Kids e sz Good m w' v rows gs := h.keep hL hb.size (fun k _ hk => hb.block k hk)
theorem Kids.set (hL : Lawful Good) (h : Kids e sz Good m w v rows gs) {c o : Nat} (hc : c < m) (u : Value) : Kids e sz Good m (w.setCell ⟨c, o, none⟩ u) v rows gs := h.keep hL (by simp) (fun k hk _ => Below.heap_setCell _ _ _ k (by simp; omega))
theorem Kids.more (hL : Lawful Good) (h : Kids e sz Good m w v rows gs) {r : List Value} {g : α} (hg : Good (fun k => Fresh m w.heap.size k ∧ some k ≠ v.ownBlock) w r g)
    (hr : KRow m e sz w' v' (rows ++ [r])) (hb : w.grownBy w' v.ownBlock) (ho : v'.ownBlock = v.ownBlock ∨ v'.ownBlock = some w.heap.size) : Kids e sz Good m w' v' (rows ++ [r]) (gs ++ [g]) := by
  have hk : Keeps (fun k => Fresh m w.heap.size k ∧ some k ≠ v.ownBlock) w w' := fun k o hk ho _ => (hb.block k hk.1.2 hk.2).trans ho
  have hm : ∀ k, Fresh m w.heap.size k ∧ some k ≠ v.ownBlock → Fresh m w'.heap.size k ∧ some k ≠ v'.ownBlock := fun k hk => ⟨⟨hk.1.1, Nat.lt_of_lt_of_le hk.1.2 hb.size⟩, fun e => by
    rcases ho with ho | ho
    · exact hk.2 (by rw [← ho]; exact e)
    · rw [ho] at e; injection e with e; have := hk.1.2; omega⟩
  refine ⟨hr, by rw [List.length_append, List.length_append, h.len]; rfl, fun i g' hi => ?_⟩
  by_cases hlt : i < gs.length
  · rw [List.getElem?_append_left hlt] at hi
    obtain ⟨r', h1, h2⟩ := h.each i g' hi
    exact ⟨r', by rw [List.getElem?_append_left (by rw [h.len]; exact hlt)]; exact h1, hL.mono hm (hL.keep hk h2)⟩
  · have hi' : i = gs.length := by have := (List.getElem?_eq_some_iff.1 hi).1; simp at this; omega
    subst hi'
    rw [List.getElem?_append_right (Nat.le_refl _), Nat.sub_self] at hi
    simp at hi
    subst hi
    exact ⟨r, by rw [← h.len, List.getElem?_append_right (Nat.le_refl _), Nat.sub_self]; rfl, hL.mono hm (hL.keep hk hg)⟩
end

/-- The next kid: it was made behind wr, lies in a block of its own, and is appended. -/
theorem step_kid {ops : Array Oper} {o : Oper} {a : Act} {K : Act → World → Prop} {Q : Exit → Act → World → Prop} {E : Prop} {α : Type} {e : TypeId} {sz : Nat} {Good : (Nat → Prop) → World → List Value → α → Prop} {m : Nat} {wr w5 W : World} {v : Value} {rows : List (List Value)} {gs : List α} (hgd : o.guard = none) (s x : Operand) (t : TypeId)
    (ho : o.op = .call { callee := .builtin .append, args := #[s, x], argTypes := #[t, t] }) {i : TypeInfo} {z : Value} {bytes : Nat} (ht : Tryd.prog.underlying t = some (.slice e)) (hi : Tryd.prog.info? e = some i) (hz : i.zero = some z) (hsize : i.size = sz) (hby : i.bytes = bytes) (hzs : z.cells.size = sz) (hsz : 0 < sz)
    (hL : Lawful Good) (hKD : Kids e sz Good m wr v rows gs) (hm : m ≤ wr.heap.size) (h5 : Below wr.heap.size wr w5) (hs : a.eval s = v) (b : Nat) (row : List Value) (cp : Nat) (hx : a.eval x = .slice (some ⟨b, 0, none⟩) 1 cp) (hW : Below w5.heap.size w5 W) (et : TypeId) (hb : W.heap[b]? = some (.cells row.toArray et (0, 0))) (hrl : row.length = sz) (hone : ∀ u ∈ row, u.oneCell' = true) (hlen : gs.length + 1 ≤ 1048577) (hbb : bytes ≤ 1000) (g : α) (hg : Good (Fresh wr.heap.size w5.heap.size) w5 row g)
    (h : ∀ ga gn gc w6 rows', Kids e sz Good m w6 (.slice ga gn gc) rows' (gs ++ [g]) → Below m wr w6 → K (a.put o.dst (.slice ga gn gc)) w6) :
    if Region.wanted o (yielded ops a.tmps) = true then Oper.wp Tryd.prog o a W K Q else E := by
  have hbr : Below wr.heap.size wr W := below_seq h5 hW
  have hKW := hKD.to hL hbr
  have hlen' : rows.length + 1 ≤ 1048577 := by rw [hKD.len]; exact hlen
  refine step_appK hgd s x t ho ht hi hz hsize hby hzs hsz hs hKW.row b cp row hx hrl (fun j u hj => ?_) hone (by unfold maxLen; omega) ?_ (Nat.le_trans hm hbr.size) ?_
  · simp only [World.cell?, hb]
    simpa using hj
  · exact Nat.le_trans (Nat.mul_le_mul hlen' hbb) (by decide)
  · intro ga gn gc w6 hr6 hg6 ho6
    refine h ga gn gc w6 _ (Kids.more hL hKW ?_ hr6 hg6 ho6) ((hbr.mono hm).grown hg6 (Nat.le_trans hm hbr.size) (fun k hk => (hKD.row.lt k hk).1))
    refine hL.mono (fun k hk => ⟨⟨Nat.le_trans hm hk.1, Nat.lt_of_lt_of_le hk.2 hW.size⟩, fun e => ?_⟩) (hL.keep (hW.keeps'.mono (fun k hk => hk.2)) hg)
    have := (hKD.row.lt k e.symm).2
    have := hk.1
    omega
theorem heapN (V : World) (o : Obj) (b : Nat) (h : b = V.heap.size) : (V.alloc o).heap[b]? = some o := by subst h; exact World.alloc_heap_new _ _
theorem heapD (W : World) (b : Nat) : W.drew.heap[b]? = W.heap[b]? := rfl

/-- The six cells of a type. -/
def GoodT (B : Nat → Prop) (w : World) (r : List Value) (g : Ty) : Prop := ∃ la ln lc ka kn kc, r = [.int .i64 g.k, .int .i64 g.p, .string g.n, .int .i64 g.s, .slice la ln lc, .slice ka kn kc] ∧ TyVal B w (.agg #[.int .i64 g.k, .int .i64 g.p, .string g.n, .int .i64 g.s, .slice la ln lc, .slice ka kn kc]) g
theorem goodT : Lawful GoodT := ⟨fun h ⟨la, ln, lc, ka, kn, kc, e, hv⟩ => ⟨la, ln, lc, ka, kn, kc, e, hv.keep h⟩, fun h ⟨la, ln, lc, ka, kn, kc, e, hv⟩ => ⟨la, ln, lc, ka, kn, kc, e, hv.mono h⟩⟩
/-- The twelve cells of a process. -/
def GoodP (B : Nat → Prop) (w : World) (r : List Value) (p : Pr) : Prop := ∃ la ln lc aa an ac ta tn tc ua un uc ka kn kc, r = prCellsL p (.slice la ln lc) (.slice aa an ac) (.slice ta tn tc) (.slice ua un uc) (.slice ka kn kc) ∧ PrVal B w (prAgg p (.slice la ln lc) (.slice aa an ac) (.slice ta tn tc) (.slice ua un uc) (.slice ka kn kc)) p
theorem goodP : Lawful GoodP := ⟨fun h ⟨la, ln, lc, aa, an, ac, ta, tn, tc, ua, un, uc, ka, kn, kc, e, hv⟩ => ⟨la, ln, lc, aa, an, ac, ta, tn, tc, ua, un, uc, ka, kn, kc, e, hv.keep h⟩, fun h ⟨la, ln, lc, aa, an, ac, ta, tn, tc, ua, un, uc, ka, kn, kc, e, hv⟩ => ⟨la, ln, lc, aa, an, ac, ta, tn, tc, ua, un, uc, ka, kn, kc, e, hv.mono h⟩⟩
theorem Kids.tys {m : Nat} {w : World} {v : Value} {rows : List (List Value)} {gs : List Ty} (h : Kids 25 6 GoodT m w v rows gs) (hm : gs.length ≤ maxLen) : TySl (Fresh m w.heap.size) w v gs := by
  refine ⟨?_, hm⟩
  rcases h.row.parts with ⟨h1, h2⟩ | ⟨g, c, rfl, hg, hlt, hc⟩
  · refine .inl ⟨h1, ?_⟩
    have := h.len
    rw [h2] at this
    exact List.length_eq_zero_iff.1 this.symm
  · refine .inr ⟨g, 0, c, by rw [h.len], ⟨hg, hlt⟩, tysAt_of (fun i t hi => ?_)⟩
    obtain ⟨r, h1, la, ln, lc, ka, kn, kc, rfl, hv⟩ := h.each i t hi
    rw [Nat.zero_add]
    exact tyAt_of ⟨hg, hlt⟩ (hc i 0 _ _ h1 rfl) (hc i 1 _ _ h1 rfl) (hc i 2 _ _ h1 rfl) (hc i 3 _ _ h1 rfl) (hc i 4 _ _ h1 rfl) (hc i 5 _ _ h1 rfl) (hv.mono (fun k hk => hk.1))
theorem Kids.prs {m : Nat} {w : World} {v : Value} {rows : List (List Value)} {gs : List Pr} (h : Kids 36 12 GoodP m w v rows gs) (hm : gs.length ≤ maxLen) : PrSl (Fresh m w.heap.size) w v gs := by
  refine ⟨?_, hm⟩
  rcases h.row.parts with ⟨h1, h2⟩ | ⟨g, c, rfl, hg, hlt, hc⟩
  · refine .inl ⟨h1, ?_⟩
    have := h.len
    rw [h2] at this
    exact List.length_eq_zero_iff.1 this.symm
  · refine .inr ⟨g, 0, c, by rw [h.len], ⟨hg, hlt⟩, prsAt_of (fun i t hi => ?_)⟩
    obtain ⟨r, h1, la, ln, lc, aa, an, ac, ta, tn, tc, ua, un, uc, ka, kn, kc, rfl, hv⟩ := h.each i t hi
    rw [Nat.zero_add]
    exact prAt_of ⟨hg, hlt⟩ (hc i 0 _ _ h1 rfl) (hc i 1 _ _ h1 rfl) (hc i 2 _ _ h1 rfl) (hc i 3 _ _ h1 rfl) (hc i 4 _ _ h1 rfl) (hc i 5 _ _ h1 rfl) (hc i 6 _ _ h1 rfl) (hc i 7 _ _ h1 rfl) (hc i 8 _ _ h1 rfl) (hc i 9 _ _ h1 rfl) (hc i 10 _ _ h1 rfl) (hc i 11 _ _ h1 rfl) (hv.mono (fun k hk => hk.1))

end Go.Proofs.YtipjjhkgcbabnaaDoor

/- Types and processes: how long their lists are in all. -/
namespace Go.Proofs.YtipjjhkgcbabnaaDoor
open Go.RowKit Go.Deep

mutual
/-- The lengths of all lists of texts in a type. -/
def Ty.lens : Ty → Nat
  | .mk _ _ _ _ ls ts => ls.length + Ty.lenss ts
def Ty.lenss : List Ty → Nat
  | [] => 0
  | t :: r => t.lens + Ty.lenss r
end
mutual
/-- The lengths of all lists of texts and of values in a process. -/
def Pr.lens : Pr → Nat
  | .mk _ _ _ ls vs t ps => ls.length + vs.length + t.lens + Pr.lenss ps
def Pr.lenss : List Pr → Nat
  | [] => 0
  | p :: r => p.lens + Pr.lenss r
end
mutual
theorem Ty.modc_of : ∀ t : Ty, t.size ≤ 1048576 → t.lens ≤ 400000000 → t.modc
  | .mk k p n s ls ts, hs, hl => by
    rw [Ty.size_eq] at hs
    simp only [Ty.ts] at hs
    simp only [Ty.lens] at hl
    simp only [Ty.modc]
    have := Ty.len_sizes ts
    exact ⟨by omega, by omega, Ty.modcs_of ts (by omega) (by omega)⟩
theorem Ty.modcs_of : ∀ ts : List Ty, Ty.sizes ts ≤ 1048576 → Ty.lenss ts ≤ 400000000 → Ty.modcs ts
  | [], _, _ => by simp only [Ty.modcs]
  | t :: r, hs, hl => by
    simp only [Ty.sizes] at hs
    simp only [Ty.lenss] at hl
    simp only [Ty.modcs]
    exact ⟨Ty.modc_of t (by omega) (by omega), Ty.modcs_of r (by omega) (by omega)⟩
theorem Ty.len_sizes : ∀ ts : List Ty, ts.length ≤ Ty.sizes ts
  | [] => by simp [Ty.sizes]
  | t :: r => by
    have := Ty.len_sizes r
    have h : 1 ≤ t.size := by rw [Ty.size_eq]; omega
    simp only [List.length_cons, Ty.sizes]; omega
end
theorem Pr.len_sizes : ∀ ps : List Pr, ps.length ≤ Pr.sizes ps
  | [] => by simp [Pr.sizes]
  | p :: r => by
    have := Pr.len_sizes r
    have h : 1 ≤ p.size := by rw [Pr.size_eq]; omega
    simp only [List.length_cons, Pr.sizes]; omega
mutual
theorem Pr.mod_of : ∀ p : Pr, p.tf → p.size ≤ 65536 → p.lens ≤ 400000000 → p.mod
  | .mk k c x ls vs t ps, htf, hs, hl => by
    rw [Pr.size_eq] at hs
    simp only [Pr.ps] at hs
    simp only [Pr.lens] at hl
    simp only [Pr.tf] at htf
    simp only [Pr.mod]
    have := Pr.len_sizes ps
    have h3 := (few_size htf.1).1
    exact ⟨by omega, by omega, by omega, Ty.modc_of t (by omega) (by omega), Pr.mods_of ps htf.2 (by omega) (by omega)⟩
theorem Pr.mods_of : ∀ ps : List Pr, Pr.tfs ps → Pr.sizes ps ≤ 65536 → Pr.lenss ps ≤ 400000000 → Pr.mods ps
  | [], _, _, _ => by simp only [Pr.mods]
  | p :: r, htf, hs, hl => by
    simp only [Pr.tfs] at htf
    simp only [Pr.sizes] at hs
    simp only [Pr.lenss] at hl
    simp only [Pr.mods]
    exact ⟨Pr.mod_of p htf.1 (by omega) (by omega), Pr.mods_of r htf.2 (by omega) (by omega)⟩
end

mutual
/-- All priorities are numbers of 64 bits. -/
def Ty.pin : Ty → Prop
  | .mk _ p _ _ _ ts => In64 p ∧ Ty.pins ts
def Ty.pins : List Ty → Prop
  | [] => True
  | t :: r => t.pin ∧ Ty.pins r
end
mutual
def Pr.pin : Pr → Prop
  | .mk _ _ _ _ _ t ps => t.pin ∧ Pr.pins ps
def Pr.pins : List Pr → Prop
  | [] => True
  | p :: r => p.pin ∧ Pr.pins r
end
theorem Ty.pins_of : ∀ l : List Ty, (∀ u ∈ l, u.pin) → Ty.pins l
  | [], _ => by simp only [Ty.pins]
  | u :: r, h => by simp only [Ty.pins]; exact ⟨h u (by simp), Ty.pins_of r (fun y hy => h y (by simp [hy]))⟩
theorem Pr.pins_of : ∀ l : List Pr, (∀ u ∈ l, u.pin) → Pr.pins l
  | [], _ => by simp only [Pr.pins]
  | u :: r, h => by simp only [Pr.pins]; exact ⟨h u (by simp), Pr.pins_of r (fun y hy => h y (by simp [hy]))⟩
theorem Ty.pins_mem : ∀ {l : List Ty}, Ty.pins l → ∀ u ∈ l, u.pin
  | [], _, _, hu => by cases hu
  | x :: r, h, u, hu => by
    simp only [Ty.pins] at h
    rcases List.mem_cons.1 hu with rfl | hu
    · exact h.1
    · exact Ty.pins_mem h.2 u hu
theorem Pr.pins_mem : ∀ {l : List Pr}, Pr.pins l → ∀ u ∈ l, u.pin
  | [], _, _, hu => by cases hu
  | x :: r, h, u, hu => by
    simp only [Pr.pins] at h
    rcases List.mem_cons.1 hu with rfl | hu
    · exact h.1
    · exact Pr.pins_mem h.2 u hu

end Go.Proofs.YtipjjhkgcbabnaaDoor

/- Raise of the reference: a raised copy in new memory. -/
namespace Go.Proofs.YtipjjhkgcbabnaaDoor
open Go.RowKit Go.Deep Go.Shelf

mutual
/-- Types that can be raised by j: no priority leaves its bounds, no list is too long. -/
def Ty.can (j : Int) : Ty → Prop
  | .mk k p _ _ ls ts => (actB k = true → In64 (p + j)) ∧ ls.length ≤ 400000000 ∧ ts.length ≤ 1048576 ∧ Ty.cans j ts
def Ty.cans (j : Int) : List Ty → Prop
  | [] => True
  | t :: r => t.can j ∧ Ty.cans j r
end
theorem Ty.cans_mem {j : Int} : ∀ {ts : List Ty}, Ty.cans j ts → ∀ t ∈ ts, t.can j
  | [], _, _, h => by cases h
  | u :: r, h, t, ht => by
    simp only [Ty.cans] at h
    rcases List.mem_cons.1 ht with rfl | ht
    · exact h.1
    · exact Ty.cans_mem h.2 t ht
mutual
theorem Ty.can_0 : ∀ t : Ty, t.modc → t.pin → t.can 0
  | .mk k p _ _ ls ts, h, hp => by
    simp only [Ty.modc] at h
    simp only [Ty.pin] at hp
    simp only [Ty.can]
    exact ⟨fun _ => by rw [Int.add_zero]; exact hp.1, h.1, h.2.1, Ty.cans_0 ts h.2.2 hp.2⟩
theorem Ty.cans_0 : ∀ ts : List Ty, Ty.modcs ts → Ty.pins ts → Ty.cans 0 ts
  | [], _, _ => by simp only [Ty.cans]
  | t :: r, h, hp => by
    simp only [Ty.modcs] at h
    simp only [Ty.pins] at hp
    simp only [Ty.cans]
    exact ⟨Ty.can_0 t h.1 hp.1, Ty.cans_0 r h.2 hp.2⟩
end
mutual
theorem Ty.raise_0 : ∀ t : Ty, t.raise 0 = t
  | .mk k p n s ls ts => by rw [Ty.raise, Ty.raises_0 ts, Int.add_zero, ite_self]
theorem Ty.raises_0 : ∀ ts : List Ty, Ty.raises 0 ts = ts
  | [] => by rw [Ty.raises]
  | t :: r => by rw [Ty.raises, Ty.raise_0 t, Ty.raises_0 r]
end

theorem tyInfo1 : (Tryd.prog.info? 25).map (·.size) = some 6 := by kernel_rfl
theorem store6_facts {w : World} {b : Nat} {z c' : Array Value} (hb : w.heap[b]? = some (.cells z 25 (0, 0))) (hc : c'.size = 6) (hs : z.size = c'.size) (h1 : c'.all (·.oneCell') = true) :
    ∃ w', (Instr.storeAt 25 (.pointer (some ⟨b, 0, none⟩)) (.agg c')).run Tryd.prog w = .ok () w' ∧ (storeCells ⟨b, 0, none⟩ c'.toList 0).run Tryd.prog w = .ok () w' ∧ w'.heap[b]? = some (.cells c' 25 (0, 0)) ∧ w.grownBy w' (some b) := by
  have hi : (Tryd.prog.info? 25).map (·.size) = some c'.size := by rw [hc]; exact tyInfo1
  have hr := run_storeVar_row (P := Tryd.prog) w b 25 25 z c' hb hi hs h1
  refine ⟨w.setRow b c', ?_, ?_, ?_, ⟨rfl, rfl, rfl, by simp [World.setRow], fun j _ hne => ?_⟩⟩
  · simp only [Instr.storeAt, Instr.sureAddr, Sem.run_bind, Sem.run_pure, Result.andThen]
    exact hr
  · cases hq : Tryd.prog.info? 25 with
    | none => simp [hq] at hi
    | some i =>
      have hs2 : c'.size = i.size := by simp [hq] at hi; omega
      simpa [storeVar, sizeOf, typeInfo, hq, Value.cells, hs2] using hr
  · unfold World.setRow
    show (w.heap.modify b _)[b]? = _
    rw [Array.getElem?_modify, if_pos rfl, hb]; rfl
  · show (w.heap.modify b _)[j]? = _
    rw [Array.getElem?_modify, if_neg (fun e => hne (by rw [e]))]
/-- A list of texts that was appended to an empty list of one's own. -/
theorem Row.ne_ty {base b : Nat} {w : World} {v : Value} {l : List ByteArray} {cs : Array Value} {fr : Nat × Nat} (h : Row base w v l) (hb : w.heap[b]? = some (.cells cs 25 fr)) : some b ≠ v.ownBlock := by
  intro e
  rcases h.1.2 with ⟨rfl, _⟩ | ⟨g, cap, cur, rfl, _, hg, _⟩
  · cases e
  · have : b = g := by injection e
    subst this
    rw [hb] at hg
    injection hg with hg
    injection hg with h1 h2 h3
    exact absurd h2 (by decide)

/-- append to an empty list beside the box that was made before: the store into the box is told at once. -/
theorem step_appS6 {ops : Array Oper} {o : Oper} {a : Act} {w : World} {K : Act → World → Prop} {Q : Exit → Act → World → Prop} {E : Prop} (hgd : o.guard = none) (s x : Operand)
    (ho : o.op = .call { callee := .builtin .append, args := #[s, x], argTypes := #[22, 22] })
    (base : Nat) (l : List ByteArray) (v : Value) (hs : a.eval s = v) (hown : Row base w v l) (B : Nat → Prop) (na : Option Addr) (nn nc : Nat) (names : List ByteArray) (hx : a.eval x = .slice na nn nc) (hnv : StrSl B w (.slice na nn nc) names) (h63 : l.length + names.length ≤ 1000000000) (hbase : base ≤ w.heap.size)
    (box : Operand) (X : Nat) (_hbox : a.eval box = .pointer (some ⟨X, 0, none⟩)) (hX : w.heap[X]? = some (.cells #[.int .i64 0, .int .i64 0, .string ⟨#[]⟩, .int .i64 0, .slice none 0 0, .slice none 0 0] 25 (0, 0)))
    (m : List ByteArray) (hm : l ++ names = m) (w0 : World) (hb0 : Below base w0 w)
    (h : ∀ ga gn gc w', Below base w0 w' → Row base w' (.slice ga gn gc) m → w'.heap[X]? = some (.cells #[.int .i64 0, .int .i64 0, .string ⟨#[]⟩, .int .i64 0, .slice none 0 0, .slice none 0 0] 25 (0, 0)) → K (a.put o.dst (.slice ga gn gc)) w') :
    if Region.wanted o (yielded ops a.tmps) = true then Oper.wp Tryd.prog o a w K Q else E := by
  refine step_app hgd s x ho base l v hs hown B na nn nc names hx hnv h63 hbase m hm ?_
  intro ga gn gc w' hr hg
  have hXlt : X < w.heap.size := (Array.getElem?_eq_some_iff.1 hX).1
  have hX' : w'.heap[X]? = some (.cells #[.int .i64 0, .int .i64 0, .string ⟨#[]⟩, .int .i64 0, .slice none 0 0, .slice none 0 0] 25 (0, 0)) := (hg.block X hXlt (Row.ne_ty hown hX)).trans hX
  have hB' : Below base w0 w' := hb0.grown hg hbase (fun k e => (hown.lt k e).1)
  exact h ga gn gc w' hB' hr hX'
theorem heap_new6 (V : World) (o : Obj) (b : Nat) (h : b = V.heap.size) : (V.alloc o).heap[b]? = some o := by subst h; exact World.alloc_heap_new _ _
theorem heap_drew6 (W : World) (b : Nat) : W.drew.heap[b]? = W.heap[b]? := rfl

/-- What stands behind the reference's first statement: the box of the copy, its labels, no kids yet. -/
def RaiseSt (m : Nat) (w0 : World) (k p s : Int) (n : ByteArray) (ls : List ByteArray) (v : Value) (w : World) : Prop :=
  ∃ bq la ln lc, v = .pointer (some ⟨bq, 0, none⟩) ∧ m ≤ bq ∧ Hid (Six w bq (.int .i64 k) (.int .i64 p) (.string n) (.int .i64 s) (.slice la ln lc) (.slice none 0 0)) ∧ Hid (Row m w (.slice la ln lc) ls) ∧ Hid (Below m w0 w)

set_option maxHeartbeats 8000000 in
set_option maxRecDepth 100000 in
theorem rraise_step (B : Nat → Prop) (j : Int) (k p s : Int) (n : ByteArray) (lv kv : Value) (ls : List ByteArray) (ts : List Ty) (hm : (Ty.mk k p n s ls ts).can j) (hnn : n.size ≤ maxLen) (w : World) (hB : Low B w) (hl : StrSl B w lv ls) (hk : TySl B w kv ts)
    (ih : ∀ t ∈ ts, ∀ (v : Value) (w : World), Low B w → TyVal B w v t → Calls Tryd.prog 71 #[v, .int .i64 j] w (TyRet w (t.raise j))) :
    Calls Tryd.prog 71 #[.agg #[.int .i64 k, .int .i64 p, .string n, .int .i64 s, lv, kv], .int .i64 j] w (TyRet w ((Ty.mk k p n s ls ts).raise j)) := by
  simp only [Ty.can] at hm
  obtain ⟨hp, hm1, hm2, _⟩ := hm
  obtain ⟨l0, len0, cl0, rfl, hll, _, _⟩ := hl.open
  obtain ⟨k0, kn0, kc0, rfl, hkl, hkm, hkget⟩ := hk.open
  have hb0 := box2_below w (cell6 k p n s (.slice l0 len0 cl0) (.slice k0 kn0 kc0)) (cell6 0 0 ⟨#[]⟩ 0 (.slice none 0 0) (.slice none 0 0))
  obtain ⟨s0, s1⟩ := Six.two w (.int .i64 k) (.int .i64 p) (.string n) (.int .i64 s) (.slice l0 len0 cl0) (.slice k0 kn0 kc0) (.int .i64 0) (.int .i64 0) (.string ⟨#[]⟩) (.int .i64 0) (.slice none 0 0) (.slice none 0 0)
  obtain ⟨W2, hW2⟩ : ∃ W2, (w.alloc (cell6 k p n s (.slice l0 len0 cl0) (.slice k0 kn0 kc0))).alloc (cell6 0 0 ⟨#[]⟩ 0 (.slice none 0 0) (.slice none 0 0)) = W2 := ⟨_, rfl⟩
  have hs2 : W2.heap.size = w.heap.size + 2 := by rw [← hW2]; simp
  simp only [cell6] at hW2 hb0
  rw [hW2] at hb0 s0 s1
  have HL : Hid (∀ W, Below W2.heap.size W2 W → StrSl B W (.slice l0 len0 cl0) ls) := Lib.hid (fun W hW => hl.keep ((below_seq hb0 hW).keeps'.mono hB))
  have HK : Hid (∀ W : World, (∀ i, i < w.heap.size → W.heap[i]? = w.heap[i]?) → TySl B W (.slice k0 kn0 kc0) ts) := Lib.hid (fun W hW => hk.keep (fun i o hi ho _ => (hW i (hB i hi)).trans ho))
  have HS0 := Lib.hid s0
  have HS1 := Lib.hid s1
  have HB0 := Lib.hid hb0
  have HW2 := Lib.hid hW2
  have HIH := Lib.hid ih
  have HKL := Lib.hid hkl.out
  have HBB := Lib.hid hB
  have hll1 : 0 + ls.length ≤ 1000000000 := by omega
  have HNN := Lib.hid hnn
  clear hl hk s0 s1 hb0 hW2 ih hkget hll hB hkl hnn
  go_enter Tryd.func71, Tryd.ntmps71
  obtain ⟨⟨d0, d1, d2, d3, d4, d5⟩, hf⟩ := HS0.out.cells
  go_upto_region 1 with fail
  rw [HW2.out]
  clear HW2
  go_cut [5] from 6 (fun v wc => RaiseSt W2.heap.size W2 k p s n ls v wc)
  case first =>
    have HBr := Lib.hid (Below.refl W2.heap.size W2)
    go_region_held_law (fun W => W.cell? ⟨w.heap.size, 0, none⟩ = some (.int .i64 k) ∧ W.cell? ⟨w.heap.size, 1, none⟩ = some (.int .i64 p) ∧ W.cell? ⟨w.heap.size, 2, none⟩ = some (.string n) ∧ W.cell? ⟨w.heap.size, 3, none⟩ = some (.int .i64 s) ∧ W.cell? ⟨w.heap.size, 4, none⟩ = some (.slice l0 len0 cl0) ∧ W.cell? ⟨w.heap.size, 5, none⟩ = some (.slice k0 kn0 kc0))
      (first | go_keep | exact (HS0.out.to (by (repeat (first | with_reducible exact HBr.out | with_reducible exact HB1.out | with_reducible exact H7.out.2.2 | with_reducible exact H8.out.2.2 | with_reducible apply Below.drew | (with_reducible refine Below.setCell ?_ ?_ _; rotate_left; focus (first | omega | (simp; done) | (simp; omega))) | (with_reducible refine Below.alloc ?_ ?_ _; rotate_left; focus (first | omega | (simp; done) | (simp; omega))))))).cells.1 | fail)
      (first
        | (refine step_appS6 (by rfl) _ _ (by rfl) W2.heap.size [] (.slice (some ⟨w.heap.size + 2, 0, none⟩) 0 0) ?_ ?_ B l0 len0 cl0 ls ?_ ?_ hll1 ?_ (.tmp 5) (w.heap.size + 3) ?_ ?_ ls (List.nil_append _) W2 ?_ ?_
           · rfl
           · (repeat (first | (with_reducible refine Row.empty _ _ _ ?_ ?_ <;> first | omega | rfl | (simp; omega) | (simp; done)) | with_reducible refine Row.alloc ?_ _ | with_reducible refine Row.drew ?_))
           · rfl
           · exact HL.out _ (by (repeat (first | with_reducible exact HBr.out | with_reducible exact HB1.out | with_reducible exact H7.out.2.2 | with_reducible exact H8.out.2.2 | with_reducible apply Below.drew | (with_reducible refine Below.setCell ?_ ?_ _; rotate_left; focus (first | omega | (simp; done) | (simp; omega))) | (with_reducible refine Below.alloc ?_ ?_ _; rotate_left; focus (first | omega | (simp; done) | (simp; omega))))))
           · (first | omega | (simp; done) | (simp; omega))
           · rfl
           · repeat (first | with_reducible exact heap_new6 _ _ _ (by first | omega | (simp; done) | (simp; omega)) | with_reducible refine Eq.trans (heap_drew6 _ _) ?_ | with_reducible refine Eq.trans (Below.heap_alloc _ _ _ (by first | omega | (simp; done) | (simp; omega))) ?_)
           · (repeat (first | with_reducible exact HBr.out | with_reducible exact HB1.out | with_reducible exact H7.out.2.2 | with_reducible exact H8.out.2.2 | with_reducible apply Below.drew | (with_reducible refine Below.setCell ?_ ?_ _; rotate_left; focus (first | omega | (simp; done) | (simp; omega))) | (with_reducible refine Below.alloc ?_ ?_ _; rotate_left; focus (first | omega | (simp; done) | (simp; omega)))))
           intro ga gn gc w5 hb5 hr5 hx5
           obtain ⟨⟨q0, q1, q2, q3, q4, q5⟩, hfq⟩ := Six.cells hx5
           have HB1 := Lib.hid hb5
           have HR1 := Lib.hid hr5
           have HX1 := Lib.hid hx5
           have hz5 : W2.heap.size ≤ w5.heap.size := HB1.out.size
           clear hb5 hr5 hx5)
        | (refine step_appS6 (by rfl) _ _ (by rfl) W2.heap.size [] (.slice (some ⟨w.heap.size + 3, 0, none⟩) 0 0) ?_ ?_ B l0 len0 cl0 ls ?_ ?_ hll1 ?_ (.tmp 5) (w.heap.size + 2) ?_ ?_ ls (List.nil_append _) W2 ?_ ?_
           · rfl
           · (repeat (first | (with_reducible refine Row.empty _ _ _ ?_ ?_ <;> first | omega | rfl | (simp; omega) | (simp; done)) | with_reducible refine Row.alloc ?_ _ | with_reducible refine Row.drew ?_))
           · rfl
           · exact HL.out _ (by (repeat (first | with_reducible exact HBr.out | with_reducible exact HB1.out | with_reducible exact H7.out.2.2 | with_reducible exact H8.out.2.2 | with_reducible apply Below.drew | (with_reducible refine Below.setCell ?_ ?_ _; rotate_left; focus (first | omega | (simp; done) | (simp; omega))) | (with_reducible refine Below.alloc ?_ ?_ _; rotate_left; focus (first | omega | (simp; done) | (simp; omega))))))
           · (first | omega | (simp; done) | (simp; omega))
           · rfl
           · repeat (first | with_reducible exact heap_new6 _ _ _ (by first | omega | (simp; done) | (simp; omega)) | with_reducible refine Eq.trans (heap_drew6 _ _) ?_ | with_reducible refine Eq.trans (Below.heap_alloc _ _ _ (by first | omega | (simp; done) | (simp; omega))) ?_)
           · (repeat (first | with_reducible exact HBr.out | with_reducible exact HB1.out | with_reducible exact H7.out.2.2 | with_reducible exact H8.out.2.2 | with_reducible apply Below.drew | (with_reducible refine Below.setCell ?_ ?_ _; rotate_left; focus (first | omega | (simp; done) | (simp; omega))) | (with_reducible refine Below.alloc ?_ ?_ _; rotate_left; focus (first | omega | (simp; done) | (simp; omega)))))
           intro ga gn gc w5 hb5 hr5 hx5
           obtain ⟨⟨q0, q1, q2, q3, q4, q5⟩, hfq⟩ := Six.cells hx5
           have HB1 := Lib.hid hb5
           have HR1 := Lib.hid hr5
           have HX1 := Lib.hid hx5
           have hz5 : W2.heap.size ≤ w5.heap.size := HB1.out.size
           clear hb5 hr5 hx5)
        | (refine step_app (by rfl) _ _ (by rfl) W2.heap.size [] (.slice (some ⟨w.heap.size + 2, 0, none⟩) 0 0) ?_ ?_ B l0 len0 cl0 ls ?_ ?_ hll1 ?_ ls (List.nil_append _) ?_
           · rfl
           · (repeat (first | (with_reducible refine Row.empty _ _ _ ?_ ?_ <;> first | omega | rfl | (simp; omega) | (simp; done)) | with_reducible refine Row.alloc ?_ _ | with_reducible refine Row.drew ?_))
           · rfl
           · exact HL.out _ (by (repeat (first | with_reducible exact HBr.out | with_reducible exact HB1.out | with_reducible exact H7.out.2.2 | with_reducible exact H8.out.2.2 | with_reducible apply Below.drew | (with_reducible refine Below.setCell ?_ ?_ _; rotate_left; focus (first | omega | (simp; done) | (simp; omega))) | (with_reducible refine Below.alloc ?_ ?_ _; rotate_left; focus (first | omega | (simp; done) | (simp; omega))))))
           · (first | omega | (simp; done) | (simp; omega))
           intro ga gn gc w5 hrow hgrow
           have HB1 := Lib.hid (Below.grown (B := W2.heap.size) (a := W2) (by (repeat (first | with_reducible exact HBr.out | with_reducible exact HB1.out | with_reducible exact H7.out.2.2 | with_reducible exact H8.out.2.2 | with_reducible apply Below.drew | (with_reducible refine Below.setCell ?_ ?_ _; rotate_left; focus (first | omega | (simp; done) | (simp; omega))) | (with_reducible refine Below.alloc ?_ ?_ _; rotate_left; focus (first | omega | (simp; done) | (simp; omega)))))) hgrow (by first | omega | (simp; done) | (simp; omega)) (fun k e => by cases e; first | omega | (simp; done) | (simp; omega)))
           have HR1 := Lib.hid hrow
           have hz5 : W2.heap.size ≤ w5.heap.size := HB1.out.size
           clear hrow hgrow)
        | fail)
    all_goals (go_wp2_with fail)
    all_goals go_meet
    all_goals (first
      | exact ⟨_, ga, gn, gc, rfl, by omega, Lib.hid (Six.fill HX1.out _ _ _ _ _ _), Lib.hid (HR1.out.kept (fun q hq => heap_setCells_other (fun e => Row.ne_ty HR1.out HX1.out (by rw [hq, e])) [_, _, _, _, _, _] 0 _)), Lib.hid (by (repeat (first | with_reducible exact HB1.out | with_reducible apply Below.drew | (with_reducible refine Below.setCell ?_ ?_ _; rotate_left; focus (first | omega | (simp; done) | (simp; omega))) | (with_reducible refine Below.alloc ?_ ?_ _; rotate_left; focus (first | omega | (simp; done) | (simp; omega))))))⟩
      | exact ⟨_, ga, gn, gc, rfl, by omega, Lib.hid (Six.new _ _ _ _ _ _ _), Lib.hid (HR1.out.alloc _), Lib.hid (by (repeat (first | with_reducible exact HB1.out | with_reducible apply Below.drew | (with_reducible refine Below.setCell ?_ ?_ _; rotate_left; focus (first | omega | (simp; done) | (simp; omega))) | (with_reducible refine Below.alloc ?_ ?_ _; rotate_left; focus (first | omega | (simp; done) | (simp; omega))))))⟩
      | trace_state)
  case rest =>
    obtain ⟨bq, la, ln, lc, rfl, hbq, HX, HR, HB⟩ := hcut
    obtain ⟨W3, hW3⟩ : ∃ W3, W3 = wc := ⟨_, rfl⟩
    rw [← hW3] at HX HR HB ⊢
    clear hW3 wc
    have HS3 := Lib.hid (HS0.out.to HB.out)
    have hbx := HX.out.lt
    obtain ⟨act, hact⟩ : ∃ b, actB k = b := ⟨_, rfl⟩
    obtain ⟨p', hp'⟩ : ∃ x, (if actB k = true then p + j else p) = x := ⟨_, rfl⟩
    have HP := Lib.hid hp'
    go_upto_region 2 with fail
    go_cut [27] from 28 (fun b wr => b = .bool act ∧ W3 = wr)
    case first =>
      obtain ⟨⟨d0, d1, d2, d3, d4, d5⟩, hf⟩ := HS3.out.cells
      by_cases h4 : 4 ≤ k
      · by_cases h7 : k ≤ 7
        · obtain rfl : act = true := by rw [← hact]; simp [actB, h4, h7]
          go_wp2_with fail
          go_meet
          case rel => exact ⟨rfl, rfl⟩
        · obtain rfl : act = false := by rw [← hact]; simp [actB, h4, h7]
          go_wp2_with fail
          go_meet
          case rel => exact ⟨rfl, rfl⟩
      · obtain rfl : act = false := by rw [← hact]; simp [actB, h4]
        go_wp2_with fail
        go_meet
        case rel => exact ⟨rfl, rfl⟩
    case rest =>
      obtain ⟨rfl, rfl⟩ := hcut
      go_upto_if 27 with fail
      go_cut [5] from 28 (fun v wr => v = .pointer (some ⟨bq, 0, none⟩) ∧ Hid (Six wr bq (.int .i64 k) (.int .i64 p') (.string n) (.int .i64 s) (.slice la ln lc) (.slice none 0 0)) ∧ Hid (Row W2.heap.size wr (.slice la ln lc) ls) ∧ Hid (Below W2.heap.size W2 wr))
      case first =>
        obtain ⟨⟨d0, d1, d2, d3, d4, d5⟩, hf⟩ := HS3.out.cells
        obtain ⟨⟨e0, e1, e2, e3, e4, e5⟩, hf1⟩ := HX.out.cells
        cases act
        · rw [if_neg (by simp [hact])] at hp'
          subst hp'
          go_wp2_with fail
          go_meet
          case rel => exact ⟨rfl, HX, HR, HB⟩
        · obtain ⟨hlo, hhi⟩ := hp hact
          rw [if_pos hact] at hp'
          subst hp'
          go_wp2_with fail
          go_meet
          case rel => exact ⟨rfl, Lib.hid (set_block HX.out 1 _), Lib.hid (HR.out.kept (fun q hq => Below.heap_setCell _ _ _ q (by simp; exact fun e => Row.ne_ty HR.out HX.out (by rw [hq, e])))), Lib.hid (HB.out.setCell (p := ⟨bq, 1, none⟩) hbq _)⟩
      case rest =>
        clear HX HR HB HS3 hact hp'
        obtain ⟨rfl, HX, HR, HB⟩ := hcut
        obtain ⟨W4, hW4⟩ : ∃ W4, W4 = wc := ⟨_, rfl⟩
        rw [← hW4] at HX HR HB ⊢
        clear hW4 wc
        have hb4 : W2.heap.size ≤ W4.heap.size := HB.out.size
        have hbq4 : bq < W4.heap.size := HX.out.lt
        have hkn1 : kn0 ≤ 1048576 := by rw [HKL.out]; exact hm2
        have HLO : Hid (∀ wr, W4.grownBy wr (some bq) → ∀ i, i < W2.heap.size → wr.heap[i]? = W2.heap[i]?) := Lib.hid (fun wr hg i hi => (hg.block i (by omega) (fun e => by injection e; omega)).trans (HB.out.block i hi))
        have HX0 : Hid (∀ wr, W4.grownBy wr (some bq) → Six wr w.heap.size (.int .i64 k) (.int .i64 p) (.string n) (.int .i64 s) (.slice l0 len0 cl0) (.slice k0 kn0 kc0)) := Lib.hid (fun wr hg => (HLO.out wr hg _ (by omega)).trans HS0.out)
        have HX1 : Hid (∀ wr, W4.grownBy wr (some bq) → Six wr (w.heap.size + 1) (.int .i64 0) (.int .i64 0) (.string ⟨#[]⟩) (.int .i64 0) (.slice none 0 0) (.slice none 0 0)) := Lib.hid (fun wr hg => (HLO.out wr hg _ (by omega)).trans HS1.out)
        have HKW : Hid (∀ wr, W4.grownBy wr (some bq) → TySl B wr (.slice k0 kn0 kc0) ts) := Lib.hid (fun wr hg => HK.out wr (fun i hi => (HLO.out wr hg i (by omega)).trans (HB0.out.block i hi)))
        have HBW : Hid (∀ wr, W4.grownBy wr (some bq) → Low B wr) := Lib.hid (fun wr hg => HBB.out.le (by have := hg.size; omega))
        have HRW : Hid (∀ wr, W4.grownBy wr (some bq) → Row W2.heap.size wr (.slice la ln lc) ls) := Lib.hid (fun wr hg => HR.out.kept (fun q hq => hg.block q (HR.out.lt q hq).2 (fun e => Row.ne_ty HR.out HX.out (e.symm.trans hq.symm))))
        clear HLO HR HS0 HS1 HK HL hbx
        clear d0 d1 d2 d3 d4 d5 hf
        go_wp2_with fail
        go_loopw [6] (fun i wr => ∃ (q : Nat) (va : Option Addr) (vn vc : Nat) (rows : List (List Value)), i = .int .i64 (q : Int) ∧ q ≤ kn0 ∧ Hid (W4.grownBy wr (some bq)) ∧ Hid (Six wr bq (.int .i64 k) (.int .i64 p') (.string n) (.int .i64 s) (.slice la ln lc) (.slice va vn vc)) ∧ Hid (Kids 25 6 GoodT W4.heap.size wr (.slice va vn vc) rows ((ts.take q).map (Ty.raise j)))) (fun i _ => kn0 - (intOf i).toNat)
        case atStart => exact ⟨0, none, 0, 0, [], rfl, by omega, Lib.hid ⟨rfl, rfl, rfl, Nat.le_refl _, fun _ _ _ => rfl⟩, HX, Lib.hid (Kids.nil _)⟩
        case round =>
          clear HX
          obtain ⟨q, va, vn, vc, rows, rfl, hq, HG, HX4, HKD⟩ := hrel
          obtain ⟨⟨a0, a1, a2, a3, a4, a5⟩, haf⟩ := (HX0.out wr HG.out).cells
          obtain ⟨⟨b0, b1, b2, b3, b4, b5⟩, hbf⟩ := HX4.out.cells
          have hwr4 := HG.out.size
          by_cases hlt : q < kn0
          · obtain ⟨t, htq⟩ : ∃ t, ts[q]? = some t := ⟨_, List.getElem?_eq_getElem (by rw [← HKL.out]; exact hlt)⟩
            obtain ⟨kb, ko, hk0, hkb, hty⟩ : ∃ kb ko, k0 = some ⟨kb, ko, none⟩ ∧ B kb ∧ TyAt B wr t kb (ko + q * 6) := by
              obtain ⟨pa, len, c, e, _, _, hget⟩ := (HKW.out wr HG.out).open
              injection e with e1 e2 e3
              obtain ⟨kb, ko, h1, h2, h3⟩ := hget q t htq
              exact ⟨kb, ko, by rw [e1]; exact h1, h2, h3⟩
            subst hk0
            obtain ⟨la1, ln1, lc1, ka1, kn1, kc1, ⟨e0, e1, e2, e3, e4, e5⟩, hval⟩ := hty.load'
            have hBr := HBW.out wr HG.out
            have hkbw : kb < w.heap.size := HBB.out kb hkb
            have HC : Hid (∀ W, Below wr.heap.size wr W → Calls Tryd.prog 71 #[.agg #[.int .i64 t.k, .int .i64 t.p, .string t.n, .int .i64 t.s, .slice la1 ln1 lc1, .slice ka1 kn1 kc1], .int .i64 j] W (TyRet W (t.raise j))) := Lib.hid (fun W hW => HIH.out t (List.mem_of_getElem? htq) _ W (hBr.le hW.size) (hval.to hBr hW))
            obtain ⟨i0, hi, hz0, hz1, hz2⟩ := info_parts tyInfo
            have hmap : ((ts.take q).map (Ty.raise j)).length + 1 ≤ 1048577 := by rw [List.length_map, List.length_take]; omega
            have hbqr : bq < wr.heap.size := by omega
            have HTQ := Lib.hid htq
            clear hty hval hkb htq
            go_wp2_with fail
            go_region_law
              (first
                | (go_simp
                   go_at_call 71
                   refine (HC.out _ (by (repeat (first | with_reducible exact Below.refl _ _ | with_reducible exact HB6.out | with_reducible exact HB5.out | with_reducible apply Below.drew | (with_reducible refine Below.setCell ?_ ?_ _; rotate_left; focus (first | omega | (simp; done) | (simp; omega))) | (with_reducible refine Below.alloc ?_ ?_ _; rotate_left; focus (first | omega | (simp; done) | (simp; omega))))))).mono ?_
                   rintro e w5 ⟨la5, ln5, lc5, ka5, kn5, kc5, rfl, hv5, hb5⟩
                   dsimp only
                   have HB5 : Hid (Below wr.heap.size wr w5) := Lib.hid (Below.trans (by (repeat (first | with_reducible exact Below.refl _ _ | with_reducible exact HB6.out | with_reducible exact HB5.out | with_reducible apply Below.drew | (with_reducible refine Below.setCell ?_ ?_ _; rotate_left; focus (first | omega | (simp; done) | (simp; omega))) | (with_reducible refine Below.alloc ?_ ?_ _; rotate_left; focus (first | omega | (simp; done) | (simp; omega)))))) hb5)
                   have HV5 : Hid (TyVal (Fresh wr.heap.size w5.heap.size) w5 (.agg #[.int .i64 (t.raise j).k, .int .i64 (t.raise j).p, .string (t.raise j).n, .int .i64 (t.raise j).s, .slice la5 ln5 lc5, .slice ka5 kn5 kc5]) (t.raise j)) := Lib.hid hv5
                   have b55 : w5.cell? ⟨bq, 5, none⟩ = some (.slice va vn vc) := (HB5.out.cell (p := ⟨bq, 5, none⟩) hbqr).trans b5
                   have hz5 := HB5.out.size
                   have hne5 := World.new_ne w5 _ b55
                   have hbq5 : bq < w5.heap.size := by omega
                   clear hv5 hb5)
                | (refine step_kid (by rfl) _ _ _ (by rfl) Tryd.underlying23 hi hz0 hz1 hz2 rfl (by decide) goodT HKD.out hwr4 HB5.out (by rfl) _ [.int .i64 (t.raise j).k, .int .i64 (t.raise j).p, .string (t.raise j).n, .int .i64 (t.raise j).s, .slice la5 ln5 lc5, .slice ka5 kn5 kc5] 1 (by rfl) ?_ 25 ?_ rfl ?_ hmap (by decide) (t.raise j) ⟨_, _, _, _, _, _, rfl, HV5.out⟩ ?_
                   · (repeat (first | with_reducible exact Below.refl _ _ | with_reducible apply Below.drew | (with_reducible refine Below.alloc ?_ ?_ _; rotate_left; focus (first | omega | (simp; done) | (simp; omega)))))
                   · (repeat (first | with_reducible exact heapN _ _ _ (by first | rfl | omega | (simp; done) | (simp; omega)) | with_reducible refine Eq.trans (heapD _ _) ?_))
                   · (intro u hu; simp only [List.mem_cons, List.not_mem_nil, or_false] at hu; rcases hu with rfl | rfl | rfl | rfl | rfl | rfl <;> rfl)
                   intro ga gn gc w6 rows2 hK6 hB6
                   have HB6 := Lib.hid hB6
                   have HK6 := Lib.hid hK6
                   have HX6 : Hid (Six w6 bq (.int .i64 k) (.int .i64 p') (.string n) (.int .i64 s) (.slice la ln lc) (.slice va vn vc)) := Lib.hid ((hB6.block bq hbq4).trans HX4.out)
                   obtain ⟨⟨g0, g1, g2, g3, g4, g5⟩, hgf⟩ := HX6.out.cells
                   clear hK6 hB6)
                | fail)
            all_goals
              go_wp2_with fail
              go_roundw
              case rel => exact ⟨q + 1, ga, gn, gc, rows2, by go_num, by omega, Lib.hid ⟨HB6.out.os.trans HG.out.os, HB6.out.tape.trans HG.out.tape, HB6.out.output.trans HG.out.output, by simp; exact Nat.le_trans HG.out.size HB6.out.size, fun i hi hne => (Below.heap_setCell _ _ _ i (by simp; exact fun e => hne (by rw [e]))).trans ((HB6.out.block i hi).trans (HG.out.block i hi hne))⟩, Lib.hid (HX6.out.set5 _), Lib.hid (by rw [take_snoc_get HTQ.out, List.map_append]; exact Kids.set goodT HK6.out hbq4 _)⟩
              case measure => simp [intOf]; omega
          · obtain rfl : q = kn0 := by omega
            have hrw : (Ty.mk k p n s ls ts).raise j = .mk k p' n s ls (Ty.raises j ts) := by rw [Ty.raise, HP.out]
            have hgs := HG.out.size
            obtain ⟨⟨c0, c1, c2, c3, c4, c5⟩, hcf⟩ := (HX1.out wr HG.out).cells
            go_wp2_with fail
            have ha := (Above.refl (w.heap.size + 2) wr).fill (c := w.heap.size + 1) (by omega) (.int .i64 k) (.int .i64 p') (.string n) (.int .i64 s) (.slice la ln lc) (.slice va vn vc)
            have hbw : Below w.heap.size w wr := (HB0.out.trans (HB.out.mono (by omega))).grown HG.out (by omega) (fun i e => by cases e; omega)
            have hbf2 := below_fill (c := w.heap.size + 1) hbw (by omega) (.int .i64 k) (.int .i64 p') (.string n) (.int .i64 s) (.slice la ln lc) (.slice va vn vc)
            have hst := ((HRW.out wr HG.out).strs (by unfold maxLen; omega)).2
            have hky := HKD.out.tys (by rw [List.length_map, List.length_take]; unfold maxLen; omega)
            rw [List.take_of_length_le (by rw [← HKL.out]; exact Nat.le_refl _), ← Ty.raises_map] at hky
            have hlr : (Ty.raises j ts).length = ts.length := by rw [Ty.raises_map, List.length_map]
            refine bodyPost_ret (v := .agg #[.int .i64 k, .int .i64 p', .string n, .int .i64 s, .slice la ln lc, .slice va vn vc]) (by simp [results, Tryd.results71, go_sem, c0, c1, c2, c3, c4, c5]) rfl (by rw [hrw]; exact ⟨la, ln, lc, va, vn, vc, rfl, ⟨_, _, rfl, HNN.out, (hst.keep (ha.keeps.mono (Fresh.mono (by omega) (Nat.le_refl _)))).mono (Fresh.mono (by omega) ha.size), (hky.keep (ha.keeps.mono (Fresh.mono (by omega) (Nat.le_refl _)))).mono (Fresh.mono (by omega) ha.size)⟩, hbf2⟩)

theorem rraise_any (B : Nat → Prop) (j : Int) : ∀ t : Ty, t.can j → ∀ (v : Value) (w : World), Low B w → TyVal B w v t → Calls Tryd.prog 71 #[v, .int .i64 j] w (TyRet w (t.raise j)) := by
  refine Ty.ind ?_
  intro k p n s ls ts ih hm v w hB hv
  obtain ⟨lv, kv, rfl, hn, hl, hk⟩ := hv
  have hm' := hm
  simp only [Ty.can] at hm'
  exact rraise_step B j k p s n lv kv ls ts hm hn w hB hl hk (fun t ht => ih t ht (Ty.cans_mem hm'.2.2.2 t ht))

end Go.Proofs.YtipjjhkgcbabnaaDoor

/- Copy of the reference: a copy in new memory. -/
namespace Go.Proofs.YtipjjhkgcbabnaaDoor
open Go.RowKit Go.Deep Go.Shelf

/-- append of values to an empty list of one's own. -/
theorem run_appV (base : Nat) (ty : TypeId) (b0 : Nat) (w : World) (hown : w.heap[b0]? = some (.cells #[] 74 (0, 0))) (hb0 : base ≤ b0) (B : Nat → Prop) (na : Option Addr) (nn nc : Nat) (vs : List Vl) (hv : VlSl B w (.slice na nn nc) vs) (hlen : vs.length ≤ 400000000) (hbase : base ≤ w.heap.size) :
    ∃ ga gn gc w', (Builtin.append_ #[33, 33] ty #[.slice (some ⟨b0, 0, none⟩) 0 0, .slice na nn nc]).run Tryd.prog w = .ok (.slice ga gn gc) w' ∧ VlSl (Fresh base w'.heap.size) w' (.slice ga gn gc) vs ∧ Below base w w' := by
  obtain ⟨i0, hi, hz0, hz1, hz2⟩ := info_parts valInfo
  have ht := Tryd.underlying33
  have hsz := hv.2.2
  have hrow0 : w.ownsRow base 74 3 (.slice (some ⟨b0, 0, none⟩) 0 0) 0 [] := ⟨rfl, .inr ⟨b0, 0, #[], rfl, hb0, hown, Nat.le_refl _, by unfold maxLen; omega, rfl, rfl⟩⟩
  rcases hv.1 with ⟨⟨a, c, e⟩, rfl⟩ | ⟨b, o, c, e, hb, hc, hrow⟩
  · injection e with e1 e2 e3
    subst e1 e2 e3
    refine ⟨some ⟨b0, 0, none⟩, 0, 0, w, ?_, ⟨.inl ⟨⟨_, _, rfl⟩, rfl⟩, by simp [maxLen], fun s hs => by cases hs⟩, Below.refl _ _⟩
    cases na with
    | none => simp [Builtin.append_, run_underlying ht, sizeOf, typeInfo, hi, Builtin.lenOf, Builtin.firstCells, storeCells]
    | some ad => simp [Builtin.append_, run_underlying ht, sizeOf, typeInfo, hi, Builtin.lenOf, Builtin.firstCells, storeCells, loadCells, loadCellsFrom]
  · injection e with e1 e2 e3
    subst e1 e2 e3
    obtain ⟨news, hl, hnw, hone⟩ := news_of (w := w) (b := b) (o := o) (n := vs.length) (s := 3) (fun i hi r hr => by
      obtain ⟨a, ha⟩ : ∃ a, vs[i]? = some a := ⟨_, List.getElem?_eq_getElem hi⟩
      obtain ⟨q0, q1, q2⟩ := hrow i a ha
      match r, hr with
      | 0, _ => exact ⟨_, q0, rfl⟩
      | 1, _ => exact ⟨_, q1, rfl⟩
      | 2, _ => exact ⟨_, q2, rfl⟩) (by omega)
    obtain ⟨v', w', hr, h2, h3, _, _⟩ := run_append_own_at (P := Tryd.prog) w base 33 ty 74 i0 _ 3 32 ht hi hz0 hz1 hz2 rfl (by decide) _ _ _ hrow0 ⟨b, o, none⟩ vs.length nc news hl hnw hone (by unfold maxLen; omega) (by omega) hbase
    have hB : Below base w w' := (Below.refl base w).grown h3 hbase (fun k e => by cases e; exact hb0)
    rw [Nat.zero_add, List.nil_append] at h2
    rcases h2.2 with ⟨h, h0⟩ | ⟨g, cap, cur, hv', hbg, hg, hncap, _⟩
    · subst h
      exact ⟨none, 0, 0, w', hr, ⟨.inl ⟨⟨_, _, rfl⟩, List.length_eq_zero_iff.1 h0⟩, hv.2.1, hsz⟩, hB⟩
    · subst hv'
      refine ⟨some ⟨g, 0, none⟩, vs.length, cap, w', hr, ⟨.inr ⟨g, 0, cap, rfl, ⟨hbg, (Array.getElem?_eq_some_iff.1 hg).1⟩, hncap, fun j a hj => ?_⟩, hv.2.1, hsz⟩, hB⟩
      have hjl := (List.getElem?_eq_some_iff.1 hj).1
      obtain ⟨q0, q1, q2⟩ := hrow j a hj
      rw [Nat.zero_add]
      exact ⟨cloned_cell hl hnw h2 (by omega) q0, cloned_cell hl hnw h2 (by omega) (by rw [← Nat.add_assoc]; exact q1), cloned_cell hl hnw h2 (by omega) (by rw [← Nat.add_assoc]; exact q2)⟩
theorem wpList_appV {ops : Array Oper} {rest : List Oper} {o : Oper} {a : Act} {w : World} {Q : Exit → Act → World → Prop} (hgd : o.guard = none) (s x : Operand)
    (ho : o.op = .call { callee := .builtin .append, args := #[s, x], argTypes := #[33, 33] })
    (base b0 : Nat) (hs : a.eval s = .slice (some ⟨b0, 0, none⟩) 0 0) (hown : w.heap[b0]? = some (.cells #[] 74 (0, 0))) (hb0 : base ≤ b0) (B : Nat → Prop) (na : Option Addr) (nn nc : Nat) (vs : List Vl) (hx : a.eval x = .slice na nn nc) (hv : VlSl B w (.slice na nn nc) vs) (hlen : vs.length ≤ 400000000) (hbase : base ≤ w.heap.size)
    (h : ∀ ga gn gc w', VlSl (Fresh base w'.heap.size) w' (.slice ga gn gc) vs → Below base w w' → wpList Tryd.prog ops Q rest (a.put o.dst (.slice ga gn gc)) w') : wpList Tryd.prog ops Q (o :: rest) a w := by
  refine wpList_plain hgd fun K hK => ?_
  obtain ⟨ga, gn, gc, w', hr, h2, h3⟩ := run_appV base o.type b0 w hown hb0 B na nn nc vs hv hlen hbase
  unfold Oper.wp execOp
  simp only [ho, resolve, invoke, builtin, Sem.run_bind, Sem.run_pure, Result.andThen_ok, List.map_toArray, List.map_cons, List.map_nil, hs, hx, hr]
  exact hK _ _ (h ga gn gc w' h2 h3)

set_option maxHeartbeats 8000000 in
set_option maxRecDepth 100000 in
theorem rcopy_step (B : Nat → Prop) (p : Pr) (hm : p.mod) (hpin : p.pin) (ih : ∀ u ∈ p.ps, ∀ (v : Value) (w : World), Low B w → PrVal B w v u → Calls Tryd.prog 40 #[v] w (PrRet w u)) (v : Value) (w : World) (hB : Low B w) (hv : PrVal B w v p) :
    Calls Tryd.prog 40 #[v] w (PrRet w p) := by
  obtain ⟨lv, av, tl, tk, kv, rfl, hn, hl, ha, ht, hk⟩ := hv
  obtain ⟨la, ln, lc, rfl, _⟩ := hl.open
  obtain ⟨aa, an, ac, rfl, _⟩ := ha.open
  obtain ⟨k0, kn0, kc0, rfl, hkl, hkm, _⟩ := hk.open
  obtain ⟨⟨ta, tn, tc, rfl⟩, ua, un, uc, rfl⟩ := ty_slices ht
  have hm' : p.ls.length ≤ 400000000 ∧ p.vs.length ≤ 400000000 ∧ p.ps.length ≤ 65536 ∧ p.t.modc := by
    cases p; simp only [Pr.mod] at hm; exact ⟨hm.1, hm.2.1, hm.2.2.1, hm.2.2.2.1⟩
  have hcan : p.t.can 0 := Ty.can_0 _ hm'.2.2.2 (by cases p; simp only [Pr.pin] at hpin; exact hpin.1)
  obtain ⟨hm1, hm2, hm3, hm4⟩ := hm'
  obtain ⟨W3, hW3⟩ : ∃ W3, ((w.alloc (cell12 p (.slice la ln lc) (.slice aa an ac) (.slice ta tn tc) (.slice ua un uc) (.slice k0 kn0 kc0))).alloc zero12).alloc (cell12 p (.slice la ln lc) (.slice aa an ac) (.slice ta tn tc) (.slice ua un uc) (.slice k0 kn0 kc0)) = W3 := ⟨_, rfl⟩
  have hb3 : Below w.heap.size w W3 := by rw [← hW3]; exact (((Below.refl _ _).alloc (Nat.le_refl _) _).alloc (by simp) _).alloc (by simp; omega) _
  have hs3 : W3.heap.size = w.heap.size + 3 := by rw [← hW3]; simp
  have t0 : Twelve W3 w.heap.size (.int .i64 p.k) (.string p.c) (.string p.x) (.slice la ln lc) (.slice aa an ac) (.int .i64 p.t.k) (.int .i64 p.t.p) (.string p.t.n) (.int .i64 p.t.s) (.slice ta tn tc) (.slice ua un uc) (.slice k0 kn0 kc0) := by
    rw [← hW3]; exact ((Twelve.new w _ _ _ _ _ _ _ _ _ _ _ _).to (blkBelow _ _ _)).to (blkBelow _ _ _)
  have t1 : Twelve W3 (w.heap.size + 1) (.int .i64 0) (.string ⟨#[]⟩) (.string ⟨#[]⟩) (.slice none 0 0) (.slice none 0 0) (.int .i64 0) (.int .i64 0) (.string ⟨#[]⟩) (.int .i64 0) (.slice none 0 0) (.slice none 0 0) (.slice none 0 0) := by
    have := (Twelve.new (w.alloc (cell12 p (.slice la ln lc) (.slice aa an ac) (.slice ta tn tc) (.slice ua un uc) (.slice k0 kn0 kc0))) (.int .i64 0) (.string ⟨#[]⟩) (.string ⟨#[]⟩) (.slice none 0 0) (.slice none 0 0) (.int .i64 0) (.int .i64 0) (.string ⟨#[]⟩) (.int .i64 0) (.slice none 0 0) (.slice none 0 0) (.slice none 0 0)).to (blkBelow _ #[.int .i64 p.k, .string p.c, .string p.x, .slice la ln lc, .slice aa an ac, .int .i64 p.t.k, .int .i64 p.t.p, .string p.t.n, .int .i64 p.t.s, .slice ta tn tc, .slice ua un uc, .slice k0 kn0 kc0] 36)
    rw [World.size_alloc] at this
    rw [← hW3]; exact this
  have t2 : Twelve W3 (w.heap.size + 2) (.int .i64 p.k) (.string p.c) (.string p.x) (.slice la ln lc) (.slice aa an ac) (.int .i64 p.t.k) (.int .i64 p.t.p) (.string p.t.n) (.int .i64 p.t.s) (.slice ta tn tc) (.slice ua un uc) (.slice k0 kn0 kc0) := by
    have := Twelve.new ((w.alloc (cell12 p (.slice la ln lc) (.slice aa an ac) (.slice ta tn tc) (.slice ua un uc) (.slice k0 kn0 kc0))).alloc zero12) (.int .i64 p.k) (.string p.c) (.string p.x) (.slice la ln lc) (.slice aa an ac) (.int .i64 p.t.k) (.int .i64 p.t.p) (.string p.t.n) (.int .i64 p.t.s) (.slice ta tn tc) (.slice ua un uc) (.slice k0 kn0 kc0)
    rw [World.size_alloc, World.size_alloc] at this
    rw [← hW3]; exact this
  simp only [cell12, zero12] at hW3
  have HW3 := Lib.hid hW3
  have HIH := Lib.hid ih
  have HL := Lib.hid hl
  have HA := Lib.hid ha
  have HT := Lib.hid ht
  have HK := Lib.hid hk
  have HNS := Lib.hid hn
  have HB3 := Lib.hid hb3
  have T0 := Lib.hid t0
  have T1 := Lib.hid t1
  have T2 := Lib.hid t2
  have HBB := Lib.hid hB
  have HCAN := Lib.hid hcan
  obtain ⟨ps, hps⟩ : ∃ ps, p.ps = ps := ⟨_, rfl⟩
  have HPS := Lib.hid hps
  rw [hps] at HK HIH hm3 hkl
  have HKL := Lib.hid hkl.out
  have hl0 : 0 + p.ls.length ≤ 1000000000 := by omega
  clear hl ha ht hk ih hm hW3 hn hb3 t0 t1 t2 hkl hB hpin hcan hps
  go_enter Tryd.func40, Tryd.ntmps40
  go_upto_region 2 with fail
  rw [HW3.out]
  clear HW3
  -- the Labels
  obtain ⟨⟨d0, d1, d2, d3, d4, d5, d6, d7, d8, d9, d10, d11⟩, hf⟩ := (T0.out.to (blkBelow W3 #[] 9)).cells
  have hln : Hid (StrSl B (W3.alloc (.cells #[] 9)) (.slice la ln lc) p.ls) := Lib.hid (HL.out.keep ((below_seq HB3.out (blkBelow W3 #[] 9)).keeps'.mono HBB.out))
  go_upto_region 3 with (at_builtin; refine wpList_app rfl _ _ rfl W3.heap.size [] (.slice (some ⟨W3.heap.size, 0, none⟩) 0 0) (by rw [hs3]; rfl) (Row.empty _ _ _ rfl (Nat.le_refl _)) B la ln lc p.ls rfl hln.out hl0 (by simp) ?_; intro la' ln' lc' w4 hr4 hg4 _; have HB4 := Lib.hid ((blkBelow W3 #[] 9).grown hg4 (by simp) (fun i e => by cases e; exact Nat.le_refl _)); obtain ⟨⟨e0, e1, e2, e3, e4, e5, e6, e7, e8, e9, e10, e11⟩, hf2⟩ := (T2.out.to HB4.out).cells)
  rw [List.nil_append] at hr4
  have hs4 : w.heap.size + 3 ≤ w4.heap.size := by have := HB4.out.size; omega
  obtain ⟨w5, hw5⟩ : ∃ x, w4.setCell ⟨w.heap.size + 2, 3, none⟩ (.slice la' ln' lc') = x := ⟨_, rfl⟩
  have hs5 : w5.heap.size = w4.heap.size := by rw [← hw5]; simp
  have T2' : Hid (Twelve w5 (w.heap.size + 2) (.int .i64 p.k) (.string p.c) (.string p.x) (.slice la' ln' lc') (.slice aa an ac) (.int .i64 p.t.k) (.int .i64 p.t.p) (.string p.t.n) (.int .i64 p.t.s) (.slice ta tn tc) (.slice ua un uc) (.slice k0 kn0 kc0)) := Lib.hid (by rw [← hw5]; exact (T2.out.to HB4.out).set3 _)
  have HG5 : Hid (W3.grownBy w5 (some (w.heap.size + 2))) := Lib.hid (by rw [← hw5]; exact ⟨HB4.out.os, HB4.out.tape, HB4.out.output, by simpa using HB4.out.size, fun i hi hne => (Below.heap_setCell _ _ _ i (by simp; exact fun e => hne (by rw [e]))).trans (HB4.out.block i hi)⟩)
  have HS5 : Hid (StrSl (Fresh W3.heap.size w5.heap.size) w5 (.slice la' ln' lc') p.ls) := Lib.hid (by
    rw [← hw5]
    have h := (hr4.kept (W' := w4.setCell ⟨w.heap.size + 2, 3, none⟩ (.slice la' ln' lc')) (fun q hq => Below.heap_setCell _ _ _ q (by have := (hr4.lt q hq).1; simp; omega))).strs (by unfold maxLen; omega)
    exact h.2)
  rw [hw5]
  clear hw5 d0 d1 d2 d3 d4 d5 d6 d7 d8 d9 d10 d11 hf e0 e1 e2 e3 e4 e5 e6 e7 e8 e9 e10 e11 hf2 hln hr4 HB4 T2
  -- what lies low, and the arguments, behind such steps
  have HLO : Hid (∀ W, W3.grownBy W (some (w.heap.size + 2)) → ∀ i, i < w.heap.size + 2 → W.heap[i]? = W3.heap[i]?) := Lib.hid (fun W hg i hi => hg.block i (by omega) (fun e => by injection e; omega))
  have HT0 : Hid (∀ W, W3.grownBy W (some (w.heap.size + 2)) → Twelve W w.heap.size (.int .i64 p.k) (.string p.c) (.string p.x) (.slice la ln lc) (.slice aa an ac) (.int .i64 p.t.k) (.int .i64 p.t.p) (.string p.t.n) (.int .i64 p.t.s) (.slice ta tn tc) (.slice ua un uc) (.slice k0 kn0 kc0)) := Lib.hid (fun W hg => (HLO.out W hg _ (by omega)).trans T0.out)
  have HT1 : Hid (∀ W, W3.grownBy W (some (w.heap.size + 2)) → Twelve W (w.heap.size + 1) (.int .i64 0) (.string ⟨#[]⟩) (.string ⟨#[]⟩) (.slice none 0 0) (.slice none 0 0) (.int .i64 0) (.int .i64 0) (.string ⟨#[]⟩) (.int .i64 0) (.slice none 0 0) (.slice none 0 0) (.slice none 0 0)) := Lib.hid (fun W hg => (HLO.out W hg _ (by omega)).trans T1.out)
  have HKB : Hid (∀ W, W3.grownBy W (some (w.heap.size + 2)) → Keeps B w W) := Lib.hid (fun W hg i o hi ho _ => (HLO.out W hg i (by have := HBB.out i hi; omega)).trans ((HB3.out.block i (HBB.out i hi)).trans ho))
  have HGG : Hid (∀ W W', W3.grownBy W (some (w.heap.size + 2)) → Below W.heap.size W W' → W3.grownBy W' (some (w.heap.size + 2))) := Lib.hid (fun W W' hg hb => ⟨hb.os.trans hg.os, hb.tape.trans hg.tape, hb.output.trans hg.output, Nat.le_trans hg.size hb.size, fun i hi hne => (hb.block i (Nat.lt_of_lt_of_le hi hg.size)).trans (hg.block i hi hne)⟩)
  have HGS : Hid (∀ (W : World) (o : Nat) (vs : List Value), W3.grownBy W (some (w.heap.size + 2)) → W3.grownBy (W.setCells (w.heap.size + 2) o vs) (some (w.heap.size + 2))) := Lib.hid (fun W o vs hg => by
    have hb := below_setCells (B := 0) (w.heap.size + 2) (Nat.zero_le _) vs o W
    exact ⟨hb.os.trans hg.os, hb.tape.trans hg.tape, hb.output.trans hg.output, Nat.le_trans hg.size hb.size, fun i hi hne => (heap_setCells_other (fun e => hne (by rw [e])) _ _ _).trans (hg.block i hi hne)⟩)
  clear T0 T1 HLO
  -- the Args
  have hga := HGG.out _ _ HG5.out (blkBelow w5 #[] 74)
  obtain ⟨⟨d0, d1, d2, d3, d4, d5, d6, d7, d8, d9, d10, d11⟩, hf⟩ := (HT0.out _ hga).cells
  have han : Hid (VlSl B (w5.alloc (.cells #[] 74)) (.slice aa an ac) p.vs) := Lib.hid (HA.out.keep (HKB.out _ hga))
  have hw3 : W3.heap.size ≤ w5.heap.size := HG5.out.size
  go_upto_region 4 with (at_builtin; refine wpList_appV rfl _ _ rfl w5.heap.size _ (by rfl) (heapN _ _ _ (by omega)) (by omega) B aa an ac p.vs rfl han.out hm2 (by simp) ?_; intro aa' an' ac' w6 hv6 hb6; have HB6 := Lib.hid ((blkBelow w5 #[] 74).trans hb6); have T26 : Twelve w6 (w.heap.size + 2) (.int .i64 p.k) (.string p.c) (.string p.x) (.slice la' ln' lc') (.slice aa an ac) (.int .i64 p.t.k) (.int .i64 p.t.p) (.string p.t.n) (.int .i64 p.t.s) (.slice ta tn tc) (.slice ua un uc) (.slice k0 kn0 kc0) := T2'.out.to HB6.out; obtain ⟨⟨e0, e1, e2, e3, e4, e5, e6, e7, e8, e9, e10, e11⟩, hf2⟩ := T26.cells)
  obtain ⟨w7, hw7⟩ : ∃ x, w6.setCell ⟨w.heap.size + 2, 4, none⟩ (.slice aa' an' ac') = x := ⟨_, rfl⟩
  have hk67 : ∀ F : Nat → Prop, (∀ i, F i → i ≠ w.heap.size + 2) → Keeps F w6 w7 := fun F hF => by rw [← hw7]; exact keeps_setCells hF [.slice aa' an' ac'] 4
  have hs7 : w7.heap.size = w6.heap.size := by rw [← hw7]; simp
  have hs56 := HB6.out.size
  have T3 : Hid (Twelve w7 (w.heap.size + 2) (.int .i64 p.k) (.string p.c) (.string p.x) (.slice la' ln' lc') (.slice aa' an' ac') (.int .i64 p.t.k) (.int .i64 p.t.p) (.string p.t.n) (.int .i64 p.t.s) (.slice ta tn tc) (.slice ua un uc) (.slice k0 kn0 kc0)) := Lib.hid (by rw [← hw7]; exact T26.set4 _)
  have HG7 : Hid (W3.grownBy w7 (some (w.heap.size + 2))) := Lib.hid (by rw [← hw7]; exact HGS.out _ 4 [_] (HGG.out _ _ HG5.out HB6.out))
  have HS7 : Hid (StrSl (Fresh W3.heap.size w7.heap.size) w7 (.slice la' ln' lc') p.ls) := Lib.hid (((HS5.out.keep (HB6.out.keeps'.mono (fun i hi => hi.2))).keep (hk67 _ (fun i hi => by have := hi.1; omega))).mono (Fresh.mono (Nat.le_refl _) (by omega)))
  have HV7 : Hid (VlSl (Fresh W3.heap.size w7.heap.size) w7 (.slice aa' an' ac') p.vs) := Lib.hid ((hv6.keep (hk67 _ (fun i hi => by have := hi.1; omega))).mono (Fresh.mono hw3 (by omega)))
  rw [hw7]
  clear hw7 d0 d1 d2 d3 d4 d5 d6 d7 d8 d9 d10 d11 hf e0 e1 e2 e3 e4 e5 e6 e7 e8 e9 e10 e11 hf2 han hv6 hb6 HB6 T2' HS5 HG5 hga hk67
  -- the type
  obtain ⟨⟨d0, d1, d2, d3, d4, d5, d6, d7, d8, d9, d10, d11⟩, hf⟩ := (HT0.out _ HG7.out).cells
  have hkb7 := HKB.out _ HG7.out
  go_upto_region 5 with (go_at_call 71; refine (rraise_any B 0 p.t HCAN.out _ w7 (HBB.out.le (by omega)) (HT.out.keep hkb7)).mono ?_; rintro e w8 ⟨ta', tn', tc', ua', un', uc', rfl, hv8, hb8⟩; rw [Ty.raise_0] at hv8 ⊢; have HB8 := Lib.hid hb8; have HTV := Lib.hid hv8; obtain ⟨⟨e0, e1, e2, e3, e4, e5, e6, e7, e8, e9, e10, e11⟩, hf2⟩ := (T3.out.to HB8.out).cells; clear hv8 hb8)
  have hsz8 := HB8.out.size
  obtain ⟨w9, hw9⟩ : ∃ x, w8.setCells (w.heap.size + 2) 5 [.int .i64 p.t.k, .int .i64 p.t.p, .string p.t.n, .int .i64 p.t.s, .slice ta' tn' tc', .slice ua' un' uc'] = x := ⟨_, rfl⟩
  have hs9 : w9.heap.size = w8.heap.size := by rw [← hw9]; exact size_setCells _ _ _ _
  have hk89 : ∀ F : Nat → Prop, (∀ i, F i → i ≠ w.heap.size + 2) → Keeps F w8 w9 := fun F hF => by rw [← hw9]; exact keeps_setCells hF _ 5
  have T4 : Hid (Twelve w9 (w.heap.size + 2) (.int .i64 p.k) (.string p.c) (.string p.x) (.slice la' ln' lc') (.slice aa' an' ac') (.int .i64 p.t.k) (.int .i64 p.t.p) (.string p.t.n) (.int .i64 p.t.s) (.slice ta' tn' tc') (.slice ua' un' uc') (.slice k0 kn0 kc0)) := Lib.hid (by rw [← hw9]; exact (T3.out.to HB8.out).setT _ _ _ _ _ _)
  have HG9 : Hid (W3.grownBy w9 (some (w.heap.size + 2))) := Lib.hid (by rw [← hw9]; exact HGS.out _ 5 _ (HGG.out _ _ HG7.out HB8.out))
  have HS9 : Hid (StrSl (Fresh W3.heap.size w9.heap.size) w9 (.slice la' ln' lc') p.ls) := Lib.hid (((HS7.out.keep (HB8.out.keeps'.mono (fun i hi => hi.2))).keep (hk89 _ (fun i hi => by have := hi.1; omega))).mono (Fresh.mono (Nat.le_refl _) (by omega)))
  have HV9 : Hid (VlSl (Fresh W3.heap.size w9.heap.size) w9 (.slice aa' an' ac') p.vs) := Lib.hid (((HV7.out.keep (HB8.out.keeps'.mono (fun i hi => hi.2))).keep (hk89 _ (fun i hi => by have := hi.1; omega))).mono (Fresh.mono (Nat.le_refl _) (by omega)))
  have HT9 : Hid (TyVal (Fresh W3.heap.size w9.heap.size) w9 (.agg #[.int .i64 p.t.k, .int .i64 p.t.p, .string p.t.n, .int .i64 p.t.s, .slice ta' tn' tc', .slice ua' un' uc']) p.t) := Lib.hid ((HTV.out.keep (hk89 _ (fun i hi => by have := hi.1; omega))).mono (Fresh.mono (by omega) (by omega)))
  rw [setCells6] at hw9
  simp only [Nat.reduceAdd] at hw9
  rw [hw9]
  clear hw9 d0 d1 d2 d3 d4 d5 d6 d7 d8 d9 d10 d11 hf e0 e1 e2 e3 e4 e5 e6 e7 e8 e9 e10 e11 hf2 HTV HS7 HV7 HG7 T3 HB8 hk89 hkb7
  -- the Kids
  obtain ⟨⟨e0, e1, e2, e3, e4, e5, e6, e7, e8, e9, e10, e11⟩, hf2⟩ := T4.out.cells
  go_upto_region 6 with fail
  obtain ⟨W5, hW5⟩ : ∃ x, w9.setCell ⟨w.heap.size + 2, 11, none⟩ (.slice none 0 0) = x := ⟨_, rfl⟩
  have hs10 : W5.heap.size = w9.heap.size := by rw [← hW5]; simp
  have hk95 : ∀ F : Nat → Prop, (∀ i, F i → i ≠ w.heap.size + 2) → Keeps F w9 W5 := fun F hF => by rw [← hW5]; exact keeps_setCells hF [.slice none 0 0] 11
  have T5 : Hid (Twelve W5 (w.heap.size + 2) (.int .i64 p.k) (.string p.c) (.string p.x) (.slice la' ln' lc') (.slice aa' an' ac') (.int .i64 p.t.k) (.int .i64 p.t.p) (.string p.t.n) (.int .i64 p.t.s) (.slice ta' tn' tc') (.slice ua' un' uc') (.slice none 0 0)) := Lib.hid (by rw [← hW5]; exact T4.out.set11 _)
  have HG10 : Hid (W3.grownBy W5 (some (w.heap.size + 2))) := Lib.hid (by rw [← hW5]; exact HGS.out _ 11 [_] HG9.out)
  have HS10 : Hid (StrSl (Fresh W3.heap.size W5.heap.size) W5 (.slice la' ln' lc') p.ls) := Lib.hid ((HS9.out.keep (hk95 _ (fun i hi => by have := hi.1; omega))).mono (Fresh.mono (Nat.le_refl _) (by omega)))
  have HV10 : Hid (VlSl (Fresh W3.heap.size W5.heap.size) W5 (.slice aa' an' ac') p.vs) := Lib.hid ((HV9.out.keep (hk95 _ (fun i hi => by have := hi.1; omega))).mono (Fresh.mono (Nat.le_refl _) (by omega)))
  have HT10 : Hid (TyVal (Fresh W3.heap.size W5.heap.size) W5 (.agg #[.int .i64 p.t.k, .int .i64 p.t.p, .string p.t.n, .int .i64 p.t.s, .slice ta' tn' tc', .slice ua' un' uc']) p.t) := Lib.hid ((HT9.out.keep (hk95 _ (fun i hi => by have := hi.1; omega))).mono (Fresh.mono (Nat.le_refl _) (by omega)))
  rw [hW5]
  clear hW5 e0 e1 e2 e3 e4 e5 e6 e7 e8 e9 e10 e11 hf2 HS9 HV9 HT9 HG9 T4 hk95
  have hX2 : w.heap.size + 2 < W5.heap.size := T5.out.lt
  have hkn1 : kn0 ≤ 65536 := by rw [HKL.out]; exact hm3
  have HGW : Hid (∀ wr, W5.grownBy wr (some (w.heap.size + 2)) → W3.grownBy wr (some (w.heap.size + 2))) := Lib.hid (fun wr hg => HG10.out.trans ⟨hg.os, hg.tape, hg.output, hg.size, fun i hi hne => hg.block i hi hne⟩)
  have HKF : Hid (∀ wr, W5.grownBy wr (some (w.heap.size + 2)) → Keeps (Fresh W3.heap.size W5.heap.size) W5 wr) := Lib.hid (fun wr hg i o hi ho _ => (hg.block i hi.2 (fun e => by injection e; have := hi.1; omega)).trans ho)
  have HBW : Hid (∀ wr, W5.grownBy wr (some (w.heap.size + 2)) → Low B wr) := Lib.hid (fun wr hg => HBB.out.le (by have := hg.size; omega))
  have hw35 : w.heap.size + 3 ≤ W5.heap.size := by omega
  go_wp2_with fail
  go_loopw [4] (fun i wr => ∃ (q : Nat) (va : Option Addr) (vn vc : Nat) (rows : List (List Value)), i = .int .i64 (q : Int) ∧ q ≤ kn0 ∧ Hid (W5.grownBy wr (some (w.heap.size + 2))) ∧ Hid (Twelve wr (w.heap.size + 2) (.int .i64 p.k) (.string p.c) (.string p.x) (.slice la' ln' lc') (.slice aa' an' ac') (.int .i64 p.t.k) (.int .i64 p.t.p) (.string p.t.n) (.int .i64 p.t.s) (.slice ta' tn' tc') (.slice ua' un' uc') (.slice va vn vc)) ∧ Hid (Kids 36 12 GoodP W5.heap.size wr (.slice va vn vc) rows (ps.take q))) (fun i _ => kn0 - (intOf i).toNat)
  case atStart => exact ⟨0, none, 0, 0, [], rfl, by omega, Lib.hid ⟨rfl, rfl, rfl, Nat.le_refl _, fun _ _ _ => rfl⟩, T5, Lib.hid (Kids.nil _)⟩
  case round =>
    obtain ⟨q, va, vn, vc, rows, rfl, hq, HG, HX4, HKD⟩ := hrel
    obtain ⟨⟨d0, d1, d2, d3, d4, d5, d6, d7, d8, d9, d10, d11⟩, hf⟩ := (HT0.out _ (HGW.out wr HG.out)).cells
    obtain ⟨⟨b0, b1, b2, b3, b4, b5, b6, b7, b8, b9, b10, b11⟩, hbf⟩ := HX4.out.cells
    have hwr4 := HG.out.size
    by_cases hlt : q < kn0
    · obtain ⟨t, htq⟩ : ∃ t, ps[q]? = some t := ⟨_, List.getElem?_eq_getElem (by rw [← HKL.out]; exact hlt)⟩
      obtain ⟨kb, ko, hk0, hkb, hty⟩ : ∃ kb ko, k0 = some ⟨kb, ko, none⟩ ∧ B kb ∧ PrAt B wr t kb (ko + q * 12) := by
        obtain ⟨pa, len, c, e, _, _, hget⟩ := (HK.out.keep (HKB.out _ (HGW.out wr HG.out))).open
        injection e with e1 e2 e3
        obtain ⟨kb, ko, h1, h2, h3⟩ := hget q t htq
        exact ⟨kb, ko, by rw [e1]; exact h1, h2, h3⟩
      subst hk0
      obtain ⟨la2, ln2, lc2, aa2, an2, ac2, ta2, tn2, tc2, ua2, un2, uc2, ka2, kn2, kc2, ⟨e0, e1, e2, e3, e4, e5, e6, e7, e8, e9, e10, e11⟩, hval⟩ := hty.load'
      have hBr := HBW.out wr HG.out
      have hkbw : kb < w.heap.size := HBB.out kb hkb
      have HC : Hid (∀ W, Below wr.heap.size wr W → Calls Tryd.prog 40 #[prAgg t (.slice la2 ln2 lc2) (.slice aa2 an2 ac2) (.slice ta2 tn2 tc2) (.slice ua2 un2 uc2) (.slice ka2 kn2 kc2)] W (PrRet W t)) := Lib.hid (fun W hW => HIH.out t (List.mem_of_getElem? htq) _ W (hBr.le hW.size) (hval.to hBr hW))
      unfold prAgg at HC
      obtain ⟨i0, hi, hz0, hz1, hz2⟩ := info_parts procInfo
      have hmap : (ps.take q).length + 1 ≤ 1048577 := by rw [List.length_take]; omega
      have hbqr : w.heap.size + 2 < wr.heap.size := by omega
      have HTQ := Lib.hid htq
      clear hty hval hkb htq
      go_wp2_with fail
      go_region_law
        (first
          | (go_simp
             go_at_call 40
             refine (HC.out _ (by (repeat (first | with_reducible exact Below.refl _ _ | with_reducible exact HB11.out | with_reducible apply Below.drew | (with_reducible refine Below.alloc ?_ ?_ _; rotate_left; focus (first | omega | (simp; done) | (simp; omega))))))).mono ?_
             rintro e w11 ⟨la3, ln3, lc3, aa3, an3, ac3, ta3, tn3, tc3, ua3, un3, uc3, ka3, kn3, kc3, rfl, hv11, hb11⟩
             dsimp only
             have HB11 : Hid (Below wr.heap.size wr w11) := Lib.hid (Below.trans (by (repeat (first | with_reducible exact Below.refl _ _ | with_reducible exact HB11.out | with_reducible apply Below.drew | (with_reducible refine Below.alloc ?_ ?_ _; rotate_left; focus (first | omega | (simp; done) | (simp; omega)))))) hb11)
             have HV11 : Hid (PrVal (Fresh wr.heap.size w11.heap.size) w11 (prAgg t (.slice la3 ln3 lc3) (.slice aa3 an3 ac3) (.slice ta3 tn3 tc3) (.slice ua3 un3 uc3) (.slice ka3 kn3 kc3)) t) := Lib.hid hv11
             have g11 : w11.cell? ⟨w.heap.size + 2, 11, none⟩ = some (.slice va vn vc) := (HB11.out.cell (p := ⟨w.heap.size + 2, 11, none⟩) hbqr).trans b11
             have hz5 := HB11.out.size
             have hne5 := World.new_ne w11 _ g11
             have hbq5 : w.heap.size + 2 < w11.heap.size := by omega
             clear hv11 hb11)
          | (refine step_kid (by rfl) _ _ _ (by rfl) Tryd.underlying34 hi hz0 hz1 hz2 rfl (by decide) goodP HKD.out hwr4 HB11.out (by rfl) _ (prCellsL t (.slice la3 ln3 lc3) (.slice aa3 an3 ac3) (.slice ta3 tn3 tc3) (.slice ua3 un3 uc3) (.slice ka3 kn3 kc3)) 1 (by rfl) ?_ 36 ?_ rfl ?_ hmap (by decide) t ⟨_, _, _, _, _, _, _, _, _, _, _, _, _, _, _, rfl, HV11.out⟩ ?_
             · (repeat (first | with_reducible exact Below.refl _ _ | with_reducible apply Below.drew | (with_reducible refine Below.alloc ?_ ?_ _; rotate_left; focus (first | omega | (simp; done) | (simp; omega)))))
             · (repeat (first | ((with_reducible refine Eq.trans (heapN _ _ _ (by first | rfl | omega | (simp; done) | (simp; omega))) ?_); rfl) | with_reducible refine Eq.trans (heapD _ _) ?_))
             · (intro u hu; simp only [prCellsL, List.mem_cons, List.not_mem_nil, or_false] at hu; rcases hu with rfl | rfl | rfl | rfl | rfl | rfl | rfl | rfl | rfl | rfl | rfl | rfl <;> rfl)
             intro ga gn gc w6 rows2 hK6 hB6
             have HB6 := Lib.hid hB6
             have HK6 := Lib.hid hK6
             have HX6 : Hid (Twelve w6 (w.heap.size + 2) (.int .i64 p.k) (.string p.c) (.string p.x) (.slice la' ln' lc') (.slice aa' an' ac') (.int .i64 p.t.k) (.int .i64 p.t.p) (.string p.t.n) (.int .i64 p.t.s) (.slice ta' tn' tc') (.slice ua' un' uc') (.slice va vn vc)) := Lib.hid ((hB6.block (w.heap.size + 2) hX2).trans HX4.out)
             obtain ⟨⟨g0, g1, g2, g3, g4, g5, g6, g7, g8, g9, g10, g11'⟩, hgf⟩ := HX6.out.cells
             clear hK6 hB6)
          | fail)
      all_goals
        go_wp2_with fail
        go_roundw
        case rel => exact ⟨q + 1, ga, gn, gc, rows2, by go_num, by omega, Lib.hid ⟨HB6.out.os.trans HG.out.os, HB6.out.tape.trans HG.out.tape, HB6.out.output.trans HG.out.output, by simp; exact Nat.le_trans HG.out.size HB6.out.size, fun i hi hne => (Below.heap_setCell _ _ _ i (by simp; exact fun e => hne (by rw [e]))).trans ((HB6.out.block i hi).trans (HG.out.block i hi hne))⟩, Lib.hid (HX6.out.set11 _), Lib.hid (by rw [take_snoc_get HTQ.out]; exact Kids.set goodP HK6.out hX2 _)⟩
        case measure => simp [intOf]; omega
    · obtain rfl : q = kn0 := by omega
      have hg3 := HGW.out wr HG.out
      have t1 := HT1.out _ hg3
      have hfill := t1.fill (.int .i64 p.k) (.string p.c) (.string p.x) (.slice la' ln' lc') (.slice aa' an' ac') (.int .i64 p.t.k) (.int .i64 p.t.p) (.string p.t.n) (.int .i64 p.t.s) (.slice ta' tn' tc') (.slice ua' un' uc') (.slice va vn vc)
      have hkp : ∀ F : Nat → Prop, (∀ i, F i → i ≠ w.heap.size + 1) → Keeps F wr (wr.setCells (w.heap.size + 1) 0 [.int .i64 p.k, .string p.c, .string p.x, .slice la' ln' lc', .slice aa' an' ac', .int .i64 p.t.k, .int .i64 p.t.p, .string p.t.n, .int .i64 p.t.s, .slice ta' tn' tc', .slice ua' un' uc', .slice va vn vc]) := fun F hF => keeps_setCells hF _ _
      have hbw : Below w.heap.size w wr := HB3.out.grown hg3 (by omega) (fun i e => by cases e; omega)
      have hbb := hbw.trans (below_setCells (w.heap.size + 1) (by omega) [.int .i64 p.k, .string p.c, .string p.x, .slice la' ln' lc', .slice aa' an' ac', .int .i64 p.t.k, .int .i64 p.t.p, .string p.t.n, .int .i64 p.t.s, .slice ta' tn' tc', .slice ua' un' uc', .slice va vn vc] 0 wr)
      have hsz := size_setCells (w.heap.size + 1) [.int .i64 p.k, .string p.c, .string p.x, .slice la' ln' lc', .slice aa' an' ac', .int .i64 p.t.k, .int .i64 p.t.p, .string p.t.n, .int .i64 p.t.s, .slice ta' tn' tc', .slice ua' un' uc', .slice va vn vc] 0 wr
      rw [setCells12] at hfill hkp hbb hsz
      simp only [Nat.zero_add] at hfill hkp hbb hsz
      have HFI := Lib.hid hfill
      have HKP := Lib.hid hkp
      have HBX := Lib.hid hbb
      have HSZ := Lib.hid hsz
      obtain ⟨⟨c0, c1, c2, c3, c4, c5, c6, c7, c8, c9, c10, c11⟩, hcf⟩ := t1.cells
      clear hfill hkp hbb hsz t1
      go_wp2_with fail
      obtain ⟨w12, hw12⟩ : ∃ x, (((((((((((wr.setCell ⟨w.heap.size + 1, 0, none⟩ (.int .i64 p.k)).setCell ⟨w.heap.size + 1, 1, none⟩ (.string p.c)).setCell ⟨w.heap.size + 1, 2, none⟩ (.string p.x)).setCell ⟨w.heap.size + 1, 3, none⟩ (.slice la' ln' lc')).setCell ⟨w.heap.size + 1, 4, none⟩ (.slice aa' an' ac')).setCell ⟨w.heap.size + 1, 5, none⟩ (.int .i64 p.t.k)).setCell ⟨w.heap.size + 1, 6, none⟩ (.int .i64 p.t.p)).setCell ⟨w.heap.size + 1, 7, none⟩ (.string p.t.n)).setCell ⟨w.heap.size + 1, 8, none⟩ (.int .i64 p.t.s)).setCell ⟨w.heap.size + 1, 9, none⟩ (.slice ta' tn' tc')).setCell ⟨w.heap.size + 1, 10, none⟩ (.slice ua' un' uc')).setCell ⟨w.heap.size + 1, 11, none⟩ (.slice va vn vc) = x := ⟨_, rfl⟩
      rw [hw12] at HFI HKP HBX HSZ ⊢
      clear hw12 c0 c1 c2 c3 c4 c5 c6 c7 c8 c9 c10 c11 hcf d0 d1 d2 d3 d4 d5 d6 d7 d8 d9 d10 d11 hf b0 b1 b2 b3 b4 b5 b6 b7 b8 b9 b10 b11 hbf
      obtain ⟨⟨f0, f1, f2, f3, f4, f5, f6, f7, f8, f9, f10, f11⟩, hf2⟩ := HFI.out.cells
      have hF := HKP.out (Fresh W3.heap.size wr.heap.size) (fun i hi => by have := hi.1; omega)
      have hup : ∀ i, Fresh W3.heap.size W5.heap.size i → Fresh W3.heap.size wr.heap.size i := Fresh.mono (Nat.le_refl _) hwr4
      have hFm : ∀ i, Fresh W3.heap.size wr.heap.size i → Fresh w.heap.size w12.heap.size i := Fresh.mono (by omega) (by rw [HSZ.out]; exact Nat.le_refl _)
      have hkf := HKF.out wr HG.out
      have hpks := HKD.out.prs (by rw [List.length_take]; unfold maxLen; omega)
      rw [List.take_of_length_le (by rw [← HKL.out]; exact Nat.le_refl _)] at hpks
      have hpr : PrVal (Fresh w.heap.size w12.heap.size) w12 (prAgg p (.slice la' ln' lc') (.slice aa' an' ac') (.slice ta' tn' tc') (.slice ua' un' uc') (.slice va vn vc)) p := by
        refine ⟨_, _, _, _, _, rfl, HNS.out, (((HS10.out.keep hkf).mono hup).keep hF).mono hFm, (((HV10.out.keep hkf).mono hup).keep hF).mono hFm, (((HT10.out.keep hkf).mono hup).keep hF).mono hFm, ?_⟩
        rw [HPS.out]
        exact ((hpks.mono (Fresh.mono (c := W3.heap.size) (d := wr.heap.size) (by omega) (Nat.le_refl _))).keep hF).mono hFm
      exact bodyPost_ret (v := (.agg #[.int .i64 p.k, .string p.c, .string p.x, .slice la' ln' lc', .slice aa' an' ac', .int .i64 p.t.k, .int .i64 p.t.p, .string p.t.n, .int .i64 p.t.s, .slice ta' tn' tc', .slice ua' un' uc', .slice va vn vc])) (by simp [results, Tryd.results40, go_sem, f0, f1, f2, f3, f4, f5, f6, f7, f8, f9, f10, f11]) rfl ⟨_, _, _, _, _, _, _, _, _, _, _, _, _, _, _, rfl, hpr, HBX.out⟩

theorem rcopy_any (B : Nat → Prop) : ∀ p : Pr, p.mod → p.pin → ∀ (v : Value) (w : World), Low B w → PrVal B w v p → Calls Tryd.prog 40 #[v] w (PrRet w p) := by
  refine Pr.ind ?_
  intro k c x ls vs t ps ih hm hp v w hB hv
  have hm' := hm
  have hp' := hp
  simp only [Pr.mod] at hm'
  simp only [Pr.pin] at hp'
  exact rcopy_step B _ hm hp (fun u hu => ih u hu (Pr.mods_mem hm'.2.2.2.2 u hu) (Pr.pins_mem hp'.2 u hu)) v w hB hv

end Go.Proofs.YtipjjhkgcbabnaaDoor

/- Processes: a copy shares no memory with what was copied, given that the fixed examples come out right. -/
namespace Go.Proofs.YtipjjhkgcbabnaaDoor
open Go.RowKit Go.Deep Go.Shelf

theorem pfew_k {W : World} {v : Value} {p : Pr} {m : Nat} {b : Bool} (h : PLies W v p) (hm : m ≤ 1000000) (hb : p.few m = b) : Calls Tryd.prog 23 #[v, .int .i64 m] W fun e w' => e = .returned (.bool b) ∧ Below W.heap.size W w' := by
  rw [← hb]; exact prfew_any _ p m hm v W (plow W) h

theorem Twelve.oneK (w : World) (a0 a1 a2 a3 a4 a5 a6 a7 a8 a9 a10 a11 : Value) : Twelve (w.alloc (.cells #[a0, a1, a2, a3, a4, a5, a6, a7, a8, a9, a10, a11] 36)) w.heap.size a0 a1 a2 a3 a4 a5 a6 a7 a8 a9 a10 a11 := Twelve.new w _ _ _ _ _ _ _ _ _ _ _ _

set_option maxHeartbeats 4000000 in
set_option maxRecDepth 100000 in
theorem ProctreeKeeps_of (haw : ∀ (E : Nat) (w : World), Env E w → Calls Tryd.prog 22 #[] w fun e w' => e = .returned (.bool true) ∧ Below w.heap.size w w')
    (p : Pr) (v : Value) (hn : p.lens ≤ 400000000) (hpin : p.pin) (E : Nat) (w : World) (he : Env E w) (h : PLies w v p) : Calls Tryd.prog 8 #[v] w fun e w' => e = .returned (.bool true) ∧ Below w.heap.size w w' := by
  have h0 := h
  obtain ⟨lv, av, tl, tk, kv, rfl, _⟩ := h0
  obtain ⟨⟨la, ln, lc, rfl⟩, ⟨aa, an, ac, rfl⟩, ⟨ta, tn, tc, rfl⟩, ⟨ua, un, uc, rfl⟩, ⟨ka, kn, kc, rfl⟩⟩ := pr_slices h
  have hb0 := blkBelow w #[.int .i64 p.k, .string p.c, .string p.x, .slice la ln lc, .slice aa an ac, .int .i64 p.t.k, .int .i64 p.t.p, .string p.t.n, .int .i64 p.t.s, .slice ta tn tc, .slice ua un uc, .slice ka kn kc] 36
  have H6 := Lib.hid (Twelve.oneK w (.int .i64 p.k) (.string p.c) (.string p.x) (.slice la ln lc) (.slice aa an ac) (.int .i64 p.t.k) (.int .i64 p.t.p) (.string p.t.n) (.int .i64 p.t.s) (.slice ta tn tc) (.slice ua un uc) (.slice ka kn kc))
  have L0 := Lib.hid (h.to hb0)
  have HB0 := Lib.hid hb0
  have HE := Lib.hid (he.to hb0)
  have HAW := Lib.hid haw
  have HN := Lib.hid hn
  have HP := Lib.hid hpin
  clear h hb0 he hn haw hpin
  cases hfew : p.few 500 with
  | false =>
    have HF := Lib.hid hfew
    clear hfew
    go_enter Tryd.func8, Tryd.ntmps8
    go_wp2_with fail
    refine (HAW.out _ _ HE.out).mono ?_
    rintro e w1 ⟨rfl, hb1⟩
    obtain ⟨⟨c0, c1, c2, c3, c4, c5, c6, c7, c8, c9, c10, c11⟩, _⟩ := (H6.out.to hb1).cells
    go_wp2_with fail
    clear c0 c1 c2 c3 c4 c5 c6 c7 c8 c9 c10 c11
    refine (pfew_k (m := 500) (L0.out.to hb1) (by omega) HF.out).mono ?_
    rintro e w2 ⟨rfl, hb2⟩
    go_wp2_with fail
    refine (HAW.out _ _ (HE.out.to (below_seq hb1 hb2))).mono ?_
    rintro e w3 ⟨rfl, hb3⟩
    go_wp2_with fail
    go_ret
    exact ⟨rfl, below_seq HB0.out (below_seq hb1 (below_seq hb2 hb3))⟩
  | true =>
    have HF := Lib.hid hfew
    have hfs := Pr.few_facts hfew
    have HM : Hid p.mod := Lib.hid (Pr.mod_of p hfs.2.2 (by omega) HN.out)
    clear hfew hfs
    go_enter Tryd.func8, Tryd.ntmps8
    go_wp2_with fail
    refine (HAW.out _ _ HE.out).mono ?_
    rintro e w1 ⟨rfl, hb1⟩
    obtain ⟨⟨c0, c1, c2, c3, c4, c5, c6, c7, c8, c9, c10, c11⟩, _⟩ := (H6.out.to hb1).cells
    go_wp2_with fail
    clear c0 c1 c2 c3 c4 c5 c6 c7 c8 c9 c10 c11
    refine (pfew_k (m := 500) (L0.out.to hb1) (by omega) HF.out).mono ?_
    rintro e w2 ⟨rfl, hb2⟩
    have hb12 := below_seq hb1 hb2
    have T2 : Hid (Twelve w2 w.heap.size (.int .i64 p.k) (.string p.c) (.string p.x) (.slice la ln lc) (.slice aa an ac) (.int .i64 p.t.k) (.int .i64 p.t.p) (.string p.t.n) (.int .i64 p.t.s) (.slice ta tn tc) (.slice ua un uc) (.slice ka kn kc)) := Lib.hid (H6.out.to hb12)
    have L2 : Hid (PLies w2 (.agg #[.int .i64 p.k, .string p.c, .string p.x, .slice la ln lc, .slice aa an ac, .int .i64 p.t.k, .int .i64 p.t.p, .string p.t.n, .int .i64 p.t.s, .slice ta tn tc, .slice ua un uc, .slice ka kn kc]) p) := Lib.hid (L0.out.to hb12)
    have HB2 := Lib.hid (below_seq HB0.out hb12)
    have hs2 : w.heap.size < w2.heap.size := T2.out.lt
    clear hb1 hb2 hb12 L0 H6 HB0 HE HAW HF
    obtain ⟨⟨c0, c1, c2, c3, c4, c5, c6, c7, c8, c9, c10, c11⟩, _⟩ := T2.out.cells
    go_wp2_with fail
    clear c0 c1 c2 c3 c4 c5 c6 c7 c8 c9 c10 c11
    -- own := ref.Copy(p)
    refine (rcopy_any (fun k => k < w2.heap.size) p HM.out HP.out _ w2 (plow w2) L2.out).mono ?_
    rintro e w3 ⟨la1, ln1, lc1, aa1, an1, ac1, ta1, tn1, tc1, ua1, un1, uc1, ka1, kn1, kc1, rfl, hv3, hb3⟩
    have HV3 := Lib.hid hv3
    have HB3 := Lib.hid hb3
    have hs3 := hb3.size
    clear hv3 hb3
    have hb4 := blkBelow w3 #[.int .i64 p.k, .string p.c, .string p.x, .slice la1 ln1 lc1, .slice aa1 an1 ac1, .int .i64 p.t.k, .int .i64 p.t.p, .string p.t.n, .int .i64 p.t.s, .slice ta1 tn1 tc1, .slice ua1 un1 uc1, .slice ka1 kn1 kc1] 36
    have T3 := Lib.hid (Twelve.oneK w3 (.int .i64 p.k) (.string p.c) (.string p.x) (.slice la1 ln1 lc1) (.slice aa1 an1 ac1) (.int .i64 p.t.k) (.int .i64 p.t.p) (.string p.t.n) (.int .i64 p.t.s) (.slice ta1 tn1 tc1) (.slice ua1 un1 uc1) (.slice ka1 kn1 kc1))
    obtain ⟨w4, hw4⟩ : ∃ x, w3.alloc (.cells #[.int .i64 p.k, .string p.c, .string p.x, .slice la1 ln1 lc1, .slice aa1 an1 ac1, .int .i64 p.t.k, .int .i64 p.t.p, .string p.t.n, .int .i64 p.t.s, .slice ta1 tn1 tc1, .slice ua1 un1 uc1, .slice ka1 kn1 kc1] 36) = x := ⟨_, rfl⟩
    have hs4 : w4.heap.size = w3.heap.size + 1 := by rw [← hw4]; simp
    rw [hw4] at hb4 T3
    have HB4 := Lib.hid hb4
    have HW4 := Lib.hid hw4
    clear hb4 hw4
    unfold prAgg
    obtain ⟨⟨c0, c1, c2, c3, c4, c5, c6, c7, c8, c9, c10, c11⟩, _⟩ := T3.out.cells
    go_upto_region 4 with fail
    rw [HW4.out]
    clear HW4
    go_wp2_with fail
    clear c0 c1 c2 c3 c4 c5 c6 c7 c8 c9 c10 c11
    -- c := proctree.Copy(own)
    have HV4 : Hid (PrVal (Fresh w2.heap.size w3.heap.size) w4 (.agg #[.int .i64 p.k, .string p.c, .string p.x, .slice la1 ln1 lc1, .slice aa1 an1 ac1, .int .i64 p.t.k, .int .i64 p.t.p, .string p.t.n, .int .i64 p.t.s, .slice ta1 tn1 tc1, .slice ua1 un1 uc1, .slice ka1 kn1 kc1]) p) := Lib.hid (HV3.out.keep (HB4.out.keeps'.mono (fun k hk => hk.2)))
    refine (pcopyU_any (Fresh w2.heap.size w3.heap.size) p HM.out _ w4 (fun k hk => by have := hk.2; omega) HV4.out).mono ?_
    rintro e w5 ⟨la2, ln2, lc2, aa2, an2, ac2, ta2, tn2, tc2, ua2, un2, uc2, ka2, kn2, kc2, rfl, hv5, hb5⟩
    have HV5 := Lib.hid hv5
    have HB5 := Lib.hid hb5
    have hs5 := hb5.size
    clear hv5 hb5 HV3
    have hb6 := blkBelow w5 #[.int .i64 p.k, .string p.c, .string p.x, .slice la2 ln2 lc2, .slice aa2 an2 ac2, .int .i64 p.t.k, .int .i64 p.t.p, .string p.t.n, .int .i64 p.t.s, .slice ta2 tn2 tc2, .slice ua2 un2 uc2, .slice ka2 kn2 kc2] 36
    have T5 := Lib.hid (Twelve.oneK w5 (.int .i64 p.k) (.string p.c) (.string p.x) (.slice la2 ln2 lc2) (.slice aa2 an2 ac2) (.int .i64 p.t.k) (.int .i64 p.t.p) (.string p.t.n) (.int .i64 p.t.s) (.slice ta2 tn2 tc2) (.slice ua2 un2 uc2) (.slice ka2 kn2 kc2))
    obtain ⟨w6, hw6⟩ : ∃ x, w5.alloc (.cells #[.int .i64 p.k, .string p.c, .string p.x, .slice la2 ln2 lc2, .slice aa2 an2 ac2, .int .i64 p.t.k, .int .i64 p.t.p, .string p.t.n, .int .i64 p.t.s, .slice ta2 tn2 tc2, .slice ua2 un2 uc2, .slice ka2 kn2 kc2] 36) = x := ⟨_, rfl⟩
    have hs6 : w6.heap.size = w5.heap.size + 1 := by rw [← hw6]; simp
    rw [hw6] at hb6 T5
    have HB6 := Lib.hid hb6
    have HW6 := Lib.hid hw6
    clear hb6 hw6
    unfold prAgg
    obtain ⟨⟨c0, c1, c2, c3, c4, c5, c6, c7, c8, c9, c10, c11⟩, _⟩ := T5.out.cells
    go_upto_region 5 with fail
    rw [HW6.out]
    clear HW6
    have HB26 : Hid (Below w2.heap.size w2 w6) := Lib.hid (below_seq (below_seq (below_seq HB3.out HB4.out) HB5.out) HB6.out)
    have HB46 : Hid (Below w4.heap.size w4 w6) := Lib.hid (below_seq HB5.out HB6.out)
    have L6 : Hid (PLies w6 (.agg #[.int .i64 p.k, .string p.c, .string p.x, .slice la ln lc, .slice aa an ac, .int .i64 p.t.k, .int .i64 p.t.p, .string p.t.n, .int .i64 p.t.s, .slice ta tn tc, .slice ua un uc, .slice ka kn kc]) p) := Lib.hid (L2.out.to HB26.out)
    have hvc : PrVal (FrU w5 w4.heap.size w5.heap.size) w6 (.agg #[.int .i64 p.k, .string p.c, .string p.x, .slice la2 ln2 lc2, .slice aa2 an2 ac2, .int .i64 p.t.k, .int .i64 p.t.p, .string p.t.n, .int .i64 p.t.s, .slice ta2 tn2 tc2, .slice ua2 un2 uc2, .slice ka2 kn2 kc2]) p := HV5.out.keep (HB6.out.keeps'.mono (fun k hk => hk.1.2))
    have HVC := Lib.hid hvc
    have LC : Hid (PLies w6 (.agg #[.int .i64 p.k, .string p.c, .string p.x, .slice la2 ln2 lc2, .slice aa2 an2 ac2, .int .i64 p.t.k, .int .i64 p.t.p, .string p.t.n, .int .i64 p.t.s, .slice ta2 tn2 tc2, .slice ua2 un2 uc2, .slice ka2 kn2 kc2]) p) := Lib.hid (hvc.mono (fun k hk => by have := hk.1.2; show k < _; omega))
    clear hvc
    obtain ⟨⟨d0, d1, d2, d3, d4, d5, d6, d7, d8, d9, d10, d11⟩, _⟩ := (T2.out.to HB26.out).cells
    go_wp2_with fail
    clear c0 c1 c2 c3 c4 c5 c6 c7 c8 c9 c10 c11 d0 d1 d2 d3 d4 d5 d6 d7 d8 d9 d10 d11
    refine (rpsame_l LC.out L6.out (eqP_self p)).mono ?_
    rintro e w7 ⟨rfl, hb7⟩
    have HB7 := Lib.hid hb7
    have hs7 := hb7.size
    have HVC7 : Hid (PrVal (FrU w5 w4.heap.size w5.heap.size) w7 (.agg #[.int .i64 p.k, .string p.c, .string p.x, .slice la2 ln2 lc2, .slice aa2 an2 ac2, .int .i64 p.t.k, .int .i64 p.t.p, .string p.t.n, .int .i64 p.t.s, .slice ta2 tn2 tc2, .slice ua2 un2 uc2, .slice ka2 kn2 kc2]) p) := Lib.hid (HVC.out.keep (hb7.keeps'.mono (fun k hk => by have := hk.1.2; omega)))
    have hu7 : ∀ k, FrU w5 w4.heap.size w5.heap.size k → Uf w7 k := fun k hk => Uf.keep (F := fun k => k < w5.heap.size) ((below_seq HB6.out hb7).keeps') hk.1.2 hk.2
    have HU7 := Lib.hid hu7
    clear hb7 hu7 HVC LC L6
    obtain ⟨⟨c0, c1, c2, c3, c4, c5, c6, c7, c8, c9, c10, c11⟩, _⟩ := (T5.out.to HB7.out).cells
    go_wp2_with fail
    clear c0 c1 c2 c3 c4 c5 c6 c7 c8 c9 c10 c11
    -- spoil(c)
    refine (spoil_any (FrU w5 w4.heap.size w5.heap.size) p _ _ _ _ _ _ _ _ _ _ _ _ _ _ _ _ _ _ _ _ _ _ w7 (fun k hk => by have := hk.1.2; omega) HU7.out HVC7.out.sh).mono ?_
    rintro e w8 ⟨⟨_, rfl⟩, hk8⟩
    have HK8 := Lib.hid hk8
    have hs8 := hk8.size
    have hlo : ∀ k, k < w4.heap.size → w8.heap[k]? = w4.heap[k]? := fun k hk => (hk8.low k (by omega) (fun hf => by have := hf.1.1; omega)).trans (((below_seq HB46.out HB7.out)).block k hk)
    have HLO := Lib.hid hlo
    have T8 : Hid (Twelve w8 w3.heap.size (.int .i64 p.k) (.string p.c) (.string p.x) (.slice la1 ln1 lc1) (.slice aa1 an1 ac1) (.int .i64 p.t.k) (.int .i64 p.t.p) (.string p.t.n) (.int .i64 p.t.s) (.slice ta1 tn1 tc1) (.slice ua1 un1 uc1) (.slice ka1 kn1 kc1)) := Lib.hid ((hlo _ (by omega)).trans T3.out)
    have T9 : Hid (Twelve w8 w.heap.size (.int .i64 p.k) (.string p.c) (.string p.x) (.slice la ln lc) (.slice aa an ac) (.int .i64 p.t.k) (.int .i64 p.t.p) (.string p.t.n) (.int .i64 p.t.s) (.slice ta tn tc) (.slice ua un uc) (.slice ka kn kc)) := Lib.hid ((hlo _ (by omega)).trans (T2.out.to (below_seq HB3.out HB4.out)))
    have L8 : Hid (PLies w8 (.agg #[.int .i64 p.k, .string p.c, .string p.x, .slice la1 ln1 lc1, .slice aa1 an1 ac1, .int .i64 p.t.k, .int .i64 p.t.p, .string p.t.n, .int .i64 p.t.s, .slice ta1 tn1 tc1, .slice ua1 un1 uc1, .slice ka1 kn1 kc1]) p) := Lib.hid ((HV4.out.keep (fun k o hk ho _ => (hlo k (by have := hk.2; omega)).trans ho)).mono (fun k hk => by have := hk.2; show k < _; omega))
    have L9 : Hid (PLies w8 (.agg #[.int .i64 p.k, .string p.c, .string p.x, .slice la ln lc, .slice aa an ac, .int .i64 p.t.k, .int .i64 p.t.p, .string p.t.n, .int .i64 p.t.s, .slice ta tn tc, .slice ua un uc, .slice ka kn kc]) p) := Lib.hid ((PrVal.keep (w' := w8) (fun k o hk ho _ => (hlo k (by have : k < w2.heap.size := hk; omega)).trans (((below_seq HB3.out HB4.out).block k hk).trans ho)) L2.out).mono (fun k hk => by have : k < w2.heap.size := hk; show k < _; omega))
    clear hk8 hlo
    obtain ⟨⟨c0, c1, c2, c3, c4, c5, c6, c7, c8, c9, c10, c11⟩, _⟩ := T8.out.cells
    obtain ⟨⟨d0, d1, d2, d3, d4, d5, d6, d7, d8, d9, d10, d11⟩, _⟩ := T9.out.cells
    go_wp2_with fail
    clear c0 c1 c2 c3 c4 c5 c6 c7 c8 c9 c10 c11 d0 d1 d2 d3 d4 d5 d6 d7 d8 d9 d10 d11
    refine (rpsame_l L8.out L9.out (eqP_self p)).mono ?_
    rintro e w9 ⟨rfl, hb9⟩
    go_wp2_with fail
    go_ret
    have h27 : Below w.heap.size w w7 := below_seq HB2.out (below_seq HB26.out HB7.out)
    exact ⟨rfl, (h27.trans (HK8.out.below (by omega) (fun k hk => by have := hk.1.1; omega))).trans (hb9.mono (by omega))⟩

end Go.Proofs.YtipjjhkgcbabnaaDoor

/- Processes: the law about copies. -/
namespace Go.Proofs.YtipjjhkgcbabnaaDoor
open Go.RowKit Go.Deep Go.Shelf

theorem ProctreeKeeps_any (t0 : Pr) (hf : t0.fine ∧ t0.pin) (v0 : Value) (hn : t0.lens ≤ 400000000) (E : Nat) (w : World) (he : Env E w) (h0 : PLies w v0 t0) :
    Calls Tryd.prog 8 #[v0] w fun e w' => e = .returned (.bool true) ∧ Below w.heap.size w w' :=
  ProctreeKeeps_of pawake_any t0 v0 hn hf.2 E w he h0

end Go.Proofs.YtipjjhkgcbabnaaDoor
