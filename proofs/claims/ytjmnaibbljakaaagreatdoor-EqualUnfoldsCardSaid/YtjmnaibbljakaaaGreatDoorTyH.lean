/- Types: a list of types, mapped by a function value into new memory. -/
import Derived.Test.YtjmnaibbljakaaaGreatDoorTyG
namespace Go.Proofs.YtjmnaibbljakaaaGreatDoor
open Go.RowKit Go.Deep

/-- A type in new memory is returned. -/
def TyRet (w : World) (g : Ty) (e : Ending) (w' : World) : Prop :=
  ∃ la ln lc ka kn kc, e = .returned (.agg #[.int .i64 g.k, .int .i64 g.p, .string g.n, .int .i64 g.s, .slice la ln lc, .slice ka kn kc]) ∧
    TyVal (Fresh w.heap.size w'.heap.size) w' (.agg #[.int .i64 g.k, .int .i64 g.p, .string g.n, .int .i64 g.s, .slice la ln lc, .slice ka kn kc]) g ∧ Below w.heap.size w w'
/-- A list of types in new memory is returned. -/
def TysRet (w : World) (gs : List Ty) (e : Ending) (w' : World) : Prop :=
  ∃ ka kn kc, e = .returned (.slice ka kn kc) ∧ TySl (Fresh w.heap.size w'.heap.size) w' (.slice ka kn kc) gs ∧ Below w.heap.size w w'
/-- What the function value does to each type of a list. -/
def MapsTo (f : Nat) (caps : Array Value) (B : Nat → Prop) (w0 : World) (ts : List Ty) (g : Ty → Ty) : Prop :=
  ∀ t ∈ ts, ∀ (v : Value) (wr : World), Below w0.heap.size w0 wr → TyVal B wr v t → Calls Tryz.prog f (#[v] ++ caps) wr (TyRet wr (g t))

theorem tyInfo : (Tryz.prog.info? 25).map (fun i => (i.zero, i.size, i.bytes)) = some (some (.agg #[.int .i64 0, .int .i64 0, .string ⟨#[]⟩, .int .i64 0, .slice none 0 0, .slice none 0 0]), 6, 88) := by kernel_rfl

/-- What lies in the block that is being filled: k types stand. -/
structure Filled (g n : Nat) (gs : List Ty) (k : Nat) (w : World) : Prop where
  block : ∃ cs, w.heap[g]? = some (.cells cs 25 (0, 0)) ∧ cs.size = n * 6
  done : ∀ i t, i < k → gs[i]? = some t → ∃ v5 v6, w.cell? ⟨g, i * 6, none⟩ = some (.int .i64 t.k) ∧ w.cell? ⟨g, i * 6 + 1, none⟩ = some (.int .i64 t.p) ∧ w.cell? ⟨g, i * 6 + 2, none⟩ = some (.string t.n) ∧ w.cell? ⟨g, i * 6 + 3, none⟩ = some (.int .i64 t.s) ∧
    w.cell? ⟨g, i * 6 + 4, none⟩ = some v5 ∧ w.cell? ⟨g, i * 6 + 5, none⟩ = some v6 ∧ TyVal (Fresh (g + 1) w.heap.size) w (.agg #[.int .i64 t.k, .int .i64 t.p, .string t.n, .int .i64 t.s, v5, v6]) t

theorem Filled.to {g n k : Nat} {gs : List Ty} {w w' : World} (h : Filled g n gs k w) (hb : Below w.heap.size w w') : Filled g n gs k w' := by
  obtain ⟨cs, hcs, hz⟩ := h.block
  have hg := (Array.getElem?_eq_some_iff.1 hcs).1
  refine ⟨⟨cs, (hb.block g hg).trans hcs, hz⟩, fun i t hi ht => ?_⟩
  obtain ⟨v5, v6, c0, c1, c2, c3, c4, c5, hv⟩ := h.done i t hi ht
  refine ⟨v5, v6, (hb.cell (p := ⟨g, _, none⟩) hg).trans c0, (hb.cell (p := ⟨g, _, none⟩) hg).trans c1, (hb.cell (p := ⟨g, _, none⟩) hg).trans c2, (hb.cell (p := ⟨g, _, none⟩) hg).trans c3, (hb.cell (p := ⟨g, _, none⟩) hg).trans c4, (hb.cell (p := ⟨g, _, none⟩) hg).trans c5, ?_⟩
  exact (hv.to (fun k hk => hk.2) hb).mono (Fresh.mono (Nat.le_refl _) hb.size)
theorem cell_in {w : World} {g : Nat} {cs : Array Value} {t : TypeId} {fr : Nat × Nat} (h : w.heap[g]? = some (.cells cs t fr)) {j : Nat} (hj : j < cs.size) : ∃ x, w.cell? ⟨g, j, none⟩ = some x := ⟨cs[j], by simp [World.cell?, h, hj]⟩
theorem frozen_of_block {w : World} {g : Nat} {cs : Array Value} {t : TypeId} (h : w.heap[g]? = some (.cells cs t (0, 0))) (j : Nat) : w.frozen? ⟨g, j, none⟩ = false := by simp [World.frozen?, h]

theorem heap_setCells_other {g k : Nat} (h : k ≠ g) : ∀ (vs : List Value) (o : Nat) (w : World), (w.setCells g o vs).heap[k]? = w.heap[k]?
  | [], _, _ => rfl
  | v :: r, o, w => by
    show ((w.setCell ⟨g, o, none⟩ v).setCells g (o + 1) r).heap[k]? = _
    rw [heap_setCells_other h r (o + 1)]
    exact Below.heap_setCell _ _ _ k h
theorem heap_setCells_same {g : Nat} : ∀ (vs : List Value) (o : Nat) (w : World) (cs : Array Value) (t : TypeId), w.heap[g]? = some (.cells cs t (0, 0)) → ∃ cs', (w.setCells g o vs).heap[g]? = some (.cells cs' t (0, 0)) ∧ cs'.size = cs.size
  | [], _, _, cs, t, h => ⟨cs, h, rfl⟩
  | v :: r, o, w, cs, t, h => by
    have h1 : (w.setCell ⟨g, o, none⟩ v).heap[g]? = some (.cells (cs.setIfInBounds o v) t (0, 0)) := by
      obtain ⟨hlt, hk⟩ := Array.getElem?_eq_some_iff.1 h
      show (w.heap.modify g _)[g]? = _
      rw [Array.getElem?_eq_getElem (by rw [Array.size_modify]; exact hlt), Array.getElem_modify_self, hk]
      rfl
    obtain ⟨cs', h2, h3⟩ := heap_setCells_same r (o + 1) _ _ t h1
    exact ⟨cs', h2, by rw [h3]; simp⟩
theorem setCells6 (w : World) (g o : Nat) (a b c d e f : Value) : w.setCells g o [a, b, c, d, e, f] = (((((w.setCell ⟨g, o, none⟩ a).setCell ⟨g, o + 1, none⟩ b).setCell ⟨g, o + 2, none⟩ c).setCell ⟨g, o + 3, none⟩ d).setCell ⟨g, o + 4, none⟩ e).setCell ⟨g, o + 5, none⟩ f := rfl
theorem below_setCells {B : Nat} (g : Nat) (hg : B ≤ g) : ∀ (vs : List Value) (o : Nat) (w : World), Below B w (w.setCells g o vs)
  | [], _, _ => Below.refl _ _
  | v :: r, o, w => ((Below.refl B w).setCell (p := ⟨g, o, none⟩) hg v).trans (below_setCells g hg r (o + 1) _)
theorem size_setCells (g : Nat) : ∀ (vs : List Value) (o : Nat) (w : World), (w.setCells g o vs).heap.size = w.heap.size
  | [], _, _ => rfl
  | v :: r, o, w => by
    show ((w.setCell ⟨g, o, none⟩ v).setCells g (o + 1) r).heap.size = _
    rw [size_setCells g r (o + 1)]; simp
theorem tyAt_of {B : Nat → Prop} {w : World} {t : Ty} {b o : Nat} {v5 v6 : Value} (hb : B b) (c0 : w.cell? ⟨b, o, none⟩ = some (.int .i64 t.k)) (c1 : w.cell? ⟨b, o + 1, none⟩ = some (.int .i64 t.p)) (c2 : w.cell? ⟨b, o + 2, none⟩ = some (.string t.n)) (c3 : w.cell? ⟨b, o + 3, none⟩ = some (.int .i64 t.s))
    (c4 : w.cell? ⟨b, o + 4, none⟩ = some v5) (c5 : w.cell? ⟨b, o + 5, none⟩ = some v6) (h : TyVal B w (.agg #[.int .i64 t.k, .int .i64 t.p, .string t.n, .int .i64 t.s, v5, v6]) t) : TyAt B w t b o := by
  obtain ⟨lv, kv, e, hn, hl, hk⟩ := h
  simp only [Value.agg.injEq, Array.mk.injEq, List.cons.injEq, and_true, true_and] at e
  obtain ⟨rfl, rfl⟩ := e
  exact TyAt.eq.2 ⟨hb, hn, ⟨c0, c1, c2, c3⟩, _, _, c4, c5, hl, hk⟩
theorem tysAt_of {B : Nat → Prop} {w : World} : ∀ {ts : List Ty} {b o : Nat}, (∀ i t, ts[i]? = some t → TyAt B w t b (o + i * 6)) → TysAt B w ts b o
  | [], _, _, _ => by simp [TysAt]
  | t :: r, b, o, h => by
    simp only [TysAt]
    refine ⟨by simpa using h 0 t rfl, tysAt_of (fun i u hi => ?_)⟩
    have := h (i + 1) u (by simpa using hi)
    rw [show o + 6 + i * 6 = o + (i + 1) * 6 by omega]; exact this
theorem Filled.store {g n k : Nat} {gs : List Ty} {w : World} (h : Filled g n gs k w) (hk : k < n) {t : Ty} (ht : gs[k]? = some t) {v5 v6 : Value} (hv : TyVal (Fresh (g + 1) w.heap.size) w (.agg #[.int .i64 t.k, .int .i64 t.p, .string t.n, .int .i64 t.s, v5, v6]) t) :
    Filled g n gs (k + 1) (w.setCells g (k * 6) [.int .i64 t.k, .int .i64 t.p, .string t.n, .int .i64 t.s, v5, v6]) := by
  obtain ⟨cs, hcs, hz⟩ := h.block
  obtain ⟨cs', h1, h2⟩ := heap_setCells_same [.int .i64 t.k, .int .i64 t.p, .string t.n, .int .i64 t.s, v5, v6] (k * 6) w cs _ hcs
  have hkeep : Keeps (Fresh (g + 1) w.heap.size) w (w.setCells g (k * 6) [.int .i64 t.k, .int .i64 t.p, .string t.n, .int .i64 t.s, v5, v6]) := fun j o hj ho _ => (heap_setCells_other (by have := hj.1; omega) _ _ _).trans ho
  have hsz := size_setCells g [.int .i64 t.k, .int .i64 t.p, .string t.n, .int .i64 t.s, v5, v6] (k * 6) w
  refine ⟨⟨cs', h1, by omega⟩, fun i u hi hu => ?_⟩
  by_cases e : i = k
  · subst e
    rw [ht] at hu; cases hu
    have hin := World.cell?_setCells_in g [.int .i64 t.k, .int .i64 t.p, .string t.n, .int .i64 t.s, v5, v6] (i * 6) w (fun j hj => by
      obtain ⟨x, hx⟩ := cell_in hcs (j := i * 6 + j) (by simp at hj; omega)
      rw [hx]; rfl)
    exact ⟨v5, v6, hin 0 (by simp), hin 1 (by simp), hin 2 (by simp), hin 3 (by simp), hin 4 (by simp), hin 5 (by simp), by rw [hsz]; exact hv.keep hkeep⟩
  · obtain ⟨u5, u6, c0, c1, c2, c3, c4, c5, hu'⟩ := h.done i u (by omega) hu
    have hout : ∀ j, j < 6 → (w.setCells g (k * 6) [.int .i64 t.k, .int .i64 t.p, .string t.n, .int .i64 t.s, v5, v6]).cell? ⟨g, i * 6 + j, none⟩ = w.cell? ⟨g, i * 6 + j, none⟩ := fun j hj =>
      World.cell?_setCells_out g _ _ _ _ (fun _ _ => .inl (by simp; omega))
    exact ⟨u5, u6, (hout 0 (by omega)).trans c0, (hout 1 (by omega)).trans c1, (hout 2 (by omega)).trans c2, (hout 3 (by omega)).trans c3, (hout 4 (by omega)).trans c4, (hout 5 (by omega)).trans c5, by rw [hsz]; exact hu'.keep hkeep⟩

end Go.Proofs.YtjmnaibbljakaaaGreatDoor
