/- Types: rebuild, Copy, Raise. -/
import Derived.Test.YtjmnaibbljakaaaGreatDoorTyH
namespace Go.Proofs.YtjmnaibbljakaaaGreatDoor
open Go.RowKit Go.Deep

theorem MapsTo.later {f : Nat} {caps : Array Value} {B : Nat → Prop} {w0 w1 : World} {ts : List Ty} {g : Ty → Ty} (h : MapsTo f caps B w0 ts g) (hb : Below w0.heap.size w0 w1) : MapsTo f caps B w1 ts g :=
  fun t ht v wr hw hv => h t ht v wr (below_seq hb hw) hv

/-- A block of six cells, whole. -/
def Six (w : World) (b : Nat) (a0 a1 a2 a3 a4 a5 : Value) : Prop := w.heap[b]? = some (.cells #[a0, a1, a2, a3, a4, a5] 25 (0, 0))
theorem Six.cells {w : World} {b : Nat} {a0 a1 a2 a3 a4 a5 : Value} (h : Six w b a0 a1 a2 a3 a4 a5) :
    (w.cell? ⟨b, 0, none⟩ = some a0 ∧ w.cell? ⟨b, 1, none⟩ = some a1 ∧ w.cell? ⟨b, 2, none⟩ = some a2 ∧ w.cell? ⟨b, 3, none⟩ = some a3 ∧ w.cell? ⟨b, 4, none⟩ = some a4 ∧ w.cell? ⟨b, 5, none⟩ = some a5) ∧ ∀ j, w.frozen? ⟨b, j, none⟩ = false := by
  unfold Six at h
  refine ⟨⟨?_, ?_, ?_, ?_, ?_, ?_⟩, fun j => frozen_of_block h j⟩ <;> simp [World.cell?, h]
theorem Six.new (w : World) (a0 a1 a2 a3 a4 a5 : Value) : Six (w.alloc (.cells #[a0, a1, a2, a3, a4, a5] 25)) w.heap.size a0 a1 a2 a3 a4 a5 := World.alloc_heap_new w _
theorem Six.below {w w' : World} {b n : Nat} {a0 a1 a2 a3 a4 a5 : Value} (h : Six w b a0 a1 a2 a3 a4 a5) (hb : Below n w w') (hn : b < n) : Six w' b a0 a1 a2 a3 a4 a5 := (hb.block b hn).trans h
theorem Six.lt {w : World} {b : Nat} {a0 a1 a2 a3 a4 a5 : Value} (h : Six w b a0 a1 a2 a3 a4 a5) : b < w.heap.size := (Array.getElem?_eq_some_iff.1 h).1
theorem Six.to {w w' : World} {b : Nat} {a0 a1 a2 a3 a4 a5 : Value} (h : Six w b a0 a1 a2 a3 a4 a5) (hb : Below w.heap.size w w') : Six w' b a0 a1 a2 a3 a4 a5 := h.below hb h.lt
theorem set_block {W : World} {b : Nat} {cs : Array Value} {t : TypeId} {fr : Nat × Nat} (h : W.heap[b]? = some (.cells cs t fr)) (o : Nat) (v : Value) : (W.setCell ⟨b, o, none⟩ v).heap[b]? = some (.cells (cs.setIfInBounds o v) t fr) := by
  obtain ⟨hlt, hk⟩ := Array.getElem?_eq_some_iff.1 h
  show (W.heap.modify b _)[b]? = _
  rw [Array.getElem?_eq_getElem (by rw [Array.size_modify]; exact hlt), Array.getElem_modify_self, hk]
  rfl
theorem Six.set4 {w : World} {b : Nat} {a0 a1 a2 a3 a4 a5 : Value} (h : Six w b a0 a1 a2 a3 a4 a5) (v : Value) : Six (w.setCell ⟨b, 4, none⟩ v) b a0 a1 a2 a3 v a5 := set_block h 4 v
theorem Six.set5 {w : World} {b : Nat} {a0 a1 a2 a3 a4 a5 : Value} (h : Six w b a0 a1 a2 a3 a4 a5) (v : Value) : Six (w.setCell ⟨b, 5, none⟩ v) b a0 a1 a2 a3 a4 v := set_block h 5 v
theorem Six.other {w : World} {b c o : Nat} {a0 a1 a2 a3 a4 a5 : Value} (h : Six w b a0 a1 a2 a3 a4 a5) (hne : b ≠ c) (v : Value) : Six (w.setCell ⟨c, o, none⟩ v) b a0 a1 a2 a3 a4 a5 := (Below.heap_setCell _ _ _ b hne).trans h
/-- Both boxes of a call. -/
theorem Six.two (w : World) (a0 a1 a2 a3 a4 a5 b0 b1 b2 b3 b4 b5 : Value) : Six ((w.alloc (.cells #[a0, a1, a2, a3, a4, a5] 25)).alloc (.cells #[b0, b1, b2, b3, b4, b5] 25)) w.heap.size a0 a1 a2 a3 a4 a5 ∧
    Six ((w.alloc (.cells #[a0, a1, a2, a3, a4, a5] 25)).alloc (.cells #[b0, b1, b2, b3, b4, b5] 25)) (w.heap.size + 1) b0 b1 b2 b3 b4 b5 := by
  refine ⟨(Six.new w a0 a1 a2 a3 a4 a5).to (blkBelow _ _ _), ?_⟩
  have := Six.new (w.alloc (.cells #[a0, a1, a2, a3, a4, a5] 25)) b0 b1 b2 b3 b4 b5
  rwa [World.size_alloc] at this

theorem Six.fill {w : World} {b : Nat} {a0 a1 a2 a3 a4 a5 : Value} (h : Six w b a0 a1 a2 a3 a4 a5) (v0 v1 v2 v3 v4 v5 : Value) :
    Six ((((((w.setCell ⟨b, 0, none⟩ v0).setCell ⟨b, 1, none⟩ v1).setCell ⟨b, 2, none⟩ v2).setCell ⟨b, 3, none⟩ v3).setCell ⟨b, 4, none⟩ v4).setCell ⟨b, 5, none⟩ v5) b v0 v1 v2 v3 v4 v5 :=
  set_block (set_block (set_block (set_block (set_block (set_block h 0 v0) 1 v1) 2 v2) 3 v3) 4 v4) 5 v5
/-- Between lo and the end of w, everything lies as it lay. -/
structure Above (lo : Nat) (w w' : World) : Prop where
  size : w.heap.size ≤ w'.heap.size
  same : ∀ k, lo ≤ k → k < w.heap.size → w'.heap[k]? = w.heap[k]?
theorem Above.refl (lo : Nat) (w : World) : Above lo w w := ⟨Nat.le_refl _, fun _ _ _ => rfl⟩
theorem Above.trans {lo : Nat} {a b c : World} (h : Above lo a b) (g : Above lo b c) : Above lo a c :=
  ⟨Nat.le_trans h.size g.size, fun k hl hk => (g.same k hl (Nat.lt_of_lt_of_le hk h.size)).trans (h.same k hl hk)⟩
theorem Above.of_below {lo : Nat} {a b : World} (h : Below a.heap.size a b) : Above lo a b := ⟨h.size, fun k _ hk => h.block k hk⟩
theorem Above.set {lo : Nat} {a b : World} (h : Above lo a b) {c o : Nat} (hc : c < lo) (v : Value) : Above lo a (b.setCell ⟨c, o, none⟩ v) :=
  ⟨by simpa using h.size, fun k hl hk => (Below.heap_setCell _ _ _ k (by simp; omega)).trans (h.same k hl hk)⟩
theorem Above.keeps {lo : Nat} {a b : World} (h : Above lo a b) : Keeps (Fresh lo a.heap.size) a b := fun k _ hk ho _ => (h.same k hk.1 hk.2).trans ho
theorem Above.fill {lo : Nat} {a b : World} (h : Above lo a b) {c : Nat} (hc : c < lo) (v0 v1 v2 v3 v4 v5 : Value) :
    Above lo a ((((((b.setCell ⟨c, 0, none⟩ v0).setCell ⟨c, 1, none⟩ v1).setCell ⟨c, 2, none⟩ v2).setCell ⟨c, 3, none⟩ v3).setCell ⟨c, 4, none⟩ v4).setCell ⟨c, 5, none⟩ v5) :=
  (((((h.set hc v0).set hc v1).set hc v2).set hc v3).set hc v4).set hc v5
theorem below_fill {B : Nat} {a b : World} (h : Below B a b) {c : Nat} (hc : B ≤ c) (v0 v1 v2 v3 v4 v5 : Value) :
    Below B a ((((((b.setCell ⟨c, 0, none⟩ v0).setCell ⟨c, 1, none⟩ v1).setCell ⟨c, 2, none⟩ v2).setCell ⟨c, 3, none⟩ v3).setCell ⟨c, 4, none⟩ v4).setCell ⟨c, 5, none⟩ v5) :=
  (((((h.setCell (p := ⟨c, 0, none⟩) hc v0).setCell (p := ⟨c, 1, none⟩) hc v1).setCell (p := ⟨c, 2, none⟩) hc v2).setCell (p := ⟨c, 3, none⟩) hc v3).setCell (p := ⟨c, 4, none⟩) hc v4).setCell (p := ⟨c, 5, none⟩) hc v5

end Go.Proofs.YtjmnaibbljakaaaGreatDoor
