/- Types: visit, by induction on the type. -/
import Derived.Test.YtjmnaibbljakaaaGreatDoorTyV
namespace Go.Proofs.YtjmnaibbljakaaaGreatDoor
open Go.RowKit Go.Deep Go.Shelf
attribute [local go_sem] Oper.semAt_some

theorem room_none {F : Fence} (hd : F.depth = none) (k : Nat) : F.room k := fun d h => by rw [hd] at h; cases h
theorem yield_any {F : Fence} (hd : F.depth = none) {m : Nat} (m' : Nat) {P : Program} {l : Nat} {args : Array Value} {W : World} {R : Ending → World → Prop} (h : YieldAt F m P l args W R) : YieldAt F m' P l args W R := by
  obtain ⟨fn, tmps, assign, body, hy, hR⟩ := h
  exact ⟨fn, tmps, assign, body, hy, ⟨hR.1, fun c cs _ => hR.2 c cs (room_none hd _)⟩⟩

/-- Cells lie as they lay, but for the block of one slice. -/
def CellsBut (ar : Value) (W W' : World) : Prop := ∀ (k : Nat) (o : Obj), W.heap[k]? = some o → o.isCells = true → ar.ownBlock ≠ some k → W'.heap[k]? = some o
theorem CellsBut.keeps {ar : Value} {W W' : World} {S : Nat → Prop} (h : CellsBut ar W W') (hS : ∀ k, S k → ar.ownBlock ≠ some k) : Keeps S W W' := fun k o hk ho hc => h k o ho hc (hS k hk)
theorem grown_cells {ar : Value} {W w1 : World} {n g' c' : Nat} {tmp : Obj} (hcase : (ar = .slice (some ⟨g', 0, none⟩) n c' ∧ (W.alloc tmp).grownBy w1 (some g')) ∨ ((W.alloc tmp).heap.size ≤ g' ∧ (W.alloc tmp).grownBy w1 none)) : W.heap.size ≤ w1.heap.size ∧ CellsBut ar W w1 := by
  rcases hcase with ⟨rfl, hg⟩ | ⟨_, hg⟩
  · exact ⟨by have := hg.size; simp at this; omega, fun k o hk hc ha => (hg.block k (by have := (Array.getElem?_eq_some_iff.1 hk).1; simp; omega) (fun e => ha (by simp only [Option.some.injEq] at e; simp [Value.ownBlock, e]))).trans (cellsKept_alloc W tmp k o hk hc)⟩
  · exact ⟨by have := hg.size; simp at this; omega, fun k o hk hc _ => (hg.block k (by have := (Array.getElem?_eq_some_iff.1 hk).1; simp; omega) (by simp)).trans (cellsKept_alloc W tmp k o hk hc)⟩
theorem own_ge {W : World} {base n k : Nat} {e : TypeId} {size : Nat} {v : Value} {xs : List Value} (h : W.ownsRow base e size v n xs) (hk : v.ownBlock = some k) : base ≤ k := by
  rcases h.2 with ⟨rfl, _⟩ | ⟨g, cap, cur, rfl, hb, _⟩
  · simp [Value.ownBlock] at hk
  · obtain rfl : g = k := by simpa [Value.ownBlock] using hk
    exact hb

end Go.Proofs.YtjmnaibbljakaaaGreatDoor
