/- Types: sameness, by the reference: where the fields are the same. -/
import Derived.Test.YticdkbcfahjpnaaTyC
import Derived.StillTailTactics
namespace Go.Proofs.Yticdkbcfahjpnaa
open Go.RowKit

theorem lists_eq {α : Type} {l l' : List α} {n : Nat} (h : n = l.length) (h' : n = l'.length) (ht : l.take n = l'.take n) : l = l' := by
  rw [List.take_of_length_le (by omega), List.take_of_length_le (by omega)] at ht; exact ht

theorem box2_fst {w wr : World} {cs cs' : Array Value} {t t' : TypeId} (hb : Below (w.heap.size + 2) ((w.alloc (.cells cs t)).alloc (.cells cs' t')) wr) (j : Nat) {v : Value} (h : cs[j]? = some v) : wr.cell? ⟨w.heap.size, j, none⟩ = some v := by
  refine (hb.cell (p := ⟨w.heap.size, j, none⟩) (by simp)).trans ?_
  rw [(Below.refl _ _ |>.alloc (Nat.le_refl _) (.cells cs' t') : Below (w.alloc (.cells cs t)).heap.size (w.alloc (.cells cs t)) _).cell (by simp)]
  simp [h]
theorem box2_snd {w wr : World} {cs cs' : Array Value} {t t' : TypeId} (hb : Below (w.heap.size + 2) ((w.alloc (.cells cs t)).alloc (.cells cs' t')) wr) (j : Nat) {v : Value} (h : cs'[j]? = some v) : wr.cell? ⟨w.heap.size + 1, j, none⟩ = some v := by
  refine (hb.cell (p := ⟨w.heap.size + 1, j, none⟩) (by simp)).trans ?_
  have := blk_cell (w := w.alloc (.cells cs t)) (cs := cs') (t := t') (Below.refl _ _) j h
  simpa using this
theorem box2_low {w wr : World} {o o' : Obj} (hb : Below (w.heap.size + 2) ((w.alloc o).alloc o') wr) : Below w.heap.size w wr := (box2_below w o o').trans (hb.mono (by omega))

end Go.Proofs.Yticdkbcfahjpnaa
