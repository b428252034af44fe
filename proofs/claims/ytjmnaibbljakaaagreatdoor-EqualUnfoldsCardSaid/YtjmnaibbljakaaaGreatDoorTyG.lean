/- Types: lists mapped into new memory. -/
import Derived.Test.YtjmnaibbljakaaaGreatDoorTyF
import Derived.Laws.OwnMore
import Derived.Deep.OwnRows
import Derived.Maps.AppendAt
import Derived.Lib.SliceRun
namespace Go.Proofs.YtjmnaibbljakaaaGreatDoor
open Go.RowKit Go.Deep

/-- Blocks that are new between two sizes of the heap. -/
def Fresh (a b : Nat) : Nat → Prop := fun k => a ≤ k ∧ k < b
theorem Fresh.low {a : Nat} {w : World} : Low (Fresh a w.heap.size) w := fun _ h => h.2
theorem Fresh.mono {a b c d : Nat} (h1 : c ≤ a) (h2 : b ≤ d) : ∀ k, Fresh a b k → Fresh c d k := fun _ h => ⟨Nat.le_trans h1 h.1, Nat.lt_of_lt_of_le h.2 h2⟩

def sRow (ls : List ByteArray) (k : Nat) : List Value := (ls.take k).map Value.string ++ List.replicate (ls.length - k) (.string ⟨#[]⟩)
theorem strInfo : (Tryz.prog.info? 9).map (fun i => (i.zero, i.size, i.bytes)) = some (some (.string ⟨#[]⟩), 1, 16) := by kernel_rfl
theorem sRow_len (ls : List ByteArray) (k : Nat) (h : k ≤ ls.length) : (sRow ls k).length = ls.length := by simp [sRow]; omega
theorem sRow_at (ls : List ByteArray) (k : Nat) (h : k < ls.length) : (sRow ls k)[k]? = some (.string ⟨#[]⟩) := by
  unfold sRow
  have e : ((ls.take k).map Value.string).length = k := by rw [List.length_map, List.length_take]; omega
  rw [List.getElem?_append_right (by omega), e, Nat.sub_self, List.getElem?_replicate, if_pos (by omega)]
theorem sRow_set (ls : List ByteArray) (k : Nat) (x : ByteArray) (h : ls[k]? = some x) : (sRow ls k).set k (.string x) = sRow ls (k + 1) := by
  have hk : k < ls.length := (List.getElem?_eq_some_iff.1 h).1
  unfold sRow
  have el : ((ls.take k).map Value.string).length = k := by rw [List.length_map, List.length_take]; omega
  have e : ls.length - k = (ls.length - (k + 1)) + 1 := by omega
  rw [List.set_append_right _ _ (by omega), el, Nat.sub_self, e, List.replicate_succ, List.set_cons_zero, List.take_add_one, h]
  simp
theorem sRow_all (ls : List ByteArray) : sRow ls ls.length = ls.map Value.string := by simp [sRow]

theorem eqS (a : Option Addr) (l c : Nat) (w : World) : (binOp .eql 22 (.slice a l c) (.slice none 0 0)).run Tryz.prog w = .ok (.bool a.isNone) w := Lib.run_eql_slice_nil w 22 9 a l c 0 0 Tryz.underlying22
theorem eqK (a : Option Addr) (l c : Nat) (w : World) : (binOp .eql 23 (.slice a l c) (.slice none 0 0)).run Tryz.prog w = .ok (.bool a.isNone) w := Lib.run_eql_slice_nil w 23 25 a l c 0 0 Tryz.underlying23

/-- What a copied list of texts is. -/
def StrRet (w : World) (ls : List ByteArray) (e : Ending) (w' : World) : Prop :=
  ∃ la ln lc, e = .returned (.slice la ln lc) ∧ StrSl (Fresh w.heap.size w'.heap.size) w' (.slice la ln lc) ls ∧ Below w.heap.size w w'

end Go.Proofs.YtjmnaibbljakaaaGreatDoor
