/- Package lex, as package typetree uses it: letters, digits, words. -/
import Derived.Test.YtjmnaibbljakaaaGreatDoorTyZa
import Derived.Test.YtjmnaibbljakaaaGreatDoorLexM
import Derived.Lib.Strings
import Derived.Lib.IndexBytes
namespace Go.Proofs.YtjmnaibbljakaaaGreatDoor
open Go.RowKit

theorem toList_ne (s : ByteArray) (h : 0 < s.size) : ¬ s.toList = [] := by
  rw [Lib.toList_data]; intro e
  have h2 : s.data.toList.length = 0 := by rw [e]; rfl
  have h3 : s.data.toList.length = s.size := rfl
  omega
theorem toList_nil (s : ByteArray) (h : s.size = 0) : s.toList = [] := by
  rw [Lib.toList_data]; apply List.eq_nil_of_length_eq_zero; exact h
theorem list_cons (l : List UInt8) (h : 0 < l.length) : l = l[0] :: l.tail := by
  cases l with
  | nil => simp at h
  | cons c r => simp
theorem data_cons (s : ByteArray) (h : 0 < s.size) : s.data.toList = s[0] :: s.data.toList.tail := list_cons s.data.toList h

theorem byte_bd (c : UInt8) : 0 ≤ (c.toNat : Int) ∧ (c.toNat : Int) < 256 := ⟨by omega, by have := c.toNat_lt; omega⟩
def AllWc (s : ByteArray) (k : Nat) : Prop := ∀ j (h : j < s.size), 1 ≤ j → j < k → Lx.wcU s[j] = true

end Go.Proofs.YtjmnaibbljakaaaGreatDoor
