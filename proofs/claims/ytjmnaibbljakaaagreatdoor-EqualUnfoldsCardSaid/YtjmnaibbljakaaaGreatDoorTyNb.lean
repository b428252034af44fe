/- Package lex, as package typetree uses it: Keyword, Name. -/
import Derived.Test.YtjmnaibbljakaaaGreatDoorTyNa
import Derived.Laws.Rows
namespace Go.Proofs.YtjmnaibbljakaaaGreatDoor
open Go.RowKit Go.Shelf

theorem bcellK {W w1 : World} (hb : Below W.heap.size W w1) : (∀ b o, b < W.heap.size → w1.cell? ⟨b, o, none⟩ = W.cell? ⟨b, o, none⟩) := fun b o h => hb.cell (p := ⟨b, o, none⟩) h
def kwAt : Nat → ByteArray
  | 0 => ⟨#[100, 101, 102]⟩
  | 1 => ⟨#[109, 97, 105, 110]⟩
  | 2 => ⟨#[115, 116, 111, 112]⟩
  | 3 => ⟨#[110, 101, 119]⟩
  | 4 => ⟨#[105, 110, 116]⟩
  | 5 => ⟨#[98, 111, 111, 108]⟩
  | 6 => ⟨#[101, 110, 100]⟩
  | 7 => ⟨#[114, 101, 99]⟩
  | 8 => ⟨#[116, 114, 117, 101]⟩
  | _ => ⟨#[102, 97, 108, 115, 101]⟩
def kwCells : Array Value := #[.string (kwAt 0), .string (kwAt 1), .string (kwAt 2), .string (kwAt 3), .string (kwAt 4), .string (kwAt 5), .string (kwAt 6), .string (kwAt 7), .string (kwAt 8), .string (kwAt 9)]
/-- Among the first k keywords. -/
def kwB : Nat → ByteArray → Bool
  | 0, _ => false
  | k + 1, s => kwB k s || (kwAt k).toList == s.toList
theorem kwB_hit (s : ByteArray) (k : Nat) (h : ((kwAt k).toList == s.toList) = true) : ∀ m, k < m → kwB m s = true
  | 0, hm => by omega
  | m + 1, hm => by
    rw [kwB, Bool.or_eq_true]
    by_cases e : k = m
    · subst e; exact .inr h
    · exact .inl (kwB_hit s k h m (by omega))

/-- A single word and no keyword. -/
def nameB (s : ByteArray) : Bool := !s.toList.isEmpty && decide (Lx.wordLen s.data.toList = s.size) && !kwB 10 s

end Go.Proofs.YtjmnaibbljakaaaGreatDoor
