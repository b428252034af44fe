/- The reference of layer 1, as layer 2 uses it: words, keywords, names. -/
import Derived.Test.YtmedijheidbmhaaDoorTyNb
namespace Go.Proofs.YtmedijheidbmhaaDoor
open Go.RowKit Go.Shelf

def inB (c : UInt8) (s : ByteArray) : Bool := s.data.toList.contains c
def NotIn (c : UInt8) (s : ByteArray) (k : Nat) : Prop := ∀ j (h : j < s.size), j < k → s[j] ≠ c

theorem all_bytes {p q : UInt8 → Bool} (h : ∀ n : Fin 256, p (UInt8.ofNat n.val) = q (UInt8.ofNat n.val)) (c : UInt8) : p c = q c := by
  have := h ⟨c.toNat, c.toNat_lt⟩
  simpa using this
theorem inB_letters (c : UInt8) : inB c ⟨#[65, 66, 67, 68, 69, 70, 71, 72, 73, 74, 75, 76, 77, 78, 79, 80, 81, 82, 83, 84, 85, 86, 87, 88, 89, 90, 97, 98, 99, 100, 101, 102, 103, 104, 105, 106, 107, 108, 109, 110, 111, 112, 113, 114, 115, 116, 117, 118, 119, 120, 121, 122, 95]⟩ = Lx.letB (c.toNat : Int) := all_bytes (p := fun c => inB c ⟨#[65, 66, 67, 68, 69, 70, 71, 72, 73, 74, 75, 76, 77, 78, 79, 80, 81, 82, 83, 84, 85, 86, 87, 88, 89, 90, 97, 98, 99, 100, 101, 102, 103, 104, 105, 106, 107, 108, 109, 110, 111, 112, 113, 114, 115, 116, 117, 118, 119, 120, 121, 122, 95]⟩) (q := fun c => Lx.letB (c.toNat : Int)) (by decide +kernel) c
theorem inB_digits (c : UInt8) : inB c ⟨#[48, 49, 50, 51, 52, 53, 54, 55, 56, 57]⟩ = Lx.digB (c.toNat : Int) := all_bytes (p := fun c => inB c ⟨#[48, 49, 50, 51, 52, 53, 54, 55, 56, 57]⟩) (q := fun c => Lx.digB (c.toNat : Int)) (by decide +kernel) c

/-- A word, all of it. -/
def rWord : List UInt8 → Bool
  | [] => false
  | c :: r => Lx.letU c && r.all Lx.wcU

def AllWcFrom (s : ByteArray) (k : Nat) : Prop := ∀ j (h : j < s.size), 1 ≤ j → j < k → Lx.wcU s[j] = true

theorem kw_cells (w : World) : ∀ (k : Nat), k < 10 → (w.alloc (.cells kwCells 9)).cell? ⟨w.heap.size, k, none⟩ = some (.string (kwAt k))
  | 0, _ => by simp [kwCells]
  | 1, _ => by simp [kwCells]
  | 2, _ => by simp [kwCells]
  | 3, _ => by simp [kwCells]
  | 4, _ => by simp [kwCells]
  | 5, _ => by simp [kwCells]
  | 6, _ => by simp [kwCells]
  | 7, _ => by simp [kwCells]
  | 8, _ => by simp [kwCells]
  | 9, _ => by simp [kwCells]
  | k + 10, h => by omega

theorem all_take (p : UInt8 → Bool) : ∀ (l : List UInt8) (k : Nat), k ≤ l.length → (l.take k).all p = decide (k ≤ Lx.span p l)
  | _, 0, _ => by simp
  | [], k + 1, h => by simp at h
  | c :: r, k + 1, h => by
    rw [List.take_succ_cons, List.all_cons, Lx.span_cons]
    by_cases hc : p c = true
    · rw [hc, if_pos rfl, Bool.true_and, all_take p r k (by simpa using h)]
      rw [decide_eq_decide]; omega
    · have hc' : p c = false := by simpa using hc
      rw [hc', Bool.false_and, if_neg (by simp)]; simp
theorem all_span (p : UInt8 → Bool) (l : List UInt8) : l.all p = decide (Lx.span p l = l.length) := by
  have h := all_take p l l.length (Nat.le_refl _)
  rw [List.take_length] at h
  rw [h, decide_eq_decide]
  have := Lx.span_le p l
  omega
theorem rword_nameB (s : ByteArray) : rWord s.data.toList = (!s.toList.isEmpty && decide (Lx.wordLen s.data.toList = s.size)) := by
  rw [Lib.toList_data]
  have hsz : s.size = s.data.toList.length := rfl
  rw [hsz]
  cases s.data.toList with
  | nil => rfl
  | cons c r =>
    have hr : rWord (c :: r) = (Lx.letU c && decide (Lx.span Lx.wcU r = r.length)) := by simp only [rWord]; rw [all_span]
    rw [hr, List.isEmpty_cons, Bool.not_false, Bool.true_and]
    have hw : Lx.wordLen (c :: r) = if Lx.letU c then 1 + Lx.span Lx.wcU r else 0 := rfl
    by_cases hc : Lx.letU c = true
    · rw [if_pos hc] at hw
      rw [hc, Bool.true_and, decide_eq_decide, hw, List.length_cons]; omega
    · have hc' : Lx.letU c = false := by simpa using hc
      rw [if_neg hc] at hw
      rw [hc', Bool.false_and]; symm; rw [decide_eq_false_iff_not, hw, List.length_cons]; omega
end Go.Proofs.YtmedijheidbmhaaDoor
