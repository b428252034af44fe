/- Plain mathematics of the tokens of a text: the token at a place, and the tokens of all of it. -/
import Derived.Test.YtenhjddkocldaaaDoorLexM
import Derived.Lib.ParseIntB
import Derived.Lib.ParseIntBCases
namespace Go.Proofs.YtenhjddkocldaaaDoor.Lx

def signs : List UInt8 := [33, 63, 46, 40, 41, 123, 125, 60, 62, 44, 58, 59, 124, 38, 43, 61]
def isSign (c : UInt8) : Bool := signs.contains c

/-- The token at the beginning of a text: its kind, its length, its number; or the error. -/
def tokL (l : List UInt8) : Sum Int (Int × Nat × Int) :=
  if 0 < wordLen l then .inr (1, wordLen l, 0)
  else if 0 < numberLen l then
    match Lib.parseIntB 64 (l.take (numberLen l)) with
    | .ok v => .inr (2, numberLen l, v)
    | _ => .inl 2
  else match l with
    | [] => .inl 1
    | c :: _ => if isSign c then .inr (3, 1, 0) else .inl 1

theorem tokL_word {l : List UInt8} (h : 0 < wordLen l) : tokL l = .inr (1, wordLen l, 0) := by unfold tokL; rw [if_pos h]
theorem tokL_number {l : List UInt8} {v : Int} (h : ¬ 0 < wordLen l) (h2 : 0 < numberLen l) (hv : Lib.parseIntB 64 (l.take (numberLen l)) = .ok v) : tokL l = .inr (2, numberLen l, v) := by
  unfold tokL; rw [if_neg h, if_pos h2, hv]
theorem tokL_range {l : List UInt8} (h : ¬ 0 < wordLen l) (h2 : 0 < numberLen l) (hv : Lib.parseIntB 64 (l.take (numberLen l)) = .range) : tokL l = .inl 2 := by
  unfold tokL; rw [if_neg h, if_pos h2, hv]
theorem tokL_sign {c : UInt8} {r : List UInt8} (h : ¬ 0 < wordLen (c :: r)) (h2 : ¬ 0 < numberLen (c :: r)) (hv : isSign c = true) : tokL (c :: r) = .inr (3, 1, 0) := by
  unfold tokL; rw [if_neg h, if_neg h2]; simp only; rw [if_pos hv]
theorem tokL_none {c : UInt8} {r : List UInt8} (h : ¬ 0 < wordLen (c :: r)) (h2 : ¬ 0 < numberLen (c :: r)) (hv : ¬ isSign c = true) : tokL (c :: r) = .inl 1 := by
  unfold tokL; rw [if_neg h, if_neg h2]; simp only; rw [if_neg hv]

theorem wordLen_le (l : List UInt8) : wordLen l ≤ l.length := by
  cases l with
  | nil => simp [wordLen]
  | cons c r => simp only [wordLen]; have := span_le wcU r; split <;> simp <;> omega
theorem numberLen_le (l : List UInt8) : numberLen l ≤ l.length := by
  cases l with
  | nil => simp [numberLen]
  | cons c r =>
    have h1 := span_le digU r
    simp only [numberLen]
    split
    · simp
    · split
      · cases r with
        | nil => simp
        | cons d r' => simp only; split <;> (try split) <;> simp at h1 ⊢ <;> omega
      · split <;> simp <;> omega

/-- A parse that ends in a number or out of range. -/
def Num {α : Type} (e : Lib.NumEnd α) : Prop := (∃ u, e = .ok u) ∨ e = .range
theorem parse_digits (M : Nat) : ∀ (l : List UInt8) (acc : Nat), (∀ c ∈ l, digU c = true) → Num (Lib.parseUintM M acc l)
  | [], acc, _ => .inl ⟨acc, rfl⟩
  | c :: r, acc, h => by
    have hc := h c (by simp)
    have hd : 48 ≤ c.toNat ∧ c.toNat ≤ 57 := by simp [digU, digB] at hc; omega
    simp only [Lib.parseUintM, if_pos hd]
    split
    · exact .inr rfl
    · split
      · exact .inr rfl
      · exact parse_digits M r _ (fun d hd => h d (by simp [hd]))
theorem take_span (p : UInt8 → Bool) : ∀ (l : List UInt8), ∀ c ∈ l.take (span p l), p c = true
  | [] => by simp [span_nil]
  | d :: r => by
    rw [span_cons]
    by_cases h : p d = true
    · rw [if_pos h, Nat.add_comm 1, List.take_succ_cons]
      intro c hc
      rcases List.mem_cons.1 hc with rfl | hc
      · exact h
      · exact take_span p r c hc
    · rw [if_neg h]; simp

theorem signlessC_num {M : Nat} {e : Lib.NumEnd Nat} (h : Num e) : Num (Lib.signlessC M e) := by
  rcases h with ⟨u, rfl⟩ | rfl
  · simp only [Lib.signlessC]; split
    · exact .inr rfl
    · exact .inl ⟨_, rfl⟩
  · exact .inr rfl
theorem signedC_num {M : Nat} {e : Lib.NumEnd Nat} (h : Num e) : Num (Lib.signedC M e) := by
  rcases h with ⟨u, rfl⟩ | rfl
  · simp only [Lib.signedC]; split
    · exact .inr rfl
    · exact .inl ⟨_, rfl⟩
  · exact .inr rfl
theorem parseUintB_num (B : Nat) (l : List UInt8) (h0 : l ≠ []) (h : ∀ c ∈ l, digU c = true) : Num (Lib.parseUintB B l) := by
  unfold Lib.parseUintB; rw [if_neg h0]; exact parse_digits _ _ _ h
theorem plain_of_dig {c : UInt8} (h : digU c = true) : c.toNat ≠ 43 ∧ c.toNat ≠ 45 := by
  simp [digU, digB] at h; omega

/-- What has the form of a number is a number, or out of range. -/
theorem numberLen_num (l : List UInt8) (h : 0 < numberLen l) : Num (Lib.parseIntB 64 (l.take (numberLen l))) := by
  cases l with
  | nil => simp [numberLen] at h
  | cons c r =>
    simp only [numberLen] at h ⊢
    by_cases h48 : c = 48
    · subst h48; left; exact ⟨0, by rw [if_pos rfl]; rfl⟩
    · rw [if_neg h48] at h ⊢
      by_cases h45 : c = 45
      · subst h45
        rw [if_pos rfl] at h ⊢
        cases r with
        | nil => simp at h
        | cons d r' =>
          simp only at h ⊢
          by_cases hd48 : d = 48
          · rw [if_pos hd48] at h; exact absurd h (by decide)
          · rw [if_neg hd48] at h ⊢
            by_cases hd : digU d = true
            · rw [if_pos hd] at h ⊢
              rw [Nat.add_comm 1, List.take_succ_cons, Lib.parseIntB_minus]
              refine signedC_num (parseUintB_num _ _ ?_ (take_span _ _))
              rw [span_cons, if_pos hd, Nat.add_comm 1, List.take_succ_cons]; simp
            · rw [if_neg hd] at h; exact absurd h (by decide)
      · rw [if_neg h45] at h ⊢
        by_cases hd : digU c = true
        · rw [if_pos hd] at h ⊢
          rw [Nat.add_comm 1, List.take_succ_cons, Lib.parseIntB_plain _ _ _ (plain_of_dig hd).1 (plain_of_dig hd).2]
          refine signlessC_num (parseUintB_num _ _ (by simp) ?_)
          intro x hx
          rcases List.mem_cons.1 hx with rfl | hx
          · exact hd
          · exact take_span _ _ x hx
        · rw [if_neg hd] at h; exact absurd h (by decide)

end Go.Proofs.YtenhjddkocldaaaDoor.Lx
