/- Plain mathematics of the tokens of a text: no program is imported. -/
namespace Go.Proofs.YtjmnaibbljakaaaGreatDoor.Lx

def letB (b : Int) : Bool := decide (65 ≤ b ∧ b ≤ 90 ∨ 97 ≤ b ∧ b ≤ 122 ∨ b = 95)
def digB (b : Int) : Bool := decide (48 ≤ b ∧ b ≤ 57)
def letU (c : UInt8) : Bool := letB (c.toNat : Int)
def digU (c : UInt8) : Bool := digB (c.toNat : Int)
def wcU (c : UInt8) : Bool := letU c || digU c

/-- How many elements at the beginning satisfy p. -/
def span (p : UInt8 → Bool) (l : List UInt8) : Nat := (l.takeWhile p).length

def wordLen : List UInt8 → Nat
  | [] => 0
  | c :: r => if letU c then 1 + span wcU r else 0

def numberLen : List UInt8 → Nat
  | [] => 0
  | c :: r =>
    if c = 48 then 1
    else if c = 45 then
      match r with
      | [] => 0
      | d :: _ => if d = 48 then 0 else if digU d then 1 + span digU r else 0
    else if digU c then 1 + span digU r else 0

def commentLen (l : List UInt8) : Nat := span (fun c => c != 10) l

def blank (c : UInt8) : Bool := c == 32 || c == 9 || c == 10 || c == 13

/-- How many bytes at the beginning are in blanks and comments; the first argument: in a comment. -/
def skipG : Bool → List UInt8 → Nat
  | _, [] => 0
  | false, c :: r => if blank c then 1 + skipG false r else if c = 35 then 1 + skipG true r else 0
  | true, c :: r => if c = 10 then 1 + skipG false r else 1 + skipG true r

theorem span_le (p : UInt8 → Bool) (l : List UInt8) : span p l ≤ l.length := by
  unfold span; exact (List.takeWhile_sublist p).length_le

theorem span_nil (p : UInt8 → Bool) : span p [] = 0 := rfl
theorem span_cons (p : UInt8 → Bool) (c : UInt8) (r : List UInt8) : span p (c :: r) = if p c then 1 + span p r else 0 := by
  unfold span; rw [List.takeWhile_cons]; split <;> simp; omega

/-- The span is k if all elements before k satisfy p, and the one at k, if there is one, doesn't. -/
theorem span_eq (p : UInt8 → Bool) : ∀ (l : List UInt8) (k : Nat), k ≤ l.length → (∀ j (h : j < l.length), j < k → p l[j] = true) → (∀ h : k < l.length, p l[k] = false) → span p l = k
  | [], k, hk, _, _ => by simp at hk; subst hk; rfl
  | c :: r, 0, _, _, h2 => by have := h2 (by simp); rw [span_cons]; simp at this; simp [this]
  | c :: r, k + 1, hk, h1, h2 => by
    have hc := h1 0 (by simp) (by omega)
    rw [span_cons]; simp at hc; rw [if_pos hc]
    have := span_eq p r k (by simp at hk; omega) (fun j h hj => by have := h1 (j + 1) (by simp; omega) (by omega); simpa using this) (fun h => by have := h2 (by simp; omega); simpa using this)
    omega

theorem skipG_nil (b : Bool) : skipG b [] = 0 := by cases b <;> simp [skipG]
theorem skipG_blank (c : UInt8) (r : List UInt8) (h : blank c = true) : skipG false (c :: r) = 1 + skipG false r := by
  rw [skipG, if_pos h]
theorem skipG_stop (c : UInt8) (r : List UInt8) (h : blank c = false) (h2 : c ≠ 35) : skipG false (c :: r) = 0 := by
  rw [skipG, if_neg (by simp [h]), if_neg h2]
theorem skipG_true : ∀ l : List UInt8, skipG true l = commentLen l + skipG false (l.drop (commentLen l))
  | [] => by simp [skipG, commentLen, span_nil]
  | c :: r => by
    rw [skipG]
    unfold commentLen
    rw [span_cons]
    by_cases h : c = 10
    · rw [if_pos h, if_neg (by simp [h]), List.drop_zero, h, skipG_blank 10 r (by decide)]; omega
    · rw [if_neg h, if_pos (by simpa using h), skipG_true r]; unfold commentLen
      rw [Nat.add_comm 1 (span _ r), List.drop_succ_cons]; omega
theorem skipG_hash (r : List UInt8) : skipG false (35 :: r) = commentLen (35 :: r) + skipG false ((35 :: r).drop (commentLen (35 :: r))) := by
  rw [skipG, if_neg (by decide), if_pos rfl, skipG_true]
  have : commentLen (35 :: r) = commentLen r + 1 := by unfold commentLen; rw [span_cons, if_pos (by decide)]; omega
  rw [this, List.drop_succ_cons]; omega
theorem commentLen_hash (r : List UInt8) : 1 ≤ commentLen (35 :: r) := by
  unfold commentLen; rw [span_cons, if_pos (by decide)]; omega
theorem commentLen_le (l : List UInt8) : commentLen l ≤ l.length := span_le _ _
theorem skipG_le : ∀ (b : Bool) (l : List UInt8), skipG b l ≤ l.length := by
  have h : ∀ (n : Nat) (l : List UInt8), l.length ≤ n → skipG false l ≤ l.length := by
    intro n
    induction n with
    | zero => intro l hl; have : l = [] := List.eq_nil_of_length_eq_zero (by omega); subst this; simp [skipG]
    | succ n ih =>
      intro l hl
      cases l with
      | nil => simp [skipG]
      | cons c r =>
        by_cases hb : blank c = true
        · rw [skipG_blank c r hb]; have := ih r (by simp at hl; omega); simp; omega
        · by_cases h35 : c = 35
          · subst h35
            rw [skipG_hash]
            have h1 := commentLen_hash r
            have h2 := commentLen_le (35 :: r)
            have := ih ((35 :: r).drop (commentLen (35 :: r))) (by rw [List.length_drop]; omega)
            rw [List.length_drop] at this; omega
          · rw [skipG_stop c r (by simpa using hb) h35]; omega
  intro b l
  cases b with
  | false => exact h _ l (Nat.le_refl _)
  | true =>
    rw [skipG_true]
    have h2 := commentLen_le l
    have := h _ (l.drop (commentLen l)) (Nat.le_refl _)
    rw [List.length_drop] at this; omega

end Go.Proofs.YtjmnaibbljakaaaGreatDoor.Lx
