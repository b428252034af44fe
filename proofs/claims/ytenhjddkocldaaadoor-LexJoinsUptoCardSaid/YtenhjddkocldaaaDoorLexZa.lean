/- Plain mathematics of the values of digits. -/
import Derived.Test.YtenhjddkocldaaaDoorLexZ
namespace Go.Proofs.YtenhjddkocldaaaDoor
open Go.RowKit Go.Shelf Go.Deep

def dval (acc : Nat) (l : List UInt8) : Nat := l.foldl (fun a c => 10 * a + (c.toNat - 48)) acc
theorem dval_nil (a : Nat) : dval a [] = a := rfl
theorem dval_cons (a : Nat) (c : UInt8) (r : List UInt8) : dval a (c :: r) = dval (10 * a + (c.toNat - 48)) r := by
  unfold dval; rw [List.foldl_cons]
theorem dval_snoc (a : Nat) (l : List UInt8) (c : UInt8) : dval a (l ++ [c]) = 10 * dval a l + (c.toNat - 48) := by
  unfold dval; rw [List.foldl_append, List.foldl_cons, List.foldl_nil]
theorem dval_le : ∀ (l : List UInt8) (a : Nat), a ≤ dval a l
  | [], a => Nat.le_refl a
  | c :: r, a => by rw [dval_cons]; have := dval_le r (10 * a + (c.toNat - 48)); omega
theorem dval_append (a : Nat) (l m : List UInt8) : dval a (l ++ m) = dval (dval a l) m := by unfold dval; rw [List.foldl_append]

theorem dig_iff {c : UInt8} (h : Lx.digU c = true) : 48 ≤ c.toNat ∧ c.toNat ≤ 57 := by
  simp [Lx.digU, Lx.digB] at h; omega
theorem parse_val : ∀ (l : List UInt8) (a : Nat), (∀ c ∈ l, Lx.digU c = true) → a ≤ 2 ^ 64 - 1 →
    Lib.parseUintM (2 ^ 64 - 1) a l = if dval a l ≤ 2 ^ 64 - 1 then .ok (dval a l) else .range
  | [], a, _, ha => by rw [dval_nil, if_pos ha]; rfl
  | c :: r, a, h, ha => by
    have hc := dig_iff (h c (by simp))
    have hle := dval_le r (10 * a + (c.toNat - 48))
    simp only [Lib.parseUintM, if_pos hc]
    rw [dval_cons]
    by_cases h1 : 1844674407370955162 ≤ a
    · rw [if_pos h1, if_neg (by omega)]
    · rw [if_neg h1, Nat.mul_comm a 10]
      by_cases h2 : 2 ^ 64 - 1 < 10 * a + (c.toNat - 48)
      · rw [if_pos h2, if_neg (by omega)]
      · rw [if_neg h2, parse_val r _ (fun d hd => h d (by simp [hd])) (by omega)]

/-- The number of a text of digits, perhaps with a minus sign in front, or none. -/
def rv (l : List UInt8) : Option Int := match Lib.parseIntB 64 l with
  | .ok v => some v
  | _ => none
theorem rv_minus (r : List UInt8) (h0 : r ≠ []) (h : ∀ c ∈ r, Lx.digU c = true) : rv (45 :: r) = if dval 0 r ≤ 2 ^ 63 then some (-(dval 0 r : Int)) else none := by
  unfold rv
  rw [Lib.parseIntB_minus]
  unfold Lib.parseUintB
  rw [if_neg h0, parse_val r 0 h (by omega)]
  by_cases h1 : dval 0 r ≤ 2 ^ 63
  · rw [if_pos (by omega), if_pos h1]
    simp only [Lib.signedC]
    rw [if_neg (by omega)]
  · rw [if_neg h1]
    by_cases h2 : dval 0 r ≤ 2 ^ 64 - 1
    · rw [if_pos h2]; simp only [Lib.signedC]; rw [if_pos (by omega)]
    · rw [if_neg h2]; rfl
theorem rv_plain (c : UInt8) (r : List UInt8) (h : ∀ d ∈ c :: r, Lx.digU d = true) : rv (c :: r) = if dval 0 (c :: r) < 2 ^ 63 then some (dval 0 (c :: r) : Int) else none := by
  unfold rv
  have hc := Lx.plain_of_dig (h c (by simp))
  rw [Lib.parseIntB_plain _ _ _ hc.1 hc.2]
  unfold Lib.parseUintB
  rw [if_neg (by simp), parse_val _ 0 h (by omega)]
  by_cases h1 : dval 0 (c :: r) < 2 ^ 63
  · rw [if_pos (by omega), if_pos h1]
    simp only [Lib.signlessC]
    rw [if_neg (by omega)]
  · rw [if_neg h1]
    by_cases h2 : dval 0 (c :: r) ≤ 2 ^ 64 - 1
    · rw [if_pos h2]; simp only [Lib.signlessC]; rw [if_pos (by omega)]
    · rw [if_neg h2]; rfl

/-- The value of k digits from b on. -/
def vAt (s : ByteArray) (b k : Nat) : Nat := dval 0 ((s.data.toList.drop b).take k)
theorem vAt_zero (s : ByteArray) (b : Nat) : vAt s b 0 = 0 := by unfold vAt; rw [List.take_zero]; rfl
theorem vAt_succ (s : ByteArray) (b k : Nat) (h : b + k < s.size) : vAt s b (k + 1) = 10 * vAt s b k + (s[b + k].toNat - 48) := by
  unfold vAt
  have hk : k < (s.data.toList.drop b).length := by rw [List.length_drop]; show k < s.size - b; omega
  rw [List.take_add_one, List.getElem?_eq_getElem hk, Option.toList_some, dval_snoc, List.getElem_drop]
  rfl
theorem vAt_le (s : ByteArray) (b k m : Nat) (h : k ≤ m) : vAt s b k ≤ vAt s b m := by
  unfold vAt
  have e : (s.data.toList.drop b).take m = (s.data.toList.drop b).take k ++ ((s.data.toList.drop b).take m).drop k := by
    have := (List.take_append_drop k ((s.data.toList.drop b).take m)).symm
    rw [List.take_take, Nat.min_eq_left h] at this
    exact this
  rw [e, dval_append]
  exact dval_le _ _
theorem vAt_all (s : ByteArray) (b : Nat) (_h : b ≤ s.size) : vAt s b (s.size - b) = dval 0 (s.data.toList.drop b) := by
  unfold vAt
  rw [List.take_of_length_le]
  rw [List.length_drop]; exact Nat.le_refl _

end Go.Proofs.YtenhjddkocldaaaDoor
