/- Plain mathematics: the kinds of the beginnings of a text, and its longest token. -/
import Derived.Test.YtenhjddkocldaaaDoorLexW
namespace Go.Proofs.YtenhjddkocldaaaDoor
open Go.RowKit Go.Shelf Go.Deep

theorem all_take (p : UInt8 → Bool) : ∀ (l : List UInt8) (k : Nat), k ≤ l.length → (l.take k).all p = decide (k ≤ Lx.span p l)
  | _, 0, _ => by simp
  | [], k + 1, h => by simp at h
  | c :: r, k + 1, h => by
    rw [List.take_succ_cons, List.all_cons, Lx.span_cons]
    by_cases hc : p c = true
    · rw [hc, if_pos rfl, Bool.true_and, all_take p r k (by simpa using h)]
      rw [decide_eq_decide]; omega
    · have hc' : p c = false := by simpa using hc
      rw [hc', Bool.false_and, if_neg (by simp)]; simp
theorem byte_let (c : UInt8) : (!Lx.letU c || (!Lx.digU c && c != 48 && c != 45)) = true :=
  all_bytes (p := fun c => (!Lx.letU c || (!Lx.digU c && c != 48 && c != 45))) (q := fun _ => true) (by decide +kernel) c
theorem let_not {c : UInt8} (h : Lx.letU c = true) : Lx.digU c = false ∧ c ≠ 48 ∧ c ≠ 45 := by
  have := byte_let c
  rw [h] at this; simpa [and_assoc] using this

theorem rword_take (c : UInt8) (r : List UInt8) (i : Nat) (hi : i ≤ r.length) : rWord (c :: r.take i) = (Lx.letU c && decide (i ≤ Lx.span Lx.wcU r)) := by
  simp only [rWord]; rw [all_take _ _ _ hi]
theorem rnum_take48 (r : List UInt8) (i : Nat) (hi : i ≤ r.length) : rNum (48 :: r.take i) = decide (i = 0) := by
  cases i with
  | zero => rw [List.take_zero]; rfl
  | succ i =>
    cases r with
    | nil => simp at hi
    | cons d r' =>
      rw [List.take_succ_cons]
      unfold rNum
      rw [if_neg (by simp), if_neg (by simp)]; simp [rTail]
theorem rnum_take45 (d : UInt8) (r : List UInt8) (i : Nat) (hi : i ≤ r.length) : rNum (45 :: d :: r.take i) = (d != 48 && (Lx.digU d && decide (i ≤ Lx.span Lx.digU r))) := by
  unfold rNum
  rw [if_neg (by simp), if_pos (by simp)]
  simp only [List.tail_cons, rTail, List.all_cons]
  rw [all_take _ _ _ hi]
theorem rnum_take45_0 : rNum [45] = false := by decide
theorem rnum_take (c : UInt8) (h48 : c ≠ 48) (h45 : c ≠ 45) (r : List UInt8) (i : Nat) (hi : i ≤ r.length) : rNum (c :: r.take i) = (Lx.digU c && decide (i ≤ Lx.span Lx.digU r)) := by
  unfold rNum
  rw [if_neg (by simp [h48]), if_neg (by simp [h45])]
  simp only [rTail, List.all_cons]
  rw [all_take _ _ _ hi]; simp [h48]
theorem rsign_take (c : UInt8) (r : List UInt8) (i : Nat) (hi : i ≤ r.length) : rSign (c :: r.take i) = (Lx.isSign c && decide (i = 0)) := by
  cases i with
  | zero => simp [rSign]
  | succ i =>
    rw [rsign_long _ (by rw [List.length_cons, List.length_take]; omega)]; simp

/-- The length of the token at the beginning, or 0. -/
def tl (l : List UInt8) : Nat :=
  if 0 < Lx.wordLen l then Lx.wordLen l else if 0 < Lx.numberLen l then Lx.numberLen l else match l with
    | [] => 0
    | c :: _ => if Lx.isSign c then 1 else 0
/-- Its kind, or 0. -/
def tk (l : List UInt8) : Nat :=
  if 0 < Lx.wordLen l then 1 else if 0 < Lx.numberLen l then 2 else match l with
    | [] => 0
    | c :: _ => if Lx.isSign c then 3 else 0

structure Long (l : List UInt8) : Prop where
  le : tl l ≤ l.length
  more : ∀ i, 2 ≤ i → i ≤ tl l → 0 < rKind (l.take i)
  one : tl l = 1 → 0 < rKind (l.take 1)
  stop : tl l + 1 ≤ l.length → rKind (l.take (tl l + 1)) = 0
  none : tl l = 0 → 2 ≤ l.length → rKind (l.take 2) = 0
  kind : 0 < tl l → rKind (l.take (tl l)) = tk l

theorem rk_word {l : List UInt8} (h : rWord l = true) : rKind l = 1 := by unfold rKind; rw [if_pos h]
theorem rk_num {l : List UInt8} (h : rWord l = false) (h2 : rNum l = true) : rKind l = 2 := by unfold rKind; rw [if_neg (by simp [h]), if_pos h2]
theorem rk_sign {l : List UInt8} (h : rWord l = false) (h2 : rNum l = false) (h3 : rSign l = true) : rKind l = 3 := by unfold rKind; rw [if_neg (by simp [h]), if_neg (by simp [h2]), if_pos h3]
theorem rk_none {l : List UInt8} (h : rWord l = false) (h2 : rNum l = false) (h3 : rSign l = false) : rKind l = 0 := by unfold rKind; rw [if_neg (by simp [h]), if_neg (by simp [h2]), if_neg (by simp [h3])]

theorem long_word (c : UInt8) (r : List UInt8) (h : Lx.letU c = true) : Long (c :: r) := by
  have hw : Lx.wordLen (c :: r) = 1 + Lx.span Lx.wcU r := by simp only [Lx.wordLen]; rw [if_pos h]
  have ht : tl (c :: r) = 1 + Lx.span Lx.wcU r := by unfold tl; rw [hw, if_pos (by omega)]
  have hk : tk (c :: r) = 1 := by unfold tk; rw [hw, if_pos (by omega)]
  have hsp := Lx.span_le Lx.wcU r
  have hyes : ∀ i, i ≤ Lx.span Lx.wcU r → rKind ((c :: r).take (i + 1)) = 1 := fun i hi => by
    rw [List.take_succ_cons]; apply rk_word; rw [rword_take _ _ _ (by omega), h, decide_eq_true hi]; rfl
  obtain ⟨n1, n2, n3⟩ := let_not h
  refine ⟨?_, ?_, ?_, ?_, ?_, ?_⟩
  · rw [ht]; simp; omega
  · intro i h2 h3
    rw [ht] at h3
    have := hyes (i - 1) (by omega)
    rw [show i - 1 + 1 = i by omega] at this; omega
  · intro _; have : rKind ((c :: r).take 1) = 1 := hyes 0 (by omega)
    omega
  · intro h4
    rw [ht, Nat.add_comm 1] at h4 ⊢
    simp at h4
    rw [List.take_succ_cons]
    refine rk_none ?_ ?_ ?_
    · rw [rword_take _ _ _ (by omega), decide_eq_false (by omega), Bool.and_false]
    · rw [rnum_take c n2 n3 _ _ (by omega), n1, Bool.false_and]
    · rw [rsign_take _ _ _ (by omega), decide_eq_false (by omega), Bool.and_false]
  · intro h0; rw [ht] at h0; omega
  · intro _; rw [ht, hk, Nat.add_comm 1]; exact hyes _ (Nat.le_refl _)

/-- No word, and the beginnings of n bytes and more than b are numbers. -/
theorem long_num (c : UInt8) (r : List UInt8) (h : Lx.letU c = false) (m b : Nat) (hb : b ≤ 1) (hbm : b < m) (hm : Lx.numberLen (c :: r) = m)
    (hn : ∀ i, i ≤ r.length → rNum (c :: r.take i) = decide (b ≤ i ∧ i + 1 ≤ m)) : Long (c :: r) := by
  have hw : Lx.wordLen (c :: r) = 0 := by simp only [Lx.wordLen]; rw [if_neg (by simp [h])]
  have ht : tl (c :: r) = m := by unfold tl; rw [hw, hm, if_neg (by omega), if_pos (by omega)]
  have hk : tk (c :: r) = 2 := by unfold tk; rw [hw, hm, if_neg (by omega), if_pos (by omega)]
  have hle := Lx.numberLen_le (c :: r)
  rw [hm] at hle
  simp at hle
  have hyes : ∀ i, i ≤ r.length → b ≤ i → i + 1 ≤ m → rKind ((c :: r).take (i + 1)) = 2 := fun i h1 h2 h3 => by
    rw [List.take_succ_cons]; apply rk_num
    · rw [rword_take _ _ _ h1, h, Bool.false_and]
    · rw [hn i h1, decide_eq_true ⟨h2, h3⟩]
  refine ⟨?_, ?_, ?_, ?_, ?_, ?_⟩
  · rw [ht]; simpa using hle
  · intro i h2 h3
    rw [ht] at h3
    have := hyes (i - 1) (by omega) (by omega) (by omega)
    rw [show i - 1 + 1 = i by omega] at this; omega
  · intro h1; rw [ht] at h1; have : rKind ((c :: r).take 1) = 2 := hyes 0 (by omega) (by omega) (by omega)
    omega
  · intro h4
    rw [ht] at h4 ⊢
    simp at h4
    rw [List.take_succ_cons]
    refine rk_none ?_ ?_ ?_
    · rw [rword_take _ _ _ (by omega), h, Bool.false_and]
    · rw [hn _ (by omega), decide_eq_false (by omega)]
    · rw [rsign_take _ _ _ (by omega), decide_eq_false (by omega), Bool.and_false]
  · intro h0; rw [ht] at h0; omega
  · intro _; rw [ht, hk]
    have := hyes (m - 1) (by omega) (by omega) (by omega)
    rw [show m - 1 + 1 = m by omega] at this; exact this

/-- No word and no number. -/
theorem long_sign (c : UInt8) (r : List UInt8) (h : Lx.letU c = false) (hm : Lx.numberLen (c :: r) = 0)
    (hn : ∀ i, i ≤ r.length → i ≤ 1 → rNum (c :: r.take i) = false) : Long (c :: r) := by
  have hw : Lx.wordLen (c :: r) = 0 := by simp only [Lx.wordLen]; rw [if_neg (by simp [h])]
  have ht : tl (c :: r) = if Lx.isSign c then 1 else 0 := by unfold tl; rw [hw, hm, if_neg (by omega), if_neg (by omega)]
  have hk : tk (c :: r) = if Lx.isSign c then 3 else 0 := by unfold tk; rw [hw, hm, if_neg (by omega), if_neg (by omega)]
  have hno : ∀ i, i ≤ r.length → rWord (c :: r.take i) = false := fun i hi => by rw [rword_take _ _ _ hi, h, Bool.false_and]
  have h2 : 1 ≤ r.length → rKind ((c :: r).take 2) = 0 := fun h1 => by
    rw [List.take_succ_cons]
    refine rk_none (hno _ h1) (hn _ h1 (by omega)) ?_
    rw [rsign_take _ _ _ h1]; simp
  cases hs : Lx.isSign c with
  | true =>
    rw [hs, if_pos rfl] at ht hk
    have h1 : rKind ((c :: r).take 1) = 3 := by
      rw [List.take_succ_cons]
      refine rk_sign (hno _ (by omega)) (hn _ (by omega) (by omega)) ?_
      rw [rsign_take _ _ _ (by omega), hs]; rfl
    refine ⟨by rw [ht]; simp, fun i h2 h3 => by omega, fun _ => by omega, fun h4 => ?_, fun h4 => by omega, fun _ => by rw [ht, hk]; exact h1⟩
    rw [ht] at h4 ⊢; exact h2 (by simpa using h4)
  | false =>
    rw [hs] at ht hk
    simp only [Bool.false_eq_true, if_false] at ht hk
    have h1 : rKind ((c :: r).take 1) = 0 := by
      rw [List.take_succ_cons]
      refine rk_none (hno _ (by omega)) (hn _ (by omega) (by omega)) ?_
      rw [rsign_take _ _ _ (by omega), hs]; rfl
    refine ⟨by rw [ht]; simp, fun i h2 h3 => by omega, fun _ => by omega, fun h4 => by rw [ht]; exact h1, fun _ h4 => h2 (by simpa using h4), fun h4 => by omega⟩

theorem long_any : ∀ l : List UInt8, l ≠ [] → Long l
  | [], h => absurd rfl h
  | c :: r, _ => by
    cases hl : Lx.letU c with
    | true => exact long_word c r hl
    | false =>
      by_cases h48 : c = 48
      · subst h48
        refine long_num 48 r hl 1 0 (by omega) (by omega) (by simp [Lx.numberLen]) (fun i hi => ?_)
        rw [rnum_take48 _ _ hi, decide_eq_decide]; omega
      · by_cases h45 : c = 45
        · subst h45
          cases r with
          | nil => exact long_sign 45 [] hl (by simp [Lx.numberLen]) (fun i hi _ => by rw [List.take_nil]; exact rnum_take45_0)
          | cons d r' =>
            by_cases hd : d ≠ 48 ∧ Lx.digU d = true
            · have hm : Lx.numberLen (45 :: d :: r') = 2 + Lx.span Lx.digU r' := by
                simp only [Lx.numberLen]
                rw [if_neg (by decide), if_pos trivial, if_neg hd.1, if_pos hd.2, Lx.span_cons, if_pos hd.2]; omega
              refine long_num 45 (d :: r') hl _ 1 (by omega) (by omega) hm (fun i hi => ?_)
              cases i with
              | zero => rw [List.take_zero, rnum_take45_0]; symm; rw [decide_eq_false_iff_not]; omega
              | succ i =>
                rw [List.take_succ_cons, rnum_take45 _ _ _ (by simpa using hi), hd.2]
                have : (d != 48) = true := by simpa using hd.1
                rw [this, Bool.true_and, Bool.true_and, decide_eq_decide]; omega
            · have hd' : d = 48 ∨ Lx.digU d = false := by
                by_cases e : d = 48
                · exact .inl e
                · right; have := fun x => hd ⟨e, x⟩; simpa using this
              have hm : Lx.numberLen (45 :: d :: r') = 0 := by
                simp only [Lx.numberLen]
                rw [if_neg (by decide), if_pos trivial]
                rcases hd' with e | e
                · rw [if_pos e]
                · by_cases h0 : d = 48
                  · rw [if_pos h0]
                  · rw [if_neg h0, if_neg (by simp [e])]
              refine long_sign 45 (d :: r') hl hm (fun i hi h1 => ?_)
              cases i with
              | zero => rw [List.take_zero]; exact rnum_take45_0
              | succ i =>
                rw [List.take_succ_cons, rnum_take45 _ _ _ (by simpa using hi)]
                rcases hd' with e | e
                · subst e; rfl
                · rw [e, Bool.false_and, Bool.and_false]
        · cases hd : Lx.digU c with
          | true =>
            have hm : Lx.numberLen (c :: r) = 1 + Lx.span Lx.digU r := by
              simp only [Lx.numberLen]
              rw [if_neg h48, if_neg h45, if_pos hd]
            refine long_num c r hl _ 0 (by omega) (by omega) hm (fun i hi => ?_)
            rw [rnum_take c h48 h45 _ _ hi, hd, Bool.true_and, decide_eq_decide]; omega
          | false =>
            refine long_sign c r hl ?_ (fun i hi _ => ?_)
            · simp only [Lx.numberLen]
              rw [if_neg h48, if_neg h45, if_neg (by simp [hd])]
            · rw [rnum_take c h48 h45 _ _ hi, hd, Bool.false_and]

end Go.Proofs.YtenhjddkocldaaaDoor
