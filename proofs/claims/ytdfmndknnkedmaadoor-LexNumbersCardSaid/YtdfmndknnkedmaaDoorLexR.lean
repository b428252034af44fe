/- The tokens of the decimal text of a number. -/
import Derived.Test.YtdfmndknnkedmaaDoorLexQ
namespace Go.Proofs.YtdfmndknnkedmaaDoor
open Go.RowKit Go.Shelf

theorem parseM_snoc (M : Nat) (c : UInt8) (d : Nat) (hc : c.toNat = 48 + d) (hd : d ≤ 9) : ∀ (l : List UInt8) (acc u : Nat), Lib.parseUintM M acc l = .ok u → u < 1844674407370955162 → u * 10 + d ≤ M → Lib.parseUintM M acc (l ++ [c]) = .ok (u * 10 + d)
  | [], acc, u, h, h1, h2 => by
    simp only [Lib.parseUintM] at h; cases h
    have e : c.toNat - 48 = d := by omega
    simp only [List.nil_append, Lib.parseUintM]
    rw [if_pos (by omega), if_neg (by omega), e, if_neg (by omega)]
  | b :: l, acc, u, h, h1, h2 => by
    simp only [List.cons_append, Lib.parseUintM] at h ⊢
    split at h
    · rename_i hb
      rw [if_pos hb]
      split at h
      · cases h
      · rename_i h3
        rw [if_neg h3]
        split at h
        · cases h
        · rename_i h4
          rw [if_neg h4]
          exact parseM_snoc M c d hc hd l _ u h h1 h2
    · cases h
theorem dig_nat (d : Nat) (h : d ≤ 9) : (UInt8.ofNat (48 + d)).toNat = 48 + d := by
  rw [UInt8.toNat_ofNat']; omega
theorem parse_dec (m : Nat) (hm : m ≤ 9223372036854775808) : Lib.parseUintM (2 ^ 64 - 1) 0 (Lib.decDigits m) = .ok m := by
  induction m using Nat.strongRecOn with
  | _ m ih =>
    by_cases h : m ≤ 9
    · rw [dec_one m h]
      have := parseM_snoc (2 ^ 64 - 1) (UInt8.ofNat (48 + m)) m (dig_nat m h) h [] 0 0 rfl (by decide) (by omega)
      simpa using this
    · rw [dec_step m h]
      have h1 := ih (m / 10) (by omega) (by omega)
      have := parseM_snoc (2 ^ 64 - 1) (UInt8.ofNat (48 + m % 10)) (m % 10) (dig_nat _ (by omega)) (by omega) _ 0 _ h1 (by omega) (by omega)
      rw [this]; congr 1; omega
/-- The digits: a first one, which is 0 only alone, and further ones. -/
theorem dec_shape (m : Nat) : (m = 0 ∧ Lib.decDigits m = [48]) ∨ ∃ c r, Lib.decDigits m = c :: r ∧ c ≠ 48 ∧ Lx.digU c = true ∧ (∀ x ∈ r, Lx.digU x = true) := by
  have dig : ∀ d, d ≤ 9 → Lx.digU (UInt8.ofNat (48 + d)) = true := fun d h => by
    have h2 := dig_nat d h
    generalize UInt8.ofNat (48 + d) = c at h2 ⊢
    simp [Lx.digU, Lx.digB, h2]; omega
  induction m using Nat.strongRecOn with
  | _ m ih =>
    by_cases h : m ≤ 9
    · by_cases h0 : m = 0
      · subst h0; left; exact ⟨rfl, dec_one 0 (by omega)⟩
      · right
        refine ⟨_, [], dec_one m h, ?_, dig m h, by simp⟩
        intro e; have := congrArg UInt8.toNat e; rw [dig_nat m h] at this; simp at this; omega
    · right
      rw [dec_step m h]
      rcases ih (m / 10) (by omega) with ⟨h0, _⟩ | ⟨c, r, e, h1, h2, h3⟩
      · omega
      · rw [e]
        refine ⟨c, r ++ [UInt8.ofNat (48 + m % 10)], rfl, h1, h2, ?_⟩
        intro x hx
        rcases List.mem_append.1 hx with hx | hx
        · exact h3 x hx
        · rw [List.mem_singleton.1 hx]; exact dig _ (by omega)

/-- Behind a number stands nothing, or no digit. -/
def Stop (t : List UInt8) : Prop := ∀ c r, t = c :: r → Lx.digU c = false
theorem span_all (p : UInt8 → Bool) : ∀ (r t : List UInt8), (∀ x ∈ r, p x = true) → (∀ c r', t = c :: r' → p c = false) → Lx.span p (r ++ t) = r.length
  | [], [], _, _ => rfl
  | [], c :: t, _, h => by rw [List.nil_append, Lx.span_cons, if_neg (by rw [h c t rfl]; decide)]; rfl
  | x :: r, t, h, h2 => by
    rw [List.cons_append, Lx.span_cons, if_pos (h x (by simp)), span_all p r t (fun y hy => h y (by simp [hy])) h2]; simp; omega
theorem nondig {c : UInt8} (h : Lx.digU c = true) : Lx.letU c = false ∧ c ≠ 45 ∧ Lx.blank c = false ∧ c ≠ 35 := by
  have hb : 48 ≤ c.toNat ∧ c.toNat ≤ 57 := by simp [Lx.digU, Lx.digB] at h; omega
  have ne : ∀ x : UInt8, x.toNat < 48 → c ≠ x := fun x hx e => by subst e; omega
  refine ⟨?_, ne 45 (by decide), ?_, ne 35 (by decide)⟩
  · simp [Lx.letU, Lx.letB]; omega
  · have h1 := ne 32 (by decide); have h2 := ne 9 (by decide); have h3 := ne 10 (by decide); have h4 := ne 13 (by decide)
    simp [Lx.blank, h1, h2, h3, h4]

/-- What the scanner needs to know of the text of a number. -/
theorem itoa_facts (n : Int) (h0 : -9223372036854775808 ≤ n) (h1 : n ≤ 9223372036854775807) (t : List UInt8) (ht : Stop t) :
    Lx.wordLen (Lib.itoa n ++ t) = 0 ∧ Lx.numberLen (Lib.itoa n ++ t) = (Lib.itoa n).length ∧ 0 < (Lib.itoa n).length ∧ Lib.parseIntB 64 (Lib.itoa n) = .ok n ∧ Lx.skipG false (Lib.itoa n ++ t) = 0 := by
  by_cases hn : 0 ≤ n
  · obtain ⟨m, rfl⟩ := Int.eq_ofNat_of_zero_le hn
    rw [Lib.itoa_nonneg]
    have hp := parse_dec m (by omega)
    have hp' : Lib.parseUintB 64 (Lib.decDigits m) = .ok m := by
      unfold Lib.parseUintB; rw [if_neg ?_]
      · exact hp
      · rcases dec_shape m with ⟨_, e⟩ | ⟨c, r, e, _⟩ <;> rw [e] <;> simp
    rcases dec_shape m with ⟨rfl, e⟩ | ⟨c, r, e, hc, hd, hr⟩
    · rw [e]
      refine ⟨?_, ?_, by decide, by kernel_rfl, ?_⟩
      · simp [Lx.wordLen, Lx.letU, Lx.letB]
      · simp [Lx.numberLen]
      · exact Lx.skipG_stop _ _ (by decide) (by decide)
    · obtain ⟨g1, g2, g3, g4⟩ := nondig hd
      have gp := Lx.plain_of_dig hd
      rw [e] at hp' ⊢
      refine ⟨?_, ?_, by simp, ?_, Lx.skipG_stop _ _ g3 g4⟩
      · simp [Lx.wordLen, g1]
      · simp only [List.cons_append, Lx.numberLen]
        rw [if_neg hc, if_neg g2, if_pos hd, span_all _ r t hr ht]; simp; omega
      · rw [Lib.parseIntB_plain _ _ _ gp.1 gp.2, hp']
        simp only [Lib.signlessC]
        rw [if_neg (by omega)]
  · obtain ⟨m, rfl⟩ : ∃ m : Nat, n = -(m : Int) := ⟨n.natAbs, by omega⟩
    rw [Lib.itoa_neg m (by omega)]
    have hp := parse_dec m (by omega)
    have hp' : Lib.parseUintB 64 (Lib.decDigits m) = .ok m := by
      unfold Lib.parseUintB; rw [if_neg ?_]
      · exact hp
      · rcases dec_shape m with ⟨_, e⟩ | ⟨c, r, e, _⟩ <;> rw [e] <;> simp
    rcases dec_shape m with ⟨e, _⟩ | ⟨c, r, e, hc, hd, hr⟩
    · omega
    · rw [e] at hp' ⊢
      refine ⟨?_, ?_, by simp, ?_, Lx.skipG_stop _ _ (by decide) (by decide)⟩
      · simp [Lx.wordLen, Lx.letU, Lx.letB]
      · simp only [List.cons_append, Lx.numberLen]
        rw [if_neg (by decide), if_pos trivial, if_neg hc, if_pos hd, Lx.span_cons, if_pos hd, span_all _ r t hr ht]; simp; omega
      · rw [Lib.parseIntB_minus, hp']
        simp only [Lib.signedC]
        rw [if_neg (by omega)]

theorem itemsN (n : Int) (h0 : -9223372036854775808 ≤ n) (h1 : n ≤ 9223372036854775807) :
    items ((txt (Lib.itoa n)).size + 1) (Lib.itoa n) (Lx.skipG false (Lib.itoa n)) = [⟨2, txt (Lib.itoa n), n, 0, 0, 0⟩] := by
  have hf := itoa_facts n h0 h1 [] (fun c r h => by cases h)
  rw [List.append_nil] at hf
  obtain ⟨w1, w2, w3, w4, w5⟩ := hf
  have ht : Lx.tokL ((Lib.itoa n).drop 0) = .inr (2, (txt (Lib.itoa n)).size, n) := by
    rw [List.drop_zero, txt_size, Lx.tokL_number (by omega) (by omega) (v := n) (by rw [w2, List.take_length]; exact w4), w2]
  rw [w5, items_tok _ _ 0 w3 2 (txt (Lib.itoa n)) n ht (by rw [List.drop_zero, txt_size, List.take_length]), items_end _ _ _ (by rw [txt_size]; omega)]
  rfl
theorem itemsN2 (n : Int) (h0 : -9223372036854775808 ≤ n) (h1 : n ≤ 9223372036854775807) :
    items ((txt (Lib.itoa n ++ [120, 49])).size + 1) (Lib.itoa n ++ [120, 49]) (Lx.skipG false (Lib.itoa n ++ [120, 49])) = [⟨2, txt (Lib.itoa n), n, 0, 0, 0⟩, ⟨1, txt [120, 49], 0, ((Lib.itoa n).length : Nat), 0, 0⟩] := by
  obtain ⟨w1, w2, w3, w4, w5⟩ := itoa_facts n h0 h1 [120, 49] (fun c r h => by cases h; decide)
  have ht : Lx.tokL ((Lib.itoa n ++ [120, 49]).drop 0) = .inr (2, (txt (Lib.itoa n)).size, n) := by
    rw [List.drop_zero, txt_size, Lx.tokL_number (by omega) (by omega) (v := n) (by rw [w2, List.take_left]; exact w4), w2]
  have hd : (Lib.itoa n ++ [120, 49]).drop (Lib.itoa n).length = [120, 49] := List.drop_left
  have ht2 : Lx.tokL ((Lib.itoa n ++ [120, 49]).drop (Lib.itoa n).length) = .inr (1, (txt [120, 49]).size, 0) := by rw [hd]; kernel_rfl
  have hs : (txt (Lib.itoa n ++ [120, 49])).size = (Lib.itoa n).length + 2 := by rw [txt_size]; simp
  rw [w5, hs, items_tok _ _ 0 (by simp) 2 (txt (Lib.itoa n)) n ht (by rw [List.drop_zero, txt_size, List.take_left]), Nat.zero_add, txt_size, hd]
  have e0 : Lx.skipG false [120, 49] = 0 := by kernel_rfl
  have e1 : items ((Lib.itoa n).length + 2) (Lib.itoa n ++ [120, 49]) ((Lib.itoa n).length + 0) = [⟨1, txt [120, 49], 0, ((Lib.itoa n).length : Nat), 0, 0⟩] := by
    show items ((Lib.itoa n).length + 1 + 1) (Lib.itoa n ++ [120, 49]) (Lib.itoa n).length = _
    rw [items_tok ((Lib.itoa n).length + 1) _ _ (by simp) 1 (txt [120, 49]) 0 ht2 (by rw [hd]; rfl), items_end _ _ _ (by rw [txt_size]; simp)]
  rw [e0, e1]
  rfl

end Go.Proofs.YtdfmndknnkedmaaDoor
