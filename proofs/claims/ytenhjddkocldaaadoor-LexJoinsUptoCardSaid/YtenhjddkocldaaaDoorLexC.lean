/- Package lex: the length of a number, at every text; what blanks and comments skip. -/
import Derived.Test.YtenhjddkocldaaaDoorLexB
namespace Go.Proofs.YtenhjddkocldaaaDoor
open Go.RowKit

set_option maxHeartbeats 1000000 in
theorem numberLen_minus_yes (s : ByteArray) (hs : s.size ≤ 9223372036854775807) (h : 1 < s.size) (h0 : s[0] = 45) (h1 : ((s[1].toNat : Int) == 48) = false) (hd1 : Lx.digB (s[1].toNat : Int) = true) (w : World) :
    Calls Tryd.prog 41 #[.string s] w fun e w' => (∃ k : Nat, e = .returned (.int .i64 k) ∧ 1 ≤ k ∧ k ≤ s.size ∧ AllDig s 1 k ∧ (∀ h : k < s.size, Lx.digU s[k] = false)) ∧ w = w' := by
  have H1 := Lib.hid (show hpv s ⟨#[48]⟩ = false by rw [hpv_one s 48 (by omega), h0]; rfl)
  have H2 := Lib.hid (show hpv s ⟨#[45]⟩ = true by rw [hpv_one s 45 (by omega), h0]; rfl)
  have hne : ((1 : Int) == (s.size : Int)) = false := by rw [beq_eq_false_iff_ne]; omega
  clear h0
  go_enter Tryd.func41, Tryd.ntmps41
  go_wp2_with (first | (go_at_call 46; refine (hp_any _ _ _ (by assumption) _).mono ?_; rintro e w' ⟨rfl, rfl⟩) | (go_at_call 33; refine (digit_byte _ _).mono ?_; rintro e w' ⟨rfl, rfl⟩))
  go_loop [3] (fun n => ∃ k : Nat, 1 ≤ k ∧ k ≤ s.size ∧ n = .int .i64 k ∧ AllDig s 1 k) (fun n => s.size - (intOf n).toNat)
  case atStart => exact ⟨1, by omega, by omega, rfl, fun j _ h3 h4 => by omega⟩
  case round =>
    obtain ⟨k, hk1, hk2, rfl, ha⟩ := hrel
    clear hd1 h1 hne
    by_cases hlt : k < s.size
    · by_cases hw : Lx.digB (s[k].toNat : Int) = true
      · have hnext : AllDig s 1 (k + 1) := by
          intro j hj h3 h4
          by_cases e : j = k
          · subst e; exact hw
          · exact ha j hj h3 (by omega)
        go_wp2_with (go_at_call 33; refine (digit_byte _ _).mono ?_; rintro e w' ⟨rfl, rfl⟩)
        go_round
        case rel => exact ⟨k + 1, by omega, by omega, by go_num, hnext⟩
        case measure => simp [intOf]; omega
      · have hw' : Lx.digB (s[k].toNat : Int) = false := by simpa using hw
        clear hw
        go_wp2_with (go_at_call 33; refine (digit_byte _ _).mono ?_; rintro e w' ⟨rfl, rfl⟩)
        go_ret
        exact ⟨⟨k, rfl, hk1, hk2, ha, fun _ => hw'⟩, rfl⟩
    · go_wp2
      go_ret
      exact ⟨⟨k, rfl, hk1, hk2, ha, fun h => absurd h hlt⟩, rfl⟩

set_option maxHeartbeats 1000000 in
theorem numberLen_plain_yes (s : ByteArray) (hs : s.size ≤ 9223372036854775807) (h : 0 < s.size) (h0 : s[0] ≠ 48) (h1 : s[0] ≠ 45) (hd1 : Lx.digB (s[0].toNat : Int) = true) (w : World) :
    Calls Tryd.prog 41 #[.string s] w fun e w' => (∃ k : Nat, e = .returned (.int .i64 k) ∧ k ≤ s.size ∧ AllDig s 0 k ∧ (∀ h : k < s.size, Lx.digU s[k] = false)) ∧ w = w' := by
  have H1 := Lib.hid (show hpv s ⟨#[48]⟩ = false by rw [hpv_one s 48 h, beq_eq_false_iff_ne]; exact h0.symm)
  have H2 := Lib.hid (show hpv s ⟨#[45]⟩ = false by rw [hpv_one s 45 h, beq_eq_false_iff_ne]; exact h1.symm)
  have hne : ((0 : Int) == (s.size : Int)) = false := by rw [beq_eq_false_iff_ne]; omega
  have hb2 : ((s[0].toNat : Int) == 48) = false := by
    rw [beq_eq_false_iff_ne]; intro e2; apply h0; apply UInt8.toNat_inj.1; have : (48 : UInt8).toNat = 48 := rfl; omega
  clear h0 h1
  go_enter Tryd.func41, Tryd.ntmps41
  go_wp2_with (first | (go_at_call 46; refine (hp_any _ _ _ (by assumption) _).mono ?_; rintro e w' ⟨rfl, rfl⟩) | (go_at_call 33; refine (digit_byte _ _).mono ?_; rintro e w' ⟨rfl, rfl⟩))
  go_loop [3] (fun n => ∃ k : Nat, k ≤ s.size ∧ n = .int .i64 k ∧ AllDig s 0 k) (fun n => s.size - (intOf n).toNat)
  case atStart => exact ⟨0, by omega, rfl, fun j _ h3 h4 => by omega⟩
  case round =>
    obtain ⟨k, hk2, rfl, ha⟩ := hrel
    clear hd1 hne hb2
    by_cases hlt : k < s.size
    · by_cases hw : Lx.digB (s[k].toNat : Int) = true
      · have hnext : AllDig s 0 (k + 1) := by
          intro j hj h3 h4
          by_cases e : j = k
          · subst e; exact hw
          · exact ha j hj h3 (by omega)
        go_wp2_with (go_at_call 33; refine (digit_byte _ _).mono ?_; rintro e w' ⟨rfl, rfl⟩)
        go_round
        case rel => exact ⟨k + 1, by omega, by go_num, hnext⟩
        case measure => simp [intOf]; omega
      · have hw' : Lx.digB (s[k].toNat : Int) = false := by simpa using hw
        clear hw
        go_wp2_with (go_at_call 33; refine (digit_byte _ _).mono ?_; rintro e w' ⟨rfl, rfl⟩)
        go_ret
        exact ⟨⟨k, rfl, hk2, ha, fun _ => hw'⟩, rfl⟩
    · go_wp2
      go_ret
      exact ⟨⟨k, rfl, hk2, ha, fun h => absurd h hlt⟩, rfl⟩

/-- What a scan from m to k says of the span of the bytes from m on. -/
theorem span_of (p : UInt8 → Bool) (s : ByteArray) (m k : Nat) (hk : m ≤ k) (hk2 : k ≤ s.size) (h1 : ∀ j (h : j < s.size), m ≤ j → j < k → p s[j] = true) (h2 : ∀ h : k < s.size, p s[k] = false) :
    m + Lx.span p (s.data.toList.drop m) = k := by
  have hl : s.data.toList.length = s.size := rfl
  have : Lx.span p (s.data.toList.drop m) = k - m := by
    refine Lx.span_eq _ _ _ (by simp; omega) (fun j h hj => ?_) (fun h => ?_)
    · simp at h
      rw [List.getElem_drop]; exact h1 (m + j) (by omega) (by omega) (by omega)
    · simp at h
      rw [List.getElem_drop]
      have e : m + (k - m) = k := by omega
      simp only [e]; exact h2 (by omega)
  omega

theorem numberLen_any (s : ByteArray) (hs : s.size ≤ maxLen) (w : World) :
    Calls Tryd.prog 41 #[.string s] w fun e w' => e = .returned (.int .i64 (Lx.numberLen s.data.toList)) ∧ w = w' := by
  unfold maxLen at hs
  by_cases h : 0 < s.size
  · have hc := data_cons s h
    have hz : s.data.toList.tail.length + 1 = s.size := by have := congrArg List.length hc; simp at this; simp; omega
    by_cases h48 : s[0] = 48
    · refine (numberLen_zero s h h48 w).mono ?_
      rintro e w' ⟨rfl, rfl⟩
      refine ⟨ret_int ?_, rfl⟩
      rw [hc]; simp only [Lx.numberLen]; rw [if_pos h48]; rfl
    · by_cases h45 : s[0] = 45
      · have ht : ∀ h1 : 1 < s.size, s.data.toList.tail = s[1] :: s.data.toList.tail.tail := by
          intro h1
          have := list_cons s.data.toList.tail (by omega)
          rw [this]; congr 1; simp [ByteArray.getElem_eq_getElem_data]
        by_cases hy : ∃ h1 : 1 < s.size, s[1] ≠ 48 ∧ Lx.digU s[1] = true
        · obtain ⟨h1, hn, hd⟩ := hy
          have hb2 : ((s[1].toNat : Int) == 48) = false := by
            rw [beq_eq_false_iff_ne]; intro e2; apply hn; apply UInt8.toNat_inj.1; have : (48 : UInt8).toNat = 48 := rfl; omega
          refine (numberLen_minus_yes s (by omega) h1 h45 hb2 hd w).mono ?_
          rintro e w' ⟨⟨k, rfl, hk1, hk2, ha, hb⟩, rfl⟩
          refine ⟨ret_int ?_, rfl⟩
          have hsp := span_of Lx.digU s 1 k hk1 hk2 ha hb
          rw [List.drop_one] at hsp
          rw [hc]; simp only [Lx.numberLen]; rw [if_neg h48, if_pos h45]
          rw [ht h1] at hsp ⊢
          simp only
          rw [if_neg hn, if_pos hd]; omega
        · refine (numberLen_minus_no s h h45 ?_ w).mono ?_
          · intro h1
            by_cases e : s[1] = 48
            · exact .inl e
            · right
              cases hd : Lx.digU s[1] with
              | false => rfl
              | true => exact absurd ⟨h1, e, hd⟩ hy
          · rintro e w' ⟨rfl, rfl⟩
            refine ⟨ret_int ?_, rfl⟩
            rw [hc]; simp only [Lx.numberLen]; rw [if_neg h48, if_pos h45]
            by_cases h1 : 1 < s.size
            · rw [ht h1]; simp only
              by_cases e : s[1] = 48
              · rw [if_pos e]; rfl
              · rw [if_neg e, if_neg (fun hd => hy ⟨h1, e, hd⟩)]; rfl
            · have : s.data.toList.tail = [] := List.eq_nil_of_length_eq_zero (by omega)
              rw [this]; rfl
      · by_cases hd : Lx.digB (s[0].toNat : Int) = true
        · refine (numberLen_plain_yes s (by omega) h h48 h45 hd w).mono ?_
          rintro e w' ⟨⟨k, rfl, hk2, ha, hb⟩, rfl⟩
          refine ⟨ret_int ?_, rfl⟩
          have hsp := span_of Lx.digU s 0 k (by omega) hk2 ha hb
          rw [List.drop_zero, Nat.zero_add, hc, Lx.span_cons, if_pos (show Lx.digU s[0] = true from hd)] at hsp
          rw [hc]; simp only [Lx.numberLen]; rw [if_neg h48, if_neg h45, if_pos (show Lx.digU s[0] = true from hd), hsp]
        · refine (numberLen_plain_no s h h48 h45 (by simpa using hd) w).mono ?_
          rintro e w' ⟨rfl, rfl⟩
          refine ⟨ret_int ?_, rfl⟩
          rw [hc]; simp only [Lx.numberLen]; rw [if_neg h48, if_neg h45, if_neg (show ¬ Lx.digU s[0] = true from hd)]; rfl
  · have h0 := toList_nil s (by omega)
    refine (numberLen_none s (by omega) w).mono ?_
    rintro e w' ⟨rfl, rfl⟩
    rw [Lib.toList_data] at h0
    refine ⟨ret_int ?_, rfl⟩
    rw [h0]; rfl

end Go.Proofs.YtenhjddkocldaaaDoor
