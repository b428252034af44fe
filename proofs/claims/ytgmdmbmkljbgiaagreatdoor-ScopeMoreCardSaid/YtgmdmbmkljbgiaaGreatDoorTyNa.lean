/- Package lex, as package typetree uses it: letters, digits, words. -/
import Derived.Test.YtgmdmbmkljbgiaaGreatDoorTyZa
import Derived.Test.YtgmdmbmkljbgiaaGreatDoorLexM
import Derived.Lib.Strings
import Derived.Lib.IndexBytes
namespace Go.Proofs.YtgmdmbmkljbgiaaGreatDoor
open Go.RowKit

set_option maxHeartbeats 400000 in
theorem letter_any (b : Int) (h0 : 0 ≤ b) (h1 : b < 256) (w : World) :
    Calls Tryz.prog 109 #[.int .u8 b] w fun e w' => e = .returned (.bool (Lx.letB b)) ∧ w = w' := by
  go_enter Tryz.func109, Tryz.ntmps109
  go_wp2
  all_goals (go_ret; refine ⟨ret_bool ?_, rfl⟩; unfold Lx.letB; rw [Bool.eq_iff_iff]; simp; try omega)

set_option maxHeartbeats 400000 in
theorem digit_any (b : Int) (h0 : 0 ≤ b) (h1 : b < 256) (w : World) :
    Calls Tryz.prog 110 #[.int .u8 b] w fun e w' => e = .returned (.bool (Lx.digB b)) ∧ w = w' := by
  go_enter Tryz.func110, Tryz.ntmps110
  go_wp2
  all_goals (go_ret; refine ⟨ret_bool ?_, rfl⟩; unfold Lx.digB; rw [Bool.eq_iff_iff]; simp; try omega)

theorem toList_ne (s : ByteArray) (h : 0 < s.size) : ¬ s.toList = [] := by
  rw [Lib.toList_data]; intro e
  have h2 : s.data.toList.length = 0 := by rw [e]; rfl
  have h3 : s.data.toList.length = s.size := rfl
  omega
theorem toList_nil (s : ByteArray) (h : s.size = 0) : s.toList = [] := by
  rw [Lib.toList_data]; apply List.eq_nil_of_length_eq_zero; exact h
theorem list_cons (l : List UInt8) (h : 0 < l.length) : l = l[0] :: l.tail := by
  cases l with
  | nil => simp at h
  | cons c r => simp
theorem data_cons (s : ByteArray) (h : 0 < s.size) : s.data.toList = s[0] :: s.data.toList.tail := list_cons s.data.toList h

theorem byte_bd (c : UInt8) : 0 ≤ (c.toNat : Int) ∧ (c.toNat : Int) < 256 := ⟨by omega, by have := c.toNat_lt; omega⟩
theorem letter_byte (c : UInt8) (w : World) :
    Calls Tryz.prog 109 #[.int .u8 (c.toNat : Int)] w fun e w' => e = .returned (.bool (Lx.letB (c.toNat : Int))) ∧ w = w' :=
  letter_any _ (byte_bd c).1 (byte_bd c).2 w
theorem digit_byte (c : UInt8) (w : World) :
    Calls Tryz.prog 110 #[.int .u8 (c.toNat : Int)] w fun e w' => e = .returned (.bool (Lx.digB (c.toNat : Int))) ∧ w = w' :=
  digit_any _ (byte_bd c).1 (byte_bd c).2 w

set_option maxHeartbeats 400000 in
theorem wordLen_none (s : ByteArray) (h0 : s.toList = []) (w : World) :
    Calls Tryz.prog 90 #[.string s] w fun e w' => e = .returned (.int .i64 0) ∧ w = w' := by
  go_enter Tryz.func90, Tryz.ntmps90
  go_wp2_with fail
  go_ret
  exact ⟨rfl, rfl⟩

set_option maxHeartbeats 400000 in
theorem wordLen_no (s : ByteArray) (_h0 : ¬ s.toList = []) (h0' : s.toList.isEmpty = false) (h1 : 0 < s.size) (hl : Lx.letB (s[0].toNat : Int) = false) (w : World) :
    Calls Tryz.prog 90 #[.string s] w fun e w' => e = .returned (.int .i64 0) ∧ w = w' := by
  go_enter Tryz.func90, Tryz.ntmps90
  go_wp2_with (go_at_call 109; refine (letter_byte _ _).mono ?_; rintro e w' ⟨rfl, rfl⟩)
  go_ret
  exact ⟨rfl, rfl⟩

def AllWc (s : ByteArray) (k : Nat) : Prop := ∀ j (h : j < s.size), 1 ≤ j → j < k → Lx.wcU s[j] = true

set_option maxHeartbeats 400000 in
theorem wordLen_yes (s : ByteArray) (_h0 : ¬ s.toList = []) (h0' : s.toList.isEmpty = false) (h1 : 0 < s.size) (hs : s.size ≤ 9223372036854775807) (hl : Lx.letB (s[0].toNat : Int) = true) (w : World) :
    Calls Tryz.prog 90 #[.string s] w fun e w' => (∃ k : Nat, e = .returned (.int .i64 k) ∧ 1 ≤ k ∧ k ≤ s.size ∧ AllWc s k ∧ (∀ h : k < s.size, Lx.wcU s[k] = false)) ∧ w = w' := by
  go_enter Tryz.func90, Tryz.ntmps90
  go_wp2_with (go_at_call 109; refine (letter_byte _ _).mono ?_; rintro e w' ⟨rfl, rfl⟩)
  go_loop [3] (fun n => ∃ k : Nat, 1 ≤ k ∧ k ≤ s.size ∧ n = .int .i64 k ∧ AllWc s k) (fun n => s.size - (intOf n).toNat)
  case atStart => exact ⟨1, by omega, by omega, rfl, fun j _ h3 h4 => by omega⟩
  case round =>
    obtain ⟨k, hk1, hk2, rfl, ha⟩ := hrel
    by_cases hlt : k < s.size
    · by_cases hw : Lx.wcU s[k] = true
      · have hnext : AllWc s (k + 1) := by
          intro j hj h3 h4
          by_cases e : j = k
          · subst e; exact hw
          · exact ha j hj h3 (by omega)
        by_cases hle : Lx.letB (s[k].toNat : Int) = true
        · clear hw
          go_wp2_with (first | (go_at_call 109; refine (letter_byte _ _).mono ?_; rintro e w' ⟨rfl, rfl⟩) | (go_at_call 110; refine (digit_byte _ _).mono ?_; rintro e w' ⟨rfl, rfl⟩))
          go_round
          case rel => exact ⟨k + 1, by omega, by omega, by go_num, hnext⟩
          case measure => simp [intOf]; omega
        · have hle' : Lx.letB (s[k].toNat : Int) = false := by simpa using hle
          have hd : Lx.digB (s[k].toNat : Int) = true := by simpa [Lx.wcU, Lx.letU, Lx.digU, hle'] using hw
          clear hw hle
          go_wp2_with (first | (go_at_call 109; refine (letter_byte _ _).mono ?_; rintro e w' ⟨rfl, rfl⟩) | (go_at_call 110; refine (digit_byte _ _).mono ?_; rintro e w' ⟨rfl, rfl⟩))
          go_round
          case rel => exact ⟨k + 1, by omega, by omega, by go_num, hnext⟩
          case measure => simp [intOf]; omega
      · have hw' : Lx.wcU s[k] = false := by simpa using hw
        have hle : Lx.letB (s[k].toNat : Int) = false := by simp [Lx.wcU, Lx.letU] at hw'; exact hw'.1
        have hd : Lx.digB (s[k].toNat : Int) = false := by simp [Lx.wcU, Lx.digU] at hw'; exact hw'.2
        clear hw
        have H := Lib.hid hw'
        clear hw'
        go_wp2_with (first | (go_at_call 109; refine (letter_byte _ _).mono ?_; rintro e w' ⟨rfl, rfl⟩) | (go_at_call 110; refine (digit_byte _ _).mono ?_; rintro e w' ⟨rfl, rfl⟩))
        go_ret
        exact ⟨⟨k, rfl, hk1, hk2, ha, fun _ => H.out⟩, rfl⟩
    · go_wp2
      go_ret
      exact ⟨⟨k, rfl, hk1, hk2, ha, fun h => absurd h hlt⟩, rfl⟩

theorem wordLen_any (s : ByteArray) (hs : s.size ≤ maxLen) (w : World) :
    Calls Tryz.prog 90 #[.string s] w fun e w' => e = .returned (.int .i64 (Lx.wordLen s.data.toList)) ∧ w = w' := by
  unfold maxLen at hs
  by_cases h1 : 0 < s.size
  · have hc := data_cons s h1
    have h0 := toList_ne s h1
    have h0' : s.toList.isEmpty = false := by simpa using h0
    by_cases hl : Lx.letB (s[0].toNat : Int) = true
    · refine (wordLen_yes s h0 h0' h1 (by omega) hl w).mono ?_
      rintro e w' ⟨⟨k, rfl, hk1, hk2, ha, hb⟩, rfl⟩
      refine ⟨ret_int ?_, rfl⟩
      rw [hc]; simp only [Lx.wordLen]
      rw [if_pos (show Lx.letU s[0] = true from hl)]
      have hz : s.data.toList.tail.length + 1 = s.size := by have := congrArg List.length hc; simp at this; simp; omega
      have : Lx.span Lx.wcU s.data.toList.tail = k - 1 := by
        refine Lx.span_eq _ _ _ (by omega) (fun j h hj => ?_) (fun h => ?_)
        · have := ha (j + 1) (by omega) (by omega) (by omega)
          rw [List.getElem_tail]; exact this
        · have := hb (by omega)
          rw [List.getElem_tail]
          have e : k - 1 + 1 = k := by omega
          simp only [e]; exact this
      omega
    · have hl' : Lx.letB (s[0].toNat : Int) = false := by simpa using hl
      refine (wordLen_no s h0 h0' h1 hl' w).mono ?_
      rintro e w' ⟨rfl, rfl⟩
      refine ⟨ret_int ?_, rfl⟩
      rw [hc]; simp only [Lx.wordLen]
      rw [if_neg (by simpa [Lx.letU] using hl)]; rfl
  · have h0 := toList_nil s (by omega)
    refine (wordLen_none s h0 w).mono ?_
    rintro e w' ⟨rfl, rfl⟩
    rw [Lib.toList_data] at h0
    refine ⟨ret_int ?_, rfl⟩
    rw [h0]; rfl

end Go.Proofs.YtgmdmbmkljbgiaaGreatDoor
