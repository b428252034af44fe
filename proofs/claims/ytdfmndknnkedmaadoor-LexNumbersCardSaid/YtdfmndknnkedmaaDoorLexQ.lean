/- The decimal text of a number. -/
import Derived.Test.YtdfmndknnkedmaaDoorLexP
import Derived.Lib.ItoaNum
import Derived.Lib.ItoaMem
import Derived.Lib.ItoaLen
namespace Go.Proofs.YtdfmndknnkedmaaDoor
open Go.RowKit Go.Shelf

theorem digit_cut (d : Nat) (h : d ≤ 9) : (⟨#[48, 49, 50, 51, 52, 53, 54, 55, 56, 57]⟩ : ByteArray).extract d (d + 1) = txt [UInt8.ofNat (48 + d)] := by
  match d, h with
  | 0, _ => rfl
  | 1, _ => rfl
  | 2, _ => rfl
  | 3, _ => rfl
  | 4, _ => rfl
  | 5, _ => rfl
  | 6, _ => rfl
  | 7, _ => rfl
  | 8, _ => rfl
  | 9, _ => rfl
theorem txt_app (a b : List UInt8) : txt a ++ txt b = txt (a ++ b) := by
  apply ByteArray.ext
  unfold txt
  simp [ByteArray.data_append]
theorem txt_size (a : List UInt8) : (txt a).size = a.length := rfl

theorem dec_step (k : Nat) (h : ¬ k ≤ 9) : Lib.decDigits k = Lib.decDigits (k / 10) ++ [UInt8.ofNat (48 + k % 10)] := by
  rw [Lib.decDigits, dif_neg (by omega)]
theorem dec_one (k : Nat) (h : k ≤ 9) : Lib.decDigits k = [UInt8.ofNat (48 + k)] := Lib.decDigits_one (by omega)
theorem dec_len (m : Nat) (hm : m ≤ 9223372036854775808) : (Lib.decDigits m).length ≤ 21 := by
  by_cases h : m = 9223372036854775808
  · have := Lib.itoa_length_le (-(m : Int)) (by omega) (by omega)
    rw [Lib.itoa_neg m (by omega)] at this; simp at this; omega
  · have := Lib.itoa_length_le (m : Int) (by omega) (by omega)
    rwa [Lib.itoa_nonneg] at this

set_option maxHeartbeats 400000 in
theorem decimal_nat (m : Nat) (hm : m ≤ 9223372036854775807) (w : World) :
    Calls Tryd.prog 19 #[.int .i64 m] w fun e w' => e = .returned (.string (txt (Lib.decDigits m))) ∧ w = w' := by
  have h1 : ((m : Int) == -9223372036854775808) = false := by rw [beq_eq_false_iff_ne]; omega
  have h2 : ¬ (m : Int) < 0 := by omega
  have hml := dec_len m (by omega)
  go_enter Tryd.func19, Tryd.ntmps19
  go_wp2_with fail
  go_loop [0, 3, 4] (fun n s _ => ∃ (k : Nat) (l : List UInt8), n = .int .i64 k ∧ k ≤ 9223372036854775807 ∧ s = .string (txt l) ∧ Hid (Lib.decDigits k ++ l = Lib.decDigits m)) (fun n _ _ => (intOf n).toNat)
  case atStart => exact ⟨m, [], rfl, hm, rfl, Lib.hid (by simp)⟩
  case round =>
    obtain ⟨k, l, rfl, hk, rfl, hd⟩ := hrel
    have hl : (txt l).size ≤ 21 := by have := congrArg List.length hd.out; rw [List.length_append] at this; rw [txt_size]; omega
    clear hml
    by_cases hlt : k ≤ 9
    · have hlt' : (k : Int) ≤ 9 := by omega
      have hx : ((⟨#[48, 49, 50, 51, 52, 53, 54, 55, 56, 57]⟩ : ByteArray).extract k (k + 1)).size ≤ 10 := by rw [digit_cut k hlt, txt_size]; simp
      go_wp2_with fail
      go_ret
      refine ⟨?_, rfl⟩
      rw [digit_cut k hlt, txt_app, ← hd.out, dec_one k hlt]; rfl
    · have hlt' : 9 < (k : Int) := by omega
      have hx : ((⟨#[48, 49, 50, 51, 52, 53, 54, 55, 56, 57]⟩ : ByteArray).extract (k % 10) (k % 10 + 1)).size ≤ 10 := by rw [digit_cut (k % 10) (by omega), txt_size]; simp
      go_wp2_with fail
      go_round
      case rel => exact ⟨k / 10, _, by go_num, by omega, by rw [digit_cut (k % 10) (by omega), txt_app], Lib.hid (by rw [← hd.out, dec_step k hlt]; simp)⟩
      case measure => simp [intOf]; omega

theorem txt_minus (l : List UInt8) : (⟨#[45]⟩ : ByteArray) ++ txt l = txt (45 :: l) := txt_app [45] l

set_option maxHeartbeats 400000 in
theorem decimal_neg (m : Nat) (h0 : 1 ≤ m) (hm : m ≤ 9223372036854775807) (w : World) :
    Calls Tryd.prog 19 #[.int .i64 (-(m : Int))] w fun e w' => e = .returned (.string (txt (45 :: Lib.decDigits m))) ∧ w = w' := by
  have h1 : ((-(m : Int)) == -9223372036854775808) = false := by rw [beq_eq_false_iff_ne]; omega
  have h2 : (-(m : Int)) < 0 := by omega
  have hml : (txt (Lib.decDigits m)).size ≤ 21 := dec_len m (by omega)
  go_enter Tryd.func19, Tryd.ntmps19
  go_wp2_with fail
  refine (decimal_nat m hm _).mono ?_
  rintro e w' ⟨rfl, rfl⟩
  go_wp2_with fail
  go_ret
  exact ⟨by rw [txt_minus]; rfl, rfl⟩

theorem decimal_min (w : World) :
    Calls Tryd.prog 19 #[.int .i64 (-9223372036854775808)] w fun e w' => e = .returned (.string ⟨#[45, 57, 50, 50, 51, 51, 55, 50, 48, 51, 54, 56, 53, 52, 55, 55, 53, 56, 48, 56]⟩) ∧ w = w' := by
  go_enter Tryd.func19, Tryd.ntmps19
  go_wp2_with fail
  go_ret
  exact ⟨rfl, rfl⟩
theorem itoa_min : Lib.itoa (-9223372036854775808) = [45, 57, 50, 50, 51, 51, 55, 50, 48, 51, 54, 56, 53, 52, 55, 55, 53, 56, 48, 56] := by
  have h : ((-9223372036854775808 : Int)) = -((9223372036854775808 : Nat) : Int) := by decide
  rw [h, Lib.itoa_neg 9223372036854775808 (by decide)]
  have s : ∀ k, ¬ k ≤ 9 → Lib.decDigits k = Lib.decDigits (k / 10) ++ [UInt8.ofNat (48 + k % 10)] := dec_step
  rw [s 9223372036854775808 (by decide), show 9223372036854775808 / 10 = 922337203685477580 from by decide, s 922337203685477580 (by decide), show 922337203685477580 / 10 = 92233720368547758 from by decide,
    s 92233720368547758 (by decide), show 92233720368547758 / 10 = 9223372036854775 from by decide, s 9223372036854775 (by decide), show 9223372036854775 / 10 = 922337203685477 from by decide,
    s 922337203685477 (by decide), show 922337203685477 / 10 = 92233720368547 from by decide, s 92233720368547 (by decide), show 92233720368547 / 10 = 9223372036854 from by decide,
    s 9223372036854 (by decide), show 9223372036854 / 10 = 922337203685 from by decide, s 922337203685 (by decide), show 922337203685 / 10 = 92233720368 from by decide,
    s 92233720368 (by decide), show 92233720368 / 10 = 9223372036 from by decide, s 9223372036 (by decide), show 9223372036 / 10 = 922337203 from by decide,
    s 922337203 (by decide), show 922337203 / 10 = 92233720 from by decide, s 92233720 (by decide), show 92233720 / 10 = 9223372 from by decide,
    s 9223372 (by decide), show 9223372 / 10 = 922337 from by decide, s 922337 (by decide), show 922337 / 10 = 92233 from by decide, s 92233 (by decide), show 92233 / 10 = 9223 from by decide,
    s 9223 (by decide), show 9223 / 10 = 922 from by decide, s 922 (by decide), show 922 / 10 = 92 from by decide, s 92 (by decide), show 92 / 10 = 9 from by decide, dec_one 9 (by decide)]
  rfl

theorem decimal_any (n : Int) (h0 : -9223372036854775808 ≤ n) (h1 : n ≤ 9223372036854775807) (w : World) :
    Calls Tryd.prog 19 #[.int .i64 n] w fun e w' => e = .returned (.string (txt (Lib.itoa n))) ∧ w = w' := by
  by_cases hn : 0 ≤ n
  · obtain ⟨m, rfl⟩ := Int.eq_ofNat_of_zero_le hn
    rw [Lib.itoa_nonneg]; exact decimal_nat m (by omega) w
  · by_cases hm : n = -9223372036854775808
    · subst hm; rw [itoa_min]; exact decimal_min w
    · obtain ⟨m, rfl⟩ : ∃ m : Nat, n = -(m : Int) := ⟨n.natAbs, by omega⟩
      rw [Lib.itoa_neg m (by omega)]; exact decimal_neg m (by omega) (by omega) w

end Go.Proofs.YtdfmndknnkedmaaDoor
