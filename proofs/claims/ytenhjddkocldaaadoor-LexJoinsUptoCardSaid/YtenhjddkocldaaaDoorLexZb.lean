/- The reference's values. -/
import Derived.Test.YtenhjddkocldaaaDoorLexZa
namespace Go.Proofs.YtenhjddkocldaaaDoor
open Go.RowKit Go.Shelf Go.Deep

theorem tdiv_neg10 (A : Nat) : Int.tdiv (-(A : Int)) 10 = -((A / 10 : Nat) : Int) := by
  rw [Int.neg_tdiv]; rfl
theorem tdiv_pos10 (A : Nat) : Int.tdiv (A : Int) 10 = ((A / 10 : Nat) : Int) := rfl
def okT (v : Int) : Value := .tuple #[.int .i64 v, .bool true]
def noT : Value := .tuple #[.int .i64 0, .bool false]
def negT (x : Nat) : Value := if x ≤ 2 ^ 63 then okT (-(x : Int)) else noT
def posT (x : Nat) : Value := if x < 2 ^ 63 then okT x else noT

set_option maxHeartbeats 1000000 in
theorem rvalue_minus (s : ByteArray) (hs : s.size ≤ 281474976710656) (h0 : 0 < s.size) (h45 : ((s[0].toNat : Int) == 45) = true) (hd : Hid (∀ j (h : j < s.size), 1 ≤ j → 48 ≤ s[j].toNat ∧ s[j].toNat ≤ 57)) (w : World) :
    Calls Tryd.prog 24 #[.string s] w fun e w' => e = .returned (negT (vAt s 1 (s.size - 1))) ∧ Drew w w' := by
  go_enter Tryd.func24, Tryd.ntmps24
  go_wp2_with fail
  go_loopw [4, 5] (fun v n wr => ∃ k x : Nat, 1 + k ≤ s.size ∧ n = .int .i64 ((1 + k : Nat) : Int) ∧ x ≤ 9223372036854775808 ∧ Hid (vAt s 1 k = x) ∧ v = .int .i64 (-(x : Int)) ∧ Drew w wr) (fun _ n _ => s.size - (intOf n).toNat)
  case atStart => exact ⟨0, 0, by omega, by go_num, by omega, Lib.hid (vAt_zero _ _), by go_num, Drew.refl _⟩
  case round =>
    obtain ⟨k, x, hk, rfl, hx, hv, rfl, hdr⟩ := hrel
    by_cases hlt : 1 + k < s.size
    · obtain ⟨hc1, hc2⟩ := hd.out (1 + k) hlt (by omega)
      have hvs := vAt_succ s 1 k hlt
      have hvl := vAt_le s 1 (k + 1) (s.size - 1) (by omega)
      rw [hv.out] at hvs
      have hq : (-9223372036854775808 + ((s[1 + k].toNat : Int) - 48)).tdiv 10 = -(((9223372036854775808 - (s[1 + k].toNat - 48)) / 10 : Nat) : Int) := by
        rw [← tdiv_neg10]; congr 1; omega
      by_cases hov : 10 * x + (s[1 + k].toNat - 48) ≤ 9223372036854775808
      · have hqd : decide (-(x : Int) < (-9223372036854775808 + ((s[1 + k].toNat : Int) - 48)).tdiv 10) = false := by
          rw [hq]; simp; omega
        have HVS := Lib.hid hvs
        clear hvs hvl hq
        go_wp2_with fail
        go_roundw
        case rel => exact ⟨k + 1, 10 * x + (s[1 + k].toNat - 48), by omega, by go_num, hov, HVS, by go_num, hdr⟩
        case measure => simp [intOf]; omega
      · have hqd : decide (-(x : Int) < (-9223372036854775808 + ((s[1 + k].toNat : Int) - 48)).tdiv 10) = true := by
          rw [hq]; simp; omega
        have HR := Lib.hid (show negT (vAt s 1 (s.size - 1)) = noT by unfold negT; rw [if_neg (by omega)])
        clear hvs hvl hq
        go_wp2_with fail
        rw [HR.out]
        exact bodyPost_ret (v := noT) (by simp [results, Tryd.results24, go_sem, noT]) rfl ⟨rfl, hdr⟩
    · have e : s.size - 1 = k := by omega
      have HR := Lib.hid (show negT (vAt s 1 (s.size - 1)) = okT (-(x : Int)) by unfold negT; rw [e, hv.out, if_pos (by omega)])
      clear e
      go_wp2_with fail
      rw [HR.out]
      exact bodyPost_ret (v := okT (-(x : Int))) (by simp [results, Tryd.results24, go_sem, okT]) rfl ⟨rfl, hdr⟩

set_option maxHeartbeats 1000000 in
theorem rvalue_plain (s : ByteArray) (hs : s.size ≤ 281474976710656) (h0 : 0 < s.size) (h45 : ((s[0].toNat : Int) == 45) = false) (hd : Hid (∀ j (h : j < s.size), 48 ≤ s[j].toNat ∧ s[j].toNat ≤ 57)) (w : World) :
    Calls Tryd.prog 24 #[.string s] w fun e w' => e = .returned (posT (vAt s 0 s.size)) ∧ Drew w w' := by
  go_enter Tryd.func24, Tryd.ntmps24
  go_wp2_with fail
  go_loopw [7, 8] (fun v n wr => ∃ k x : Nat, k ≤ s.size ∧ n = .int .i64 (k : Int) ∧ x ≤ 9223372036854775807 ∧ Hid (vAt s 0 k = x) ∧ v = .int .i64 (x : Int) ∧ Drew w wr) (fun _ n _ => s.size - (intOf n).toNat)
  case atStart => exact ⟨0, 0, by omega, by go_num, by omega, Lib.hid (vAt_zero _ _), by go_num, Drew.refl _⟩
  case round =>
    obtain ⟨k, x, hk, rfl, hx, hv, rfl, hdr⟩ := hrel
    by_cases hlt : k < s.size
    · obtain ⟨hc1, hc2⟩ := hd.out k hlt
      have hvs := vAt_succ s 0 k (by omega)
      have hvl := vAt_le s 0 (k + 1) s.size (by omega)
      rw [hv.out] at hvs
      simp only [Nat.zero_add] at hvs
      have hq : (9223372036854775807 - ((s[k].toNat : Int) - 48)).tdiv 10 = (((9223372036854775807 - (s[k].toNat - 48)) / 10 : Nat) : Int) := by
        rw [← tdiv_pos10]; congr 1; omega
      by_cases hov : 10 * x + (s[k].toNat - 48) ≤ 9223372036854775807
      · have hqd : decide ((9223372036854775807 - ((s[k].toNat : Int) - 48)).tdiv 10 < (x : Int)) = false := by
          rw [hq]; simp; omega
        have HVS := Lib.hid hvs
        clear hvs hvl hq
        go_wp2_with fail
        go_roundw
        case rel => exact ⟨k + 1, 10 * x + (s[k].toNat - 48), by omega, by go_num, hov, HVS, by go_num, hdr⟩
        case measure => simp [intOf]; omega
      · have hqd : decide ((9223372036854775807 - ((s[k].toNat : Int) - 48)).tdiv 10 < (x : Int)) = true := by
          rw [hq]; simp; omega
        have HR := Lib.hid (show posT (vAt s 0 s.size) = noT by unfold posT; rw [if_neg (by omega)])
        clear hvs hvl hq
        go_wp2_with fail
        rw [HR.out]
        exact bodyPost_ret (v := noT) (by simp [results, Tryd.results24, go_sem, noT]) rfl ⟨rfl, hdr⟩
    · have e : s.size = k := by omega
      have HR := Lib.hid (show posT (vAt s 0 s.size) = okT (x : Int) by unfold posT; rw [e, hv.out, if_pos (by omega)])
      clear e
      go_wp2_with fail
      rw [HR.out]
      exact bodyPost_ret (v := okT (x : Int)) (by simp [results, Tryd.results24, go_sem, okT]) rfl ⟨rfl, hdr⟩

end Go.Proofs.YtenhjddkocldaaaDoor
