/- The reference's numbers. -/
import Derived.Test.YtenhjddkocldaaaDoorLexU
namespace Go.Proofs.YtenhjddkocldaaaDoor
open Go.RowKit Go.Shelf Go.Deep

def AllDigFrom (s : ByteArray) (k : Nat) : Prop := ∀ j (h : j < s.size), j < k → Lx.digU s[j] = true
/-- A number, all of it. -/
def rTail : List UInt8 → Bool
  | [] => false
  | c :: r => c != 48 && (c :: r).all Lx.digU
def rNum (l : List UInt8) : Bool :=
  if l = [48] then true else if l.head? = some 45 then rTail l.tail else rTail l

theorem rtail_nil (s : ByteArray) (h : s.size = 0) : rTail s.data.toList = false := by
  have := toList_nil s h
  rw [Lib.toList_data] at this
  rw [this]; rfl
theorem rtail_first (s : ByteArray) (h : 0 < s.size) (h48 : s[0] = 48) : rTail s.data.toList = false := by
  rw [data_cons s h, h48]; rfl
theorem rtail_true (s : ByteArray) (h : 0 < s.size) (h48 : s[0] ≠ 48) (ha : AllDigFrom s s.size) : rTail s.data.toList = true := by
  have hall : s.data.toList.all Lx.digU = true := by
    rw [List.all_eq_true]
    intro x hx
    obtain ⟨j, hj, e⟩ := List.mem_iff_getElem.1 hx
    rw [← e]; exact ha j hj hj
  rw [data_cons s h] at hall ⊢
  simp only [rTail]
  rw [hall, Bool.and_true]; simpa using h48
theorem rtail_false (s : ByteArray) (k : Nat) (hk : k < s.size) (hd : Lx.digU s[k] = false) : rTail s.data.toList = false := by
  have hall : s.data.toList.all Lx.digU = false := by
    rw [Bool.eq_false_iff]; intro h
    rw [List.all_eq_true] at h
    have := h (s.data.toList[k]'hk) (List.getElem_mem _)
    have e : s.data.toList[k]'hk = s[k] := rfl
    rw [e, hd] at this; cases this
  have h : 0 < s.size := by omega
  rw [data_cons s h] at hall ⊢
  simp only [rTail]
  rw [hall, Bool.and_false]
theorem rnum_minus (s : ByteArray) (h : 0 < s.size) (h45 : s[0] = 45) : rNum s.data.toList = rTail (s.extract 1 s.size).data.toList := by
  have e : (s.extract 1 s.size).data.toList = s.data.toList.tail := by rw [Lib.extract_to_end, List.drop_one]
  rw [e]
  unfold rNum
  rw [data_cons s h, h45]; simp
theorem rnum_plain (s : ByteArray) (h1 : (s.toList == [48]) = false) (h45 : ∀ h : 0 < s.size, s[0] ≠ 45) : rNum s.data.toList = rTail s.data.toList := by
  unfold rNum
  have h1' : s.data.toList ≠ [48] := by rw [← Lib.toList_data]; simpa using h1
  rw [if_neg h1']
  by_cases h : 0 < s.size
  · have h2 := h45 h
    rw [data_cons s h]; simp [h2]
  · have := toList_nil s (by omega)
    rw [Lib.toList_data] at this
    rw [this]; rfl

theorem rnum_zero (s : ByteArray) (h0 : (s.toList == [48]) = true) (w : World) :
    Calls Tryd.prog 31 #[.string s] w fun e w' => e = .returned (.bool true) ∧ Drew w w' := by
  go_enter Tryd.func31, Tryd.ntmps31
  go_wp2_with fail
  go_ret
  exact ⟨rfl, Drew.refl _⟩

theorem rnum_m1 (s : ByteArray) (h0 : (s.toList == [48]) = false) (hs : 0 < s.size) (hm : ((s[0].toNat : Int) == 45) = true) (h1 : s.size - 1 = 0) (w : World) :
    Calls Tryd.prog 31 #[.string s] w fun e w' => e = .returned (.bool false) ∧ Drew w w' := by
  go_enter Tryd.func31, Tryd.ntmps31
  go_wp2_with fail
  go_ret
  exact ⟨rfl, Drew.refl _⟩

theorem rnum_m2 (s : ByteArray) (h0 : (s.toList == [48]) = false) (hs : 0 < s.size) (hm : ((s[0].toNat : Int) == 45) = true) (_h1 : ¬ s.size - 1 = 0) (_h2 : 0 < s.size - 1) (_h3 : (((s.size - 1 : Nat) : Int) == 0) = false) (_h4 : ((((s.extract 1 s.size)[0]'(by simp; omega)).toNat : Int) == 48) = true) (w : World) :
    Calls Tryd.prog 31 #[.string s] w fun e w' => e = .returned (.bool false) ∧ Drew w w' := by
  go_enter Tryd.func31, Tryd.ntmps31
  go_wp2_with fail
  go_ret
  exact ⟨rfl, Drew.refl _⟩

theorem rnum_p1 (s : ByteArray) (h0 : (s.toList == [48]) = false) (hs : s.size = 0) (w : World) :
    Calls Tryd.prog 31 #[.string s] w fun e w' => e = .returned (.bool false) ∧ Drew w w' := by
  go_enter Tryd.func31, Tryd.ntmps31
  go_wp2_with fail
  go_ret
  exact ⟨rfl, Drew.refl _⟩

theorem rnum_p2 (s : ByteArray) (h0 : (s.toList == [48]) = false) (hs : 0 < s.size) (hm : ((s[0].toNat : Int) == 45) = false) (_h3 : ((s.size : Int) == 0) = false) (_h4 : ((s[0].toNat : Int) == 48) = true) (w : World) :
    Calls Tryd.prog 31 #[.string s] w fun e w' => e = .returned (.bool false) ∧ Drew w w' := by
  go_enter Tryd.func31, Tryd.ntmps31
  go_wp2_with fail
  go_ret
  exact ⟨rfl, Drew.refl _⟩

set_option maxHeartbeats 1000000 in
theorem rnum_m3 (s : ByteArray) (hsz : s.size ≤ 9223372036854775807) (h0 : (s.toList == [48]) = false) (hs : 0 < s.size) (hm : ((s[0].toNat : Int) == 45) = true) (_h1 : ¬ s.size - 1 = 0) (_h2 : 0 < s.size - 1) (_h3 : (((s.size - 1 : Nat) : Int) == 0) = false) (_h4 : ((((s.extract 1 s.size)[0]'(by simp; omega)).toNat : Int) == 48) = false) (h48 : Hid ((s.extract 1 s.size)[0]'(by simp; omega) ≠ 48)) (w : World) :
    Calls Tryd.prog 31 #[.string s] w fun e w' => e = .returned (.bool (rTail (s.extract 1 s.size).data.toList)) ∧ Drew w w' := by
  have hS : (s.extract 1 s.size).size = s.size - 1 := by simp
  have HS := Lib.hid hS
  clear hS
  go_enter Tryd.func31, Tryd.ntmps31
  go_wp2_with fail
  go_loopw [3] (fun n wr => ∃ k : Nat, k ≤ s.size - 1 ∧ n = .int .i64 k ∧ AllDigFrom (s.extract 1 s.size) k ∧ Drew w wr) (fun n _ => s.size - 1 - (intOf n).toNat)
  case atStart => exact ⟨0, by omega, rfl, fun j _ h => by omega, Drew.refl _⟩
  case round =>
    obtain ⟨k, hk, rfl, ha, hdr⟩ := hrel
    by_cases hlt : k < s.size - 1
    · have hk0 : (0 : Int) ≤ (k : Int) := Int.natCast_nonneg _
      have hk3 : (k : Int) < ((s.size - 1 : Nat) : Int) := by omega
      have hlt' : k < (s.extract 1 s.size).size := by rw [HS.out]; exact hlt
      by_cases hd : Lx.digB (((s.extract 1 s.size)[k]'hlt').toNat : Int) = true
      · have hnext : AllDigFrom (s.extract 1 s.size) (k + 1) := fun j hj h => by
          by_cases e : j = k
          · subst e; exact hd
          · exact ha j hj (by omega)
        go_wp2_with fail
        go_quiet (first | (go_at_call 35; exact Calls.quiet_of_same (digits_any _)) | (go_at_call 21; exact Calls.quiet_of_same (in_digits _ _)))
        go_wp2_with fail
        go_roundw
        case rel => exact ⟨k + 1, by omega, by go_num, hnext, hdr.more _⟩
        case measure => simp [intOf]; omega
      · have hd' : Lx.digB (((s.extract 1 s.size)[k]'hlt').toNat : Int) = false := by simpa using hd
        have HR := Lib.hid (rtail_false (s.extract 1 s.size) k hlt' hd')
        clear hd
        go_wp2_with fail
        go_quiet (first | (go_at_call 35; exact Calls.quiet_of_same (digits_any _)) | (go_at_call 21; exact Calls.quiet_of_same (in_digits _ _)))
        go_wp2
        go_ret
        exact ⟨ret_bool HR.out.symm, hdr.more _⟩
    · have ha' : AllDigFrom (s.extract 1 s.size) (s.extract 1 s.size).size := by
        have e : k = s.size - 1 := by omega
        rw [HS.out, ← e]; exact ha
      have HR := Lib.hid (rtail_true (s.extract 1 s.size) (by rw [HS.out]; omega) h48.out ha')
      go_wp2
      go_ret
      exact ⟨ret_bool HR.out.symm, hdr⟩

set_option maxHeartbeats 1000000 in
theorem rnum_p3 (s : ByteArray) (hsz : s.size ≤ 9223372036854775807) (h0 : (s.toList == [48]) = false) (hs : 0 < s.size) (hm : ((s[0].toNat : Int) == 45) = false) (_h3 : ((s.size : Int) == 0) = false) (_h4 : ((s[0].toNat : Int) == 48) = false) (h48 : Hid (s[0] ≠ 48)) (w : World) :
    Calls Tryd.prog 31 #[.string s] w fun e w' => e = .returned (.bool (rTail s.data.toList)) ∧ Drew w w' := by
  go_enter Tryd.func31, Tryd.ntmps31
  go_wp2_with fail
  go_loopw [3] (fun n wr => ∃ k : Nat, k ≤ s.size ∧ n = .int .i64 k ∧ AllDigFrom (s) k ∧ Drew w wr) (fun n _ => s.size - (intOf n).toNat)
  case atStart => exact ⟨0, by omega, rfl, fun j _ h => by omega, Drew.refl _⟩
  case round =>
    obtain ⟨k, hk, rfl, ha, hdr⟩ := hrel
    by_cases hlt : k < s.size
    · have hk0 : (0 : Int) ≤ (k : Int) := Int.natCast_nonneg _
      have hk3 : (k : Int) < ((s.size : Nat) : Int) := by omega
      have hlt' : k < s.size := hlt
      by_cases hd : Lx.digB ((s[k]'hlt').toNat : Int) = true
      · have hnext : AllDigFrom (s) (k + 1) := fun j hj h => by
          by_cases e : j = k
          · subst e; exact hd
          · exact ha j hj (by omega)
        go_wp2_with fail
        go_quiet (first | (go_at_call 35; exact Calls.quiet_of_same (digits_any _)) | (go_at_call 21; exact Calls.quiet_of_same (in_digits _ _)))
        go_wp2_with fail
        go_roundw
        case rel => exact ⟨k + 1, by omega, by go_num, hnext, hdr.more _⟩
        case measure => simp [intOf]; omega
      · have hd' : Lx.digB ((s[k]'hlt').toNat : Int) = false := by simpa using hd
        have HR := Lib.hid (rtail_false (s) k hlt' hd')
        clear hd
        go_wp2_with fail
        go_quiet (first | (go_at_call 35; exact Calls.quiet_of_same (digits_any _)) | (go_at_call 21; exact Calls.quiet_of_same (in_digits _ _)))
        go_wp2
        go_ret
        exact ⟨ret_bool HR.out.symm, hdr.more _⟩
    · have ha' : AllDigFrom s s.size := by
        have e : k = s.size := by omega
        rw [← e]; exact ha
      have HR := Lib.hid (rtail_true s (by omega) h48.out ha')
      go_wp2
      go_ret
      exact ⟨ret_bool HR.out.symm, hdr⟩

theorem rnum_any (s : ByteArray) (hs : s.size ≤ 9223372036854775807) (w : World) :
    Calls Tryd.prog 31 #[.string s] w fun e w' => e = .returned (.bool (rNum s.data.toList)) ∧ Drew w w' := by
  have b48 : ∀ c : UInt8, c ≠ 48 → ((c.toNat : Int) == 48) = false := fun c h => by
    rw [beq_eq_false_iff_ne]; intro e; apply h; apply UInt8.toNat_inj.1; have : (48 : UInt8).toNat = 48 := rfl; omega
  cases hz : (s.toList == [48]) with
  | true =>
    refine (rnum_zero s hz w).mono ?_
    rintro e w' ⟨rfl, h⟩
    refine ⟨ret_bool ?_, h⟩
    unfold rNum; rw [if_pos (by rw [← Lib.toList_data]; simpa using hz)]
  | false =>
    by_cases h0 : 0 < s.size
    · by_cases h45 : s[0] = 45
      · have hm : ((s[0].toNat : Int) == 45) = true := by rw [h45]; rfl
        rw [rnum_minus s h0 h45]
        by_cases h1 : s.size - 1 = 0
        · refine (rnum_m1 s hz h0 hm h1 w).mono ?_
          rintro e w' ⟨rfl, h⟩
          exact ⟨ret_bool (rtail_nil _ (by rw [ByteArray.size_extract]; omega)).symm, h⟩
        · have h2 : 0 < s.size - 1 := by omega
          have h3 : (((s.size - 1 : Nat) : Int) == 0) = false := by rw [beq_eq_false_iff_ne]; omega
          have hz2 : 0 < (s.extract 1 s.size).size := by rw [ByteArray.size_extract]; omega
          by_cases h48 : (s.extract 1 s.size)[0]'hz2 = 48
          · refine (rnum_m2 s hz h0 hm h1 h2 h3 (by rw [h48]; rfl) w).mono ?_
            rintro e w' ⟨rfl, h⟩
            exact ⟨ret_bool (rtail_first _ hz2 h48).symm, h⟩
          · exact rnum_m3 s hs hz h0 hm h1 h2 h3 (b48 _ h48) (Lib.hid h48) w
      · have hm : ((s[0].toNat : Int) == 45) = false := by
          rw [beq_eq_false_iff_ne]; intro e; apply h45; apply UInt8.toNat_inj.1; have : (45 : UInt8).toNat = 45 := rfl; omega
        have h3 : ((s.size : Int) == 0) = false := by rw [beq_eq_false_iff_ne]; omega
        rw [rnum_plain s hz (fun _ => h45)]
        by_cases h48 : s[0] = 48
        · refine (rnum_p2 s hz h0 hm h3 (by rw [h48]; rfl) w).mono ?_
          rintro e w' ⟨rfl, h⟩
          exact ⟨ret_bool (rtail_first _ h0 h48).symm, h⟩
        · exact rnum_p3 s hs hz h0 hm h3 (b48 _ h48) (Lib.hid h48) w
    · refine (rnum_p1 s hz (by omega) w).mono ?_
      rintro e w' ⟨rfl, h⟩
      rw [rnum_plain s hz (fun h => absurd h h0)]
      exact ⟨ret_bool (rtail_nil _ (by omega)).symm, h⟩

end Go.Proofs.YtenhjddkocldaaaDoor
