/- The reference's kinds. -/
import Derived.Test.YtenhjddkocldaaaDoorLexV
namespace Go.Proofs.YtenhjddkocldaaaDoor
open Go.RowKit Go.Shelf Go.Deep

def rSign : List UInt8 → Bool
  | [c] => Lx.isSign c
  | _ => false
def rKind (l : List UInt8) : Nat := if rWord l then 1 else if rNum l then 2 else if rSign l then 3 else 0

theorem rword_is (s : ByteArray) (hs : s.size ≤ 9223372036854775807) (b : Bool) (h : Hid (rWord s.data.toList = b)) (w : World) :
    Calls Tryd.prog 26 #[.string s] w fun e w' => e = .returned (.bool b) ∧ Drew w w' := by
  have := rword_any s hs w
  rw [h.out] at this; exact this
theorem rnum_is (s : ByteArray) (hs : s.size ≤ 9223372036854775807) (b : Bool) (h : Hid (rNum s.data.toList = b)) (w : World) :
    Calls Tryd.prog 31 #[.string s] w fun e w' => e = .returned (.bool b) ∧ Drew w w' := by
  have := rnum_any s hs w
  rw [h.out] at this; exact this

set_option maxHeartbeats 400000 in
theorem kind_word (s : ByteArray) (hs : Hid (s.size ≤ 9223372036854775807)) (h1 : Hid (rWord s.data.toList = true)) (w : World) :
    Calls Tryd.prog 23 #[.string s] w fun e w' => e = .returned (.int .i64 1) ∧ Drew w w' := by
  go_enter Tryd.func23, Tryd.ntmps23
  go_wp2_with (go_at_call 26; refine (rword_is s hs.out _ h1 _).mono ?_; rintro e w' ⟨rfl, hd1⟩)
  go_ret
  exact ⟨rfl, hd1⟩
set_option maxHeartbeats 400000 in
theorem kind_num (s : ByteArray) (hs : Hid (s.size ≤ 9223372036854775807)) (h1 : Hid (rWord s.data.toList = false)) (h2 : Hid (rNum s.data.toList = true)) (w : World) :
    Calls Tryd.prog 23 #[.string s] w fun e w' => e = .returned (.int .i64 2) ∧ Drew w w' := by
  go_enter Tryd.func23, Tryd.ntmps23
  go_wp2_with (first | (go_at_call 26; refine (rword_is s hs.out _ h1 _).mono ?_; rintro e w' ⟨rfl, hd1⟩) | (go_at_call 31; refine (rnum_is s hs.out _ h2 _).mono ?_; rintro e w' ⟨rfl, hd2⟩))
  go_ret
  exact ⟨rfl, hd1.trans hd2⟩
set_option maxHeartbeats 400000 in
theorem kind_long (s : ByteArray) (hs : Hid (s.size ≤ 9223372036854775807)) (h1 : Hid (rWord s.data.toList = false)) (h2 : Hid (rNum s.data.toList = false)) (h3 : ((s.size : Int) == 1) = false) (w : World) :
    Calls Tryd.prog 23 #[.string s] w fun e w' => e = .returned (.int .i64 0) ∧ Drew w w' := by
  go_enter Tryd.func23, Tryd.ntmps23
  go_wp2_with (first | (go_at_call 26; refine (rword_is s hs.out _ h1 _).mono ?_; rintro e w' ⟨rfl, hd1⟩) | (go_at_call 31; refine (rnum_is s hs.out _ h2 _).mono ?_; rintro e w' ⟨rfl, hd2⟩))
  go_ret
  exact ⟨rfl, hd1.trans hd2⟩
set_option maxHeartbeats 400000 in
theorem kind_one (s : ByteArray) (hs : Hid (s.size ≤ 9223372036854775807)) (h1 : Hid (rWord s.data.toList = false)) (h2 : Hid (rNum s.data.toList = false)) (h3 : ((s.size : Int) == 1) = true) (h0 : 0 < s.size) (b : Bool) (hb : Lx.isSign s[0] = b) (w : World) :
    Calls Tryd.prog 23 #[.string s] w fun e w' => e = .returned (.int .i64 (if b then 3 else 0)) ∧ Drew w w' := by
  go_enter Tryd.func23, Tryd.ntmps23
  go_wp2_with (first | (go_at_call 26; refine (rword_is s hs.out _ h1 _).mono ?_; rintro e w' ⟨rfl, hd1⟩) | (go_at_call 31; refine (rnum_is s hs.out _ h2 _).mono ?_; rintro e w' ⟨rfl, hd2⟩) | (go_at_call 21; refine (in_signs _ _).mono ?_; rintro e w' ⟨rfl, rfl⟩))
  all_goals (go_ret; exact ⟨rfl, hd1.trans hd2⟩)

theorem len_one (s : ByteArray) (h : s.size = 1) (h0 : 0 < s.size) : s.data.toList = [s[0]] := by
  rw [data_cons s h0]
  have : s.data.toList.tail.length = 0 := by rw [List.length_tail]; show s.size - 1 = 0; omega
  rw [List.eq_nil_of_length_eq_zero this]
theorem rsign_long (l : List UInt8) (h : l.length ≠ 1) : rSign l = false := by
  match l, h with
  | [], _ => rfl
  | [_], h => exact absurd rfl h
  | _ :: _ :: _, _ => rfl
theorem kind_any (s : ByteArray) (hs : s.size ≤ 9223372036854775807) (w : World) :
    Calls Tryd.prog 23 #[.string s] w fun e w' => e = .returned (.int .i64 (rKind s.data.toList)) ∧ Drew w w' := by
  cases h1 : rWord s.data.toList with
  | true =>
    have hk : rKind s.data.toList = 1 := by unfold rKind; rw [if_pos h1]
    rw [hk]; exact kind_word s (Lib.hid hs) (Lib.hid h1) w
  | false =>
    cases h2 : rNum s.data.toList with
    | true =>
      have hk : rKind s.data.toList = 2 := by unfold rKind; rw [if_neg (by simp [h1]), if_pos h2]
      rw [hk]; exact kind_num s (Lib.hid hs) (Lib.hid h1) (Lib.hid h2) w
    | false =>
      by_cases h3 : s.size = 1
      · have h0 : 0 < s.size := by omega
        have hk : rKind s.data.toList = if Lx.isSign s[0] then 3 else 0 := by unfold rKind; rw [if_neg (by simp [h1]), if_neg (by simp [h2]), len_one s h3 h0]; rfl
        rw [hk]
        refine (kind_one s (Lib.hid hs) (Lib.hid h1) (Lib.hid h2) (by rw [beq_iff_eq]; omega) h0 _ rfl w).mono ?_
        rintro e w' ⟨rfl, h⟩
        refine ⟨?_, h⟩
        split <;> rfl
      · have hk : rKind s.data.toList = 0 := by unfold rKind; rw [if_neg (by simp [h1]), if_neg (by simp [h2]), rsign_long _ (by exact h3)]; rfl
        rw [hk]; exact kind_long s (Lib.hid hs) (Lib.hid h1) (Lib.hid h2) (by rw [beq_eq_false_iff_ne]; omega) w

end Go.Proofs.YtenhjddkocldaaaDoor
