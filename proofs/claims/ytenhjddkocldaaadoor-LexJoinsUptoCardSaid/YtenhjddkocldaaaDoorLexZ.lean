/- The reference's keywords and names. -/
import Derived.Test.YtenhjddkocldaaaDoorLexY
namespace Go.Proofs.YtenhjddkocldaaaDoor
open Go.RowKit Go.Shelf Go.Deep

theorem kw_cells (w : World) : ∀ (k : Nat), k < 10 → (w.alloc (.cells kwCells 9)).cell? ⟨w.heap.size, k, none⟩ = some (.string (kwAt k))
  | 0, _ => by simp [kwCells]
  | 1, _ => by simp [kwCells]
  | 2, _ => by simp [kwCells]
  | 3, _ => by simp [kwCells]
  | 4, _ => by simp [kwCells]
  | 5, _ => by simp [kwCells]
  | 6, _ => by simp [kwCells]
  | 7, _ => by simp [kwCells]
  | 8, _ => by simp [kwCells]
  | 9, _ => by simp [kwCells]
  | k + 10, h => by omega

set_option maxHeartbeats 1000000 in
theorem rkeyword_any (s : ByteArray) (w : World) :
    Calls Tryd.prog 14 #[.string s] w fun e w' => e = .returned (.bool (kwB 10 s)) ∧ Below w.heap.size w w' := by
  go_enter Tryd.func14, Tryd.ntmps14
  go_wp2_with fail
  generalize hW : w.alloc (Obj.cells _ 9) = W2
  have hc := kw_cells w
  have HB := (Below.refl w.heap.size w).alloc (Nat.le_refl _) (.cells kwCells 9)
  rw [show w.alloc (.cells kwCells 9) = W2 from hW] at hc HB
  replace HB := Lib.hid HB
  clear hW
  go_loop [4] (fun n => ∃ k : Nat, k ≤ 10 ∧ n = .int .i64 k ∧ Hid (kwB k s = false)) (fun n => 10 - (intOf n).toNat)
  case atStart => exact ⟨0, by omega, rfl, Lib.hid rfl⟩
  case round =>
    obtain ⟨k, hk, rfl, hf⟩ := hrel
    by_cases hlt : k < 10
    · have hck := hc k hlt
      have hlt' : (k : Int) < 10 := by omega
      have hk0 : (0 : Int) ≤ (k : Int) := Int.natCast_nonneg _
      cases ht : ((kwAt k).toList == s.toList) with
      | true =>
        go_wp2_with fail
        go_ret
        exact ⟨ret_bool (kwB_hit s k ht 10 hlt).symm, HB.out⟩
      | false =>
        have HN := Lib.hid (show kwB (k + 1) s = false by rw [kwB, hf.out, ht]; rfl)
        go_wp2_with fail
        go_round
        case rel => exact ⟨k + 1, by omega, by go_num, HN⟩
        case measure => simp [intOf]; omega
    · obtain rfl : k = 10 := by omega
      go_wp2_with fail
      go_ret
      exact ⟨ret_bool hf.out.symm, HB.out⟩

theorem all_span (p : UInt8 → Bool) (l : List UInt8) : l.all p = decide (Lx.span p l = l.length) := by
  have h := all_take p l l.length (Nat.le_refl _)
  rw [List.take_length] at h
  rw [h, decide_eq_decide]
  have := Lx.span_le p l
  omega
theorem rword_nameB (s : ByteArray) : rWord s.data.toList = (!s.toList.isEmpty && decide (Lx.wordLen s.data.toList = s.size)) := by
  rw [Lib.toList_data]
  have hsz : s.size = s.data.toList.length := rfl
  rw [hsz]
  cases s.data.toList with
  | nil => rfl
  | cons c r =>
    have hr : rWord (c :: r) = (Lx.letU c && decide (Lx.span Lx.wcU r = r.length)) := by simp only [rWord]; rw [all_span]
    rw [hr, List.isEmpty_cons, Bool.not_false, Bool.true_and]
    have hw : Lx.wordLen (c :: r) = if Lx.letU c then 1 + Lx.span Lx.wcU r else 0 := rfl
    by_cases hc : Lx.letU c = true
    · rw [if_pos hc] at hw
      rw [hc, Bool.true_and, decide_eq_decide, hw, List.length_cons]; omega
    · have hc' : Lx.letU c = false := by simpa using hc
      rw [if_neg hc] at hw
      rw [hc', Bool.false_and]; symm; rw [decide_eq_false_iff_not, hw, List.length_cons]; omega
theorem rkeyword_is (s : ByteArray) (b : Bool) (h : Hid (kwB 10 s = b)) (w : World) :
    Calls Tryd.prog 14 #[.string s] w fun e w' => e = .returned (.bool b) ∧ Below w.heap.size w w' := by
  have := rkeyword_any s w
  rw [h.out] at this; exact this

set_option maxHeartbeats 400000 in
theorem rname_any (s : ByteArray) (hs : s.size ≤ 9223372036854775807) (w : World) :
    Calls Tryd.prog 16 #[.string s] w fun e w' => e = .returned (.bool (nameB s)) ∧ Below w.heap.size w w' := by
  have HS := Lib.hid hs
  obtain ⟨b, hb⟩ : ∃ b, Hid (kwB 10 s = b) := ⟨_, Lib.hid rfl⟩
  have hn : nameB s = (rWord s.data.toList && !b) := by unfold nameB; rw [rword_nameB, hb.out]
  cases hw : rWord s.data.toList with
  | true =>
    have HW := Lib.hid hw
    have HR := Lib.hid (show (!b) = nameB s by rw [hn, hw]; rfl)
    clear hn hw hs
    go_enter Tryd.func16, Tryd.ntmps16
    go_wp2_with (first | (go_at_call 26; refine (rword_is s HS.out _ HW _).mono ?_; rintro e w1 ⟨rfl, hd1⟩) | (go_at_call 14; refine (rkeyword_is s b hb _).mono ?_; rintro e w2 ⟨rfl, hd2⟩))
    go_ret
    exact ⟨ret_bool HR.out, (hd1.below _).trans (hd2.mono (hd1.below w.heap.size).size)⟩
  | false =>
    have HW := Lib.hid hw
    have HR := Lib.hid (show false = nameB s by rw [hn, hw]; rfl)
    clear hn hw hs
    go_enter Tryd.func16, Tryd.ntmps16
    go_wp2_with (first | (go_at_call 26; refine (rword_is s HS.out _ HW _).mono ?_; rintro e w1 ⟨rfl, hd1⟩))
    go_ret
    exact ⟨ret_bool HR.out, hd1.below _⟩

end Go.Proofs.YtenhjddkocldaaaDoor
