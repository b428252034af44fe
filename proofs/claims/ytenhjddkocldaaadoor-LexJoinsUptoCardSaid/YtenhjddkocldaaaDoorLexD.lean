/- Package lex: what blanks and comments skip, at every text and every place in it. -/
import Derived.Test.YtenhjddkocldaaaDoorLexC
namespace Go.Proofs.YtenhjddkocldaaaDoor
open Go.RowKit

theorem commentLen_at (s : ByteArray) (j : Nat) (w : World) :
    Calls Tryd.prog 40 #[.string (s.extract j s.size)] w fun e w' => e = .returned (.int .i64 (Lx.commentLen (s.data.toList.drop j))) ∧ w = w' := by
  have := commentLen_any (s.extract j s.size) w
  rw [Lib.extract_to_end] at this; exact this

def SkipAt (s : ByteArray) (a j : Nat) : Prop := j + Lx.skipG false (s.data.toList.drop j) = a + Lx.skipG false (s.data.toList.drop a)

theorem drop_at (s : ByteArray) (j : Nat) (h : j < s.size) : s.data.toList.drop j = s[j] :: s.data.toList.drop (j + 1) :=
  List.drop_eq_getElem_cons (by have hl : s.data.toList.length = s.size := rfl; omega)
theorem drop_end (s : ByteArray) : s.data.toList.drop s.size = [] := List.drop_eq_nil_of_le (by have hl : s.data.toList.length = s.size := rfl; omega)

set_option maxHeartbeats 1000000 in
theorem skip_any (s : ByteArray) (hs : s.size ≤ 9223372036854775807) (a : Nat) (ha : a ≤ s.size) (w : World) :
    Calls Tryd.prog 29 #[.string s, .int .i64 a] w fun e w' => e = .returned (.int .i64 (a + Lx.skipG false (s.data.toList.drop a) : Nat)) ∧ w = w' := by
  have hll : s.data.toList.length = s.size := rfl
  go_enter Tryd.func29, Tryd.ntmps29
  go_wp2_with fail
  go_loop [1] (fun n => ∃ k : Nat, k ≤ s.size ∧ n = .int .i64 k ∧ SkipAt s a k) (fun n => s.size - (intOf n).toNat)
  case atStart => exact ⟨a, ha, rfl, rfl⟩
  case round =>
    obtain ⟨k, hk, rfl, hr⟩ := hrel
    by_cases hlt : k < s.size
    · have hd := drop_at s k hlt
      by_cases hb : Lx.blank s[k] = true
      · have hib : 0 ≤ ibv ⟨#[32, 9, 10, 13]⟩ (s[k].toNat : Int) := by rw [blank_ib] at hb; simpa using hb
        have hnext : SkipAt s a (k + 1) := by
          unfold SkipAt at hr ⊢; rw [← hr, hd, Lx.skipG_blank _ _ hb]; omega
        clear hb hd hll
        go_wp2_with (go_at_call 39; refine (ib_any _ _ _).mono ?_; rintro e w' ⟨rfl, rfl⟩)
        go_round
        case rel => exact ⟨k + 1, by omega, by go_num, hnext⟩
        case measure => simp [intOf]; omega
      · have hib : ibv ⟨#[32, 9, 10, 13]⟩ (s[k].toNat : Int) < 0 := by rw [blank_ib] at hb; simpa using hb
        have hb' : Lx.blank s[k] = false := by simpa using hb
        clear hb
        by_cases h35 : s[k] = 35
        · have h35b : ((s[k].toNat : Int) == 35) = true := by rw [h35]; rfl
          have hc1 : 1 ≤ Lx.commentLen (s.data.toList.drop k) := by rw [hd, h35]; exact Lx.commentLen_hash _
          have hc2 : k + Lx.commentLen (s.data.toList.drop k) ≤ s.size := by have := Lx.commentLen_le (s.data.toList.drop k); rw [List.length_drop] at this; omega
          have hnext : SkipAt s a (k + Lx.commentLen (s.data.toList.drop k)) := by
            unfold SkipAt at hr ⊢; rw [← hr, ← List.drop_drop, hd, h35, Lx.skipG_hash]; omega
          clear h35 hd hb' hll
          generalize hcc : Lx.commentLen (s.data.toList.drop k) = cl at *
          have HC := Lib.hid hcc
          clear hcc
          go_wp2_with (first | (go_at_call 39; refine (ib_any _ _ _).mono ?_; rintro e w' ⟨rfl, rfl⟩) | (go_at_call 40; refine (commentLen_at _ _ _).mono ?_; rintro e w' ⟨rfl, rfl⟩; rw [HC.out]))
          go_round
          case rel => exact ⟨k + cl, by omega, by go_num, hnext⟩
          case measure => simp [intOf]; omega
        · have h35b : ((s[k].toNat : Int) == 35) = false := by
            rw [beq_eq_false_iff_ne]; intro e2; apply h35; apply UInt8.toNat_inj.1; have : (35 : UInt8).toNat = 35 := rfl; omega
          have hres : k = a + Lx.skipG false (s.data.toList.drop a) := by
            unfold SkipAt at hr; rw [← hr, hd, Lx.skipG_stop _ _ hb' h35]; omega
          have HR := Lib.hid hres
          clear hres h35 hd hb' hll
          go_wp2_with (go_at_call 39; refine (ib_any _ _ _).mono ?_; rintro e w' ⟨rfl, rfl⟩)
          go_ret
          exact ⟨ret_int (by have := HR.out; omega), rfl⟩
    · obtain rfl : k = s.size := by omega
      have hres : s.size = a + Lx.skipG false (s.data.toList.drop a) := by
        unfold SkipAt at hr; rw [← hr, drop_end, Lx.skipG_nil]; omega
      have HR := Lib.hid hres
      clear hres hll
      go_wp2
      go_ret
      exact ⟨ret_int (by have := HR.out; omega), rfl⟩

end Go.Proofs.YtenhjddkocldaaaDoor
