/- Package lex: the length of a number and of a comment; what blanks and comments skip. -/
import Derived.Test.YtenhjddkocldaaaDoorLexA
import Derived.Test.YtenhjddkocldaaaDoorSh
import Derived.Lib.IndexLaws
namespace Go.Proofs.YtenhjddkocldaaaDoor
open Go.RowKit

def ibv (s : ByteArray) (c : Int) : Int := Lib.indexByte s.data.toList c.toNat.toUInt8
theorem ib_any (s : ByteArray) (c : Int) (w : World) :
    Calls Tryd.prog 39 #[.string s, .int .u8 c] w fun e w' => e = .returned (.int .i64 (ibv s c)) ∧ w = w' :=
  (Tryd.strings_IndexByte s c w).mono fun _ _ ⟨h1, h2⟩ => ⟨h1, h2.symm⟩
theorem ibv_bd (s : ByteArray) (c : Int) : -1 ≤ ibv s c ∧ ibv s c ≤ s.size := by
  refine ⟨Lib.indexByte_ge _ _, ?_⟩
  unfold ibv
  have : ∀ (l : List UInt8) (d : UInt8), Lib.indexByte l d ≤ l.length := by
    intro l d
    induction l with
    | nil => simp [Lib.indexByte]
    | cons b l ih => unfold Lib.indexByte; split <;> (try split) <;> simp <;> omega
  exact this s.data.toList _

theorem index_span (c : UInt8) : ∀ l : List UInt8, Lib.indexByte l c = -1 ∧ Lx.span (fun x => x != c) l = l.length ∨ 0 ≤ Lib.indexByte l c ∧ (Lx.span (fun x => x != c) l : Int) = Lib.indexByte l c
  | [] => by left; exact ⟨rfl, rfl⟩
  | b :: l => by
    have ih := index_span c l
    unfold Lib.indexByte
    rw [Lx.span_cons]
    by_cases h : b = c
    · subst h; right; simp
    · have h1 : (b == c) = false := by simpa using h
      have h2 : (b != c) = true := by simpa using h
      rw [h1, h2]
      rcases ih with ⟨e, hs⟩ | ⟨e, hs⟩
      · left; rw [e, hs]; simp; omega
      · right
        have : (Lib.indexByte l c == -1) = false := by simp; omega
        rw [this]; simp; omega

theorem commentLen_pos (s : ByteArray) (v : Int) (h : 0 ≤ v) (hv : ibv s 10 = v) (w : World) :
    Calls Tryd.prog 40 #[.string s] w fun e w' => e = .returned (.int .i64 v) ∧ w = w' := by
  have H := Lib.hid hv
  clear hv
  go_enter Tryd.func40, Tryd.ntmps40
  go_wp2_with (go_at_call 39; refine (ib_any _ _ _).mono ?_; rintro e w' ⟨rfl, rfl⟩; rw [H.out])
  go_ret
  exact ⟨rfl, rfl⟩
theorem commentLen_neg (s : ByteArray) (v : Int) (h : v < 0) (hv : ibv s 10 = v) (w : World) :
    Calls Tryd.prog 40 #[.string s] w fun e w' => e = .returned (.int .i64 s.size) ∧ w = w' := by
  have H := Lib.hid hv
  clear hv
  go_enter Tryd.func40, Tryd.ntmps40
  go_wp2_with (go_at_call 39; refine (ib_any _ _ _).mono ?_; rintro e w' ⟨rfl, rfl⟩; rw [H.out])
  go_ret
  exact ⟨rfl, rfl⟩
theorem commentLen_any (s : ByteArray) (w : World) :
    Calls Tryd.prog 40 #[.string s] w fun e w' => e = .returned (.int .i64 (Lx.commentLen s.data.toList)) ∧ w = w' := by
  have e10 : (10 : Int).toNat.toUInt8 = 10 := by decide
  rcases index_span 10 s.data.toList with ⟨e, hs⟩ | ⟨e, hs⟩
  · refine (commentLen_neg s (-1) (by omega) (by unfold ibv; rw [e10, e]) w).mono ?_
    rintro e w' ⟨rfl, rfl⟩
    refine ⟨ret_int ?_, rfl⟩
    unfold Lx.commentLen; rw [hs]; rfl
  · refine (commentLen_pos s _ e (by unfold ibv; rw [e10]) w).mono ?_
    rintro e w' ⟨rfl, rfl⟩
    refine ⟨ret_int ?_, rfl⟩
    unfold Lx.commentLen; exact hs.symm

theorem byte_self (c : UInt8) : (c.toNat : Int).toNat.toUInt8 = c := by simp
theorem blank_ib (c : UInt8) : Lx.blank c = decide (0 ≤ ibv ⟨#[32, 9, 10, 13]⟩ (c.toNat : Int)) := by
  unfold ibv; rw [byte_self]
  have e : ∀ x : UInt8, (x == c) = (c == x) := fun x => by rw [Bool.eq_iff_iff]; simp only [beq_iff_eq]; exact eq_comm
  have hc : ∀ (b : UInt8) (l : List UInt8), (0 ≤ Lib.indexByte (b :: l) c) ↔ (c = b ∨ 0 ≤ Lib.indexByte l c) := by
    intro b l
    have hg := Lib.indexByte_ge l c
    rw [Lib.indexByte, e]
    by_cases h : c = b
    · simp [h]
    · by_cases h2 : Lib.indexByte l c = -1
      · simp [h, h2]
      · simp [h, h2]; omega
  have hn : ¬ 0 ≤ Lib.indexByte [] c := by simp [Lib.indexByte]
  rw [Bool.eq_iff_iff]
  simp only [Lx.blank, Bool.or_eq_true, beq_iff_eq, decide_eq_true_eq, hc, hn, or_false, or_assoc]

def hpv (s p : ByteArray) : Bool := Lib.hasPrefix s.data.toList p.data.toList
theorem hp_any (s p : ByteArray) (b : Bool) (h : Hid (hpv s p = b)) (w : World) :
    Calls Tryd.prog 46 #[.string s, .string p] w fun e w' => e = .returned (.bool b) ∧ w = w' :=
  (Tryd.strings_HasPrefix s p w).mono fun _ _ ⟨h1, h2⟩ => ⟨by rw [h1, ← h.out]; rfl, h2.symm⟩
theorem hpv_one (s : ByteArray) (x : UInt8) (h : 0 < s.size) : hpv s ⟨#[x]⟩ = (x == s[0]) := by
  unfold hpv; rw [data_cons s h]; simp [Lib.hasPrefix, List.isPrefixOf]
theorem hpv_none (s : ByteArray) (x : UInt8) (h : ¬ 0 < s.size) : hpv s ⟨#[x]⟩ = false := by
  unfold hpv
  have : s.data.toList = [] := by rw [← Lib.toList_data]; exact toList_nil s (by omega)
  rw [this]; rfl

theorem numberLen_none (s : ByteArray) (h0 : s.size = 0) (w : World) :
    Calls Tryd.prog 41 #[.string s] w fun e w' => e = .returned (.int .i64 0) ∧ w = w' := by
  have H1 := Lib.hid (hpv_none s 48 (by omega))
  have H2 := Lib.hid (hpv_none s 45 (by omega))
  go_enter Tryd.func41, Tryd.ntmps41
  go_wp2_with (go_at_call 46; refine (hp_any _ _ false (by assumption) _).mono ?_; rintro e w' ⟨rfl, rfl⟩)
  go_ret
  exact ⟨rfl, rfl⟩
theorem numberLen_zero (s : ByteArray) (h : 0 < s.size) (h0 : s[0] = 48) (w : World) :
    Calls Tryd.prog 41 #[.string s] w fun e w' => e = .returned (.int .i64 1) ∧ w = w' := by
  have H1 := Lib.hid (show hpv s ⟨#[48]⟩ = true by rw [hpv_one s 48 h, h0]; rfl)
  clear h0
  go_enter Tryd.func41, Tryd.ntmps41
  go_wp2_with (go_at_call 46; refine (hp_any _ _ true (by assumption) _).mono ?_; rintro e w' ⟨rfl, rfl⟩)
  go_ret
  exact ⟨rfl, rfl⟩

def AllDig (s : ByteArray) (m k : Nat) : Prop := ∀ j (h : j < s.size), m ≤ j → j < k → Lx.digU s[j] = true

/-- Nothing behind the sign, or no digit from 1 to 9. -/
theorem numberLen_minus_no (s : ByteArray) (h : 0 < s.size) (h0 : s[0] = 45) (h1 : ∀ h : 1 < s.size, s[1] = 48 ∨ Lx.digU s[1] = false) (w : World) :
    Calls Tryd.prog 41 #[.string s] w fun e w' => e = .returned (.int .i64 0) ∧ w = w' := by
  have H1 := Lib.hid (show hpv s ⟨#[48]⟩ = false by rw [hpv_one s 48 h, h0]; rfl)
  have H2 := Lib.hid (show hpv s ⟨#[45]⟩ = true by rw [hpv_one s 45 h, h0]; rfl)
  clear h0
  by_cases hs : 1 < s.size
  · rcases h1 hs with e | e
    · have hb : ((s[1].toNat : Int) == 48) = true := by rw [e]; rfl
      clear h1 e
      go_enter Tryd.func41, Tryd.ntmps41
      go_wp2_with (go_at_call 46; refine (hp_any _ _ _ (by assumption) _).mono ?_; rintro e w' ⟨rfl, rfl⟩)
      go_ret
      exact ⟨rfl, rfl⟩
    · have hb : Lx.digB (s[1].toNat : Int) = false := e
      have hb2 : ((s[1].toNat : Int) == 48) = false := by
        rw [beq_eq_false_iff_ne]; intro e2; rw [e2] at hb; exact absurd hb (by decide)
      clear h1 e
      go_enter Tryd.func41, Tryd.ntmps41
      go_wp2_with (first | (go_at_call 46; refine (hp_any _ _ _ (by assumption) _).mono ?_; rintro e w' ⟨rfl, rfl⟩) | (go_at_call 33; refine (digit_byte _ _).mono ?_; rintro e w' ⟨rfl, rfl⟩))
      go_ret
      exact ⟨rfl, rfl⟩
  · clear h1
    have hb : ((1 : Int) == (s.size : Int)) = true := by rw [beq_iff_eq]; omega
    go_enter Tryd.func41, Tryd.ntmps41
    go_wp2_with (go_at_call 46; refine (hp_any _ _ _ (by assumption) _).mono ?_; rintro e w' ⟨rfl, rfl⟩)
    go_ret
    exact ⟨rfl, rfl⟩
theorem numberLen_plain_no (s : ByteArray) (h : 0 < s.size) (h0 : s[0] ≠ 48) (h1 : s[0] ≠ 45) (hd : Lx.digB (s[0].toNat : Int) = false) (w : World) :
    Calls Tryd.prog 41 #[.string s] w fun e w' => e = .returned (.int .i64 0) ∧ w = w' := by
  have H1 := Lib.hid (show hpv s ⟨#[48]⟩ = false by rw [hpv_one s 48 h, beq_eq_false_iff_ne]; exact h0.symm)
  have H2 := Lib.hid (show hpv s ⟨#[45]⟩ = false by rw [hpv_one s 45 h, beq_eq_false_iff_ne]; exact h1.symm)
  have hb2 : ((s[0].toNat : Int) == 48) = false := by
    rw [beq_eq_false_iff_ne]; intro e2; rw [e2] at hd; exact absurd hd (by decide)
  clear h0 h1
  go_enter Tryd.func41, Tryd.ntmps41
  go_wp2_with (first | (go_at_call 46; refine (hp_any _ _ _ (by assumption) _).mono ?_; rintro e w' ⟨rfl, rfl⟩) | (go_at_call 33; refine (digit_byte _ _).mono ?_; rintro e w' ⟨rfl, rfl⟩))
  go_ret
  exact ⟨rfl, rfl⟩

end Go.Proofs.YtenhjddkocldaaaDoor
