/- Package lex: the token at a place of a text. -/
import Derived.Test.YtenhjddkocldaaaDoorLexE
import Derived.Test.YtenhjddkocldaaaDoorLexN
import Derived.Lib.Split
import Derived.Lib.IndexAny
namespace Go.Proofs.YtenhjddkocldaaaDoor
open Go.RowKit

theorem wordLen_at (s : ByteArray) (hs : s.size ≤ 9223372036854775807) (j : Nat) (n : Nat) (h : Hid (Lx.wordLen (s.data.toList.drop j) = n)) (w : World) :
    Calls Tryd.prog 25 #[.string (s.extract j s.size)] w fun e w' => e = .returned (.int .i64 n) ∧ w = w' := by
  have := wordLen_any (s.extract j s.size) (by unfold maxLen; rw [ByteArray.size_extract]; omega) w
  rw [Lib.extract_to_end, h.out] at this; exact this
theorem numberLen_at (s : ByteArray) (hs : s.size ≤ 9223372036854775807) (j : Nat) (n : Nat) (h : Hid (Lx.numberLen (s.data.toList.drop j) = n)) (w : World) :
    Calls Tryd.prog 41 #[.string (s.extract j s.size)] w fun e w' => e = .returned (.int .i64 n) ∧ w = w' := by
  have := numberLen_any (s.extract j s.size) (by unfold maxLen; rw [ByteArray.size_extract]; omega) w
  rw [Lib.extract_to_end, h.out] at this; exact this

theorem blkBelow (w : World) (cs : Array Value) (t : TypeId) : Below w.heap.size w (w.alloc (.cells cs t)) := (Below.refl _ _).alloc (Nat.le_refl _) _

set_option maxHeartbeats 400000 in
theorem tokenAt_word (s : ByteArray) (hs : s.size ≤ 9223372036854775807) (a : Nat) (ha : a < s.size) (n : Nat) (h : Lx.wordLen (s.data.toList.drop a) = n) (h0 : 0 < n) (h1 : a + n ≤ s.size) (w : World) :
    Calls Tryd.prog 30 #[.string s, .int .i64 a] w fun e w' => e = .returned (.tuple #[.agg #[.int .i64 1, .string ((s.extract a s.size).extract 0 n), .int .i64 0, .int .i64 a], .int .i64 0]) ∧ Below w.heap.size w w' := by
  have H := Lib.hid h
  clear h
  go_enter Tryd.func30, Tryd.ntmps30
  go_wp2_with (go_at_call 25; refine (wordLen_at s hs a _ H _).mono ?_; rintro e w1 ⟨rfl, rfl⟩)
  refine bodyPost_ret (v := .tuple #[.agg #[.int .i64 1, .string ((s.extract a s.size).extract 0 n), .int .i64 0, .int .i64 a], .int .i64 0]) (by simp [results, Tryd.results30, go_sem]) rfl ⟨rfl, ?_⟩
  exact blkBelow w _ _

set_option maxHeartbeats 400000 in
theorem tokenAt_number (s : ByteArray) (hs : s.size ≤ 9223372036854775806) (a : Nat) (ha : a < s.size) (n : Nat) (h : Lx.wordLen (s.data.toList.drop a) = 0) (h2 : Lx.numberLen (s.data.toList.drop a) = n) (h0 : 0 < n) (h1 : a + n ≤ s.size) (v : Int)
    (hv : Lib.parseIntB 64 ((s.extract a s.size).extract 0 n).data.toList = .ok v) (w : World) :
    Calls Tryd.prog 30 #[.string s, .int .i64 a] w fun e w' => e = .returned (.tuple #[.agg #[.int .i64 2, .string ((s.extract a s.size).extract 0 n), .int .i64 v, .int .i64 a], .int .i64 0]) ∧ Below w.heap.size w w' := by
  have H := Lib.hid h
  have H2 := Lib.hid h2
  have HV := Lib.hid hv
  have hz : ((s.extract a s.size).extract 0 n).size ≤ 9223372036854775806 := by rw [ByteArray.size_extract, ByteArray.size_extract]; omega
  have HZ := Lib.hid hz
  have hs' : s.size ≤ 9223372036854775807 := by omega
  clear h h2 hv hz
  go_enter Tryd.func30, Tryd.ntmps30
  go_wp2_with (first | (go_at_call 25; refine (wordLen_at s hs' a _ H _).mono ?_; rintro e w1 ⟨rfl, rfl⟩) | (go_at_call 41; refine (numberLen_at s hs' a _ H2 _).mono ?_; rintro e w1 ⟨rfl, rfl⟩) | (go_at_call 42; refine (number_ok _ HZ.out v HV.out _ _).mono ?_; rintro e w1 ⟨rfl, hb⟩; obtain ⟨hc, hf⟩ := bcell hb))
  refine bodyPost_ret (v := .tuple #[.agg #[.int .i64 2, .string ((s.extract a s.size).extract 0 n), .int .i64 v, .int .i64 a], .int .i64 0]) (by simp [results, Tryd.results30, go_sem, hc]) rfl ⟨rfl, ?_⟩
  have h0 : Below w.heap.size w w1 := (blkBelow w _ _).trans (hb.mono (by simp))
  exact (((h0.setCell (Nat.le_refl _) _).setCell (Nat.le_refl _) _).setCell (Nat.le_refl _) _).setCell (Nat.le_refl _) _

set_option maxHeartbeats 400000 in
theorem tokenAt_range (s : ByteArray) (hs : s.size ≤ 281474976710656) (a : Nat) (ha : a < s.size) (n : Nat) (h : Lx.wordLen (s.data.toList.drop a) = 0) (h2 : Lx.numberLen (s.data.toList.drop a) = n) (h0 : 0 < n) (h1 : a + n ≤ s.size)
    (hv : Lib.parseIntB 64 ((s.extract a s.size).extract 0 n).data.toList = .range) (B : Nat) (w : World) (he : Env B w) :
    Calls Tryd.prog 30 #[.string s, .int .i64 a] w fun e w' => e = .returned (.tuple #[.agg #[.int .i64 0, .string ⟨#[]⟩, .int .i64 0, .int .i64 0], .int .i64 2]) ∧ Below w.heap.size w w' := by
  have H := Lib.hid h
  have H2 := Lib.hid h2
  have HV := Lib.hid hv
  have hz : ((s.extract a s.size).extract 0 n).size ≤ 281474976710656 := by rw [ByteArray.size_extract, ByteArray.size_extract]; omega
  have HZ := Lib.hid hz
  have hs' : s.size ≤ 9223372036854775807 := by omega
  have HE := Lib.hid (he.to (blkBelow w #[.int .i64 0, .string ⟨#[]⟩, .int .i64 0, .int .i64 0] 39))
  clear h h2 hv hz he
  go_enter Tryd.func30, Tryd.ntmps30
  go_wp2_with (first | (go_at_call 25; refine (wordLen_at s hs' a _ H _).mono ?_; rintro e w1 ⟨rfl, rfl⟩) | (go_at_call 41; refine (numberLen_at s hs' a _ H2 _).mono ?_; rintro e w1 ⟨rfl, rfl⟩) | (go_at_call 42; refine (number_range _ HZ.out HV.out _ B _ HE.out).mono ?_; rintro e w1 ⟨rfl, hb⟩; obtain ⟨hc, hf⟩ := bcell hb))
  refine bodyPost_ret (v := .tuple #[.agg #[.int .i64 0, .string ⟨#[]⟩, .int .i64 0, .int .i64 0], .int .i64 2]) (by simp [results, Tryd.results30, go_sem, hc]) rfl ⟨rfl, ?_⟩
  have h0 : Below w.heap.size w w1 := (blkBelow w _ _).trans (hb.mono (by simp))
  exact (((h0.setCell (Nat.le_refl _) _).setCell (Nat.le_refl _) _).setCell (Nat.le_refl _) _).setCell (Nat.le_refl _) _

theorem first_at (s : ByteArray) (a : Nat) (ha : a < s.size) (h0 : 0 < (s.extract a s.size).size) : (s.extract a s.size)[0] = s[a] := by
  simp [ByteArray.getElem_eq_getElem_data]

set_option maxHeartbeats 400000 in
theorem tokenAt_sign (s : ByteArray) (hs : s.size ≤ 9223372036854775807) (a : Nat) (ha : a < s.size) (h : Lx.wordLen (s.data.toList.drop a) = 0) (h2 : Lx.numberLen (s.data.toList.drop a) = 0)
    (hv : 0 ≤ ibv ⟨#[33, 63, 46, 40, 41, 123, 125, 60, 62, 44, 58, 59, 124, 38, 43, 61]⟩ (s[a].toNat : Int)) (w : World) :
    Calls Tryd.prog 30 #[.string s, .int .i64 a] w fun e w' => e = .returned (.tuple #[.agg #[.int .i64 3, .string ((s.extract a s.size).extract 0 1), .int .i64 0, .int .i64 a], .int .i64 0]) ∧ Below w.heap.size w w' := by
  have H := Lib.hid h
  have H2 := Lib.hid h2
  have hsz : 0 < s.size - a := by omega
  have hsz2 : 0 < (s.extract a s.size).size := by rw [ByteArray.size_extract]; omega
  have H3 := Lib.hid (first_at s a ha hsz2)
  clear h h2
  go_enter Tryd.func30, Tryd.ntmps30
  go_wp2_with (first | (go_at_call 25; refine (wordLen_at s hs a _ H _).mono ?_; rintro e w1 ⟨rfl, rfl⟩) | (go_at_call 41; refine (numberLen_at s hs a _ H2 _).mono ?_; rintro e w1 ⟨rfl, rfl⟩) | (go_at_call 39; rw [H3.out]; refine (ib_any _ _ _).mono ?_; rintro e w1 ⟨rfl, rfl⟩))
  refine bodyPost_ret (v := .tuple #[.agg #[.int .i64 3, .string ((s.extract a s.size).extract 0 1), .int .i64 0, .int .i64 a], .int .i64 0]) (by simp [results, Tryd.results30, go_sem]) rfl ⟨rfl, ?_⟩
  exact blkBelow w _ _

set_option maxHeartbeats 400000 in
theorem tokenAt_none (s : ByteArray) (hs : s.size ≤ 9223372036854775807) (a : Nat) (ha : a < s.size) (h : Lx.wordLen (s.data.toList.drop a) = 0) (h2 : Lx.numberLen (s.data.toList.drop a) = 0)
    (hv : ibv ⟨#[33, 63, 46, 40, 41, 123, 125, 60, 62, 44, 58, 59, 124, 38, 43, 61]⟩ (s[a].toNat : Int) < 0) (w : World) :
    Calls Tryd.prog 30 #[.string s, .int .i64 a] w fun e w' => e = .returned (.tuple #[.agg #[.int .i64 0, .string ⟨#[]⟩, .int .i64 0, .int .i64 0], .int .i64 1]) ∧ Below w.heap.size w w' := by
  have H := Lib.hid h
  have H2 := Lib.hid h2
  have hsz : 0 < s.size - a := by omega
  have hsz2 : 0 < (s.extract a s.size).size := by rw [ByteArray.size_extract]; omega
  have H3 := Lib.hid (first_at s a ha hsz2)
  clear h h2
  go_enter Tryd.func30, Tryd.ntmps30
  go_wp2_with (first | (go_at_call 25; refine (wordLen_at s hs a _ H _).mono ?_; rintro e w1 ⟨rfl, rfl⟩) | (go_at_call 41; refine (numberLen_at s hs a _ H2 _).mono ?_; rintro e w1 ⟨rfl, rfl⟩) | (go_at_call 39; rw [H3.out]; refine (ib_any _ _ _).mono ?_; rintro e w1 ⟨rfl, rfl⟩))
  refine bodyPost_ret (v := .tuple #[.agg #[.int .i64 0, .string ⟨#[]⟩, .int .i64 0, .int .i64 0], .int .i64 1]) (by simp [results, Tryd.results30, go_sem]) rfl ⟨rfl, ?_⟩
  exact blkBelow w _ _

/-- The text of a list of bytes. -/
def txt (l : List UInt8) : ByteArray := ⟨l.toArray⟩
theorem extract_txt (s : ByteArray) (a n : Nat) : (s.extract a s.size).extract 0 n = txt ((s.data.toList.drop a).take n) := by
  apply ByteArray.ext
  apply Array.toList_inj.1
  unfold txt
  rw [Lib.extract_from_zero, Lib.extract_to_end]
theorem txt_data (l : List UInt8) : (txt l).data.toList = l := rfl
theorem sign_ib (c : UInt8) : Lx.isSign c = decide (0 ≤ ibv ⟨#[33, 63, 46, 40, 41, 123, 125, 60, 62, 44, 58, 59, 124, 38, 43, 61]⟩ (c.toNat : Int)) := by
  unfold ibv; rw [byte_self]; exact Lib.contains_iff_indexByte _ _

/-- A token as the program has it: its kind, its text, its number, its place. -/
def tokV (k : Int) (l : List UInt8) (v : Int) (a : Nat) : Value := .agg #[.int .i64 k, .string (txt l), .int .i64 v, .int .i64 a]
def zeroTok : Value := .agg #[.int .i64 0, .string ⟨#[]⟩, .int .i64 0, .int .i64 0]
/-- What tokenAt returns for the text l at the place a. -/
def tokR (l : List UInt8) (a : Nat) : Sum Int (Int × Nat × Int) → Value × Value
  | .inl e => (zeroTok, .int .i64 e)
  | .inr (k, n, v) => (tokV k (l.take n) v a, .int .i64 0)

theorem tokenAt_any (s : ByteArray) (hs : s.size ≤ 281474976710656) (a : Nat) (ha : a < s.size) (B : Nat) (w : World) (he : Env B w) :
    Calls Tryd.prog 30 #[.string s, .int .i64 a] w fun e w' =>
      e = .returned (.tuple #[(tokR (s.data.toList.drop a) a (Lx.tokL (s.data.toList.drop a))).1, (tokR (s.data.toList.drop a) a (Lx.tokL (s.data.toList.drop a))).2]) ∧ Below w.heap.size w w' := by
  have hl : (s.data.toList.drop a).length = s.size - a := by rw [List.length_drop]; rfl
  have h1 := Lx.wordLen_le (s.data.toList.drop a)
  have h2 := Lx.numberLen_le (s.data.toList.drop a)
  by_cases hw : 0 < Lx.wordLen (s.data.toList.drop a)
  · refine (tokenAt_word s (by omega) a ha _ rfl hw (by omega) w).mono ?_
    rintro e w' ⟨rfl, hb⟩
    refine ⟨?_, hb⟩
    rw [Lx.tokL_word hw, extract_txt]; rfl
  · have hw0 : Lx.wordLen (s.data.toList.drop a) = 0 := by omega
    by_cases hn : 0 < Lx.numberLen (s.data.toList.drop a)
    · have hnum := Lx.numberLen_num _ hn
      rcases hnum with ⟨v, hv⟩ | hr
      · refine (tokenAt_number s (by omega) a ha _ hw0 rfl hn (by omega) v (by rw [extract_txt, txt_data]; exact hv) w).mono ?_
        rintro e w' ⟨rfl, hb⟩
        refine ⟨?_, hb⟩
        rw [Lx.tokL_number hw hn hv, extract_txt]; rfl
      · refine (tokenAt_range s hs a ha _ hw0 rfl hn (by omega) (by rw [extract_txt, txt_data]; exact hr) B w he).mono ?_
        rintro e w' ⟨rfl, hb⟩
        refine ⟨?_, hb⟩
        rw [Lx.tokL_range hw hn hr]; rfl
    · have hn0 : Lx.numberLen (s.data.toList.drop a) = 0 := by omega
      by_cases hg : Lx.isSign s[a] = true
      · have hg' := hg
        rw [sign_ib, decide_eq_true_eq] at hg'
        refine (tokenAt_sign s (by omega) a ha hw0 hn0 hg' w).mono ?_
        rintro e w' ⟨rfl, hb⟩
        refine ⟨?_, hb⟩
        have hd := drop_at s a ha
        rw [extract_txt]
        rw [hd] at hw hn ⊢
        rw [Lx.tokL_sign hw hn hg]; rfl
      · have hg' := hg
        rw [sign_ib, decide_eq_true_eq] at hg'
        refine (tokenAt_none s (by omega) a ha hw0 hn0 (by omega) w).mono ?_
        rintro e w' ⟨rfl, hb⟩
        refine ⟨?_, hb⟩
        have hd := drop_at s a ha
        rw [hd] at hw hn ⊢
        rw [Lx.tokL_none hw hn hg]; rfl

end Go.Proofs.YtenhjddkocldaaaDoor
