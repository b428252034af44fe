/- The reference of layer 1, as layer 2 uses it: words, keywords, names. -/
import Derived.Test.YtjmnaibbljakaaaGreatDoorTyNb
namespace Go.Proofs.YtjmnaibbljakaaaGreatDoor
open Go.RowKit Go.Shelf

def inB (c : UInt8) (s : ByteArray) : Bool := s.data.toList.contains c
def NotIn (c : UInt8) (s : ByteArray) (k : Nat) : Prop := ∀ j (h : j < s.size), j < k → s[j] ≠ c

set_option maxHeartbeats 400000 in
theorem in_any (c : UInt8) (s : ByteArray) (hs : s.size ≤ 9223372036854775807) (w : World) :
    Calls Tryz.prog 100 #[.int .u8 (c.toNat : Int), .string s] w fun e w' => e = .returned (.bool (inB c s)) ∧ w' = w := by
  go_enter Tryz.func100, Tryz.ntmps100
  go_wp2_with fail
  go_loop [5] (fun n => ∃ k : Nat, k ≤ s.size ∧ n = .int .i64 k ∧ NotIn c s k) (fun n => s.size - (intOf n).toNat)
  case atStart => exact ⟨0, by omega, rfl, fun j _ h => by omega⟩
  case round =>
    obtain ⟨k, hk, rfl, ha⟩ := hrel
    by_cases hlt : k < s.size
    · by_cases hc : s[k] = c
      · have hb : ((s[k].toNat : Int) == (c.toNat : Int)) = true := by rw [hc]; simp
        have hr : true = inB c s := by
          symm; unfold inB; rw [List.contains_iff_mem, ← hc]
          exact List.getElem_mem (show k < s.data.toList.length from hlt)
        have HR := Lib.hid hr
        clear hr hc
        go_wp2_with fail
        go_ret
        exact ⟨ret_bool HR.out, rfl⟩
      · have hb : ((s[k].toNat : Int) == (c.toNat : Int)) = false := by
          rw [beq_eq_false_iff_ne]; intro e; apply hc; apply UInt8.toNat_inj.1; omega
        have hnext : NotIn c s (k + 1) := fun j hj h => by
          by_cases e : j = k
          · subst e; exact hc
          · exact ha j hj (by omega)
        clear hc
        go_wp2_with fail
        go_round
        case rel => exact ⟨k + 1, by omega, by go_num, hnext⟩
        case measure => simp [intOf]; omega
    · have hr : false = inB c s := by
        symm
        unfold inB
        rw [Bool.eq_false_iff]
        intro h
        rw [List.contains_iff_mem] at h
        obtain ⟨j, hj, e⟩ := List.mem_iff_getElem.1 h
        have hj' : j < s.size := hj
        exact ha j hj' (by omega) e
      have HR := Lib.hid hr
      clear hr
      go_wp2_with fail
      go_ret
      exact ⟨ret_bool HR.out, rfl⟩

theorem letters_any (w : World) :
    Calls Tryz.prog 101 #[] w fun e w' => e = .returned (.string ⟨#[65, 66, 67, 68, 69, 70, 71, 72, 73, 74, 75, 76, 77, 78, 79, 80, 81, 82, 83, 84, 85, 86, 87, 88, 89, 90, 97, 98, 99, 100, 101, 102, 103, 104, 105, 106, 107, 108, 109, 110, 111, 112, 113, 114, 115, 116, 117, 118, 119, 120, 121, 122, 95]⟩) ∧ w' = w := by
  go_enter Tryz.func101, Tryz.ntmps101
  go_wp2_with fail
  go_ret
  exact ⟨rfl, rfl⟩
theorem digits_any (w : World) :
    Calls Tryz.prog 102 #[] w fun e w' => e = .returned (.string ⟨#[48, 49, 50, 51, 52, 53, 54, 55, 56, 57]⟩) ∧ w' = w := by
  go_enter Tryz.func102, Tryz.ntmps102
  go_wp2_with fail
  go_ret
  exact ⟨rfl, rfl⟩

theorem all_bytes {p q : UInt8 → Bool} (h : ∀ n : Fin 256, p (UInt8.ofNat n.val) = q (UInt8.ofNat n.val)) (c : UInt8) : p c = q c := by
  have := h ⟨c.toNat, c.toNat_lt⟩
  simpa using this
theorem in_letters (c : UInt8) (w : World) :
    Calls Tryz.prog 100 #[.int .u8 (c.toNat : Int), .string ⟨#[65, 66, 67, 68, 69, 70, 71, 72, 73, 74, 75, 76, 77, 78, 79, 80, 81, 82, 83, 84, 85, 86, 87, 88, 89, 90, 97, 98, 99, 100, 101, 102, 103, 104, 105, 106, 107, 108, 109, 110, 111, 112, 113, 114, 115, 116, 117, 118, 119, 120, 121, 122, 95]⟩] w fun e w' => e = .returned (.bool (Lx.letB (c.toNat : Int))) ∧ w' = w := by
  refine (in_any c _ (by decide) w).mono ?_
  rintro e w' ⟨rfl, rfl⟩
  refine ⟨ret_bool ?_, rfl⟩
  exact all_bytes (p := fun c => List.contains _ c) (q := fun c => Lx.letB (c.toNat : Int)) (by decide +kernel) c
theorem in_digits (c : UInt8) (w : World) :
    Calls Tryz.prog 100 #[.int .u8 (c.toNat : Int), .string ⟨#[48, 49, 50, 51, 52, 53, 54, 55, 56, 57]⟩] w fun e w' => e = .returned (.bool (Lx.digB (c.toNat : Int))) ∧ w' = w := by
  refine (in_any c _ (by decide) w).mono ?_
  rintro e w' ⟨rfl, rfl⟩
  refine ⟨ret_bool ?_, rfl⟩
  exact all_bytes (p := fun c => List.contains _ c) (q := fun c => Lx.digB (c.toNat : Int)) (by decide +kernel) c
theorem inB_letters (c : UInt8) : inB c ⟨#[65, 66, 67, 68, 69, 70, 71, 72, 73, 74, 75, 76, 77, 78, 79, 80, 81, 82, 83, 84, 85, 86, 87, 88, 89, 90, 97, 98, 99, 100, 101, 102, 103, 104, 105, 106, 107, 108, 109, 110, 111, 112, 113, 114, 115, 116, 117, 118, 119, 120, 121, 122, 95]⟩ = Lx.letB (c.toNat : Int) := all_bytes (p := fun c => inB c ⟨#[65, 66, 67, 68, 69, 70, 71, 72, 73, 74, 75, 76, 77, 78, 79, 80, 81, 82, 83, 84, 85, 86, 87, 88, 89, 90, 97, 98, 99, 100, 101, 102, 103, 104, 105, 106, 107, 108, 109, 110, 111, 112, 113, 114, 115, 116, 117, 118, 119, 120, 121, 122, 95]⟩) (q := fun c => Lx.letB (c.toNat : Int)) (by decide +kernel) c
theorem inB_digits (c : UInt8) : inB c ⟨#[48, 49, 50, 51, 52, 53, 54, 55, 56, 57]⟩ = Lx.digB (c.toNat : Int) := all_bytes (p := fun c => inB c ⟨#[48, 49, 50, 51, 52, 53, 54, 55, 56, 57]⟩) (q := fun c => Lx.digB (c.toNat : Int)) (by decide +kernel) c

/-- A word, all of it. -/
def rWord : List UInt8 → Bool
  | [] => false
  | c :: r => Lx.letU c && r.all Lx.wcU

set_option maxHeartbeats 400000 in
theorem rword_none (s : ByteArray) (h0 : s.size = 0) (w : World) :
    Calls Tryz.prog 87 #[.string s] w fun e w' => e = .returned (.bool false) ∧ Drew w w' := by
  have hb : ((s.size : Int) == 0) = true := by rw [beq_iff_eq]; omega
  go_enter Tryz.func87, Tryz.ntmps87
  go_wp2_with fail
  go_quiet (fail)
  go_wp2
  go_ret
  exact ⟨rfl, (Drew.refl _).more _⟩
set_option maxHeartbeats 400000 in
theorem rword_no (s : ByteArray) (h0 : 0 < s.size) (hl : Lx.letB (s[0].toNat : Int) = false) (w : World) :
    Calls Tryz.prog 87 #[.string s] w fun e w' => e = .returned (.bool false) ∧ Drew w w' := by
  have hb : ((s.size : Int) == 0) = false := by rw [beq_eq_false_iff_ne]; omega
  go_enter Tryz.func87, Tryz.ntmps87
  go_wp2_with fail
  go_quiet (first | (go_at_call 101; exact Calls.quiet_of_same (letters_any _)) | (go_at_call 100; exact Calls.quiet_of_same (in_letters _ _)))
  go_wp2
  go_ret
  exact ⟨rfl, (Drew.refl _).more _⟩

def AllWcFrom (s : ByteArray) (k : Nat) : Prop := ∀ j (h : j < s.size), 1 ≤ j → j < k → Lx.wcU s[j] = true

set_option maxHeartbeats 1000000 in
theorem rword_yes (s : ByteArray) (h0 : 0 < s.size) (hs : s.size ≤ 9223372036854775807) (hl : Lx.letB (s[0].toNat : Int) = true) (w : World) :
    Calls Tryz.prog 87 #[.string s] w fun e w' => e = .returned (.bool (rWord s.data.toList)) ∧ Drew w w' := by
  have hb : ((s.size : Int) == 0) = false := by rw [beq_eq_false_iff_ne]; omega
  have hd := data_cons s h0
  have hlen : s.data.toList.length = s.size := rfl
  have htail : ∀ j (h : j + 1 < s.size), s.data.toList.tail[j]'(by rw [List.length_tail]; omega) = s[j + 1] := fun j h => by rw [List.getElem_tail]; rfl
  have HD := Lib.hid hd
  have HT := Lib.hid htail
  clear hd htail
  go_enter Tryz.func87, Tryz.ntmps87
  go_wp2_with fail
  go_quiet (first | (go_at_call 101; exact Calls.quiet_of_same (letters_any _)) | (go_at_call 100; exact Calls.quiet_of_same (in_letters _ _)))
  go_wp2_with fail
  go_loopw [3] (fun n wr => ∃ k : Nat, 1 ≤ k ∧ k ≤ s.size ∧ n = .int .i64 k ∧ AllWcFrom s k ∧ Drew w wr) (fun n _ => s.size - (intOf n).toNat)
  case atStart => exact ⟨1, by omega, by omega, rfl, fun j _ h3 h4 => by omega, (Drew.refl _).more _⟩
  case round =>
    obtain ⟨k, hk1, hk2, rfl, ha, hdr⟩ := hrel
    by_cases hlt : k < s.size
    · have hnext : Lx.wcU s[k] = true → AllWcFrom s (k + 1) := by
        intro hw j hj h3 h4
        by_cases e : j = k
        · subst e; exact hw
        · exact ha j hj h3 (by omega)
      have HNX := Lib.hid hnext
      clear hnext
      have hk0 : (0 : Int) ≤ (k : Int) := Int.natCast_nonneg _
      have hk3 : (k : Int) < (s.size : Int) := by omega
      by_cases hle : Lx.letB (s[k].toNat : Int) = true
      · have hw : Lx.wcU s[k] = true := by unfold Lx.wcU Lx.letU; rw [hle]; rfl
        have HW := Lib.hid (HNX.out hw)
        clear hw hl
        go_wp2_with fail
        go_quiet (first | (go_at_call 101; exact Calls.quiet_of_same (letters_any _)) | (go_at_call 100; exact Calls.quiet_of_same (in_letters _ _)))
        go_wp2_with fail
        go_roundw
        case rel => exact ⟨k + 1, by omega, by omega, by go_num, HW.out, hdr.more _⟩
        case measure => simp [intOf]; omega
      · have hle' : Lx.letB (s[k].toNat : Int) = false := by simpa using hle
        by_cases hdg : Lx.digB (s[k].toNat : Int) = true
        · have hw : Lx.wcU s[k] = true := by unfold Lx.wcU Lx.digU; rw [hdg, Bool.or_true]
          have hil := inB_letters s[k]
          have hid := inB_digits s[k]
          rw [hle'] at hil
          rw [hdg] at hid
          have HW := Lib.hid (HNX.out hw)
          clear hw hl hle
          go_wp2_with fail
          go_quiet (first | (go_at_call 101; exact Calls.quiet_of_same (letters_any _)) | (go_at_call 102; exact Calls.quiet_of_same (digits_any _)) | (go_at_call 100; exact Calls.quiet_of_same (in_any _ _ (by decide) _)))
          go_wp2_with fail
          go_roundw
          case rel => exact ⟨k + 1, by omega, by omega, by go_num, HW.out, hdr.more _⟩
          case measure => simp [intOf]; omega
        · have hdg' : Lx.digB (s[k].toNat : Int) = false := by simpa using hdg
          have hr : false = rWord s.data.toList := by
            symm
            rw [HD.out]; simp only [rWord]
            rw [Bool.and_eq_false_iff]; right
            rw [Bool.eq_false_iff]; intro h
            rw [List.all_eq_true] at h
            have h2 := h (s.data.toList.tail[k - 1]'(by rw [List.length_tail]; omega)) (List.getElem_mem _)
            rw [HT.out (k - 1) (by omega)] at h2
            have e : k - 1 + 1 = k := by omega
            simp only [e] at h2
            simp [Lx.wcU, Lx.letU, Lx.digU, hle', hdg'] at h2
          have HR := Lib.hid hr
          have hil := inB_letters s[k]
          have hid := inB_digits s[k]
          rw [hle'] at hil
          rw [hdg'] at hid
          clear hr hl hle hdg
          go_wp2_with fail
          go_quiet (first | (go_at_call 101; exact Calls.quiet_of_same (letters_any _)) | (go_at_call 102; exact Calls.quiet_of_same (digits_any _)) | (go_at_call 100; exact Calls.quiet_of_same (in_any _ _ (by decide) _)))
          go_wp2
          go_ret
          exact ⟨ret_bool HR.out, hdr.more _⟩
    · have hr : true = rWord s.data.toList := by
        symm
        rw [HD.out]; simp only [rWord]
        rw [Bool.and_eq_true]
        refine ⟨hl, ?_⟩
        rw [List.all_eq_true]
        intro x hx
        obtain ⟨j, hj, e⟩ := List.mem_iff_getElem.1 hx
        rw [List.length_tail] at hj
        rw [HT.out j (by omega)] at e
        rw [← e]; exact ha (j + 1) (by omega) (by omega) (by omega)
      have HR := Lib.hid hr
      clear hr hl
      go_wp2
      go_ret
      exact ⟨ret_bool HR.out, hdr⟩

theorem rword_any (s : ByteArray) (hs : s.size ≤ 9223372036854775807) (w : World) :
    Calls Tryz.prog 87 #[.string s] w fun e w' => e = .returned (.bool (rWord s.data.toList)) ∧ Drew w w' := by
  by_cases h0 : 0 < s.size
  · by_cases hl : Lx.letB (s[0].toNat : Int) = true
    · exact rword_yes s h0 hs hl w
    · have hl' : Lx.letB (s[0].toNat : Int) = false := by simpa using hl
      refine (rword_no s h0 hl' w).mono ?_
      rintro e w' ⟨rfl, h⟩
      refine ⟨ret_bool ?_, h⟩
      rw [data_cons s h0]; simp only [rWord]
      rw [show Lx.letU s[0] = false from hl']; rfl
  · refine (rword_none s (by omega) w).mono ?_
    rintro e w' ⟨rfl, h⟩
    have := toList_nil s (by omega)
    rw [Lib.toList_data] at this
    exact ⟨ret_bool (by rw [this]; rfl), h⟩

theorem kw_cells (w : World) : ∀ (k : Nat), k < 10 → (w.alloc (.cells kwCells 9)).cell? ⟨w.heap.size, k, none⟩ = some (.string (kwAt k))
  | 0, _ => by simp [kwCells]
  | 1, _ => by simp [kwCells]
  | 2, _ => by simp [kwCells]
  | 3, _ => by simp [kwCells]
  | 4, _ => by simp [kwCells]
  | 5, _ => by simp [kwCells]
  | 6, _ => by simp [kwCells]
  | 7, _ => by simp [kwCells]
  | 8, _ => by simp [kwCells]
  | 9, _ => by simp [kwCells]
  | k + 10, h => by omega

set_option maxHeartbeats 1000000 in
theorem rkeyword_any (s : ByteArray) (w : World) :
    Calls Tryz.prog 88 #[.string s] w fun e w' => e = .returned (.bool (kwB 10 s)) ∧ Below w.heap.size w w' := by
  go_enter Tryz.func88, Tryz.ntmps88
  go_wp2_with fail
  generalize hW : w.alloc (Obj.cells _ 9) = W2
  have hc := kw_cells w
  have HB := (Below.refl w.heap.size w).alloc (Nat.le_refl _) (.cells kwCells 9)
  rw [show w.alloc (.cells kwCells 9) = W2 from hW] at hc HB
  replace HB := Lib.hid HB
  clear hW
  go_loop [4] (fun n => ∃ k : Nat, k ≤ 10 ∧ n = .int .i64 k ∧ Hid (kwB k s = false)) (fun n => 10 - (intOf n).toNat)
  case atStart => exact ⟨0, by omega, rfl, Lib.hid rfl⟩
  case round =>
    obtain ⟨k, hk, rfl, hf⟩ := hrel
    by_cases hlt : k < 10
    · have hck := hc k hlt
      have hlt' : (k : Int) < 10 := by omega
      have hk0 : (0 : Int) ≤ (k : Int) := Int.natCast_nonneg _
      cases ht : ((kwAt k).toList == s.toList) with
      | true =>
        go_wp2_with fail
        go_ret
        exact ⟨ret_bool (kwB_hit s k ht 10 hlt).symm, HB.out⟩
      | false =>
        have HN := Lib.hid (show kwB (k + 1) s = false by rw [kwB, hf.out, ht]; rfl)
        go_wp2_with fail
        go_round
        case rel => exact ⟨k + 1, by omega, by go_num, HN⟩
        case measure => simp [intOf]; omega
    · obtain rfl : k = 10 := by omega
      go_wp2_with fail
      go_ret
      exact ⟨ret_bool hf.out.symm, HB.out⟩

theorem all_take (p : UInt8 → Bool) : ∀ (l : List UInt8) (k : Nat), k ≤ l.length → (l.take k).all p = decide (k ≤ Lx.span p l)
  | _, 0, _ => by simp
  | [], k + 1, h => by simp at h
  | c :: r, k + 1, h => by
    rw [List.take_succ_cons, List.all_cons, Lx.span_cons]
    by_cases hc : p c = true
    · rw [hc, if_pos rfl, Bool.true_and, all_take p r k (by simpa using h)]
      rw [decide_eq_decide]; omega
    · have hc' : p c = false := by simpa using hc
      rw [hc', Bool.false_and, if_neg (by simp)]; simp
theorem all_span (p : UInt8 → Bool) (l : List UInt8) : l.all p = decide (Lx.span p l = l.length) := by
  have h := all_take p l l.length (Nat.le_refl _)
  rw [List.take_length] at h
  rw [h, decide_eq_decide]
  have := Lx.span_le p l
  omega
theorem rword_nameB (s : ByteArray) : rWord s.data.toList = (!s.toList.isEmpty && decide (Lx.wordLen s.data.toList = s.size)) := by
  rw [Lib.toList_data]
  have hsz : s.size = s.data.toList.length := rfl
  rw [hsz]
  cases s.data.toList with
  | nil => rfl
  | cons c r =>
    have hr : rWord (c :: r) = (Lx.letU c && decide (Lx.span Lx.wcU r = r.length)) := by simp only [rWord]; rw [all_span]
    rw [hr, List.isEmpty_cons, Bool.not_false, Bool.true_and]
    have hw : Lx.wordLen (c :: r) = if Lx.letU c then 1 + Lx.span Lx.wcU r else 0 := rfl
    by_cases hc : Lx.letU c = true
    · rw [if_pos hc] at hw
      rw [hc, Bool.true_and, decide_eq_decide, hw, List.length_cons]; omega
    · have hc' : Lx.letU c = false := by simpa using hc
      rw [if_neg hc] at hw
      rw [hc', Bool.false_and]; symm; rw [decide_eq_false_iff_not, hw, List.length_cons]; omega
theorem rword_is (s : ByteArray) (hs : s.size ≤ 9223372036854775807) (b : Bool) (h : Hid (rWord s.data.toList = b)) (w : World) :
    Calls Tryz.prog 87 #[.string s] w fun e w' => e = .returned (.bool b) ∧ Drew w w' := by
  have := rword_any s hs w
  rw [h.out] at this; exact this
theorem rkeyword_is (s : ByteArray) (b : Bool) (h : Hid (kwB 10 s = b)) (w : World) :
    Calls Tryz.prog 88 #[.string s] w fun e w' => e = .returned (.bool b) ∧ Below w.heap.size w w' := by
  have := rkeyword_any s w
  rw [h.out] at this; exact this

set_option maxHeartbeats 400000 in
theorem rname_any (s : ByteArray) (hs : s.size ≤ 9223372036854775807) (w : World) :
    Calls Tryz.prog 75 #[.string s] w fun e w' => e = .returned (.bool (nameB s)) ∧ Below w.heap.size w w' := by
  have HS := Lib.hid hs
  obtain ⟨b, hb⟩ : ∃ b, Hid (kwB 10 s = b) := ⟨_, Lib.hid rfl⟩
  have hn : nameB s = (rWord s.data.toList && !b) := by unfold nameB; rw [rword_nameB, hb.out]
  cases hw : rWord s.data.toList with
  | true =>
    have HW := Lib.hid hw
    have HR := Lib.hid (show (!b) = nameB s by rw [hn, hw]; rfl)
    clear hn hw hs
    go_enter Tryz.func75, Tryz.ntmps75
    go_wp2_with (first | (go_at_call 87; refine (rword_is s HS.out _ HW _).mono ?_; rintro e w1 ⟨rfl, hd1⟩) | (go_at_call 88; refine (rkeyword_is s b hb _).mono ?_; rintro e w2 ⟨rfl, hd2⟩))
    go_ret
    exact ⟨ret_bool HR.out, (hd1.below _).trans (hd2.mono (hd1.below w.heap.size).size)⟩
  | false =>
    have HW := Lib.hid hw
    have HR := Lib.hid (show false = nameB s by rw [hn, hw]; rfl)
    clear hn hw hs
    go_enter Tryz.func75, Tryz.ntmps75
    go_wp2_with (first | (go_at_call 87; refine (rword_is s HS.out _ HW _).mono ?_; rintro e w1 ⟨rfl, hd1⟩))
    go_ret
    exact ⟨ret_bool HR.out, hd1.below _⟩

end Go.Proofs.YtjmnaibbljakaaaGreatDoor
