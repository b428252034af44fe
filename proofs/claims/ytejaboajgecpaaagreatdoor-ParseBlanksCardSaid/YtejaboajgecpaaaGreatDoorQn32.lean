/- The reference's leaves: lemmas. -/
import Derived.Test.YtejaboajgecpaaaGreatDoorQn31
set_option maxHeartbeats 16000000
set_option maxRecDepth 100000
namespace Go.Proofs.YtejaboajgecpaaaGreatDoor.Tok
open Go.RowKit Go.Shelf Go.Deep
def inB (c : UInt8) (s : ByteArray) : Bool := s.data.toList.contains c
def NotIn (c : UInt8) (s : ByteArray) (k : Nat) : Prop := ∀ j (h : j < s.size), j < k -> s[j] ≠ c
theorem in_any (c : UInt8) (s : ByteArray) (hs : s.size <= 9223372036854775807) (w : World) :
 Calls Tryz.prog 42 #[.int .u8 (c.toNat : Int), .string s] w fun e w' => e = .returned (.bool (inB c s)) /\ w' = w := by
 go_enter Tryz.func42, Tryz.ntmps42
 go_wp2_with fail
 go_loop [5] (fun n => ∃ k : Nat, k <= s.size /\ n = .int .i64 k /\ NotIn c s k) (fun n => s.size - (intOf n).toNat)
 case atStart => exact ⟨0, by omega, rfl, fun j _ h => by omega⟩
 case round =>
  obtain ⟨k, hk, rfl, ha⟩ := hrel
  by_cases hlt : k < s.size
  ·by_cases hc : s[k] = c
   ·have hb : ((s[k].toNat : Int) == (c.toNat : Int)) = true := by rw [hc]; simp
    have hr : true = inB c s := by
     symm; unfold inB; rw [List.contains_iff_mem, <- hc]
     exact List.getElem_mem (show k < s.data.toList.length from hlt)
    have HR := Lib.hid hr
    clear hr hc
    go_wp2_with fail
    go_ret
    exact ⟨ret_bool HR.out, rfl⟩
   ·have hb : ((s[k].toNat : Int) == (c.toNat : Int)) = false := by
     rw [beq_eq_false_iff_ne]; intro e; apply hc; apply UInt8.toNat_inj.1; omega
    have hnext : NotIn c s (k + 1) := fun j hj h => by
     by_cases e : j = k
     ·subst e; exact hc
     ·exact ha j hj (by omega)
    clear hc
    go_wp2_with fail
    go_round
    case rel => exact ⟨k + 1, by omega, by go_num, hnext⟩
    case measure => simp [intOf]; omega
  ·have hr : false = inB c s := by
    symm
    unfold inB
    rw [Bool.eq_false_iff]
    intro h
    rw [List.contains_iff_mem] at h
    obtain ⟨j, hj, e⟩ := List.mem_iff_getElem.1 h
    have hj' : j < s.size := hj
    exact ha j hj' (by omega) e
   have HR := Lib.hid hr
   clear hr
   go_wp2_with fail
   go_ret
   exact ⟨ret_bool HR.out, rfl⟩
theorem letters_any (w : World) :
 Calls Tryz.prog 103 #[] w fun e w' => e = .returned (.string ⟨#[65, 66, 67, 68, 69, 70, 71, 72, 73, 74, 75, 76, 77, 78, 79, 80, 81, 82, 83, 84, 85, 86, 87, 88, 89, 90, 97, 98, 99, 100, 101, 102, 103, 104, 105, 106, 107, 108, 109, 110, 111, 112, 113, 114, 115, 116, 117, 118, 119, 120, 121, 122, 95]⟩) /\ w' = w := by
 go_enter Tryz.func103, Tryz.ntmps103
 go_wp2_with fail
 go_ret
 exact ⟨rfl, rfl⟩
theorem digits_any (w : World) :
 Calls Tryz.prog 104 #[] w fun e w' => e = .returned (.string ⟨#[48, 49, 50, 51, 52, 53, 54, 55, 56, 57]⟩) /\ w' = w := by
 go_enter Tryz.func104, Tryz.ntmps104
 go_wp2_with fail
 go_ret
 exact ⟨rfl, rfl⟩
theorem all_bytes {p q : UInt8 -> Bool} (h : ∀ n : Fin 256, p (UInt8.ofNat n.val) = q (UInt8.ofNat n.val)) (c : UInt8) : p c = q c := by
 have := h ⟨c.toNat, c.toNat_lt⟩
 simpa using this
theorem in_letters (c : UInt8) (w : World) :
 Calls Tryz.prog 42 #[.int .u8 (c.toNat : Int), .string ⟨#[65, 66, 67, 68, 69, 70, 71, 72, 73, 74, 75, 76, 77, 78, 79, 80, 81, 82, 83, 84, 85, 86, 87, 88, 89, 90, 97, 98, 99, 100, 101, 102, 103, 104, 105, 106, 107, 108, 109, 110, 111, 112, 113, 114, 115, 116, 117, 118, 119, 120, 121, 122, 95]⟩] w fun e w' => e = .returned (.bool (Lx.letB (c.toNat : Int))) /\ w' = w := by
 refine (in_any c _ (by decide) w).mono ?_
 rintro e w' ⟨rfl, rfl⟩
 refine ⟨ret_bool ?_, rfl⟩
 exact all_bytes (p := fun c => List.contains _ c) (q := fun c => Lx.letB (c.toNat : Int)) (by decide +kernel) c
theorem in_digits (c : UInt8) (w : World) :
 Calls Tryz.prog 42 #[.int .u8 (c.toNat : Int), .string ⟨#[48, 49, 50, 51, 52, 53, 54, 55, 56, 57]⟩] w fun e w' => e = .returned (.bool (Lx.digB (c.toNat : Int))) /\ w' = w := by
 refine (in_any c _ (by decide) w).mono ?_
 rintro e w' ⟨rfl, rfl⟩
 refine ⟨ret_bool ?_, rfl⟩
 exact all_bytes (p := fun c => List.contains _ c) (q := fun c => Lx.digB (c.toNat : Int)) (by decide +kernel) c
theorem in_blanks (c : UInt8) (w : World) :
 Calls Tryz.prog 42 #[.int .u8 (c.toNat : Int), .string ⟨#[32, 9, 10, 13]⟩] w fun e w' => e = .returned (.bool (Lx.blank c)) /\ w' = w := by
 refine (in_any c _ (by decide) w).mono ?_
 rintro e w' ⟨rfl, rfl⟩
 refine ⟨ret_bool ?_, rfl⟩
 exact all_bytes (p := fun c => List.contains _ c) (q := Lx.blank) (by decide +kernel) c
theorem in_signs (c : UInt8) (w : World) :
 Calls Tryz.prog 42 #[.int .u8 (c.toNat : Int), .string ⟨#[33, 63, 46, 40, 41, 123, 125, 60, 62, 44, 58, 59, 124, 38, 43, 61]⟩] w fun e w' => e = .returned (.bool (Lx.isSign c)) /\ w' = w := by
 refine (in_any c _ (by decide) w).mono ?_
 rintro e w' ⟨rfl, rfl⟩
 exact ⟨rfl, rfl⟩
theorem inB_letters (c : UInt8) : inB c ⟨#[65, 66, 67, 68, 69, 70, 71, 72, 73, 74, 75, 76, 77, 78, 79, 80, 81, 82, 83, 84, 85, 86, 87, 88, 89, 90, 97, 98, 99, 100, 101, 102, 103, 104, 105, 106, 107, 108, 109, 110, 111, 112, 113, 114, 115, 116, 117, 118, 119, 120, 121, 122, 95]⟩ = Lx.letB (c.toNat : Int) := all_bytes (p := fun c => inB c ⟨#[65, 66, 67, 68, 69, 70, 71, 72, 73, 74, 75, 76, 77, 78, 79, 80, 81, 82, 83, 84, 85, 86, 87, 88, 89, 90, 97, 98, 99, 100, 101, 102, 103, 104, 105, 106, 107, 108, 109, 110, 111, 112, 113, 114, 115, 116, 117, 118, 119, 120, 121, 122, 95]⟩) (q := fun c => Lx.letB (c.toNat : Int)) (by decide +kernel) c
theorem inB_digits (c : UInt8) : inB c ⟨#[48, 49, 50, 51, 52, 53, 54, 55, 56, 57]⟩ = Lx.digB (c.toNat : Int) := all_bytes (p := fun c => inB c ⟨#[48, 49, 50, 51, 52, 53, 54, 55, 56, 57]⟩) (q := fun c => Lx.digB (c.toNat : Int)) (by decide +kernel) c
def Drew (w wr : World) : Prop := ∃ nq, wr = w.drewN nq
theorem Drew.refl (w : World) : Drew w w := ⟨0, rfl⟩
theorem Drew.more {w wr : World} (h : Drew w wr) (n : Nat) : Drew w (wr.drewN n) := by
 obtain ⟨m, rfl⟩ := h; exact ⟨m + n, by rw [World.drewN_drewN]⟩
theorem Drew.trans {a b c : World} (h : Drew a b) (g : Drew b c) : Drew a c := by
 obtain ⟨n, rfl⟩ := g; exact h.more n
theorem Drew.below {w wr : World} (h : Drew w wr) (B : Nat) : Below B w wr := by
 obtain ⟨n, rfl⟩ := h; exact below_drewN (Below.refl _ _) n
def rWord : List UInt8 -> Bool
 | [] => false
 | c :: r => Lx.letU c && r.all Lx.wcU
theorem rword_none (s : ByteArray) (h0 : s.size = 0) (w : World) :
 Calls Tryz.prog 73 #[.string s] w fun e w' => e = .returned (.bool false) /\ Drew w w' := by
 have hb : ((s.size : Int) == 0) = true := by rw [beq_iff_eq]; omega
 go_enter Tryz.func73, Tryz.ntmps73
 go_wp2_with fail
 go_quiet (fail)
 go_wp2
 go_ret
 exact ⟨rfl, (Drew.refl _).more _⟩
theorem rword_no (s : ByteArray) (h0 : 0 < s.size) (hl : Lx.letB (s[0].toNat : Int) = false) (w : World) :
 Calls Tryz.prog 73 #[.string s] w fun e w' => e = .returned (.bool false) /\ Drew w w' := by
 have hb : ((s.size : Int) == 0) = false := by rw [beq_eq_false_iff_ne]; omega
 go_enter Tryz.func73, Tryz.ntmps73
 go_wp2_with fail
 go_quiet (first | (go_at_call 103; exact Calls.quiet_of_same (letters_any _)) | (go_at_call 42; exact Calls.quiet_of_same (in_letters _ _)))
 go_wp2
 go_ret
 exact ⟨rfl, (Drew.refl _).more _⟩
def AllWcFrom (s : ByteArray) (k : Nat) : Prop := ∀ j (h : j < s.size), 1 <= j -> j < k -> Lx.wcU s[j] = true
theorem rword_yes (s : ByteArray) (h0 : 0 < s.size) (hs : s.size <= 9223372036854775807) (hl : Lx.letB (s[0].toNat : Int) = true) (w : World) :
 Calls Tryz.prog 73 #[.string s] w fun e w' => e = .returned (.bool (rWord s.data.toList)) /\ Drew w w' := by
 have hb : ((s.size : Int) == 0) = false := by rw [beq_eq_false_iff_ne]; omega
 have hd := data_cons s h0
 have hlen : s.data.toList.length = s.size := rfl
 have htail : ∀ j (h : j + 1 < s.size), s.data.toList.tail[j]'(by rw [List.length_tail]; omega) = s[j + 1] := fun j h => by rw [List.getElem_tail]; rfl
 have HD := Lib.hid hd
 have HT := Lib.hid htail
 clear hd htail
 go_enter Tryz.func73, Tryz.ntmps73
 go_wp2_with fail
 go_quiet (first | (go_at_call 103; exact Calls.quiet_of_same (letters_any _)) | (go_at_call 42; exact Calls.quiet_of_same (in_letters _ _)))
 go_wp2_with fail
 go_loopw [3] (fun n wr => ∃ k : Nat, 1 <= k /\ k <= s.size /\ n = .int .i64 k /\ AllWcFrom s k /\ Drew w wr) (fun n _ => s.size - (intOf n).toNat)
 case atStart => exact ⟨1, by omega, by omega, rfl, fun j _ h3 h4 => by omega, (Drew.refl _).more _⟩
 case round =>
  obtain ⟨k, hk1, hk2, rfl, ha, hdr⟩ := hrel
  by_cases hlt : k < s.size
  ·have hnext : Lx.wcU s[k] = true -> AllWcFrom s (k + 1) := by
    intro hw j hj h3 h4
    by_cases e : j = k
    ·subst e; exact hw
    ·exact ha j hj h3 (by omega)
   have HNX := Lib.hid hnext
   clear hnext
   have hk0 : (0 : Int) <= (k : Int) := Int.natCast_nonneg _
   have hk3 : (k : Int) < (s.size : Int) := by omega
   by_cases hle : Lx.letB (s[k].toNat : Int) = true
   ·have hw : Lx.wcU s[k] = true := by unfold Lx.wcU Lx.letU; rw [hle]; rfl
    have HW := Lib.hid (HNX.out hw)
    clear hw hl
    go_wp2_with fail
    go_quiet (first | (go_at_call 103; exact Calls.quiet_of_same (letters_any _)) | (go_at_call 42; exact Calls.quiet_of_same (in_letters _ _)))
    go_wp2_with fail
    go_roundw
    case rel => exact ⟨k + 1, by omega, by omega, by go_num, HW.out, hdr.more _⟩
    case measure => simp [intOf]; omega
   ·have hle' : Lx.letB (s[k].toNat : Int) = false := by simpa using hle
    by_cases hdg : Lx.digB (s[k].toNat : Int) = true
    ·have hw : Lx.wcU s[k] = true := by unfold Lx.wcU Lx.digU; rw [hdg, Bool.or_true]
     have hil := inB_letters s[k]
     have hid := inB_digits s[k]
     rw [hle'] at hil
     rw [hdg] at hid
     have HW := Lib.hid (HNX.out hw)
     clear hw hl hle
     go_wp2_with fail
     go_quiet (first | (go_at_call 103; exact Calls.quiet_of_same (letters_any _)) | (go_at_call 104; exact Calls.quiet_of_same (digits_any _)) | (go_at_call 42; exact Calls.quiet_of_same (in_any _ _ (by decide) _)))
     go_wp2_with fail
     go_roundw
     case rel => exact ⟨k + 1, by omega, by omega, by go_num, HW.out, hdr.more _⟩
     case measure => simp [intOf]; omega
    ·have hdg' : Lx.digB (s[k].toNat : Int) = false := by simpa using hdg
     have hr : false = rWord s.data.toList := by
      symm
      rw [HD.out]; simp only [rWord]
      rw [Bool.and_eq_false_iff]; right
      rw [Bool.eq_false_iff]; intro h
      rw [List.all_eq_true] at h
      have h2 := h (s.data.toList.tail[k - 1]'(by rw [List.length_tail]; omega)) (List.getElem_mem _)
      rw [HT.out (k - 1) (by omega)] at h2
      have e : k - 1 + 1 = k := by omega
      simp only [e] at h2
      simp [Lx.wcU, Lx.letU, Lx.digU, hle', hdg'] at h2
     have HR := Lib.hid hr
     have hil := inB_letters s[k]
     have hid := inB_digits s[k]
     rw [hle'] at hil
     rw [hdg'] at hid
     clear hr hl hle hdg
     go_wp2_with fail
     go_quiet (first | (go_at_call 103; exact Calls.quiet_of_same (letters_any _)) | (go_at_call 104; exact Calls.quiet_of_same (digits_any _)) | (go_at_call 42; exact Calls.quiet_of_same (in_any _ _ (by decide) _)))
     go_wp2
     go_ret
     exact ⟨ret_bool HR.out, hdr.more _⟩
  ·have hr : true = rWord s.data.toList := by
    symm
    rw [HD.out]; simp only [rWord]
    rw [Bool.and_eq_true]
    refine ⟨hl, ?_⟩
    rw [List.all_eq_true]
    intro x hx
    obtain ⟨j, hj, e⟩ := List.mem_iff_getElem.1 hx
    rw [List.length_tail] at hj
    rw [HT.out j (by omega)] at e
    rw [<- e]; exact ha (j + 1) (by omega) (by omega) (by omega)
   have HR := Lib.hid hr
   clear hr hl
   go_wp2
   go_ret
   exact ⟨ret_bool HR.out, hdr⟩
theorem rword_any (s : ByteArray) (hs : s.size <= 9223372036854775807) (w : World) :
 Calls Tryz.prog 73 #[.string s] w fun e w' => e = .returned (.bool (rWord s.data.toList)) /\ Drew w w' := by
 by_cases h0 : 0 < s.size
 ·by_cases hl : Lx.letB (s[0].toNat : Int) = true
  ·exact rword_yes s h0 hs hl w
  ·have hl' : Lx.letB (s[0].toNat : Int) = false := by simpa using hl
   refine (rword_no s h0 hl' w).mono ?_
   rintro e w' ⟨rfl, h⟩
   refine ⟨ret_bool ?_, h⟩
   rw [data_cons s h0]; simp only [rWord]
   rw [show Lx.letU s[0] = false from hl']; rfl
 ·refine (rword_none s (by omega) w).mono ?_
  rintro e w' ⟨rfl, h⟩
  have := toList_nil s (by omega)
  rw [Lib.toList_data] at this
  exact ⟨ret_bool (by rw [this]; rfl), h⟩
end Go.Proofs.YtejaboajgecpaaaGreatDoor.Tok
namespace Go.Proofs.YtejaboajgecpaaaGreatDoor.Tok
open Go.Lib (hid)
open Go.RowKit Go.Shelf Go.Deep
def AllDigFrom (s : ByteArray) (k : Nat) : Prop := ∀ j (h : j < s.size), j < k -> Lx.digU s[j] = true
def rTail : List UInt8 -> Bool
 | [] => false
 | c :: r => c != 48 && (c :: r).all Lx.digU
def rNum (l : List UInt8) : Bool :=
 if l = [48] then true else if l.head? = some 45 then rTail l.tail else rTail l
theorem rtail_nil (s : ByteArray) (h : s.size = 0) : rTail s.data.toList = false := by
 have := toList_nil s h
 rw [Lib.toList_data] at this
 rw [this]; rfl
theorem rtail_first (s : ByteArray) (h : 0 < s.size) (h48 : s[0] = 48) : rTail s.data.toList = false := by
 rw [data_cons s h, h48]; rfl
theorem rtail_true (s : ByteArray) (h : 0 < s.size) (h48 : s[0] ≠ 48) (ha : AllDigFrom s s.size) : rTail s.data.toList = true := by
 have hall : s.data.toList.all Lx.digU = true := by
  rw [List.all_eq_true]
  intro x hx
  obtain ⟨j, hj, e⟩ := List.mem_iff_getElem.1 hx
  rw [<- e]; exact ha j hj hj
 rw [data_cons s h] at hall |-
 simp only [rTail]
 rw [hall, Bool.and_true]; simpa using h48
theorem rtail_false (s : ByteArray) (k : Nat) (hk : k < s.size) (hd : Lx.digU s[k] = false) : rTail s.data.toList = false := by
 have hall : s.data.toList.all Lx.digU = false := by
  rw [Bool.eq_false_iff]; intro h
  rw [List.all_eq_true] at h
  have := h (s.data.toList[k]'hk) (List.getElem_mem _)
  have e : s.data.toList[k]'hk = s[k] := rfl
  rw [e, hd] at this; cases this
 have h : 0 < s.size := by omega
 rw [data_cons s h] at hall |-
 simp only [rTail]
 rw [hall, Bool.and_false]
theorem rnum_minus (s : ByteArray) (h : 0 < s.size) (h45 : s[0] = 45) : rNum s.data.toList = rTail (s.extract 1 s.size).data.toList := by
 have e : (s.extract 1 s.size).data.toList = s.data.toList.tail := by rw [Lib.extract_to_end, List.drop_one]
 rw [e]
 unfold rNum
 rw [data_cons s h, h45]; simp
theorem rnum_plain (s : ByteArray) (h1 : (s.toList == [48]) = false) (h45 : ∀ h : 0 < s.size, s[0] ≠ 45) : rNum s.data.toList = rTail s.data.toList := by
 unfold rNum
 have h1' : s.data.toList ≠ [48] := by rw [<- Lib.toList_data]; simpa using h1
 rw [if_neg h1']
 by_cases h : 0 < s.size
 ·have h2 := h45 h
  rw [data_cons s h]; simp [h2]
 ·have := toList_nil s (by omega)
  rw [Lib.toList_data] at this
  rw [this]; rfl
theorem rnum_zero (s : ByteArray) (h0 : (s.toList == [48]) = true) (w : World) :
 Calls Tryz.prog 74 #[.string s] w fun e w' => e = .returned (.bool true) /\ Drew w w' := by
 go_enter Tryz.func74, Tryz.ntmps74
 go_wp2_with fail
 go_ret
 exact ⟨rfl, Drew.refl _⟩
theorem rnum_m1 (s : ByteArray) (h0 : (s.toList == [48]) = false) (hs : 0 < s.size) (hm : ((s[0].toNat : Int) == 45) = true) (h1 : s.size - 1 = 0) (w : World) :
 Calls Tryz.prog 74 #[.string s] w fun e w' => e = .returned (.bool false) /\ Drew w w' := by
 go_enter Tryz.func74, Tryz.ntmps74
 go_wp2_with fail
 go_ret
 exact ⟨rfl, Drew.refl _⟩
theorem rnum_m2 (s : ByteArray) (h0 : (s.toList == [48]) = false) (hs : 0 < s.size) (hm : ((s[0].toNat : Int) == 45) = true) (_h1 : ¬ s.size - 1 = 0) (_h2 : 0 < s.size - 1) (_h3 : (((s.size - 1 : Nat) : Int) == 0) = false) (_h4 : ((((s.extract 1 s.size)[0]'(by simp; omega)).toNat : Int) == 48) = true) (w : World) :
 Calls Tryz.prog 74 #[.string s] w fun e w' => e = .returned (.bool false) /\ Drew w w' := by
 go_enter Tryz.func74, Tryz.ntmps74
 go_wp2_with fail
 go_ret
 exact ⟨rfl, Drew.refl _⟩
theorem rnum_p1 (s : ByteArray) (h0 : (s.toList == [48]) = false) (hs : s.size = 0) (w : World) :
 Calls Tryz.prog 74 #[.string s] w fun e w' => e = .returned (.bool false) /\ Drew w w' := by
 go_enter Tryz.func74, Tryz.ntmps74
 go_wp2_with fail
 go_ret
 exact ⟨rfl, Drew.refl _⟩
theorem rnum_p2 (s : ByteArray) (h0 : (s.toList == [48]) = false) (hs : 0 < s.size) (hm : ((s[0].toNat : Int) == 45) = false) (_h3 : ((s.size : Int) == 0) = false) (_h4 : ((s[0].toNat : Int) == 48) = true) (w : World) :
 Calls Tryz.prog 74 #[.string s] w fun e w' => e = .returned (.bool false) /\ Drew w w' := by
 go_enter Tryz.func74, Tryz.ntmps74
 go_wp2_with fail
 go_ret
 exact ⟨rfl, Drew.refl _⟩
theorem rnum_m3 (s : ByteArray) (hsz : s.size <= 9223372036854775807) (h0 : (s.toList == [48]) = false) (hs : 0 < s.size) (hm : ((s[0].toNat : Int) == 45) = true) (_h1 : ¬ s.size - 1 = 0) (_h2 : 0 < s.size - 1) (_h3 : (((s.size - 1 : Nat) : Int) == 0) = false) (_h4 : ((((s.extract 1 s.size)[0]'(by simp; omega)).toNat : Int) == 48) = false) (h48 : Hid ((s.extract 1 s.size)[0]'(by simp; omega) ≠ 48)) (w : World) :
 Calls Tryz.prog 74 #[.string s] w fun e w' => e = .returned (.bool (rTail (s.extract 1 s.size).data.toList)) /\ Drew w w' := by
 have hS : (s.extract 1 s.size).size = s.size - 1 := by simp
 have HS := hid hS
 clear hS
 go_enter Tryz.func74, Tryz.ntmps74
 go_wp2_with fail
 go_loopw [3] (fun n wr => ∃ k : Nat, k <= s.size - 1 /\ n = .int .i64 k /\ AllDigFrom (s.extract 1 s.size) k /\ Drew w wr) (fun n _ => s.size - 1 - (intOf n).toNat)
 case atStart => exact ⟨0, by omega, rfl, fun j _ h => by omega, Drew.refl _⟩
 case round =>
  obtain ⟨k, hk, rfl, ha, hdr⟩ := hrel
  by_cases hlt : k < s.size - 1
  ·have hk0 : (0 : Int) <= (k : Int) := Int.natCast_nonneg _
   have hk3 : (k : Int) < ((s.size - 1 : Nat) : Int) := by omega
   have hlt' : k < (s.extract 1 s.size).size := by rw [HS.out]; exact hlt
   by_cases hd : Lx.digB (((s.extract 1 s.size)[k]'hlt').toNat : Int) = true
   ·have hnext : AllDigFrom (s.extract 1 s.size) (k + 1) := fun j hj h => by
     by_cases e : j = k
     ·subst e; exact hd
     ·exact ha j hj (by omega)
    go_wp2_with fail
    go_quiet (first | (go_at_call 104; exact Calls.quiet_of_same (digits_any _)) | (go_at_call 42; exact Calls.quiet_of_same (in_digits _ _)))
    go_wp2_with fail
    go_roundw
    case rel => exact ⟨k + 1, by omega, by go_num, hnext, hdr.more _⟩
    case measure => simp [intOf]; omega
   ·have hd' : Lx.digB (((s.extract 1 s.size)[k]'hlt').toNat : Int) = false := by simpa using hd
    have HR := hid (rtail_false (s.extract 1 s.size) k hlt' hd')
    clear hd
    go_wp2_with fail
    go_quiet (first | (go_at_call 104; exact Calls.quiet_of_same (digits_any _)) | (go_at_call 42; exact Calls.quiet_of_same (in_digits _ _)))
    go_wp2
    go_ret
    exact ⟨ret_bool HR.out.symm, hdr.more _⟩
  ·have ha' : AllDigFrom (s.extract 1 s.size) (s.extract 1 s.size).size := by
    have e : k = s.size - 1 := by omega
    rw [HS.out, <- e]; exact ha
   have HR := hid (rtail_true (s.extract 1 s.size) (by rw [HS.out]; omega) h48.out ha')
   go_wp2
   go_ret
   exact ⟨ret_bool HR.out.symm, hdr⟩
theorem rnum_p3 (s : ByteArray) (hsz : s.size <= 9223372036854775807) (h0 : (s.toList == [48]) = false) (hs : 0 < s.size) (hm : ((s[0].toNat : Int) == 45) = false) (_h3 : ((s.size : Int) == 0) = false) (_h4 : ((s[0].toNat : Int) == 48) = false) (h48 : Hid (s[0] ≠ 48)) (w : World) :
 Calls Tryz.prog 74 #[.string s] w fun e w' => e = .returned (.bool (rTail s.data.toList)) /\ Drew w w' := by
 go_enter Tryz.func74, Tryz.ntmps74
 go_wp2_with fail
 go_loopw [3] (fun n wr => ∃ k : Nat, k <= s.size /\ n = .int .i64 k /\ AllDigFrom (s) k /\ Drew w wr) (fun n _ => s.size - (intOf n).toNat)
 case atStart => exact ⟨0, by omega, rfl, fun j _ h => by omega, Drew.refl _⟩
 case round =>
  obtain ⟨k, hk, rfl, ha, hdr⟩ := hrel
  by_cases hlt : k < s.size
  ·have hk0 : (0 : Int) <= (k : Int) := Int.natCast_nonneg _
   have hk3 : (k : Int) < ((s.size : Nat) : Int) := by omega
   have hlt' : k < s.size := hlt
   by_cases hd : Lx.digB ((s[k]'hlt').toNat : Int) = true
   ·have hnext : AllDigFrom (s) (k + 1) := fun j hj h => by
     by_cases e : j = k
     ·subst e; exact hd
     ·exact ha j hj (by omega)
    go_wp2_with fail
    go_quiet (first | (go_at_call 104; exact Calls.quiet_of_same (digits_any _)) | (go_at_call 42; exact Calls.quiet_of_same (in_digits _ _)))
    go_wp2_with fail
    go_roundw
    case rel => exact ⟨k + 1, by omega, by go_num, hnext, hdr.more _⟩
    case measure => simp [intOf]; omega
   ·have hd' : Lx.digB ((s[k]'hlt').toNat : Int) = false := by simpa using hd
    have HR := hid (rtail_false (s) k hlt' hd')
    clear hd
    go_wp2_with fail
    go_quiet (first | (go_at_call 104; exact Calls.quiet_of_same (digits_any _)) | (go_at_call 42; exact Calls.quiet_of_same (in_digits _ _)))
    go_wp2
    go_ret
    exact ⟨ret_bool HR.out.symm, hdr.more _⟩
  ·have ha' : AllDigFrom s s.size := by
    have e : k = s.size := by omega
    rw [<- e]; exact ha
   have HR := hid (rtail_true s (by omega) h48.out ha')
   go_wp2
   go_ret
   exact ⟨ret_bool HR.out.symm, hdr⟩
theorem rnum_any (s : ByteArray) (hs : s.size <= 9223372036854775807) (w : World) :
 Calls Tryz.prog 74 #[.string s] w fun e w' => e = .returned (.bool (rNum s.data.toList)) /\ Drew w w' := by
 have b48 : ∀ c : UInt8, c ≠ 48 -> ((c.toNat : Int) == 48) = false := fun c h => by
  rw [beq_eq_false_iff_ne]; intro e; apply h; apply UInt8.toNat_inj.1; have : (48 : UInt8).toNat = 48 := rfl; omega
 cases hz : (s.toList == [48]) with
 | true =>
  refine (rnum_zero s hz w).mono ?_
  rintro e w' ⟨rfl, h⟩
  refine ⟨ret_bool ?_, h⟩
  unfold rNum; rw [if_pos (by rw [<- Lib.toList_data]; simpa using hz)]
 | false =>
  by_cases h0 : 0 < s.size
  ·by_cases h45 : s[0] = 45
   ·have hm : ((s[0].toNat : Int) == 45) = true := by rw [h45]; rfl
    rw [rnum_minus s h0 h45]
    by_cases h1 : s.size - 1 = 0
    ·refine (rnum_m1 s hz h0 hm h1 w).mono ?_
     rintro e w' ⟨rfl, h⟩
     exact ⟨ret_bool (rtail_nil _ (by rw [ByteArray.size_extract]; omega)).symm, h⟩
    ·have h2 : 0 < s.size - 1 := by omega
     have h3 : (((s.size - 1 : Nat) : Int) == 0) = false := by rw [beq_eq_false_iff_ne]; omega
     have hz2 : 0 < (s.extract 1 s.size).size := by rw [ByteArray.size_extract]; omega
     by_cases h48 : (s.extract 1 s.size)[0]'hz2 = 48
     ·refine (rnum_m2 s hz h0 hm h1 h2 h3 (by rw [h48]; rfl) w).mono ?_
      rintro e w' ⟨rfl, h⟩
      exact ⟨ret_bool (rtail_first _ hz2 h48).symm, h⟩
     ·exact rnum_m3 s hs hz h0 hm h1 h2 h3 (b48 _ h48) (hid h48) w
   ·have hm : ((s[0].toNat : Int) == 45) = false := by
     rw [beq_eq_false_iff_ne]; intro e; apply h45; apply UInt8.toNat_inj.1; have : (45 : UInt8).toNat = 45 := rfl; omega
    have h3 : ((s.size : Int) == 0) = false := by rw [beq_eq_false_iff_ne]; omega
    rw [rnum_plain s hz (fun _ => h45)]
    by_cases h48 : s[0] = 48
    ·refine (rnum_p2 s hz h0 hm h3 (by rw [h48]; rfl) w).mono ?_
     rintro e w' ⟨rfl, h⟩
     exact ⟨ret_bool (rtail_first _ h0 h48).symm, h⟩
    ·exact rnum_p3 s hs hz h0 hm h3 (b48 _ h48) (hid h48) w
  ·refine (rnum_p1 s hz (by omega) w).mono ?_
   rintro e w' ⟨rfl, h⟩
   rw [rnum_plain s hz (fun h => absurd h h0)]
   exact ⟨ret_bool (rtail_nil _ (by omega)).symm, h⟩
def rSign : List UInt8 -> Bool
 | [c] => Lx.isSign c
 | _ => false
def rKind (l : List UInt8) : Nat := if rWord l then 1 else if rNum l then 2 else if rSign l then 3 else 0
theorem rword_is (s : ByteArray) (hs : s.size <= 9223372036854775807) (b : Bool) (h : Hid (rWord s.data.toList = b)) (w : World) :
 Calls Tryz.prog 73 #[.string s] w fun e w' => e = .returned (.bool b) /\ Drew w w' := by
 have := rword_any s hs w
 rw [h.out] at this; exact this
theorem rnum_is (s : ByteArray) (hs : s.size <= 9223372036854775807) (b : Bool) (h : Hid (rNum s.data.toList = b)) (w : World) :
 Calls Tryz.prog 74 #[.string s] w fun e w' => e = .returned (.bool b) /\ Drew w w' := by
 have := rnum_any s hs w
 rw [h.out] at this; exact this
theorem kind_word (s : ByteArray) (hs : Hid (s.size <= 9223372036854775807)) (h1 : Hid (rWord s.data.toList = true)) (w : World) :
 Calls Tryz.prog 44 #[.string s] w fun e w' => e = .returned (.int .i64 1) /\ Drew w w' := by
 go_enter Tryz.func44, Tryz.ntmps44
 go_wp2_with (go_at_call 73; refine (rword_is s hs.out _ h1 _).mono ?_; rintro e w' ⟨rfl, hd1⟩)
 go_ret
 exact ⟨rfl, hd1⟩
theorem kind_num (s : ByteArray) (hs : Hid (s.size <= 9223372036854775807)) (h1 : Hid (rWord s.data.toList = false)) (h2 : Hid (rNum s.data.toList = true)) (w : World) :
 Calls Tryz.prog 44 #[.string s] w fun e w' => e = .returned (.int .i64 2) /\ Drew w w' := by
 go_enter Tryz.func44, Tryz.ntmps44
 go_wp2_with (first | (go_at_call 73; refine (rword_is s hs.out _ h1 _).mono ?_; rintro e w' ⟨rfl, hd1⟩) | (go_at_call 74; refine (rnum_is s hs.out _ h2 _).mono ?_; rintro e w' ⟨rfl, hd2⟩))
 go_ret
 exact ⟨rfl, hd1.trans hd2⟩
theorem kind_long (s : ByteArray) (hs : Hid (s.size <= 9223372036854775807)) (h1 : Hid (rWord s.data.toList = false)) (h2 : Hid (rNum s.data.toList = false)) (h3 : ((s.size : Int) == 1) = false) (w : World) :
 Calls Tryz.prog 44 #[.string s] w fun e w' => e = .returned (.int .i64 0) /\ Drew w w' := by
 go_enter Tryz.func44, Tryz.ntmps44
 go_wp2_with (first | (go_at_call 73; refine (rword_is s hs.out _ h1 _).mono ?_; rintro e w' ⟨rfl, hd1⟩) | (go_at_call 74; refine (rnum_is s hs.out _ h2 _).mono ?_; rintro e w' ⟨rfl, hd2⟩))
 go_ret
 exact ⟨rfl, hd1.trans hd2⟩
theorem kind_one (s : ByteArray) (hs : Hid (s.size <= 9223372036854775807)) (h1 : Hid (rWord s.data.toList = false)) (h2 : Hid (rNum s.data.toList = false)) (h3 : ((s.size : Int) == 1) = true) (h0 : 0 < s.size) (b : Bool) (hb : Lx.isSign s[0] = b) (w : World) :
 Calls Tryz.prog 44 #[.string s] w fun e w' => e = .returned (.int .i64 (if b then 3 else 0)) /\ Drew w w' := by
 go_enter Tryz.func44, Tryz.ntmps44
 go_wp2_with (first | (go_at_call 73; refine (rword_is s hs.out _ h1 _).mono ?_; rintro e w' ⟨rfl, hd1⟩) | (go_at_call 74; refine (rnum_is s hs.out _ h2 _).mono ?_; rintro e w' ⟨rfl, hd2⟩) | (go_at_call 42; refine (in_signs _ _).mono ?_; rintro e w' ⟨rfl, rfl⟩))
 all_goals (go_ret; exact ⟨rfl, hd1.trans hd2⟩)
theorem len_one (s : ByteArray) (h : s.size = 1) (h0 : 0 < s.size) : s.data.toList = [s[0]] := by
 rw [data_cons s h0]
 have : s.data.toList.tail.length = 0 := by rw [List.length_tail]; show s.size - 1 = 0; omega
 rw [List.eq_nil_of_length_eq_zero this]
theorem rsign_long (l : List UInt8) (h : l.length ≠ 1) : rSign l = false := by
 match l, h with
 | [], _ => rfl
 | [_], h => exact absurd rfl h
 | _ :: _ :: _, _ => rfl
theorem kind_any (s : ByteArray) (hs : s.size <= 9223372036854775807) (w : World) :
 Calls Tryz.prog 44 #[.string s] w fun e w' => e = .returned (.int .i64 (rKind s.data.toList)) /\ Drew w w' := by
 cases h1 : rWord s.data.toList with
 | true =>
  have hk : rKind s.data.toList = 1 := by unfold rKind; rw [if_pos h1]
  rw [hk]; exact kind_word s (hid hs) (hid h1) w
 | false =>
  cases h2 : rNum s.data.toList with
  | true =>
   have hk : rKind s.data.toList = 2 := by unfold rKind; rw [if_neg (by simp [h1]), if_pos h2]
   rw [hk]; exact kind_num s (hid hs) (hid h1) (hid h2) w
  | false =>
   by_cases h3 : s.size = 1
   ·have h0 : 0 < s.size := by omega
    have hk : rKind s.data.toList = if Lx.isSign s[0] then 3 else 0 := by unfold rKind; rw [if_neg (by simp [h1]), if_neg (by simp [h2]), len_one s h3 h0]; rfl
    rw [hk]
    refine (kind_one s (hid hs) (hid h1) (hid h2) (by rw [beq_iff_eq]; omega) h0 _ rfl w).mono ?_
    rintro e w' ⟨rfl, h⟩
    refine ⟨?_, h⟩
    split <;> rfl
   ·have hk : rKind s.data.toList = 0 := by unfold rKind; rw [if_neg (by simp [h1]), if_neg (by simp [h2]), rsign_long _ (by exact h3)]; rfl
    rw [hk]; exact kind_long s (hid hs) (hid h1) (hid h2) (by rw [beq_eq_false_iff_ne]; omega) w
end Go.Proofs.YtejaboajgecpaaaGreatDoor.Tok
