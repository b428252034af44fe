/- The reference of layer 1: lemmas. -/
import Derived.Test.YtejaboajgecpaaaGreatDoorQb5
import Derived.Deep.RegionHeld3
import Derived.Deep.RegionHeldLaw
import Derived.Deep.AppendLies
import Derived.Deep.RegionLaw
set_option maxHeartbeats 16000000
set_option maxRecDepth 100000
namespace Go.Proofs.YtejaboajgecpaaaGreatDoor
open Go.RowKit Go.Shelf
def inB (c : UInt8) (s : ByteArray) : Bool := s.data.toList.contains c
def NotIn (c : UInt8) (s : ByteArray) (k : Nat) : Prop := ∀ j (h : j < s.size), j < k -> s[j] ≠ c
theorem in_any (c : UInt8) (s : ByteArray) (hs : s.size <= 9223372036854775807) (w : World) :
 Calls Tryz.prog 42 #[.int .u8 (c.toNat : Int), .string s] w fun e w' => e = .returned (.bool (inB c s)) /\ w' = w := by
 go_enter Tryz.func42, Tryz.ntmps42
 go_wp2_with fail
 go_loop [5] (fun n => ∃ k : Nat, k <= s.size /\ n = .int .i64 k /\ NotIn c s k) (fun n => s.size - (intOf n).toNat)
 case atStart => exact ⟨0, by omega, rfl, fun j _ h => by omega⟩
 case round =>
  obtain ⟨k, hk, rfl, ha⟩ := hrel
  by_cases hlt : k < s.size
  ·by_cases hc : s[k] = c
   ·have hb : ((s[k].toNat : Int) == (c.toNat : Int)) = true := by rw [hc]; simp
    have hr : true = inB c s := by
     symm; unfold inB; rw [List.contains_iff_mem, <- hc]
     exact List.getElem_mem (show k < s.data.toList.length from hlt)
    have HR := Lib.hid hr
    clear hr hc
    go_wp2_with fail
    go_ret
    exact ⟨ret_bool HR.out, rfl⟩
   ·have hb : ((s[k].toNat : Int) == (c.toNat : Int)) = false := by
     rw [beq_eq_false_iff_ne]; intro e; apply hc; apply UInt8.toNat_inj.1; omega
    have hnext : NotIn c s (k + 1) := fun j hj h => by
     by_cases e : j = k
     ·subst e; exact hc
     ·exact ha j hj (by omega)
    clear hc
    go_wp2_with fail
    go_round
    case rel => exact ⟨k + 1, by omega, by go_num, hnext⟩
    case measure => simp [intOf]; omega
  ·have hr : false = inB c s := by
    symm
    unfold inB
    rw [Bool.eq_false_iff]
    intro h
    rw [List.contains_iff_mem] at h
    obtain ⟨j, hj, e⟩ := List.mem_iff_getElem.1 h
    have hj' : j < s.size := hj
    exact ha j hj' (by omega) e
   have HR := Lib.hid hr
   clear hr
   go_wp2_with fail
   go_ret
   exact ⟨ret_bool HR.out, rfl⟩
theorem letters_any (w : World) :
 Calls Tryz.prog 103 #[] w fun e w' => e = .returned (.string ⟨#[65, 66, 67, 68, 69, 70, 71, 72, 73, 74, 75, 76, 77, 78, 79, 80, 81, 82, 83, 84, 85, 86, 87, 88, 89, 90, 97, 98, 99, 100, 101, 102, 103, 104, 105, 106, 107, 108, 109, 110, 111, 112, 113, 114, 115, 116, 117, 118, 119, 120, 121, 122, 95]⟩) /\ w' = w := by
 go_enter Tryz.func103, Tryz.ntmps103
 go_wp2_with fail
 go_ret
 exact ⟨rfl, rfl⟩
theorem digits_any (w : World) :
 Calls Tryz.prog 104 #[] w fun e w' => e = .returned (.string ⟨#[48, 49, 50, 51, 52, 53, 54, 55, 56, 57]⟩) /\ w' = w := by
 go_enter Tryz.func104, Tryz.ntmps104
 go_wp2_with fail
 go_ret
 exact ⟨rfl, rfl⟩
theorem all_bytes {p q : UInt8 -> Bool} (h : ∀ n : Fin 256, p (UInt8.ofNat n.val) = q (UInt8.ofNat n.val)) (c : UInt8) : p c = q c := by
 have := h ⟨c.toNat, c.toNat_lt⟩
 simpa using this
theorem in_letters (c : UInt8) (w : World) :
 Calls Tryz.prog 42 #[.int .u8 (c.toNat : Int), .string ⟨#[65, 66, 67, 68, 69, 70, 71, 72, 73, 74, 75, 76, 77, 78, 79, 80, 81, 82, 83, 84, 85, 86, 87, 88, 89, 90, 97, 98, 99, 100, 101, 102, 103, 104, 105, 106, 107, 108, 109, 110, 111, 112, 113, 114, 115, 116, 117, 118, 119, 120, 121, 122, 95]⟩] w fun e w' => e = .returned (.bool (Lx.letB (c.toNat : Int))) /\ w' = w := by
 refine (in_any c _ (by decide) w).mono ?_
 rintro e w' ⟨rfl, rfl⟩
 refine ⟨ret_bool ?_, rfl⟩
 exact all_bytes (p := fun c => List.contains _ c) (q := fun c => Lx.letB (c.toNat : Int)) (by decide +kernel) c
theorem inB_letters (c : UInt8) : inB c ⟨#[65, 66, 67, 68, 69, 70, 71, 72, 73, 74, 75, 76, 77, 78, 79, 80, 81, 82, 83, 84, 85, 86, 87, 88, 89, 90, 97, 98, 99, 100, 101, 102, 103, 104, 105, 106, 107, 108, 109, 110, 111, 112, 113, 114, 115, 116, 117, 118, 119, 120, 121, 122, 95]⟩ = Lx.letB (c.toNat : Int) := all_bytes (p := fun c => inB c ⟨#[65, 66, 67, 68, 69, 70, 71, 72, 73, 74, 75, 76, 77, 78, 79, 80, 81, 82, 83, 84, 85, 86, 87, 88, 89, 90, 97, 98, 99, 100, 101, 102, 103, 104, 105, 106, 107, 108, 109, 110, 111, 112, 113, 114, 115, 116, 117, 118, 119, 120, 121, 122, 95]⟩) (q := fun c => Lx.letB (c.toNat : Int)) (by decide +kernel) c
theorem inB_digits (c : UInt8) : inB c ⟨#[48, 49, 50, 51, 52, 53, 54, 55, 56, 57]⟩ = Lx.digB (c.toNat : Int) := all_bytes (p := fun c => inB c ⟨#[48, 49, 50, 51, 52, 53, 54, 55, 56, 57]⟩) (q := fun c => Lx.digB (c.toNat : Int)) (by decide +kernel) c
def rWord : List UInt8 -> Bool
 | [] => false
 | c :: r => Lx.letU c && r.all Lx.wcU
theorem rword_none (s : ByteArray) (h0 : s.size = 0) (w : World) :
 Calls Tryz.prog 73 #[.string s] w fun e w' => e = .returned (.bool false) /\ Drew w w' := by
 have hb : ((s.size : Int) == 0) = true := by rw [beq_iff_eq]; omega
 go_enter Tryz.func73, Tryz.ntmps73
 go_wp2_with fail
 go_quiet (fail)
 go_wp2
 go_ret
 exact ⟨rfl, (Drew.refl _).more _⟩
theorem rword_no (s : ByteArray) (h0 : 0 < s.size) (hl : Lx.letB (s[0].toNat : Int) = false) (w : World) :
 Calls Tryz.prog 73 #[.string s] w fun e w' => e = .returned (.bool false) /\ Drew w w' := by
 have hb : ((s.size : Int) == 0) = false := by rw [beq_eq_false_iff_ne]; omega
 go_enter Tryz.func73, Tryz.ntmps73
 go_wp2_with fail
 go_quiet (first | (go_at_call 103; exact Calls.quiet_of_same (letters_any _)) | (go_at_call 42; exact Calls.quiet_of_same (in_letters _ _)))
 go_wp2
 go_ret
 exact ⟨rfl, (Drew.refl _).more _⟩
def AllWcFrom (s : ByteArray) (k : Nat) : Prop := ∀ j (h : j < s.size), 1 <= j -> j < k -> Lx.wcU s[j] = true
theorem rword_yes (s : ByteArray) (h0 : 0 < s.size) (hs : s.size <= 9223372036854775807) (hl : Lx.letB (s[0].toNat : Int) = true) (w : World) :
 Calls Tryz.prog 73 #[.string s] w fun e w' => e = .returned (.bool (rWord s.data.toList)) /\ Drew w w' := by
 have hb : ((s.size : Int) == 0) = false := by rw [beq_eq_false_iff_ne]; omega
 have hd := data_cons s h0
 have hlen : s.data.toList.length = s.size := rfl
 have htail : ∀ j (h : j + 1 < s.size), s.data.toList.tail[j]'(by rw [List.length_tail]; omega) = s[j + 1] := fun j h => by rw [List.getElem_tail]; rfl
 have HD := Lib.hid hd
 have HT := Lib.hid htail
 clear hd htail
 go_enter Tryz.func73, Tryz.ntmps73
 go_wp2_with fail
 go_quiet (first | (go_at_call 103; exact Calls.quiet_of_same (letters_any _)) | (go_at_call 42; exact Calls.quiet_of_same (in_letters _ _)))
 go_wp2_with fail
 go_loopw [3] (fun n wr => ∃ k : Nat, 1 <= k /\ k <= s.size /\ n = .int .i64 k /\ AllWcFrom s k /\ Drew w wr) (fun n _ => s.size - (intOf n).toNat)
 case atStart => exact ⟨1, by omega, by omega, rfl, fun j _ h3 h4 => by omega, (Drew.refl _).more _⟩
 case round =>
  obtain ⟨k, hk1, hk2, rfl, ha, hdr⟩ := hrel
  by_cases hlt : k < s.size
  ·have hnext : Lx.wcU s[k] = true -> AllWcFrom s (k + 1) := by
    intro hw j hj h3 h4
    by_cases e : j = k
    ·subst e; exact hw
    ·exact ha j hj h3 (by omega)
   have HNX := Lib.hid hnext
   clear hnext
   have hk0 : (0 : Int) <= (k : Int) := Int.natCast_nonneg _
   have hk3 : (k : Int) < (s.size : Int) := by omega
   by_cases hle : Lx.letB (s[k].toNat : Int) = true
   ·have hw : Lx.wcU s[k] = true := by unfold Lx.wcU Lx.letU; rw [hle]; rfl
    have HW := Lib.hid (HNX.out hw)
    clear hw hl
    go_wp2_with fail
    go_quiet (first | (go_at_call 103; exact Calls.quiet_of_same (letters_any _)) | (go_at_call 42; exact Calls.quiet_of_same (in_letters _ _)))
    go_wp2_with fail
    go_roundw
    case rel => exact ⟨k + 1, by omega, by omega, by go_num, HW.out, hdr.more _⟩
    case measure => simp [intOf]; omega
   ·have hle' : Lx.letB (s[k].toNat : Int) = false := by simpa using hle
    by_cases hdg : Lx.digB (s[k].toNat : Int) = true
    ·have hw : Lx.wcU s[k] = true := by unfold Lx.wcU Lx.digU; rw [hdg, Bool.or_true]
     have hil := inB_letters s[k]
     have hid := inB_digits s[k]
     rw [hle'] at hil
     rw [hdg] at hid
     have HW := Lib.hid (HNX.out hw)
     clear hw hl hle
     go_wp2_with fail
     go_quiet (first | (go_at_call 103; exact Calls.quiet_of_same (letters_any _)) | (go_at_call 104; exact Calls.quiet_of_same (digits_any _)) | (go_at_call 42; exact Calls.quiet_of_same (in_any _ _ (by decide) _)))
     go_wp2_with fail
     go_roundw
     case rel => exact ⟨k + 1, by omega, by omega, by go_num, HW.out, hdr.more _⟩
     case measure => simp [intOf]; omega
    ·have hdg' : Lx.digB (s[k].toNat : Int) = false := by simpa using hdg
     have hr : false = rWord s.data.toList := by
      symm
      rw [HD.out]; simp only [rWord]
      rw [Bool.and_eq_false_iff]; right
      rw [Bool.eq_false_iff]; intro h
      rw [List.all_eq_true] at h
      have h2 := h (s.data.toList.tail[k - 1]'(by rw [List.length_tail]; omega)) (List.getElem_mem _)
      rw [HT.out (k - 1) (by omega)] at h2
      have e : k - 1 + 1 = k := by omega
      simp only [e] at h2
      simp [Lx.wcU, Lx.letU, Lx.digU, hle', hdg'] at h2
     have HR := Lib.hid hr
     have hil := inB_letters s[k]
     have hid := inB_digits s[k]
     rw [hle'] at hil
     rw [hdg'] at hid
     clear hr hl hle hdg
     go_wp2_with fail
     go_quiet (first | (go_at_call 103; exact Calls.quiet_of_same (letters_any _)) | (go_at_call 104; exact Calls.quiet_of_same (digits_any _)) | (go_at_call 42; exact Calls.quiet_of_same (in_any _ _ (by decide) _)))
     go_wp2
     go_ret
     exact ⟨ret_bool HR.out, hdr.more _⟩
  ·have hr : true = rWord s.data.toList := by
    symm
    rw [HD.out]; simp only [rWord]
    rw [Bool.and_eq_true]
    refine ⟨hl, ?_⟩
    rw [List.all_eq_true]
    intro x hx
    obtain ⟨j, hj, e⟩ := List.mem_iff_getElem.1 hx
    rw [List.length_tail] at hj
    rw [HT.out j (by omega)] at e
    rw [<- e]; exact ha (j + 1) (by omega) (by omega) (by omega)
   have HR := Lib.hid hr
   clear hr hl
   go_wp2
   go_ret
   exact ⟨ret_bool HR.out, hdr⟩
theorem rword_any (s : ByteArray) (hs : s.size <= 9223372036854775807) (w : World) :
 Calls Tryz.prog 73 #[.string s] w fun e w' => e = .returned (.bool (rWord s.data.toList)) /\ Drew w w' := by
 by_cases h0 : 0 < s.size
 ·by_cases hl : Lx.letB (s[0].toNat : Int) = true
  ·exact rword_yes s h0 hs hl w
  ·have hl' : Lx.letB (s[0].toNat : Int) = false := by simpa using hl
   refine (rword_no s h0 hl' w).mono ?_
   rintro e w' ⟨rfl, h⟩
   refine ⟨ret_bool ?_, h⟩
   rw [data_cons s h0]; simp only [rWord]
   rw [show Lx.letU s[0] = false from hl']; rfl
 ·refine (rword_none s (by omega) w).mono ?_
  rintro e w' ⟨rfl, h⟩
  have := toList_nil s (by omega)
  rw [Lib.toList_data] at this
  exact ⟨ret_bool (by rw [this]; rfl), h⟩
theorem kw_cells (w : World) : ∀ (k : Nat), k < 10 -> (w.alloc (.cells kwCells 9)).cell? ⟨w.heap.size, k, none⟩ = some (.string (kwAt k))
 | 0, _ => by simp [kwCells]
 | 1, _ => by simp [kwCells]
 | 2, _ => by simp [kwCells]
 | 3, _ => by simp [kwCells]
 | 4, _ => by simp [kwCells]
 | 5, _ => by simp [kwCells]
 | 6, _ => by simp [kwCells]
 | 7, _ => by simp [kwCells]
 | 8, _ => by simp [kwCells]
 | 9, _ => by simp [kwCells]
 | k + 10, h => by omega
theorem rkeyword_any (s : ByteArray) (w : World) :
 Calls Tryz.prog 116 #[.string s] w fun e w' => e = .returned (.bool (kwB 10 s)) /\ Below w.heap.size w w' := by
 go_enter Tryz.func116, Tryz.ntmps116
 go_wp2_with fail
 generalize hW : w.alloc (Obj.cells _ 9) = W2
 have hc := kw_cells w
 have HB := (Below.refl w.heap.size w).alloc (Nat.le_refl _) (.cells kwCells 9)
 rw [show w.alloc (.cells kwCells 9) = W2 from hW] at hc HB
 replace HB := Lib.hid HB
 clear hW
 go_loop [4] (fun n => ∃ k : Nat, k <= 10 /\ n = .int .i64 k /\ Hid (kwB k s = false)) (fun n => 10 - (intOf n).toNat)
 case atStart => exact ⟨0, by omega, rfl, Lib.hid rfl⟩
 case round =>
  obtain ⟨k, hk, rfl, hf⟩ := hrel
  by_cases hlt : k < 10
  ·have hck := hc k hlt
   have hlt' : (k : Int) < 10 := by omega
   have hk0 : (0 : Int) <= (k : Int) := Int.natCast_nonneg _
   cases ht : ((kwAt k).toList == s.toList) with
   | true =>
    go_wp2_with fail
    go_ret
    exact ⟨ret_bool (kwB_hit s k ht 10 hlt).symm, HB.out⟩
   | false =>
    have HN := Lib.hid (show kwB (k + 1) s = false by rw [kwB, hf.out, ht]; rfl)
    go_wp2_with fail
    go_round
    case rel => exact ⟨k + 1, by omega, by go_num, HN⟩
    case measure => simp [intOf]; omega
  ·obtain rfl : k = 10 := by omega
   go_wp2_with fail
   go_ret
   exact ⟨ret_bool hf.out.symm, HB.out⟩
theorem all_take (p : UInt8 -> Bool) : ∀ (l : List UInt8) (k : Nat), k <= l.length -> (l.take k).all p = decide (k <= Lx.span p l)
 | _, 0, _ => by simp
 | [], k + 1, h => by simp at h
 | c :: r, k + 1, h => by
  rw [List.take_succ_cons, List.all_cons, Lx.span_cons]
  by_cases hc : p c = true
  ·rw [hc, if_pos rfl, Bool.true_and, all_take p r k (by simpa using h)]
   rw [decide_eq_decide]; omega
  ·have hc' : p c = false := by simpa using hc
   rw [hc', Bool.false_and, if_neg (by simp)]; simp
theorem all_span (p : UInt8 -> Bool) (l : List UInt8) : l.all p = decide (Lx.span p l = l.length) := by
 have h := all_take p l l.length (Nat.le_refl _)
 rw [List.take_length] at h
 rw [h, decide_eq_decide]
 have := Lx.span_le p l
 omega
theorem rword_nameB (s : ByteArray) : rWord s.data.toList = (!s.toList.isEmpty && decide (Lx.wordLen s.data.toList = s.size)) := by
 rw [Lib.toList_data]
 have hsz : s.size = s.data.toList.length := rfl
 rw [hsz]
 cases s.data.toList with
 | nil => rfl
 | cons c r =>
  have hr : rWord (c :: r) = (Lx.letU c && decide (Lx.span Lx.wcU r = r.length)) := by simp only [rWord]; rw [all_span]
  rw [hr, List.isEmpty_cons, Bool.not_false, Bool.true_and]
  have hw : Lx.wordLen (c :: r) = if Lx.letU c then 1 + Lx.span Lx.wcU r else 0 := rfl
  by_cases hc : Lx.letU c = true
  ·rw [if_pos hc] at hw
   rw [hc, Bool.true_and, decide_eq_decide, hw, List.length_cons]; omega
  ·have hc' : Lx.letU c = false := by simpa using hc
   rw [if_neg hc] at hw
   rw [hc', Bool.false_and]; symm; rw [decide_eq_false_iff_not, hw, List.length_cons]; omega
theorem rword_is (s : ByteArray) (hs : s.size <= 9223372036854775807) (b : Bool) (h : Hid (rWord s.data.toList = b)) (w : World) :
 Calls Tryz.prog 73 #[.string s] w fun e w' => e = .returned (.bool b) /\ Drew w w' := by
 have := rword_any s hs w
 rw [h.out] at this; exact this
theorem rkeyword_is (s : ByteArray) (b : Bool) (h : Hid (kwB 10 s = b)) (w : World) :
 Calls Tryz.prog 116 #[.string s] w fun e w' => e = .returned (.bool b) /\ Below w.heap.size w w' := by
 have := rkeyword_any s w
 rw [h.out] at this; exact this
theorem rname_any (s : ByteArray) (hs : s.size <= 9223372036854775807) (w : World) :
 Calls Tryz.prog 87 #[.string s] w fun e w' => e = .returned (.bool (nameB s)) /\ Below w.heap.size w w' := by
 have HS := Lib.hid hs
 obtain ⟨b, hb⟩ : ∃ b, Hid (kwB 10 s = b) := ⟨_, Lib.hid rfl⟩
 have hn : nameB s = (rWord s.data.toList && !b) := by unfold nameB; rw [rword_nameB, hb.out]
 cases hw : rWord s.data.toList with
 | true =>
  have HW := Lib.hid hw
  have HR := Lib.hid (show (!b) = nameB s by rw [hn, hw]; rfl)
  clear hn hw hs
  go_enter Tryz.func87, Tryz.ntmps87
  go_wp2_with (first | (go_at_call 73; refine (rword_is s HS.out _ HW _).mono ?_; rintro e w1 ⟨rfl, hd1⟩) | (go_at_call 116; refine (rkeyword_is s b hb _).mono ?_; rintro e w2 ⟨rfl, hd2⟩))
  go_ret
  exact ⟨ret_bool HR.out, (hd1.below _).trans (hd2.mono (hd1.below w.heap.size).size)⟩
 | false =>
  have HW := Lib.hid hw
  have HR := Lib.hid (show false = nameB s by rw [hn, hw]; rfl)
  clear hn hw hs
  go_enter Tryz.func87, Tryz.ntmps87
  go_wp2_with (first | (go_at_call 73; refine (rword_is s HS.out _ HW _).mono ?_; rintro e w1 ⟨rfl, hd1⟩))
  go_ret
  exact ⟨ret_bool HR.out, hd1.below _⟩
end Go.Proofs.YtejaboajgecpaaaGreatDoor
namespace Go.Proofs.YtejaboajgecpaaaGreatDoor
open Go.RowKit
def Later (n : Nat) (w0 : World) : Type := { w' : World // Below n w0 w' }
instance (n : Nat) (w0 : World) : Nonempty (Later n w0) := ⟨⟨w0, Below.refl _ _⟩⟩
end Go.Proofs.YtejaboajgecpaaaGreatDoor
namespace Go.Proofs.YtejaboajgecpaaaGreatDoor
open Go.RowKit Go.Deep Go.Shelf
structure ElemOf (sl el : TypeId) (sz : Nat) : Prop where
 ht : Tryz.prog.underlying sl = some (.slice el)
 hi : ∃ (i : TypeInfo) (z : Value), Tryz.prog.info? el = some i /\ i.zero = some z /\ i.size = sz /\ i.bytes <= 10000 /\ z.cells.size = sz
 hs : 0 < sz
theorem elemOf {sl el : TypeId} {sz : Nat} {z : Value} {bytes : Nat} (ht : Tryz.prog.underlying sl = some (.slice el)) (h : (Tryz.prog.info? el).map (fun i => (i.zero, i.size, i.bytes)) = some (some z, sz, bytes)) (hb : bytes <= 10000) (hz : z.cells.size = sz) (hs : 0 < sz) : ElemOf sl el sz := by
 obtain ⟨i0, hi, hz0, hz1, hz2⟩ := info_parts h
 exact ⟨ht, ⟨i0, z, hi, hz0, hz1, by omega, hz⟩, hs⟩
theorem gflat_len {sz : Nat} : ∀ {l : List (List Value)}, (∀ e ∈ l, e.length = sz) -> l.flatten.length = l.length * sz
 | [], _ => by simp
 | e :: r, h => by
  have h1 := h e (by simp)
  have h2 := gflat_len (l := r) (fun x hx => h x (by simp [hx]))
  rw [List.flatten_cons, List.length_append, h1, h2, List.length_cons, Nat.succ_mul]; omega
theorem gflat_get {sz : Nat} : ∀ {l : List (List Value)} (j i : Nat) (e : List Value), (∀ e ∈ l, e.length = sz) -> l[j]? = some e -> i < sz -> l.flatten[j * sz + i]? = e[i]?
 | [], j, i, e, _, h, _ => by simp at h
 | x :: r, 0, i, e, hl, h, hi => by
  simp at h; subst h
  rw [List.flatten_cons, Nat.zero_mul, Nat.zero_add, List.getElem?_append_left (by rw [hl x (by simp)]; exact hi)]
 | x :: r, j + 1, i, e, hl, h, hi => by
  have hx := hl x (by simp)
  have e1 : (j + 1) * sz + i = x.length + (j * sz + i) := by rw [hx, Nat.succ_mul]; omega
  rw [List.flatten_cons, e1, List.getElem?_append_right (Nat.le_add_right _ _), Nat.add_sub_cancel_left]
  exact gflat_get j i e (fun y hy => hl y (by simp [hy])) (by simpa using h) hi
theorem gflat_inv {l : List (List Value)} {u : Value} (h : u ∈ l.flatten) : ∃ e ∈ l, u ∈ e := by
 obtain ⟨e, he, hu⟩ := List.mem_flatten.1 h; exact ⟨e, he, hu⟩
structure GRow (el : TypeId) (sz base : Nat) (W : World) (v : Value) (es : List (List Value)) : Prop where
 own : W.ownsRow base el sz v es.length es.flatten
 len : ∀ e ∈ es, e.length = sz
section
variable {sl el : TypeId} {sz base : Nat} {W W' : World} {v : Value} {es : List (List Value)}
theorem GRow.nil (el : TypeId) (sz base : Nat) (W : World) : GRow el sz base W (.slice none 0 0) [] := ⟨World.ownsRow_nil _ _ _ _, fun _ h => by cases h⟩
theorem GRow.alloc (h : GRow el sz base W v es) (o : Obj) : GRow el sz base (W.alloc o) v es := ⟨World.ownsRow.alloc h.own o, h.len⟩
theorem GRow.lt (h : GRow el sz base W v es) : ∀ k, v.ownBlock = some k -> base <= k /\ k < W.heap.size := World.ownsRow.lt h.own
theorem GRow.kept (h : GRow el sz base W v es) (hb : ∀ k, v.ownBlock = some k -> W'.heap[k]? = W.heap[k]?) : GRow el sz base W' v es := by
 refine ⟨⟨h.own.1, ?_⟩, h.len⟩
 rcases h.own.2 with h0 | ⟨g, cap, cur, rfl, hbg, hg, r⟩
 ·exact .inl h0
 ·exact .inr ⟨g, cap, cur, rfl, hbg, (hb g rfl).trans hg, r⟩
theorem GRow.to (h : GRow el sz base W v es) (hb : Below W.heap.size W W') : GRow el sz base W' v es := h.kept fun k hk => hb.block k (h.lt k hk).2
theorem GRow.slice (h : GRow el sz base W v es) : ∃ a m c, v = .slice a m c := by
 rcases h.own.2 with ⟨rfl, _⟩ | ⟨g, cap, cur, rfl, _⟩
 ·exact ⟨_, _, _, rfl⟩
 ·exact ⟨_, _, _, rfl⟩
theorem GRow.parts (h : GRow el sz base W v es) : (v = .slice none 0 0 /\ es = []) \/ ∃ g cap, v = .slice (some ⟨g, 0, none⟩) es.length cap /\ base <= g /\ g < W.heap.size /\ es.length <= cap /\ ∀ i, W.frozen? ⟨g, i, none⟩ = false := by
 rcases h.own.2 with ⟨rfl, h0⟩ | ⟨g, cap, cur, rfl, hbg, hg, hc, _⟩
 ·exact .inl ⟨rfl, List.length_eq_zero_iff.1 h0⟩
 ·exact .inr ⟨g, cap, rfl, hbg, (h.lt g rfl).2, hc, fun i => frozen_of_block hg i⟩
theorem GRow.cell (h : GRow el sz base W v es) {j i : Nat} {e : List Value} {u : Value} (hj : es[j]? = some e) (hi : e[i]? = some u) : ∃ g cap, v = .slice (some ⟨g, 0, none⟩) es.length cap /\ W.cell? ⟨g, j * sz + i, none⟩ = some u := by
 have hjl : j < es.length := (List.getElem?_eq_some_iff.1 hj).1
 have he := h.len e (List.mem_of_getElem? hj)
 have hil : i < sz := by have := (List.getElem?_eq_some_iff.1 hi).1; omega
 rcases h.parts with ⟨_, rfl⟩ | ⟨g, cap, rfl, _⟩
 ·simp at hj
 ·refine ⟨g, cap, rfl, ?_⟩
  have hlt : j * sz + i < es.length * sz := by
   have : (j + 1) * sz <= es.length * sz := Nat.mul_le_mul_right _ hjl
   rw [Nat.succ_mul] at this; omega
  rw [World.ownsRow.cellAt h.own (j * sz + i) hlt, gflat_get j i e h.len hj hil]
  exact hi
theorem run_nothingG (I : ElemOf sl el sz) (ty : TypeId) (h : GRow el sz base W v es) (a : Option Addr) (c : Nat) :
 (Builtin.append_ #[sl, sl] ty #[v, .slice a 0 c]).run Tryz.prog W = .ok v W := by
 obtain ⟨i0, z, hi, hz0, hz1, hz2, hz3⟩ := I.hi
 have ht := I.ht
 rcases h.own.2 with ⟨rfl, h0⟩ | ⟨g, cap, cur, rfl, _, _, hnc, _⟩
 ·cases a with
  | none => simp [Builtin.append_, run_underlying ht, sizeOf, typeInfo, hi, Builtin.lenOf, Builtin.firstCells]
  | some ad => simp [Builtin.append_, run_underlying ht, sizeOf, typeInfo, hi, Builtin.lenOf, Builtin.firstCells, loadCells, loadCellsFrom]
 ·cases a with
  | none => simp [Builtin.append_, run_underlying ht, sizeOf, typeInfo, hi, Builtin.lenOf, Builtin.firstCells, hnc, storeCells]
  | some ad => simp [Builtin.append_, run_underlying ht, sizeOf, typeInfo, hi, Builtin.lenOf, Builtin.firstCells, hnc, storeCells, loadCells, loadCellsFrom]
def RowSrc (sz : Nat) (W : World) (na : Option Addr) (news : List (List Value)) : Prop :=
 news = [] \/ ∃ b o, na = some ⟨b, o, none⟩ /\ ∀ (j : Nat) (e : List Value) (i : Nat) (u : Value), news[j]? = some e -> e[i]? = some u -> W.cell? ⟨b, o + (j * sz + i), none⟩ = some u
theorem GRow.src (h : GRow el sz base W v es) : ∃ a n c, v = .slice a n c /\ n = es.length /\ RowSrc sz W a es := by
 rcases h.parts with ⟨rfl, rfl⟩ | ⟨g, cap, rfl, _⟩
 ·exact ⟨_, _, _, rfl, rfl, .inl rfl⟩
 ·refine ⟨_, _, _, rfl, rfl, .inr ⟨g, 0, rfl, fun j e i u hj hi => ?_⟩⟩
  obtain ⟨g', cap', e1, e2⟩ := h.cell hj hi
  simp only [Value.slice.injEq, Option.some.injEq, Addr.mk.injEq, and_true, true_and] at e1
  rw [Nat.zero_add, e1.1]; exact e2
theorem run_appG (I : ElemOf sl el sz) (ty : TypeId) (h : GRow el sz base W v es) (na : Option Addr) (nn nc : Nat) (news : List (List Value)) (hnn : nn = news.length) (hlen : ∀ e ∈ news, e.length = sz) (hsrc : RowSrc sz W na news) (hone : ∀ e ∈ news, ∀ u ∈ e, u.oneCell' = true) (h63 : es.length + news.length <= 1000000000) (hbase : base <= W.heap.size) :
 ∃ ga gn gc w', (Builtin.append_ #[sl, sl] ty #[v, .slice na nn nc]).run Tryz.prog W = .ok (.slice ga gn gc) w' /\ GRow el sz base w' (.slice ga gn gc) (es ++ news) /\ W.grownBy w' v.ownBlock /\ ((Value.slice ga gn gc).ownBlock = v.ownBlock \/ (Value.slice ga gn gc).ownBlock = some W.heap.size) := by
 obtain ⟨i0, z, hi, hz0, hz1, hz2, hz3⟩ := I.hi
 have hs := I.hs
 subst hnn
 rcases hsrc with rfl | ⟨b, o, rfl, hc⟩
 ·obtain ⟨ga, gn, gc, rfl⟩ := h.slice
  exact ⟨_, _, _, W, run_nothingG I ty h na nc, by rw [List.append_nil]; exact h, ⟨rfl, rfl, rfl, Nat.le_refl _, fun _ _ _ => rfl⟩, .inl rfl⟩
 ·obtain ⟨v', w', hr, h2, h3, h4, h5⟩ := run_append_own_at (P := Tryz.prog) W base sl ty el i0 z sz i0.bytes I.ht hi hz0 hz1 rfl hz3 hs _ _ _ h.own ⟨b, o, none⟩ news.length nc news.flatten (gflat_len hlen) (fun j u hj => by
   have hjl : j < news.length * sz := by have := (List.getElem?_eq_some_iff.1 hj).1; rwa [gflat_len hlen] at this
   have hq : j / sz < news.length := (Nat.div_lt_iff_lt_mul hs).2 hjl
   obtain ⟨e, he⟩ : ∃ e, news[j / sz]? = some e := ⟨_, List.getElem?_eq_getElem hq⟩
   have hj2 : j = j / sz * sz + j % sz := by have := Nat.div_add_mod j sz; rw [Nat.mul_comm] at this; omega
   rw [hj2, gflat_get (j / sz) (j % sz) e hlen he (Nat.mod_lt _ hs)] at hj
   have h := hc (j / sz) e (j % sz) u he hj
   rw [<- hj2] at h
   cases j with
   | zero => simpa [Addr.add] using h
   | succ j => simpa [Addr.add] using h) (fun u hu => by
   obtain ⟨e, he, hue⟩ := gflat_inv hu
   exact hone e he u hue) (by unfold maxLen; omega) (by
    have : (es.length + news.length) * i0.bytes <= 1000000000 * 10000 := Nat.mul_le_mul h63 hz2
    omega) hbase
  have h2' : GRow el sz base w' v' (es ++ news) := ⟨by rw [List.length_append, List.flatten_append]; exact h2, fun e he => by
   rcases List.mem_append.1 he with he | he
   ·exact h.len e he
   ·exact hlen e he⟩
  obtain ⟨ga, gn, gc, rfl⟩ := h2'.slice
  exact ⟨_, _, _, w', hr, h2', h3, h5⟩
theorem step_appG {ops : Array Oper} {o : Oper} {a : Act} {w : World} {K : Act -> World -> Prop} {Q : Exit -> Act -> World -> Prop} {E : Prop} (I : ElemOf sl el sz) (hgd : o.guard = none) (s x : Operand)
 (ho : o.op = .call { callee := .builtin .append, args := #[s, x], argTypes := #[sl, sl] })
 (hs : a.eval s = v) (h : GRow el sz base w v es) (na : Option Addr) (nn nc : Nat) (news : List (List Value)) (hx : a.eval x = .slice na nn nc) (hnn : nn = news.length) (hlen : ∀ e ∈ news, e.length = sz) (hsrc : RowSrc sz w na news) (hone : ∀ e ∈ news, ∀ u ∈ e, u.oneCell' = true) (h63 : es.length + news.length <= 1000000000) (hbase : base <= w.heap.size)
 (m : List (List Value)) (hm : es ++ news = m)
 (hk : ∀ ga gn gc w', GRow el sz base w' (.slice ga gn gc) m -> w.grownBy w' v.ownBlock -> ((Value.slice ga gn gc).ownBlock = v.ownBlock \/ (Value.slice ga gn gc).ownBlock = some w.heap.size) -> K (a.put o.dst (.slice ga gn gc)) w') :
 if Region.wanted o (yielded ops a.tmps) = true then Oper.wp Tryz.prog o a w K Q else E := by
 subst hm
 have hw : Region.wanted o (yielded ops a.tmps) = true := by simp [Region.wanted, hgd]
 rw [if_pos hw]
 obtain ⟨ga, gn, gc, w', hr, h2, h3, h4⟩ := run_appG I o.type h na nn nc news hnn hlen hsrc hone h63 hbase
 unfold Oper.wp execOp
 simp only [ho, resolve, invoke, builtin, Sem.run_bind, Sem.run_pure, Result.andThen_ok, List.map_toArray, List.map_cons, List.map_nil, hs, hx, hr]
 exact hk ga gn gc w' h2 h3 h4
end
end Go.Proofs.YtejaboajgecpaaaGreatDoor
