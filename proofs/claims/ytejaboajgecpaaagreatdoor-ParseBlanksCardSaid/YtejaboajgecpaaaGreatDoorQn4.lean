/- Plain mathematics of the tokens of a tex: lemmas. -/
import Derived.Test.YtejaboajgecpaaaGreatDoorQn3
import Derived.Lib.IndexBytes
import Derived.Laws.Rows
set_option maxHeartbeats 16000000
set_option maxRecDepth 100000
namespace Go.Proofs.YtejaboajgecpaaaGreatDoor.Lx
def letB (b : Int) : Bool := decide (65 <= b /\ b <= 90 \/ 97 <= b /\ b <= 122 \/ b = 95)
def digB (b : Int) : Bool := decide (48 <= b /\ b <= 57)
def letU (c : UInt8) : Bool := letB (c.toNat : Int)
def digU (c : UInt8) : Bool := digB (c.toNat : Int)
def wcU (c : UInt8) : Bool := letU c || digU c
def span (p : UInt8 -> Bool) (l : List UInt8) : Nat := (l.takeWhile p).length
def wordLen : List UInt8 -> Nat
 | [] => 0
 | c :: r => if letU c then 1 + span wcU r else 0
def numberLen : List UInt8 -> Nat
 | [] => 0
 | c :: r =>
  if c = 48 then 1
  else if c = 45 then
   match r with
   | [] => 0
   | d :: _ => if d = 48 then 0 else if digU d then 1 + span digU r else 0
  else if digU c then 1 + span digU r else 0
def commentLen (l : List UInt8) : Nat := span (fun c => c != 10) l
def blank (c : UInt8) : Bool := c == 32 || c == 9 || c == 10 || c == 13
def skipG : Bool -> List UInt8 -> Nat
 | _, [] => 0
 | false, c :: r => if blank c then 1 + skipG false r else if c = 35 then 1 + skipG true r else 0
 | true, c :: r => if c = 10 then 1 + skipG false r else 1 + skipG true r
theorem span_le (p : UInt8 -> Bool) (l : List UInt8) : span p l <= l.length := by
 unfold span; exact (List.takeWhile_sublist p).length_le
theorem span_nil (p : UInt8 -> Bool) : span p [] = 0 := rfl
theorem span_cons (p : UInt8 -> Bool) (c : UInt8) (r : List UInt8) : span p (c :: r) = if p c then 1 + span p r else 0 := by
 unfold span; rw [List.takeWhile_cons]; split <;> simp; omega
theorem span_eq (p : UInt8 -> Bool) : ∀ (l : List UInt8) (k : Nat), k <= l.length -> (∀ j (h : j < l.length), j < k -> p l[j] = true) -> (∀ h : k < l.length, p l[k] = false) -> span p l = k
 | [], k, hk, _, _ => by simp at hk; subst hk; rfl
 | c :: r, 0, _, _, h2 => by have := h2 (by simp); rw [span_cons]; simp at this; simp [this]
 | c :: r, k + 1, hk, h1, h2 => by
  have hc := h1 0 (by simp) (by omega)
  rw [span_cons]; simp at hc; rw [if_pos hc]
  have := span_eq p r k (by simp at hk; omega) (fun j h hj => by have := h1 (j + 1) (by simp; omega) (by omega); simpa using this) (fun h => by have := h2 (by simp; omega); simpa using this)
  omega
theorem skipG_nil (b : Bool) : skipG b [] = 0 := by cases b <;> simp [skipG]
theorem skipG_blank (c : UInt8) (r : List UInt8) (h : blank c = true) : skipG false (c :: r) = 1 + skipG false r := by
 rw [skipG, if_pos h]
theorem skipG_stop (c : UInt8) (r : List UInt8) (h : blank c = false) (h2 : c ≠ 35) : skipG false (c :: r) = 0 := by
 rw [skipG, if_neg (by simp [h]), if_neg h2]
theorem skipG_true : ∀ l : List UInt8, skipG true l = commentLen l + skipG false (l.drop (commentLen l))
 | [] => by simp [skipG, commentLen, span_nil]
 | c :: r => by
  rw [skipG]
  unfold commentLen
  rw [span_cons]
  by_cases h : c = 10
  ·rw [if_pos h, if_neg (by simp [h]), List.drop_zero, h, skipG_blank 10 r (by decide)]; omega
  ·rw [if_neg h, if_pos (by simpa using h), skipG_true r]; unfold commentLen
   rw [Nat.add_comm 1 (span _ r), List.drop_succ_cons]; omega
theorem skipG_hash (r : List UInt8) : skipG false (35 :: r) = commentLen (35 :: r) + skipG false ((35 :: r).drop (commentLen (35 :: r))) := by
 rw [skipG, if_neg (by decide), if_pos rfl, skipG_true]
 have : commentLen (35 :: r) = commentLen r + 1 := by unfold commentLen; rw [span_cons, if_pos (by decide)]; omega
 rw [this, List.drop_succ_cons]; omega
theorem commentLen_hash (r : List UInt8) : 1 <= commentLen (35 :: r) := by
 unfold commentLen; rw [span_cons, if_pos (by decide)]; omega
theorem commentLen_le (l : List UInt8) : commentLen l <= l.length := span_le _ _
theorem skipG_le : ∀ (b : Bool) (l : List UInt8), skipG b l <= l.length := by
 have h : ∀ (n : Nat) (l : List UInt8), l.length <= n -> skipG false l <= l.length := by
  intro n
  induction n with
  | zero => intro l hl; have : l = [] := List.eq_nil_of_length_eq_zero (by omega); subst this; simp [skipG]
  | succ n ih =>
   intro l hl
   cases l with
   | nil => simp [skipG]
   | cons c r =>
    by_cases hb : blank c = true
    ·rw [skipG_blank c r hb]; have := ih r (by simp at hl; omega); simp; omega
    ·by_cases h35 : c = 35
     ·subst h35
      rw [skipG_hash]
      have h1 := commentLen_hash r
      have h2 := commentLen_le (35 :: r)
      have := ih ((35 :: r).drop (commentLen (35 :: r))) (by rw [List.length_drop]; omega)
      rw [List.length_drop] at this; omega
     ·rw [skipG_stop c r (by simpa using hb) h35]; omega
 intro b l
 cases b with
 | false => exact h _ l (Nat.le_refl _)
 | true =>
  rw [skipG_true]
  have h2 := commentLen_le l
  have := h _ (l.drop (commentLen l)) (Nat.le_refl _)
  rw [List.length_drop] at this; omega
end Go.Proofs.YtejaboajgecpaaaGreatDoor.Lx
namespace Go.Proofs.YtejaboajgecpaaaGreatDoor
open Go.Lib (hid)
open Go.RowKit
theorem letter_any (b : Int) (h0 : 0 <= b) (h1 : b < 256) (w : World) :
 Calls Tryz.prog 147 #[.int .u8 b] w fun e w' => e = .returned (.bool (Lx.letB b)) /\ w = w' := by
 go_enter Tryz.func147, Tryz.ntmps147
 go_wp2
 all_goals (go_ret; refine ⟨ret_bool ?_, rfl⟩; unfold Lx.letB; rw [Bool.eq_iff_iff]; simp; try omega)
theorem digit_any (b : Int) (h0 : 0 <= b) (h1 : b < 256) (w : World) :
 Calls Tryz.prog 148 #[.int .u8 b] w fun e w' => e = .returned (.bool (Lx.digB b)) /\ w = w' := by
 go_enter Tryz.func148, Tryz.ntmps148
 go_wp2
 all_goals (go_ret; refine ⟨ret_bool ?_, rfl⟩; unfold Lx.digB; rw [Bool.eq_iff_iff]; simp; try omega)
theorem toList_ne (s : ByteArray) (h : 0 < s.size) : ¬ s.toList = [] := by
 rw [Lib.toList_data]; intro e
 have h2 : s.data.toList.length = 0 := by rw [e]; rfl
 have h3 : s.data.toList.length = s.size := rfl
 omega
theorem toList_nil (s : ByteArray) (h : s.size = 0) : s.toList = [] := by
 rw [Lib.toList_data]; apply List.eq_nil_of_length_eq_zero; exact h
theorem list_cons (l : List UInt8) (h : 0 < l.length) : l = l[0] :: l.tail := by
 cases l with
 | nil => simp at h
 | cons c r => simp
theorem data_cons (s : ByteArray) (h : 0 < s.size) : s.data.toList = s[0] :: s.data.toList.tail := list_cons s.data.toList h
theorem byte_bd (c : UInt8) : 0 <= (c.toNat : Int) /\ (c.toNat : Int) < 256 := ⟨by omega, by have := c.toNat_lt; omega⟩
theorem letter_byte (c : UInt8) (w : World) :
 Calls Tryz.prog 147 #[.int .u8 (c.toNat : Int)] w fun e w' => e = .returned (.bool (Lx.letB (c.toNat : Int))) /\ w = w' :=
 letter_any _ (byte_bd c).1 (byte_bd c).2 w
theorem digit_byte (c : UInt8) (w : World) :
 Calls Tryz.prog 148 #[.int .u8 (c.toNat : Int)] w fun e w' => e = .returned (.bool (Lx.digB (c.toNat : Int))) /\ w = w' :=
 digit_any _ (byte_bd c).1 (byte_bd c).2 w
theorem wordLen_none (s : ByteArray) (h0 : s.toList = []) (w : World) :
 Calls Tryz.prog 131 #[.string s] w fun e w' => e = .returned (.int .i64 0) /\ w = w' := by
 go_enter Tryz.func131, Tryz.ntmps131
 go_wp2_with fail
 go_ret
 exact ⟨rfl, rfl⟩
theorem wordLen_no (s : ByteArray) (_h0 : ¬ s.toList = []) (h0' : s.toList.isEmpty = false) (h1 : 0 < s.size) (hl : Lx.letB (s[0].toNat : Int) = false) (w : World) :
 Calls Tryz.prog 131 #[.string s] w fun e w' => e = .returned (.int .i64 0) /\ w = w' := by
 go_enter Tryz.func131, Tryz.ntmps131
 go_wp2_with (go_at_call 147; refine (letter_byte _ _).mono ?_; rintro e w' ⟨rfl, rfl⟩)
 go_ret
 exact ⟨rfl, rfl⟩
def AllWc (s : ByteArray) (k : Nat) : Prop := ∀ j (h : j < s.size), 1 <= j -> j < k -> Lx.wcU s[j] = true
theorem wordLen_yes (s : ByteArray) (_h0 : ¬ s.toList = []) (h0' : s.toList.isEmpty = false) (h1 : 0 < s.size) (hs : s.size <= 9223372036854775807) (hl : Lx.letB (s[0].toNat : Int) = true) (w : World) :
 Calls Tryz.prog 131 #[.string s] w fun e w' => (∃ k : Nat, e = .returned (.int .i64 k) /\ 1 <= k /\ k <= s.size /\ AllWc s k /\ (∀ h : k < s.size, Lx.wcU s[k] = false)) /\ w = w' := by
 go_enter Tryz.func131, Tryz.ntmps131
 go_wp2_with (go_at_call 147; refine (letter_byte _ _).mono ?_; rintro e w' ⟨rfl, rfl⟩)
 go_loop [3] (fun n => ∃ k : Nat, 1 <= k /\ k <= s.size /\ n = .int .i64 k /\ AllWc s k) (fun n => s.size - (intOf n).toNat)
 case atStart => exact ⟨1, by omega, by omega, rfl, fun j _ h3 h4 => by omega⟩
 case round =>
  obtain ⟨k, hk1, hk2, rfl, ha⟩ := hrel
  by_cases hlt : k < s.size
  ·by_cases hw : Lx.wcU s[k] = true
   ·have hnext : AllWc s (k + 1) := by
     intro j hj h3 h4
     by_cases e : j = k
     ·subst e; exact hw
     ·exact ha j hj h3 (by omega)
    by_cases hle : Lx.letB (s[k].toNat : Int) = true
    ·clear hw
     go_wp2_with (first | (go_at_call 147; refine (letter_byte _ _).mono ?_; rintro e w' ⟨rfl, rfl⟩) | (go_at_call 148; refine (digit_byte _ _).mono ?_; rintro e w' ⟨rfl, rfl⟩))
     go_round
     case rel => exact ⟨k + 1, by omega, by omega, by go_num, hnext⟩
     case measure => simp [intOf]; omega
    ·have hle' : Lx.letB (s[k].toNat : Int) = false := by simpa using hle
     have hd : Lx.digB (s[k].toNat : Int) = true := by simpa [Lx.wcU, Lx.letU, Lx.digU, hle'] using hw
     clear hw hle
     go_wp2_with (first | (go_at_call 147; refine (letter_byte _ _).mono ?_; rintro e w' ⟨rfl, rfl⟩) | (go_at_call 148; refine (digit_byte _ _).mono ?_; rintro e w' ⟨rfl, rfl⟩))
     go_round
     case rel => exact ⟨k + 1, by omega, by omega, by go_num, hnext⟩
     case measure => simp [intOf]; omega
   ·have hw' : Lx.wcU s[k] = false := by simpa using hw
    have hle : Lx.letB (s[k].toNat : Int) = false := by simp [Lx.wcU, Lx.letU] at hw'; exact hw'.1
    have hd : Lx.digB (s[k].toNat : Int) = false := by simp [Lx.wcU, Lx.digU] at hw'; exact hw'.2
    clear hw
    have H := hid hw'
    clear hw'
    go_wp2_with (first | (go_at_call 147; refine (letter_byte _ _).mono ?_; rintro e w' ⟨rfl, rfl⟩) | (go_at_call 148; refine (digit_byte _ _).mono ?_; rintro e w' ⟨rfl, rfl⟩))
    go_ret
    exact ⟨⟨k, rfl, hk1, hk2, ha, fun _ => H.out⟩, rfl⟩
  ·go_wp2
   go_ret
   exact ⟨⟨k, rfl, hk1, hk2, ha, fun h => absurd h hlt⟩, rfl⟩
theorem wordLen_any (s : ByteArray) (hs : s.size <= maxLen) (w : World) :
 Calls Tryz.prog 131 #[.string s] w fun e w' => e = .returned (.int .i64 (Lx.wordLen s.data.toList)) /\ w = w' := by
 unfold maxLen at hs
 by_cases h1 : 0 < s.size
 ·have hc := data_cons s h1
  have h0 := toList_ne s h1
  have h0' : s.toList.isEmpty = false := by simpa using h0
  by_cases hl : Lx.letB (s[0].toNat : Int) = true
  ·refine (wordLen_yes s h0 h0' h1 (by omega) hl w).mono ?_
   rintro e w' ⟨⟨k, rfl, hk1, hk2, ha, hb⟩, rfl⟩
   refine ⟨ret_int ?_, rfl⟩
   rw [hc]; simp only [Lx.wordLen]
   rw [if_pos (show Lx.letU s[0] = true from hl)]
   have hz : s.data.toList.tail.length + 1 = s.size := by have := congrArg List.length hc; simp at this; simp; omega
   have : Lx.span Lx.wcU s.data.toList.tail = k - 1 := by
    refine Lx.span_eq _ _ _ (by omega) (fun j h hj => ?_) (fun h => ?_)
    ·have := ha (j + 1) (by omega) (by omega) (by omega)
     rw [List.getElem_tail]; exact this
    ·have := hb (by omega)
     rw [List.getElem_tail]
     have e : k - 1 + 1 = k := by omega
     simp only [e]; exact this
   omega
  ·have hl' : Lx.letB (s[0].toNat : Int) = false := by simpa using hl
   refine (wordLen_no s h0 h0' h1 hl' w).mono ?_
   rintro e w' ⟨rfl, rfl⟩
   refine ⟨ret_int ?_, rfl⟩
   rw [hc]; simp only [Lx.wordLen]
   rw [if_neg (by simpa [Lx.letU] using hl)]; rfl
 ·have h0 := toList_nil s (by omega)
  refine (wordLen_none s h0 w).mono ?_
  rintro e w' ⟨rfl, rfl⟩
  rw [Lib.toList_data] at h0
  refine ⟨ret_int ?_, rfl⟩
  rw [h0]; rfl
end Go.Proofs.YtejaboajgecpaaaGreatDoor
namespace Go.Proofs.YtejaboajgecpaaaGreatDoor
open Go.Lib (hid)
open Go.RowKit Go.Shelf
structure Env (B : Nat) (w : World) : Prop where
 words : w.var? Tryz.prog "duologue/lex.keywords" = some #[.string ⟨#[100, 101, 102]⟩, .string ⟨#[109, 97, 105, 110]⟩, .string ⟨#[115, 116, 111, 112]⟩, .string ⟨#[110, 101, 119]⟩, .string ⟨#[105, 110, 116]⟩, .string ⟨#[98, 111, 111, 108]⟩, .string ⟨#[101, 110, 100]⟩, .string ⟨#[114, 101, 99]⟩, .string ⟨#[116, 114, 117, 101]⟩, .string ⟨#[102, 97, 108, 115, 101]⟩]
 above : 0 < B
 size : B <= w.heap.size
theorem gWords : Tryz.prog.globalNamed "duologue/lex.keywords" = some 0 := by kernel_rfl
theorem Env.below {B : Nat} {w w' : World} (h : Env B w) (hb : Below B w w') : Env B w' := ⟨var?_below hb gWords h.above h.words, h.above, Nat.le_trans h.size hb.size⟩
theorem Env.to {B : Nat} {w w' : World} (h : Env B w) (hb : Below w.heap.size w w') : Env B w' := h.below (hb.mono h.size)
def kwAt : Nat -> ByteArray
 | 0 => ⟨#[100, 101, 102]⟩
 | 1 => ⟨#[109, 97, 105, 110]⟩
 | 2 => ⟨#[115, 116, 111, 112]⟩
 | 3 => ⟨#[110, 101, 119]⟩
 | 4 => ⟨#[105, 110, 116]⟩
 | 5 => ⟨#[98, 111, 111, 108]⟩
 | 6 => ⟨#[101, 110, 100]⟩
 | 7 => ⟨#[114, 101, 99]⟩
 | 8 => ⟨#[116, 114, 117, 101]⟩
 | _ => ⟨#[102, 97, 108, 115, 101]⟩
def kwCells : Array Value := #[.string (kwAt 0), .string (kwAt 1), .string (kwAt 2), .string (kwAt 3), .string (kwAt 4), .string (kwAt 5), .string (kwAt 6), .string (kwAt 7), .string (kwAt 8), .string (kwAt 9)]
theorem kwIdx : ∀ (k : Nat) (_ : k < 10) (w : World), (Instr.index 180 (.agg kwCells) (.int .i64 k)).run Tryz.prog w = .ok (.string (kwAt k)) w
 | 0, _, _ => by kernel_rfl
 | 1, _, _ => by kernel_rfl
 | 2, _, _ => by kernel_rfl
 | 3, _, _ => by kernel_rfl
 | 4, _, _ => by kernel_rfl
 | 5, _, _ => by kernel_rfl
 | 6, _, _ => by kernel_rfl
 | 7, _, _ => by kernel_rfl
 | 8, _, _ => by kernel_rfl
 | 9, _, _ => by kernel_rfl
 | k + 10, h, _ => by omega
theorem Env.row {B : Nat} {w : World} (h : Env B w) : ∃ t fr, w.heap[0]? = some (.cells kwCells t fr) := by
 have hv := h.words
 unfold World.var? at hv
 rw [gWords] at hv
 simp only [Option.bind_some] at hv
 cases ho : w.heap[0]? with
 | none => rw [ho] at hv; cases hv
 | some o =>
  rw [ho] at hv
  cases o with
  | cells cs ty fr => simp only [Option.some.injEq] at hv; subst hv; exact ⟨ty, fr, rfl⟩
  | _ => cases hv
theorem kwU : Tryz.prog.underlying 180 = some (.array 10 9) := by kernel_rfl
def kwB : Nat -> ByteArray -> Bool
 | 0, _ => false
 | k + 1, s => kwB k s || (kwAt k).toList == s.toList
theorem kwB_hit (s : ByteArray) (k : Nat) (h : ((kwAt k).toList == s.toList) = true) : ∀ m, k < m -> kwB m s = true
 | 0, hm => by omega
 | m + 1, hm => by
  rw [kwB, Bool.or_eq_true]
  by_cases e : k = m
  ·subst e; exact .inr h
  ·exact .inl (kwB_hit s k h m (by omega))
theorem keyword_any (s : ByteArray) (B : Nat) (w : World) (he : Env B w) :
 Calls Tryz.prog 134 #[.string s] w fun e w' => e = .returned (.bool (kwB 10 s)) /\ w = w' := by
 obtain ⟨t, fr, hrow⟩ := he.row
 have HR := hid hrow
 clear hrow he
 go_enter Tryz.func134, Tryz.ntmps134
 go_wp2_with (refine wpList_load_row rfl 180 _ rfl 0 rfl t kwCells fr _ HR.out kwU rfl (by kernel_rfl) ?_)
 go_loop [6] (fun n => ∃ k : Nat, k <= 10 /\ n = .int .i64 k /\ Hid (kwB k s = false)) (fun n => 10 - (intOf n).toNat)
 case atStart => exact ⟨0, by omega, rfl, hid rfl⟩
 case round =>
  obtain ⟨k, hk, rfl, hf⟩ := hrel
  by_cases hlt : k < 10
  ·have hidx := kwIdx k hlt
   have hlt' : (k : Int) < 10 := by omega
   go_wp2_with fail
   ·have ht : ((kwAt k).toList == s.toList) = true := by assumption
    go_ret
    exact ⟨ret_bool (kwB_hit s k ht 10 hlt).symm, rfl⟩
   ·have ht : ((kwAt k).toList == s.toList) = false := by assumption
    go_round
    case rel => exact ⟨k + 1, by omega, by go_num, hid (by rw [kwB, hf.out, ht]; rfl)⟩
    case measure => simp [intOf]; omega
  ·obtain rfl : k = 10 := by omega
   go_wp2
   go_ret
   exact ⟨ret_bool hf.out.symm, rfl⟩
def nameB (s : ByteArray) : Bool := !s.toList.isEmpty && decide (Lx.wordLen s.data.toList = s.size) && !kwB 10 s
theorem kw_is (s : ByteArray) (b : Bool) (h : Hid (kwB 10 s = b)) (B : Nat) (w : World) (he : Env B w) :
 Calls Tryz.prog 134 #[.string s] w fun e w' => e = .returned (.bool b) /\ w = w' := by
 have := keyword_any s B w he
 rw [h.out] at this; exact this
theorem wl_is (s : ByteArray) (hs : s.size <= maxLen) (n : Nat) (h : Hid (Lx.wordLen s.data.toList = n)) (w : World) :
 Calls Tryz.prog 131 #[.string s] w fun e w' => e = .returned (.int .i64 n) /\ w = w' := by
 have := wordLen_any s hs w
 rw [h.out] at this; exact this
theorem name_any (s : ByteArray) (hs : s.size <= maxLen) (B : Nat) (w : World) (he : Env B w) :
 Calls Tryz.prog 108 #[.string s] w fun e w' => e = .returned (.bool (nameB s)) /\ w = w' := by
 have HS := hid hs
 obtain ⟨n, hn⟩ : ∃ n, Hid (Lx.wordLen s.data.toList = n) := ⟨_, hid rfl⟩
 obtain ⟨b, hb⟩ : ∃ b, Hid (kwB 10 s = b) := ⟨_, hid rfl⟩
 by_cases h0 : s.toList = []
 ·have h0' : s.toList.isEmpty = true := by rw [h0]; rfl
  have hr : false = nameB s := by unfold nameB; rw [h0']; rfl
  have HR := hid hr
  clear hr hs
  go_enter Tryz.func108, Tryz.ntmps108
  go_wp2_with fail
  go_ret
  exact ⟨ret_bool HR.out, rfl⟩
 ·have h0' : s.toList.isEmpty = false := by simpa using h0
  by_cases hw : n = s.size
  ·have hw' : ((n : Int) == (s.size : Int)) = true := by rw [beq_iff_eq]; omega
   have hr : (!b) = nameB s := by unfold nameB; rw [h0', hn.out, hb.out, decide_eq_true hw]; rfl
   have HR := hid hr
   clear hr hs hw
   go_enter Tryz.func108, Tryz.ntmps108
   go_wp2_with (first | (go_at_call 131; refine (wl_is s HS.out n hn _).mono ?_; rintro e w' ⟨rfl, rfl⟩) | (go_at_call 134; refine (kw_is s b hb B _ he).mono ?_; rintro e w' ⟨rfl, rfl⟩))
   go_ret
   exact ⟨ret_bool HR.out, rfl⟩
  ·have hw' : ((n : Int) == (s.size : Int)) = false := by rw [beq_eq_false_iff_ne]; omega
   have hr : false = nameB s := by unfold nameB; rw [h0', hn.out, decide_eq_false hw]; rfl
   have HR := hid hr
   clear hr hs hw
   go_enter Tryz.func108, Tryz.ntmps108
   go_wp2_with (go_at_call 131; refine (wl_is s HS.out n hn _).mono ?_; rintro e w' ⟨rfl, rfl⟩)
   go_ret
   exact ⟨ret_bool HR.out, rfl⟩
end Go.Proofs.YtejaboajgecpaaaGreatDoor
