/- Plain mathematics: lemmas. -/
import Derived.Test.YtejaboajgecpaaaGreatDoorQn32
set_option maxHeartbeats 16000000
set_option maxRecDepth 100000
namespace Go.Proofs.YtejaboajgecpaaaGreatDoor.Tok
open Go.RowKit Go.Shelf Go.Deep
theorem all_take (p : UInt8 -> Bool) : ∀ (l : List UInt8) (k : Nat), k <= l.length -> (l.take k).all p = decide (k <= Lx.span p l)
 | _, 0, _ => by simp
 | [], k + 1, h => by simp at h
 | c :: r, k + 1, h => by
  rw [List.take_succ_cons, List.all_cons, Lx.span_cons]
  by_cases hc : p c = true
  ·rw [hc, if_pos rfl, Bool.true_and, all_take p r k (by simpa using h)]
   rw [decide_eq_decide]; omega
  ·have hc' : p c = false := by simpa using hc
   rw [hc', Bool.false_and, if_neg (by simp)]; simp
theorem byte_let (c : UInt8) : (!Lx.letU c || (!Lx.digU c && c != 48 && c != 45)) = true :=
 all_bytes (p := fun c => (!Lx.letU c || (!Lx.digU c && c != 48 && c != 45))) (q := fun _ => true) (by decide +kernel) c
theorem let_not {c : UInt8} (h : Lx.letU c = true) : Lx.digU c = false /\ c ≠ 48 /\ c ≠ 45 := by
 have := byte_let c
 rw [h] at this; simpa [and_assoc] using this
theorem rword_take (c : UInt8) (r : List UInt8) (i : Nat) (hi : i <= r.length) : rWord (c :: r.take i) = (Lx.letU c && decide (i <= Lx.span Lx.wcU r)) := by
 simp only [rWord]; rw [all_take _ _ _ hi]
theorem rnum_take48 (r : List UInt8) (i : Nat) (hi : i <= r.length) : rNum (48 :: r.take i) = decide (i = 0) := by
 cases i with
 | zero => rw [List.take_zero]; rfl
 | succ i =>
  cases r with
  | nil => simp at hi
  | cons d r' =>
   rw [List.take_succ_cons]
   unfold rNum
   rw [if_neg (by simp), if_neg (by simp)]; simp [rTail]
theorem rnum_take45 (d : UInt8) (r : List UInt8) (i : Nat) (hi : i <= r.length) : rNum (45 :: d :: r.take i) = (d != 48 && (Lx.digU d && decide (i <= Lx.span Lx.digU r))) := by
 unfold rNum
 rw [if_neg (by simp), if_pos (by simp)]
 simp only [List.tail_cons, rTail, List.all_cons]
 rw [all_take _ _ _ hi]
theorem rnum_take45_0 : rNum [45] = false := by decide
theorem rnum_take (c : UInt8) (h48 : c ≠ 48) (h45 : c ≠ 45) (r : List UInt8) (i : Nat) (hi : i <= r.length) : rNum (c :: r.take i) = (Lx.digU c && decide (i <= Lx.span Lx.digU r)) := by
 unfold rNum
 rw [if_neg (by simp [h48]), if_neg (by simp [h45])]
 simp only [rTail, List.all_cons]
 rw [all_take _ _ _ hi]; simp [h48]
theorem rsign_take (c : UInt8) (r : List UInt8) (i : Nat) (hi : i <= r.length) : rSign (c :: r.take i) = (Lx.isSign c && decide (i = 0)) := by
 cases i with
 | zero => simp [rSign]
 | succ i =>
  rw [rsign_long _ (by rw [List.length_cons, List.length_take]; omega)]; simp
def tl (l : List UInt8) : Nat :=
 if 0 < Lx.wordLen l then Lx.wordLen l else if 0 < Lx.numberLen l then Lx.numberLen l else match l with
  | [] => 0
  | c :: _ => if Lx.isSign c then 1 else 0
def tk (l : List UInt8) : Nat :=
 if 0 < Lx.wordLen l then 1 else if 0 < Lx.numberLen l then 2 else match l with
  | [] => 0
  | c :: _ => if Lx.isSign c then 3 else 0
structure Long (l : List UInt8) : Prop where
 le : tl l <= l.length
 more : ∀ i, 2 <= i -> i <= tl l -> 0 < rKind (l.take i)
 one : tl l = 1 -> 0 < rKind (l.take 1)
 stop : tl l + 1 <= l.length -> rKind (l.take (tl l + 1)) = 0
 none : tl l = 0 -> 2 <= l.length -> rKind (l.take 2) = 0
 kind : 0 < tl l -> rKind (l.take (tl l)) = tk l
theorem rk_word {l : List UInt8} (h : rWord l = true) : rKind l = 1 := by unfold rKind; rw [if_pos h]
theorem rk_num {l : List UInt8} (h : rWord l = false) (h2 : rNum l = true) : rKind l = 2 := by unfold rKind; rw [if_neg (by simp [h]), if_pos h2]
theorem rk_sign {l : List UInt8} (h : rWord l = false) (h2 : rNum l = false) (h3 : rSign l = true) : rKind l = 3 := by unfold rKind; rw [if_neg (by simp [h]), if_neg (by simp [h2]), if_pos h3]
theorem rk_none {l : List UInt8} (h : rWord l = false) (h2 : rNum l = false) (h3 : rSign l = false) : rKind l = 0 := by unfold rKind; rw [if_neg (by simp [h]), if_neg (by simp [h2]), if_neg (by simp [h3])]
theorem long_word (c : UInt8) (r : List UInt8) (h : Lx.letU c = true) : Long (c :: r) := by
 have hw : Lx.wordLen (c :: r) = 1 + Lx.span Lx.wcU r := by simp only [Lx.wordLen]; rw [if_pos h]
 have ht : tl (c :: r) = 1 + Lx.span Lx.wcU r := by unfold tl; rw [hw, if_pos (by omega)]
 have hk : tk (c :: r) = 1 := by unfold tk; rw [hw, if_pos (by omega)]
 have hsp := Lx.span_le Lx.wcU r
 have hyes : ∀ i, i <= Lx.span Lx.wcU r -> rKind ((c :: r).take (i + 1)) = 1 := fun i hi => by
  rw [List.take_succ_cons]; apply rk_word; rw [rword_take _ _ _ (by omega), h, decide_eq_true hi]; rfl
 obtain ⟨n1, n2, n3⟩ := let_not h
 refine ⟨?_, ?_, ?_, ?_, ?_, ?_⟩
 ·rw [ht]; simp; omega
 ·intro i h2 h3
  rw [ht] at h3
  have := hyes (i - 1) (by omega)
  rw [show i - 1 + 1 = i by omega] at this; omega
 ·intro _; have : rKind ((c :: r).take 1) = 1 := hyes 0 (by omega)
  omega
 ·intro h4
  rw [ht, Nat.add_comm 1] at h4 |-
  simp at h4
  rw [List.take_succ_cons]
  refine rk_none ?_ ?_ ?_
  ·rw [rword_take _ _ _ (by omega), decide_eq_false (by omega), Bool.and_false]
  ·rw [rnum_take c n2 n3 _ _ (by omega), n1, Bool.false_and]
  ·rw [rsign_take _ _ _ (by omega), decide_eq_false (by omega), Bool.and_false]
 ·intro h0; rw [ht] at h0; omega
 ·intro _; rw [ht, hk, Nat.add_comm 1]; exact hyes _ (Nat.le_refl _)
theorem long_num (c : UInt8) (r : List UInt8) (h : Lx.letU c = false) (m b : Nat) (hb : b <= 1) (hbm : b < m) (hm : Lx.numberLen (c :: r) = m)
 (hn : ∀ i, i <= r.length -> rNum (c :: r.take i) = decide (b <= i /\ i + 1 <= m)) : Long (c :: r) := by
 have hw : Lx.wordLen (c :: r) = 0 := by simp only [Lx.wordLen]; rw [if_neg (by simp [h])]
 have ht : tl (c :: r) = m := by unfold tl; rw [hw, hm, if_neg (by omega), if_pos (by omega)]
 have hk : tk (c :: r) = 2 := by unfold tk; rw [hw, hm, if_neg (by omega), if_pos (by omega)]
 have hle := Lx.numberLen_le (c :: r)
 rw [hm] at hle
 simp at hle
 have hyes : ∀ i, i <= r.length -> b <= i -> i + 1 <= m -> rKind ((c :: r).take (i + 1)) = 2 := fun i h1 h2 h3 => by
  rw [List.take_succ_cons]; apply rk_num
  ·rw [rword_take _ _ _ h1, h, Bool.false_and]
  ·rw [hn i h1, decide_eq_true ⟨h2, h3⟩]
 refine ⟨?_, ?_, ?_, ?_, ?_, ?_⟩
 ·rw [ht]; simpa using hle
 ·intro i h2 h3
  rw [ht] at h3
  have := hyes (i - 1) (by omega) (by omega) (by omega)
  rw [show i - 1 + 1 = i by omega] at this; omega
 ·intro h1; rw [ht] at h1; have : rKind ((c :: r).take 1) = 2 := hyes 0 (by omega) (by omega) (by omega)
  omega
 ·intro h4
  rw [ht] at h4 |-
  simp at h4
  rw [List.take_succ_cons]
  refine rk_none ?_ ?_ ?_
  ·rw [rword_take _ _ _ (by omega), h, Bool.false_and]
  ·rw [hn _ (by omega), decide_eq_false (by omega)]
  ·rw [rsign_take _ _ _ (by omega), decide_eq_false (by omega), Bool.and_false]
 ·intro h0; rw [ht] at h0; omega
 ·intro _; rw [ht, hk]
  have := hyes (m - 1) (by omega) (by omega) (by omega)
  rw [show m - 1 + 1 = m by omega] at this; exact this
theorem long_sign (c : UInt8) (r : List UInt8) (h : Lx.letU c = false) (hm : Lx.numberLen (c :: r) = 0)
 (hn : ∀ i, i <= r.length -> i <= 1 -> rNum (c :: r.take i) = false) : Long (c :: r) := by
 have hw : Lx.wordLen (c :: r) = 0 := by simp only [Lx.wordLen]; rw [if_neg (by simp [h])]
 have ht : tl (c :: r) = if Lx.isSign c then 1 else 0 := by unfold tl; rw [hw, hm, if_neg (by omega), if_neg (by omega)]
 have hk : tk (c :: r) = if Lx.isSign c then 3 else 0 := by unfold tk; rw [hw, hm, if_neg (by omega), if_neg (by omega)]
 have hno : ∀ i, i <= r.length -> rWord (c :: r.take i) = false := fun i hi => by rw [rword_take _ _ _ hi, h, Bool.false_and]
 have h2 : 1 <= r.length -> rKind ((c :: r).take 2) = 0 := fun h1 => by
  rw [List.take_succ_cons]
  refine rk_none (hno _ h1) (hn _ h1 (by omega)) ?_
  rw [rsign_take _ _ _ h1]; simp
 cases hs : Lx.isSign c with
 | true =>
  rw [hs, if_pos rfl] at ht hk
  have h1 : rKind ((c :: r).take 1) = 3 := by
   rw [List.take_succ_cons]
   refine rk_sign (hno _ (by omega)) (hn _ (by omega) (by omega)) ?_
   rw [rsign_take _ _ _ (by omega), hs]; rfl
  refine ⟨by rw [ht]; simp, fun i h2 h3 => by omega, fun _ => by omega, fun h4 => ?_, fun h4 => by omega, fun _ => by rw [ht, hk]; exact h1⟩
  rw [ht] at h4 |-; exact h2 (by simpa using h4)
 | false =>
  rw [hs] at ht hk
  simp only [Bool.false_eq_true, if_false] at ht hk
  have h1 : rKind ((c :: r).take 1) = 0 := by
   rw [List.take_succ_cons]
   refine rk_none (hno _ (by omega)) (hn _ (by omega) (by omega)) ?_
   rw [rsign_take _ _ _ (by omega), hs]; rfl
  refine ⟨by rw [ht]; simp, fun i h2 h3 => by omega, fun _ => by omega, fun h4 => by rw [ht]; exact h1, fun _ h4 => h2 (by simpa using h4), fun h4 => by omega⟩
theorem long_any : ∀ l : List UInt8, l ≠ [] -> Long l
 | [], h => absurd rfl h
 | c :: r, _ => by
  cases hl : Lx.letU c with
  | true => exact long_word c r hl
  | false =>
   by_cases h48 : c = 48
   ·subst h48
    refine long_num 48 r hl 1 0 (by omega) (by omega) (by simp [Lx.numberLen]) (fun i hi => ?_)
    rw [rnum_take48 _ _ hi, decide_eq_decide]; omega
   ·by_cases h45 : c = 45
    ·subst h45
     cases r with
     | nil => exact long_sign 45 [] hl (by simp [Lx.numberLen]) (fun i hi _ => by rw [List.take_nil]; exact rnum_take45_0)
     | cons d r' =>
      by_cases hd : d ≠ 48 /\ Lx.digU d = true
      ·have hm : Lx.numberLen (45 :: d :: r') = 2 + Lx.span Lx.digU r' := by
        simp only [Lx.numberLen]
        rw [if_neg (by decide), if_pos trivial, if_neg hd.1, if_pos hd.2, Lx.span_cons, if_pos hd.2]; omega
       refine long_num 45 (d :: r') hl _ 1 (by omega) (by omega) hm (fun i hi => ?_)
       cases i with
       | zero => rw [List.take_zero, rnum_take45_0]; symm; rw [decide_eq_false_iff_not]; omega
       | succ i =>
        rw [List.take_succ_cons, rnum_take45 _ _ _ (by simpa using hi), hd.2]
        have : (d != 48) = true := by simpa using hd.1
        rw [this, Bool.true_and, Bool.true_and, decide_eq_decide]; omega
      ·have hd' : d = 48 \/ Lx.digU d = false := by
        by_cases e : d = 48
        ·exact .inl e
        ·right; have := fun x => hd ⟨e, x⟩; simpa using this
       have hm : Lx.numberLen (45 :: d :: r') = 0 := by
        simp only [Lx.numberLen]
        rw [if_neg (by decide), if_pos trivial]
        rcases hd' with e | e
        ·rw [if_pos e]
        ·by_cases h0 : d = 48
         ·rw [if_pos h0]
         ·rw [if_neg h0, if_neg (by simp [e])]
       refine long_sign 45 (d :: r') hl hm (fun i hi h1 => ?_)
       cases i with
       | zero => rw [List.take_zero]; exact rnum_take45_0
       | succ i =>
        rw [List.take_succ_cons, rnum_take45 _ _ _ (by simpa using hi)]
        rcases hd' with e | e
        ·subst e; rfl
        ·rw [e, Bool.false_and, Bool.and_false]
    ·cases hd : Lx.digU c with
     | true =>
      have hm : Lx.numberLen (c :: r) = 1 + Lx.span Lx.digU r := by
       simp only [Lx.numberLen]
       rw [if_neg h48, if_neg h45, if_pos hd]
      refine long_num c r hl _ 0 (by omega) (by omega) hm (fun i hi => ?_)
      rw [rnum_take c h48 h45 _ _ hi, hd, Bool.true_and, decide_eq_decide]; omega
     | false =>
      refine long_sign c r hl ?_ (fun i hi _ => ?_)
      ·simp only [Lx.numberLen]
       rw [if_neg h48, if_neg h45, if_neg (by simp [hd])]
      ·rw [rnum_take c h48 h45 _ _ hi, hd, Bool.false_and]
end Go.Proofs.YtejaboajgecpaaaGreatDoor.Tok
namespace Go.Proofs.YtejaboajgecpaaaGreatDoor.Tok
open Go.Lib (hid)
open Go.RowKit Go.Shelf Go.Deep
theorem take_at (s : ByteArray) (a k : Nat) : (s.extract a k).data.toList = (s.data.toList.drop a).take (k - a) := by
 rw [<- Lib.toList_data, Lib.extract_toList]
theorem kind_is (s : ByteArray) (hs : Hid (s.size <= 9223372036854775807)) (a k m : Nat) (h : Hid (rKind ((s.data.toList.drop a).take (k - a)) = m)) (w : World) :
 Calls Tryz.prog 44 #[.string (s.extract a k)] w fun e w' => e = .returned (.int .i64 (m : Int)) /\ Drew w w' := by
 have h1 := hs.out
 have := kind_any (s.extract a k) (by rw [ByteArray.size_extract]; omega) w
 rw [take_at, h.out] at this; exact this
def Looked (l : List UInt8) (j e : Nat) : Prop := e = j /\ j <= tl l \/ j = 1 /\ e = 0 /\ rKind (l.take 1) = 0
theorem looked_hit {l : List UInt8} (L : Long l) {j e : Nat} (h : Looked l j e) (hj : j + 1 <= l.length) (hk : 0 < rKind (l.take (j + 1))) : Looked l (j + 1) (j + 1) := by
 rcases h with ⟨rfl, h⟩ | ⟨rfl, rfl, h⟩
 ·left
  refine ⟨rfl, ?_⟩
  by_cases e0 : e = tl l
  ·subst e0; have := L.stop hj; omega
  ·omega
 ·left
  refine ⟨rfl, ?_⟩
  by_cases h0 : tl l = 0
  ·have : rKind (l.take (1 + 1)) = 0 := L.none h0 hj
   omega
  ·by_cases h1 : tl l = 1
   ·have := L.one h1; omega
   ·omega
theorem looked_first {l : List UInt8} {e : Nat} (h : Looked l 0 e) (hk : rKind (l.take (0 + 1)) = 0) : Looked l 1 e := by
 rcases h with ⟨rfl, h⟩ | ⟨h, _⟩
 ·exact .inr ⟨rfl, rfl, hk⟩
 ·cases h
theorem looked_stop {l : List UInt8} (L : Long l) {j e : Nat} (h : Looked l j e) (hj : 1 <= j) (hk : rKind (l.take (j + 1)) = 0) : e = tl l := by
 rcases h with ⟨rfl, h⟩ | ⟨rfl, rfl, h⟩
 ·by_cases e0 : e = tl l
  ·exact e0
  ·have := L.more (e + 1) (by omega) (by omega); omega
 ·by_cases h0 : tl l = 0
  ·exact h0.symm
  ·by_cases h1 : tl l = 1
   ·have := L.one h1; omega
   ·have := L.more (1 + 1) (by omega) (by omega); omega
theorem looked_end {l : List UInt8} (L : Long l) {j e : Nat} (h : Looked l j e) (hj : l.length = j) : e = tl l := by
 have hle := L.le
 rcases h with ⟨rfl, h⟩ | ⟨rfl, rfl, h⟩
 ·omega
 ·by_cases h1 : tl l = 1
  ·have := L.one h1; omega
  ·omega
theorem longest_any (s : ByteArray) (hs : s.size <= 281474976710656) (a : Nat) (ha : a < s.size) (w : World) :
 Calls Tryz.prog 43 #[.string s, .int .i64 a] w fun e w' => e = .returned (.int .i64 ((a + tl (s.data.toList.drop a) : Nat) : Int)) /\ Drew w w' := by
 have hS : Hid (s.size <= 9223372036854775807) := hid (by omega)
 have hlen : (s.data.toList.drop a).length = s.size - a := by rw [List.length_drop]; rfl
 have L := hid (long_any (s.data.toList.drop a) (fun h => by rw [h] at hlen; simp at hlen; omega))
 have HL := hid hlen
 clear hlen
 obtain ⟨l, hl⟩ : ∃ l, s.data.toList.drop a = l := ⟨_, rfl⟩
 have kd := fun (k m : Nat) (h : Hid (rKind (l.take (k - a)) = m)) (w : World) => kind_is s hS a k m (by rw [hl]; exact h) w
 rw [hl] at L HL |-
 clear hl
 go_enter Tryz.func43, Tryz.ntmps43
 go_wp2_with fail
 go_loopw [5, 6] (fun en n wr => ∃ j e : Nat, a + j <= s.size /\ en = .int .i64 ((a + e : Nat) : Int) /\ a + e <= s.size /\ n = .int .i64 ((a + j + 1 : Nat) : Int) /\ Hid (Looked l j e) /\ Drew w wr) (fun _ n _ => s.size + 1 - (intOf n).toNat)
 case atStart => exact ⟨0, 0, by omega, rfl, by omega, by go_num, hid (.inl ⟨rfl, Nat.zero_le _⟩), (Drew.refl _)⟩
 case round =>
  obtain ⟨j, e, hj, rfl, he, rfl, hlk, hdr⟩ := hrel
  by_cases hlt : a + j < s.size
  ·have hk0 : (0 : Int) <= ((a + j + 1 : Nat) : Int) := Int.natCast_nonneg _
   have hk3 : ((a + j + 1 : Nat) : Int) <= (s.size : Int) := by omega
   obtain ⟨m, hm⟩ : ∃ m, Hid (rKind (l.take (a + j + 1 - a)) = m) := ⟨_, hid rfl⟩
   have hm' : Hid (rKind (l.take (j + 1)) = m) := hid (by have := hm.out; rw [show a + j + 1 - a = j + 1 by omega] at this; exact this)
   by_cases hm0 : 0 < m
   ·have hmd : decide ((0 : Int) < (m : Int)) = true := by simp; omega
    go_wp2_with (go_at_call 44; refine (kd (a + j + 1) m hm _).mono ?_; rintro e w' ⟨rfl, hd1⟩)
    go_roundw
    case rel => exact ⟨j + 1, j + 1, by omega, by go_num, by omega, by go_num, hid (looked_hit L.out hlk.out (by rw [HL.out]; omega) (by rw [hm'.out]; exact hm0)), hdr.trans hd1⟩
    case measure => simp [intOf]; omega
   ·obtain rfl : m = 0 := by omega
    by_cases hj0 : j = 0
    ·subst hj0
     go_wp2_with (go_at_call 44; refine (kd (a + 0 + 1) 0 hm _).mono ?_; rintro e w' ⟨rfl, hd1⟩)
     go_roundw
     case rel => exact ⟨1, e, by omega, by go_num, by omega, by go_num, hid (looked_first hlk.out hm'.out), hdr.trans hd1⟩
     case measure => simp [intOf]; omega
    ·have hjd : decide ((a : Int) + 1 < ((a + j + 1 : Nat) : Int)) = true := by simp; omega
     obtain rfl := looked_stop L.out hlk.out (by omega) hm'.out
     go_wp2_with (go_at_call 44; refine (kd (a + j + 1) 0 hm _).mono ?_; rintro e w' ⟨rfl, hd1⟩)
     go_ret
     exact ⟨rfl, hdr.trans hd1⟩
  ·obtain rfl := looked_end L.out hlk.out (by rw [HL.out]; omega)
   go_wp2_with fail
   go_ret
   exact ⟨rfl, hdr⟩
end Go.Proofs.YtejaboajgecpaaaGreatDoor.Tok
namespace Go.Proofs.YtejaboajgecpaaaGreatDoor.Tok
open Go.RowKit Go.Shelf Go.Deep
def dval (acc : Nat) (l : List UInt8) : Nat := l.foldl (fun a c => 10 * a + (c.toNat - 48)) acc
theorem dval_nil (a : Nat) : dval a [] = a := rfl
theorem dval_cons (a : Nat) (c : UInt8) (r : List UInt8) : dval a (c :: r) = dval (10 * a + (c.toNat - 48)) r := by
 unfold dval; rw [List.foldl_cons]
theorem dval_snoc (a : Nat) (l : List UInt8) (c : UInt8) : dval a (l ++ [c]) = 10 * dval a l + (c.toNat - 48) := by
 unfold dval; rw [List.foldl_append, List.foldl_cons, List.foldl_nil]
theorem dval_le : ∀ (l : List UInt8) (a : Nat), a <= dval a l
 | [], a => Nat.le_refl a
 | c :: r, a => by rw [dval_cons]; have := dval_le r (10 * a + (c.toNat - 48)); omega
theorem dval_append (a : Nat) (l m : List UInt8) : dval a (l ++ m) = dval (dval a l) m := by unfold dval; rw [List.foldl_append]
theorem dig_iff {c : UInt8} (h : Lx.digU c = true) : 48 <= c.toNat /\ c.toNat <= 57 := by
 simp [Lx.digU, Lx.digB] at h; omega
theorem parse_val : ∀ (l : List UInt8) (a : Nat), (∀ c ∈ l, Lx.digU c = true) -> a <= 2 ^ 64 - 1 ->
 Lib.parseUintM (2 ^ 64 - 1) a l = if dval a l <= 2 ^ 64 - 1 then .ok (dval a l) else .range
 | [], a, _, ha => by rw [dval_nil, if_pos ha]; rfl
 | c :: r, a, h, ha => by
  have hc := dig_iff (h c (by simp))
  have hle := dval_le r (10 * a + (c.toNat - 48))
  simp only [Lib.parseUintM, if_pos hc]
  rw [dval_cons]
  by_cases h1 : 1844674407370955162 <= a
  ·rw [if_pos h1, if_neg (by omega)]
  ·rw [if_neg h1, Nat.mul_comm a 10]
   by_cases h2 : 2 ^ 64 - 1 < 10 * a + (c.toNat - 48)
   ·rw [if_pos h2, if_neg (by omega)]
   ·rw [if_neg h2, parse_val r _ (fun d hd => h d (by simp [hd])) (by omega)]
def rv (l : List UInt8) : Option Int := match Lib.parseIntB 64 l with
 | .ok v => some v
 | _ => none
theorem rv_minus (r : List UInt8) (h0 : r ≠ []) (h : ∀ c ∈ r, Lx.digU c = true) : rv (45 :: r) = if dval 0 r <= 2 ^ 63 then some (-(dval 0 r : Int)) else none := by
 unfold rv
 rw [Lib.parseIntB_minus]
 unfold Lib.parseUintB
 rw [if_neg h0, parse_val r 0 h (by omega)]
 by_cases h1 : dval 0 r <= 2 ^ 63
 ·rw [if_pos (by omega), if_pos h1]
  simp only [Lib.signedC]
  rw [if_neg (by omega)]
 ·rw [if_neg h1]
  by_cases h2 : dval 0 r <= 2 ^ 64 - 1
  ·rw [if_pos h2]; simp only [Lib.signedC]; rw [if_pos (by omega)]
  ·rw [if_neg h2]; rfl
theorem rv_plain (c : UInt8) (r : List UInt8) (h : ∀ d ∈ c :: r, Lx.digU d = true) : rv (c :: r) = if dval 0 (c :: r) < 2 ^ 63 then some (dval 0 (c :: r) : Int) else none := by
 unfold rv
 have hc := Lx.plain_of_dig (h c (by simp))
 rw [Lib.parseIntB_plain _ _ _ hc.1 hc.2]
 unfold Lib.parseUintB
 rw [if_neg (by simp), parse_val _ 0 h (by omega)]
 by_cases h1 : dval 0 (c :: r) < 2 ^ 63
 ·rw [if_pos (by omega), if_pos h1]
  simp only [Lib.signlessC]
  rw [if_neg (by omega)]
 ·rw [if_neg h1]
  by_cases h2 : dval 0 (c :: r) <= 2 ^ 64 - 1
  ·rw [if_pos h2]; simp only [Lib.signlessC]; rw [if_pos (by omega)]
  ·rw [if_neg h2]; rfl
def vAt (s : ByteArray) (b k : Nat) : Nat := dval 0 ((s.data.toList.drop b).take k)
theorem vAt_zero (s : ByteArray) (b : Nat) : vAt s b 0 = 0 := by unfold vAt; rw [List.take_zero]; rfl
theorem vAt_succ (s : ByteArray) (b k : Nat) (h : b + k < s.size) : vAt s b (k + 1) = 10 * vAt s b k + (s[b + k].toNat - 48) := by
 unfold vAt
 have hk : k < (s.data.toList.drop b).length := by rw [List.length_drop]; show k < s.size - b; omega
 rw [List.take_add_one, List.getElem?_eq_getElem hk, Option.toList_some, dval_snoc, List.getElem_drop]
 rfl
theorem vAt_le (s : ByteArray) (b k m : Nat) (h : k <= m) : vAt s b k <= vAt s b m := by
 unfold vAt
 have e : (s.data.toList.drop b).take m = (s.data.toList.drop b).take k ++ ((s.data.toList.drop b).take m).drop k := by
  have := (List.take_append_drop k ((s.data.toList.drop b).take m)).symm
  rw [List.take_take, Nat.min_eq_left h] at this
  exact this
 rw [e, dval_append]
 exact dval_le _ _
theorem vAt_all (s : ByteArray) (b : Nat) (_h : b <= s.size) : vAt s b (s.size - b) = dval 0 (s.data.toList.drop b) := by
 unfold vAt
 rw [List.take_of_length_le]
 rw [List.length_drop]; exact Nat.le_refl _
end Go.Proofs.YtejaboajgecpaaaGreatDoor.Tok
namespace Go.Proofs.YtejaboajgecpaaaGreatDoor.Tok
open Go.Lib (hid)
open Go.RowKit Go.Shelf Go.Deep
theorem tdiv_neg10 (A : Nat) : Int.tdiv (-(A : Int)) 10 = -((A / 10 : Nat) : Int) := by
 rw [Int.neg_tdiv]; rfl
theorem tdiv_pos10 (A : Nat) : Int.tdiv (A : Int) 10 = ((A / 10 : Nat) : Int) := rfl
def okT (v : Int) : Value := .tuple #[.int .i64 v, .bool true]
def noT : Value := .tuple #[.int .i64 0, .bool false]
def negT (x : Nat) : Value := if x <= 2 ^ 63 then okT (-(x : Int)) else noT
def posT (x : Nat) : Value := if x < 2 ^ 63 then okT x else noT
theorem rvalue_minus (s : ByteArray) (hs : s.size <= 281474976710656) (h0 : 0 < s.size) (h45 : ((s[0].toNat : Int) == 45) = true) (hd : Hid (∀ j (h : j < s.size), 1 <= j -> 48 <= s[j].toNat /\ s[j].toNat <= 57)) (w : World) :
 Calls Tryz.prog 45 #[.string s] w fun e w' => e = .returned (negT (vAt s 1 (s.size - 1))) /\ Drew w w' := by
 go_enter Tryz.func45, Tryz.ntmps45
 go_wp2_with fail
 go_loopw [4, 5] (fun v n wr => ∃ k x : Nat, 1 + k <= s.size /\ n = .int .i64 ((1 + k : Nat) : Int) /\ x <= 9223372036854775808 /\ Hid (vAt s 1 k = x) /\ v = .int .i64 (-(x : Int)) /\ Drew w wr) (fun _ n _ => s.size - (intOf n).toNat)
 case atStart => exact ⟨0, 0, by omega, by go_num, by omega, hid (vAt_zero _ _), by go_num, Drew.refl _⟩
 case round =>
  obtain ⟨k, x, hk, rfl, hx, hv, rfl, hdr⟩ := hrel
  by_cases hlt : 1 + k < s.size
  ·obtain ⟨hc1, hc2⟩ := hd.out (1 + k) hlt (by omega)
   have hvs := vAt_succ s 1 k hlt
   have hvl := vAt_le s 1 (k + 1) (s.size - 1) (by omega)
   rw [hv.out] at hvs
   have hq : (-9223372036854775808 + ((s[1 + k].toNat : Int) - 48)).tdiv 10 = -(((9223372036854775808 - (s[1 + k].toNat - 48)) / 10 : Nat) : Int) := by
    rw [<- tdiv_neg10]; congr 1; omega
   by_cases hov : 10 * x + (s[1 + k].toNat - 48) <= 9223372036854775808
   ·have hqd : decide (-(x : Int) < (-9223372036854775808 + ((s[1 + k].toNat : Int) - 48)).tdiv 10) = false := by
     rw [hq]; simp; omega
    have HVS := hid hvs
    clear hvs hvl hq
    go_wp2_with fail
    go_roundw
    case rel => exact ⟨k + 1, 10 * x + (s[1 + k].toNat - 48), by omega, by go_num, hov, HVS, by go_num, hdr⟩
    case measure => simp [intOf]; omega
   ·have hqd : decide (-(x : Int) < (-9223372036854775808 + ((s[1 + k].toNat : Int) - 48)).tdiv 10) = true := by
     rw [hq]; simp; omega
    have HR := hid (show negT (vAt s 1 (s.size - 1)) = noT by unfold negT; rw [if_neg (by omega)])
    clear hvs hvl hq
    go_wp2_with fail
    rw [HR.out]
    exact bodyPost_ret (v := noT) (by simp [results, Tryz.results45, go_sem, noT]) rfl ⟨rfl, hdr⟩
  ·have e : s.size - 1 = k := by omega
   have HR := hid (show negT (vAt s 1 (s.size - 1)) = okT (-(x : Int)) by unfold negT; rw [e, hv.out, if_pos (by omega)])
   clear e
   go_wp2_with fail
   rw [HR.out]
   exact bodyPost_ret (v := okT (-(x : Int))) (by simp [results, Tryz.results45, go_sem, okT]) rfl ⟨rfl, hdr⟩
theorem rvalue_plain (s : ByteArray) (hs : s.size <= 281474976710656) (h0 : 0 < s.size) (h45 : ((s[0].toNat : Int) == 45) = false) (hd : Hid (∀ j (h : j < s.size), 48 <= s[j].toNat /\ s[j].toNat <= 57)) (w : World) :
 Calls Tryz.prog 45 #[.string s] w fun e w' => e = .returned (posT (vAt s 0 s.size)) /\ Drew w w' := by
 go_enter Tryz.func45, Tryz.ntmps45
 go_wp2_with fail
 go_loopw [7, 8] (fun v n wr => ∃ k x : Nat, k <= s.size /\ n = .int .i64 (k : Int) /\ x <= 9223372036854775807 /\ Hid (vAt s 0 k = x) /\ v = .int .i64 (x : Int) /\ Drew w wr) (fun _ n _ => s.size - (intOf n).toNat)
 case atStart => exact ⟨0, 0, by omega, by go_num, by omega, hid (vAt_zero _ _), by go_num, Drew.refl _⟩
 case round =>
  obtain ⟨k, x, hk, rfl, hx, hv, rfl, hdr⟩ := hrel
  by_cases hlt : k < s.size
  ·obtain ⟨hc1, hc2⟩ := hd.out k hlt
   have hvs := vAt_succ s 0 k (by omega)
   have hvl := vAt_le s 0 (k + 1) s.size (by omega)
   rw [hv.out] at hvs
   simp only [Nat.zero_add] at hvs
   have hq : (9223372036854775807 - ((s[k].toNat : Int) - 48)).tdiv 10 = (((9223372036854775807 - (s[k].toNat - 48)) / 10 : Nat) : Int) := by
    rw [<- tdiv_pos10]; congr 1; omega
   by_cases hov : 10 * x + (s[k].toNat - 48) <= 9223372036854775807
   ·have hqd : decide ((9223372036854775807 - ((s[k].toNat : Int) - 48)).tdiv 10 < (x : Int)) = false := by
     rw [hq]; simp; omega
    have HVS := hid hvs
    clear hvs hvl hq
    go_wp2_with fail
    go_roundw
    case rel => exact ⟨k + 1, 10 * x + (s[k].toNat - 48), by omega, by go_num, hov, HVS, by go_num, hdr⟩
    case measure => simp [intOf]; omega
   ·have hqd : decide ((9223372036854775807 - ((s[k].toNat : Int) - 48)).tdiv 10 < (x : Int)) = true := by
     rw [hq]; simp; omega
    have HR := hid (show posT (vAt s 0 s.size) = noT by unfold posT; rw [if_neg (by omega)])
    clear hvs hvl hq
    go_wp2_with fail
    rw [HR.out]
    exact bodyPost_ret (v := noT) (by simp [results, Tryz.results45, go_sem, noT]) rfl ⟨rfl, hdr⟩
  ·have e : s.size = k := by omega
   have HR := hid (show posT (vAt s 0 s.size) = okT (x : Int) by unfold posT; rw [e, hv.out, if_pos (by omega)])
   clear e
   go_wp2_with fail
   rw [HR.out]
   exact bodyPost_ret (v := okT (x : Int)) (by simp [results, Tryz.results45, go_sem, okT]) rfl ⟨rfl, hdr⟩
def NumForm (l : List UInt8) : Prop := (∃ r, l = 45 :: r /\ r ≠ [] /\ ∀ c ∈ r, Lx.digU c = true) \/ (∃ c r, l = c :: r /\ ∀ d ∈ c :: r, Lx.digU d = true)
theorem numform_take (l : List UInt8) (h : 0 < Lx.numberLen l) : NumForm (l.take (Lx.numberLen l)) := by
 cases l with
 | nil => simp [Lx.numberLen] at h
 | cons c r =>
  simp only [Lx.numberLen] at h |-
  by_cases h48 : c = 48
  ·subst h48; right; exact ⟨48, [], by rw [if_pos rfl]; rfl, by simp; decide⟩
  ·rw [if_neg h48] at h |-
   by_cases h45 : c = 45
   ·subst h45
    rw [if_pos rfl] at h |-
    cases r with
    | nil => simp at h
    | cons d r' =>
     simp only at h |-
     by_cases hd48 : d = 48
     ·rw [if_pos hd48] at h; exact absurd h (by decide)
     ·rw [if_neg hd48] at h |-
      by_cases hd : Lx.digU d = true
      ·rw [if_pos hd] at h |-
       rw [Nat.add_comm 1, List.take_succ_cons]
       left
       refine ⟨_, rfl, ?_, Lx.take_span _ _⟩
       rw [Lx.span_cons, if_pos hd, Nat.add_comm 1, List.take_succ_cons]; simp
      ·rw [if_neg hd] at h; exact absurd h (by decide)
   ·rw [if_neg h45] at h |-
    by_cases hd : Lx.digU c = true
    ·rw [if_pos hd] at h |-
     rw [Nat.add_comm 1, List.take_succ_cons]
     right
     refine ⟨_, _, rfl, ?_⟩
     intro x hx
     rcases List.mem_cons.1 hx with rfl | hx
     ·exact hd
     ·exact Lx.take_span _ _ x hx
    ·rw [if_neg hd] at h; exact absurd h (by decide)
def ovT : Option Int -> Value
 | some v => okT v
 | none => noT
theorem dig_at (s : ByteArray) (j : Nat) (h : j < s.size) (hd : Lx.digU s[j] = true) : 48 <= s[j].toNat /\ s[j].toNat <= 57 := dig_iff hd
theorem at_list (s : ByteArray) (l : List UInt8) (h : s.data.toList = l) (j : Nat) (hj : j < s.size) : ∃ hj' : j < l.length, s[j] = l[j] := by
 subst h; exact ⟨hj, rfl⟩
theorem rvalue_any (s : ByteArray) (hs : s.size <= 281474976710656) (hf : NumForm s.data.toList) (w : World) :
 Calls Tryz.prog 45 #[.string s] w fun e w' => e = .returned (ovT (rv s.data.toList)) /\ Drew w w' := by
 have hsz : s.size = s.data.toList.length := rfl
 rcases hf with ⟨r, hl, hr, hd⟩ | ⟨c, r, hl, hd⟩
 ·rw [hl, List.length_cons] at hsz
  have h0 : 0 < s.size := by omega
  obtain ⟨_, e0⟩ := at_list s _ hl 0 h0
  simp only [List.getElem_cons_zero] at e0
  have hv := vAt_all s 1 (by omega)
  rw [hl, List.drop_one, List.tail_cons] at hv
  have hR : negT (vAt s 1 (s.size - 1)) = ovT (rv s.data.toList) := by
   rw [hv, hl, rv_minus r hr hd]; unfold negT
   by_cases h : dval 0 r <= 2 ^ 63
   ·rw [if_pos h, if_pos h]; rfl
   ·rw [if_neg h, if_neg h]; rfl
  rw [<- hR]
  refine rvalue_minus s hs h0 (by rw [e0]; rfl) (hid fun j hj h1 => ?_) w
  obtain ⟨hj', ej⟩ := at_list s _ hl j hj
  refine dig_at s j hj ?_
  rw [ej]
  obtain ⟨i, rfl⟩ : ∃ i, j = i + 1 := ⟨j - 1, by omega⟩
  rw [List.getElem_cons_succ]
  exact hd _ (List.getElem_mem _)
 ·rw [hl, List.length_cons] at hsz
  have h0 : 0 < s.size := by omega
  obtain ⟨_, e0⟩ := at_list s _ hl 0 h0
  simp only [List.getElem_cons_zero] at e0
  have hv := vAt_all s 0 (by omega)
  rw [hl, List.drop_zero, Nat.sub_zero] at hv
  have hR : posT (vAt s 0 s.size) = ovT (rv s.data.toList) := by
   rw [hv, hl, rv_plain c r hd]; unfold posT
   by_cases h : dval 0 (c :: r) < 2 ^ 63
   ·rw [if_pos h, if_pos h]; rfl
   ·rw [if_neg h, if_neg h]; rfl
  rw [<- hR]
  refine rvalue_plain s hs h0 ?_ (hid fun j hj => ?_) w
  ·have := dig_iff (hd c (by simp))
   rw [e0, beq_eq_false_iff_ne]; omega
  ·obtain ⟨hj', ej⟩ := at_list s _ hl j hj
   refine dig_at s j hj ?_
   rw [ej]
   exact hd _ (List.getElem_mem _)
end Go.Proofs.YtejaboajgecpaaaGreatDoor.Tok
namespace Go.Proofs.YtejaboajgecpaaaGreatDoor.Tok
open Go.RowKit Go.Shelf Go.Deep
theorem tokL_of (l : List UInt8) : Lx.tokL l = if tl l = 0 then .inl 1 else if tk l = 2 then (match rv (l.take (tl l)) with | some v => .inr (2, tl l, v) | none => .inl 2) else .inr ((tk l : Nat), tl l, 0) := by
 unfold Lx.tokL tl tk rv
 by_cases hw : 0 < Lx.wordLen l
 ·simp only [hw, if_true]
  rw [if_neg (by omega)]; simp
 ·simp only [hw, if_false]
  by_cases hn : 0 < Lx.numberLen l
  ·simp only [hn, if_true]
   rw [if_neg (by omega)]
   cases Lib.parseIntB 64 (l.take (Lx.numberLen l)) <;> rfl
  ·simp only [hn, if_false]
   cases l with
   | nil => rfl
   | cons c r =>
    simp only
    cases Lx.isSign c <;> simp
def Left (L : List UInt8) (a : Nat) (I ys : List Item) : Prop := ∃ f, L.length < f + a /\ I = ys ++ items f L (a + Lx.skipG false (L.drop a))
theorem left_blank {s : ByteArray} {a : Nat} (h : a < s.size) {I ys : List Item} (hb : Lx.blank s[a] = true) (hl : Left s.data.toList a I ys) : Left s.data.toList (a + 1) I ys := by
 obtain ⟨f, hf, e⟩ := hl
 refine ⟨f, by omega, ?_⟩
 rw [e, drop_at s a h, Lx.skipG_blank _ _ hb, Nat.add_assoc]
theorem left_hash {s : ByteArray} {a j : Nat} (h : a < s.size) {I ys : List Item} (hb : s[a] = 35) (hj : Lx.commentLen (s.data.toList.drop a) = j) (hl : Left s.data.toList a I ys) : Left s.data.toList (a + j) I ys := by
 obtain ⟨f, hf, e⟩ := hl
 refine ⟨f, by omega, ?_⟩
 have hd := drop_at s a h
 rw [hb] at hd
 rw [e, hd, Lx.skipG_hash, <- hd, hj, List.drop_drop, Nat.add_assoc]
theorem left_stop {s : ByteArray} {a : Nat} (h : a < s.size) {I ys : List Item} (hb : Lx.blank s[a] = false) (h35 : s[a] ≠ 35) (hl : Left s.data.toList a I ys) : ∃ f, s.size < f + 1 + a /\ I = ys ++ items (f + 1) s.data.toList a := by
 obtain ⟨f, hf, e⟩ := hl
 have hf' : s.size < f + a := hf
 obtain ⟨f', rfl⟩ : ∃ f', f = f' + 1 := ⟨f - 1, by omega⟩
 refine ⟨f', by omega, ?_⟩
 rw [e, drop_at s a h, Lx.skipG_stop _ _ hb h35]
 rfl
theorem left_end {L : List UInt8} {a : Nat} (h : ¬ a < L.length) {I ys : List Item} (hl : Left L a I ys) : I = ys := by
 obtain ⟨f, hf, e⟩ := hl
 rw [e, items_end _ _ _ (by omega), List.append_nil]
theorem left_err {s : ByteArray} {a : Nat} (h : a < s.size) {I ys : List Item} (hb : Lx.blank s[a] = false) (h35 : s[a] ≠ 35) (hl : Left s.data.toList a I ys) (e : Int) (he : Lx.tokL (s.data.toList.drop a) = .inl e) : I = ys ++ [⟨0, ⟨#[]⟩, 0, 0, e, a⟩] := by
 obtain ⟨f, hf, ee⟩ := left_stop h hb h35 hl
 rw [ee, items_err _ _ _ (by exact h) e he]
theorem left_tok {s : ByteArray} {a : Nat} (h : a < s.size) {I ys : List Item} (hb : Lx.blank s[a] = false) (h35 : s[a] ≠ 35) (hl : Left s.data.toList a I ys) (k : Int) (m : Nat) (v : Int) (hm : 0 < m) (hml : a + m <= s.size) (ht : Lx.tokL (s.data.toList.drop a) = .inr (k, m, v)) :
 Left s.data.toList (a + m) I (ys ++ [⟨k, s.extract a (a + m), v, a, 0, 0⟩]) := by
 obtain ⟨f, hf, ee⟩ := left_stop h hb h35 hl
 have hz : (s.extract a (a + m)).size = m := by rw [ByteArray.size_extract]; omega
 have hx : s.extract a (a + m) = txt ((s.data.toList.drop a).take m) := by
  have := take_at s a (a + m)
  rw [show a + m - a = m by omega] at this
  rw [<- this]; rfl
 refine ⟨f, by show s.size < _; omega, ?_⟩
 rw [ee, items_tok f _ a (by exact h) k (s.extract a (a + m)) v (by rw [hz]; exact ht) (by rw [hz]; exact hx), hz, List.append_assoc]
 rfl
theorem comment_at (s : ByteArray) (a j : Nat) (h : a + j <= s.size) (h1 : ∀ i (hi : i < j), s[a + i]'(by omega) ≠ 10) (h2 : ∀ h : a + j < s.size, s[a + j] = 10) : Lx.commentLen (s.data.toList.drop a) = j := by
 have hlen : (s.data.toList.drop a).length = s.size - a := by rw [List.length_drop]; rfl
 unfold Lx.commentLen
 refine Lx.span_eq _ _ _ (by omega) (fun i hi hij => ?_) (fun hj => ?_)
 ·rw [List.getElem_drop]
  have := h1 i hij
  have e : s.data.toList[a + i]'(by show a + i < s.size; omega) = s[a + i]'(by omega) := rfl
  rw [e]; simpa using this
 ·rw [List.getElem_drop]
  have := h2 (by omega)
  have e : s.data.toList[a + j]'(by show a + j < s.size; omega) = s[a + j]'(by omega) := rfl
  rw [e, this]; rfl
end Go.Proofs.YtejaboajgecpaaaGreatDoor.Tok
