/- Package lex: lemmas. -/
import Derived.Test.YtejaboajgecpaaaGreatDoorQn28
import Derived.Lib.AtoiErrMem
import Derived.Lib.ParseIntB
import Derived.Lib.ParseIntBCases
import Derived.Lib.Split
import Derived.Lib.IndexAny
set_option maxHeartbeats 16000000
set_option maxRecDepth 100000
namespace Go.Proofs.YtejaboajgecpaaaGreatDoor.Tok
open Go.Lib (hid)
open Go.RowKit
theorem numberLen_minus_yes (s : ByteArray) (hs : s.size <= 9223372036854775807) (h : 1 < s.size) (h0 : s[0] = 45) (h1 : ((s[1].toNat : Int) == 48) = false) (hd1 : Lx.digB (s[1].toNat : Int) = true) (w : World) :
 Calls Tryz.prog 132 #[.string s] w fun e w' => (∃ k : Nat, e = .returned (.int .i64 k) /\ 1 <= k /\ k <= s.size /\ AllDig s 1 k /\ (∀ h : k < s.size, Lx.digU s[k] = false)) /\ w = w' := by
 have H1 := hid (show hpv s ⟨#[48]⟩ = false by rw [hpv_one s 48 (by omega), h0]; rfl)
 have H2 := hid (show hpv s ⟨#[45]⟩ = true by rw [hpv_one s 45 (by omega), h0]; rfl)
 have hne : ((1 : Int) == (s.size : Int)) = false := by rw [beq_eq_false_iff_ne]; omega
 clear h0
 go_enter Tryz.func132, Tryz.ntmps132
 go_wp2_with (first | (go_at_call 149; refine (hp_any _ _ _ (by assumption) _).mono ?_; rintro e w' ⟨rfl, rfl⟩) | (go_at_call 148; refine (digit_byte _ _).mono ?_; rintro e w' ⟨rfl, rfl⟩))
 go_loop [3] (fun n => ∃ k : Nat, 1 <= k /\ k <= s.size /\ n = .int .i64 k /\ AllDig s 1 k) (fun n => s.size - (intOf n).toNat)
 case atStart => exact ⟨1, by omega, by omega, rfl, fun j _ h3 h4 => by omega⟩
 case round =>
  obtain ⟨k, hk1, hk2, rfl, ha⟩ := hrel
  clear hd1 h1 hne
  by_cases hlt : k < s.size
  ·by_cases hw : Lx.digB (s[k].toNat : Int) = true
   ·have hnext : AllDig s 1 (k + 1) := by
     intro j hj h3 h4
     by_cases e : j = k
     ·subst e; exact hw
     ·exact ha j hj h3 (by omega)
    go_wp2_with (go_at_call 148; refine (digit_byte _ _).mono ?_; rintro e w' ⟨rfl, rfl⟩)
    go_round
    case rel => exact ⟨k + 1, by omega, by omega, by go_num, hnext⟩
    case measure => simp [intOf]; omega
   ·have hw' : Lx.digB (s[k].toNat : Int) = false := by simpa using hw
    clear hw
    go_wp2_with (go_at_call 148; refine (digit_byte _ _).mono ?_; rintro e w' ⟨rfl, rfl⟩)
    go_ret
    exact ⟨⟨k, rfl, hk1, hk2, ha, fun _ => hw'⟩, rfl⟩
  ·go_wp2
   go_ret
   exact ⟨⟨k, rfl, hk1, hk2, ha, fun h => absurd h hlt⟩, rfl⟩
theorem numberLen_plain_yes (s : ByteArray) (hs : s.size <= 9223372036854775807) (h : 0 < s.size) (h0 : s[0] ≠ 48) (h1 : s[0] ≠ 45) (hd1 : Lx.digB (s[0].toNat : Int) = true) (w : World) :
 Calls Tryz.prog 132 #[.string s] w fun e w' => (∃ k : Nat, e = .returned (.int .i64 k) /\ k <= s.size /\ AllDig s 0 k /\ (∀ h : k < s.size, Lx.digU s[k] = false)) /\ w = w' := by
 have H1 := hid (show hpv s ⟨#[48]⟩ = false by rw [hpv_one s 48 h, beq_eq_false_iff_ne]; exact h0.symm)
 have H2 := hid (show hpv s ⟨#[45]⟩ = false by rw [hpv_one s 45 h, beq_eq_false_iff_ne]; exact h1.symm)
 have hne : ((0 : Int) == (s.size : Int)) = false := by rw [beq_eq_false_iff_ne]; omega
 have hb2 : ((s[0].toNat : Int) == 48) = false := by
  rw [beq_eq_false_iff_ne]; intro e2; apply h0; apply UInt8.toNat_inj.1; have : (48 : UInt8).toNat = 48 := rfl; omega
 clear h0 h1
 go_enter Tryz.func132, Tryz.ntmps132
 go_wp2_with (first | (go_at_call 149; refine (hp_any _ _ _ (by assumption) _).mono ?_; rintro e w' ⟨rfl, rfl⟩) | (go_at_call 148; refine (digit_byte _ _).mono ?_; rintro e w' ⟨rfl, rfl⟩))
 go_loop [3] (fun n => ∃ k : Nat, k <= s.size /\ n = .int .i64 k /\ AllDig s 0 k) (fun n => s.size - (intOf n).toNat)
 case atStart => exact ⟨0, by omega, rfl, fun j _ h3 h4 => by omega⟩
 case round =>
  obtain ⟨k, hk2, rfl, ha⟩ := hrel
  clear hd1 hne hb2
  by_cases hlt : k < s.size
  ·by_cases hw : Lx.digB (s[k].toNat : Int) = true
   ·have hnext : AllDig s 0 (k + 1) := by
     intro j hj h3 h4
     by_cases e : j = k
     ·subst e; exact hw
     ·exact ha j hj h3 (by omega)
    go_wp2_with (go_at_call 148; refine (digit_byte _ _).mono ?_; rintro e w' ⟨rfl, rfl⟩)
    go_round
    case rel => exact ⟨k + 1, by omega, by go_num, hnext⟩
    case measure => simp [intOf]; omega
   ·have hw' : Lx.digB (s[k].toNat : Int) = false := by simpa using hw
    clear hw
    go_wp2_with (go_at_call 148; refine (digit_byte _ _).mono ?_; rintro e w' ⟨rfl, rfl⟩)
    go_ret
    exact ⟨⟨k, rfl, hk2, ha, fun _ => hw'⟩, rfl⟩
  ·go_wp2
   go_ret
   exact ⟨⟨k, rfl, hk2, ha, fun h => absurd h hlt⟩, rfl⟩
theorem span_of (p : UInt8 -> Bool) (s : ByteArray) (m k : Nat) (hk : m <= k) (hk2 : k <= s.size) (h1 : ∀ j (h : j < s.size), m <= j -> j < k -> p s[j] = true) (h2 : ∀ h : k < s.size, p s[k] = false) :
 m + Lx.span p (s.data.toList.drop m) = k := by
 have hl : s.data.toList.length = s.size := rfl
 have : Lx.span p (s.data.toList.drop m) = k - m := by
  refine Lx.span_eq _ _ _ (by simp; omega) (fun j h hj => ?_) (fun h => ?_)
  ·simp at h
   rw [List.getElem_drop]; exact h1 (m + j) (by omega) (by omega) (by omega)
  ·simp at h
   rw [List.getElem_drop]
   have e : m + (k - m) = k := by omega
   simp only [e]; exact h2 (by omega)
 omega
theorem numberLen_any (s : ByteArray) (hs : s.size <= maxLen) (w : World) :
 Calls Tryz.prog 132 #[.string s] w fun e w' => e = .returned (.int .i64 (Lx.numberLen s.data.toList)) /\ w = w' := by
 unfold maxLen at hs
 by_cases h : 0 < s.size
 ·have hc := data_cons s h
  have hz : s.data.toList.tail.length + 1 = s.size := by have := congrArg List.length hc; simp at this; simp; omega
  by_cases h48 : s[0] = 48
  ·refine (numberLen_zero s h h48 w).mono ?_
   rintro e w' ⟨rfl, rfl⟩
   refine ⟨ret_int ?_, rfl⟩
   rw [hc]; simp only [Lx.numberLen]; rw [if_pos h48]; rfl
  ·by_cases h45 : s[0] = 45
   ·have ht : ∀ h1 : 1 < s.size, s.data.toList.tail = s[1] :: s.data.toList.tail.tail := by
     intro h1
     have := list_cons s.data.toList.tail (by omega)
     rw [this]; congr 1; simp [ByteArray.getElem_eq_getElem_data]
    by_cases hy : ∃ h1 : 1 < s.size, s[1] ≠ 48 /\ Lx.digU s[1] = true
    ·obtain ⟨h1, hn, hd⟩ := hy
     have hb2 : ((s[1].toNat : Int) == 48) = false := by
      rw [beq_eq_false_iff_ne]; intro e2; apply hn; apply UInt8.toNat_inj.1; have : (48 : UInt8).toNat = 48 := rfl; omega
     refine (numberLen_minus_yes s (by omega) h1 h45 hb2 hd w).mono ?_
     rintro e w' ⟨⟨k, rfl, hk1, hk2, ha, hb⟩, rfl⟩
     refine ⟨ret_int ?_, rfl⟩
     have hsp := span_of Lx.digU s 1 k hk1 hk2 ha hb
     rw [List.drop_one] at hsp
     rw [hc]; simp only [Lx.numberLen]; rw [if_neg h48, if_pos h45]
     rw [ht h1] at hsp |-
     simp only
     rw [if_neg hn, if_pos hd]; omega
    ·refine (numberLen_minus_no s h h45 ?_ w).mono ?_
     ·intro h1
      by_cases e : s[1] = 48
      ·exact .inl e
      ·right
       cases hd : Lx.digU s[1] with
       | false => rfl
       | true => exact absurd ⟨h1, e, hd⟩ hy
     ·rintro e w' ⟨rfl, rfl⟩
      refine ⟨ret_int ?_, rfl⟩
      rw [hc]; simp only [Lx.numberLen]; rw [if_neg h48, if_pos h45]
      by_cases h1 : 1 < s.size
      ·rw [ht h1]; simp only
       by_cases e : s[1] = 48
       ·rw [if_pos e]; rfl
       ·rw [if_neg e, if_neg (fun hd => hy ⟨h1, e, hd⟩)]; rfl
      ·have : s.data.toList.tail = [] := List.eq_nil_of_length_eq_zero (by omega)
       rw [this]; rfl
   ·by_cases hd : Lx.digB (s[0].toNat : Int) = true
    ·refine (numberLen_plain_yes s (by omega) h h48 h45 hd w).mono ?_
     rintro e w' ⟨⟨k, rfl, hk2, ha, hb⟩, rfl⟩
     refine ⟨ret_int ?_, rfl⟩
     have hsp := span_of Lx.digU s 0 k (by omega) hk2 ha hb
     rw [List.drop_zero, Nat.zero_add, hc, Lx.span_cons, if_pos (show Lx.digU s[0] = true from hd)] at hsp
     rw [hc]; simp only [Lx.numberLen]; rw [if_neg h48, if_neg h45, if_pos (show Lx.digU s[0] = true from hd), hsp]
    ·refine (numberLen_plain_no s h h48 h45 (by simpa using hd) w).mono ?_
     rintro e w' ⟨rfl, rfl⟩
     refine ⟨ret_int ?_, rfl⟩
     rw [hc]; simp only [Lx.numberLen]; rw [if_neg h48, if_neg h45, if_neg (show ¬ Lx.digU s[0] = true from hd)]; rfl
 ·have h0 := toList_nil s (by omega)
  refine (numberLen_none s (by omega) w).mono ?_
  rintro e w' ⟨rfl, rfl⟩
  rw [Lib.toList_data] at h0
  refine ⟨ret_int ?_, rfl⟩
  rw [h0]; rfl
theorem commentLen_at (s : ByteArray) (j : Nat) (w : World) :
 Calls Tryz.prog 130 #[.string (s.extract j s.size)] w fun e w' => e = .returned (.int .i64 (Lx.commentLen (s.data.toList.drop j))) /\ w = w' := by
 have := commentLen_any (s.extract j s.size) w
 rw [Lib.extract_to_end] at this; exact this
def SkipAt (s : ByteArray) (a j : Nat) : Prop := j + Lx.skipG false (s.data.toList.drop j) = a + Lx.skipG false (s.data.toList.drop a)
theorem drop_at (s : ByteArray) (j : Nat) (h : j < s.size) : s.data.toList.drop j = s[j] :: s.data.toList.drop (j + 1) :=
 List.drop_eq_getElem_cons (by have hl : s.data.toList.length = s.size := rfl; omega)
theorem drop_end (s : ByteArray) : s.data.toList.drop s.size = [] := List.drop_eq_nil_of_le (by have hl : s.data.toList.length = s.size := rfl; omega)
theorem skip_any (s : ByteArray) (hs : s.size <= 9223372036854775807) (a : Nat) (ha : a <= s.size) (w : World) :
 Calls Tryz.prog 106 #[.string s, .int .i64 a] w fun e w' => e = .returned (.int .i64 (a + Lx.skipG false (s.data.toList.drop a) : Nat)) /\ w = w' := by
 have hll : s.data.toList.length = s.size := rfl
 go_enter Tryz.func106, Tryz.ntmps106
 go_wp2_with fail
 go_loop [1] (fun n => ∃ k : Nat, k <= s.size /\ n = .int .i64 k /\ SkipAt s a k) (fun n => s.size - (intOf n).toNat)
 case atStart => exact ⟨a, ha, rfl, rfl⟩
 case round =>
  obtain ⟨k, hk, rfl, hr⟩ := hrel
  by_cases hlt : k < s.size
  ·have hd := drop_at s k hlt
   by_cases hb : Lx.blank s[k] = true
   ·have hib : 0 <= ibv ⟨#[32, 9, 10, 13]⟩ (s[k].toNat : Int) := by rw [blank_ib] at hb; simpa using hb
    have hnext : SkipAt s a (k + 1) := by
     unfold SkipAt at hr |-; rw [<- hr, hd, Lx.skipG_blank _ _ hb]; omega
    clear hb hd hll
    go_wp2_with (go_at_call 129; refine (ib_any _ _ _).mono ?_; rintro e w' ⟨rfl, rfl⟩)
    go_round
    case rel => exact ⟨k + 1, by omega, by go_num, hnext⟩
    case measure => simp [intOf]; omega
   ·have hib : ibv ⟨#[32, 9, 10, 13]⟩ (s[k].toNat : Int) < 0 := by rw [blank_ib] at hb; simpa using hb
    have hb' : Lx.blank s[k] = false := by simpa using hb
    clear hb
    by_cases h35 : s[k] = 35
    ·have h35b : ((s[k].toNat : Int) == 35) = true := by rw [h35]; rfl
     have hc1 : 1 <= Lx.commentLen (s.data.toList.drop k) := by rw [hd, h35]; exact Lx.commentLen_hash _
     have hc2 : k + Lx.commentLen (s.data.toList.drop k) <= s.size := by have := Lx.commentLen_le (s.data.toList.drop k); rw [List.length_drop] at this; omega
     have hnext : SkipAt s a (k + Lx.commentLen (s.data.toList.drop k)) := by
      unfold SkipAt at hr |-; rw [<- hr, <- List.drop_drop, hd, h35, Lx.skipG_hash]; omega
     clear h35 hd hb' hll
     generalize hcc : Lx.commentLen (s.data.toList.drop k) = cl at *
     have HC := hid hcc
     clear hcc
     go_wp2_with (first | (go_at_call 129; refine (ib_any _ _ _).mono ?_; rintro e w' ⟨rfl, rfl⟩) | (go_at_call 130; refine (commentLen_at _ _ _).mono ?_; rintro e w' ⟨rfl, rfl⟩; rw [HC.out]))
     go_round
     case rel => exact ⟨k + cl, by omega, by go_num, hnext⟩
     case measure => simp [intOf]; omega
    ·have h35b : ((s[k].toNat : Int) == 35) = false := by
      rw [beq_eq_false_iff_ne]; intro e2; apply h35; apply UInt8.toNat_inj.1; have : (35 : UInt8).toNat = 35 := rfl; omega
     have hres : k = a + Lx.skipG false (s.data.toList.drop a) := by
      unfold SkipAt at hr; rw [<- hr, hd, Lx.skipG_stop _ _ hb' h35]; omega
     have HR := hid hres
     clear hres h35 hd hb' hll
     go_wp2_with (go_at_call 129; refine (ib_any _ _ _).mono ?_; rintro e w' ⟨rfl, rfl⟩)
     go_ret
     exact ⟨ret_int (by have := HR.out; omega), rfl⟩
  ·obtain rfl : k = s.size := by omega
   have hres : s.size = a + Lx.skipG false (s.data.toList.drop a) := by
    unfold SkipAt at hr; rw [<- hr, drop_end, Lx.skipG_nil]; omega
   have HR := hid hres
   clear hres hll
   go_wp2
   go_ret
   exact ⟨ret_int (by have := HR.out; omega), rfl⟩
theorem bcell {W w1 : World} (hb : Below W.heap.size W w1) : (∀ b o, b < W.heap.size -> w1.cell? ⟨b, o, none⟩ = W.cell? ⟨b, o, none⟩) /\ (∀ b o, b < W.heap.size -> w1.frozen? ⟨b, o, none⟩ = W.frozen? ⟨b, o, none⟩) :=
 ⟨fun b o h => hb.cell (p := ⟨b, o, none⟩) h, fun b o h => hb.frozen (p := ⟨b, o, none⟩) h⟩
theorem pi_ok (s : ByteArray) (hmax : s.size <= 9223372036854775806) (v : Int) (h : Lib.parseIntB 64 s.data.toList = .ok v) (w : World) :
 Calls Tryz.prog 150 #[.string s, .int .i64 10, .int .i64 64] w fun e w' => e = .returned (.tuple #[.int .i64 v, .nilIface]) /\ Below w.heap.size w w' :=
 (Tryz.strconv_ParseInt_10_at64_ok s hmax v h w).mono fun _ _ ⟨h1, h2⟩ => ⟨h1, by
  rcases h2 with rfl | ⟨t, rfl⟩
  ·exact Below.refl _ _
  ·exact Lib.bytesWorld_below _ _ _⟩
theorem pi_range (s : ByteArray) (hlim : s.size <= 281474976710656) (h : Lib.parseIntB 64 s.data.toList = .range) (tp : TypeId) (p : Value) (w : World) (hvar : w.var? Tryz.prog "strconv.ErrRange" = some #[.iface tp p]) :
 Calls Tryz.prog 150 #[.string s, .int .i64 10, .int .i64 64] w fun e w' => ∃ (v : Int) (t : TypeId) (q : Value), e = .returned (.tuple #[.int .i64 v, .iface t q]) /\ Below w.heap.size w w' :=
 (Tryz.strconv_ParseInt_10_at64_range_var s hlim h tp p w hvar).mono fun _ _ ⟨_, h1, _, _, h4⟩ => ⟨_, _, _, h1, h4⟩
structure Env (B : Nat) (w : World) : Prop where
 range : ∃ (tp : TypeId) (p : Value), w.var? Tryz.prog "strconv.ErrRange" = some #[.iface tp p]
 words : w.var? Tryz.prog "duologue/lex.keywords" = some #[.string ⟨#[100, 101, 102]⟩, .string ⟨#[109, 97, 105, 110]⟩, .string ⟨#[115, 116, 111, 112]⟩, .string ⟨#[110, 101, 119]⟩, .string ⟨#[105, 110, 116]⟩, .string ⟨#[98, 111, 111, 108]⟩, .string ⟨#[101, 110, 100]⟩, .string ⟨#[114, 101, 99]⟩, .string ⟨#[116, 114, 117, 101]⟩, .string ⟨#[102, 97, 108, 115, 101]⟩]
 above : 3 < B /\ 0 < B
 size : B <= w.heap.size
theorem gRange : Tryz.prog.globalNamed "strconv.ErrRange" = some 3 := by kernel_rfl
theorem gWords : Tryz.prog.globalNamed "duologue/lex.keywords" = some 0 := by kernel_rfl
theorem Env.below {B : Nat} {w w' : World} (h : Env B w) (hb : Below B w w') : Env B w' := by
 obtain ⟨tp, p, hr⟩ := h.range
 exact ⟨⟨tp, p, var?_below hb gRange h.above.1 hr⟩, var?_below hb gWords h.above.2 h.words, h.above, Nat.le_trans h.size hb.size⟩
theorem Env.to {B : Nat} {w w' : World} (h : Env B w) (hb : Below w.heap.size w w') : Env B w' := h.below (hb.mono h.size)
theorem number_ok (s : ByteArray) (hmax : s.size <= 9223372036854775806) (v : Int) (h : Lib.parseIntB 64 s.data.toList = .ok v) (a : Int) (w : World) :
 Calls Tryz.prog 133 #[.string s, .int .i64 a] w fun e w' => e = .returned (.tuple #[.agg #[.int .i64 2, .string s, .int .i64 v, .int .i64 a], .int .i64 0]) /\ Below w.heap.size w w' := by
 have H := hid h
 clear h
 go_enter Tryz.func133, Tryz.ntmps133
 go_wp2_with (go_at_call 150; refine (pi_ok _ hmax _ H.out _).mono ?_; rintro e w1 ⟨rfl, hb⟩; obtain ⟨hc, hf⟩ := bcell hb)
 refine bodyPost_ret (v := .tuple #[.agg #[.int .i64 2, .string s, .int .i64 v, .int .i64 a], .int .i64 0]) (by simp [results, Tryz.results133, go_sem, hc]) rfl ⟨rfl, ?_⟩
 have h0 : Below w.heap.size w w1 := ((Below.refl _ _).alloc (Nat.le_refl _) _).trans (hb.mono (by simp))
 exact (((h0.setCell (Nat.le_refl _) _).setCell (Nat.le_refl _) _).setCell (Nat.le_refl _) _).setCell (Nat.le_refl _) _
theorem number_range (s : ByteArray) (hmax : s.size <= 281474976710656) (h : Lib.parseIntB 64 s.data.toList = .range) (a : Int) (B : Nat) (w : World) (he : Env B w) :
 Calls Tryz.prog 133 #[.string s, .int .i64 a] w fun e w' => e = .returned (.tuple #[.agg #[.int .i64 0, .string ⟨#[]⟩, .int .i64 0, .int .i64 0], .int .i64 2]) /\ Below w.heap.size w w' := by
 have H := hid h
 clear h
 have he' : Env B (w.alloc (.cells #[.int .i64 0, .string ⟨#[]⟩, .int .i64 0, .int .i64 0] 99)) := he.to ((Below.refl _ _).alloc (Nat.le_refl _) _)
 obtain ⟨tp, p, hv⟩ := he'.range
 have HV := hid hv
 clear hv he' he
 go_enter Tryz.func133, Tryz.ntmps133
 go_wp2_with (go_at_call 150; refine (pi_range _ hmax H.out tp p _ HV.out).mono ?_; rintro e w1 ⟨v, t, q, rfl, hb⟩; obtain ⟨hc, hf⟩ := bcell hb)
 refine bodyPost_ret (v := .tuple #[.agg #[.int .i64 0, .string ⟨#[]⟩, .int .i64 0, .int .i64 0], .int .i64 2]) (by simp [results, Tryz.results133, go_sem, hc]) rfl ⟨rfl, ?_⟩
 have h0 : Below w.heap.size w w1 := ((Below.refl _ _).alloc (Nat.le_refl _) _).trans (hb.mono (by simp))
 exact (((h0.setCell (Nat.le_refl _) _).setCell (Nat.le_refl _) _).setCell (Nat.le_refl _) _).setCell (Nat.le_refl _) _
end Go.Proofs.YtejaboajgecpaaaGreatDoor.Tok
namespace Go.Proofs.YtejaboajgecpaaaGreatDoor.Lx
def signs : List UInt8 := [33, 63, 46, 40, 41, 123, 125, 60, 62, 44, 58, 59, 124, 38, 43, 61]
def isSign (c : UInt8) : Bool := signs.contains c
def tokL (l : List UInt8) : Sum Int (Int × Nat × Int) :=
 if 0 < wordLen l then .inr (1, wordLen l, 0)
 else if 0 < numberLen l then
  match Lib.parseIntB 64 (l.take (numberLen l)) with
  | .ok v => .inr (2, numberLen l, v)
  | _ => .inl 2
 else match l with
  | [] => .inl 1
  | c :: _ => if isSign c then .inr (3, 1, 0) else .inl 1
theorem tokL_word {l : List UInt8} (h : 0 < wordLen l) : tokL l = .inr (1, wordLen l, 0) := by unfold tokL; rw [if_pos h]
theorem tokL_number {l : List UInt8} {v : Int} (h : ¬ 0 < wordLen l) (h2 : 0 < numberLen l) (hv : Lib.parseIntB 64 (l.take (numberLen l)) = .ok v) : tokL l = .inr (2, numberLen l, v) := by
 unfold tokL; rw [if_neg h, if_pos h2, hv]
theorem tokL_range {l : List UInt8} (h : ¬ 0 < wordLen l) (h2 : 0 < numberLen l) (hv : Lib.parseIntB 64 (l.take (numberLen l)) = .range) : tokL l = .inl 2 := by
 unfold tokL; rw [if_neg h, if_pos h2, hv]
theorem tokL_sign {c : UInt8} {r : List UInt8} (h : ¬ 0 < wordLen (c :: r)) (h2 : ¬ 0 < numberLen (c :: r)) (hv : isSign c = true) : tokL (c :: r) = .inr (3, 1, 0) := by
 unfold tokL; rw [if_neg h, if_neg h2]; simp only; rw [if_pos hv]
theorem tokL_none {c : UInt8} {r : List UInt8} (h : ¬ 0 < wordLen (c :: r)) (h2 : ¬ 0 < numberLen (c :: r)) (hv : ¬ isSign c = true) : tokL (c :: r) = .inl 1 := by
 unfold tokL; rw [if_neg h, if_neg h2]; simp only; rw [if_neg hv]
theorem wordLen_le (l : List UInt8) : wordLen l <= l.length := by
 cases l with
 | nil => simp [wordLen]
 | cons c r => simp only [wordLen]; have := span_le wcU r; split <;> simp <;> omega
theorem numberLen_le (l : List UInt8) : numberLen l <= l.length := by
 cases l with
 | nil => simp [numberLen]
 | cons c r =>
  have h1 := span_le digU r
  simp only [numberLen]
  split
  ·simp
  ·split
   ·cases r with
    | nil => simp
    | cons d r' => simp only; split <;> (try split) <;> simp at h1 |- <;> omega
   ·split <;> simp <;> omega
def Num {α : Type} (e : Lib.NumEnd α) : Prop := (∃ u, e = .ok u) \/ e = .range
theorem parse_digits (M : Nat) : ∀ (l : List UInt8) (acc : Nat), (∀ c ∈ l, digU c = true) -> Num (Lib.parseUintM M acc l)
 | [], acc, _ => .inl ⟨acc, rfl⟩
 | c :: r, acc, h => by
  have hc := h c (by simp)
  have hd : 48 <= c.toNat /\ c.toNat <= 57 := by simp [digU, digB] at hc; omega
  simp only [Lib.parseUintM, if_pos hd]
  split
  ·exact .inr rfl
  ·split
   ·exact .inr rfl
   ·exact parse_digits M r _ (fun d hd => h d (by simp [hd]))
theorem take_span (p : UInt8 -> Bool) : ∀ (l : List UInt8), ∀ c ∈ l.take (span p l), p c = true
 | [] => by simp [span_nil]
 | d :: r => by
  rw [span_cons]
  by_cases h : p d = true
  ·rw [if_pos h, Nat.add_comm 1, List.take_succ_cons]
   intro c hc
   rcases List.mem_cons.1 hc with rfl | hc
   ·exact h
   ·exact take_span p r c hc
  ·rw [if_neg h]; simp
theorem signlessC_num {M : Nat} {e : Lib.NumEnd Nat} (h : Num e) : Num (Lib.signlessC M e) := by
 rcases h with ⟨u, rfl⟩ | rfl
 ·simp only [Lib.signlessC]; split
  ·exact .inr rfl
  ·exact .inl ⟨_, rfl⟩
 ·exact .inr rfl
theorem signedC_num {M : Nat} {e : Lib.NumEnd Nat} (h : Num e) : Num (Lib.signedC M e) := by
 rcases h with ⟨u, rfl⟩ | rfl
 ·simp only [Lib.signedC]; split
  ·exact .inr rfl
  ·exact .inl ⟨_, rfl⟩
 ·exact .inr rfl
theorem parseUintB_num (B : Nat) (l : List UInt8) (h0 : l ≠ []) (h : ∀ c ∈ l, digU c = true) : Num (Lib.parseUintB B l) := by
 unfold Lib.parseUintB; rw [if_neg h0]; exact parse_digits _ _ _ h
theorem plain_of_dig {c : UInt8} (h : digU c = true) : c.toNat ≠ 43 /\ c.toNat ≠ 45 := by
 simp [digU, digB] at h; omega
theorem numberLen_num (l : List UInt8) (h : 0 < numberLen l) : Num (Lib.parseIntB 64 (l.take (numberLen l))) := by
 cases l with
 | nil => simp [numberLen] at h
 | cons c r =>
  simp only [numberLen] at h |-
  by_cases h48 : c = 48
  ·subst h48; left; exact ⟨0, by rw [if_pos rfl]; rfl⟩
  ·rw [if_neg h48] at h |-
   by_cases h45 : c = 45
   ·subst h45
    rw [if_pos rfl] at h |-
    cases r with
    | nil => simp at h
    | cons d r' =>
     simp only at h |-
     by_cases hd48 : d = 48
     ·rw [if_pos hd48] at h; exact absurd h (by decide)
     ·rw [if_neg hd48] at h |-
      by_cases hd : digU d = true
      ·rw [if_pos hd] at h |-
       rw [Nat.add_comm 1, List.take_succ_cons, Lib.parseIntB_minus]
       refine signedC_num (parseUintB_num _ _ ?_ (take_span _ _))
       rw [span_cons, if_pos hd, Nat.add_comm 1, List.take_succ_cons]; simp
      ·rw [if_neg hd] at h; exact absurd h (by decide)
   ·rw [if_neg h45] at h |-
    by_cases hd : digU c = true
    ·rw [if_pos hd] at h |-
     rw [Nat.add_comm 1, List.take_succ_cons, Lib.parseIntB_plain _ _ _ (plain_of_dig hd).1 (plain_of_dig hd).2]
     refine signlessC_num (parseUintB_num _ _ (by simp) ?_)
     intro x hx
     rcases List.mem_cons.1 hx with rfl | hx
     ·exact hd
     ·exact take_span _ _ x hx
    ·rw [if_neg hd] at h; exact absurd h (by decide)
end Go.Proofs.YtejaboajgecpaaaGreatDoor.Lx
namespace Go.Proofs.YtejaboajgecpaaaGreatDoor.Tok
open Go.Lib (hid)
open Go.RowKit
theorem wordLen_at (s : ByteArray) (hs : s.size <= 9223372036854775807) (j : Nat) (n : Nat) (h : Hid (Lx.wordLen (s.data.toList.drop j) = n)) (w : World) :
 Calls Tryz.prog 131 #[.string (s.extract j s.size)] w fun e w' => e = .returned (.int .i64 n) /\ w = w' := by
 have := wordLen_any (s.extract j s.size) (by unfold maxLen; rw [ByteArray.size_extract]; omega) w
 rw [Lib.extract_to_end, h.out] at this; exact this
theorem numberLen_at (s : ByteArray) (hs : s.size <= 9223372036854775807) (j : Nat) (n : Nat) (h : Hid (Lx.numberLen (s.data.toList.drop j) = n)) (w : World) :
 Calls Tryz.prog 132 #[.string (s.extract j s.size)] w fun e w' => e = .returned (.int .i64 n) /\ w = w' := by
 have := numberLen_any (s.extract j s.size) (by unfold maxLen; rw [ByteArray.size_extract]; omega) w
 rw [Lib.extract_to_end, h.out] at this; exact this
theorem blkBelow (w : World) (cs : Array Value) (t : TypeId) : Below w.heap.size w (w.alloc (.cells cs t)) := (Below.refl _ _).alloc (Nat.le_refl _) _
theorem tokenAt_word (s : ByteArray) (hs : s.size <= 9223372036854775807) (a : Nat) (ha : a < s.size) (n : Nat) (h : Lx.wordLen (s.data.toList.drop a) = n) (h0 : 0 < n) (h1 : a + n <= s.size) (w : World) :
 Calls Tryz.prog 107 #[.string s, .int .i64 a] w fun e w' => e = .returned (.tuple #[.agg #[.int .i64 1, .string ((s.extract a s.size).extract 0 n), .int .i64 0, .int .i64 a], .int .i64 0]) /\ Below w.heap.size w w' := by
 have H := hid h
 clear h
 go_enter Tryz.func107, Tryz.ntmps107
 go_wp2_with (go_at_call 131; refine (wordLen_at s hs a _ H _).mono ?_; rintro e w1 ⟨rfl, rfl⟩)
 refine bodyPost_ret (v := .tuple #[.agg #[.int .i64 1, .string ((s.extract a s.size).extract 0 n), .int .i64 0, .int .i64 a], .int .i64 0]) (by simp [results, Tryz.results107, go_sem]) rfl ⟨rfl, ?_⟩
 exact blkBelow w _ _
theorem tokenAt_number (s : ByteArray) (hs : s.size <= 9223372036854775806) (a : Nat) (ha : a < s.size) (n : Nat) (h : Lx.wordLen (s.data.toList.drop a) = 0) (h2 : Lx.numberLen (s.data.toList.drop a) = n) (h0 : 0 < n) (h1 : a + n <= s.size) (v : Int)
 (hv : Lib.parseIntB 64 ((s.extract a s.size).extract 0 n).data.toList = .ok v) (w : World) :
 Calls Tryz.prog 107 #[.string s, .int .i64 a] w fun e w' => e = .returned (.tuple #[.agg #[.int .i64 2, .string ((s.extract a s.size).extract 0 n), .int .i64 v, .int .i64 a], .int .i64 0]) /\ Below w.heap.size w w' := by
 have H := hid h
 have H2 := hid h2
 have HV := hid hv
 have hz : ((s.extract a s.size).extract 0 n).size <= 9223372036854775806 := by rw [ByteArray.size_extract, ByteArray.size_extract]; omega
 have HZ := hid hz
 have hs' : s.size <= 9223372036854775807 := by omega
 clear h h2 hv hz
 go_enter Tryz.func107, Tryz.ntmps107
 go_wp2_with (first | (go_at_call 131; refine (wordLen_at s hs' a _ H _).mono ?_; rintro e w1 ⟨rfl, rfl⟩) | (go_at_call 132; refine (numberLen_at s hs' a _ H2 _).mono ?_; rintro e w1 ⟨rfl, rfl⟩) | (go_at_call 133; refine (number_ok _ HZ.out v HV.out _ _).mono ?_; rintro e w1 ⟨rfl, hb⟩; obtain ⟨hc, hf⟩ := bcell hb))
 refine bodyPost_ret (v := .tuple #[.agg #[.int .i64 2, .string ((s.extract a s.size).extract 0 n), .int .i64 v, .int .i64 a], .int .i64 0]) (by simp [results, Tryz.results107, go_sem, hc]) rfl ⟨rfl, ?_⟩
 have h0 : Below w.heap.size w w1 := (blkBelow w _ _).trans (hb.mono (by simp))
 exact (((h0.setCell (Nat.le_refl _) _).setCell (Nat.le_refl _) _).setCell (Nat.le_refl _) _).setCell (Nat.le_refl _) _
theorem tokenAt_range (s : ByteArray) (hs : s.size <= 281474976710656) (a : Nat) (ha : a < s.size) (n : Nat) (h : Lx.wordLen (s.data.toList.drop a) = 0) (h2 : Lx.numberLen (s.data.toList.drop a) = n) (h0 : 0 < n) (h1 : a + n <= s.size)
 (hv : Lib.parseIntB 64 ((s.extract a s.size).extract 0 n).data.toList = .range) (B : Nat) (w : World) (he : Env B w) :
 Calls Tryz.prog 107 #[.string s, .int .i64 a] w fun e w' => e = .returned (.tuple #[.agg #[.int .i64 0, .string ⟨#[]⟩, .int .i64 0, .int .i64 0], .int .i64 2]) /\ Below w.heap.size w w' := by
 have H := hid h
 have H2 := hid h2
 have HV := hid hv
 have hz : ((s.extract a s.size).extract 0 n).size <= 281474976710656 := by rw [ByteArray.size_extract, ByteArray.size_extract]; omega
 have HZ := hid hz
 have hs' : s.size <= 9223372036854775807 := by omega
 have HE := hid (he.to (blkBelow w #[.int .i64 0, .string ⟨#[]⟩, .int .i64 0, .int .i64 0] 99))
 clear h h2 hv hz he
 go_enter Tryz.func107, Tryz.ntmps107
 go_wp2_with (first | (go_at_call 131; refine (wordLen_at s hs' a _ H _).mono ?_; rintro e w1 ⟨rfl, rfl⟩) | (go_at_call 132; refine (numberLen_at s hs' a _ H2 _).mono ?_; rintro e w1 ⟨rfl, rfl⟩) | (go_at_call 133; refine (number_range _ HZ.out HV.out _ B _ HE.out).mono ?_; rintro e w1 ⟨rfl, hb⟩; obtain ⟨hc, hf⟩ := bcell hb))
 refine bodyPost_ret (v := .tuple #[.agg #[.int .i64 0, .string ⟨#[]⟩, .int .i64 0, .int .i64 0], .int .i64 2]) (by simp [results, Tryz.results107, go_sem, hc]) rfl ⟨rfl, ?_⟩
 have h0 : Below w.heap.size w w1 := (blkBelow w _ _).trans (hb.mono (by simp))
 exact (((h0.setCell (Nat.le_refl _) _).setCell (Nat.le_refl _) _).setCell (Nat.le_refl _) _).setCell (Nat.le_refl _) _
theorem first_at (s : ByteArray) (a : Nat) (ha : a < s.size) (h0 : 0 < (s.extract a s.size).size) : (s.extract a s.size)[0] = s[a] := by
 simp [ByteArray.getElem_eq_getElem_data]
theorem tokenAt_sign (s : ByteArray) (hs : s.size <= 9223372036854775807) (a : Nat) (ha : a < s.size) (h : Lx.wordLen (s.data.toList.drop a) = 0) (h2 : Lx.numberLen (s.data.toList.drop a) = 0)
 (hv : 0 <= ibv ⟨#[33, 63, 46, 40, 41, 123, 125, 60, 62, 44, 58, 59, 124, 38, 43, 61]⟩ (s[a].toNat : Int)) (w : World) :
 Calls Tryz.prog 107 #[.string s, .int .i64 a] w fun e w' => e = .returned (.tuple #[.agg #[.int .i64 3, .string ((s.extract a s.size).extract 0 1), .int .i64 0, .int .i64 a], .int .i64 0]) /\ Below w.heap.size w w' := by
 have H := hid h
 have H2 := hid h2
 have hsz : 0 < s.size - a := by omega
 have hsz2 : 0 < (s.extract a s.size).size := by rw [ByteArray.size_extract]; omega
 have H3 := hid (first_at s a ha hsz2)
 clear h h2
 go_enter Tryz.func107, Tryz.ntmps107
 go_wp2_with (first | (go_at_call 131; refine (wordLen_at s hs a _ H _).mono ?_; rintro e w1 ⟨rfl, rfl⟩) | (go_at_call 132; refine (numberLen_at s hs a _ H2 _).mono ?_; rintro e w1 ⟨rfl, rfl⟩) | (go_at_call 129; rw [H3.out]; refine (ib_any _ _ _).mono ?_; rintro e w1 ⟨rfl, rfl⟩))
 refine bodyPost_ret (v := .tuple #[.agg #[.int .i64 3, .string ((s.extract a s.size).extract 0 1), .int .i64 0, .int .i64 a], .int .i64 0]) (by simp [results, Tryz.results107, go_sem]) rfl ⟨rfl, ?_⟩
 exact blkBelow w _ _
theorem tokenAt_none (s : ByteArray) (hs : s.size <= 9223372036854775807) (a : Nat) (ha : a < s.size) (h : Lx.wordLen (s.data.toList.drop a) = 0) (h2 : Lx.numberLen (s.data.toList.drop a) = 0)
 (hv : ibv ⟨#[33, 63, 46, 40, 41, 123, 125, 60, 62, 44, 58, 59, 124, 38, 43, 61]⟩ (s[a].toNat : Int) < 0) (w : World) :
 Calls Tryz.prog 107 #[.string s, .int .i64 a] w fun e w' => e = .returned (.tuple #[.agg #[.int .i64 0, .string ⟨#[]⟩, .int .i64 0, .int .i64 0], .int .i64 1]) /\ Below w.heap.size w w' := by
 have H := hid h
 have H2 := hid h2
 have hsz : 0 < s.size - a := by omega
 have hsz2 : 0 < (s.extract a s.size).size := by rw [ByteArray.size_extract]; omega
 have H3 := hid (first_at s a ha hsz2)
 clear h h2
 go_enter Tryz.func107, Tryz.ntmps107
 go_wp2_with (first | (go_at_call 131; refine (wordLen_at s hs a _ H _).mono ?_; rintro e w1 ⟨rfl, rfl⟩) | (go_at_call 132; refine (numberLen_at s hs a _ H2 _).mono ?_; rintro e w1 ⟨rfl, rfl⟩) | (go_at_call 129; rw [H3.out]; refine (ib_any _ _ _).mono ?_; rintro e w1 ⟨rfl, rfl⟩))
 refine bodyPost_ret (v := .tuple #[.agg #[.int .i64 0, .string ⟨#[]⟩, .int .i64 0, .int .i64 0], .int .i64 1]) (by simp [results, Tryz.results107, go_sem]) rfl ⟨rfl, ?_⟩
 exact blkBelow w _ _
def txt (l : List UInt8) : ByteArray := ⟨l.toArray⟩
theorem extract_txt (s : ByteArray) (a n : Nat) : (s.extract a s.size).extract 0 n = txt ((s.data.toList.drop a).take n) := by
 apply ByteArray.ext
 apply Array.toList_inj.1
 unfold txt
 rw [Lib.extract_from_zero, Lib.extract_to_end]
theorem txt_data (l : List UInt8) : (txt l).data.toList = l := rfl
theorem sign_ib (c : UInt8) : Lx.isSign c = decide (0 <= ibv ⟨#[33, 63, 46, 40, 41, 123, 125, 60, 62, 44, 58, 59, 124, 38, 43, 61]⟩ (c.toNat : Int)) := by
 unfold ibv; rw [byte_self]; exact Lib.contains_iff_indexByte _ _
def tokV (k : Int) (l : List UInt8) (v : Int) (a : Nat) : Value := .agg #[.int .i64 k, .string (txt l), .int .i64 v, .int .i64 a]
def zeroTok : Value := .agg #[.int .i64 0, .string ⟨#[]⟩, .int .i64 0, .int .i64 0]
def tokR (l : List UInt8) (a : Nat) : Sum Int (Int × Nat × Int) -> Value × Value
 | .inl e => (zeroTok, .int .i64 e)
 | .inr (k, n, v) => (tokV k (l.take n) v a, .int .i64 0)
theorem tokenAt_any (s : ByteArray) (hs : s.size <= 281474976710656) (a : Nat) (ha : a < s.size) (B : Nat) (w : World) (he : Env B w) :
 Calls Tryz.prog 107 #[.string s, .int .i64 a] w fun e w' =>
  e = .returned (.tuple #[(tokR (s.data.toList.drop a) a (Lx.tokL (s.data.toList.drop a))).1, (tokR (s.data.toList.drop a) a (Lx.tokL (s.data.toList.drop a))).2]) /\ Below w.heap.size w w' := by
 have hl : (s.data.toList.drop a).length = s.size - a := by rw [List.length_drop]; rfl
 have h1 := Lx.wordLen_le (s.data.toList.drop a)
 have h2 := Lx.numberLen_le (s.data.toList.drop a)
 by_cases hw : 0 < Lx.wordLen (s.data.toList.drop a)
 ·refine (tokenAt_word s (by omega) a ha _ rfl hw (by omega) w).mono ?_
  rintro e w' ⟨rfl, hb⟩
  refine ⟨?_, hb⟩
  rw [Lx.tokL_word hw, extract_txt]; rfl
 ·have hw0 : Lx.wordLen (s.data.toList.drop a) = 0 := by omega
  by_cases hn : 0 < Lx.numberLen (s.data.toList.drop a)
  ·have hnum := Lx.numberLen_num _ hn
   rcases hnum with ⟨v, hv⟩ | hr
   ·refine (tokenAt_number s (by omega) a ha _ hw0 rfl hn (by omega) v (by rw [extract_txt, txt_data]; exact hv) w).mono ?_
    rintro e w' ⟨rfl, hb⟩
    refine ⟨?_, hb⟩
    rw [Lx.tokL_number hw hn hv, extract_txt]; rfl
   ·refine (tokenAt_range s hs a ha _ hw0 rfl hn (by omega) (by rw [extract_txt, txt_data]; exact hr) B w he).mono ?_
    rintro e w' ⟨rfl, hb⟩
    refine ⟨?_, hb⟩
    rw [Lx.tokL_range hw hn hr]; rfl
  ·have hn0 : Lx.numberLen (s.data.toList.drop a) = 0 := by omega
   by_cases hg : Lx.isSign s[a] = true
   ·have hg' := hg
    rw [sign_ib, decide_eq_true_eq] at hg'
    refine (tokenAt_sign s (by omega) a ha hw0 hn0 hg' w).mono ?_
    rintro e w' ⟨rfl, hb⟩
    refine ⟨?_, hb⟩
    have hd := drop_at s a ha
    rw [extract_txt]
    rw [hd] at hw hn |-
    rw [Lx.tokL_sign hw hn hg]; rfl
   ·have hg' := hg
    rw [sign_ib, decide_eq_true_eq] at hg'
    refine (tokenAt_none s (by omega) a ha hw0 hn0 (by omega) w).mono ?_
    rintro e w' ⟨rfl, hb⟩
    refine ⟨?_, hb⟩
    have hd := drop_at s a ha
    rw [hd] at hw hn |-
    rw [Lx.tokL_none hw hn hg]; rfl
end Go.Proofs.YtejaboajgecpaaaGreatDoor.Tok
