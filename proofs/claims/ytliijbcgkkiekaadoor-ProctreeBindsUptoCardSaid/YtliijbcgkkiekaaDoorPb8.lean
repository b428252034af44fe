/- Processes: lists of values compared, by the program. (and what follows from it) -/
import Derived.Test.YtliijbcgkkiekaaDoorPb3
import Derived.Test.YtliijbcgkkiekaaDoorPb2
import Derived.Test.YtliijbcgkkiekaaDoorPb7
import Derived.Lib.Strings
import Derived.Lib.IndexBytes
import Derived.Laws.Rows

/- Processes: lists of values compared, by the program. -/
namespace Go.Proofs.YtliijbcgkkiekaaDoor
open Go.RowKit

noncomputable def eqV (vs vs' : List Vl) : Bool := @decide (vs = vs') (Classical.propDecidable _)
theorem eqV_true {t u : List Vl} : eqV t u = true ↔ t = u := by unfold eqV; simp
theorem eqV_ne {t u : List Vl} (h : t ≠ u) : eqV t u = false := by
  cases e : eqV t u with
  | false => rfl
  | true => exact absurd (eqV_true.1 e) h

set_option maxHeartbeats 1000000 in
/-- slices.Equal, at lists of values. -/
theorem vequal_any (B : Nat → Prop) (v v' : Value) (ls ls' : List Vl) (w : World) (h : VlSl B w v ls) (h' : VlSl B w v' ls') :
    Calls Tryd.prog 97 #[v, v'] w fun e w' => e = .returned (.bool (eqV ls ls')) ∧ Drew w w' := by
  obtain ⟨pa, len, c, rfl, hlen, hm, hget⟩ := h.open
  obtain ⟨pa', len', c', rfl, hlen', hm', hget'⟩ := h'.open
  have HG := Lib.hid hget
  have HG' := Lib.hid hget'
  clear hget hget' h h'
  by_cases hl : len = len'
  · subst hl
    go_enter Tryd.func97, Tryd.ntmps97
    go_wp2_with fail
    go_loopw [13] (fun i wr => ∃ (j : Nat), i = .int .i64 j ∧ j ≤ len ∧ Hid (ls.take j = ls'.take j) ∧ Drew w wr) (fun i _ => len - (intOf i).toNat)
    case atStart => exact ⟨0, rfl, by omega, Lib.hid (by simp), Drew.refl _⟩
    case round =>
      obtain ⟨j, rfl, hj, HT, hd⟩ := hrel
      by_cases hlt : j < len
      · obtain ⟨s, hs⟩ : ∃ s, ls[j]? = some s := ⟨_, List.getElem?_eq_getElem (by rw [← hlen.out]; exact hlt)⟩
        obtain ⟨s', hs'⟩ : ∃ s', ls'[j]? = some s' := ⟨_, List.getElem?_eq_getElem (by rw [← hlen'.out]; exact hlt)⟩
        obtain ⟨_, kb, ko, rfl, hkb, hc⟩ := HG.out j s hs
        have hc0 : wr.cell? ⟨kb, ko + j * 3, none⟩ = some (.int .i64 s.k) := by obtain ⟨m, rfl⟩ := hd; exact hc.1
        have hc1 : wr.cell? ⟨kb, ko + j * 3 + 1, none⟩ = some (.string s.n) := by obtain ⟨m, rfl⟩ := hd; exact hc.2.1
        have hc2 : wr.cell? ⟨kb, ko + j * 3 + 2, none⟩ = some (.int .i64 s.x) := by obtain ⟨m, rfl⟩ := hd; exact hc.2.2
        obtain ⟨_, kb', ko', rfl, hkb', hc'⟩ := HG'.out j s' hs'
        have hc0' : wr.cell? ⟨kb', ko' + j * 3, none⟩ = some (.int .i64 s'.k) := by obtain ⟨m, rfl⟩ := hd; exact hc'.1
        have hc1' : wr.cell? ⟨kb', ko' + j * 3 + 1, none⟩ = some (.string s'.n) := by obtain ⟨m, rfl⟩ := hd; exact hc'.2.1
        have hc2' : wr.cell? ⟨kb', ko' + j * 3 + 2, none⟩ = some (.int .i64 s'.x) := by obtain ⟨m, rfl⟩ := hd; exact hc'.2.2
        clear hc hc'
        by_cases hss : s = s'
        · subst hss
          have hn : Hid (ls.take (j + 1) = ls'.take (j + 1)) := Lib.hid (by rw [take_snoc_get hs, take_snoc_get hs', HT.out])
          clear hs hs'
          go_wp2_with fail
          go_quiet (fail)
          go_wp2_with fail
          go_roundw
          case rel => exact ⟨j + 1, by go_num, by omega, hn, hd.more _⟩
          case measure => simp [intOf]; omega
        · have hne : Hid (ls ≠ ls') := Lib.hid (fun e => hss (by rw [e, hs'] at hs; exact (Option.some.inj hs).symm))
          clear hs hs'
          obtain ⟨k, n, x⟩ := s
          obtain ⟨k', n', x'⟩ := s'
          simp only at hc0 hc1 hc2 hc0' hc1' hc2'
          by_cases h1 : k = k'
          · subst h1
            by_cases h2 : n = n'
            · subst h2
              have h3 : (x == x') = false := by simp; intro e; exact hss (by rw [e])
              clear hss
              go_wp2_with fail
              go_quiet (fail)
              go_wp2_with fail
              go_ret
              exact ⟨ret_bool (eqV_ne hne.out).symm, hd.more _⟩
            · have h3 := str_ne h2
              have h4 : (n.toList == n'.toList) = false := by simpa using h3
              clear hss h2
              go_wp2_with fail
              go_quiet (fail)
              go_wp2_with fail
              go_ret
              exact ⟨ret_bool (eqV_ne hne.out).symm, hd.more _⟩
          · have h3 : (k == k') = false := by simpa using h1
            clear hss h1
            go_wp2_with fail
            go_quiet (fail)
            go_wp2_with fail
            go_ret
            exact ⟨ret_bool (eqV_ne hne.out).symm, hd.more _⟩
      · obtain rfl : j = len := by omega
        go_wp2_with fail
        go_ret
        refine ⟨ret_bool ?_, hd⟩
        rw [eqV_true.2 (lists_eq hlen.out hlen'.out HT.out)]
  · have hl' : (len != len') = true := by simpa using hl
    have hne : ls ≠ ls' := fun e => hl (by rw [hlen.out, hlen'.out, e])
    have HN := Lib.hid hne
    clear hne
    go_enter Tryd.func97, Tryd.ntmps97
    go_wp2_with fail
    go_ret
    exact ⟨ret_bool (eqV_ne HN.out).symm, Drew.refl _⟩

end Go.Proofs.YtliijbcgkkiekaaDoor

/- Plain mathematics of the tokens of a text: no program is imported. -/
namespace Go.Proofs.YtliijbcgkkiekaaDoor.Lx

def letB (b : Int) : Bool := decide (65 ≤ b ∧ b ≤ 90 ∨ 97 ≤ b ∧ b ≤ 122 ∨ b = 95)
def digB (b : Int) : Bool := decide (48 ≤ b ∧ b ≤ 57)
def letU (c : UInt8) : Bool := letB (c.toNat : Int)
def digU (c : UInt8) : Bool := digB (c.toNat : Int)
def wcU (c : UInt8) : Bool := letU c || digU c

/-- How many elements at the beginning satisfy p. -/
def span (p : UInt8 → Bool) (l : List UInt8) : Nat := (l.takeWhile p).length

def wordLen : List UInt8 → Nat
  | [] => 0
  | c :: r => if letU c then 1 + span wcU r else 0

def numberLen : List UInt8 → Nat
  | [] => 0
  | c :: r =>
    if c = 48 then 1
    else if c = 45 then
      match r with
      | [] => 0
      | d :: _ => if d = 48 then 0 else if digU d then 1 + span digU r else 0
    else if digU c then 1 + span digU r else 0

def commentLen (l : List UInt8) : Nat := span (fun c => c != 10) l

def blank (c : UInt8) : Bool := c == 32 || c == 9 || c == 10 || c == 13

/-- How many bytes at the beginning are in blanks and comments; the first argument: in a comment. -/
def skipG : Bool → List UInt8 → Nat
  | _, [] => 0
  | false, c :: r => if blank c then 1 + skipG false r else if c = 35 then 1 + skipG true r else 0
  | true, c :: r => if c = 10 then 1 + skipG false r else 1 + skipG true r

theorem span_le (p : UInt8 → Bool) (l : List UInt8) : span p l ≤ l.length := by
  unfold span; exact (List.takeWhile_sublist p).length_le

theorem span_nil (p : UInt8 → Bool) : span p [] = 0 := rfl
theorem span_cons (p : UInt8 → Bool) (c : UInt8) (r : List UInt8) : span p (c :: r) = if p c then 1 + span p r else 0 := by
  unfold span; rw [List.takeWhile_cons]; split <;> simp; omega

/-- The span is k if all elements before k satisfy p, and the one at k, if there is one, doesn't. -/
theorem span_eq (p : UInt8 → Bool) : ∀ (l : List UInt8) (k : Nat), k ≤ l.length → (∀ j (h : j < l.length), j < k → p l[j] = true) → (∀ h : k < l.length, p l[k] = false) → span p l = k
  | [], k, hk, _, _ => by simp at hk; subst hk; rfl
  | c :: r, 0, _, _, h2 => by have := h2 (by simp); rw [span_cons]; simp at this; simp [this]
  | c :: r, k + 1, hk, h1, h2 => by
    have hc := h1 0 (by simp) (by omega)
    rw [span_cons]; simp at hc; rw [if_pos hc]
    have := span_eq p r k (by simp at hk; omega) (fun j h hj => by have := h1 (j + 1) (by simp; omega) (by omega); simpa using this) (fun h => by have := h2 (by simp; omega); simpa using this)
    omega

theorem skipG_nil (b : Bool) : skipG b [] = 0 := by cases b <;> simp [skipG]
theorem skipG_blank (c : UInt8) (r : List UInt8) (h : blank c = true) : skipG false (c :: r) = 1 + skipG false r := by
  rw [skipG, if_pos h]
theorem skipG_stop (c : UInt8) (r : List UInt8) (h : blank c = false) (h2 : c ≠ 35) : skipG false (c :: r) = 0 := by
  rw [skipG, if_neg (by simp [h]), if_neg h2]
theorem skipG_true : ∀ l : List UInt8, skipG true l = commentLen l + skipG false (l.drop (commentLen l))
  | [] => by simp [skipG, commentLen, span_nil]
  | c :: r => by
    rw [skipG]
    unfold commentLen
    rw [span_cons]
    by_cases h : c = 10
    · rw [if_pos h, if_neg (by simp [h]), List.drop_zero, h, skipG_blank 10 r (by decide)]; omega
    · rw [if_neg h, if_pos (by simpa using h), skipG_true r]; unfold commentLen
      rw [Nat.add_comm 1 (span _ r), List.drop_succ_cons]; omega
theorem skipG_hash (r : List UInt8) : skipG false (35 :: r) = commentLen (35 :: r) + skipG false ((35 :: r).drop (commentLen (35 :: r))) := by
  rw [skipG, if_neg (by decide), if_pos rfl, skipG_true]
  have : commentLen (35 :: r) = commentLen r + 1 := by unfold commentLen; rw [span_cons, if_pos (by decide)]; omega
  rw [this, List.drop_succ_cons]; omega
theorem commentLen_hash (r : List UInt8) : 1 ≤ commentLen (35 :: r) := by
  unfold commentLen; rw [span_cons, if_pos (by decide)]; omega
theorem commentLen_le (l : List UInt8) : commentLen l ≤ l.length := span_le _ _
theorem skipG_le : ∀ (b : Bool) (l : List UInt8), skipG b l ≤ l.length := by
  have h : ∀ (n : Nat) (l : List UInt8), l.length ≤ n → skipG false l ≤ l.length := by
    intro n
    induction n with
    | zero => intro l hl; have : l = [] := List.eq_nil_of_length_eq_zero (by omega); subst this; simp [skipG]
    | succ n ih =>
      intro l hl
      cases l with
      | nil => simp [skipG]
      | cons c r =>
        by_cases hb : blank c = true
        · rw [skipG_blank c r hb]; have := ih r (by simp at hl; omega); simp; omega
        · by_cases h35 : c = 35
          · subst h35
            rw [skipG_hash]
            have h1 := commentLen_hash r
            have h2 := commentLen_le (35 :: r)
            have := ih ((35 :: r).drop (commentLen (35 :: r))) (by rw [List.length_drop]; omega)
            rw [List.length_drop] at this; omega
          · rw [skipG_stop c r (by simpa using hb) h35]; omega
  intro b l
  cases b with
  | false => exact h _ l (Nat.le_refl _)
  | true =>
    rw [skipG_true]
    have h2 := commentLen_le l
    have := h _ (l.drop (commentLen l)) (Nat.le_refl _)
    rw [List.length_drop] at this; omega

end Go.Proofs.YtliijbcgkkiekaaDoor.Lx

/- Package lex, as package typetree uses it: letters, digits, words. -/
namespace Go.Proofs.YtliijbcgkkiekaaDoor
open Go.RowKit

set_option maxHeartbeats 400000 in
theorem letter_any (b : Int) (h0 : 0 ≤ b) (h1 : b < 256) (w : World) :
    Calls Tryd.prog 136 #[.int .u8 b] w fun e w' => e = .returned (.bool (Lx.letB b)) ∧ w = w' := by
  go_enter Tryd.func136, Tryd.ntmps136
  go_wp2
  all_goals (go_ret; refine ⟨ret_bool ?_, rfl⟩; unfold Lx.letB; rw [Bool.eq_iff_iff]; simp; try omega)

set_option maxHeartbeats 400000 in
theorem digit_any (b : Int) (h0 : 0 ≤ b) (h1 : b < 256) (w : World) :
    Calls Tryd.prog 137 #[.int .u8 b] w fun e w' => e = .returned (.bool (Lx.digB b)) ∧ w = w' := by
  go_enter Tryd.func137, Tryd.ntmps137
  go_wp2
  all_goals (go_ret; refine ⟨ret_bool ?_, rfl⟩; unfold Lx.digB; rw [Bool.eq_iff_iff]; simp; try omega)

theorem toList_ne (s : ByteArray) (h : 0 < s.size) : ¬ s.toList = [] := by
  rw [Lib.toList_data]; intro e
  have h2 : s.data.toList.length = 0 := by rw [e]; rfl
  have h3 : s.data.toList.length = s.size := rfl
  omega
theorem toList_nil (s : ByteArray) (h : s.size = 0) : s.toList = [] := by
  rw [Lib.toList_data]; apply List.eq_nil_of_length_eq_zero; exact h
theorem list_cons (l : List UInt8) (h : 0 < l.length) : l = l[0] :: l.tail := by
  cases l with
  | nil => simp at h
  | cons c r => simp
theorem data_cons (s : ByteArray) (h : 0 < s.size) : s.data.toList = s[0] :: s.data.toList.tail := list_cons s.data.toList h

theorem byte_bd (c : UInt8) : 0 ≤ (c.toNat : Int) ∧ (c.toNat : Int) < 256 := ⟨by omega, by have := c.toNat_lt; omega⟩
theorem letter_byte (c : UInt8) (w : World) :
    Calls Tryd.prog 136 #[.int .u8 (c.toNat : Int)] w fun e w' => e = .returned (.bool (Lx.letB (c.toNat : Int))) ∧ w = w' :=
  letter_any _ (byte_bd c).1 (byte_bd c).2 w
theorem digit_byte (c : UInt8) (w : World) :
    Calls Tryd.prog 137 #[.int .u8 (c.toNat : Int)] w fun e w' => e = .returned (.bool (Lx.digB (c.toNat : Int))) ∧ w = w' :=
  digit_any _ (byte_bd c).1 (byte_bd c).2 w

set_option maxHeartbeats 400000 in
theorem wordLen_none (s : ByteArray) (h0 : s.toList = []) (w : World) :
    Calls Tryd.prog 131 #[.string s] w fun e w' => e = .returned (.int .i64 0) ∧ w = w' := by
  go_enter Tryd.func131, Tryd.ntmps131
  go_wp2_with fail
  go_ret
  exact ⟨rfl, rfl⟩

set_option maxHeartbeats 400000 in
theorem wordLen_no (s : ByteArray) (_h0 : ¬ s.toList = []) (h0' : s.toList.isEmpty = false) (h1 : 0 < s.size) (hl : Lx.letB (s[0].toNat : Int) = false) (w : World) :
    Calls Tryd.prog 131 #[.string s] w fun e w' => e = .returned (.int .i64 0) ∧ w = w' := by
  go_enter Tryd.func131, Tryd.ntmps131
  go_wp2_with (go_at_call 136; refine (letter_byte _ _).mono ?_; rintro e w' ⟨rfl, rfl⟩)
  go_ret
  exact ⟨rfl, rfl⟩

def AllWc (s : ByteArray) (k : Nat) : Prop := ∀ j (h : j < s.size), 1 ≤ j → j < k → Lx.wcU s[j] = true

set_option maxHeartbeats 400000 in
theorem wordLen_yes (s : ByteArray) (_h0 : ¬ s.toList = []) (h0' : s.toList.isEmpty = false) (h1 : 0 < s.size) (hs : s.size ≤ 9223372036854775807) (hl : Lx.letB (s[0].toNat : Int) = true) (w : World) :
    Calls Tryd.prog 131 #[.string s] w fun e w' => (∃ k : Nat, e = .returned (.int .i64 k) ∧ 1 ≤ k ∧ k ≤ s.size ∧ AllWc s k ∧ (∀ h : k < s.size, Lx.wcU s[k] = false)) ∧ w = w' := by
  go_enter Tryd.func131, Tryd.ntmps131
  go_wp2_with (go_at_call 136; refine (letter_byte _ _).mono ?_; rintro e w' ⟨rfl, rfl⟩)
  go_loop [3] (fun n => ∃ k : Nat, 1 ≤ k ∧ k ≤ s.size ∧ n = .int .i64 k ∧ AllWc s k) (fun n => s.size - (intOf n).toNat)
  case atStart => exact ⟨1, by omega, by omega, rfl, fun j _ h3 h4 => by omega⟩
  case round =>
    obtain ⟨k, hk1, hk2, rfl, ha⟩ := hrel
    by_cases hlt : k < s.size
    · by_cases hw : Lx.wcU s[k] = true
      · have hnext : AllWc s (k + 1) := by
          intro j hj h3 h4
          by_cases e : j = k
          · subst e; exact hw
          · exact ha j hj h3 (by omega)
        by_cases hle : Lx.letB (s[k].toNat : Int) = true
        · clear hw
          go_wp2_with (first | (go_at_call 136; refine (letter_byte _ _).mono ?_; rintro e w' ⟨rfl, rfl⟩) | (go_at_call 137; refine (digit_byte _ _).mono ?_; rintro e w' ⟨rfl, rfl⟩))
          go_round
          case rel => exact ⟨k + 1, by omega, by omega, by go_num, hnext⟩
          case measure => simp [intOf]; omega
        · have hle' : Lx.letB (s[k].toNat : Int) = false := by simpa using hle
          have hd : Lx.digB (s[k].toNat : Int) = true := by simpa [Lx.wcU, Lx.letU, Lx.digU, hle'] using hw
          clear hw hle
          go_wp2_with (first | (go_at_call 136; refine (letter_byte _ _).mono ?_; rintro e w' ⟨rfl, rfl⟩) | (go_at_call 137; refine (digit_byte _ _).mono ?_; rintro e w' ⟨rfl, rfl⟩))
          go_round
          case rel => exact ⟨k + 1, by omega, by omega, by go_num, hnext⟩
          case measure => simp [intOf]; omega
      · have hw' : Lx.wcU s[k] = false := by simpa using hw
        have hle : Lx.letB (s[k].toNat : Int) = false := by simp [Lx.wcU, Lx.letU] at hw'; exact hw'.1
        have hd : Lx.digB (s[k].toNat : Int) = false := by simp [Lx.wcU, Lx.digU] at hw'; exact hw'.2
        clear hw
        have H := Lib.hid hw'
        clear hw'
        go_wp2_with (first | (go_at_call 136; refine (letter_byte _ _).mono ?_; rintro e w' ⟨rfl, rfl⟩) | (go_at_call 137; refine (digit_byte _ _).mono ?_; rintro e w' ⟨rfl, rfl⟩))
        go_ret
        exact ⟨⟨k, rfl, hk1, hk2, ha, fun _ => H.out⟩, rfl⟩
    · go_wp2
      go_ret
      exact ⟨⟨k, rfl, hk1, hk2, ha, fun h => absurd h hlt⟩, rfl⟩

theorem wordLen_any (s : ByteArray) (hs : s.size ≤ maxLen) (w : World) :
    Calls Tryd.prog 131 #[.string s] w fun e w' => e = .returned (.int .i64 (Lx.wordLen s.data.toList)) ∧ w = w' := by
  unfold maxLen at hs
  by_cases h1 : 0 < s.size
  · have hc := data_cons s h1
    have h0 := toList_ne s h1
    have h0' : s.toList.isEmpty = false := by simpa using h0
    by_cases hl : Lx.letB (s[0].toNat : Int) = true
    · refine (wordLen_yes s h0 h0' h1 (by omega) hl w).mono ?_
      rintro e w' ⟨⟨k, rfl, hk1, hk2, ha, hb⟩, rfl⟩
      refine ⟨ret_int ?_, rfl⟩
      rw [hc]; simp only [Lx.wordLen]
      rw [if_pos (show Lx.letU s[0] = true from hl)]
      have hz : s.data.toList.tail.length + 1 = s.size := by have := congrArg List.length hc; simp at this; simp; omega
      have : Lx.span Lx.wcU s.data.toList.tail = k - 1 := by
        refine Lx.span_eq _ _ _ (by omega) (fun j h hj => ?_) (fun h => ?_)
        · have := ha (j + 1) (by omega) (by omega) (by omega)
          rw [List.getElem_tail]; exact this
        · have := hb (by omega)
          rw [List.getElem_tail]
          have e : k - 1 + 1 = k := by omega
          simp only [e]; exact this
      omega
    · have hl' : Lx.letB (s[0].toNat : Int) = false := by simpa using hl
      refine (wordLen_no s h0 h0' h1 hl' w).mono ?_
      rintro e w' ⟨rfl, rfl⟩
      refine ⟨ret_int ?_, rfl⟩
      rw [hc]; simp only [Lx.wordLen]
      rw [if_neg (by simpa [Lx.letU] using hl)]; rfl
  · have h0 := toList_nil s (by omega)
    refine (wordLen_none s h0 w).mono ?_
    rintro e w' ⟨rfl, rfl⟩
    rw [Lib.toList_data] at h0
    refine ⟨ret_int ?_, rfl⟩
    rw [h0]; rfl

end Go.Proofs.YtliijbcgkkiekaaDoor

/- Package lex, as package typetree uses it: Keyword, Name. -/
namespace Go.Proofs.YtliijbcgkkiekaaDoor
open Go.RowKit Go.Shelf

theorem bcellK {W w1 : World} (hb : Below W.heap.size W w1) : (∀ b o, b < W.heap.size → w1.cell? ⟨b, o, none⟩ = W.cell? ⟨b, o, none⟩) := fun b o h => hb.cell (p := ⟨b, o, none⟩) h
/-- What the package-level variable holds on which Keyword leans; B: a bound above it. -/
structure Env (B : Nat) (w : World) : Prop where
  words : w.var? Tryd.prog "duologue/lex.keywords" = some #[.string ⟨#[100, 101, 102]⟩, .string ⟨#[109, 97, 105, 110]⟩, .string ⟨#[115, 116, 111, 112]⟩, .string ⟨#[110, 101, 119]⟩, .string ⟨#[105, 110, 116]⟩, .string ⟨#[98, 111, 111, 108]⟩, .string ⟨#[101, 110, 100]⟩, .string ⟨#[114, 101, 99]⟩, .string ⟨#[116, 114, 117, 101]⟩, .string ⟨#[102, 97, 108, 115, 101]⟩]
  above : 0 < B
  size : B ≤ w.heap.size
theorem gWords : Tryd.prog.globalNamed "duologue/lex.keywords" = some 0 := by kernel_rfl
theorem Env.below {B : Nat} {w w' : World} (h : Env B w) (hb : Below B w w') : Env B w' := ⟨var?_below hb gWords h.above h.words, h.above, Nat.le_trans h.size hb.size⟩
theorem Env.to {B : Nat} {w w' : World} (h : Env B w) (hb : Below w.heap.size w w') : Env B w' := h.below (hb.mono h.size)

def kwAt : Nat → ByteArray
  | 0 => ⟨#[100, 101, 102]⟩
  | 1 => ⟨#[109, 97, 105, 110]⟩
  | 2 => ⟨#[115, 116, 111, 112]⟩
  | 3 => ⟨#[110, 101, 119]⟩
  | 4 => ⟨#[105, 110, 116]⟩
  | 5 => ⟨#[98, 111, 111, 108]⟩
  | 6 => ⟨#[101, 110, 100]⟩
  | 7 => ⟨#[114, 101, 99]⟩
  | 8 => ⟨#[116, 114, 117, 101]⟩
  | _ => ⟨#[102, 97, 108, 115, 101]⟩
def kwCells : Array Value := #[.string (kwAt 0), .string (kwAt 1), .string (kwAt 2), .string (kwAt 3), .string (kwAt 4), .string (kwAt 5), .string (kwAt 6), .string (kwAt 7), .string (kwAt 8), .string (kwAt 9)]
theorem kwIdx : ∀ (k : Nat) (_ : k < 10) (w : World), (Instr.index 149 (.agg kwCells) (.int .i64 k)).run Tryd.prog w = .ok (.string (kwAt k)) w
  | 0, _, _ => by kernel_rfl
  | 1, _, _ => by kernel_rfl
  | 2, _, _ => by kernel_rfl
  | 3, _, _ => by kernel_rfl
  | 4, _, _ => by kernel_rfl
  | 5, _, _ => by kernel_rfl
  | 6, _, _ => by kernel_rfl
  | 7, _, _ => by kernel_rfl
  | 8, _, _ => by kernel_rfl
  | 9, _, _ => by kernel_rfl
  | k + 10, h, _ => by omega
theorem Env.row {B : Nat} {w : World} (h : Env B w) : ∃ t fr, w.heap[0]? = some (.cells kwCells t fr) := by
  have hv := h.words
  unfold World.var? at hv
  rw [gWords] at hv
  simp only [Option.bind_some] at hv
  cases ho : w.heap[0]? with
  | none => rw [ho] at hv; cases hv
  | some o =>
    rw [ho] at hv
    cases o with
    | cells cs ty fr => simp only [Option.some.injEq] at hv; subst hv; exact ⟨ty, fr, rfl⟩
    | _ => cases hv
theorem kwU : Tryd.prog.underlying 149 = some (.array 10 9) := by kernel_rfl

/-- Among the first k keywords. -/
def kwB : Nat → ByteArray → Bool
  | 0, _ => false
  | k + 1, s => kwB k s || (kwAt k).toList == s.toList
theorem kwB_hit (s : ByteArray) (k : Nat) (h : ((kwAt k).toList == s.toList) = true) : ∀ m, k < m → kwB m s = true
  | 0, hm => by omega
  | m + 1, hm => by
    rw [kwB, Bool.or_eq_true]
    by_cases e : k = m
    · subst e; exact .inr h
    · exact .inl (kwB_hit s k h m (by omega))

set_option maxHeartbeats 400000 in
theorem keyword_any (s : ByteArray) (B : Nat) (w : World) (he : Env B w) :
    Calls Tryd.prog 132 #[.string s] w fun e w' => e = .returned (.bool (kwB 10 s)) ∧ w = w' := by
  obtain ⟨t, fr, hrow⟩ := he.row
  have HR := Lib.hid hrow
  clear hrow he
  go_enter Tryd.func132, Tryd.ntmps132
  go_wp2_with (refine wpList_load_row rfl 149 _ rfl 0 rfl t kwCells fr _ HR.out kwU rfl (by kernel_rfl) ?_)
  go_loop [6] (fun n => ∃ k : Nat, k ≤ 10 ∧ n = .int .i64 k ∧ Hid (kwB k s = false)) (fun n => 10 - (intOf n).toNat)
  case atStart => exact ⟨0, by omega, rfl, Lib.hid rfl⟩
  case round =>
    obtain ⟨k, hk, rfl, hf⟩ := hrel
    by_cases hlt : k < 10
    · have hidx := kwIdx k hlt
      have hlt' : (k : Int) < 10 := by omega
      go_wp2_with fail
      · have ht : ((kwAt k).toList == s.toList) = true := by assumption
        go_ret
        exact ⟨ret_bool (kwB_hit s k ht 10 hlt).symm, rfl⟩
      · have ht : ((kwAt k).toList == s.toList) = false := by assumption
        go_round
        case rel => exact ⟨k + 1, by omega, by go_num, Lib.hid (by rw [kwB, hf.out, ht]; rfl)⟩
        case measure => simp [intOf]; omega
    · obtain rfl : k = 10 := by omega
      go_wp2
      go_ret
      exact ⟨ret_bool hf.out.symm, rfl⟩

/-- A single word and no keyword. -/
def nameB (s : ByteArray) : Bool := !s.toList.isEmpty && decide (Lx.wordLen s.data.toList = s.size) && !kwB 10 s

theorem kw_is (s : ByteArray) (b : Bool) (h : Hid (kwB 10 s = b)) (B : Nat) (w : World) (he : Env B w) :
    Calls Tryd.prog 132 #[.string s] w fun e w' => e = .returned (.bool b) ∧ w = w' := by
  have := keyword_any s B w he
  rw [h.out] at this; exact this
theorem wl_is (s : ByteArray) (hs : s.size ≤ maxLen) (n : Nat) (h : Hid (Lx.wordLen s.data.toList = n)) (w : World) :
    Calls Tryd.prog 131 #[.string s] w fun e w' => e = .returned (.int .i64 n) ∧ w = w' := by
  have := wordLen_any s hs w
  rw [h.out] at this; exact this

set_option maxHeartbeats 400000 in
theorem name_any (s : ByteArray) (hs : s.size ≤ maxLen) (B : Nat) (w : World) (he : Env B w) :
    Calls Tryd.prog 124 #[.string s] w fun e w' => e = .returned (.bool (nameB s)) ∧ w = w' := by
  have HS := Lib.hid hs
  obtain ⟨n, hn⟩ : ∃ n, Hid (Lx.wordLen s.data.toList = n) := ⟨_, Lib.hid rfl⟩
  obtain ⟨b, hb⟩ : ∃ b, Hid (kwB 10 s = b) := ⟨_, Lib.hid rfl⟩
  by_cases h0 : s.toList = []
  · have h0' : s.toList.isEmpty = true := by rw [h0]; rfl
    have hr : false = nameB s := by unfold nameB; rw [h0']; rfl
    have HR := Lib.hid hr
    clear hr hs
    go_enter Tryd.func124, Tryd.ntmps124
    go_wp2_with fail
    go_ret
    exact ⟨ret_bool HR.out, rfl⟩
  · have h0' : s.toList.isEmpty = false := by simpa using h0
    by_cases hw : n = s.size
    · have hw' : ((n : Int) == (s.size : Int)) = true := by rw [beq_iff_eq]; omega
      have hr : (!b) = nameB s := by unfold nameB; rw [h0', hn.out, hb.out, decide_eq_true hw]; rfl
      have HR := Lib.hid hr
      clear hr hs hw
      go_enter Tryd.func124, Tryd.ntmps124
      go_wp2_with (first | (go_at_call 131; refine (wl_is s HS.out n hn _).mono ?_; rintro e w' ⟨rfl, rfl⟩) | (go_at_call 132; refine (kw_is s b hb B _ he).mono ?_; rintro e w' ⟨rfl, rfl⟩))
      go_ret
      exact ⟨ret_bool HR.out, rfl⟩
    · have hw' : ((n : Int) == (s.size : Int)) = false := by rw [beq_eq_false_iff_ne]; omega
      have hr : false = nameB s := by unfold nameB; rw [h0', hn.out, decide_eq_false hw]; rfl
      have HR := Lib.hid hr
      clear hr hs hw
      go_enter Tryd.func124, Tryd.ntmps124
      go_wp2_with (go_at_call 131; refine (wl_is s HS.out n hn _).mono ?_; rintro e w' ⟨rfl, rfl⟩)
      go_ret
      exact ⟨ret_bool HR.out, rfl⟩

end Go.Proofs.YtliijbcgkkiekaaDoor

/- The reference of layer 1, as layer 2 uses it: words, keywords, names. -/
namespace Go.Proofs.YtliijbcgkkiekaaDoor
open Go.RowKit Go.Shelf

def inB (c : UInt8) (s : ByteArray) : Bool := s.data.toList.contains c
def NotIn (c : UInt8) (s : ByteArray) (k : Nat) : Prop := ∀ j (h : j < s.size), j < k → s[j] ≠ c

set_option maxHeartbeats 400000 in
theorem in_any (c : UInt8) (s : ByteArray) (hs : s.size ≤ 9223372036854775807) (w : World) :
    Calls Tryd.prog 133 #[.int .u8 (c.toNat : Int), .string s] w fun e w' => e = .returned (.bool (inB c s)) ∧ w' = w := by
  go_enter Tryd.func133, Tryd.ntmps133
  go_wp2_with fail
  go_loop [5] (fun n => ∃ k : Nat, k ≤ s.size ∧ n = .int .i64 k ∧ NotIn c s k) (fun n => s.size - (intOf n).toNat)
  case atStart => exact ⟨0, by omega, rfl, fun j _ h => by omega⟩
  case round =>
    obtain ⟨k, hk, rfl, ha⟩ := hrel
    by_cases hlt : k < s.size
    · by_cases hc : s[k] = c
      · have hb : ((s[k].toNat : Int) == (c.toNat : Int)) = true := by rw [hc]; simp
        have hr : true = inB c s := by
          symm; unfold inB; rw [List.contains_iff_mem, ← hc]
          exact List.getElem_mem (show k < s.data.toList.length from hlt)
        have HR := Lib.hid hr
        clear hr hc
        go_wp2_with fail
        go_ret
        exact ⟨ret_bool HR.out, rfl⟩
      · have hb : ((s[k].toNat : Int) == (c.toNat : Int)) = false := by
          rw [beq_eq_false_iff_ne]; intro e; apply hc; apply UInt8.toNat_inj.1; omega
        have hnext : NotIn c s (k + 1) := fun j hj h => by
          by_cases e : j = k
          · subst e; exact hc
          · exact ha j hj (by omega)
        clear hc
        go_wp2_with fail
        go_round
        case rel => exact ⟨k + 1, by omega, by go_num, hnext⟩
        case measure => simp [intOf]; omega
    · have hr : false = inB c s := by
        symm
        unfold inB
        rw [Bool.eq_false_iff]
        intro h
        rw [List.contains_iff_mem] at h
        obtain ⟨j, hj, e⟩ := List.mem_iff_getElem.1 h
        have hj' : j < s.size := hj
        exact ha j hj' (by omega) e
      have HR := Lib.hid hr
      clear hr
      go_wp2_with fail
      go_ret
      exact ⟨ret_bool HR.out, rfl⟩

theorem letters_any (w : World) :
    Calls Tryd.prog 134 #[] w fun e w' => e = .returned (.string ⟨#[65, 66, 67, 68, 69, 70, 71, 72, 73, 74, 75, 76, 77, 78, 79, 80, 81, 82, 83, 84, 85, 86, 87, 88, 89, 90, 97, 98, 99, 100, 101, 102, 103, 104, 105, 106, 107, 108, 109, 110, 111, 112, 113, 114, 115, 116, 117, 118, 119, 120, 121, 122, 95]⟩) ∧ w' = w := by
  go_enter Tryd.func134, Tryd.ntmps134
  go_wp2_with fail
  go_ret
  exact ⟨rfl, rfl⟩
theorem digits_any (w : World) :
    Calls Tryd.prog 135 #[] w fun e w' => e = .returned (.string ⟨#[48, 49, 50, 51, 52, 53, 54, 55, 56, 57]⟩) ∧ w' = w := by
  go_enter Tryd.func135, Tryd.ntmps135
  go_wp2_with fail
  go_ret
  exact ⟨rfl, rfl⟩

theorem all_bytes {p q : UInt8 → Bool} (h : ∀ n : Fin 256, p (UInt8.ofNat n.val) = q (UInt8.ofNat n.val)) (c : UInt8) : p c = q c := by
  have := h ⟨c.toNat, c.toNat_lt⟩
  simpa using this
theorem in_letters (c : UInt8) (w : World) :
    Calls Tryd.prog 133 #[.int .u8 (c.toNat : Int), .string ⟨#[65, 66, 67, 68, 69, 70, 71, 72, 73, 74, 75, 76, 77, 78, 79, 80, 81, 82, 83, 84, 85, 86, 87, 88, 89, 90, 97, 98, 99, 100, 101, 102, 103, 104, 105, 106, 107, 108, 109, 110, 111, 112, 113, 114, 115, 116, 117, 118, 119, 120, 121, 122, 95]⟩] w fun e w' => e = .returned (.bool (Lx.letB (c.toNat : Int))) ∧ w' = w := by
  refine (in_any c _ (by decide) w).mono ?_
  rintro e w' ⟨rfl, rfl⟩
  refine ⟨ret_bool ?_, rfl⟩
  exact all_bytes (p := fun c => List.contains _ c) (q := fun c => Lx.letB (c.toNat : Int)) (by decide +kernel) c
theorem in_digits (c : UInt8) (w : World) :
    Calls Tryd.prog 133 #[.int .u8 (c.toNat : Int), .string ⟨#[48, 49, 50, 51, 52, 53, 54, 55, 56, 57]⟩] w fun e w' => e = .returned (.bool (Lx.digB (c.toNat : Int))) ∧ w' = w := by
  refine (in_any c _ (by decide) w).mono ?_
  rintro e w' ⟨rfl, rfl⟩
  refine ⟨ret_bool ?_, rfl⟩
  exact all_bytes (p := fun c => List.contains _ c) (q := fun c => Lx.digB (c.toNat : Int)) (by decide +kernel) c
theorem inB_letters (c : UInt8) : inB c ⟨#[65, 66, 67, 68, 69, 70, 71, 72, 73, 74, 75, 76, 77, 78, 79, 80, 81, 82, 83, 84, 85, 86, 87, 88, 89, 90, 97, 98, 99, 100, 101, 102, 103, 104, 105, 106, 107, 108, 109, 110, 111, 112, 113, 114, 115, 116, 117, 118, 119, 120, 121, 122, 95]⟩ = Lx.letB (c.toNat : Int) := all_bytes (p := fun c => inB c ⟨#[65, 66, 67, 68, 69, 70, 71, 72, 73, 74, 75, 76, 77, 78, 79, 80, 81, 82, 83, 84, 85, 86, 87, 88, 89, 90, 97, 98, 99, 100, 101, 102, 103, 104, 105, 106, 107, 108, 109, 110, 111, 112, 113, 114, 115, 116, 117, 118, 119, 120, 121, 122, 95]⟩) (q := fun c => Lx.letB (c.toNat : Int)) (by decide +kernel) c
theorem inB_digits (c : UInt8) : inB c ⟨#[48, 49, 50, 51, 52, 53, 54, 55, 56, 57]⟩ = Lx.digB (c.toNat : Int) := all_bytes (p := fun c => inB c ⟨#[48, 49, 50, 51, 52, 53, 54, 55, 56, 57]⟩) (q := fun c => Lx.digB (c.toNat : Int)) (by decide +kernel) c

/-- A word, all of it. -/
def rWord : List UInt8 → Bool
  | [] => false
  | c :: r => Lx.letU c && r.all Lx.wcU

set_option maxHeartbeats 400000 in
theorem rword_none (s : ByteArray) (h0 : s.size = 0) (w : World) :
    Calls Tryd.prog 128 #[.string s] w fun e w' => e = .returned (.bool false) ∧ Drew w w' := by
  have hb : ((s.size : Int) == 0) = true := by rw [beq_iff_eq]; omega
  go_enter Tryd.func128, Tryd.ntmps128
  go_wp2_with fail
  go_quiet (fail)
  go_wp2
  go_ret
  exact ⟨rfl, (Drew.refl _).more _⟩
set_option maxHeartbeats 400000 in
theorem rword_no (s : ByteArray) (h0 : 0 < s.size) (hl : Lx.letB (s[0].toNat : Int) = false) (w : World) :
    Calls Tryd.prog 128 #[.string s] w fun e w' => e = .returned (.bool false) ∧ Drew w w' := by
  have hb : ((s.size : Int) == 0) = false := by rw [beq_eq_false_iff_ne]; omega
  go_enter Tryd.func128, Tryd.ntmps128
  go_wp2_with fail
  go_quiet (first | (go_at_call 134; exact Calls.quiet_of_same (letters_any _)) | (go_at_call 133; exact Calls.quiet_of_same (in_letters _ _)))
  go_wp2
  go_ret
  exact ⟨rfl, (Drew.refl _).more _⟩

def AllWcFrom (s : ByteArray) (k : Nat) : Prop := ∀ j (h : j < s.size), 1 ≤ j → j < k → Lx.wcU s[j] = true

set_option maxHeartbeats 1000000 in
theorem rword_yes (s : ByteArray) (h0 : 0 < s.size) (hs : s.size ≤ 9223372036854775807) (hl : Lx.letB (s[0].toNat : Int) = true) (w : World) :
    Calls Tryd.prog 128 #[.string s] w fun e w' => e = .returned (.bool (rWord s.data.toList)) ∧ Drew w w' := by
  have hb : ((s.size : Int) == 0) = false := by rw [beq_eq_false_iff_ne]; omega
  have hd := data_cons s h0
  have hlen : s.data.toList.length = s.size := rfl
  have htail : ∀ j (h : j + 1 < s.size), s.data.toList.tail[j]'(by rw [List.length_tail]; omega) = s[j + 1] := fun j h => by rw [List.getElem_tail]; rfl
  have HD := Lib.hid hd
  have HT := Lib.hid htail
  clear hd htail
  go_enter Tryd.func128, Tryd.ntmps128
  go_wp2_with fail
  go_quiet (first | (go_at_call 134; exact Calls.quiet_of_same (letters_any _)) | (go_at_call 133; exact Calls.quiet_of_same (in_letters _ _)))
  go_wp2_with fail
  go_loopw [3] (fun n wr => ∃ k : Nat, 1 ≤ k ∧ k ≤ s.size ∧ n = .int .i64 k ∧ AllWcFrom s k ∧ Drew w wr) (fun n _ => s.size - (intOf n).toNat)
  case atStart => exact ⟨1, by omega, by omega, rfl, fun j _ h3 h4 => by omega, (Drew.refl _).more _⟩
  case round =>
    obtain ⟨k, hk1, hk2, rfl, ha, hdr⟩ := hrel
    by_cases hlt : k < s.size
    · have hnext : Lx.wcU s[k] = true → AllWcFrom s (k + 1) := by
        intro hw j hj h3 h4
        by_cases e : j = k
        · subst e; exact hw
        · exact ha j hj h3 (by omega)
      have HNX := Lib.hid hnext
      clear hnext
      have hk0 : (0 : Int) ≤ (k : Int) := Int.natCast_nonneg _
      have hk3 : (k : Int) < (s.size : Int) := by omega
      by_cases hle : Lx.letB (s[k].toNat : Int) = true
      · have hw : Lx.wcU s[k] = true := by unfold Lx.wcU Lx.letU; rw [hle]; rfl
        have HW := Lib.hid (HNX.out hw)
        clear hw hl
        go_wp2_with fail
        go_quiet (first | (go_at_call 134; exact Calls.quiet_of_same (letters_any _)) | (go_at_call 133; exact Calls.quiet_of_same (in_letters _ _)))
        go_wp2_with fail
        go_roundw
        case rel => exact ⟨k + 1, by omega, by omega, by go_num, HW.out, hdr.more _⟩
        case measure => simp [intOf]; omega
      · have hle' : Lx.letB (s[k].toNat : Int) = false := by simpa using hle
        by_cases hdg : Lx.digB (s[k].toNat : Int) = true
        · have hw : Lx.wcU s[k] = true := by unfold Lx.wcU Lx.digU; rw [hdg, Bool.or_true]
          have hil := inB_letters s[k]
          have hid := inB_digits s[k]
          rw [hle'] at hil
          rw [hdg] at hid
          have HW := Lib.hid (HNX.out hw)
          clear hw hl hle
          go_wp2_with fail
          go_quiet (first | (go_at_call 134; exact Calls.quiet_of_same (letters_any _)) | (go_at_call 135; exact Calls.quiet_of_same (digits_any _)) | (go_at_call 133; exact Calls.quiet_of_same (in_any _ _ (by decide) _)))
          go_wp2_with fail
          go_roundw
          case rel => exact ⟨k + 1, by omega, by omega, by go_num, HW.out, hdr.more _⟩
          case measure => simp [intOf]; omega
        · have hdg' : Lx.digB (s[k].toNat : Int) = false := by simpa using hdg
          have hr : false = rWord s.data.toList := by
            symm
            rw [HD.out]; simp only [rWord]
            rw [Bool.and_eq_false_iff]; right
            rw [Bool.eq_false_iff]; intro h
            rw [List.all_eq_true] at h
            have h2 := h (s.data.toList.tail[k - 1]'(by rw [List.length_tail]; omega)) (List.getElem_mem _)
            rw [HT.out (k - 1) (by omega)] at h2
            have e : k - 1 + 1 = k := by omega
            simp only [e] at h2
            simp [Lx.wcU, Lx.letU, Lx.digU, hle', hdg'] at h2
          have HR := Lib.hid hr
          have hil := inB_letters s[k]
          have hid := inB_digits s[k]
          rw [hle'] at hil
          rw [hdg'] at hid
          clear hr hl hle hdg
          go_wp2_with fail
          go_quiet (first | (go_at_call 134; exact Calls.quiet_of_same (letters_any _)) | (go_at_call 135; exact Calls.quiet_of_same (digits_any _)) | (go_at_call 133; exact Calls.quiet_of_same (in_any _ _ (by decide) _)))
          go_wp2
          go_ret
          exact ⟨ret_bool HR.out, hdr.more _⟩
    · have hr : true = rWord s.data.toList := by
        symm
        rw [HD.out]; simp only [rWord]
        rw [Bool.and_eq_true]
        refine ⟨hl, ?_⟩
        rw [List.all_eq_true]
        intro x hx
        obtain ⟨j, hj, e⟩ := List.mem_iff_getElem.1 hx
        rw [List.length_tail] at hj
        rw [HT.out j (by omega)] at e
        rw [← e]; exact ha (j + 1) (by omega) (by omega) (by omega)
      have HR := Lib.hid hr
      clear hr hl
      go_wp2
      go_ret
      exact ⟨ret_bool HR.out, hdr⟩

theorem rword_any (s : ByteArray) (hs : s.size ≤ 9223372036854775807) (w : World) :
    Calls Tryd.prog 128 #[.string s] w fun e w' => e = .returned (.bool (rWord s.data.toList)) ∧ Drew w w' := by
  by_cases h0 : 0 < s.size
  · by_cases hl : Lx.letB (s[0].toNat : Int) = true
    · exact rword_yes s h0 hs hl w
    · have hl' : Lx.letB (s[0].toNat : Int) = false := by simpa using hl
      refine (rword_no s h0 hl' w).mono ?_
      rintro e w' ⟨rfl, h⟩
      refine ⟨ret_bool ?_, h⟩
      rw [data_cons s h0]; simp only [rWord]
      rw [show Lx.letU s[0] = false from hl']; rfl
  · refine (rword_none s (by omega) w).mono ?_
    rintro e w' ⟨rfl, h⟩
    have := toList_nil s (by omega)
    rw [Lib.toList_data] at this
    exact ⟨ret_bool (by rw [this]; rfl), h⟩

theorem kw_cells (w : World) : ∀ (k : Nat), k < 10 → (w.alloc (.cells kwCells 9)).cell? ⟨w.heap.size, k, none⟩ = some (.string (kwAt k))
  | 0, _ => by simp [kwCells]
  | 1, _ => by simp [kwCells]
  | 2, _ => by simp [kwCells]
  | 3, _ => by simp [kwCells]
  | 4, _ => by simp [kwCells]
  | 5, _ => by simp [kwCells]
  | 6, _ => by simp [kwCells]
  | 7, _ => by simp [kwCells]
  | 8, _ => by simp [kwCells]
  | 9, _ => by simp [kwCells]
  | k + 10, h => by omega

set_option maxHeartbeats 1000000 in
theorem rkeyword_any (s : ByteArray) (w : World) :
    Calls Tryd.prog 129 #[.string s] w fun e w' => e = .returned (.bool (kwB 10 s)) ∧ Below w.heap.size w w' := by
  go_enter Tryd.func129, Tryd.ntmps129
  go_wp2_with fail
  generalize hW : w.alloc (Obj.cells _ 9) = W2
  have hc := kw_cells w
  have HB := (Below.refl w.heap.size w).alloc (Nat.le_refl _) (.cells kwCells 9)
  rw [show w.alloc (.cells kwCells 9) = W2 from hW] at hc HB
  replace HB := Lib.hid HB
  clear hW
  go_loop [4] (fun n => ∃ k : Nat, k ≤ 10 ∧ n = .int .i64 k ∧ Hid (kwB k s = false)) (fun n => 10 - (intOf n).toNat)
  case atStart => exact ⟨0, by omega, rfl, Lib.hid rfl⟩
  case round =>
    obtain ⟨k, hk, rfl, hf⟩ := hrel
    by_cases hlt : k < 10
    · have hck := hc k hlt
      have hlt' : (k : Int) < 10 := by omega
      have hk0 : (0 : Int) ≤ (k : Int) := Int.natCast_nonneg _
      cases ht : ((kwAt k).toList == s.toList) with
      | true =>
        go_wp2_with fail
        go_ret
        exact ⟨ret_bool (kwB_hit s k ht 10 hlt).symm, HB.out⟩
      | false =>
        have HN := Lib.hid (show kwB (k + 1) s = false by rw [kwB, hf.out, ht]; rfl)
        go_wp2_with fail
        go_round
        case rel => exact ⟨k + 1, by omega, by go_num, HN⟩
        case measure => simp [intOf]; omega
    · obtain rfl : k = 10 := by omega
      go_wp2_with fail
      go_ret
      exact ⟨ret_bool hf.out.symm, HB.out⟩

theorem all_take (p : UInt8 → Bool) : ∀ (l : List UInt8) (k : Nat), k ≤ l.length → (l.take k).all p = decide (k ≤ Lx.span p l)
  | _, 0, _ => by simp
  | [], k + 1, h => by simp at h
  | c :: r, k + 1, h => by
    rw [List.take_succ_cons, List.all_cons, Lx.span_cons]
    by_cases hc : p c = true
    · rw [hc, if_pos rfl, Bool.true_and, all_take p r k (by simpa using h)]
      rw [decide_eq_decide]; omega
    · have hc' : p c = false := by simpa using hc
      rw [hc', Bool.false_and, if_neg (by simp)]; simp
theorem all_span (p : UInt8 → Bool) (l : List UInt8) : l.all p = decide (Lx.span p l = l.length) := by
  have h := all_take p l l.length (Nat.le_refl _)
  rw [List.take_length] at h
  rw [h, decide_eq_decide]
  have := Lx.span_le p l
  omega
theorem rword_nameB (s : ByteArray) : rWord s.data.toList = (!s.toList.isEmpty && decide (Lx.wordLen s.data.toList = s.size)) := by
  rw [Lib.toList_data]
  have hsz : s.size = s.data.toList.length := rfl
  rw [hsz]
  cases s.data.toList with
  | nil => rfl
  | cons c r =>
    have hr : rWord (c :: r) = (Lx.letU c && decide (Lx.span Lx.wcU r = r.length)) := by simp only [rWord]; rw [all_span]
    rw [hr, List.isEmpty_cons, Bool.not_false, Bool.true_and]
    have hw : Lx.wordLen (c :: r) = if Lx.letU c then 1 + Lx.span Lx.wcU r else 0 := rfl
    by_cases hc : Lx.letU c = true
    · rw [if_pos hc] at hw
      rw [hc, Bool.true_and, decide_eq_decide, hw, List.length_cons]; omega
    · have hc' : Lx.letU c = false := by simpa using hc
      rw [if_neg hc] at hw
      rw [hc', Bool.false_and]; symm; rw [decide_eq_false_iff_not, hw, List.length_cons]; omega
theorem rword_is (s : ByteArray) (hs : s.size ≤ 9223372036854775807) (b : Bool) (h : Hid (rWord s.data.toList = b)) (w : World) :
    Calls Tryd.prog 128 #[.string s] w fun e w' => e = .returned (.bool b) ∧ Drew w w' := by
  have := rword_any s hs w
  rw [h.out] at this; exact this
theorem rkeyword_is (s : ByteArray) (b : Bool) (h : Hid (kwB 10 s = b)) (w : World) :
    Calls Tryd.prog 129 #[.string s] w fun e w' => e = .returned (.bool b) ∧ Below w.heap.size w w' := by
  have := rkeyword_any s w
  rw [h.out] at this; exact this

set_option maxHeartbeats 400000 in
theorem rname_any (s : ByteArray) (hs : s.size ≤ 9223372036854775807) (w : World) :
    Calls Tryd.prog 111 #[.string s] w fun e w' => e = .returned (.bool (nameB s)) ∧ Below w.heap.size w w' := by
  have HS := Lib.hid hs
  obtain ⟨b, hb⟩ : ∃ b, Hid (kwB 10 s = b) := ⟨_, Lib.hid rfl⟩
  have hn : nameB s = (rWord s.data.toList && !b) := by unfold nameB; rw [rword_nameB, hb.out]
  cases hw : rWord s.data.toList with
  | true =>
    have HW := Lib.hid hw
    have HR := Lib.hid (show (!b) = nameB s by rw [hn, hw]; rfl)
    clear hn hw hs
    go_enter Tryd.func111, Tryd.ntmps111
    go_wp2_with (first | (go_at_call 128; refine (rword_is s HS.out _ HW _).mono ?_; rintro e w1 ⟨rfl, hd1⟩) | (go_at_call 129; refine (rkeyword_is s b hb _).mono ?_; rintro e w2 ⟨rfl, hd2⟩))
    go_ret
    exact ⟨ret_bool HR.out, (hd1.below _).trans (hd2.mono (hd1.below w.heap.size).size)⟩
  | false =>
    have HW := Lib.hid hw
    have HR := Lib.hid (show false = nameB s by rw [hn, hw]; rfl)
    clear hn hw hs
    go_enter Tryd.func111, Tryd.ntmps111
    go_wp2_with (first | (go_at_call 128; refine (rword_is s HS.out _ HW _).mono ?_; rintro e w1 ⟨rfl, hd1⟩))
    go_ret
    exact ⟨ret_bool HR.out, hd1.below _⟩

end Go.Proofs.YtliijbcgkkiekaaDoor
