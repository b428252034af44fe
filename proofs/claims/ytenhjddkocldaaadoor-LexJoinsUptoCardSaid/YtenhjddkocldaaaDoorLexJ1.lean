/- Plain mathematics: the tokens of tokens that are joined with spaces. -/
import Derived.Test.YtenhjddkocldaaaDoorLexTokensW
namespace Go.Proofs.YtenhjddkocldaaaDoor
open Go.RowKit Go.Shelf Go.Deep

theorem span_gap (p : UInt8 → Bool) (h : p 32 = false) (b : List UInt8) : ∀ l : List UInt8, Lx.span p (l ++ 32 :: b) = Lx.span p l
  | [] => by rw [List.nil_append, Lx.span_cons, if_neg (by rw [h]; decide), Lx.span_nil]
  | c :: l => by rw [List.cons_append, Lx.span_cons, Lx.span_cons, span_gap p h b l]
theorem wordLen_gap (b l : List UInt8) : Lx.wordLen (l ++ 32 :: b) = Lx.wordLen l := by
  cases l with
  | nil => simp [Lx.wordLen, Lx.letU, Lx.letB]
  | cons c r => simp only [List.cons_append, Lx.wordLen]; rw [span_gap Lx.wcU (by decide)]
theorem numberLen_gap (b l : List UInt8) : Lx.numberLen (l ++ 32 :: b) = Lx.numberLen l := by
  cases l with
  | nil => simp [Lx.numberLen, Lx.digU, Lx.digB]
  | cons c r =>
    have hs : ∀ r, Lx.span Lx.digU (r ++ 32 :: b) = Lx.span Lx.digU r := span_gap Lx.digU (by decide) b
    cases r with
    | nil =>
      have h1 : Lx.digU 32 = false := by decide
      have h2 : Lx.span Lx.digU (32 :: b) = 0 := by rw [Lx.span_cons, if_neg (by decide)]
      simp only [List.cons_append, List.nil_append, Lx.numberLen, h1, h2, Lx.span_nil]
      simp
    | cons d r =>
      have hs2 := hs (d :: r)
      rw [List.cons_append] at hs2
      simp only [List.cons_append, Lx.numberLen, hs2]
theorem tokL_gap (b l : List UInt8) (hl : l ≠ []) : Lx.tokL (l ++ 32 :: b) = Lx.tokL l := by
  unfold Lx.tokL
  have h2 := Lx.numberLen_le l
  rw [wordLen_gap, numberLen_gap, List.take_append_of_le_length h2]
  cases l with
  | nil => exact absurd rfl hl
  | cons c r => rfl

/-- A token that stands alone. -/
structure Alone (x : Item) : Prop where
  tok : Lx.tokL x.t.data.toList = .inr (x.k, x.t.size, x.v)
  ne : 1 ≤ x.t.size
  start : ∀ R, Lx.skipG false (x.t.data.toList ++ R) = 0
def strip (x : Item) : Int × ByteArray × Int × Int := (x.k, x.t, x.v, x.e)
theorem strip_shift (d : Nat) (x : Item) : strip (shift d x) = strip x := by
  unfold shift; split <;> rfl
theorem joinL_one (x : Item) : joinL [x] = x.t.data.toList := Lib.join_one _ _
theorem joinL_two (x y : Item) (r : List Item) : joinL (x :: y :: r) = x.t.data.toList ++ 32 :: joinL (y :: r) := by
  unfold joinL
  simp only [List.map_cons]
  rw [Lib.join_cons, Lib.join_cons]
  simp [Lib.joinTail]

theorem items_joined : ∀ (xs : List Item), (∀ x ∈ xs, Alone x ∧ x.e = 0) → ∀ f, (joinL xs).length < f → Lx.skipG false (joinL xs) = 0 ∧ (items f (joinL xs) 0).map strip = xs.map strip
  | [], _, f, _ => by
    refine ⟨rfl, ?_⟩
    rw [show joinL [] = [] from rfl, items_end _ _ _ (by simp)]
  | [x], h, f, hf => by
    obtain ⟨ha, he⟩ := h x (by simp)
    rw [joinL_one] at hf ⊢
    have hl : x.t.data.toList.length = x.t.size := rfl
    have hn := ha.ne
    obtain ⟨f', rfl⟩ : ∃ f', f = f' + 1 := ⟨f - 1, by omega⟩
    refine ⟨by have := ha.start []; rwa [List.append_nil] at this, ?_⟩
    rw [items_tok f' _ 0 (by omega) x.k x.t x.v (by rw [List.drop_zero]; exact ha.tok) (by rw [List.drop_zero, List.take_of_length_le (by omega)]; rfl), items_end _ _ _ (by omega)]
    simp [strip, he]
  | x :: y :: r, h, f, hf => by
    obtain ⟨ha, he⟩ := h x (by simp)
    have ih := items_joined (y :: r) (fun z hz => h z (List.mem_cons_of_mem _ hz))
    rw [joinL_two] at hf ⊢
    have hl : x.t.data.toList.length = x.t.size := rfl
    have hn := ha.ne
    obtain ⟨f', rfl⟩ : ∃ f', f = f' + 1 := ⟨f - 1, by omega⟩
    refine ⟨ha.start _, ?_⟩
    rw [List.length_append, List.length_cons] at hf
    obtain ⟨ih1, ih2⟩ := ih f' (by omega)
    have hne : x.t.data.toList ≠ [] := fun e => by rw [e] at hl; simp at hl; omega
    rw [items_tok f' _ 0 (by rw [List.length_append]; omega) x.k x.t x.v (by rw [List.drop_zero, tokL_gap _ _ hne]; exact ha.tok) (by rw [List.drop_zero, List.take_left' hl]; rfl)]
    rw [Nat.zero_add, List.drop_left' hl, Lx.skipG_blank 32 _ (by decide), ih1]
    have e : x.t.data.toList ++ 32 :: joinL (y :: r) = (x.t.data.toList ++ [32]) ++ joinL (y :: r) := by simp
    have e2 : x.t.size + (1 + 0) = (x.t.data.toList ++ [32]).length + 0 := by simp
    rw [e, e2, items_shift, List.map_cons, List.map_map, List.map_cons, ← ih2]
    congr 1
    · simp [strip, he]
    · apply List.map_congr_left
      intro z _; exact strip_shift _ _

theorem span_take (p : UInt8 → Bool) : ∀ l : List UInt8, Lx.span p (l.take (Lx.span p l)) = Lx.span p l
  | [] => by rw [Lx.span_nil, List.take_nil, Lx.span_nil]
  | c :: r => by
    rw [Lx.span_cons]
    by_cases h : p c = true
    · rw [if_pos h, Nat.add_comm 1, List.take_succ_cons, Lx.span_cons, if_pos h, span_take p r]; omega
    · rw [if_neg h, List.take_zero, Lx.span_nil]
theorem wordLen_take (l : List UInt8) (h : 0 < Lx.wordLen l) : Lx.wordLen (l.take (Lx.wordLen l)) = Lx.wordLen l := by
  cases l with
  | nil => simp [Lx.wordLen] at h
  | cons c r =>
    simp only [Lx.wordLen] at h ⊢
    by_cases hc : Lx.letU c = true
    · rw [if_pos hc, Nat.add_comm 1, List.take_succ_cons]; simp only; rw [if_pos hc, span_take]; omega
    · rw [if_neg hc] at h; omega
theorem wordLen_take0 (l : List UInt8) (n : Nat) (h : Lx.wordLen l = 0) : Lx.wordLen (l.take n) = 0 := by
  cases l with
  | nil => rw [List.take_nil]; rfl
  | cons c r =>
    cases n with
    | zero => rfl
    | succ n =>
      rw [List.take_succ_cons]
      simp only [Lx.wordLen] at h ⊢
      by_cases hc : Lx.letU c = true
      · rw [if_pos hc] at h; omega
      · rw [if_neg hc]
theorem numberLen_take (l : List UInt8) (h : 0 < Lx.numberLen l) : Lx.numberLen (l.take (Lx.numberLen l)) = Lx.numberLen l := by
  cases l with
  | nil => simp [Lx.numberLen] at h
  | cons c r =>
    by_cases h48 : c = 48
    · subst h48; simp [Lx.numberLen]
    · by_cases h45 : c = 45
      · subst h45
        cases r with
        | nil => simp [Lx.numberLen] at h
        | cons d r' =>
          by_cases hd : d ≠ 48 ∧ Lx.digU d = true
          · have hs := span_take Lx.digU (d :: r')
            have hm : ∀ q, Lx.numberLen (45 :: d :: q) = 1 + Lx.span Lx.digU (d :: q) := fun q => by
              simp only [Lx.numberLen]; rw [if_neg (by decide), if_pos trivial, if_neg hd.1, if_pos hd.2]
            have h1 : 1 ≤ Lx.span Lx.digU (d :: r') := by rw [Lx.span_cons, if_pos hd.2]; omega
            obtain ⟨n, hn⟩ : ∃ n, Lx.span Lx.digU (d :: r') = n + 1 := ⟨_, (Nat.sub_add_cancel h1).symm⟩
            rw [hn, List.take_succ_cons] at hs
            rw [hm, hn, show 1 + (n + 1) = n + 1 + 1 by omega, List.take_succ_cons, List.take_succ_cons, hm, hs]; omega
          · exfalso
            simp only [Lx.numberLen] at h
            rw [if_neg (by decide), if_pos trivial] at h
            by_cases e : d = 48
            · rw [if_pos e] at h; omega
            · rw [if_neg e, if_neg (fun x => hd ⟨e, x⟩)] at h; omega
      · by_cases hd : Lx.digU c = true
        · have hm : ∀ q, Lx.numberLen (c :: q) = 1 + Lx.span Lx.digU q := fun q => by
            simp only [Lx.numberLen]; rw [if_neg h48, if_neg h45, if_pos hd]
          rw [hm, Nat.add_comm 1, List.take_succ_cons, hm, span_take]; omega
        · exfalso
          simp only [Lx.numberLen] at h
          rw [if_neg h48, if_neg h45, if_neg hd] at h; omega
theorem numberLen_one (c : UInt8) (r : List UInt8) (h : Lx.numberLen (c :: r) = 0) : Lx.numberLen [c] = 0 := by
  simp only [Lx.numberLen] at h ⊢
  by_cases h48 : c = 48
  · rw [if_pos h48] at h; omega
  · rw [if_neg h48] at h ⊢
    by_cases h45 : c = 45
    · rw [if_pos h45]
    · rw [if_neg h45] at h ⊢
      by_cases hd : Lx.digU c = true
      · rw [if_pos hd] at h; omega
      · rw [if_neg hd]

theorem tokL_take (l : List UInt8) (k : Int) (n : Nat) (v : Int) (h : Lx.tokL l = .inr (k, n, v)) : Lx.tokL (l.take n) = .inr (k, n, v) := by
  by_cases hw : 0 < Lx.wordLen l
  · rw [Lx.tokL_word hw] at h
    cases h
    rw [Lx.tokL_word (by rw [wordLen_take l hw]; exact hw), wordLen_take l hw]
  · have hw0 : Lx.wordLen l = 0 := by omega
    by_cases hn : 0 < Lx.numberLen l
    · rcases Lx.numberLen_num _ hn with ⟨u, hu⟩ | hr
      · rw [Lx.tokL_number hw hn hu] at h
        cases h
        have e := numberLen_take l hn
        have hu2 : Lib.parseIntB 64 ((l.take (Lx.numberLen l)).take (Lx.numberLen (l.take (Lx.numberLen l)))) = .ok v := by
          rw [e, List.take_take, Nat.min_self]; exact hu
        rw [Lx.tokL_number (by rw [wordLen_take0 _ _ hw0]; omega) (by rw [e]; exact hn) hu2, e]
      · rw [Lx.tokL_range hw hn hr] at h; cases h
    · cases l with
      | nil => unfold Lx.tokL at h; rw [if_neg hw, if_neg hn] at h; cases h
      | cons c r =>
        by_cases hg : Lx.isSign c = true
        · rw [Lx.tokL_sign hw hn hg] at h
          cases h
          have e1 := wordLen_take0 (c :: r) 1 hw0
          have e2 := numberLen_one c r (by omega)
          rw [List.take_succ_cons, List.take_zero] at e1 ⊢
          exact Lx.tokL_sign (by omega) (by omega) hg
        · rw [Lx.tokL_none hw hn hg] at h; cases h

theorem byte_start (c : UInt8) : (!(Lx.letU c || Lx.digU c || c == 45 || Lx.isSign c) || (!Lx.blank c && c != 35)) = true :=
  all_bytes (p := fun c => (!(Lx.letU c || Lx.digU c || c == 45 || Lx.isSign c) || (!Lx.blank c && c != 35))) (q := fun _ => true) (by decide +kernel) c
theorem start_of (c : UInt8) (R : List UInt8) (h : (Lx.letU c || Lx.digU c || c == 45 || Lx.isSign c) = true) : Lx.skipG false (c :: R) = 0 := by
  have := byte_start c
  rw [h] at this
  simp at this
  exact Lx.skipG_stop c R this.1 this.2
theorem first_of (c : UInt8) (r : List UInt8) (k : Int) (n : Nat) (v : Int) (h : Lx.tokL (c :: r) = .inr (k, n, v)) : (Lx.letU c || Lx.digU c || c == 45 || Lx.isSign c) = true := by
  cases hl : Lx.letU c with
  | true => rfl
  | false =>
    cases hd : Lx.digU c with
    | true => rfl
    | false =>
      by_cases h45 : c = 45
      · subst h45; rfl
      · have h48 : c ≠ 48 := fun e => by subst e; exact absurd hd (by decide)
        have hw : Lx.wordLen (c :: r) = 0 := by simp only [Lx.wordLen]; rw [if_neg (by simp [hl])]
        have hn : Lx.numberLen (c :: r) = 0 := by simp only [Lx.numberLen]; rw [if_neg h48, if_neg h45, if_neg (by simp [hd])]
        cases hg : Lx.isSign c with
        | true => simp
        | false => rw [Lx.tokL_none (by omega) (by omega) (by simp [hg])] at h; cases h

theorem items_alone : ∀ (f : Nat) (L : List UInt8) (a : Nat), ∀ x ∈ items f L a, x.e = 0 → Alone x
  | 0, _, _, x, h, _ => by cases h
  | f + 1, L, a, x, h, h0 => by
    by_cases ha : a < L.length
    · rcases tokL_cases L a ha with ⟨e, he, he'⟩ | ⟨k, t, v, ht, htx, h1, h2⟩
      · rw [items_err f L a ha e he] at h
        rw [List.mem_singleton.1 h] at h0
        simp at h0; omega
      · rw [items_tok f L a ha k t v ht htx] at h
        rcases List.mem_cons.1 h with rfl | h
        · have et : t.data.toList = (L.drop a).take t.size := by
            have := congrArg (fun b : ByteArray => b.data.toList) htx
            exact this
          have h3 := tokL_take _ k t.size v ht
          rw [← et] at h3
          refine ⟨h3, h1, fun R => ?_⟩
          show Lx.skipG false (t.data.toList ++ R) = 0
          cases hc : t.data.toList with
          | nil => have : t.data.toList.length = t.size := rfl; rw [hc] at this; simp at this; omega
          | cons c r =>
            rw [hc] at h3
            exact start_of c _ (first_of c r k _ v h3)
        · exact items_alone f L _ x h h0
    · rw [items_end _ _ _ ha] at h; cases h

end Go.Proofs.YtenhjddkocldaaaDoor
