/- The reference's tokens. -/
import Derived.Test.YtenhjddkocldaaaDoorLexZc
namespace Go.Proofs.YtenhjddkocldaaaDoor
open Go.RowKit Go.Shelf Go.Deep

theorem tokL_of (l : List UInt8) : Lx.tokL l = if tl l = 0 then .inl 1 else if tk l = 2 then (match rv (l.take (tl l)) with | some v => .inr (2, tl l, v) | none => .inl 2) else .inr ((tk l : Nat), tl l, 0) := by
  unfold Lx.tokL tl tk rv
  by_cases hw : 0 < Lx.wordLen l
  · simp only [hw, if_true]
    rw [if_neg (by omega)]; simp
  · simp only [hw, if_false]
    by_cases hn : 0 < Lx.numberLen l
    · simp only [hn, if_true]
      rw [if_neg (by omega)]
      cases Lib.parseIntB 64 (l.take (Lx.numberLen l)) <;> rfl
    · simp only [hn, if_false]
      cases l with
      | nil => rfl
      | cons c r =>
        simp only
        cases Lx.isSign c <;> simp

/-- What is left to yield from a place on, blanks and comments first. -/
def Left (L : List UInt8) (a : Nat) (I ys : List Item) : Prop := ∃ f, L.length < f + a ∧ I = ys ++ items f L (a + Lx.skipG false (L.drop a))
theorem left_blank {s : ByteArray} {a : Nat} (h : a < s.size) {I ys : List Item} (hb : Lx.blank s[a] = true) (hl : Left s.data.toList a I ys) : Left s.data.toList (a + 1) I ys := by
  obtain ⟨f, hf, e⟩ := hl
  refine ⟨f, by omega, ?_⟩
  rw [e, drop_at s a h, Lx.skipG_blank _ _ hb, Nat.add_assoc]
theorem left_hash {s : ByteArray} {a j : Nat} (h : a < s.size) {I ys : List Item} (hb : s[a] = 35) (hj : Lx.commentLen (s.data.toList.drop a) = j) (hl : Left s.data.toList a I ys) : Left s.data.toList (a + j) I ys := by
  obtain ⟨f, hf, e⟩ := hl
  refine ⟨f, by omega, ?_⟩
  have hd := drop_at s a h
  rw [hb] at hd
  rw [e, hd, Lx.skipG_hash, ← hd, hj, List.drop_drop, Nat.add_assoc]
theorem left_stop {s : ByteArray} {a : Nat} (h : a < s.size) {I ys : List Item} (hb : Lx.blank s[a] = false) (h35 : s[a] ≠ 35) (hl : Left s.data.toList a I ys) : ∃ f, s.size < f + 1 + a ∧ I = ys ++ items (f + 1) s.data.toList a := by
  obtain ⟨f, hf, e⟩ := hl
  have hf' : s.size < f + a := hf
  obtain ⟨f', rfl⟩ : ∃ f', f = f' + 1 := ⟨f - 1, by omega⟩
  refine ⟨f', by omega, ?_⟩
  rw [e, drop_at s a h, Lx.skipG_stop _ _ hb h35]
  rfl
theorem left_end {L : List UInt8} {a : Nat} (h : ¬ a < L.length) {I ys : List Item} (hl : Left L a I ys) : I = ys := by
  obtain ⟨f, hf, e⟩ := hl
  rw [e, items_end _ _ _ (by omega), List.append_nil]
theorem left_err {s : ByteArray} {a : Nat} (h : a < s.size) {I ys : List Item} (hb : Lx.blank s[a] = false) (h35 : s[a] ≠ 35) (hl : Left s.data.toList a I ys) (e : Int) (he : Lx.tokL (s.data.toList.drop a) = .inl e) : I = ys ++ [⟨0, ⟨#[]⟩, 0, 0, e, a⟩] := by
  obtain ⟨f, hf, ee⟩ := left_stop h hb h35 hl
  rw [ee, items_err _ _ _ (by exact h) e he]
theorem left_tok {s : ByteArray} {a : Nat} (h : a < s.size) {I ys : List Item} (hb : Lx.blank s[a] = false) (h35 : s[a] ≠ 35) (hl : Left s.data.toList a I ys) (k : Int) (m : Nat) (v : Int) (hm : 0 < m) (hml : a + m ≤ s.size) (ht : Lx.tokL (s.data.toList.drop a) = .inr (k, m, v)) :
    Left s.data.toList (a + m) I (ys ++ [⟨k, s.extract a (a + m), v, a, 0, 0⟩]) := by
  obtain ⟨f, hf, ee⟩ := left_stop h hb h35 hl
  have hz : (s.extract a (a + m)).size = m := by rw [ByteArray.size_extract]; omega
  have hx : s.extract a (a + m) = txt ((s.data.toList.drop a).take m) := by
    have := take_at s a (a + m)
    rw [show a + m - a = m by omega] at this
    rw [← this]; rfl
  refine ⟨f, by show s.size < _; omega, ?_⟩
  rw [ee, items_tok f _ a (by exact h) k (s.extract a (a + m)) v (by rw [hz]; exact ht) (by rw [hz]; exact hx), hz, List.append_assoc]
  rfl

theorem comment_at (s : ByteArray) (a j : Nat) (h : a + j ≤ s.size) (h1 : ∀ i (hi : i < j), s[a + i]'(by omega) ≠ 10) (h2 : ∀ h : a + j < s.size, s[a + j] = 10) : Lx.commentLen (s.data.toList.drop a) = j := by
  have hlen : (s.data.toList.drop a).length = s.size - a := by rw [List.length_drop]; rfl
  unfold Lx.commentLen
  refine Lx.span_eq _ _ _ (by omega) (fun i hi hij => ?_) (fun hj => ?_)
  · rw [List.getElem_drop]
    have := h1 i hij
    have e : s.data.toList[a + i]'(by show a + i < s.size; omega) = s[a + i]'(by omega) := rfl
    rw [e]; simpa using this
  · rw [List.getElem_drop]
    have := h2 (by omega)
    have e : s.data.toList[a + j]'(by show a + j < s.size; omega) = s[a + j]'(by omega) := rfl
    rw [e, this]; rfl

end Go.Proofs.YtenhjddkocldaaaDoor
