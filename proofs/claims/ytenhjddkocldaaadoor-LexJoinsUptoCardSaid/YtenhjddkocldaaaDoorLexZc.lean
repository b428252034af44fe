/- The reference's values, at texts of numbers. -/
import Derived.Test.YtenhjddkocldaaaDoorLexZb
namespace Go.Proofs.YtenhjddkocldaaaDoor
open Go.RowKit Go.Shelf Go.Deep

def NumForm (l : List UInt8) : Prop := (∃ r, l = 45 :: r ∧ r ≠ [] ∧ ∀ c ∈ r, Lx.digU c = true) ∨ (∃ c r, l = c :: r ∧ ∀ d ∈ c :: r, Lx.digU d = true)
theorem numform_take (l : List UInt8) (h : 0 < Lx.numberLen l) : NumForm (l.take (Lx.numberLen l)) := by
  cases l with
  | nil => simp [Lx.numberLen] at h
  | cons c r =>
    simp only [Lx.numberLen] at h ⊢
    by_cases h48 : c = 48
    · subst h48; right; exact ⟨48, [], by rw [if_pos rfl]; rfl, by simp; decide⟩
    · rw [if_neg h48] at h ⊢
      by_cases h45 : c = 45
      · subst h45
        rw [if_pos rfl] at h ⊢
        cases r with
        | nil => simp at h
        | cons d r' =>
          simp only at h ⊢
          by_cases hd48 : d = 48
          · rw [if_pos hd48] at h; exact absurd h (by decide)
          · rw [if_neg hd48] at h ⊢
            by_cases hd : Lx.digU d = true
            · rw [if_pos hd] at h ⊢
              rw [Nat.add_comm 1, List.take_succ_cons]
              left
              refine ⟨_, rfl, ?_, Lx.take_span _ _⟩
              rw [Lx.span_cons, if_pos hd, Nat.add_comm 1, List.take_succ_cons]; simp
            · rw [if_neg hd] at h; exact absurd h (by decide)
      · rw [if_neg h45] at h ⊢
        by_cases hd : Lx.digU c = true
        · rw [if_pos hd] at h ⊢
          rw [Nat.add_comm 1, List.take_succ_cons]
          right
          refine ⟨_, _, rfl, ?_⟩
          intro x hx
          rcases List.mem_cons.1 hx with rfl | hx
          · exact hd
          · exact Lx.take_span _ _ x hx
        · rw [if_neg hd] at h; exact absurd h (by decide)

def ovT : Option Int → Value
  | some v => okT v
  | none => noT

theorem dig_at (s : ByteArray) (j : Nat) (h : j < s.size) (hd : Lx.digU s[j] = true) : 48 ≤ s[j].toNat ∧ s[j].toNat ≤ 57 := dig_iff hd
theorem at_list (s : ByteArray) (l : List UInt8) (h : s.data.toList = l) (j : Nat) (hj : j < s.size) : ∃ hj' : j < l.length, s[j] = l[j] := by
  subst h; exact ⟨hj, rfl⟩

theorem rvalue_any (s : ByteArray) (hs : s.size ≤ 281474976710656) (hf : NumForm s.data.toList) (w : World) :
    Calls Tryd.prog 24 #[.string s] w fun e w' => e = .returned (ovT (rv s.data.toList)) ∧ Drew w w' := by
  have hsz : s.size = s.data.toList.length := rfl
  rcases hf with ⟨r, hl, hr, hd⟩ | ⟨c, r, hl, hd⟩
  · rw [hl, List.length_cons] at hsz
    have h0 : 0 < s.size := by omega
    obtain ⟨_, e0⟩ := at_list s _ hl 0 h0
    simp only [List.getElem_cons_zero] at e0
    have hv := vAt_all s 1 (by omega)
    rw [hl, List.drop_one, List.tail_cons] at hv
    have hR : negT (vAt s 1 (s.size - 1)) = ovT (rv s.data.toList) := by
      rw [hv, hl, rv_minus r hr hd]; unfold negT
      by_cases h : dval 0 r ≤ 2 ^ 63
      · rw [if_pos h, if_pos h]; rfl
      · rw [if_neg h, if_neg h]; rfl
    rw [← hR]
    refine rvalue_minus s hs h0 (by rw [e0]; rfl) (Lib.hid fun j hj h1 => ?_) w
    obtain ⟨hj', ej⟩ := at_list s _ hl j hj
    refine dig_at s j hj ?_
    rw [ej]
    obtain ⟨i, rfl⟩ : ∃ i, j = i + 1 := ⟨j - 1, by omega⟩
    rw [List.getElem_cons_succ]
    exact hd _ (List.getElem_mem _)
  · rw [hl, List.length_cons] at hsz
    have h0 : 0 < s.size := by omega
    obtain ⟨_, e0⟩ := at_list s _ hl 0 h0
    simp only [List.getElem_cons_zero] at e0
    have hv := vAt_all s 0 (by omega)
    rw [hl, List.drop_zero, Nat.sub_zero] at hv
    have hR : posT (vAt s 0 s.size) = ovT (rv s.data.toList) := by
      rw [hv, hl, rv_plain c r hd]; unfold posT
      by_cases h : dval 0 (c :: r) < 2 ^ 63
      · rw [if_pos h, if_pos h]; rfl
      · rw [if_neg h, if_neg h]; rfl
    rw [← hR]
    refine rvalue_plain s hs h0 ?_ (Lib.hid fun j hj => ?_) w
    · have := dig_iff (hd c (by simp))
      rw [e0, beq_eq_false_iff_ne]; omega
    · obtain ⟨hj', ej⟩ := at_list s _ hl j hj
      refine dig_at s j hj ?_
      rw [ej]
      exact hd _ (List.getElem_mem _)

end Go.Proofs.YtenhjddkocldaaaDoor
