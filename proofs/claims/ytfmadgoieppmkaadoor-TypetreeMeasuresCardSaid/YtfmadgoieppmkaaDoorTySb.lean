/- Types: the program's table of rules, made. -/
import Derived.Test.YtfmadgoieppmkaaDoorTySa
namespace Go.Proofs.YtfmadgoieppmkaaDoor
open Go.RowKit

theorem run_makeMap_rules (w : World) : (Instr.makeMap 61 none).run Tryd.prog w = .ok (.map (some w.heap.size)) (w.alloc (.map #[] 0)) := by
  simp [Instr.makeMap]

open Classical in
set_option maxHeartbeats 2000000 in
theorem rules_any (w : World) :
    Calls Tryd.prog 49 #[] w fun e w' => ∃ b, e = .returned (.map (some b)) ∧ RulesAt w' b ∧ Below w.heap.size w w' ∧ w.heap.size ≤ b := by
  have hmk := run_makeMap_rules w
  have m0 := MapIs.made w 3
  obtain ⟨w1, u1, m1, g1⟩ := m0.put intKeyed Tryd.underlying61 (by unfold maxLen; omega) (key_int (a := 1) (by omega) (by omega)) trivial (val := .agg #[.bool false, .bool false, .bool false, .bool false, .int .i64 0, .int .i64 0])
  obtain ⟨w2, u2, m2, g2⟩ := m1.put intKeyed Tryd.underlying61 (by unfold maxLen; omega) (key_int (a := 2) (by omega) (by omega)) trivial (val := .agg #[.bool false, .bool false, .bool false, .bool false, .int .i64 0, .int .i64 0])
  obtain ⟨w3, u3, m3, g3⟩ := m2.put intKeyed Tryd.underlying61 (by unfold maxLen; omega) (key_int (a := 3) (by omega) (by omega)) trivial (val := .agg #[.bool false, .bool false, .bool false, .bool false, .int .i64 0, .int .i64 0])
  obtain ⟨w4, u4, m4, g4⟩ := m3.put intKeyed Tryd.underlying61 (by unfold maxLen; omega) (key_int (a := 4) (by omega) (by omega)) trivial (val := .agg #[.bool true, .bool false, .bool false, .bool false, .int .i64 2, .int .i64 1])
  obtain ⟨w5, u5, m5, g5⟩ := m4.put intKeyed Tryd.underlying61 (by unfold maxLen; omega) (key_int (a := 5) (by omega) (by omega)) trivial (val := .agg #[.bool true, .bool false, .bool false, .bool false, .int .i64 2, .int .i64 1])
  obtain ⟨w6, u6, m6, g6⟩ := m5.put intKeyed Tryd.underlying61 (by unfold maxLen; omega) (key_int (a := 6) (by omega) (by omega)) trivial (val := .agg #[.bool true, .bool false, .bool false, .bool true, .int .i64 0, .int .i64 0])
  obtain ⟨w7, u7, m7, g7⟩ := m6.put intKeyed Tryd.underlying61 (by unfold maxLen; omega) (key_int (a := 7) (by omega) (by omega)) trivial (val := .agg #[.bool true, .bool false, .bool false, .bool true, .int .i64 0, .int .i64 0])
  obtain ⟨w8, u8, m8, g8⟩ := m7.put intKeyed Tryd.underlying61 (by unfold maxLen; omega) (key_int (a := 8) (by omega) (by omega)) trivial (val := .agg #[.bool false, .bool true, .bool false, .bool false, .int .i64 1, .int .i64 0])
  obtain ⟨w9, u9, m9, g9⟩ := m8.put intKeyed Tryd.underlying61 (by unfold maxLen; omega) (key_int (a := 9) (by omega) (by omega)) trivial (val := .agg #[.bool false, .bool true, .bool true, .bool false, .int .i64 0, .int .i64 0])
  have hb0 : Below w.heap.size w (w.alloc (.map #[] 0)) := (Below.refl _ _).alloc (Nat.le_refl _) _
  have hb1 := hb0.grown g1 hb0.size (fun k e => by cases e; exact Nat.le_refl _)
  have hb2 := hb1.grown g2 hb1.size (fun k e => by cases e; exact Nat.le_refl _)
  have hb3 := hb2.grown g3 hb2.size (fun k e => by cases e; exact Nat.le_refl _)
  have hb4 := hb3.grown g4 hb3.size (fun k e => by cases e; exact Nat.le_refl _)
  have hb5 := hb4.grown g5 hb4.size (fun k e => by cases e; exact Nat.le_refl _)
  have hb6 := hb5.grown g6 hb5.size (fun k e => by cases e; exact Nat.le_refl _)
  have hb7 := hb6.grown g7 hb6.size (fun k e => by cases e; exact Nat.le_refl _)
  have hb8 := hb7.grown g8 hb7.size (fun k e => by cases e; exact Nat.le_refl _)
  have hb9 := hb8.grown g9 hb8.size (fun k e => by cases e; exact Nat.le_refl _)
  have hr : RulesAt w9 w.heap.size := by
    refine m9.congr (fun l => ?_)
    by_cases hl : ∃ k, l = .int .i64 k
    · obtain ⟨k, rfl⟩ := hl
      simp only [Lit.int.injEq, true_and, ruleF]
      by_cases hk : knK k
      · rw [if_pos hk]
        have hk' : 1 ≤ k ∧ k ≤ 9 := by simpa [knK] using hk
        have hcase : k = 1 ∨ k = 2 ∨ k = 3 ∨ k = 4 ∨ k = 5 ∨ k = 6 ∨ k = 7 ∨ k = 8 ∨ k = 9 := by omega
        rcases hcase with rfl | rfl | rfl | rfl | rfl | rfl | rfl | rfl | rfl <;> simp [ruleVal, actB, r2K, r3K, r4K, kidsK, paysK]
      · rw [if_neg hk]
        have hk' : ¬ (1 ≤ k ∧ k ≤ 9) := by simpa [knK] using hk
        rw [if_neg (by omega), if_neg (by omega), if_neg (by omega), if_neg (by omega), if_neg (by omega), if_neg (by omega), if_neg (by omega), if_neg (by omega), if_neg (by omega)]
    · have hne : ∀ k, l ≠ .int .i64 k := fun k e => hl ⟨k, e⟩
      have hn : ruleF l = none := by
        unfold ruleF
        split
        · rename_i k; exact absurd rfl (hne k)
        · rfl
      rw [hn]
      simp only [hne, if_false]
  have HR := Lib.hid hr
  have HB := Lib.hid hb9
  clear m0 m1 m2 m3 m4 m5 m6 m7 m8 m9 g1 g2 g3 g4 g5 g6 g7 g8 g9 hb0 hb1 hb2 hb3 hb4 hb5 hb6 hb7 hb8 hb9 hr
  go_enter Tryd.func49, Tryd.ntmps49
  go_wp2_with fail
  go_ret
  exact ⟨_, rfl, HR.out, HB.out, Nat.le_refl _⟩

end Go.Proofs.YtfmadgoieppmkaaDoor
