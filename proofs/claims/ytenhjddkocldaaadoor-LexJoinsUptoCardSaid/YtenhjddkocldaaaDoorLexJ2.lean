/- The reference's Join. -/
import Derived.Test.YtenhjddkocldaaaDoorLexJ1
namespace Go.Proofs.YtenhjddkocldaaaDoor
open Go.RowKit Go.Shelf Go.Deep

theorem joinL_snoc : ∀ (ys : List Item) (x : Item), ys ≠ [] → joinL (ys ++ [x]) = joinL ys ++ 32 :: x.t.data.toList
  | [], _, h => absurd rfl h
  | [y], x, _ => by rw [List.singleton_append, joinL_two, joinL_one, joinL_one]
  | y :: z :: r, x, _ => by
    have ih := joinL_snoc (z :: r) x (by simp)
    rw [List.cons_append] at ih
    rw [List.cons_append, List.cons_append, joinL_two, joinL_two, ih, List.append_assoc, List.cons_append]
theorem joinL_take_le : ∀ (xs : List Item) (k : Nat), (joinL (xs.take k)).length ≤ (joinL xs).length
  | [], k => by rw [List.take_nil]; exact Nat.le_refl _
  | [x], 0 => by simp [joinL, Lib.join_nil]
  | [x], k + 1 => by rw [List.take_succ_cons, List.take_nil]; exact Nat.le_refl _
  | x :: y :: r, 0 => by simp [joinL, Lib.join_nil]
  | x :: y :: r, 1 => by rw [List.take_succ_cons, List.take_zero, joinL_one, joinL_two, List.length_append]; omega
  | x :: y :: r, k + 2 => by
    have ih := joinL_take_le (y :: r) (k + 1)
    rw [List.take_succ_cons] at ih
    rw [List.take_succ_cons, List.take_succ_cons, joinL_two, joinL_two, List.length_append, List.length_append, List.length_cons, List.length_cons]; omega
theorem nil_app (t : ByteArray) : (⟨#[]⟩ : ByteArray) ++ t = t := by
  apply ByteArray.ext; simp

set_option maxHeartbeats 1000000 in
theorem rjoin_any (g o cap : Nat) (xs : List Item) (w : World) (ht : TokAt w g o xs) (hn : xs.length ≤ 1048576) (hlen : (joinL xs).length ≤ 140737488355328) :
    Calls Tryd.prog 18 #[.slice (some ⟨g, o, none⟩) xs.length cap] w fun e w' => e = .returned (.string (txt (joinL xs))) ∧ Drew w w' := by
  obtain ⟨n, hn'⟩ : ∃ n, n = xs.length := ⟨_, rfl⟩
  rw [← hn'] at hn ⊢
  have HN := Lib.hid hn'
  have HL := Lib.hid hlen
  clear hn' hlen
  go_enter Tryd.func18, Tryd.ntmps18
  go_wp2_with fail
  go_loopw [3, 4] (fun s i wr => ∃ (k : Nat) (t : ByteArray), i = .int .i64 k ∧ s = .string t ∧ k ≤ n ∧ Hid (t = txt (joinL (xs.take k))) ∧ t.size ≤ 140737488355328 ∧ Drew w wr) (fun _ i _ => n - (intOf i).toNat)
  case atStart => exact ⟨0, ⟨#[]⟩, rfl, rfl, by omega, Lib.hid (by rw [List.take_zero]; rfl), by decide, Drew.refl _⟩
  case round =>
    obtain ⟨k, t, rfl, rfl, hk, htk, hts, hdr⟩ := hrel
    by_cases hlt : k < n
    · obtain ⟨x, hx⟩ : ∃ x, xs[k]? = some x := ⟨_, List.getElem?_eq_getElem (by rw [← HN.out]; exact hlt)⟩
      obtain ⟨c0, c1, c2, c3⟩ := ht k x hx
      have htake : xs.take (k + 1) = xs.take k ++ [x] := by rw [List.take_add_one, hx, Option.toList_some]
      have hle := joinL_take_le xs (k + 1)
      by_cases hk0 : k = 0
      · subst hk0
        rw [htake, List.take_zero, List.nil_append, joinL_one] at hle
        have ht0 : t = ⟨#[]⟩ := by rw [htk.out, List.take_zero]; rfl
        have hsz : x.t.size ≤ 140737488355328 := by have : x.t.data.toList.length = x.t.size := rfl; have := HL.out; omega
        have HT := Lib.hid (show x.t = txt (joinL (xs.take (0 + 1))) by rw [htake, List.take_zero, List.nil_append, joinL_one]; rfl)
        subst ht0
        clear hx htake hle
        obtain ⟨nq, rfl⟩ := hdr
        go_wp2_with fail
        go_roundw
        case rel => exact ⟨1, ⟨#[]⟩ ++ x.t, rfl, rfl, by omega, Lib.hid (by rw [nil_app]; exact HT.out), by rw [nil_app]; exact hsz, ⟨nq, rfl⟩⟩
        case measure => simp [intOf]; omega
      · have hne : xs.take k ≠ [] := fun e => by have := congrArg List.length e; rw [List.length_take, ← HN.out] at this; simp at this; omega
        rw [htake, joinL_snoc _ _ hne, List.length_append, List.length_cons] at hle
        have hsz : t.size + 1 + x.t.size ≤ 140737488355328 := by
          have h1 : x.t.data.toList.length = x.t.size := rfl
          have h2 := HL.out
          have h3 : t.size = (joinL (xs.take k)).length := by rw [htk.out]; rfl
          omega
        have HT := Lib.hid (show (t ++ ⟨#[32]⟩) ++ x.t = txt (joinL (xs.take (k + 1))) by
          rw [htake, joinL_snoc _ _ hne, htk.out]
          apply ByteArray.ext; simp [txt])
        clear hx htake hle hne
        obtain ⟨nq, rfl⟩ := hdr
        go_wp2_with fail
        go_roundw
        case rel => exact ⟨k + 1, t ++ ⟨#[32]⟩ ++ x.t, by go_num, rfl, by omega, HT, by rw [ByteArray.size_append, ByteArray.size_append]; exact hsz, ⟨nq, rfl⟩⟩
        case measure => simp [intOf]; omega
    · obtain rfl : k = n := by omega
      have HR := Lib.hid (show t = txt (joinL xs) by rw [htk.out, HN.out, List.take_length])
      go_wp2_with fail
      go_ret
      exact ⟨by rw [← HR.out]; rfl, hdr⟩

end Go.Proofs.YtenhjddkocldaaaDoor
