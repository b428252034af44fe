/- Join, at every list of tokens; the length of joined tokens. -/
import Derived.Test.YtenhjddkocldaaaDoorLexJ2
namespace Go.Proofs.YtenhjddkocldaaaDoor
open Go.RowKit Go.Shelf Go.Deep

theorem items_joinlen : ∀ (f : Nat) (L : List UInt8) (a : Nat), (joinL (items f L a)).length ≤ 2 * (L.length - a)
  | 0, L, a => by simp [items, joinL, Lib.join_nil]
  | f + 1, L, a => by
    by_cases ha : a < L.length
    · rcases tokL_cases L a ha with ⟨e, he, he'⟩ | ⟨k, t, v, ht, htx, h1, h2⟩
      · rw [items_err f L a ha e he, joinL_one]; simp
      · rw [items_tok f L a ha k t v ht htx]
        have ih := items_joinlen f L (a + t.size + Lx.skipG false (L.drop (a + t.size)))
        have hl : t.data.toList.length = t.size := rfl
        cases hr : items f L (a + t.size + Lx.skipG false (L.drop (a + t.size))) with
        | nil => rw [joinL_one]; show t.data.toList.length ≤ _; omega
        | cons y r =>
          rw [hr] at ih
          rw [joinL_two, List.length_append, List.length_cons]
          show t.data.toList.length + _ ≤ _
          omega
    · rw [items_end _ _ _ ha]; simp [joinL, Lib.join_nil]

theorem rjoin_nil (w : World) :
    Calls Tryd.prog 18 #[.slice none 0 0] w fun e w' => e = .returned (.string ⟨#[]⟩) ∧ Drew w w' := by
  go_enter Tryd.func18, Tryd.ntmps18
  go_wp2_with fail
  go_loop [3, 4] (fun s i => i = .int .i64 0 ∧ s = .string ⟨#[]⟩) (fun _ _ => 0)
  case atStart => exact ⟨rfl, rfl⟩
  case round =>
    obtain ⟨rfl, rfl⟩ := hrel
    go_wp2_with fail
    go_ret
    exact ⟨rfl, Drew.refl _⟩
theorem rjoin_holds (v : Value) (xs : List Item) (w : World) (h : Holds w v xs) (hn : xs.length ≤ 1048576) (hlen : (joinL xs).length ≤ 140737488355328) :
    Calls Tryd.prog 18 #[v] w fun e w' => e = .returned (.string (txt (joinL xs))) ∧ Drew w w' := by
  rcases h with ⟨rfl, rfl⟩ | ⟨g, o, cap, rfl, _, ht⟩
  · exact rjoin_nil w
  · exact rjoin_any g o cap xs w ht hn hlen

set_option maxHeartbeats 1000000 in
set_option maxRecDepth 100000 in
theorem join_nil_n (n : Nat) (hn : Hid (n = 0)) (w : World) :
    Calls Tryd.prog 17 #[.slice none n 0] w fun e w' => e = .returned (.string ⟨#[]⟩) ∧ Below w.heap.size w w' := by
  have hn6 : n ≤ 1048576 := by rw [hn.out]; decide
  have hmk := run_make_row' (P := Tryd.prog) 53 9 (.string ⟨#[]⟩) 16 Tryd.underlying53 strInfo rfl .i64 .i64 n (by omega) (by omega)
  have h0 : ¬ 0 < n := by rw [hn.out]; decide
  have hJ : ∀ (a : Option Addr) (w : World), Calls Tryd.prog 27 #[.slice a n n, .string ⟨#[32]⟩] w fun e w' => e = .returned (.string ⟨#[]⟩) ∧ w' = w := fun a w => by
    rw [hn.out]; exact Tryd.strings_Join_none a 0 ⟨#[32]⟩ w
  have HJ := Lib.hid hJ
  clear hJ
  go_enter Tryd.func17, Tryd.ntmps17
  go_wp2_with fail
  go_loop [11] (fun i => i = .int .i64 0) (fun _ => 0)
  case atStart => rfl
  case round =>
    obtain rfl := hrel
    clear hmk
    go_wp2_with (go_at_call 27; refine (HJ.out _ _).mono ?_; rintro e w' ⟨rfl, rfl⟩)
    go_ret
    exact ⟨rfl, (Below.refl _ _).alloc (Nat.le_refl _) _⟩
theorem join_holds (v : Value) (xs : List Item) (w : World) (h : Holds w v xs) (hn : xs.length ≤ 1048576) (hlen : (joinL xs).length ≤ 140737488355328) :
    Calls Tryd.prog 17 #[v] w fun e w' => e = .returned (.string (txt (joinL xs))) ∧ Below w.heap.size w w' := by
  rcases h with ⟨rfl, rfl⟩ | ⟨g, o, cap, rfl, hg, ht⟩
  · exact join_nil_n 0 (Lib.hid rfl) w
  · exact join_any g o cap xs w hg ht hn hlen

end Go.Proofs.YtenhjddkocldaaaDoor
