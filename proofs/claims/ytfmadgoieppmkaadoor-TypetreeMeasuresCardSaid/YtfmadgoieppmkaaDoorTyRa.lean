/- Types: the program's small checks. -/
import Derived.Test.YtfmadgoieppmkaaDoorTyOe
namespace Go.Proofs.YtfmadgoieppmkaaDoor
open Go.RowKit

def numB (n : Int) (has : Bool) : Bool := if has then prioB n else n == 0
set_option maxHeartbeats 400000 in
theorem numberFits_any (n : Int) (has : Bool) (w : World) : Calls Tryd.prog 105 #[.int .i64 n, .bool has] w fun e w' => e = .returned (.bool (numB n has)) ∧ w = w' := by
  cases has
  · go_enter Tryd.func105, Tryd.ntmps105
    go_wp2
    all_goals (go_ret; refine ⟨ret_bool ?_, rfl⟩; simp [numB])
  · go_enter Tryd.func105, Tryd.ntmps105
    go_wp2
    all_goals (go_ret; refine ⟨ret_bool ?_, rfl⟩; unfold numB prioB; rw [Bool.eq_iff_iff]; simp; try omega)

def namB (s : ByteArray) (has : Bool) : Bool := if has then nameB s else s.toList.isEmpty
set_option maxHeartbeats 400000 in
theorem nameFits_any (s : ByteArray) (has : Bool) (hs : s.size ≤ maxLen) (E : Nat) (w : World) (he : Env E w) : Calls Tryd.prog 106 #[.string s, .bool has] w fun e w' => e = .returned (.bool (namB s has)) ∧ w = w' := by
  cases has
  · go_enter Tryd.func106, Tryd.ntmps106
    go_wp2
    all_goals (go_ret; refine ⟨ret_bool ?_, rfl⟩; first | rfl | simp [namB])
  · go_enter Tryd.func106, Tryd.ntmps106
    go_wp2_with (go_at_call 124; refine (name_any s hs E _ he).mono ?_; rintro e w2 ⟨rfl, rfl⟩)
    go_ret
    exact ⟨rfl, rfl⟩

end Go.Proofs.YtfmadgoieppmkaaDoor
