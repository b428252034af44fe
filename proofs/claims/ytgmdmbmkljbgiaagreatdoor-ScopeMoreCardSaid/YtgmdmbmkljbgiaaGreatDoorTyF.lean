/- Types: sameness, by the program: the whole. -/
import Derived.Test.YtgmdmbmkljbgiaaGreatDoorTyE
namespace Go.Proofs.YtgmdmbmkljbgiaaGreatDoor
open Go.RowKit

set_option maxHeartbeats 2000000 in
set_option maxRecDepth 100000 in
/-- A field parts: the answer is no. -/
theorem tsame_no (k p s k' p' s' : Int) (n n' : ByteArray) (lv kv lv' kv' : Value) (h : ¬ (k = k' ∧ p = p' ∧ n = n' ∧ s = s')) (w : World) :
    Calls Tryz.prog 89 #[.agg #[.int .i64 k, .int .i64 p, .string n, .int .i64 s, lv, kv], .agg #[.int .i64 k', .int .i64 p', .string n', .int .i64 s', lv', kv']] w fun e w' => e = .returned (.bool false) ∧ Below w.heap.size w w' := by
  by_cases h1 : k = k'
  · subst h1
    by_cases h2 : p = p'
    · subst h2
      by_cases h3 : n = n'
      · subst h3
        have h4 : (s == s') = false := by simp; intro e; exact h ⟨rfl, rfl, rfl, e⟩
        clear h
        go_enter Tryz.func89, Tryz.ntmps89
        go_wp2_with fail
        go_ret
        exact ⟨rfl, box2_below _ _ _⟩
      · have h4 := str_ne h3
        have h5 : (n.toList == n'.toList) = false := by simpa using h4
        clear h
        go_enter Tryz.func89, Tryz.ntmps89
        go_wp2_with fail
        go_ret
        exact ⟨rfl, box2_below _ _ _⟩
    · have h4 : (p == p') = false := by simpa using h2
      clear h
      go_enter Tryz.func89, Tryz.ntmps89
      go_wp2_with fail
      go_ret
      exact ⟨rfl, box2_below _ _ _⟩
  · have h4 : (k == k') = false := by simpa using h1
    clear h
    go_enter Tryz.func89, Tryz.ntmps89
    go_wp2_with fail
    go_ret
    exact ⟨rfl, box2_below _ _ _⟩

set_option maxHeartbeats 2000000 in
set_option maxRecDepth 100000 in
theorem tsame_kids (B : Nat → Prop) (k p s : Int) (n : ByteArray) (lv lv' kv kv' : Value) (ls ls' : List ByteArray) (ts ts' : List Ty) (ih : ∀ t ∈ ts, SameAt 89 B t) (w : World) (hB : Low B w)
    (hl : StrSl B w lv ls) (hl' : StrSl B w lv' ls') (hk : TySl B w kv ts) (hk' : TySl B w kv' ts') :
    Calls Tryz.prog 89 #[.agg #[.int .i64 k, .int .i64 p, .string n, .int .i64 s, lv, kv], .agg #[.int .i64 k, .int .i64 p, .string n, .int .i64 s, lv', kv']] w
      fun e w' => e = .returned (.bool (eqB (.mk k p n s ls ts) (.mk k p n s ls' ts'))) ∧ Below w.heap.size w w' := by
  have hb0 := box2_below w (cell6 k p n s lv kv) (cell6 k p n s lv' kv')
  have HT := Lib.hid (tequal_any B lv lv' ls ls' (box2 w k p n s lv kv k p n s lv' kv') (hl.keep (hb0.keeps'.mono hB)) (hl'.keep (hb0.keeps'.mono hB)))
  have hE : ∀ nq, Calls Tryz.prog 108 #[kv, kv', .func (.func 89) #[] #[]] ((box2 w k p n s lv kv k p n s lv' kv').drewN nq) fun e w' => e = .returned (.bool (eqL ts ts')) ∧ Below ((box2 w k p n s lv kv k p n s lv' kv').drewN nq).heap.size ((box2 w k p n s lv kv k p n s lv' kv').drewN nq) w' := fun nq =>
    tequalf_any B kv kv' ts ts' ih _ (hB.le hb0.size) (hk.keep ((below_drewN hb0 nq).keeps'.mono hB)) (hk'.keep ((below_drewN hb0 nq).keeps'.mono hB))
  have HE := Lib.hid hE
  clear hE hk hk' hl hl' hb0
  by_cases he : ls = ls'
  · subst he
    rw [show decide (ls = ls) = true by simp] at HT
    have hq : Hid (eqB (.mk k p n s ls ts) (.mk k p n s ls ts') = eqL ts ts') := Lib.hid (by
      by_cases h : ts = ts'
      · rw [h, eqB_self, eqL_true.2 rfl]
      · rw [eqL_ne h, eqB_ne (fun e => h (by cases e; rfl))])
    go_enter Tryz.func89, Tryz.ntmps89
    go_wp2_with (first | (go_at_call 107; refine HT.out.mono ?_; rintro e w1 ⟨rfl, nq, rfl⟩) | (go_at_call 108; refine (HE.out _).mono ?_; rintro e w2 ⟨rfl, hb2⟩))
    go_ret
    exact ⟨ret_bool hq.out.symm, below_seq (below_drewN (box2_below _ _ _) _) hb2⟩
  · rw [show decide (ls = ls') = false by simpa using he] at HT
    have hne : Hid (eqB (.mk k p n s ls ts) (.mk k p n s ls' ts') = false) := Lib.hid (eqB_ne (fun e => he (by cases e; rfl)))
    clear he
    go_enter Tryz.func89, Tryz.ntmps89
    go_wp2_with (go_at_call 107; refine HT.out.mono ?_; rintro e w1 ⟨rfl, nq, rfl⟩)
    go_ret
    exact ⟨ret_bool hne.out.symm, below_drewN (box2_below _ _ _) _⟩

theorem tsame_any (B : Nat → Prop) : ∀ (t : Ty), SameAt 89 B t := by
  refine Ty.ind ?_
  intro k p n s ls ts ih u v v' w hB hv hv'
  obtain ⟨lv, kv, rfl, _, hl, hk⟩ := hv
  obtain ⟨k', p', n', s', ls', ts'⟩ := u
  obtain ⟨lv', kv', rfl, _, hl', hk'⟩ := hv'
  by_cases h : k = k' ∧ p = p' ∧ n = n' ∧ s = s'
  · obtain ⟨rfl, rfl, rfl, rfl⟩ := h
    exact tsame_kids B _ _ _ _ lv lv' kv kv' ls ls' ts ts' ih w hB hl hl' hk hk'
  · rw [eqB_ne (fun e => h (by cases e; exact ⟨rfl, rfl, rfl, rfl⟩))]
    exact tsame_no _ _ _ _ _ _ _ _ _ _ _ _ h w

end Go.Proofs.YtgmdmbmkljbgiaaGreatDoor
