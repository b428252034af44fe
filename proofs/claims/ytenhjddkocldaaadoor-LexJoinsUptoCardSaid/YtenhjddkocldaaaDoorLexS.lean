/- The law's own helpers: back, and the comparison of two lists of tokens. -/
import Derived.Test.YtenhjddkocldaaaDoorLexP
import Derived.StillTactics
import Derived.OwnWalk
import Derived.Laws.Pointers
import Derived.Deep.RegionHeld3
import Derived.Deep.AppendLies
namespace Go.Proofs.YtenhjddkocldaaaDoor
open Go.RowKit Go.Shelf Go.Deep

theorem rtokInfo : (Tryd.prog.info? 49).map (fun i => (i.zero, i.size, i.bytes)) = some (some (.agg #[.int .i64 0, .string ⟨#[]⟩, .int .i64 0, .int .i64 0]), 4, 40) := by kernel_rfl
theorem cells4r_new (W : World) (x : Item) : ∀ (j : Nat) u, (cellsOf x)[j]? = some u → (W.alloc (.cells #[.int .i64 x.k, .string x.t, .int .i64 x.v, .int .i64 x.a] 49)).cell? ((⟨W.heap.size, 0, none⟩ : Addr).add j) = some u := by
  intro j u hj
  match j, hj with
  | 0, hj => simp [cellsOf] at hj; subst hj; simp [Addr.add]
  | 1, hj => simp [cellsOf] at hj; subst hj; simp [Addr.add]
  | 2, hj => simp [cellsOf] at hj; subst hj; simp [Addr.add]
  | 3, hj => simp [cellsOf] at hj; subst hj; simp [Addr.add]
  | j + 4, hj => simp [cellsOf] at hj

set_option maxHeartbeats 1000000 in
set_option maxRecDepth 100000 in
theorem back_any (g o cap : Nat) (xs : List Item) (w : World) (hg : g < w.heap.size) (ht : TokAt w g o xs) (hn : xs.length ≤ 1048576) :
    Calls Tryd.prog 12 #[.slice (some ⟨g, o, none⟩) xs.length cap] w fun e w' => ∃ v, e = .returned v ∧ w'.ownsRow w.heap.size 49 4 v xs.length (rowOf xs) ∧ Below w.heap.size w w' := by
  obtain ⟨n, hn'⟩ : ∃ n, n = xs.length := ⟨_, rfl⟩
  rw [← hn'] at hn ⊢
  have HN := Lib.hid hn'
  clear hn'
  obtain ⟨i0, hi, hz0, hz1, hz2⟩ := info_parts rtokInfo
  go_enter Tryd.func12, Tryd.ntmps12
  go_wp2_with fail
  go_loopw [3, 4] (fun v i wr => ∃ k : Nat, i = .int .i64 k ∧ k ≤ n ∧ wr.ownsRow w.heap.size 49 4 v k (rowOf (xs.take k)) ∧ Below w.heap.size w wr) (fun _ i _ => n - (intOf i).toNat)
  case atStart => exact ⟨0, rfl, by omega, World.ownsRow_nil _ _ _ _, Below.refl _ _⟩
  case round =>
    obtain ⟨k, rfl, hk, hrow, hB⟩ := hrel
    by_cases hlt : k < n
    · obtain ⟨x, hx⟩ : ∃ x, xs[k]? = some x := ⟨_, List.getElem?_eq_getElem (by rw [← HN.out]; exact hlt)⟩
      have c0 := (hB.cell (p := ⟨g, o + k * 4, none⟩) hg).trans (ht k x hx).1
      have c1 := (hB.cell (p := ⟨g, o + k * 4 + 1, none⟩) hg).trans (ht k x hx).2.1
      have c2 := (hB.cell (p := ⟨g, o + k * 4 + 2, none⟩) hg).trans (ht k x hx).2.2.1
      have c3 := (hB.cell (p := ⟨g, o + k * 4 + 3, none⟩) hg).trans (ht k x hx).2.2.2
      have hsnoc : rowOf (xs.take (k + 1)) = rowOf (xs.take k) ++ cellsOf x := by
        rw [List.take_add_one, hx, Option.toList_some, rowOf_snoc]
      have HS := Lib.hid hsnoc
      have hle := hB.size
      have ag : u3.ownBlock ≠ some g := fun e => by have := (ownsRow_block hrow e).1; omega
      clear hx hsnoc
      go_wp2_with fail
      go_region_held3 (fun w' => w'.cell? ⟨g, o + k * 4, none⟩ = some (.int .i64 x.k) ∧ w'.cell? ⟨g, o + k * 4 + 1, none⟩ = some (.string x.t) ∧ w'.cell? ⟨g, o + k * 4 + 2, none⟩ = some (.int .i64 x.v) ∧ w'.cell? ⟨g, o + k * 4 + 3, none⟩ = some (.int .i64 x.a))
        (first
          | go_keep
          | (go_split_ands
             refine ⟨?_, ?_, ?_, ?_⟩
             · (rw [hgrow.cell_far _ (by simp; omega) (Ne.symm ag)]; assumption)
             · (rw [hgrow.cell_far _ (by simp; omega) (Ne.symm ag)]; assumption)
             · (rw [hgrow.cell_far _ (by simp; omega) (Ne.symm ag)]; assumption)
             · (rw [hgrow.cell_far _ (by simp; omega) (Ne.symm ag)]; assumption)))
        ((refine step_append_lies _ (by rfl) _ _ _ (by rfl) w.heap.size 49 i0 _ 4 40 Tryd.underlying29 hi hz0 hz1 hz2 rfl (by omega) u3 k (rowOf (xs.take k)) (by rfl) ((hrow.alloc _).drew) ⟨wr.heap.size, 0, none⟩ 1 1 (cellsOf x) (by rfl) (by rfl) (World.news_of_block (cs := #[.int .i64 x.k, .string x.t, .int .i64 x.v, .int .i64 x.a]) (t := 49) (fr := (0, 0)) (heap_alloc_new wr _)) (one4 x) (by omega) (by unfold maxLen; omega) (by omega) (by simp; omega) (wr.heap.size + 1) (by simp) ?_; intro gg cap w1 hown1 hgrow hat hlt))
      have hbw : Below w.heap.size wr w1 := (((Below.refl w.heap.size wr).alloc hle (.cells #[.int .i64 x.k, .string x.t, .int .i64 x.v, .int .i64 x.a] 49)).drew).grown hgrow (by simp; omega) (fun j ej => (ownsRow_block hrow ej).1)
      go_wp2
      go_roundw
      case rel => exact ⟨k + 1, by go_num, by omega, by rw [HS.out]; exact hown1, hB.trans hbw⟩
      case measure => simp [intOf]; omega
    · obtain rfl : k = n := by omega
      go_wp2_with fail
      go_ret
      refine ⟨_, rfl, ?_, hB⟩
      rw [HN.out, List.take_length, ← HN.out] at hrow
      exact hrow

section
variable {P : Program} (w : World)
theorem run_append_nothing_more (base : Nat) (t ty e : TypeId) (i : TypeInfo) (size : Nat) (ht : P.underlying t = some (.slice e)) (hi : P.info? e = some i)
    (v : Value) (n : Nat) (xs : List Value) (hown : w.ownsRow base e size v n xs) (c : Nat) : (Builtin.append_ #[t, t] ty #[v, .slice none 0 c]).run P w = .ok v w := by
  rcases hown.2 with ⟨rfl, rfl⟩ | ⟨g, cap, cur, rfl, _, _, hnc, _⟩
  · simp [Builtin.append_, run_underlying ht, sizeOf, typeInfo, hi, Builtin.lenOf, Builtin.firstCells]
  · simp [Builtin.append_, run_underlying ht, sizeOf, typeInfo, hi, Builtin.lenOf, Builtin.firstCells, hnc, storeCells]
theorem wp_append_nothing_more {o : Oper} {a : Act} {K : Act → World → Prop} {Q : Exit → Act → World → Prop} (s x : Operand) (t : TypeId)
    (ho : o.op = .call { callee := .builtin .append, args := #[s, x], argTypes := #[t, t] })
    (base : Nat) (e : TypeId) (i : TypeInfo) (size : Nat) (ht : P.underlying t = some (.slice e)) (hi : P.info? e = some i)
    (v : Value) (n : Nat) (xs : List Value) (hs : a.eval s = v) (hown : w.ownsRow base e size v n xs) (c : Nat) (hx : a.eval x = .slice none 0 c)
    (h : K (a.put o.dst v) w) : o.wp P a w K Q := by
  have hrun := run_append_nothing_more (P := P) w base t o.type e i size ht hi v n xs hown c
  unfold Oper.wp execOp
  simp only [ho, resolve, invoke, builtin, Sem.run_bind, Sem.run_pure, Result.andThen_ok, List.map_toArray, List.map_cons, List.map_nil, hs, hx, hrun]
  exact h
end

/-- The value is a list of tokens that reads as xs. -/
def Holds (W : World) (v : Value) (xs : List Item) : Prop :=
  (v = .slice none 0 0 ∧ xs = []) ∨ ∃ g o cap, v = .slice (some ⟨g, o, none⟩) xs.length cap ∧ g < W.heap.size ∧ TokAt W g o xs
theorem Holds.below {W W' : World} {v : Value} {xs : List Item} (h : Holds W v xs) (hb : Below W.heap.size W W') : Holds W' v xs := by
  rcases h with h | ⟨g, o, cap, h1, h2, h3⟩
  · exact .inl h
  · exact .inr ⟨g, o, cap, h1, Nat.lt_of_lt_of_le h2 hb.size, h3.below h2 hb⟩
theorem tokAt_of_row' {W : World} {base g n cap : Nat} {e : TypeId} {xs : List Item} (h : W.ownsRow base e 4 (.slice (some ⟨g, 0, none⟩) n cap) n (rowOf xs)) (hn : n = xs.length) : TokAt W g 0 xs := by
  intro k x hx
  have hk := (List.getElem?_eq_some_iff.1 hx).1
  have key : ∀ i, i < 4 → W.cell? ⟨g, k * 4 + i, none⟩ = (cellsOf x)[i]? := fun i hi => (h.cellAt _ (by omega)).trans (rowOf_get xs k i x hx hi)
  rw [Nat.zero_add]
  exact ⟨key 0 (by omega), key 1 (by omega), key 2 (by omega), key 3 (by omega)⟩
theorem holds_of_row {W : World} {base : Nat} {e : TypeId} {v : Value} {xs : List Item} (h : W.ownsRow base e 4 v xs.length (rowOf xs)) : Holds W v xs := by
  have h2 := h.2
  rcases h2 with ⟨rfl, h0⟩ | ⟨g, cap, cur, rfl, _⟩
  · exact .inl ⟨rfl, List.eq_nil_of_length_eq_zero h0⟩
  · exact .inr ⟨g, 0, cap, rfl, (ownsRow_block h rfl).2, tokAt_of_row' h rfl⟩

theorem back_nil (w : World) :
    Calls Tryd.prog 12 #[.slice none 0 0] w fun e w' => e = .returned (.slice none 0 0) ∧ w = w' := by
  go_enter Tryd.func12, Tryd.ntmps12
  go_wp2_with fail
  go_loop [3, 4] (fun v i => v = .slice none 0 0 ∧ i = .int .i64 0) (fun _ _ => 0)
  case atStart => exact ⟨rfl, rfl⟩
  case round =>
    obtain ⟨rfl, rfl⟩ := hrel
    go_wp2_with fail
    go_ret
    exact ⟨rfl, rfl⟩
/-- back, at every list of tokens. -/
theorem back_holds (v : Value) (xs : List Item) (hn : xs.length ≤ 1048576) (w : World) (h : Holds w v xs) :
    Calls Tryd.prog 12 #[v] w fun e w' => ∃ v', e = .returned v' ∧ w'.ownsRow w.heap.size 49 4 v' xs.length (rowOf xs) ∧ Below w.heap.size w w' := by
  rcases h with ⟨rfl, rfl⟩ | ⟨g, o, cap, rfl, hg, ht⟩
  · exact (back_nil w).mono fun e w' ⟨he, hw⟩ => ⟨_, he, World.ownsRow_nil _ _ _ _, by rw [hw]; exact Below.refl _ _⟩
  · exact back_any g o cap xs w hg ht hn

/-- Two lists are the same, their places too if they matter. -/
def Alike (xs ys : List Item) (places : Bool) : Prop :=
  xs.length = ys.length ∧ ∀ (k : Nat) (x y : Item), xs[k]? = some x → ys[k]? = some y → x.k = y.k ∧ x.t = y.t ∧ x.v = y.v ∧ (places = true → x.a = y.a)
theorem Alike.rfl (xs : List Item) (p : Bool) : Alike xs xs p := ⟨Eq.refl _, fun k x y hx hy => by rw [hx] at hy; cases hy; exact ⟨Eq.refl _, Eq.refl _, Eq.refl _, fun _ => Eq.refl _⟩⟩

theorem same_zero (p1 p2 : Option Addr) (c1 c2 : Nat) (places : Bool) (w : World) :
    Calls Tryd.prog 11 #[.slice p1 0 c1, .slice p2 0 c2, .bool places] w fun e w' => e = .returned (.bool true) ∧ w = w' := by
  go_enter Tryd.func11, Tryd.ntmps11
  go_wp2_with fail
  go_loop [7] (fun i => i = .int .i64 0) (fun _ => 0)
  case atStart => exact Eq.refl _
  case round =>
    obtain rfl := hrel
    go_wp2_with fail
    go_ret
    exact ⟨Eq.refl _, Eq.refl _⟩

set_option maxHeartbeats 2000000 in
set_option maxRecDepth 100000 in
theorem same_yes (g1 o1 c1 g2 o2 c2 n : Nat) (xs ys : List Item) (hx : n = xs.length) (hy : n = ys.length) (places : Bool) (hn : n ≤ 9223372036854775806) (hal : Alike xs ys places) (w : World) (h1 : TokAt w g1 o1 xs) (h2 : TokAt w g2 o2 ys) :
    Calls Tryd.prog 11 #[.slice (some ⟨g1, o1, none⟩) n c1, .slice (some ⟨g2, o2, none⟩) n c2, .bool places] w fun e w' => e = .returned (.bool true) ∧ ∃ nq, w' = w.drewN nq := by
  have HXL := Lib.hid hx
  have HYL := Lib.hid hy
  clear hx hy
  go_enter Tryd.func11, Tryd.ntmps11
  go_wp2_with fail
  go_loopw [7] (fun i wr => ∃ k : Nat, i = .int .i64 k ∧ k ≤ n ∧ ∃ nq, wr = w.drewN nq) (fun i _ => n - (intOf i).toNat)
  case atStart => exact ⟨0, Eq.refl _, by omega, 0, Eq.refl _⟩
  case round =>
    obtain ⟨k, rfl, hk, nq, rfl⟩ := hrel
    by_cases hlt : k < n
    · obtain ⟨x, hx⟩ : ∃ x, xs[k]? = some x := ⟨_, List.getElem?_eq_getElem (by rw [← HXL.out]; exact hlt)⟩
      obtain ⟨y, hy⟩ : ∃ y, ys[k]? = some y := ⟨_, List.getElem?_eq_getElem (by rw [← HYL.out]; exact hlt)⟩
      obtain ⟨a0, a1, a2, a3⟩ := h1 k x hx
      obtain ⟨b0, b1, b2, b3⟩ := h2 k y hy
      obtain ⟨e1, e2, e3, e4⟩ := hal.2 k x y hx hy
      obtain ⟨xk, xt, xv, xa, xe, xp⟩ := x
      obtain ⟨yk, yt, yv, ya, ye, yp⟩ := y
      simp only at a0 a1 a2 a3 b0 b1 b2 b3 e1 e2 e3 e4
      subst e1 e2 e3
      clear hx hy
      cases places with
      | false =>
        clear e4
        go_wp2_with fail
        go_quiet (fail)
        go_wp2_with fail
        go_roundw
        case rel => exact ⟨k + 1, by go_num, by omega, _, Eq.refl _⟩
        case measure => simp [intOf]; omega
      | true =>
        have e5 := e4 (Eq.refl _)
        subst e5
        clear e4
        go_wp2_with fail
        go_quiet (fail)
        go_wp2_with fail
        go_roundw
        case rel => exact ⟨k + 1, by go_num, by omega, _, Eq.refl _⟩
        case measure => simp [intOf]; omega
    · go_wp2_with fail
      go_ret
      exact ⟨Eq.refl _, nq, Eq.refl _⟩

/-- Same, at two lists that are alike. -/
theorem same_holds (a b : Value) (xs ys : List Item) (places : Bool) (hn : xs.length ≤ 9223372036854775806) (hal : Alike xs ys places) (w : World) (h1 : Holds w a xs) (h2 : Holds w b ys) :
    Calls Tryd.prog 11 #[a, b, .bool places] w fun e w' => e = .returned (.bool true) ∧ ∃ nq, w' = w.drewN nq := by
  have hl := hal.1
  rcases h1 with ⟨rfl, rfl⟩ | ⟨g1, o1, c1, rfl, _, t1⟩
  · rcases h2 with ⟨rfl, rfl⟩ | ⟨g2, o2, c2, rfl, _, t2⟩
    · exact (same_zero _ _ _ _ places w).mono fun e w' ⟨he, hw⟩ => ⟨he, 0, hw.symm⟩
    · rw [← hl]; exact (same_zero _ _ _ _ places w).mono fun e w' ⟨he, hw⟩ => ⟨he, 0, hw.symm⟩
  · rcases h2 with ⟨rfl, rfl⟩ | ⟨g2, o2, c2, rfl, _, t2⟩
    · rw [hl]; exact (same_zero _ _ _ _ places w).mono fun e w' ⟨he, hw⟩ => ⟨he, 0, hw.symm⟩
    · rw [← hl]; exact same_yes g1 o1 c1 g2 o2 c2 _ xs ys (Eq.refl _) hl places hn hal w t1 t2

end Go.Proofs.YtenhjddkocldaaaDoor
