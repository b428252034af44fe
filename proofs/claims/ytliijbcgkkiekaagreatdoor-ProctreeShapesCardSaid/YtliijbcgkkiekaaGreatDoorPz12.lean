/- Processes: Free. (and what follows from it) -/
import Derived.Test.YtliijbcgkkiekaaGreatDoorPz11
import Derived.Test.YtliijbcgkkiekaaGreatDoorPrB
import Derived.Test.YtliijbcgkkiekaaGreatDoorTyJ
import Derived.OwnWalk

/- Processes: Free. -/
namespace Go.Proofs.YtliijbcgkkiekaaGreatDoor
open Go.RowKit Go.Deep Go.Shelf

theorem walk_any (z : Nat) (S : Nat → Prop) (hS : ∀ k, S k → k < z + 1) : ∀ p : Pr, WalkP z S p := by
  refine Pr.ind ?_
  intro k c x ls vs t ps ih
  exact walk_step z S hS (.mk k c x ls vs t ps) ih
noncomputable def Pr.free (p : Pr) : List ByteArray := p.fw (fun _ => 0) []

theorem run_makeMap_b (w : World) : (Instr.makeMap 74 none).run Tryz.prog w = .ok (.map (some w.heap.size)) (w.alloc (.map #[] 0)) := by simp [Instr.makeMap]
theorem run_makeMap_i (w : World) : (Instr.makeMap 75 none).run Tryz.prog w = .ok (.map (some w.heap.size)) (w.alloc (.map #[] 0)) := by simp [Instr.makeMap]

theorem strSl_row2 {W : World} {base : Nat} {v : Value} {l : List ByteArray} (h : W.ownsRow base 9 1 v l.length (l.map .string)) (hs : ∀ s ∈ l, s.size ≤ maxLen) (hl : l.length ≤ maxLen) :
    (∃ a n c, v = .slice a n c) ∧ StrSl (Fresh base W.heap.size) W v l := by
  rcases h.2 with ⟨rfl, h0⟩ | ⟨g, cap, cur, rfl, hb, hg, hnc, _⟩
  · have : l = [] := List.length_eq_zero_iff.1 h0
    subst this
    exact ⟨⟨_, _, _, rfl⟩, nil_strs _ _⟩
  · refine ⟨⟨_, _, _, rfl⟩, .inr ⟨_, _, _, rfl, ⟨hb, (h.lt g rfl).2⟩, hnc, fun j s hj => ?_⟩, hl, hs⟩
    rw [Nat.zero_add, h.cellAt j (by have := (List.getElem?_eq_some_iff.1 hj).1; omega), List.getElem?_map, hj]
    rfl

theorem heap_push (w : World) (o : Obj) : (w.alloc o).heap = w.heap.push o := rfl

/-- The state at the start. -/
theorem frSt_made (w : World) (o : Obj) (W : World)
    (hW : ((((((((w.alloc o).alloc (.cells #[.slice none 0 0] 22)).alloc (.map #[] 0)).alloc (.cells #[.map (some (w.heap.size + 1 + 1))] 74)).alloc (.map #[] 0)).alloc (.cells #[.map (some (w.heap.size + 1 + 1 + 1 + 1))] 75)).alloc
      (.cells #[.func (.func 35) #[] #[.pointer (some ⟨w.heap.size + 1 + 1 + 1 + 1 + 1, 0, none⟩), .pointer (some ⟨w.heap.size + 1 + 1 + 1, 0, none⟩), .pointer (some ⟨w.heap.size + 1, 0, none⟩)]] 76)).alloc
      (.cells #[.func (.func 36) #[] #[.pointer (some ⟨w.heap.size + 1 + 1 + 1 + 1 + 1 + 1, 0, none⟩), .pointer (some ⟨w.heap.size + 1 + 1 + 1 + 1 + 1, 0, none⟩), .pointer (some ⟨w.heap.size + 1 + 1 + 1 + 1 + 1 + 1 + 1, 0, none⟩)]] 77)) = W) :
    FrSt w.heap.size W (fun _ => 0) [] 0 ∧ Below (w.heap.size + 1) (w.alloc o) W := by
  obtain ⟨W1, h1⟩ : ∃ W1, (w.alloc o).alloc (.cells #[.slice none 0 0] 22) = W1 := ⟨_, rfl⟩
  have s1 : W1.heap.size = w.heap.size + 2 := by rw [← h1]; simp
  have b1 : Below (w.heap.size + 1) (w.alloc o) W1 := by rw [← h1]; exact (Below.refl _ _).alloc (by simp) _
  have k1 : W1.heap[w.heap.size + 1]? = some (.cells #[.slice none 0 0] 22 (0, 0)) := by
    have h := World.alloc_heap_new (w.alloc o) (.cells #[.slice none 0 0] 22)
    rw [World.size_alloc, h1] at h; exact h
  rw [h1] at hW
  obtain ⟨W2, h2⟩ : ∃ W2, W1.alloc (.map #[] 0) = W2 := ⟨_, rfl⟩
  have s2 : W2.heap.size = w.heap.size + 3 := by rw [← h2, World.size_alloc, s1]
  have b2 : Below (w.heap.size + 2) W1 W2 := by rw [← h2]; exact (Below.refl _ _).alloc (by omega) _
  have m2 : ∃ D : DataW Unit, W2.ownsMap Tryz.prog 9 (plainElem Tryz.prog 4) (w.heap.size + 2) 0 D ∧ ∀ s : ByteArray, D.atKey (.string s.data.toList) (.lit (.bool false)) = .lit (.bool (memB s [])) := by
    rw [← h2, ← s1]; exact ⟨_, World.ownsMap_made W1 _ _ _, fun s => rfl⟩
  rw [h2] at hW
  obtain ⟨W3, h3⟩ : ∃ W3, W2.alloc (.cells #[.map (some (w.heap.size + 1 + 1))] 74) = W3 := ⟨_, rfl⟩
  have s3 : W3.heap.size = w.heap.size + 4 := by rw [← h3, World.size_alloc, s2]
  have b3 : Below (w.heap.size + 3) W2 W3 := by rw [← h3]; exact (Below.refl _ _).alloc (by omega) _
  have k3 : W3.heap[w.heap.size + 3]? = some (.cells #[.map (some (w.heap.size + 2))] 74 (0, 0)) := by
    rw [← h3, ← s2]; exact World.alloc_heap_new _ _
  rw [h3] at hW
  obtain ⟨W4, h4⟩ : ∃ W4, W3.alloc (.map #[] 0) = W4 := ⟨_, rfl⟩
  have s4 : W4.heap.size = w.heap.size + 5 := by rw [← h4, World.size_alloc, s3]
  have b4 : Below (w.heap.size + 4) W3 W4 := by rw [← h4]; exact (Below.refl _ _).alloc (by omega) _
  have m4 : CntIs W4 (w.heap.size + 4) 0 (fun _ => 0) := by
    rw [← h4, ← s3]; exact ⟨_, MapIs.made _ _, fun s => rfl⟩
  rw [h4] at hW
  obtain ⟨W5, h5⟩ : ∃ W5, W4.alloc (.cells #[.map (some (w.heap.size + 1 + 1 + 1 + 1))] 75) = W5 := ⟨_, rfl⟩
  have s5 : W5.heap.size = w.heap.size + 6 := by rw [← h5, World.size_alloc, s4]
  have b5 : Below (w.heap.size + 5) W4 W5 := by rw [← h5]; exact (Below.refl _ _).alloc (by omega) _
  have k5 : W5.heap[w.heap.size + 5]? = some (.cells #[.map (some (w.heap.size + 4))] 75 (0, 0)) := by
    rw [← h5, ← s4]; exact World.alloc_heap_new _ _
  rw [h5] at hW
  obtain ⟨W6, h6⟩ : ∃ W6, W5.alloc (.cells #[.func (.func 35) #[] #[.pointer (some ⟨w.heap.size + 1 + 1 + 1 + 1 + 1, 0, none⟩), .pointer (some ⟨w.heap.size + 1 + 1 + 1, 0, none⟩), .pointer (some ⟨w.heap.size + 1, 0, none⟩)]] 76) = W6 := ⟨_, rfl⟩
  have s6 : W6.heap.size = w.heap.size + 7 := by rw [← h6, World.size_alloc, s5]
  have b6 : Below (w.heap.size + 6) W5 W6 := by rw [← h6]; exact (Below.refl _ _).alloc (by omega) _
  have k6 : W6.heap[w.heap.size + 6]? = some (.cells #[.func (.func 35) #[] #[ptr (w.heap.size + 5), ptr (w.heap.size + 3), ptr (w.heap.size + 1)]] 76 (0, 0)) := by
    rw [← h6, ← s5]; exact World.alloc_heap_new _ _
  rw [h6] at hW
  have s7 : W.heap.size = w.heap.size + 8 := by rw [← hW, World.size_alloc, s6]
  have b7 : Below (w.heap.size + 7) W6 W := by rw [← hW]; exact (Below.refl _ _).alloc (by omega) _
  have k7 : W.heap[w.heap.size + 7]? = some (.cells #[.func (.func 36) #[] #[ptr (w.heap.size + 6), ptr (w.heap.size + 5), ptr (w.heap.size + 7)]] 77 (0, 0)) := by
    rw [← hW, ← s6]; exact World.alloc_heap_new _ _
  have b67 : Below (w.heap.size + 6) W5 W := b6.trans (b7.mono (by omega))
  have b57 : Below (w.heap.size + 5) W4 W := b5.trans (b67.mono (by omega))
  have b47 : Below (w.heap.size + 4) W3 W := b4.trans (b57.mono (by omega))
  have b37 : Below (w.heap.size + 3) W2 W := b3.trans (b47.mono (by omega))
  have b27 : Below (w.heap.size + 2) W1 W := b2.trans (b37.mono (by omega))
  refine ⟨⟨⟨_, (b27.block _ (by omega)).trans k1, World.ownsRow_nil _ _ _ _⟩, ?_, (b47.block _ (by omega)).trans k3, ?_, (b67.block _ (by omega)).trans k5, (b7.block _ (by omega)).trans k6, k7, by omega, fun s h => by cases h⟩, b1.trans (b27.mono (by omega))⟩
  · obtain ⟨D, ho, hf⟩ := m2
    exact ⟨D, ho.kept (⟨b37.os, b37.tape, b37.output, b37.size, fun k hk _ => b37.block k (by omega)⟩ : W2.grownBy W none) (by simp), hf⟩
  · exact m4.kept (⟨b57.os, b57.tape, b57.output, b57.size, fun k hk _ => b57.block k (by omega)⟩ : W4.grownBy W none) (by simp)

set_option maxHeartbeats 2000000 in
set_option maxRecDepth 100000 in
theorem pfree_any (B : Nat → Prop) (p : Pr) (hdep : p.depth ≤ 100000) (hsz : p.size ≤ 1000000) (hnm : p.nms ≤ 1000000000) (v : Value) (w : World) (hB : Low B w) (hv : PrVal B w v p) :
    Calls Tryz.prog 12 #[v] w (StrRet w p.free) := by
  have hv' := hv
  obtain ⟨lv, av, tl, tk, kv, rfl, _⟩ := hv'
  obtain ⟨⟨la, ln, lc, rfl⟩, ⟨aa, an, ac, rfl⟩, ⟨ta, tn, tc, rfl⟩, ⟨ua, un, uc, rfl⟩, ⟨ka, kn, kc, rfl⟩⟩ := pr_slices hv
  have hmb := run_makeMap_b
  have hmi := run_makeMap_i
  have eg2 := enters_walk
  have hsf : ∀ (w : World) (a : Addr) (m : Mode) (f : Fn) (t : Array Value) (b : Array Value), (store a (.func f t b) m).run Tryz.prog w = stored Tryz.prog w a (.func f t b) m := fun w a m f t b => run_store _ w a _ m rfl
  have HV := Lib.hid hv
  have HB := Lib.hid hB
  clear hv hB
  go_enter Tryz.func12, Tryz.ntmps12
  go_wp2_with fail
  obtain ⟨W0, hW0⟩ : ∃ W0, _ = W0 := ⟨_, rfl⟩
  have hm := frSt_made w (cell12 p (.slice la ln lc) (.slice aa an ac) (.slice ta tn tc) (.slice ua un uc) (.slice ka kn kc)) W0 hW0
  obtain ⟨hst, hbel⟩ := hm
  have hp := boxed_prAt (S := fun k => B k ∨ k = w.heap.size) HB.out HV.out hbel (fun k h => .inl h) (.inr rfl)
  have hw := walk_any w.heap.size (fun k => B k ∨ k = w.heap.size) (fun k h => h.elim (fun h => by have := HB.out k h; omega) (fun h => by omega)) p (fun _ => 0) [] 0 w.heap.size 0 W0 hst hp (fun y => ⟨Int.le_refl _, by omega⟩) (by simpa using hnm) (by omega)
  have hb0 : Below w.heap.size w W0 := ((Below.refl w.heap.size w).alloc (Nat.le_refl _) _).trans (hbel.mono (by omega))
  have hlen := Pr.fw_len p (fun _ => 0) []
  rw [hW0]
  clear hW0 hst hp hbel hmb hmi eg2 hsf
  refine hw.mono ?_
  rintro e w1 ⟨⟨vv, rfl⟩, ⟨na, _, hst⟩, hb1⟩
  obtain ⟨⟨v1, c1, hrow⟩, _, _, _, _, _, _, hsz1, htx⟩ := hst
  obtain ⟨⟨a1, n1, x1, rfl⟩, hsl⟩ := strSl_row2 hrow htx (by simp at hlen; unfold maxLen; omega)
  have v2 := Boxed.cell c1
  have hbb := Lib.hid (hb0.trans (hb1.mono (by omega)))
  have HSL := Lib.hid hsl
  clear hrow htx hsl hb0 hb1 c1 hw hlen
  go_wp2_with fail
  go_ret
  exact ⟨_, _, _, rfl, HSL.out.mono (fun k hk => ⟨by have := hk.1; omega, hk.2⟩), hbb.out⟩

end Go.Proofs.YtliijbcgkkiekaaGreatDoor

/- Processes: slices.Clone at the three kinds of lists. -/
namespace Go.Proofs.YtliijbcgkkiekaaGreatDoor
open Go.RowKit Go.Deep

theorem list_of {α : Type} (Q : Nat → α → Prop) : ∀ n : Nat, (∀ i, i < n → ∃ x, Q i x) → ∃ ls : List α, ls.length = n ∧ ∀ i x, ls[i]? = some x → Q i x
  | 0, _ => ⟨[], rfl, fun i x h => by simp at h⟩
  | n + 1, h => by
    obtain ⟨ls, hl, hq⟩ := list_of Q n (fun i hi => h i (by omega))
    obtain ⟨x, hx⟩ := h n (by omega)
    refine ⟨ls ++ [x], by simp [hl], fun i y hy => ?_⟩
    by_cases hi : i < ls.length
    · rw [List.getElem?_append_left hi] at hy; exact hq i y hy
    · rw [List.getElem?_append_right (by omega)] at hy
      rcases Nat.eq_zero_or_pos (i - ls.length) with h0 | h0
      · rw [h0] at hy
        simp at hy
        subst hy
        have : i = n := by omega
        subst this
        exact hx
      · rw [List.getElem?_eq_none (by simp; omega)] at hy; cases hy

theorem valInfo : (Tryz.prog.info? 43).map (fun i => (i.zero, i.size, i.bytes)) = some (some (.agg #[.int .i64 0, .string ⟨#[]⟩, .int .i64 0]), 3, 32) := by kernel_rfl
theorem procInfo : (Tryz.prog.info? 29).map (fun i => (i.zero, i.size, i.bytes)) = some (some (.agg #[.int .i64 0, .string ⟨#[]⟩, .string ⟨#[]⟩, .slice none 0 0, .slice none 0 0, .int .i64 0, .int .i64 0, .string ⟨#[]⟩, .int .i64 0, .slice none 0 0, .slice none 0 0, .slice none 0 0]), 12, 200) := by kernel_rfl
theorem strInfoC : (Tryz.prog.info? 9).map (fun i => (i.zero, i.size, i.bytes)) = some (some (.string ⟨#[]⟩), 1, 16) := by kernel_rfl
theorem eqVl (a : Option Addr) (l c : Nat) (w : World) : (binOp .eql 23 (.slice a l c) (.slice none 0 0)).run Tryz.prog w = .ok (.bool a.isNone) w := Lib.run_eql_slice_nil w 23 43 a l c 0 0 Tryz.underlying23
theorem eqPr (a : Option Addr) (l c : Nat) (w : World) : (binOp .eql 27 (.slice a l c) (.slice none 0 0)).run Tryz.prog w = .ok (.bool a.isNone) w := Lib.run_eql_slice_nil w 27 29 a l c 0 0 Tryz.underlying27

/-- A row that is a copy of the cells at an address. -/
def Cloned (w : World) (e : TypeId) (size : Nat) (n : Nat) (news : List Value) (en : Ending) (w' : World) : Prop :=
  ∃ g cap, en = .returned (.slice (some ⟨g, 0, none⟩) n cap) ∧ n ≤ cap ∧ w'.ownsRow w.heap.size e size (.slice (some ⟨g, 0, none⟩) n cap) n news ∧ w.heap.size ≤ g ∧ g < w'.heap.size ∧ Below w.heap.size w w'

set_option maxHeartbeats 2000000 in
set_option maxRecDepth 100000 in
theorem cloneS_any (ad : Addr) (n c : Nat) (hn : n ≤ 1048576) (news : List Value) (hl : news.length = n * 1) (w : World) (hnews : ∀ j u, news[j]? = some u → w.cell? (ad.add j) = some u) (h1 : ∀ u ∈ news, u.oneCell' = true) :
    Calls Tryz.prog 42 #[.slice (some ad) n c] w (Cloned w 9 1 n news) := by
  have hq := eqS (some ad) n c
  obtain ⟨i0, hi, hz0, hz1, hz2⟩ := info_parts strInfoC
  have HN := Lib.hid hnews
  have H1 := Lib.hid h1
  have HL := Lib.hid hl
  clear hnews h1 hl
  go_enter Tryz.func42, Tryz.ntmps42
  go_wp2_with (at_builtin; refine wpList_append_own _ rfl _ _ 22 rfl w.heap.size 9 i0 (.string ⟨#[]⟩) 1 16 Tryz.underlying22 hi hz0 hz1 hz2 rfl (by decide) _ _ _ rfl (World.ownsRow_made w #[] 0 (Nat.le_refl _) (Nat.zero_le _) rfl) ad n c news rfl HL.out (fun j u hj => Lib.cell?_alloc_some _ (HN.out j u hj)) H1.out (by unfold maxLen; omega) (by omega) (by simp) ?_; intro v' w1 hown hgrow hnil)
  go_wp2_with fail
  go_ret
  have hown' : w1.ownsRow w.heap.size 9 1 v' n news := by simpa using hown
  have hb : Below w.heap.size w w1 := ((Below.refl _ w).alloc (Nat.le_refl _) _).grown hgrow (by simp) (fun k hk => by cases hk; exact Nat.le_refl _)
  rcases hown'.2 with ⟨h0, _⟩ | ⟨g, cap, cur, rfl, hgb, hg, hnc, _⟩
  · rw [hnil] at h0; cases h0.1
  · exact ⟨g, cap, rfl, hnc, hown', hgb, (Array.getElem?_eq_some_iff.1 hg).1, hb⟩

set_option maxHeartbeats 2000000 in
set_option maxRecDepth 100000 in
theorem cloneV_any (ad : Addr) (n c : Nat) (hn : n ≤ 1048576) (news : List Value) (hl : news.length = n * 3) (w : World) (hnews : ∀ j u, news[j]? = some u → w.cell? (ad.add j) = some u) (h1 : ∀ u ∈ news, u.oneCell' = true) :
    Calls Tryz.prog 43 #[.slice (some ad) n c] w (Cloned w 43 3 n news) := by
  have hq := eqVl (some ad) n c
  obtain ⟨i0, hi, hz0, hz1, hz2⟩ := info_parts valInfo
  have HN := Lib.hid hnews
  have H1 := Lib.hid h1
  have HL := Lib.hid hl
  clear hnews h1 hl
  go_enter Tryz.func43, Tryz.ntmps43
  go_wp2_with (at_builtin; refine wpList_append_own _ rfl _ _ 23 rfl w.heap.size 43 i0 (.agg #[.int .i64 0, .string ⟨#[]⟩, .int .i64 0]) 3 32 Tryz.underlying23 hi hz0 hz1 hz2 rfl (by decide) _ _ _ rfl (World.ownsRow_made w #[] 0 (Nat.le_refl _) (Nat.zero_le _) rfl) ad n c news rfl HL.out (fun j u hj => Lib.cell?_alloc_some _ (HN.out j u hj)) H1.out (by unfold maxLen; omega) (by omega) (by simp) ?_; intro v' w1 hown hgrow hnil)
  go_wp2_with fail
  go_ret
  have hown' : w1.ownsRow w.heap.size 43 3 v' n news := by simpa using hown
  have hb : Below w.heap.size w w1 := ((Below.refl _ w).alloc (Nat.le_refl _) _).grown hgrow (by simp) (fun k hk => by cases hk; exact Nat.le_refl _)
  rcases hown'.2 with ⟨h0, _⟩ | ⟨g, cap, cur, rfl, hgb, hg, hnc, _⟩
  · rw [hnil] at h0; cases h0.1
  · exact ⟨g, cap, rfl, hnc, hown', hgb, (Array.getElem?_eq_some_iff.1 hg).1, hb⟩

set_option maxHeartbeats 2000000 in
set_option maxRecDepth 100000 in
theorem cloneP_any (ad : Addr) (n c : Nat) (hn : n ≤ 1048576) (news : List Value) (hl : news.length = n * 12) (w : World) (hnews : ∀ j u, news[j]? = some u → w.cell? (ad.add j) = some u) (h1 : ∀ u ∈ news, u.oneCell' = true) :
    Calls Tryz.prog 45 #[.slice (some ad) n c] w (Cloned w 29 12 n news) := by
  have hq := eqPr (some ad) n c
  obtain ⟨i0, hi, hz0, hz1, hz2⟩ := info_parts procInfo
  have HN := Lib.hid hnews
  have H1 := Lib.hid h1
  have HL := Lib.hid hl
  clear hnews h1 hl
  go_enter Tryz.func45, Tryz.ntmps45
  go_wp2_with (at_builtin; refine wpList_append_own _ rfl _ _ 27 rfl w.heap.size 29 i0 (.agg #[.int .i64 0, .string ⟨#[]⟩, .string ⟨#[]⟩, .slice none 0 0, .slice none 0 0, .int .i64 0, .int .i64 0, .string ⟨#[]⟩, .int .i64 0, .slice none 0 0, .slice none 0 0, .slice none 0 0]) 12 200 Tryz.underlying27 hi hz0 hz1 hz2 rfl (by decide) _ _ _ rfl (World.ownsRow_made w #[] 0 (Nat.le_refl _) (Nat.zero_le _) rfl) ad n c news rfl HL.out (fun j u hj => Lib.cell?_alloc_some _ (HN.out j u hj)) H1.out (by unfold maxLen; omega) (by omega) (by simp) ?_; intro v' w1 hown hgrow hnil)
  go_wp2_with fail
  go_ret
  have hown' : w1.ownsRow w.heap.size 29 12 v' n news := by simpa using hown
  have hb : Below w.heap.size w w1 := ((Below.refl _ w).alloc (Nat.le_refl _) _).grown hgrow (by simp) (fun k hk => by cases hk; exact Nat.le_refl _)
  rcases hown'.2 with ⟨h0, _⟩ | ⟨g, cap, cur, rfl, hgb, hg, hnc, _⟩
  · rw [hnil] at h0; cases h0.1
  · exact ⟨g, cap, rfl, hnc, hown', hgb, (Array.getElem?_eq_some_iff.1 hg).1, hb⟩


theorem cloneS_nil (c : Nat) (w : World) : Calls Tryz.prog 42 #[.slice none 0 c] w fun e w' => e = .returned (.slice none 0 0) ∧ w = w' := by
  have hq := eqS none 0 c
  go_enter Tryz.func42, Tryz.ntmps42
  go_wp2_with fail
  go_ret
  exact ⟨rfl, rfl⟩
theorem cloneV_nil (c : Nat) (w : World) : Calls Tryz.prog 43 #[.slice none 0 c] w fun e w' => e = .returned (.slice none 0 0) ∧ w = w' := by
  have hq := eqVl none 0 c
  go_enter Tryz.func43, Tryz.ntmps43
  go_wp2_with fail
  go_ret
  exact ⟨rfl, rfl⟩
theorem cloneP_nil (c : Nat) (w : World) : Calls Tryz.prog 45 #[.slice none 0 c] w fun e w' => e = .returned (.slice none 0 0) ∧ w = w' := by
  have hq := eqPr none 0 c
  go_enter Tryz.func45, Tryz.ntmps45
  go_wp2_with fail
  go_ret
  exact ⟨rfl, rfl⟩

/-! ### What the copies are -/
theorem addr_add0 (b o j : Nat) : (⟨b, o, none⟩ : Addr).add j = ⟨b, o + j, none⟩ := by
  unfold Addr.add
  by_cases h : j = 0
  · subst h; simp
  · simp [h]
theorem strClone_any (B : Nat → Prop) (v : Value) (ls : List ByteArray) (hn : ls.length ≤ 1048576) (w : World) (h : StrSl B w v ls) :
    Calls Tryz.prog 42 #[v] w (StrRet w ls) := by
  have hsz := h.2.2
  rcases h.1 with ⟨⟨a, c, rfl⟩, rfl⟩ | ⟨b, o, c, rfl, hb, hc, hrow⟩
  · cases a with
    | none => exact (cloneS_nil c w).mono fun e w' ⟨h1, h2⟩ => ⟨_, _, _, h1, ⟨.inl ⟨⟨_, _, rfl⟩, rfl⟩, by simp [maxLen], fun s hs => by cases hs⟩, by rw [h2]; exact Below.refl _ _⟩
    | some ad =>
      refine (cloneS_any ad 0 c (by omega) [] rfl w (fun j u hj => by simp at hj) (fun u hu => by cases hu)).mono fun e w' ⟨g, cap, h1, h2, h3, h4, h5, h6⟩ => ⟨_, _, _, h1, ⟨.inl ⟨⟨_, _, rfl⟩, rfl⟩, by simp [maxLen], fun s hs => by cases hs⟩, h6⟩
  · refine (cloneS_any ⟨b, o, none⟩ ls.length c hn (ls.map .string) (by simp) w (fun j u hj => ?_) (fun u hu => by obtain ⟨x, _, rfl⟩ := List.mem_map.1 hu; rfl)).mono fun e w' ⟨g, cap, h1, h2, h3, h4, h5, h6⟩ => ⟨_, _, _, h1, ⟨.inr ⟨g, 0, cap, rfl, ⟨h4, h5⟩, h2, fun j s hj => ?_⟩, h.2.1, hsz⟩, h6⟩
    · rw [List.getElem?_map] at hj
      cases hx : ls[j]? with
      | none => simp [hx] at hj
      | some x => simp [hx] at hj; subst hj; rw [addr_add0]; exact hrow j x hx
    · have hjl := (List.getElem?_eq_some_iff.1 hj).1
      rw [Nat.zero_add, h3.cellAt j (by omega), List.getElem?_map, hj]; rfl

/-- A list of values in new memory is returned. -/
def VlRet (w : World) (vs : List Vl) (e : Ending) (w' : World) : Prop :=
  ∃ la ln lc, e = .returned (.slice la ln lc) ∧ VlSl (Fresh w.heap.size w'.heap.size) w' (.slice la ln lc) vs ∧ Below w.heap.size w w'
/-- The cells of a row, of n elements of size s each. -/
theorem news_of {w : World} {b o n s : Nat} (h : ∀ i, i < n → ∀ r, r < s → ∃ v, w.cell? ⟨b, o + i * s + r, none⟩ = some v ∧ v.oneCell' = true) (hs : 0 < s) :
    ∃ news : List Value, news.length = n * s ∧ (∀ j u, news[j]? = some u → w.cell? ((⟨b, o, none⟩ : Addr).add j) = some u) ∧ ∀ u ∈ news, u.oneCell' = true := by
  obtain ⟨news, hl, hn⟩ := list_of (fun j v => w.cell? ⟨b, o + j, none⟩ = some v ∧ v.oneCell' = true) (n * s) (fun j hj => by
    have h1 : j / s < n := Nat.div_lt_of_lt_mul (by rw [Nat.mul_comm]; exact hj)
    obtain ⟨v, h2, h3⟩ := h (j / s) h1 (j % s) (Nat.mod_lt _ hs)
    refine ⟨v, ?_, h3⟩
    have e : o + j / s * s + j % s = o + j := by have := Nat.div_add_mod j s; rw [Nat.mul_comm] at this; omega
    rw [e] at h2; exact h2)
  refine ⟨news, hl, fun j u hj => by rw [addr_add0]; exact (hn j u hj).1, fun u hu => ?_⟩
  obtain ⟨i, hi⟩ := List.mem_iff_getElem?.1 hu
  exact (hn i u hi).2
/-- A cell of the copy is the cell that was copied. -/
theorem cloned_cell {w w' : World} {e : TypeId} {b o n s g cap base : Nat} {news : List Value} (hl : news.length = n * s) (hn : ∀ j u, news[j]? = some u → w.cell? ((⟨b, o, none⟩ : Addr).add j) = some u) (h : w'.ownsRow base e s (.slice (some ⟨g, 0, none⟩) n cap) n news) {j : Nat} (hj : j < n * s) {v : Value} (hv : w.cell? ⟨b, o + j, none⟩ = some v) :
    w'.cell? ⟨g, j, none⟩ = some v := by
  rw [h.cellAt j hj]
  obtain ⟨u, hu⟩ : ∃ u, news[j]? = some u := ⟨_, List.getElem?_eq_getElem (by omega)⟩
  have := hn j u hu
  rw [addr_add0, hv] at this
  rw [hu, ← this]

theorem vlClone_any (B : Nat → Prop) (v : Value) (vs : List Vl) (hn : vs.length ≤ 1048576) (w : World) (h : VlSl B w v vs) :
    Calls Tryz.prog 43 #[v] w (VlRet w vs) := by
  have hsz := h.2.2
  rcases h.1 with ⟨⟨a, c, rfl⟩, rfl⟩ | ⟨b, o, c, rfl, hb, hc, hrow⟩
  · cases a with
    | none => exact (cloneV_nil c w).mono fun e w' ⟨h1, h2⟩ => ⟨_, _, _, h1, ⟨.inl ⟨⟨_, _, rfl⟩, rfl⟩, by simp [maxLen], fun s hs => by cases hs⟩, by rw [h2]; exact Below.refl _ _⟩
    | some ad =>
      refine (cloneV_any ad 0 c (by omega) [] rfl w (fun j u hj => by simp at hj) (fun u hu => by cases hu)).mono fun e w' ⟨g, cap, h1, h2, h3, h4, h5, h6⟩ => ⟨_, _, _, h1, ⟨.inl ⟨⟨_, _, rfl⟩, rfl⟩, by simp [maxLen], fun s hs => by cases hs⟩, h6⟩
  · obtain ⟨news, hl, hnw, hone⟩ := news_of (w := w) (b := b) (o := o) (n := vs.length) (s := 3) (fun i hi r hr => by
      obtain ⟨a, ha⟩ : ∃ a, vs[i]? = some a := ⟨_, List.getElem?_eq_getElem hi⟩
      obtain ⟨q0, q1, q2⟩ := hrow i a ha
      match r, hr with
      | 0, _ => exact ⟨_, q0, rfl⟩
      | 1, _ => exact ⟨_, q1, rfl⟩
      | 2, _ => exact ⟨_, q2, rfl⟩) (by omega)
    refine (cloneV_any ⟨b, o, none⟩ vs.length c hn news hl w hnw hone).mono fun e w' ⟨g, cap, h1, h2, h3, h4, h5, h6⟩ => ⟨_, _, _, h1, ⟨.inr ⟨g, 0, cap, rfl, ⟨h4, h5⟩, h2, fun j a hj => ?_⟩, h.2.1, hsz⟩, h6⟩
    have hjl := (List.getElem?_eq_some_iff.1 hj).1
    obtain ⟨q0, q1, q2⟩ := hrow j a hj
    rw [Nat.zero_add]
    exact ⟨cloned_cell hl hnw h3 (by omega) q0, cloned_cell hl hnw h3 (by omega) (by rw [← Nat.add_assoc]; exact q1), cloned_cell hl hnw h3 (by omega) (by rw [← Nat.add_assoc]; exact q2)⟩

/-- Twelve cells from cell o of block g on. -/
def CellsAt (w : World) (g o : Nat) (p : Pr) (lv av tl tk kv : Value) : Prop :=
  w.cell? ⟨g, o, none⟩ = some (.int .i64 p.k) ∧ w.cell? ⟨g, o + 1, none⟩ = some (.string p.c) ∧ w.cell? ⟨g, o + 2, none⟩ = some (.string p.x) ∧ w.cell? ⟨g, o + 3, none⟩ = some lv ∧ w.cell? ⟨g, o + 4, none⟩ = some av ∧
  w.cell? ⟨g, o + 5, none⟩ = some (.int .i64 p.t.k) ∧ w.cell? ⟨g, o + 6, none⟩ = some (.int .i64 p.t.p) ∧ w.cell? ⟨g, o + 7, none⟩ = some (.string p.t.n) ∧ w.cell? ⟨g, o + 8, none⟩ = some (.int .i64 p.t.s) ∧ w.cell? ⟨g, o + 9, none⟩ = some tl ∧ w.cell? ⟨g, o + 10, none⟩ = some tk ∧ w.cell? ⟨g, o + 11, none⟩ = some kv
/-- The copied row of processes: the first k stand anew. -/
structure PFilled (B : Nat → Prop) (g n : Nat) (ps : List Pr) (k : Nat) (w : World) : Prop where
  block : ∃ cs, w.heap[g]? = some (.cells cs 29 (0, 0)) ∧ n * 12 ≤ cs.size
  each : ∀ i p, ps[i]? = some p → ∃ la ln lc aa an ac ta tn tc ua un uc ka kn kc, CellsAt w g (i * 12) p (.slice la ln lc) (.slice aa an ac) (.slice ta tn tc) (.slice ua un uc) (.slice ka kn kc) ∧ PrVal (if i < k then Fresh (g + 1) w.heap.size else B) w (prAgg p (.slice la ln lc) (.slice aa an ac) (.slice ta tn tc) (.slice ua un uc) (.slice ka kn kc)) p
theorem prClone_any (B : Nat → Prop) (v : Value) (ps : List Pr) (hn : ps.length ≤ 65536) (w : World) (hB : Low B w) (h : PrSl B w v ps) :
    Calls Tryz.prog 45 #[v] w fun e w' => ((∃ a c, e = .returned (.slice a 0 c) ∧ ps = []) ∨ ∃ g cap, e = .returned (.slice (some ⟨g, 0, none⟩) ps.length cap) ∧ w.heap.size ≤ g ∧ g < w'.heap.size ∧ PFilled B g ps.length ps 0 w') ∧ Below w.heap.size w w' := by
  rcases h.1 with ⟨⟨a, c, rfl⟩, rfl⟩ | ⟨b, o, c, rfl, hb, hrow⟩
  · cases a with
    | none => exact (cloneP_nil c w).mono fun e w' ⟨h1, h2⟩ => ⟨.inl ⟨_, _, h1, rfl⟩, by rw [h2]; exact Below.refl _ _⟩
    | some ad => exact (cloneP_any ad 0 c (by omega) [] rfl w (fun j u hj => by simp at hj) (fun u hu => by cases hu)).mono fun e w' ⟨g, cap, h1, h2, h3, h4, h5, h6⟩ => ⟨.inl ⟨_, _, h1, rfl⟩, h6⟩
  · obtain ⟨news, hl, hnw, hone⟩ := news_of (w := w) (b := b) (o := o) (n := ps.length) (s := 12) (fun i hi r hr => by
      obtain ⟨p, hp⟩ : ∃ p, ps[i]? = some p := ⟨_, List.getElem?_eq_getElem hi⟩
      obtain ⟨la, ln, lc, aa, an, ac, ta, tn, tc, ua, un, uc, ka, kn, kc, ⟨d0, d1, d2, d3, d4, d5, d6, d7, d8, d9, d10, d11⟩, _⟩ := (hrow.get hp).load'
      match r, hr with
      | 0, _ => exact ⟨_, d0, rfl⟩
      | 1, _ => exact ⟨_, d1, rfl⟩
      | 2, _ => exact ⟨_, d2, rfl⟩
      | 3, _ => exact ⟨_, d3, rfl⟩
      | 4, _ => exact ⟨_, d4, rfl⟩
      | 5, _ => exact ⟨_, d5, rfl⟩
      | 6, _ => exact ⟨_, d6, rfl⟩
      | 7, _ => exact ⟨_, d7, rfl⟩
      | 8, _ => exact ⟨_, d8, rfl⟩
      | 9, _ => exact ⟨_, d9, rfl⟩
      | 10, _ => exact ⟨_, d10, rfl⟩
      | 11, _ => exact ⟨_, d11, rfl⟩) (by omega)
    refine (cloneP_any ⟨b, o, none⟩ ps.length c (by omega) news hl w hnw hone).mono fun e w' ⟨g, cap, h1, h2, h3, h4, h5, h6⟩ => ⟨.inr ⟨g, cap, h1, h4, h5, ?_, fun i p hi => ?_⟩, h6⟩
    · rcases h3.2 with ⟨h, _⟩ | ⟨g', cap', cur, hv, _, hg, hnc, _, hcs, _⟩
      · cases h
      · simp only [Value.slice.injEq, Option.some.injEq, Addr.mk.injEq, and_true, true_and] at hv
        obtain ⟨rfl, rfl⟩ := hv
        exact ⟨cur, hg, by rw [hcs]; exact Nat.mul_le_mul_right _ hnc⟩
    · have hil := (List.getElem?_eq_some_iff.1 hi).1
      obtain ⟨la, ln, lc, aa, an, ac, ta, tn, tc, ua, un, uc, ka, kn, kc, ⟨d0, d1, d2, d3, d4, d5, d6, d7, d8, d9, d10, d11⟩, hval⟩ := (hrow.get hi).load'
      have hc : ∀ (r : Nat) (v : Value), r < 12 → w.cell? ⟨b, o + i * 12 + r, none⟩ = some v → w'.cell? ⟨g, i * 12 + r, none⟩ = some v := fun r v hr hv => cloned_cell hl hnw h3 (by omega) (by rw [← Nat.add_assoc]; exact hv)
      refine ⟨la, ln, lc, aa, an, ac, ta, tn, tc, ua, un, uc, ka, kn, kc, ⟨hc 0 _ (by omega) d0, hc 1 _ (by omega) d1, hc 2 _ (by omega) d2, hc 3 _ (by omega) d3, hc 4 _ (by omega) d4, hc 5 _ (by omega) d5, hc 6 _ (by omega) d6, hc 7 _ (by omega) d7, hc 8 _ (by omega) d8, hc 9 _ (by omega) d9, hc 10 _ (by omega) d10, hc 11 _ (by omega) d11⟩, ?_⟩
      rw [if_neg (by omega)]
      exact hval.to hB h6

end Go.Proofs.YtliijbcgkkiekaaGreatDoor

/- Processes: Copy. -/
namespace Go.Proofs.YtliijbcgkkiekaaGreatDoor
open Go.RowKit Go.Deep

mutual
/-- Processes whose lists are not too long. -/
def Pr.mod : Pr → Prop
  | .mk _ _ _ ls vs t ps => ls.length ≤ 1048576 ∧ vs.length ≤ 1048576 ∧ ps.length ≤ 65536 ∧ t.mod ∧ Pr.mods ps
def Pr.mods : List Pr → Prop
  | [] => True
  | p :: r => p.mod ∧ Pr.mods r
end
theorem Pr.mods_mem : ∀ {l : List Pr}, Pr.mods l → ∀ p ∈ l, p.mod
  | [], _, _, h => by cases h
  | u :: r, h, p, hp => by
    simp only [Pr.mods] at h
    rcases List.mem_cons.1 hp with rfl | hp
    · exact h.1
    · exact Pr.mods_mem h.2 p hp
/-- A process in new memory is returned. -/
def PrRet (w : World) (p : Pr) (e : Ending) (w' : World) : Prop :=
  ∃ la ln lc aa an ac ta tn tc ua un uc ka kn kc, e = .returned (prAgg p (.slice la ln lc) (.slice aa an ac) (.slice ta tn tc) (.slice ua un uc) (.slice ka kn kc)) ∧
    PrVal (Fresh w.heap.size w'.heap.size) w' (prAgg p (.slice la ln lc) (.slice aa an ac) (.slice ta tn tc) (.slice ua un uc) (.slice ka kn kc)) p ∧ Below w.heap.size w w'

/-- A block of twelve cells, whole. -/
def Twelve (w : World) (b : Nat) (a0 a1 a2 a3 a4 a5 a6 a7 a8 a9 a10 a11 : Value) : Prop := w.heap[b]? = some (.cells #[a0, a1, a2, a3, a4, a5, a6, a7, a8, a9, a10, a11] 29 (0, 0))
section
variable {w w' : World} {b : Nat} {a0 a1 a2 a3 a4 a5 a6 a7 a8 a9 a10 a11 : Value}
theorem Twelve.cells (h : Twelve w b a0 a1 a2 a3 a4 a5 a6 a7 a8 a9 a10 a11) :
    (w.cell? ⟨b, 0, none⟩ = some a0 ∧ w.cell? ⟨b, 1, none⟩ = some a1 ∧ w.cell? ⟨b, 2, none⟩ = some a2 ∧ w.cell? ⟨b, 3, none⟩ = some a3 ∧ w.cell? ⟨b, 4, none⟩ = some a4 ∧ w.cell? ⟨b, 5, none⟩ = some a5 ∧ w.cell? ⟨b, 6, none⟩ = some a6 ∧ w.cell? ⟨b, 7, none⟩ = some a7 ∧ w.cell? ⟨b, 8, none⟩ = some a8 ∧ w.cell? ⟨b, 9, none⟩ = some a9 ∧ w.cell? ⟨b, 10, none⟩ = some a10 ∧ w.cell? ⟨b, 11, none⟩ = some a11) ∧ ∀ j, w.frozen? ⟨b, j, none⟩ = false := by
  unfold Twelve at h
  refine ⟨⟨?_, ?_, ?_, ?_, ?_, ?_, ?_, ?_, ?_, ?_, ?_, ?_⟩, fun j => frozen_of_block h j⟩ <;> simp [World.cell?, h]
theorem Twelve.lt (h : Twelve w b a0 a1 a2 a3 a4 a5 a6 a7 a8 a9 a10 a11) : b < w.heap.size := (Array.getElem?_eq_some_iff.1 h).1
theorem Twelve.to (h : Twelve w b a0 a1 a2 a3 a4 a5 a6 a7 a8 a9 a10 a11) (hb : Below w.heap.size w w') : Twelve w' b a0 a1 a2 a3 a4 a5 a6 a7 a8 a9 a10 a11 := (hb.block b h.lt).trans h
theorem Twelve.other (h : Twelve w b a0 a1 a2 a3 a4 a5 a6 a7 a8 a9 a10 a11) {c o : Nat} (hne : b ≠ c) (v : Value) : Twelve (w.setCell ⟨c, o, none⟩ v) b a0 a1 a2 a3 a4 a5 a6 a7 a8 a9 a10 a11 := (Below.heap_setCell _ _ _ b hne).trans h
theorem Twelve.others (h : Twelve w b a0 a1 a2 a3 a4 a5 a6 a7 a8 a9 a10 a11) {c : Nat} (hne : b ≠ c) (vs : List Value) (o : Nat) : Twelve (w.setCells c o vs) b a0 a1 a2 a3 a4 a5 a6 a7 a8 a9 a10 a11 := (heap_setCells_other hne _ _ _).trans h
theorem Twelve.set3 (h : Twelve w b a0 a1 a2 a3 a4 a5 a6 a7 a8 a9 a10 a11) (v : Value) : Twelve (w.setCell ⟨b, 3, none⟩ v) b a0 a1 a2 v a4 a5 a6 a7 a8 a9 a10 a11 := set_block h 3 v
theorem Twelve.set4 (h : Twelve w b a0 a1 a2 a3 a4 a5 a6 a7 a8 a9 a10 a11) (v : Value) : Twelve (w.setCell ⟨b, 4, none⟩ v) b a0 a1 a2 a3 v a5 a6 a7 a8 a9 a10 a11 := set_block h 4 v
theorem Twelve.set11 (h : Twelve w b a0 a1 a2 a3 a4 a5 a6 a7 a8 a9 a10 a11) (v : Value) : Twelve (w.setCell ⟨b, 11, none⟩ v) b a0 a1 a2 a3 a4 a5 a6 a7 a8 a9 a10 v := set_block h 11 v
theorem Twelve.setT (h : Twelve w b a0 a1 a2 a3 a4 a5 a6 a7 a8 a9 a10 a11) (v5 v6 v7 v8 v9 v10 : Value) : Twelve (w.setCells b 5 [v5, v6, v7, v8, v9, v10]) b a0 a1 a2 a3 a4 v5 v6 v7 v8 v9 v10 a11 := by
  have h5 : Twelve (w.setCell ⟨b, 5, none⟩ v5) b a0 a1 a2 a3 a4 v5 a6 a7 a8 a9 a10 a11 := set_block h 5 v5
  have h6 : Twelve ((w.setCell ⟨b, 5, none⟩ v5).setCell ⟨b, 6, none⟩ v6) b a0 a1 a2 a3 a4 v5 v6 a7 a8 a9 a10 a11 := set_block h5 6 v6
  have h7 : Twelve (((w.setCell ⟨b, 5, none⟩ v5).setCell ⟨b, 6, none⟩ v6).setCell ⟨b, 7, none⟩ v7) b a0 a1 a2 a3 a4 v5 v6 v7 a8 a9 a10 a11 := set_block h6 7 v7
  have h8 : Twelve ((((w.setCell ⟨b, 5, none⟩ v5).setCell ⟨b, 6, none⟩ v6).setCell ⟨b, 7, none⟩ v7).setCell ⟨b, 8, none⟩ v8) b a0 a1 a2 a3 a4 v5 v6 v7 v8 a9 a10 a11 := set_block h7 8 v8
  have h9 : Twelve (((((w.setCell ⟨b, 5, none⟩ v5).setCell ⟨b, 6, none⟩ v6).setCell ⟨b, 7, none⟩ v7).setCell ⟨b, 8, none⟩ v8).setCell ⟨b, 9, none⟩ v9) b a0 a1 a2 a3 a4 v5 v6 v7 v8 v9 a10 a11 := set_block h8 9 v9
  have h10 : Twelve ((((((w.setCell ⟨b, 5, none⟩ v5).setCell ⟨b, 6, none⟩ v6).setCell ⟨b, 7, none⟩ v7).setCell ⟨b, 8, none⟩ v8).setCell ⟨b, 9, none⟩ v9).setCell ⟨b, 10, none⟩ v10) b a0 a1 a2 a3 a4 v5 v6 v7 v8 v9 v10 a11 := set_block h9 10 v10
  exact h10
theorem Twelve.fill (h : Twelve w b a0 a1 a2 a3 a4 a5 a6 a7 a8 a9 a10 a11) (v0 v1 v2 v3 v4 v5 v6 v7 v8 v9 v10 v11 : Value) : Twelve (w.setCells b 0 [v0, v1, v2, v3, v4, v5, v6, v7, v8, v9, v10, v11]) b v0 v1 v2 v3 v4 v5 v6 v7 v8 v9 v10 v11 := by
  have h0 : Twelve (w.setCell ⟨b, 0, none⟩ v0) b v0 a1 a2 a3 a4 a5 a6 a7 a8 a9 a10 a11 := set_block h 0 v0
  have h1 : Twelve ((w.setCell ⟨b, 0, none⟩ v0).setCell ⟨b, 1, none⟩ v1) b v0 v1 a2 a3 a4 a5 a6 a7 a8 a9 a10 a11 := set_block h0 1 v1
  have h2 : Twelve (((w.setCell ⟨b, 0, none⟩ v0).setCell ⟨b, 1, none⟩ v1).setCell ⟨b, 2, none⟩ v2) b v0 v1 v2 a3 a4 a5 a6 a7 a8 a9 a10 a11 := set_block h1 2 v2
  have h3 : Twelve ((((w.setCell ⟨b, 0, none⟩ v0).setCell ⟨b, 1, none⟩ v1).setCell ⟨b, 2, none⟩ v2).setCell ⟨b, 3, none⟩ v3) b v0 v1 v2 v3 a4 a5 a6 a7 a8 a9 a10 a11 := set_block h2 3 v3
  have h4 : Twelve (((((w.setCell ⟨b, 0, none⟩ v0).setCell ⟨b, 1, none⟩ v1).setCell ⟨b, 2, none⟩ v2).setCell ⟨b, 3, none⟩ v3).setCell ⟨b, 4, none⟩ v4) b v0 v1 v2 v3 v4 a5 a6 a7 a8 a9 a10 a11 := set_block h3 4 v4
  have h5 : Twelve ((((((w.setCell ⟨b, 0, none⟩ v0).setCell ⟨b, 1, none⟩ v1).setCell ⟨b, 2, none⟩ v2).setCell ⟨b, 3, none⟩ v3).setCell ⟨b, 4, none⟩ v4).setCell ⟨b, 5, none⟩ v5) b v0 v1 v2 v3 v4 v5 a6 a7 a8 a9 a10 a11 := set_block h4 5 v5
  have h6 : Twelve (((((((w.setCell ⟨b, 0, none⟩ v0).setCell ⟨b, 1, none⟩ v1).setCell ⟨b, 2, none⟩ v2).setCell ⟨b, 3, none⟩ v3).setCell ⟨b, 4, none⟩ v4).setCell ⟨b, 5, none⟩ v5).setCell ⟨b, 6, none⟩ v6) b v0 v1 v2 v3 v4 v5 v6 a7 a8 a9 a10 a11 := set_block h5 6 v6
  have h7 : Twelve ((((((((w.setCell ⟨b, 0, none⟩ v0).setCell ⟨b, 1, none⟩ v1).setCell ⟨b, 2, none⟩ v2).setCell ⟨b, 3, none⟩ v3).setCell ⟨b, 4, none⟩ v4).setCell ⟨b, 5, none⟩ v5).setCell ⟨b, 6, none⟩ v6).setCell ⟨b, 7, none⟩ v7) b v0 v1 v2 v3 v4 v5 v6 v7 a8 a9 a10 a11 := set_block h6 7 v7
  have h8 : Twelve (((((((((w.setCell ⟨b, 0, none⟩ v0).setCell ⟨b, 1, none⟩ v1).setCell ⟨b, 2, none⟩ v2).setCell ⟨b, 3, none⟩ v3).setCell ⟨b, 4, none⟩ v4).setCell ⟨b, 5, none⟩ v5).setCell ⟨b, 6, none⟩ v6).setCell ⟨b, 7, none⟩ v7).setCell ⟨b, 8, none⟩ v8) b v0 v1 v2 v3 v4 v5 v6 v7 v8 a9 a10 a11 := set_block h7 8 v8
  have h9 : Twelve ((((((((((w.setCell ⟨b, 0, none⟩ v0).setCell ⟨b, 1, none⟩ v1).setCell ⟨b, 2, none⟩ v2).setCell ⟨b, 3, none⟩ v3).setCell ⟨b, 4, none⟩ v4).setCell ⟨b, 5, none⟩ v5).setCell ⟨b, 6, none⟩ v6).setCell ⟨b, 7, none⟩ v7).setCell ⟨b, 8, none⟩ v8).setCell ⟨b, 9, none⟩ v9) b v0 v1 v2 v3 v4 v5 v6 v7 v8 v9 a10 a11 := set_block h8 9 v9
  have h10 : Twelve (((((((((((w.setCell ⟨b, 0, none⟩ v0).setCell ⟨b, 1, none⟩ v1).setCell ⟨b, 2, none⟩ v2).setCell ⟨b, 3, none⟩ v3).setCell ⟨b, 4, none⟩ v4).setCell ⟨b, 5, none⟩ v5).setCell ⟨b, 6, none⟩ v6).setCell ⟨b, 7, none⟩ v7).setCell ⟨b, 8, none⟩ v8).setCell ⟨b, 9, none⟩ v9).setCell ⟨b, 10, none⟩ v10) b v0 v1 v2 v3 v4 v5 v6 v7 v8 v9 v10 a11 := set_block h9 10 v10
  have h11 : Twelve ((((((((((((w.setCell ⟨b, 0, none⟩ v0).setCell ⟨b, 1, none⟩ v1).setCell ⟨b, 2, none⟩ v2).setCell ⟨b, 3, none⟩ v3).setCell ⟨b, 4, none⟩ v4).setCell ⟨b, 5, none⟩ v5).setCell ⟨b, 6, none⟩ v6).setCell ⟨b, 7, none⟩ v7).setCell ⟨b, 8, none⟩ v8).setCell ⟨b, 9, none⟩ v9).setCell ⟨b, 10, none⟩ v10).setCell ⟨b, 11, none⟩ v11) b v0 v1 v2 v3 v4 v5 v6 v7 v8 v9 v10 v11 := set_block h10 11 v11
  exact h11
end
/-- The cells of a process, a list. -/
def prCellsL (p : Pr) (lv av tl tk kv : Value) : List Value := [.int .i64 p.k, .string p.c, .string p.x, lv, av, .int .i64 p.t.k, .int .i64 p.t.p, .string p.t.n, .int .i64 p.t.s, tl, tk, kv]
theorem setCells12 (w : World) (g o : Nat) (a b c d e f a' b' c' d' e' f' : Value) : w.setCells g o [a, b, c, d, e, f, a', b', c', d', e', f'] =
    (((((((((((w.setCell ⟨g, o, none⟩ a).setCell ⟨g, o + 1, none⟩ b).setCell ⟨g, o + 2, none⟩ c).setCell ⟨g, o + 3, none⟩ d).setCell ⟨g, o + 4, none⟩ e).setCell ⟨g, o + 5, none⟩ f).setCell ⟨g, o + 6, none⟩ a').setCell ⟨g, o + 7, none⟩ b').setCell ⟨g, o + 8, none⟩ c').setCell ⟨g, o + 9, none⟩ d').setCell ⟨g, o + 10, none⟩ e').setCell ⟨g, o + 11, none⟩ f' := rfl
theorem Twelve.new (w : World) (a0 a1 a2 a3 a4 a5 a6 a7 a8 a9 a10 a11 : Value) : Twelve (w.alloc (.cells #[a0, a1, a2, a3, a4, a5, a6, a7, a8, a9, a10, a11] 29)) w.heap.size a0 a1 a2 a3 a4 a5 a6 a7 a8 a9 a10 a11 := World.alloc_heap_new w _
/-- Stores into one block of the call's own leave what lies in others. -/
theorem keeps_setCells {F : Nat → Prop} {w : World} {c : Nat} (h : ∀ k, F k → k ≠ c) (vs : List Value) (o : Nat) : Keeps F w (w.setCells c o vs) := fun k _ hk ho _ => (heap_setCells_other (h k hk) _ _ _).trans ho

theorem PFilled.to {B : Nat → Prop} {g n k : Nat} {ps : List Pr} {w w' : World} (h : PFilled B g n ps k w) (hB : Low B w) (hb : Below w.heap.size w w') : PFilled B g n ps k w' := by
  obtain ⟨cs, hcs, hz⟩ := h.block
  have hg := (Array.getElem?_eq_some_iff.1 hcs).1
  refine ⟨⟨cs, (hb.block g hg).trans hcs, hz⟩, fun i t ht => ?_⟩
  obtain ⟨la, ln, lc, aa, an, ac, ta, tn, tc, ua, un, uc, ka, kn, kc, ⟨d0, d1, d2, d3, d4, d5, d6, d7, d8, d9, d10, d11⟩, hv⟩ := h.each i t ht
  have hc : ∀ (o : Nat) (v : Value), w.cell? ⟨g, o, none⟩ = some v → w'.cell? ⟨g, o, none⟩ = some v := fun o v hv => (hb.cell (p := ⟨g, o, none⟩) hg).trans hv
  refine ⟨la, ln, lc, aa, an, ac, ta, tn, tc, ua, un, uc, ka, kn, kc, ⟨hc _ _ d0, hc _ _ d1, hc _ _ d2, hc _ _ d3, hc _ _ d4, hc _ _ d5, hc _ _ d6, hc _ _ d7, hc _ _ d8, hc _ _ d9, hc _ _ d10, hc _ _ d11⟩, ?_⟩
  by_cases hi : i < k
  · rw [if_pos hi] at hv ⊢
    exact (hv.to (fun j hj => hj.2) hb).mono (Fresh.mono (Nat.le_refl _) hb.size)
  · rw [if_neg hi] at hv ⊢
    exact hv.to hB hb
theorem PFilled.store {B : Nat → Prop} {g n k : Nat} {ps : List Pr} {w : World} (h : PFilled B g n ps k w) (hn : n = ps.length) (hBg : ∀ j, B j → j ≠ g) {t : Pr} (ht : ps[k]? = some t) {la : Option Addr} {ln lc : Nat} {aa : Option Addr} {an ac : Nat} {ta : Option Addr} {tn tc : Nat} {ua : Option Addr} {un uc : Nat} {ka : Option Addr} {kn kc : Nat}
    (hv : PrVal (Fresh (g + 1) w.heap.size) w (prAgg t (.slice la ln lc) (.slice aa an ac) (.slice ta tn tc) (.slice ua un uc) (.slice ka kn kc)) t) :
    PFilled B g n ps (k + 1) (w.setCells g (k * 12) (prCellsL t (.slice la ln lc) (.slice aa an ac) (.slice ta tn tc) (.slice ua un uc) (.slice ka kn kc))) := by
  obtain ⟨cs, hcs, hz⟩ := h.block
  obtain ⟨cs', h1, h2⟩ := heap_setCells_same (prCellsL t (.slice la ln lc) (.slice aa an ac) (.slice ta tn tc) (.slice ua un uc) (.slice ka kn kc)) (k * 12) w cs _ hcs
  have hkl := (List.getElem?_eq_some_iff.1 ht).1
  have hkeep : ∀ F : Nat → Prop, (∀ j, F j → j ≠ g) → Keeps F w (w.setCells g (k * 12) (prCellsL t (.slice la ln lc) (.slice aa an ac) (.slice ta tn tc) (.slice ua un uc) (.slice ka kn kc))) := fun F hF => keeps_setCells hF _ _
  have hsz := size_setCells g (prCellsL t (.slice la ln lc) (.slice aa an ac) (.slice ta tn tc) (.slice ua un uc) (.slice ka kn kc)) (k * 12) w
  refine ⟨⟨cs', h1, by omega⟩, fun i u hu => ?_⟩
  have hil := (List.getElem?_eq_some_iff.1 hu).1
  by_cases e : i = k
  · subst e
    rw [ht] at hu; cases hu
    have hin := World.cell?_setCells_in g (prCellsL t (.slice la ln lc) (.slice aa an ac) (.slice ta tn tc) (.slice ua un uc) (.slice ka kn kc)) (i * 12) w (fun j hj => by
      obtain ⟨x, hx⟩ := cell_in hcs (j := i * 12 + j) (by simp [prCellsL] at hj; omega)
      rw [hx]; rfl)
    refine ⟨la, ln, lc, aa, an, ac, ta, tn, tc, ua, un, uc, ka, kn, kc, ⟨hin 0 (by simp [prCellsL]), hin 1 (by simp [prCellsL]), hin 2 (by simp [prCellsL]), hin 3 (by simp [prCellsL]), hin 4 (by simp [prCellsL]), hin 5 (by simp [prCellsL]), hin 6 (by simp [prCellsL]), hin 7 (by simp [prCellsL]), hin 8 (by simp [prCellsL]), hin 9 (by simp [prCellsL]), hin 10 (by simp [prCellsL]), hin 11 (by simp [prCellsL])⟩, ?_⟩
    rw [if_pos (by omega), hsz]
    exact hv.keep (hkeep _ (fun j hj => by have := hj.1; omega))
  · obtain ⟨la', ln', lc', aa', an', ac', ta', tn', tc', ua', un', uc', ka', kn', kc', ⟨d0, d1, d2, d3, d4, d5, d6, d7, d8, d9, d10, d11⟩, hu'⟩ := h.each i u hu
    have hout : ∀ j, j < 12 → (w.setCells g (k * 12) (prCellsL t (.slice la ln lc) (.slice aa an ac) (.slice ta tn tc) (.slice ua un uc) (.slice ka kn kc))).cell? ⟨g, i * 12 + j, none⟩ = w.cell? ⟨g, i * 12 + j, none⟩ := fun j hj =>
      World.cell?_setCells_out g _ _ _ _ (fun _ hq => by
        rcases Nat.lt_or_ge i k with hik | hik
        · exact .inl (by simp; omega)
        · exact .inr (by simp [prCellsL]; omega))
    refine ⟨la', ln', lc', aa', an', ac', ta', tn', tc', ua', un', uc', ka', kn', kc', ⟨(hout 0 (by omega)).trans d0, (hout 1 (by omega)).trans d1, (hout 2 (by omega)).trans d2, (hout 3 (by omega)).trans d3, (hout 4 (by omega)).trans d4, (hout 5 (by omega)).trans d5, (hout 6 (by omega)).trans d6, (hout 7 (by omega)).trans d7, (hout 8 (by omega)).trans d8, (hout 9 (by omega)).trans d9, (hout 10 (by omega)).trans d10, (hout 11 (by omega)).trans d11⟩, ?_⟩
    by_cases hi : i < k
    · rw [if_pos hi] at hu'
      rw [if_pos (by omega), hsz]
      exact hu'.keep (hkeep _ (fun j hj => by have := hj.1; omega))
    · rw [if_neg hi] at hu'
      rw [if_neg (by omega)]
      exact hu'.keep (hkeep _ hBg)

end Go.Proofs.YtliijbcgkkiekaaGreatDoor
