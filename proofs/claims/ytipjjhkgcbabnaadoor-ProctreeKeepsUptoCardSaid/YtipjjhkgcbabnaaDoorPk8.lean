/- Processes: slices.Clone at the three kinds of lists. (and what follows from it) -/
import Derived.Test.YtipjjhkgcbabnaaDoorPrB
import Derived.Test.YtipjjhkgcbabnaaDoorTyJ
import Derived.Test.YtipjjhkgcbabnaaDoorPk7
import Derived.Test.YtipjjhkgcbabnaaDoorPk3
import Derived.Test.YtipjjhkgcbabnaaDoorPk4
import Derived.OwnWalk
import Derived.Deep.RegionWith

/- Processes: slices.Clone at the three kinds of lists. -/
namespace Go.Proofs.YtipjjhkgcbabnaaDoor
open Go.RowKit Go.Deep

theorem list_of {α : Type} (Q : Nat → α → Prop) : ∀ n : Nat, (∀ i, i < n → ∃ x, Q i x) → ∃ ls : List α, ls.length = n ∧ ∀ i x, ls[i]? = some x → Q i x
  | 0, _ => ⟨[], rfl, fun i x h => by simp at h⟩
  | n + 1, h => by
    obtain ⟨ls, hl, hq⟩ := list_of Q n (fun i hi => h i (by omega))
    obtain ⟨x, hx⟩ := h n (by omega)
    refine ⟨ls ++ [x], by simp [hl], fun i y hy => ?_⟩
    by_cases hi : i < ls.length
    · rw [List.getElem?_append_left hi] at hy; exact hq i y hy
    · rw [List.getElem?_append_right (by omega)] at hy
      rcases Nat.eq_zero_or_pos (i - ls.length) with h0 | h0
      · rw [h0] at hy
        simp at hy
        subst hy
        have : i = n := by omega
        subst this
        exact hx
      · rw [List.getElem?_eq_none (by simp; omega)] at hy; cases hy

theorem valInfo : (Tryd.prog.info? 74).map (fun i => (i.zero, i.size, i.bytes)) = some (some (.agg #[.int .i64 0, .string ⟨#[]⟩, .int .i64 0]), 3, 32) := by kernel_rfl
theorem procInfo : (Tryd.prog.info? 36).map (fun i => (i.zero, i.size, i.bytes)) = some (some (.agg #[.int .i64 0, .string ⟨#[]⟩, .string ⟨#[]⟩, .slice none 0 0, .slice none 0 0, .int .i64 0, .int .i64 0, .string ⟨#[]⟩, .int .i64 0, .slice none 0 0, .slice none 0 0, .slice none 0 0]), 12, 200) := by kernel_rfl
theorem strInfoC : (Tryd.prog.info? 9).map (fun i => (i.zero, i.size, i.bytes)) = some (some (.string ⟨#[]⟩), 1, 16) := by kernel_rfl
theorem eqVl (a : Option Addr) (l c : Nat) (w : World) : (binOp .eql 33 (.slice a l c) (.slice none 0 0)).run Tryd.prog w = .ok (.bool a.isNone) w := Lib.run_eql_slice_nil w 33 74 a l c 0 0 Tryd.underlying33
theorem eqPr (a : Option Addr) (l c : Nat) (w : World) : (binOp .eql 34 (.slice a l c) (.slice none 0 0)).run Tryd.prog w = .ok (.bool a.isNone) w := Lib.run_eql_slice_nil w 34 36 a l c 0 0 Tryd.underlying34

/-- A row that is a copy of the cells at an address. -/
def Cloned (w : World) (e : TypeId) (size : Nat) (n : Nat) (news : List Value) (en : Ending) (w' : World) : Prop :=
  ∃ g cap, en = .returned (.slice (some ⟨g, 0, none⟩) n cap) ∧ n ≤ cap ∧ w'.ownsRow w.heap.size e size (.slice (some ⟨g, 0, none⟩) n cap) n news ∧ w.heap.size ≤ g ∧ g < w'.heap.size ∧ Below w.heap.size w w'

set_option maxHeartbeats 2000000 in
set_option maxRecDepth 100000 in
theorem cloneS_any (ad : Addr) (n c : Nat) (hn : n ≤ 400000000) (news : List Value) (hl : news.length = n * 1) (w : World) (hnews : ∀ j u, news[j]? = some u → w.cell? (ad.add j) = some u) (h1 : ∀ u ∈ news, u.oneCell' = true) :
    Calls Tryd.prog 72 #[.slice (some ad) n c] w (Cloned w 9 1 n news) := by
  have hq := eqS (some ad) n c
  obtain ⟨i0, hi, hz0, hz1, hz2⟩ := info_parts strInfoC
  have HN := Lib.hid hnews
  have H1 := Lib.hid h1
  have HL := Lib.hid hl
  clear hnews h1 hl
  go_enter Tryd.func72, Tryd.ntmps72
  go_wp2_with (at_builtin; refine wpList_append_own _ rfl _ _ 22 rfl w.heap.size 9 i0 (.string ⟨#[]⟩) 1 16 Tryd.underlying22 hi hz0 hz1 hz2 rfl (by decide) _ _ _ rfl (World.ownsRow_made w #[] 0 (Nat.le_refl _) (Nat.zero_le _) rfl) ad n c news rfl HL.out (fun j u hj => Lib.cell?_alloc_some _ (HN.out j u hj)) H1.out (by unfold maxLen; omega) (by omega) (by simp) ?_; intro v' w1 hown hgrow hnil)
  go_wp2_with fail
  go_ret
  have hown' : w1.ownsRow w.heap.size 9 1 v' n news := by simpa using hown
  have hb : Below w.heap.size w w1 := ((Below.refl _ w).alloc (Nat.le_refl _) _).grown hgrow (by simp) (fun k hk => by cases hk; exact Nat.le_refl _)
  rcases hown'.2 with ⟨h0, _⟩ | ⟨g, cap, cur, rfl, hgb, hg, hnc, _⟩
  · rw [hnil] at h0; cases h0.1
  · exact ⟨g, cap, rfl, hnc, hown', hgb, (Array.getElem?_eq_some_iff.1 hg).1, hb⟩

set_option maxHeartbeats 2000000 in
set_option maxRecDepth 100000 in
theorem cloneV_any (ad : Addr) (n c : Nat) (hn : n ≤ 400000000) (news : List Value) (hl : news.length = n * 3) (w : World) (hnews : ∀ j u, news[j]? = some u → w.cell? (ad.add j) = some u) (h1 : ∀ u ∈ news, u.oneCell' = true) :
    Calls Tryd.prog 73 #[.slice (some ad) n c] w (Cloned w 74 3 n news) := by
  have hq := eqVl (some ad) n c
  obtain ⟨i0, hi, hz0, hz1, hz2⟩ := info_parts valInfo
  have HN := Lib.hid hnews
  have H1 := Lib.hid h1
  have HL := Lib.hid hl
  clear hnews h1 hl
  go_enter Tryd.func73, Tryd.ntmps73
  go_wp2_with (at_builtin; refine wpList_append_own _ rfl _ _ 33 rfl w.heap.size 74 i0 (.agg #[.int .i64 0, .string ⟨#[]⟩, .int .i64 0]) 3 32 Tryd.underlying33 hi hz0 hz1 hz2 rfl (by decide) _ _ _ rfl (World.ownsRow_made w #[] 0 (Nat.le_refl _) (Nat.zero_le _) rfl) ad n c news rfl HL.out (fun j u hj => Lib.cell?_alloc_some _ (HN.out j u hj)) H1.out (by unfold maxLen; omega) (by omega) (by simp) ?_; intro v' w1 hown hgrow hnil)
  go_wp2_with fail
  go_ret
  have hown' : w1.ownsRow w.heap.size 74 3 v' n news := by simpa using hown
  have hb : Below w.heap.size w w1 := ((Below.refl _ w).alloc (Nat.le_refl _) _).grown hgrow (by simp) (fun k hk => by cases hk; exact Nat.le_refl _)
  rcases hown'.2 with ⟨h0, _⟩ | ⟨g, cap, cur, rfl, hgb, hg, hnc, _⟩
  · rw [hnil] at h0; cases h0.1
  · exact ⟨g, cap, rfl, hnc, hown', hgb, (Array.getElem?_eq_some_iff.1 hg).1, hb⟩

set_option maxHeartbeats 2000000 in
set_option maxRecDepth 100000 in
theorem cloneP_any (ad : Addr) (n c : Nat) (hn : n ≤ 400000000) (news : List Value) (hl : news.length = n * 12) (w : World) (hnews : ∀ j u, news[j]? = some u → w.cell? (ad.add j) = some u) (h1 : ∀ u ∈ news, u.oneCell' = true) :
    Calls Tryd.prog 75 #[.slice (some ad) n c] w (Cloned w 36 12 n news) := by
  have hq := eqPr (some ad) n c
  obtain ⟨i0, hi, hz0, hz1, hz2⟩ := info_parts procInfo
  have HN := Lib.hid hnews
  have H1 := Lib.hid h1
  have HL := Lib.hid hl
  clear hnews h1 hl
  go_enter Tryd.func75, Tryd.ntmps75
  go_wp2_with (at_builtin; refine wpList_append_own _ rfl _ _ 34 rfl w.heap.size 36 i0 (.agg #[.int .i64 0, .string ⟨#[]⟩, .string ⟨#[]⟩, .slice none 0 0, .slice none 0 0, .int .i64 0, .int .i64 0, .string ⟨#[]⟩, .int .i64 0, .slice none 0 0, .slice none 0 0, .slice none 0 0]) 12 200 Tryd.underlying34 hi hz0 hz1 hz2 rfl (by decide) _ _ _ rfl (World.ownsRow_made w #[] 0 (Nat.le_refl _) (Nat.zero_le _) rfl) ad n c news rfl HL.out (fun j u hj => Lib.cell?_alloc_some _ (HN.out j u hj)) H1.out (by unfold maxLen; omega) (by omega) (by simp) ?_; intro v' w1 hown hgrow hnil)
  go_wp2_with fail
  go_ret
  have hown' : w1.ownsRow w.heap.size 36 12 v' n news := by simpa using hown
  have hb : Below w.heap.size w w1 := ((Below.refl _ w).alloc (Nat.le_refl _) _).grown hgrow (by simp) (fun k hk => by cases hk; exact Nat.le_refl _)
  rcases hown'.2 with ⟨h0, _⟩ | ⟨g, cap, cur, rfl, hgb, hg, hnc, _⟩
  · rw [hnil] at h0; cases h0.1
  · exact ⟨g, cap, rfl, hnc, hown', hgb, (Array.getElem?_eq_some_iff.1 hg).1, hb⟩


theorem cloneS_nil (c : Nat) (w : World) : Calls Tryd.prog 72 #[.slice none 0 c] w fun e w' => e = .returned (.slice none 0 0) ∧ w = w' := by
  have hq := eqS none 0 c
  go_enter Tryd.func72, Tryd.ntmps72
  go_wp2_with fail
  go_ret
  exact ⟨rfl, rfl⟩
theorem cloneV_nil (c : Nat) (w : World) : Calls Tryd.prog 73 #[.slice none 0 c] w fun e w' => e = .returned (.slice none 0 0) ∧ w = w' := by
  have hq := eqVl none 0 c
  go_enter Tryd.func73, Tryd.ntmps73
  go_wp2_with fail
  go_ret
  exact ⟨rfl, rfl⟩
theorem cloneP_nil (c : Nat) (w : World) : Calls Tryd.prog 75 #[.slice none 0 c] w fun e w' => e = .returned (.slice none 0 0) ∧ w = w' := by
  have hq := eqPr none 0 c
  go_enter Tryd.func75, Tryd.ntmps75
  go_wp2_with fail
  go_ret
  exact ⟨rfl, rfl⟩

/-! ### What the copies are -/
theorem addr_add0 (b o j : Nat) : (⟨b, o, none⟩ : Addr).add j = ⟨b, o + j, none⟩ := by
  unfold Addr.add
  by_cases h : j = 0
  · subst h; simp
  · simp [h]
theorem strClone_any (B : Nat → Prop) (v : Value) (ls : List ByteArray) (hn : ls.length ≤ 400000000) (w : World) (h : StrSl B w v ls) :
    Calls Tryd.prog 72 #[v] w (StrRet w ls) := by
  have hsz := h.2.2
  rcases h.1 with ⟨⟨a, c, rfl⟩, rfl⟩ | ⟨b, o, c, rfl, hb, hc, hrow⟩
  · cases a with
    | none => exact (cloneS_nil c w).mono fun e w' ⟨h1, h2⟩ => ⟨_, _, _, h1, ⟨.inl ⟨⟨_, _, rfl⟩, rfl⟩, by simp [maxLen], fun s hs => by cases hs⟩, by rw [h2]; exact Below.refl _ _⟩
    | some ad =>
      refine (cloneS_any ad 0 c (by omega) [] rfl w (fun j u hj => by simp at hj) (fun u hu => by cases hu)).mono fun e w' ⟨g, cap, h1, h2, h3, h4, h5, h6⟩ => ⟨_, _, _, h1, ⟨.inl ⟨⟨_, _, rfl⟩, rfl⟩, by simp [maxLen], fun s hs => by cases hs⟩, h6⟩
  · refine (cloneS_any ⟨b, o, none⟩ ls.length c hn (ls.map .string) (by simp) w (fun j u hj => ?_) (fun u hu => by obtain ⟨x, _, rfl⟩ := List.mem_map.1 hu; rfl)).mono fun e w' ⟨g, cap, h1, h2, h3, h4, h5, h6⟩ => ⟨_, _, _, h1, ⟨.inr ⟨g, 0, cap, rfl, ⟨h4, h5⟩, h2, fun j s hj => ?_⟩, h.2.1, hsz⟩, h6⟩
    · rw [List.getElem?_map] at hj
      cases hx : ls[j]? with
      | none => simp [hx] at hj
      | some x => simp [hx] at hj; subst hj; rw [addr_add0]; exact hrow j x hx
    · have hjl := (List.getElem?_eq_some_iff.1 hj).1
      rw [Nat.zero_add, h3.cellAt j (by omega), List.getElem?_map, hj]; rfl

/-- A list of values in new memory is returned. -/
def VlRet (w : World) (vs : List Vl) (e : Ending) (w' : World) : Prop :=
  ∃ la ln lc, e = .returned (.slice la ln lc) ∧ VlSl (Fresh w.heap.size w'.heap.size) w' (.slice la ln lc) vs ∧ Below w.heap.size w w'
/-- The cells of a row, of n elements of size s each. -/
theorem news_of {w : World} {b o n s : Nat} (h : ∀ i, i < n → ∀ r, r < s → ∃ v, w.cell? ⟨b, o + i * s + r, none⟩ = some v ∧ v.oneCell' = true) (hs : 0 < s) :
    ∃ news : List Value, news.length = n * s ∧ (∀ j u, news[j]? = some u → w.cell? ((⟨b, o, none⟩ : Addr).add j) = some u) ∧ ∀ u ∈ news, u.oneCell' = true := by
  obtain ⟨news, hl, hn⟩ := list_of (fun j v => w.cell? ⟨b, o + j, none⟩ = some v ∧ v.oneCell' = true) (n * s) (fun j hj => by
    have h1 : j / s < n := Nat.div_lt_of_lt_mul (by rw [Nat.mul_comm]; exact hj)
    obtain ⟨v, h2, h3⟩ := h (j / s) h1 (j % s) (Nat.mod_lt _ hs)
    refine ⟨v, ?_, h3⟩
    have e : o + j / s * s + j % s = o + j := by have := Nat.div_add_mod j s; rw [Nat.mul_comm] at this; omega
    rw [e] at h2; exact h2)
  refine ⟨news, hl, fun j u hj => by rw [addr_add0]; exact (hn j u hj).1, fun u hu => ?_⟩
  obtain ⟨i, hi⟩ := List.mem_iff_getElem?.1 hu
  exact (hn i u hi).2
/-- A cell of the copy is the cell that was copied. -/
theorem cloned_cell {w w' : World} {e : TypeId} {b o n s g cap base : Nat} {news : List Value} (hl : news.length = n * s) (hn : ∀ j u, news[j]? = some u → w.cell? ((⟨b, o, none⟩ : Addr).add j) = some u) (h : w'.ownsRow base e s (.slice (some ⟨g, 0, none⟩) n cap) n news) {j : Nat} (hj : j < n * s) {v : Value} (hv : w.cell? ⟨b, o + j, none⟩ = some v) :
    w'.cell? ⟨g, j, none⟩ = some v := by
  rw [h.cellAt j hj]
  obtain ⟨u, hu⟩ : ∃ u, news[j]? = some u := ⟨_, List.getElem?_eq_getElem (by omega)⟩
  have := hn j u hu
  rw [addr_add0, hv] at this
  rw [hu, ← this]

theorem vlClone_any (B : Nat → Prop) (v : Value) (vs : List Vl) (hn : vs.length ≤ 400000000) (w : World) (h : VlSl B w v vs) :
    Calls Tryd.prog 73 #[v] w (VlRet w vs) := by
  have hsz := h.2.2
  rcases h.1 with ⟨⟨a, c, rfl⟩, rfl⟩ | ⟨b, o, c, rfl, hb, hc, hrow⟩
  · cases a with
    | none => exact (cloneV_nil c w).mono fun e w' ⟨h1, h2⟩ => ⟨_, _, _, h1, ⟨.inl ⟨⟨_, _, rfl⟩, rfl⟩, by simp [maxLen], fun s hs => by cases hs⟩, by rw [h2]; exact Below.refl _ _⟩
    | some ad =>
      refine (cloneV_any ad 0 c (by omega) [] rfl w (fun j u hj => by simp at hj) (fun u hu => by cases hu)).mono fun e w' ⟨g, cap, h1, h2, h3, h4, h5, h6⟩ => ⟨_, _, _, h1, ⟨.inl ⟨⟨_, _, rfl⟩, rfl⟩, by simp [maxLen], fun s hs => by cases hs⟩, h6⟩
  · obtain ⟨news, hl, hnw, hone⟩ := news_of (w := w) (b := b) (o := o) (n := vs.length) (s := 3) (fun i hi r hr => by
      obtain ⟨a, ha⟩ : ∃ a, vs[i]? = some a := ⟨_, List.getElem?_eq_getElem hi⟩
      obtain ⟨q0, q1, q2⟩ := hrow i a ha
      match r, hr with
      | 0, _ => exact ⟨_, q0, rfl⟩
      | 1, _ => exact ⟨_, q1, rfl⟩
      | 2, _ => exact ⟨_, q2, rfl⟩) (by omega)
    refine (cloneV_any ⟨b, o, none⟩ vs.length c hn news hl w hnw hone).mono fun e w' ⟨g, cap, h1, h2, h3, h4, h5, h6⟩ => ⟨_, _, _, h1, ⟨.inr ⟨g, 0, cap, rfl, ⟨h4, h5⟩, h2, fun j a hj => ?_⟩, h.2.1, hsz⟩, h6⟩
    have hjl := (List.getElem?_eq_some_iff.1 hj).1
    obtain ⟨q0, q1, q2⟩ := hrow j a hj
    rw [Nat.zero_add]
    exact ⟨cloned_cell hl hnw h3 (by omega) q0, cloned_cell hl hnw h3 (by omega) (by rw [← Nat.add_assoc]; exact q1), cloned_cell hl hnw h3 (by omega) (by rw [← Nat.add_assoc]; exact q2)⟩

/-- Twelve cells from cell o of block g on. -/
def CellsAt (w : World) (g o : Nat) (p : Pr) (lv av tl tk kv : Value) : Prop :=
  w.cell? ⟨g, o, none⟩ = some (.int .i64 p.k) ∧ w.cell? ⟨g, o + 1, none⟩ = some (.string p.c) ∧ w.cell? ⟨g, o + 2, none⟩ = some (.string p.x) ∧ w.cell? ⟨g, o + 3, none⟩ = some lv ∧ w.cell? ⟨g, o + 4, none⟩ = some av ∧
  w.cell? ⟨g, o + 5, none⟩ = some (.int .i64 p.t.k) ∧ w.cell? ⟨g, o + 6, none⟩ = some (.int .i64 p.t.p) ∧ w.cell? ⟨g, o + 7, none⟩ = some (.string p.t.n) ∧ w.cell? ⟨g, o + 8, none⟩ = some (.int .i64 p.t.s) ∧ w.cell? ⟨g, o + 9, none⟩ = some tl ∧ w.cell? ⟨g, o + 10, none⟩ = some tk ∧ w.cell? ⟨g, o + 11, none⟩ = some kv
/-- The copied row of processes: the first k stand anew. -/
structure PFilled (B : Nat → Prop) (g n : Nat) (ps : List Pr) (k : Nat) (w : World) : Prop where
  block : ∃ cs, w.heap[g]? = some (.cells cs 36 (0, 0)) ∧ n * 12 ≤ cs.size
  each : ∀ i p, ps[i]? = some p → ∃ la ln lc aa an ac ta tn tc ua un uc ka kn kc, CellsAt w g (i * 12) p (.slice la ln lc) (.slice aa an ac) (.slice ta tn tc) (.slice ua un uc) (.slice ka kn kc) ∧ PrVal (if i < k then Fresh (g + 1) w.heap.size else B) w (prAgg p (.slice la ln lc) (.slice aa an ac) (.slice ta tn tc) (.slice ua un uc) (.slice ka kn kc)) p
theorem prClone_any (B : Nat → Prop) (v : Value) (ps : List Pr) (hn : ps.length ≤ 65536) (w : World) (hB : Low B w) (h : PrSl B w v ps) :
    Calls Tryd.prog 75 #[v] w fun e w' => ((∃ a c, e = .returned (.slice a 0 c) ∧ ps = []) ∨ ∃ g cap, e = .returned (.slice (some ⟨g, 0, none⟩) ps.length cap) ∧ w.heap.size ≤ g ∧ g < w'.heap.size ∧ PFilled B g ps.length ps 0 w') ∧ Below w.heap.size w w' := by
  rcases h.1 with ⟨⟨a, c, rfl⟩, rfl⟩ | ⟨b, o, c, rfl, hb, hrow⟩
  · cases a with
    | none => exact (cloneP_nil c w).mono fun e w' ⟨h1, h2⟩ => ⟨.inl ⟨_, _, h1, rfl⟩, by rw [h2]; exact Below.refl _ _⟩
    | some ad => exact (cloneP_any ad 0 c (by omega) [] rfl w (fun j u hj => by simp at hj) (fun u hu => by cases hu)).mono fun e w' ⟨g, cap, h1, h2, h3, h4, h5, h6⟩ => ⟨.inl ⟨_, _, h1, rfl⟩, h6⟩
  · obtain ⟨news, hl, hnw, hone⟩ := news_of (w := w) (b := b) (o := o) (n := ps.length) (s := 12) (fun i hi r hr => by
      obtain ⟨p, hp⟩ : ∃ p, ps[i]? = some p := ⟨_, List.getElem?_eq_getElem hi⟩
      obtain ⟨la, ln, lc, aa, an, ac, ta, tn, tc, ua, un, uc, ka, kn, kc, ⟨d0, d1, d2, d3, d4, d5, d6, d7, d8, d9, d10, d11⟩, _⟩ := (hrow.get hp).load'
      match r, hr with
      | 0, _ => exact ⟨_, d0, rfl⟩
      | 1, _ => exact ⟨_, d1, rfl⟩
      | 2, _ => exact ⟨_, d2, rfl⟩
      | 3, _ => exact ⟨_, d3, rfl⟩
      | 4, _ => exact ⟨_, d4, rfl⟩
      | 5, _ => exact ⟨_, d5, rfl⟩
      | 6, _ => exact ⟨_, d6, rfl⟩
      | 7, _ => exact ⟨_, d7, rfl⟩
      | 8, _ => exact ⟨_, d8, rfl⟩
      | 9, _ => exact ⟨_, d9, rfl⟩
      | 10, _ => exact ⟨_, d10, rfl⟩
      | 11, _ => exact ⟨_, d11, rfl⟩) (by omega)
    refine (cloneP_any ⟨b, o, none⟩ ps.length c (by omega) news hl w hnw hone).mono fun e w' ⟨g, cap, h1, h2, h3, h4, h5, h6⟩ => ⟨.inr ⟨g, cap, h1, h4, h5, ?_, fun i p hi => ?_⟩, h6⟩
    · rcases h3.2 with ⟨h, _⟩ | ⟨g', cap', cur, hv, _, hg, hnc, _, hcs, _⟩
      · cases h
      · simp only [Value.slice.injEq, Option.some.injEq, Addr.mk.injEq, and_true, true_and] at hv
        obtain ⟨rfl, rfl⟩ := hv
        exact ⟨cur, hg, by rw [hcs]; exact Nat.mul_le_mul_right _ hnc⟩
    · have hil := (List.getElem?_eq_some_iff.1 hi).1
      obtain ⟨la, ln, lc, aa, an, ac, ta, tn, tc, ua, un, uc, ka, kn, kc, ⟨d0, d1, d2, d3, d4, d5, d6, d7, d8, d9, d10, d11⟩, hval⟩ := (hrow.get hi).load'
      have hc : ∀ (r : Nat) (v : Value), r < 12 → w.cell? ⟨b, o + i * 12 + r, none⟩ = some v → w'.cell? ⟨g, i * 12 + r, none⟩ = some v := fun r v hr hv => cloned_cell hl hnw h3 (by omega) (by rw [← Nat.add_assoc]; exact hv)
      refine ⟨la, ln, lc, aa, an, ac, ta, tn, tc, ua, un, uc, ka, kn, kc, ⟨hc 0 _ (by omega) d0, hc 1 _ (by omega) d1, hc 2 _ (by omega) d2, hc 3 _ (by omega) d3, hc 4 _ (by omega) d4, hc 5 _ (by omega) d5, hc 6 _ (by omega) d6, hc 7 _ (by omega) d7, hc 8 _ (by omega) d8, hc 9 _ (by omega) d9, hc 10 _ (by omega) d10, hc 11 _ (by omega) d11⟩, ?_⟩
      rw [if_neg (by omega)]
      exact hval.to hB h6

end Go.Proofs.YtipjjhkgcbabnaaDoor

/- Processes: Copy. -/
namespace Go.Proofs.YtipjjhkgcbabnaaDoor
open Go.RowKit Go.Deep

mutual
/-- Processes whose lists are not too long. -/
def Pr.mod : Pr → Prop
  | .mk _ _ _ ls vs t ps => ls.length ≤ 400000000 ∧ vs.length ≤ 400000000 ∧ ps.length ≤ 65536 ∧ t.modc ∧ Pr.mods ps
def Pr.mods : List Pr → Prop
  | [] => True
  | p :: r => p.mod ∧ Pr.mods r
end
theorem Pr.mods_mem : ∀ {l : List Pr}, Pr.mods l → ∀ p ∈ l, p.mod
  | [], _, _, h => by cases h
  | u :: r, h, p, hp => by
    simp only [Pr.mods] at h
    rcases List.mem_cons.1 hp with rfl | hp
    · exact h.1
    · exact Pr.mods_mem h.2 p hp
/-- A process in new memory is returned. -/
def PrRet (w : World) (p : Pr) (e : Ending) (w' : World) : Prop :=
  ∃ la ln lc aa an ac ta tn tc ua un uc ka kn kc, e = .returned (prAgg p (.slice la ln lc) (.slice aa an ac) (.slice ta tn tc) (.slice ua un uc) (.slice ka kn kc)) ∧
    PrVal (Fresh w.heap.size w'.heap.size) w' (prAgg p (.slice la ln lc) (.slice aa an ac) (.slice ta tn tc) (.slice ua un uc) (.slice ka kn kc)) p ∧ Below w.heap.size w w'

/-- A block of twelve cells, whole. -/
def Twelve (w : World) (b : Nat) (a0 a1 a2 a3 a4 a5 a6 a7 a8 a9 a10 a11 : Value) : Prop := w.heap[b]? = some (.cells #[a0, a1, a2, a3, a4, a5, a6, a7, a8, a9, a10, a11] 36 (0, 0))
section
variable {w w' : World} {b : Nat} {a0 a1 a2 a3 a4 a5 a6 a7 a8 a9 a10 a11 : Value}
theorem Twelve.cells (h : Twelve w b a0 a1 a2 a3 a4 a5 a6 a7 a8 a9 a10 a11) :
    (w.cell? ⟨b, 0, none⟩ = some a0 ∧ w.cell? ⟨b, 1, none⟩ = some a1 ∧ w.cell? ⟨b, 2, none⟩ = some a2 ∧ w.cell? ⟨b, 3, none⟩ = some a3 ∧ w.cell? ⟨b, 4, none⟩ = some a4 ∧ w.cell? ⟨b, 5, none⟩ = some a5 ∧ w.cell? ⟨b, 6, none⟩ = some a6 ∧ w.cell? ⟨b, 7, none⟩ = some a7 ∧ w.cell? ⟨b, 8, none⟩ = some a8 ∧ w.cell? ⟨b, 9, none⟩ = some a9 ∧ w.cell? ⟨b, 10, none⟩ = some a10 ∧ w.cell? ⟨b, 11, none⟩ = some a11) ∧ ∀ j, w.frozen? ⟨b, j, none⟩ = false := by
  unfold Twelve at h
  refine ⟨⟨?_, ?_, ?_, ?_, ?_, ?_, ?_, ?_, ?_, ?_, ?_, ?_⟩, fun j => frozen_of_block h j⟩ <;> simp [World.cell?, h]
theorem Twelve.lt (h : Twelve w b a0 a1 a2 a3 a4 a5 a6 a7 a8 a9 a10 a11) : b < w.heap.size := (Array.getElem?_eq_some_iff.1 h).1
theorem Twelve.to (h : Twelve w b a0 a1 a2 a3 a4 a5 a6 a7 a8 a9 a10 a11) (hb : Below w.heap.size w w') : Twelve w' b a0 a1 a2 a3 a4 a5 a6 a7 a8 a9 a10 a11 := (hb.block b h.lt).trans h
theorem Twelve.other (h : Twelve w b a0 a1 a2 a3 a4 a5 a6 a7 a8 a9 a10 a11) {c o : Nat} (hne : b ≠ c) (v : Value) : Twelve (w.setCell ⟨c, o, none⟩ v) b a0 a1 a2 a3 a4 a5 a6 a7 a8 a9 a10 a11 := (Below.heap_setCell _ _ _ b hne).trans h
theorem Twelve.others (h : Twelve w b a0 a1 a2 a3 a4 a5 a6 a7 a8 a9 a10 a11) {c : Nat} (hne : b ≠ c) (vs : List Value) (o : Nat) : Twelve (w.setCells c o vs) b a0 a1 a2 a3 a4 a5 a6 a7 a8 a9 a10 a11 := (heap_setCells_other hne _ _ _).trans h
theorem Twelve.set3 (h : Twelve w b a0 a1 a2 a3 a4 a5 a6 a7 a8 a9 a10 a11) (v : Value) : Twelve (w.setCell ⟨b, 3, none⟩ v) b a0 a1 a2 v a4 a5 a6 a7 a8 a9 a10 a11 := set_block h 3 v
theorem Twelve.set4 (h : Twelve w b a0 a1 a2 a3 a4 a5 a6 a7 a8 a9 a10 a11) (v : Value) : Twelve (w.setCell ⟨b, 4, none⟩ v) b a0 a1 a2 a3 v a5 a6 a7 a8 a9 a10 a11 := set_block h 4 v
theorem Twelve.set11 (h : Twelve w b a0 a1 a2 a3 a4 a5 a6 a7 a8 a9 a10 a11) (v : Value) : Twelve (w.setCell ⟨b, 11, none⟩ v) b a0 a1 a2 a3 a4 a5 a6 a7 a8 a9 a10 v := set_block h 11 v
theorem Twelve.setT (h : Twelve w b a0 a1 a2 a3 a4 a5 a6 a7 a8 a9 a10 a11) (v5 v6 v7 v8 v9 v10 : Value) : Twelve (w.setCells b 5 [v5, v6, v7, v8, v9, v10]) b a0 a1 a2 a3 a4 v5 v6 v7 v8 v9 v10 a11 := by
  have h5 : Twelve (w.setCell ⟨b, 5, none⟩ v5) b a0 a1 a2 a3 a4 v5 a6 a7 a8 a9 a10 a11 := set_block h 5 v5
  have h6 : Twelve ((w.setCell ⟨b, 5, none⟩ v5).setCell ⟨b, 6, none⟩ v6) b a0 a1 a2 a3 a4 v5 v6 a7 a8 a9 a10 a11 := set_block h5 6 v6
  have h7 : Twelve (((w.setCell ⟨b, 5, none⟩ v5).setCell ⟨b, 6, none⟩ v6).setCell ⟨b, 7, none⟩ v7) b a0 a1 a2 a3 a4 v5 v6 v7 a8 a9 a10 a11 := set_block h6 7 v7
  have h8 : Twelve ((((w.setCell ⟨b, 5, none⟩ v5).setCell ⟨b, 6, none⟩ v6).setCell ⟨b, 7, none⟩ v7).setCell ⟨b, 8, none⟩ v8) b a0 a1 a2 a3 a4 v5 v6 v7 v8 a9 a10 a11 := set_block h7 8 v8
  have h9 : Twelve (((((w.setCell ⟨b, 5, none⟩ v5).setCell ⟨b, 6, none⟩ v6).setCell ⟨b, 7, none⟩ v7).setCell ⟨b, 8, none⟩ v8).setCell ⟨b, 9, none⟩ v9) b a0 a1 a2 a3 a4 v5 v6 v7 v8 v9 a10 a11 := set_block h8 9 v9
  have h10 : Twelve ((((((w.setCell ⟨b, 5, none⟩ v5).setCell ⟨b, 6, none⟩ v6).setCell ⟨b, 7, none⟩ v7).setCell ⟨b, 8, none⟩ v8).setCell ⟨b, 9, none⟩ v9).setCell ⟨b, 10, none⟩ v10) b a0 a1 a2 a3 a4 v5 v6 v7 v8 v9 v10 a11 := set_block h9 10 v10
  exact h10
theorem Twelve.fill (h : Twelve w b a0 a1 a2 a3 a4 a5 a6 a7 a8 a9 a10 a11) (v0 v1 v2 v3 v4 v5 v6 v7 v8 v9 v10 v11 : Value) : Twelve (w.setCells b 0 [v0, v1, v2, v3, v4, v5, v6, v7, v8, v9, v10, v11]) b v0 v1 v2 v3 v4 v5 v6 v7 v8 v9 v10 v11 := by
  have h0 : Twelve (w.setCell ⟨b, 0, none⟩ v0) b v0 a1 a2 a3 a4 a5 a6 a7 a8 a9 a10 a11 := set_block h 0 v0
  have h1 : Twelve ((w.setCell ⟨b, 0, none⟩ v0).setCell ⟨b, 1, none⟩ v1) b v0 v1 a2 a3 a4 a5 a6 a7 a8 a9 a10 a11 := set_block h0 1 v1
  have h2 : Twelve (((w.setCell ⟨b, 0, none⟩ v0).setCell ⟨b, 1, none⟩ v1).setCell ⟨b, 2, none⟩ v2) b v0 v1 v2 a3 a4 a5 a6 a7 a8 a9 a10 a11 := set_block h1 2 v2
  have h3 : Twelve ((((w.setCell ⟨b, 0, none⟩ v0).setCell ⟨b, 1, none⟩ v1).setCell ⟨b, 2, none⟩ v2).setCell ⟨b, 3, none⟩ v3) b v0 v1 v2 v3 a4 a5 a6 a7 a8 a9 a10 a11 := set_block h2 3 v3
  have h4 : Twelve (((((w.setCell ⟨b, 0, none⟩ v0).setCell ⟨b, 1, none⟩ v1).setCell ⟨b, 2, none⟩ v2).setCell ⟨b, 3, none⟩ v3).setCell ⟨b, 4, none⟩ v4) b v0 v1 v2 v3 v4 a5 a6 a7 a8 a9 a10 a11 := set_block h3 4 v4
  have h5 : Twelve ((((((w.setCell ⟨b, 0, none⟩ v0).setCell ⟨b, 1, none⟩ v1).setCell ⟨b, 2, none⟩ v2).setCell ⟨b, 3, none⟩ v3).setCell ⟨b, 4, none⟩ v4).setCell ⟨b, 5, none⟩ v5) b v0 v1 v2 v3 v4 v5 a6 a7 a8 a9 a10 a11 := set_block h4 5 v5
  have h6 : Twelve (((((((w.setCell ⟨b, 0, none⟩ v0).setCell ⟨b, 1, none⟩ v1).setCell ⟨b, 2, none⟩ v2).setCell ⟨b, 3, none⟩ v3).setCell ⟨b, 4, none⟩ v4).setCell ⟨b, 5, none⟩ v5).setCell ⟨b, 6, none⟩ v6) b v0 v1 v2 v3 v4 v5 v6 a7 a8 a9 a10 a11 := set_block h5 6 v6
  have h7 : Twelve ((((((((w.setCell ⟨b, 0, none⟩ v0).setCell ⟨b, 1, none⟩ v1).setCell ⟨b, 2, none⟩ v2).setCell ⟨b, 3, none⟩ v3).setCell ⟨b, 4, none⟩ v4).setCell ⟨b, 5, none⟩ v5).setCell ⟨b, 6, none⟩ v6).setCell ⟨b, 7, none⟩ v7) b v0 v1 v2 v3 v4 v5 v6 v7 a8 a9 a10 a11 := set_block h6 7 v7
  have h8 : Twelve (((((((((w.setCell ⟨b, 0, none⟩ v0).setCell ⟨b, 1, none⟩ v1).setCell ⟨b, 2, none⟩ v2).setCell ⟨b, 3, none⟩ v3).setCell ⟨b, 4, none⟩ v4).setCell ⟨b, 5, none⟩ v5).setCell ⟨b, 6, none⟩ v6).setCell ⟨b, 7, none⟩ v7).setCell ⟨b, 8, none⟩ v8) b v0 v1 v2 v3 v4 v5 v6 v7 v8 a9 a10 a11 := set_block h7 8 v8
  have h9 : Twelve ((((((((((w.setCell ⟨b, 0, none⟩ v0).setCell ⟨b, 1, none⟩ v1).setCell ⟨b, 2, none⟩ v2).setCell ⟨b, 3, none⟩ v3).setCell ⟨b, 4, none⟩ v4).setCell ⟨b, 5, none⟩ v5).setCell ⟨b, 6, none⟩ v6).setCell ⟨b, 7, none⟩ v7).setCell ⟨b, 8, none⟩ v8).setCell ⟨b, 9, none⟩ v9) b v0 v1 v2 v3 v4 v5 v6 v7 v8 v9 a10 a11 := set_block h8 9 v9
  have h10 : Twelve (((((((((((w.setCell ⟨b, 0, none⟩ v0).setCell ⟨b, 1, none⟩ v1).setCell ⟨b, 2, none⟩ v2).setCell ⟨b, 3, none⟩ v3).setCell ⟨b, 4, none⟩ v4).setCell ⟨b, 5, none⟩ v5).setCell ⟨b, 6, none⟩ v6).setCell ⟨b, 7, none⟩ v7).setCell ⟨b, 8, none⟩ v8).setCell ⟨b, 9, none⟩ v9).setCell ⟨b, 10, none⟩ v10) b v0 v1 v2 v3 v4 v5 v6 v7 v8 v9 v10 a11 := set_block h9 10 v10
  have h11 : Twelve ((((((((((((w.setCell ⟨b, 0, none⟩ v0).setCell ⟨b, 1, none⟩ v1).setCell ⟨b, 2, none⟩ v2).setCell ⟨b, 3, none⟩ v3).setCell ⟨b, 4, none⟩ v4).setCell ⟨b, 5, none⟩ v5).setCell ⟨b, 6, none⟩ v6).setCell ⟨b, 7, none⟩ v7).setCell ⟨b, 8, none⟩ v8).setCell ⟨b, 9, none⟩ v9).setCell ⟨b, 10, none⟩ v10).setCell ⟨b, 11, none⟩ v11) b v0 v1 v2 v3 v4 v5 v6 v7 v8 v9 v10 v11 := set_block h10 11 v11
  exact h11
end
/-- The cells of a process, a list. -/
def prCellsL (p : Pr) (lv av tl tk kv : Value) : List Value := [.int .i64 p.k, .string p.c, .string p.x, lv, av, .int .i64 p.t.k, .int .i64 p.t.p, .string p.t.n, .int .i64 p.t.s, tl, tk, kv]
theorem setCells12 (w : World) (g o : Nat) (a b c d e f a' b' c' d' e' f' : Value) : w.setCells g o [a, b, c, d, e, f, a', b', c', d', e', f'] =
    (((((((((((w.setCell ⟨g, o, none⟩ a).setCell ⟨g, o + 1, none⟩ b).setCell ⟨g, o + 2, none⟩ c).setCell ⟨g, o + 3, none⟩ d).setCell ⟨g, o + 4, none⟩ e).setCell ⟨g, o + 5, none⟩ f).setCell ⟨g, o + 6, none⟩ a').setCell ⟨g, o + 7, none⟩ b').setCell ⟨g, o + 8, none⟩ c').setCell ⟨g, o + 9, none⟩ d').setCell ⟨g, o + 10, none⟩ e').setCell ⟨g, o + 11, none⟩ f' := rfl
theorem Twelve.new (w : World) (a0 a1 a2 a3 a4 a5 a6 a7 a8 a9 a10 a11 : Value) : Twelve (w.alloc (.cells #[a0, a1, a2, a3, a4, a5, a6, a7, a8, a9, a10, a11] 36)) w.heap.size a0 a1 a2 a3 a4 a5 a6 a7 a8 a9 a10 a11 := World.alloc_heap_new w _
/-- Stores into one block of the call's own leave what lies in others. -/
theorem keeps_setCells {F : Nat → Prop} {w : World} {c : Nat} (h : ∀ k, F k → k ≠ c) (vs : List Value) (o : Nat) : Keeps F w (w.setCells c o vs) := fun k _ hk ho _ => (heap_setCells_other (h k hk) _ _ _).trans ho

theorem PFilled.to {B : Nat → Prop} {g n k : Nat} {ps : List Pr} {w w' : World} (h : PFilled B g n ps k w) (hB : Low B w) (hb : Below w.heap.size w w') : PFilled B g n ps k w' := by
  obtain ⟨cs, hcs, hz⟩ := h.block
  have hg := (Array.getElem?_eq_some_iff.1 hcs).1
  refine ⟨⟨cs, (hb.block g hg).trans hcs, hz⟩, fun i t ht => ?_⟩
  obtain ⟨la, ln, lc, aa, an, ac, ta, tn, tc, ua, un, uc, ka, kn, kc, ⟨d0, d1, d2, d3, d4, d5, d6, d7, d8, d9, d10, d11⟩, hv⟩ := h.each i t ht
  have hc : ∀ (o : Nat) (v : Value), w.cell? ⟨g, o, none⟩ = some v → w'.cell? ⟨g, o, none⟩ = some v := fun o v hv => (hb.cell (p := ⟨g, o, none⟩) hg).trans hv
  refine ⟨la, ln, lc, aa, an, ac, ta, tn, tc, ua, un, uc, ka, kn, kc, ⟨hc _ _ d0, hc _ _ d1, hc _ _ d2, hc _ _ d3, hc _ _ d4, hc _ _ d5, hc _ _ d6, hc _ _ d7, hc _ _ d8, hc _ _ d9, hc _ _ d10, hc _ _ d11⟩, ?_⟩
  by_cases hi : i < k
  · rw [if_pos hi] at hv ⊢
    exact (hv.to (fun j hj => hj.2) hb).mono (Fresh.mono (Nat.le_refl _) hb.size)
  · rw [if_neg hi] at hv ⊢
    exact hv.to hB hb
theorem PFilled.store {B : Nat → Prop} {g n k : Nat} {ps : List Pr} {w : World} (h : PFilled B g n ps k w) (hn : n = ps.length) (hBg : ∀ j, B j → j ≠ g) {t : Pr} (ht : ps[k]? = some t) {la : Option Addr} {ln lc : Nat} {aa : Option Addr} {an ac : Nat} {ta : Option Addr} {tn tc : Nat} {ua : Option Addr} {un uc : Nat} {ka : Option Addr} {kn kc : Nat}
    (hv : PrVal (Fresh (g + 1) w.heap.size) w (prAgg t (.slice la ln lc) (.slice aa an ac) (.slice ta tn tc) (.slice ua un uc) (.slice ka kn kc)) t) :
    PFilled B g n ps (k + 1) (w.setCells g (k * 12) (prCellsL t (.slice la ln lc) (.slice aa an ac) (.slice ta tn tc) (.slice ua un uc) (.slice ka kn kc))) := by
  obtain ⟨cs, hcs, hz⟩ := h.block
  obtain ⟨cs', h1, h2⟩ := heap_setCells_same (prCellsL t (.slice la ln lc) (.slice aa an ac) (.slice ta tn tc) (.slice ua un uc) (.slice ka kn kc)) (k * 12) w cs _ hcs
  have hkl := (List.getElem?_eq_some_iff.1 ht).1
  have hkeep : ∀ F : Nat → Prop, (∀ j, F j → j ≠ g) → Keeps F w (w.setCells g (k * 12) (prCellsL t (.slice la ln lc) (.slice aa an ac) (.slice ta tn tc) (.slice ua un uc) (.slice ka kn kc))) := fun F hF => keeps_setCells hF _ _
  have hsz := size_setCells g (prCellsL t (.slice la ln lc) (.slice aa an ac) (.slice ta tn tc) (.slice ua un uc) (.slice ka kn kc)) (k * 12) w
  refine ⟨⟨cs', h1, by omega⟩, fun i u hu => ?_⟩
  have hil := (List.getElem?_eq_some_iff.1 hu).1
  by_cases e : i = k
  · subst e
    rw [ht] at hu; cases hu
    have hin := World.cell?_setCells_in g (prCellsL t (.slice la ln lc) (.slice aa an ac) (.slice ta tn tc) (.slice ua un uc) (.slice ka kn kc)) (i * 12) w (fun j hj => by
      obtain ⟨x, hx⟩ := cell_in hcs (j := i * 12 + j) (by simp [prCellsL] at hj; omega)
      rw [hx]; rfl)
    refine ⟨la, ln, lc, aa, an, ac, ta, tn, tc, ua, un, uc, ka, kn, kc, ⟨hin 0 (by simp [prCellsL]), hin 1 (by simp [prCellsL]), hin 2 (by simp [prCellsL]), hin 3 (by simp [prCellsL]), hin 4 (by simp [prCellsL]), hin 5 (by simp [prCellsL]), hin 6 (by simp [prCellsL]), hin 7 (by simp [prCellsL]), hin 8 (by simp [prCellsL]), hin 9 (by simp [prCellsL]), hin 10 (by simp [prCellsL]), hin 11 (by simp [prCellsL])⟩, ?_⟩
    rw [if_pos (by omega), hsz]
    exact hv.keep (hkeep _ (fun j hj => by have := hj.1; omega))
  · obtain ⟨la', ln', lc', aa', an', ac', ta', tn', tc', ua', un', uc', ka', kn', kc', ⟨d0, d1, d2, d3, d4, d5, d6, d7, d8, d9, d10, d11⟩, hu'⟩ := h.each i u hu
    have hout : ∀ j, j < 12 → (w.setCells g (k * 12) (prCellsL t (.slice la ln lc) (.slice aa an ac) (.slice ta tn tc) (.slice ua un uc) (.slice ka kn kc))).cell? ⟨g, i * 12 + j, none⟩ = w.cell? ⟨g, i * 12 + j, none⟩ := fun j hj =>
      World.cell?_setCells_out g _ _ _ _ (fun _ hq => by
        rcases Nat.lt_or_ge i k with hik | hik
        · exact .inl (by simp; omega)
        · exact .inr (by simp [prCellsL]; omega))
    refine ⟨la', ln', lc', aa', an', ac', ta', tn', tc', ua', un', uc', ka', kn', kc', ⟨(hout 0 (by omega)).trans d0, (hout 1 (by omega)).trans d1, (hout 2 (by omega)).trans d2, (hout 3 (by omega)).trans d3, (hout 4 (by omega)).trans d4, (hout 5 (by omega)).trans d5, (hout 6 (by omega)).trans d6, (hout 7 (by omega)).trans d7, (hout 8 (by omega)).trans d8, (hout 9 (by omega)).trans d9, (hout 10 (by omega)).trans d10, (hout 11 (by omega)).trans d11⟩, ?_⟩
    by_cases hi : i < k
    · rw [if_pos hi] at hu'
      rw [if_pos (by omega), hsz]
      exact hu'.keep (hkeep _ (fun j hj => by have := hj.1; omega))
    · rw [if_neg hi] at hu'
      rw [if_neg (by omega)]
      exact hu'.keep (hkeep _ hBg)

end Go.Proofs.YtipjjhkgcbabnaaDoor

/- Processes: Copy, walked. -/
namespace Go.Proofs.YtipjjhkgcbabnaaDoor
open Go.RowKit Go.Deep

theorem ty_slices {B : Nat → Prop} {w : World} {t : Ty} {k p s : Int} {n : ByteArray} {tl tk : Value} (h : TyVal B w (.agg #[.int .i64 k, .int .i64 p, .string n, .int .i64 s, tl, tk]) t) : (∃ (a : Option Addr) (n c : Nat), tl = .slice a n c) ∧ ∃ (a : Option Addr) (n c : Nat), tk = .slice a n c := by
  obtain ⟨lv', kv', e, _, hl, hk2⟩ := h
  simp only [Value.agg.injEq, Array.mk.injEq, List.cons.injEq, and_true] at e
  obtain ⟨_, _, _, _, rfl, rfl⟩ := e
  obtain ⟨a, n, c, e, _⟩ := hl.open
  obtain ⟨a', n', c', e', _⟩ := hk2.open
  exact ⟨⟨a, n, c, e⟩, a', n', c', e'⟩
abbrev zero12 : Obj := .cells #[.int .i64 0, .string ⟨#[]⟩, .string ⟨#[]⟩, .slice none 0 0, .slice none 0 0, .int .i64 0, .int .i64 0, .string ⟨#[]⟩, .int .i64 0, .slice none 0 0, .slice none 0 0, .slice none 0 0] 36

theorem PFilled.keep {B : Nat → Prop} {g n k : Nat} {ps : List Pr} {w w' : World} (h : PFilled B g n ps k w) (hg : w'.heap[g]? = w.heap[g]?) (hs : w.heap.size ≤ w'.heap.size) (hB : Keeps B w w') (hF : Keeps (Fresh (g + 1) w.heap.size) w w') : PFilled B g n ps k w' := by
  obtain ⟨cs, hcs, hz⟩ := h.block
  have hc : ∀ (o : Nat) (v : Value), w.cell? ⟨g, o, none⟩ = some v → w'.cell? ⟨g, o, none⟩ = some v := fun o v hv => by
    rw [← hv]; unfold World.cell?; simp only [hg]
  refine ⟨⟨cs, hg.trans hcs, hz⟩, fun i t ht => ?_⟩
  obtain ⟨la, ln, lc, aa, an, ac, ta, tn, tc, ua, un, uc, ka, kn, kc, ⟨d0, d1, d2, d3, d4, d5, d6, d7, d8, d9, d10, d11⟩, hv⟩ := h.each i t ht
  refine ⟨la, ln, lc, aa, an, ac, ta, tn, tc, ua, un, uc, ka, kn, kc, ⟨hc _ _ d0, hc _ _ d1, hc _ _ d2, hc _ _ d3, hc _ _ d4, hc _ _ d5, hc _ _ d6, hc _ _ d7, hc _ _ d8, hc _ _ d9, hc _ _ d10, hc _ _ d11⟩, ?_⟩
  by_cases hi : i < k
  · rw [if_pos hi] at hv ⊢
    exact (hv.keep hF).mono (Fresh.mono (Nat.le_refl _) hs)
  · rw [if_neg hi] at hv ⊢
    exact hv.keep hB
/-- What stands while the Kids are copied. -/
structure CpSt (w : World) (m : Nat) (p : Pr) (lv av tl tk kv : Value) (wr : World) : Prop where
  own : Twelve wr w.heap.size (.int .i64 p.k) (.string p.c) (.string p.x) lv av (.int .i64 p.t.k) (.int .i64 p.t.p) (.string p.t.n) (.int .i64 p.t.s) tl tk kv
  res : Twelve wr (w.heap.size + 1) (.int .i64 0) (.string ⟨#[]⟩) (.string ⟨#[]⟩) (.slice none 0 0) (.slice none 0 0) (.int .i64 0) (.int .i64 0) (.string ⟨#[]⟩) (.int .i64 0) (.slice none 0 0) (.slice none 0 0) (.slice none 0 0)
  strs : StrSl (Fresh (w.heap.size + 2) m) wr lv p.ls
  vals : VlSl (Fresh (w.heap.size + 2) m) wr av p.vs
  ty : TyVal (Fresh (w.heap.size + 2) m) wr (.agg #[.int .i64 p.t.k, .int .i64 p.t.p, .string p.t.n, .int .i64 p.t.s, tl, tk]) p.t
  below : Below w.heap.size w wr
  low : w.heap.size + 2 ≤ m ∧ m ≤ wr.heap.size
theorem CpSt.to {w : World} {m : Nat} {p : Pr} {lv av tl tk kv : Value} {wr W : World} (h : CpSt w m p lv av tl tk kv wr) (hb : Below wr.heap.size wr W) : CpSt w m p lv av tl tk kv W := by
  have hk : Keeps (Fresh (w.heap.size + 2) m) wr W := hb.keeps'.mono (fun k hk => by have := hk.2; have := h.low.2; omega)
  exact ⟨h.own.to hb, h.res.to hb, h.strs.keep hk, h.vals.keep hk, h.ty.keep hk, below_seq h.below hb, h.low.1, Nat.le_trans h.low.2 hb.size⟩
theorem CpSt.stores {w : World} {m : Nat} {p : Pr} {lv av tl tk kv : Value} {wr : World} (h : CpSt w m p lv av tl tk kv wr) {g : Nat} (hg : m ≤ g) (vs : List Value) (o : Nat) : CpSt w m p lv av tl tk kv (wr.setCells g o vs) := by
  have hk : Keeps (Fresh (w.heap.size + 2) m) wr (wr.setCells g o vs) := keeps_setCells (fun k hk => by have := hk.2; omega) _ _
  have := h.low.1
  exact ⟨h.own.others (by omega) _ _, h.res.others (by omega) _ _, h.strs.keep hk, h.vals.keep hk, h.ty.keep hk, h.below.trans (below_setCells g (by omega) _ _ _), h.low.1, by rw [size_setCells]; exact h.low.2⟩

set_option maxHeartbeats 4000000 in
set_option maxRecDepth 100000 in
theorem pcopy_step (B : Nat → Prop) (p : Pr) (hm : p.mod) (ih : ∀ u ∈ p.ps, ∀ (v : Value) (w : World), Low B w → PrVal B w v u → Calls Tryd.prog 41 #[v] w (PrRet w u)) (v : Value) (w : World) (hB : Low B w) (hv : PrVal B w v p) :
    Calls Tryd.prog 41 #[v] w (PrRet w p) := by
  obtain ⟨lv, av, tl, tk, kv, rfl, hn, hl, ha, ht, hk⟩ := hv
  obtain ⟨la, ln, lc, rfl, _⟩ := hl.open
  obtain ⟨aa, an, ac, rfl, _⟩ := ha.open
  obtain ⟨ka, kn, kc, rfl, _⟩ := hk.open
  obtain ⟨⟨ta, tn, tc, rfl⟩, ua, un, uc, rfl⟩ := ty_slices ht
  have hm' : p.ls.length ≤ 400000000 ∧ p.vs.length ≤ 400000000 ∧ p.ps.length ≤ 65536 ∧ p.t.modc := by
    cases p; simp only [Pr.mod] at hm; exact ⟨hm.1, hm.2.1, hm.2.2.1, hm.2.2.2.1⟩
  obtain ⟨hm1, hm2, hm3, hm4⟩ := hm'
  have t0 : Twelve ((w.alloc (cell12 p (.slice la ln lc) (.slice aa an ac) (.slice ta tn tc) (.slice ua un uc) (.slice ka kn kc))).alloc zero12) w.heap.size (.int .i64 p.k) (.string p.c) (.string p.x) (.slice la ln lc) (.slice aa an ac) (.int .i64 p.t.k) (.int .i64 p.t.p) (.string p.t.n) (.int .i64 p.t.s) (.slice ta tn tc) (.slice ua un uc) (.slice ka kn kc) := (Twelve.new w _ _ _ _ _ _ _ _ _ _ _ _).to (blkBelow _ _ _)
  have t1 : Twelve ((w.alloc (cell12 p (.slice la ln lc) (.slice aa an ac) (.slice ta tn tc) (.slice ua un uc) (.slice ka kn kc))).alloc zero12) (w.heap.size + 1) (.int .i64 0) (.string ⟨#[]⟩) (.string ⟨#[]⟩) (.slice none 0 0) (.slice none 0 0) (.int .i64 0) (.int .i64 0) (.string ⟨#[]⟩) (.int .i64 0) (.slice none 0 0) (.slice none 0 0) (.slice none 0 0) := by
    have := Twelve.new (w.alloc (cell12 p (.slice la ln lc) (.slice aa an ac) (.slice ta tn tc) (.slice ua un uc) (.slice ka kn kc))) (.int .i64 0) (.string ⟨#[]⟩) (.string ⟨#[]⟩) (.slice none 0 0) (.slice none 0 0) (.int .i64 0) (.int .i64 0) (.string ⟨#[]⟩) (.int .i64 0) (.slice none 0 0) (.slice none 0 0) (.slice none 0 0)
    rwa [World.size_alloc] at this
  have hb0 : Below w.heap.size w ((w.alloc (cell12 p (.slice la ln lc) (.slice aa an ac) (.slice ta tn tc) (.slice ua un uc) (.slice ka kn kc))).alloc zero12) := ((Below.refl _ _).alloc (Nat.le_refl _) _).alloc (by simp) _
  have hs2 : ((w.alloc (cell12 p (.slice la ln lc) (.slice aa an ac) (.slice ta tn tc) (.slice ua un uc) (.slice ka kn kc))).alloc zero12).heap.size = w.heap.size + 2 := by simp
  obtain ⟨w2, hw2⟩ : ∃ w2, (w.alloc (cell12 p (.slice la ln lc) (.slice aa an ac) (.slice ta tn tc) (.slice ua un uc) (.slice ka kn kc))).alloc zero12 = w2 := ⟨_, rfl⟩
  rw [hw2] at t0 t1 hb0 hs2
  simp only [cell12, zero12] at hw2
  have HW2 := Lib.hid hw2
  have HIH := Lib.hid ih
  have HL := Lib.hid hl
  have HA := Lib.hid ha
  have HT := Lib.hid ht
  have HK := Lib.hid hk
  have HNS := Lib.hid hn
  obtain ⟨ps, hps⟩ : ∃ ps, p.ps = ps := ⟨_, rfl⟩
  rw [hps] at HK HIH hm3
  clear hl ha ht hk ih hm hw2 hn
  unfold prAgg
  go_enter Tryd.func41, Tryd.ntmps41
  go_wp2_with fail
  rw [HW2.out]
  -- the labels
  refine (strClone_any B _ p.ls hm1 w2 (HL.out.keep (hb0.keeps'.mono hB))).mono ?_
  rintro e w3 ⟨la', ln', lc', rfl, hs3, hb3⟩
  have T0 := Lib.hid ((t0.to hb3).set3 (.slice la' ln' lc'))
  have T1 := Lib.hid ((t1.to hb3).other (c := w.heap.size) (o := 3) (by omega) (.slice la' ln' lc'))
  have hz3 := hb3.size
  obtain ⟨⟨c0, c1, c2, c3, c4, c5, c6, c7, c8, c9, c10, c11⟩, hf⟩ := (t0.to hb3).cells
  have hab3 : Above (w.heap.size + 2) w3 (w3.setCell ⟨w.heap.size, 3, none⟩ (.slice la' ln' lc')) := (Above.refl _ _).set (by omega) _
  have HB3 := Lib.hid ((below_seq hb0 hb3).setCell (p := ⟨w.heap.size, 3, none⟩) (Nat.le_refl _) (.slice la' ln' lc'))
  have HS3 := Lib.hid ((hs3.mono (Fresh.mono (c := w.heap.size + 2) (d := w3.heap.size) (by omega) (Nat.le_refl _))).keep hab3.keeps)
  have hq3 : (w3.setCell ⟨w.heap.size, 3, none⟩ (.slice la' ln' lc')).heap.size = w3.heap.size := by simp
  clear hs3 hb3 t0 t1 hb0 hab3 HL
  go_wp2_with fail
  obtain ⟨w4, hw4⟩ : ∃ w4, w3.setCell ⟨w.heap.size, 3, none⟩ (.slice la' ln' lc') = w4 := ⟨_, rfl⟩
  rw [hw4] at T0 T1 HB3 HS3 hq3 ⊢
  clear hw4 c0 c1 c2 c3 c4 c5 c6 c7 c8 c9 c10 c11 hf
  -- the values
  refine (vlClone_any B _ p.vs hm2 w4 (HA.out.keep (HB3.out.keeps'.mono hB))).mono ?_
  rintro e w5 ⟨aa', an', ac', rfl, ha5, hb5⟩
  have T2 := Lib.hid ((T0.out.to hb5).set4 (.slice aa' an' ac'))
  have T3 := Lib.hid ((T1.out.to hb5).other (c := w.heap.size) (o := 4) (by omega) (.slice aa' an' ac'))
  have hz5 := hb5.size
  obtain ⟨⟨c0, c1, c2, c3, c4, c5, c6, c7, c8, c9, c10, c11⟩, hf⟩ := (T0.out.to hb5).cells
  have hab5 : Above (w.heap.size + 2) w5 (w5.setCell ⟨w.heap.size, 4, none⟩ (.slice aa' an' ac')) := (Above.refl _ _).set (by omega) _
  have HB5 := Lib.hid ((below_seq HB3.out hb5).setCell (p := ⟨w.heap.size, 4, none⟩) (Nat.le_refl _) (.slice aa' an' ac'))
  have HS5 := Lib.hid ((((HS3.out.keep (hb5.keeps'.mono (fun k hk => by have := hk.2; omega)))).mono (Fresh.mono (c := w.heap.size + 2) (d := w5.heap.size) (Nat.le_refl _) (by omega))).keep hab5.keeps)
  have HA5 := Lib.hid ((ha5.mono (Fresh.mono (c := w.heap.size + 2) (d := w5.heap.size) (by omega) (Nat.le_refl _))).keep hab5.keeps)
  have hq5 : (w5.setCell ⟨w.heap.size, 4, none⟩ (.slice aa' an' ac')).heap.size = w5.heap.size := by simp
  clear ha5 hb5 T0 T1 HB3 HS3 hab5 HA
  go_wp2_with fail
  obtain ⟨w6, hw6⟩ : ∃ w6, w5.setCell ⟨w.heap.size, 4, none⟩ (.slice aa' an' ac') = w6 := ⟨_, rfl⟩
  rw [hw6] at T2 T3 HB5 HS5 HA5 hq5 ⊢
  clear hw6 c0 c1 c2 c3 c4 c5 c6 c7 c8 c9 c10 c11 hf
  -- the type
  refine (copy_anyc B p.t hm4 _ w6 (hB.le HB5.out.size) (HT.out.keep (HB5.out.keeps'.mono hB))).mono ?_
  rintro e w7 ⟨ta', tn', tc', ua', un', uc', rfl, ht7, hb7⟩
  have T4 := Lib.hid ((T2.out.to hb7).setT (.int .i64 p.t.k) (.int .i64 p.t.p) (.string p.t.n) (.int .i64 p.t.s) (.slice ta' tn' tc') (.slice ua' un' uc'))
  have T5 := Lib.hid ((T3.out.to hb7).others (c := w.heap.size) (by omega) [.int .i64 p.t.k, .int .i64 p.t.p, .string p.t.n, .int .i64 p.t.s, .slice ta' tn' tc', .slice ua' un' uc'] 5)
  have hz7 := hb7.size
  obtain ⟨⟨c0, c1, c2, c3, c4, c5, c6, c7, c8, c9, c10, c11⟩, hf⟩ := (T2.out.to hb7).cells
  have hkp7 : Keeps (Fresh (w.heap.size + 2) w7.heap.size) w7 (w7.setCells w.heap.size 5 [.int .i64 p.t.k, .int .i64 p.t.p, .string p.t.n, .int .i64 p.t.s, .slice ta' tn' tc', .slice ua' un' uc']) := keeps_setCells (fun k hk => by have := hk.1; omega) _ _
  have HB7 := Lib.hid ((below_seq HB5.out hb7).trans (below_setCells w.heap.size (Nat.le_refl _) [.int .i64 p.t.k, .int .i64 p.t.p, .string p.t.n, .int .i64 p.t.s, .slice ta' tn' tc', .slice ua' un' uc'] 5 w7))
  have HS7 := Lib.hid ((((HS5.out.keep (hb7.keeps'.mono (fun k hk => by have := hk.2; omega)))).mono (Fresh.mono (c := w.heap.size + 2) (d := w7.heap.size) (Nat.le_refl _) (by omega))).keep hkp7)
  have HA7 := Lib.hid ((((HA5.out.keep (hb7.keeps'.mono (fun k hk => by have := hk.2; omega)))).mono (Fresh.mono (c := w.heap.size + 2) (d := w7.heap.size) (Nat.le_refl _) (by omega))).keep hkp7)
  have HT7 := Lib.hid ((ht7.mono (Fresh.mono (c := w.heap.size + 2) (d := w7.heap.size) (by omega) (Nat.le_refl _))).keep hkp7)
  have hq7 := size_setCells w.heap.size [.int .i64 p.t.k, .int .i64 p.t.p, .string p.t.n, .int .i64 p.t.s, .slice ta' tn' tc', .slice ua' un' uc'] 5 w7
  rw [setCells6] at T4 T5 HB7 HS7 HA7 HT7 hq7
  clear ht7 hb7 T2 T3 HB5 HS5 HA5 HT hkp7
  go_wp2_with fail
  obtain ⟨w8, hw8⟩ : ∃ w8, (((((w7.setCell ⟨w.heap.size, 5, none⟩ (.int .i64 p.t.k)).setCell ⟨w.heap.size, 5 + 1, none⟩ (.int .i64 p.t.p)).setCell ⟨w.heap.size, 5 + 2, none⟩ (.string p.t.n)).setCell ⟨w.heap.size, 5 + 3, none⟩ (.int .i64 p.t.s)).setCell ⟨w.heap.size, 5 + 4, none⟩ (.slice ta' tn' tc')).setCell ⟨w.heap.size, 5 + 5, none⟩ (.slice ua' un' uc') = w8 := ⟨_, rfl⟩
  rw [hw8] at T4 T5 HB7 HS7 HA7 HT7 hq7
  simp only [Nat.reduceAdd] at hw8
  rw [hw8]
  clear hw8 c0 c1 c2 c3 c4 c5 c6 c7 c8 c9 c10 c11 hf
  -- the Kids
  refine (prClone_any B _ ps hm3 w8 (hB.le HB7.out.size) (HK.out.keep (HB7.out.keeps'.mono hB))).mono ?_
  rintro e w9 ⟨hrow, hb9⟩
  have hrow' : ∃ ga cap, e = .returned (.slice ga ps.length cap) ∧ ((ps = [] ∧ True) ∨ ∃ g, ga = some ⟨g, 0, none⟩ ∧ w8.heap.size ≤ g ∧ g < w9.heap.size ∧ PFilled B g ps.length ps 0 w9) := by
    rcases hrow with ⟨a, c, rfl, rfl⟩ | ⟨g, cap, rfl, h1, h2, h3⟩
    · exact ⟨a, c, rfl, .inl ⟨rfl, trivial⟩⟩
    · exact ⟨_, cap, rfl, .inr ⟨g, rfl, h1, h2, h3⟩⟩
  clear hrow
  obtain ⟨ga, cap, rfl, hrow⟩ := hrow'
  obtain ⟨n, hnn⟩ : ∃ n, n = ps.length := ⟨_, rfl⟩
  rw [← hnn] at hrow hm3 ⊢
  have hz9 := hb9.size
  have S9 : CpSt w w8.heap.size p (.slice la' ln' lc') (.slice aa' an' ac') (.slice ta' tn' tc') (.slice ua' un' uc') (.slice ka kn kc) w8 := ⟨T4.out, T5.out, by rw [hq7]; exact HS7.out, by rw [hq7]; exact HA7.out, by rw [hq7]; exact HT7.out, HB7.out, by omega, Nat.le_refl _⟩
  have S10 := S9.to hb9
  have S11 : CpSt w w8.heap.size p (.slice la' ln' lc') (.slice aa' an' ac') (.slice ta' tn' tc') (.slice ua' un' uc') (.slice ga n cap) (w9.setCell ⟨w.heap.size, 11, none⟩ (.slice ga n cap)) := by
    have hk : Keeps (Fresh (w.heap.size + 2) w8.heap.size) w9 (w9.setCells w.heap.size 11 [.slice ga n cap]) := keeps_setCells (fun k hk => by have := hk.1; omega) _ _
    exact ⟨S10.own.set11 _, S10.res.other (by omega) _, S10.strs.keep hk, S10.vals.keep hk, S10.ty.keep hk, S10.below.setCell (p := ⟨w.heap.size, 11, none⟩) (Nat.le_refl _) _, S10.low.1, by simp; omega⟩
  have hrow2 : (ps = [] ∧ True) ∨ ∃ g, ga = some ⟨g, 0, none⟩ ∧ w8.heap.size ≤ g ∧ g < w9.heap.size ∧ PFilled B g n ps 0 (w9.setCell ⟨w.heap.size, 11, none⟩ (.slice ga n cap)) := by
    rcases hrow with h | ⟨g, h1, h2, h3, h4⟩
    · exact .inl h
    · refine .inr ⟨g, h1, h2, h3, h4.keep (Below.heap_setCell _ _ _ g (by simp; omega)) (by simp) ?_ ?_⟩
      · exact keeps_setCells (c := w.heap.size) (fun k hk => by have := hB k hk; omega) [.slice ga n cap] 11
      · exact keeps_setCells (c := w.heap.size) (fun k hk => by have := hk.1; omega) [.slice ga n cap] 11
  have HS := Lib.hid S11
  have HROW := Lib.hid hrow2
  have HN := Lib.hid hnn
  obtain ⟨⟨c0, c1, c2, c3, c4, c5, c6, c7, c8, c9, c10, c11⟩, hf⟩ := S10.own.cells
  clear S9 S10 S11 hrow2 hrow T4 T5 HB7 HS7 HA7 HT7 hb9 hnn HK
  go_wp2_with fail
  obtain ⟨w10, hw10⟩ : ∃ w10, w9.setCell ⟨w.heap.size, 11, none⟩ (.slice ga n cap) = w10 := ⟨_, rfl⟩
  have hz10 : w9.heap.size = w10.heap.size := by rw [← hw10]; simp
  rw [hw10] at HS HROW ⊢
  clear hw10 c0 c1 c2 c3 c4 c5 c6 c7 c8 c9 c10 c11 hf
  obtain ⟨m, hmm⟩ : ∃ m, w8.heap.size = m := ⟨_, rfl⟩
  rw [hmm] at HS HROW hz9
  go_loopw [24] (fun i wr => ∃ k : Nat, i = .int .i64 (k : Int) ∧ k ≤ n ∧ Hid (CpSt w m p (.slice la' ln' lc') (.slice aa' an' ac') (.slice ta' tn' tc') (.slice ua' un' uc') (.slice ga n cap) wr) ∧ Hid ((ps = [] ∧ True) ∨ ∃ g, ga = some ⟨g, 0, none⟩ ∧ m ≤ g ∧ g < wr.heap.size ∧ PFilled B g n ps k wr)) (fun i _ => n - (intOf i).toNat)
  case atStart => exact ⟨0, rfl, by omega, HS, Lib.hid (by rw [← hz10]; exact HROW.out)⟩
  case round =>
    clear HROW HS
    obtain ⟨k, rfl, hk, HS, HROW⟩ := hrel
    by_cases hlt : k < n
    · obtain ⟨t, htk⟩ : ∃ t, ps[k]? = some t := ⟨_, List.getElem?_eq_getElem (by rw [← HN.out]; exact hlt)⟩
      obtain ⟨g, hga, hgm, hgl, hpf⟩ : ∃ g, ga = some ⟨g, 0, none⟩ ∧ m ≤ g ∧ g < wr.heap.size ∧ PFilled B g n ps k wr := by
        rcases HROW.out with ⟨h, _⟩ | h
        · rw [h] at htk; cases htk
        · exact h
      subst hga
      obtain ⟨la2, ln2, lc2, aa2, an2, ac2, ta2, tn2, tc2, ua2, un2, uc2, ka2, kn2, kc2, ⟨d0, d1, d2, d3, d4, d5, d6, d7, d8, d9, d10, d11⟩, hval⟩ := hpf.each k t htk
      rw [if_neg (by omega)] at hval
      have hBr : Low B wr := hB.le HS.out.below.size
      have hbx := (blkBelow wr #[.int .i64 t.k, .string t.c, .string t.x, .slice la2 ln2 lc2, .slice aa2 an2 ac2, .int .i64 t.t.k, .int .i64 t.t.p, .string t.t.n, .int .i64 t.t.s, .slice ta2 tn2 tc2, .slice ua2 un2 uc2, .slice ka2 kn2 kc2] 36).drew
      have IH := Lib.hid (HIH.out t (List.mem_of_getElem? htk) _ _ (hBr.le hbx.size) (hval.to hBr hbx))
      have HPF := Lib.hid (hpf.to hBr hbx)
      have HS2 := Lib.hid (HS.out.to hbx)
      have HTK := Lib.hid htk
      have hblw := HS.out.below.size
      have hlow := HS.out.low
      have hlw0 : w.heap.size < wr.heap.size := by omega
      have hsz12 : ((wr.alloc (.cells #[.int .i64 t.k, .string t.c, .string t.x, .slice la2 ln2 lc2, .slice aa2 an2 ac2, .int .i64 t.t.k, .int .i64 t.t.p, .string t.t.n, .int .i64 t.t.s, .slice ta2 tn2 tc2, .slice ua2 un2 uc2, .slice ka2 kn2 kc2] 36)).drew).heap.size = wr.heap.size + 1 := by simp
      have c11 := HS.out.own.cells.1.2.2.2.2.2.2.2.2.2.2.2
      unfold prAgg at IH
      clear hpf hval hbx htk
      go_wp2_with fail
      go_region_with (go_at_call 41; refine IH.out.mono ?_; rintro e w11 ⟨la3, ln3, lc3, aa3, an3, ac3, ta3, tn3, tc3, ua3, un3, uc3, ka3, kn3, kc3, rfl, hv11, hb11⟩; have hpf := HPF.out.to (hBr.le (by rw [hsz12]; omega)) hb11; obtain ⟨cs, hcs, hcz⟩ := hpf.block; have hfz := frozen_of_block hcs; obtain ⟨x0, y0⟩ := cell_in hcs (j := k * 12) (by omega); obtain ⟨x1, y1⟩ := cell_in hcs (j := k * 12 + 1) (by omega); obtain ⟨x2, y2⟩ := cell_in hcs (j := k * 12 + 2) (by omega); obtain ⟨x3, y3⟩ := cell_in hcs (j := k * 12 + 3) (by omega); obtain ⟨x4, y4⟩ := cell_in hcs (j := k * 12 + 4) (by omega); obtain ⟨x5, y5⟩ := cell_in hcs (j := k * 12 + 5) (by omega); obtain ⟨x6, y6⟩ := cell_in hcs (j := k * 12 + 6) (by omega); obtain ⟨x7, y7⟩ := cell_in hcs (j := k * 12 + 7) (by omega); obtain ⟨x8, y8⟩ := cell_in hcs (j := k * 12 + 8) (by omega); obtain ⟨x9, y9⟩ := cell_in hcs (j := k * 12 + 9) (by omega); obtain ⟨x10, y10⟩ := cell_in hcs (j := k * 12 + 10) (by omega); obtain ⟨x11, y11⟩ := cell_in hcs (j := k * 12 + 11) (by omega); have z11 := (HS2.out.to hb11).own.cells.1.2.2.2.2.2.2.2.2.2.2.2; replace hcs := Lib.hid hcs)
      all_goals
        go_wp2_with fail
        have hs12 := hb11.size
        have hst := hpf.store HN.out (fun j hj => by have := hB j hj; omega) HTK.out (hv11.mono (Fresh.mono (c := g + 1) (d := w11.heap.size) (by rw [hsz12]; omega) (Nat.le_refl _)))
        have hss := (HS2.out.to hb11).stores hgm (prCellsL t (.slice la3 ln3 lc3) (.slice aa3 an3 ac3) (.slice ta3 tn3 tc3) (.slice ua3 un3 uc3) (.slice ka3 kn3 kc3)) (k * 12)
        have hgl2 : g < (w11.setCells g (k * 12) (prCellsL t (.slice la3 ln3 lc3) (.slice aa3 an3 ac3) (.slice ta3 tn3 tc3) (.slice ua3 un3 uc3) (.slice ka3 kn3 kc3))).heap.size := by rw [size_setCells]; omega
        unfold prCellsL at hst hss hgl2
        rw [setCells12] at hst hss hgl2
        go_roundw
        case rel => exact ⟨k + 1, by go_num, by omega, Lib.hid hss, Lib.hid (.inr ⟨g, rfl, hgm, hgl2, hst⟩)⟩
        case measure => simp [intOf]; omega
    · obtain rfl : k = n := by omega
      obtain ⟨⟨c0, c1, c2, c3, c4, c5, c6, c7, c8, c9, c10, c11⟩, hf⟩ := HS.out.own.cells
      obtain ⟨⟨e0, e1, e2, e3, e4, e5, e6, e7, e8, e9, e10, e11⟩, hf1⟩ := HS.out.res.cells
      have hlow := HS.out.low
      have hbl := HS.out.below
      have hfill := HS.out.res.fill (.int .i64 p.k) (.string p.c) (.string p.x) (.slice la' ln' lc') (.slice aa' an' ac') (.int .i64 p.t.k) (.int .i64 p.t.p) (.string p.t.n) (.int .i64 p.t.s) (.slice ta' tn' tc') (.slice ua' un' uc') (.slice ga k cap)
      have hkp : ∀ F : Nat → Prop, (∀ j, F j → j ≠ w.heap.size + 1) → Keeps F wr (wr.setCells (w.heap.size + 1) 0 [.int .i64 p.k, .string p.c, .string p.x, .slice la' ln' lc', .slice aa' an' ac', .int .i64 p.t.k, .int .i64 p.t.p, .string p.t.n, .int .i64 p.t.s, .slice ta' tn' tc', .slice ua' un' uc', .slice ga k cap]) := fun F hF => keeps_setCells hF _ _
      have hbb := hbl.trans (below_setCells (w.heap.size + 1) (by omega) [.int .i64 p.k, .string p.c, .string p.x, .slice la' ln' lc', .slice aa' an' ac', .int .i64 p.t.k, .int .i64 p.t.p, .string p.t.n, .int .i64 p.t.s, .slice ta' tn' tc', .slice ua' un' uc', .slice ga k cap] 0 wr)
      have hsz := size_setCells (w.heap.size + 1) [.int .i64 p.k, .string p.c, .string p.x, .slice la' ln' lc', .slice aa' an' ac', .int .i64 p.t.k, .int .i64 p.t.p, .string p.t.n, .int .i64 p.t.s, .slice ta' tn' tc', .slice ua' un' uc', .slice ga k cap] 0 wr
      have hgo : ∀ g, w.heap.size + 1 ≠ g → (wr.setCells (w.heap.size + 1) 0 [.int .i64 p.k, .string p.c, .string p.x, .slice la' ln' lc', .slice aa' an' ac', .int .i64 p.t.k, .int .i64 p.t.p, .string p.t.n, .int .i64 p.t.s, .slice ta' tn' tc', .slice ua' un' uc', .slice ga k cap]).heap[g]? = wr.heap[g]? := fun g hg => heap_setCells_other (fun e => hg e.symm) _ _ _
      rw [setCells12] at hfill hkp hbb hsz hgo
      simp only [Nat.zero_add] at hfill hkp hbb hsz hgo
      have HFI := Lib.hid hfill
      have HKP := Lib.hid hkp
      have HBB := Lib.hid hbb
      have HSZ := Lib.hid hsz
      have HGO := Lib.hid hgo
      clear hfill hkp hbb hsz hgo
      go_wp2_with fail
      obtain ⟨w12, hw12⟩ : ∃ x, ((((((((((((wr.setCell ⟨w.heap.size + 1, 0, none⟩ (.int .i64 p.k)).setCell ⟨w.heap.size + 1, 1, none⟩ (.string p.c)).setCell ⟨w.heap.size + 1, 2, none⟩ (.string p.x)).setCell ⟨w.heap.size + 1, 3, none⟩ (.slice la' ln' lc')).setCell ⟨w.heap.size + 1, 4, none⟩ (.slice aa' an' ac')).setCell ⟨w.heap.size + 1, 5, none⟩ (.int .i64 p.t.k)).setCell ⟨w.heap.size + 1, 6, none⟩ (.int .i64 p.t.p)).setCell ⟨w.heap.size + 1, 7, none⟩ (.string p.t.n)).setCell ⟨w.heap.size + 1, 8, none⟩ (.int .i64 p.t.s)).setCell ⟨w.heap.size + 1, 9, none⟩ (.slice ta' tn' tc')).setCell ⟨w.heap.size + 1, 10, none⟩ (.slice ua' un' uc')).setCell ⟨w.heap.size + 1, 11, none⟩ (.slice ga k cap)) = x := ⟨_, rfl⟩
      rw [hw12] at HFI HKP HBB HSZ HGO ⊢
      clear hw12 c0 c1 c2 c3 c4 c5 c6 c7 c8 c9 c10 c11 hf e0 e1 e2 e3 e4 e5 e6 e7 e8 e9 e10 e11 hf1
      obtain ⟨⟨f0, f1, f2, f3, f4, f5, f6, f7, f8, f9, f10, f11⟩, hf2⟩ := HFI.out.cells
      have hF := HKP.out (Fresh (w.heap.size + 2) m) (fun j hj => by have := hj.1; omega)
      have hFm : ∀ j, Fresh (w.heap.size + 2) m j → Fresh w.heap.size w12.heap.size j := Fresh.mono (by omega) (by rw [HSZ.out]; omega)
      have hpr : PrVal (Fresh w.heap.size w12.heap.size) w12 (prAgg p (.slice la' ln' lc') (.slice aa' an' ac') (.slice ta' tn' tc') (.slice ua' un' uc') (.slice ga k cap)) p := by
        refine ⟨_, _, _, _, _, rfl, HNS.out, (HS.out.strs.keep hF).mono hFm, (HS.out.vals.keep hF).mono hFm, (HS.out.ty.keep hF).mono hFm, ?_, by rw [hps, ← HN.out]; unfold maxLen; omega⟩
        rw [hps]
        rcases HROW.out with ⟨h, _⟩ | ⟨g, h, hgm, hgl, hpf⟩
        · left
          have hk0 : k = 0 := by rw [HN.out, h]; rfl
          exact ⟨⟨ga, cap, by rw [hk0]⟩, h⟩
        · right
          refine ⟨g, 0, cap, by rw [h, ← HN.out], ⟨by omega, by rw [HSZ.out]; exact hgl⟩, prsAt_of (fun i t hi => ?_)⟩
          have hik : i < k := by rw [HN.out]; exact (List.getElem?_eq_some_iff.1 hi).1
          obtain ⟨la2, ln2, lc2, aa2, an2, ac2, ta2, tn2, tc2, ua2, un2, uc2, ka2, kn2, kc2, ⟨d0, d1, d2, d3, d4, d5, d6, d7, d8, d9, d10, d11⟩, hval⟩ := hpf.each i t hi
          rw [if_pos hik] at hval
          have hc : ∀ (o : Nat) (v : Value), wr.cell? ⟨g, o, none⟩ = some v → w12.cell? ⟨g, o, none⟩ = some v := fun o v hv => by
            rw [← hv]; unfold World.cell?; simp only [HGO.out g (by omega)]
          rw [Nat.zero_add]
          exact prAt_of ⟨by omega, by rw [HSZ.out]; exact hgl⟩ (hc _ _ d0) (hc _ _ d1) (hc _ _ d2) (hc _ _ d3) (hc _ _ d4) (hc _ _ d5) (hc _ _ d6) (hc _ _ d7) (hc _ _ d8) (hc _ _ d9) (hc _ _ d10) (hc _ _ d11)
            ((hval.keep (HKP.out _ (fun j hj => by have := hj.1; omega))).mono (Fresh.mono (by omega) (by rw [HSZ.out]; exact Nat.le_refl _)))
      exact bodyPost_ret (v := (.agg #[.int .i64 p.k, .string p.c, .string p.x, .slice la' ln' lc', .slice aa' an' ac', .int .i64 p.t.k, .int .i64 p.t.p, .string p.t.n, .int .i64 p.t.s, .slice ta' tn' tc', .slice ua' un' uc', .slice ga k cap])) (by simp [results, Tryd.results41, go_sem, f0, f1, f2, f3, f4, f5, f6, f7, f8, f9, f10, f11]) rfl ⟨_, _, _, _, _, _, _, _, _, _, _, _, _, _, _, rfl, hpr, HBB.out⟩

theorem pcopy_any (B : Nat → Prop) : ∀ p : Pr, p.mod → ∀ (v : Value) (w : World), Low B w → PrVal B w v p → Calls Tryd.prog 41 #[v] w (PrRet w p) := by
  refine Pr.ind ?_
  intro k c x ls vs t ps ih hm v w hB hv
  have hm' := hm
  simp only [Pr.mod] at hm'
  exact pcopy_step B _ hm (fun u hu => ih u hu (Pr.mods_mem hm'.2.2.2.2 u hu)) v w hB hv

end Go.Proofs.YtipjjhkgcbabnaaDoor

/- Processes: the law's fixed processes, and what they are. -/
namespace Go.Proofs.YtipjjhkgcbabnaaDoor
open Go.RowKit Go.Deep Go.Shelf

abbrev bA : ByteArray := ⟨#[97]⟩
abbrev bB : ByteArray := ⟨#[98]⟩
abbrev bC : ByteArray := ⟨#[99]⟩
abbrev bD : ByteArray := ⟨#[100]⟩
def p1 : Pr := .mk 1 e0 e0 [] [] (leafT 0) []
def p2 : Pr := .mk 2 bC e0 [] [⟨1, bA, 0⟩] (leafT 0) [p1]
def p3 : Pr := .mk 6 bC bD [] [] (leafT 3) [p2]
def p4 : Pr := .mk 2 bA e0 [] [⟨1, bB, 0⟩] (leafT 0) [p3]
def pz : Pr := .mk 0 e0 e0 [] [] (leafT 0) []
def g4 : Pg := ⟨[], p4⟩
theorem size_p4 : p4.size = 4 := by rfl
theorem depth_p4 : p4.depth = 4 := by rfl
theorem p4_ne_p3 : p4 ≠ p3 := by intro h; have := congrArg Pr.k h; simp [p4, p3, Pr.k] at this
theorem leaf_few (k : Int) : (leafT k).few 300 = true := by
  have h0 : (leafT 0).few 300 = true := by decide +kernel
  exact h0
theorem good_pz : PGood pz := by
  refine ⟨?_, ?_⟩
  · simp [pz, leafT, Pr.fine, Pr.fines, Ty.fine, Ty.fines, In64]
  · simp [pz, Pr.tf, Pr.tfs, leaf_few]
theorem good_p4 : PGood p4 := by
  refine ⟨?_, ?_⟩
  · simp [p4, p3, p2, p1, leafT, Pr.fine, Pr.fines, Ty.fine, Ty.fines, In64]
  · simp [p4, p3, p2, p1, Pr.tf, Pr.tfs, leaf_few]
theorem mod_p4 : p4.mod := by simp [p4, p3, p2, p1, leafT, Pr.mod, Pr.mods, Ty.modc, Ty.modcs]
theorem nms_p4 : p4.nms ≤ 1000000000 := by decide
theorem ggood_g4 : GGood g4 := by
  refine ⟨by simp [g4], by simp [g4], fun p hp => ?_⟩
  have : p = p4 := by simpa [g4, Pg.bodies] using hp
  subst this
  exact ⟨good_p4, by decide, by decide⟩
theorem total_g4 : g4.total = 5 := by rw [Pg.total_eq]; rfl
theorem right_pz : prightE pz = 3 := by decide +kernel
theorem r4_leaf (k : Int) (c x : ByteArray) (ls : List ByteArray) (vs : List Vl) (ps : List Pr) (hk : k ≠ 6) : (Pr.mk k c x ls vs (leafT 0) ps).r4 = true := by
  unfold Pr.r4
  show (if k = 6 then _ else eqB (leafT 0) default) = true
  rw [if_neg hk]; exact eqB_self _
theorem ok_p1 : p1.okN = true := by
  have h : p1.r4 = true := r4_leaf _ _ _ _ _ _ (by decide)
  unfold Pr.okN Pr.shp; rw [h]; decide +kernel
theorem ok_p2 : p2.okN = true := by
  have h : p2.r4 = true := r4_leaf _ _ _ _ _ _ (by decide)
  unfold Pr.okN Pr.shp; rw [h]; decide +kernel
theorem ok_p3 : p3.okN = true := by decide +kernel
theorem ok_p4 : p4.okN = true := by
  have h : p4.r4 = true := r4_leaf _ _ _ _ _ _ (by decide)
  unfold Pr.okN Pr.shp; rw [h]; decide +kernel
theorem right_p4 : prightE p4 = 0 := by
  have h : preP 1 p4 = [(1, p4), (2, p3), (3, p2), (4, p1)] := by rfl
  have hl : p4.large = false := by decide +kernel
  unfold prightE
  rw [h, hl]
  simp [allN, ok_p1, ok_p2, ok_p3, ok_p4]
theorem free_p4 : p4.free = [bA, bB] := by decide +kernel
theorem prog_g4 : pprogE g4 = 0 := by
  have hm : g4.many = false := by unfold Pg.many; rw [total_g4]; rfl
  have hb : g4.bodies = [p4] := by rfl
  unfold pprogE
  rw [hm, hb]
  simp [firstR, right_p4, g4]

theorem nil_vls (B : Nat → Prop) (w : World) : VlSl B w (.slice none 0 0) [] := ⟨.inl ⟨⟨_, _, rfl⟩, rfl⟩, by simp [maxLen], fun s h => by cases h⟩
theorem nil_prs (B : Nat → Prop) (w : World) : PrSl B w (.slice none 0 0) [] := ⟨.inl ⟨⟨_, _, rfl⟩, rfl⟩, by simp [maxLen]⟩
theorem nil_dfs (B : Nat → Prop) (w : World) : DfSl B w (.slice none 0 0) [] := ⟨.inl ⟨⟨_, _, rfl⟩, rfl⟩, by simp [maxLen]⟩
/-- One process in a block of its own. -/
theorem prs_one {B : Nat → Prop} {W : World} {b : Nat} {p : Pr} {lv av tl tk kv : Value} (hb : B b) (hh : W.heap[b]? = some (cell12 p lv av tl tk kv)) (hv : PrVal B W (prAgg p lv av tl tk kv) p) : PrSl B W (.slice (some ⟨b, 0, none⟩) 1 1) [p] := by
  refine ⟨.inr ⟨b, 0, 1, rfl, hb, ?_⟩, by simp [maxLen]⟩
  show PrAt B W p b 0 ∧ True
  exact ⟨prAt_of hb (cell_of hh 0) (cell_of hh 1) (cell_of hh 2) (cell_of hh 3) (cell_of hh 4) (cell_of hh 5) (cell_of hh 6) (cell_of hh 7) (cell_of hh 8) (cell_of hh 9) (cell_of hh 10) (cell_of hh 11) hv, trivial⟩
theorem vls_one {B : Nat → Prop} {W : World} {b : Nat} {a : Vl} (hb : B b) (hh : W.heap[b]? = some (.cells #[.int .i64 a.k, .string a.n, .int .i64 a.x] 74)) (hn : a.n.size ≤ maxLen) : VlSl B W (.slice (some ⟨b, 0, none⟩) 1 1) [a] := by
  refine ⟨.inr ⟨b, 0, 1, rfl, hb, Nat.le_refl _, fun j x hj => ?_⟩, by simp [maxLen], fun x hx => by rw [List.mem_singleton.1 hx]; exact hn⟩
  cases j with
  | zero =>
    simp only [List.getElem?_cons_zero, Option.some.injEq] at hj
    subst hj
    exact ⟨cell_of hh 0, cell_of hh 1, cell_of hh 2⟩
  | succ j => simp at hj

abbrev sl0 : Value := .slice none 0 0
abbrev sl1 (b : Nat) : Value := .slice (some ⟨b, 0, none⟩) 1 1
/-- The nine blocks of the examples. -/
theorem made_ps (w : World) (W : World)
    (hW : (((((((((w.alloc (cell12 p1 sl0 sl0 sl0 sl0 sl0)).alloc (.cells #[.int .i64 1, .string bA, .int .i64 0] 74)).alloc (cell12 p1 sl0 sl0 sl0 sl0 sl0)).alloc (cell12 p2 sl0 (sl1 (w.heap.size + 1)) sl0 sl0 (sl1 (w.heap.size + 1 + 1)))).alloc
      (cell12 p2 sl0 (sl1 (w.heap.size + 1)) sl0 sl0 (sl1 (w.heap.size + 1 + 1)))).alloc (cell12 p3 sl0 sl0 sl0 sl0 (sl1 (w.heap.size + 1 + 1 + 1 + 1)))).alloc (.cells #[.int .i64 1, .string bB, .int .i64 0] 74)).alloc (cell12 p3 sl0 sl0 sl0 sl0 (sl1 (w.heap.size + 1 + 1 + 1 + 1)))).alloc
      (cell12 p4 sl0 (sl1 (w.heap.size + 1 + 1 + 1 + 1 + 1 + 1)) sl0 sl0 (sl1 (w.heap.size + 1 + 1 + 1 + 1 + 1 + 1 + 1)))) = W) :
    (W.heap[w.heap.size + 1 + 1 + 1 + 1 + 1]? = some (cell12 p3 sl0 sl0 sl0 sl0 (sl1 (w.heap.size + 1 + 1 + 1 + 1))) ∧ W.heap[w.heap.size + 1 + 1 + 1 + 1 + 1 + 1 + 1 + 1]? = some (cell12 p4 sl0 (sl1 (w.heap.size + 1 + 1 + 1 + 1 + 1 + 1)) sl0 sl0 (sl1 (w.heap.size + 1 + 1 + 1 + 1 + 1 + 1 + 1)))) ∧
    PLies W (prAgg p3 sl0 sl0 sl0 sl0 (sl1 (w.heap.size + 1 + 1 + 1 + 1))) p3 ∧ PLies W (prAgg p4 sl0 (sl1 (w.heap.size + 1 + 1 + 1 + 1 + 1 + 1)) sl0 sl0 (sl1 (w.heap.size + 1 + 1 + 1 + 1 + 1 + 1 + 1))) p4 ∧ Below w.heap.size w W := by
  have hs : W.heap.size = w.heap.size + 9 := by rw [← hW]; simp
  have k1 : W.heap[w.heap.size + 1]? = some (.cells #[.int .i64 1, .string bA, .int .i64 0] 74) := by rw [← hW]; simp only [heap_push, Array.getElem?_push, Array.size_push]; simp
  have k2 : W.heap[w.heap.size + 1 + 1]? = some (cell12 p1 sl0 sl0 sl0 sl0 sl0) := by rw [← hW]; simp only [heap_push, Array.getElem?_push, Array.size_push]; simp
  have k4 : W.heap[w.heap.size + 1 + 1 + 1 + 1]? = some (cell12 p2 sl0 (sl1 (w.heap.size + 1)) sl0 sl0 (sl1 (w.heap.size + 1 + 1))) := by rw [← hW]; simp only [heap_push, Array.getElem?_push, Array.size_push]; simp
  have k5 : W.heap[w.heap.size + 1 + 1 + 1 + 1 + 1]? = some (cell12 p3 sl0 sl0 sl0 sl0 (sl1 (w.heap.size + 1 + 1 + 1 + 1))) := by rw [← hW]; simp only [heap_push, Array.getElem?_push, Array.size_push]; simp
  have k6 : W.heap[w.heap.size + 1 + 1 + 1 + 1 + 1 + 1]? = some (.cells #[.int .i64 1, .string bB, .int .i64 0] 74) := by rw [← hW]; simp only [heap_push, Array.getElem?_push, Array.size_push]; simp
  have k7 : W.heap[w.heap.size + 1 + 1 + 1 + 1 + 1 + 1 + 1]? = some (cell12 p3 sl0 sl0 sl0 sl0 (sl1 (w.heap.size + 1 + 1 + 1 + 1))) := by rw [← hW]; simp only [heap_push, Array.getElem?_push, Array.size_push]; simp
  have k8 : W.heap[w.heap.size + 1 + 1 + 1 + 1 + 1 + 1 + 1 + 1]? = some (cell12 p4 sl0 (sl1 (w.heap.size + 1 + 1 + 1 + 1 + 1 + 1)) sl0 sl0 (sl1 (w.heap.size + 1 + 1 + 1 + 1 + 1 + 1 + 1))) := by rw [← hW]; simp only [heap_push, Array.getElem?_push, Array.size_push]; simp
  have hb : Below w.heap.size w W := by
    rw [← hW]
    exact (((((((((Below.refl _ _).alloc (by simp) _).alloc (by simp) _).alloc (by simp; omega) _).alloc (by simp; omega) _).alloc (by simp; omega) _).alloc (by simp; omega) _).alloc (by simp; omega) _).alloc (by simp; omega) _).alloc (by simp; omega) _
  have v1 : PLies W (prAgg p1 sl0 sl0 sl0 sl0 sl0) p1 := ⟨_, _, _, _, _, rfl, ⟨by decide, by decide⟩, nil_strs _ _, nil_vls _ _, val_leaf _ _ 0 0 0 e0 (by decide), nil_prs _ _⟩
  have v2 : PLies W (prAgg p2 sl0 (sl1 (w.heap.size + 1)) sl0 sl0 (sl1 (w.heap.size + 1 + 1))) p2 := ⟨_, _, _, _, _, rfl, ⟨by decide, by decide⟩, nil_strs _ _, vls_one (a := ⟨1, bA, 0⟩) (by omega) k1 (by decide), val_leaf _ _ 0 0 0 e0 (by decide), prs_one (by omega) k2 v1⟩
  have v3 : PLies W (prAgg p3 sl0 sl0 sl0 sl0 (sl1 (w.heap.size + 1 + 1 + 1 + 1))) p3 := ⟨_, _, _, _, _, rfl, ⟨by decide, by decide⟩, nil_strs _ _, nil_vls _ _, val_leaf _ _ 3 0 0 e0 (by decide), prs_one (by omega) k4 v2⟩
  have v4 : PLies W (prAgg p4 sl0 (sl1 (w.heap.size + 1 + 1 + 1 + 1 + 1 + 1)) sl0 sl0 (sl1 (w.heap.size + 1 + 1 + 1 + 1 + 1 + 1 + 1))) p4 := ⟨_, _, _, _, _, rfl, ⟨by decide, by decide⟩, nil_strs _ _, vls_one (a := ⟨1, bB, 0⟩) (by omega) k6 (by decide), val_leaf _ _ 0 0 0 e0 (by decide), prs_one (by omega) k7 v3⟩
  exact ⟨⟨k5, k8⟩, v3, v4, hb⟩
end Go.Proofs.YtipjjhkgcbabnaaDoor

/- Processes: the reference's Texts and Same. -/
namespace Go.Proofs.YtipjjhkgcbabnaaDoor
open Go.RowKit Go.Deep Go.Shelf

set_option maxHeartbeats 1000000 in
/-- Lists of texts, compared by the reference. -/
theorem ptexts_any (B : Nat → Prop) (v v' : Value) (ls ls' : List ByteArray) (w : World) (h : StrSl B w v ls) (h' : StrSl B w v' ls') :
    Calls Tryd.prog 36 #[v, v'] w fun e w' => e = .returned (.bool (decide (ls = ls'))) ∧ Drew w w' := by
  obtain ⟨pa, len, c, rfl, hlen, hm, hget⟩ := h.open
  obtain ⟨pa', len', c', rfl, hlen', hm', hget'⟩ := h'.open
  have HG := Lib.hid hget
  have HG' := Lib.hid hget'
  clear hget hget' h h'
  by_cases hl : len = len'
  · subst hl
    go_enter Tryd.func36, Tryd.ntmps36
    go_wp2_with fail
    go_loopw [5] (fun i wr => ∃ (j : Nat), i = .int .i64 j ∧ j ≤ len ∧ Hid (ls.take j = ls'.take j) ∧ Drew w wr) (fun i _ => len - (intOf i).toNat)
    case atStart => exact ⟨0, rfl, by omega, Lib.hid (by simp), Drew.refl _⟩
    case round =>
      obtain ⟨j, rfl, hj, HT, hd⟩ := hrel
      by_cases hlt : j < len
      · obtain ⟨s, hs⟩ : ∃ s, ls[j]? = some s := ⟨_, List.getElem?_eq_getElem (by rw [← hlen.out]; exact hlt)⟩
        obtain ⟨s', hs'⟩ : ∃ s', ls'[j]? = some s' := ⟨_, List.getElem?_eq_getElem (by rw [← hlen'.out]; exact hlt)⟩
        obtain ⟨_, kb, ko, rfl, hkb, hc⟩ := HG.out j s hs
        obtain ⟨_, kb', ko', rfl, hkb', hc'⟩ := HG'.out j s' hs'
        replace hc : wr.cell? ⟨kb, ko + j, none⟩ = some (.string s) := by obtain ⟨m, rfl⟩ := hd; exact hc
        replace hc' : wr.cell? ⟨kb', ko' + j, none⟩ = some (.string s') := by obtain ⟨m, rfl⟩ := hd; exact hc'
        by_cases hss : s = s'
        · subst hss
          have hn : Hid (ls.take (j + 1) = ls'.take (j + 1)) := Lib.hid (by rw [take_snoc_get hs, take_snoc_get hs', HT.out])
          clear hs hs'
          go_wp2_with fail
          go_quiet (fail)
          go_wp2_with fail
          go_roundw
          case rel => exact ⟨j + 1, by go_num, by omega, hn, hd.more _⟩
          case measure => simp [intOf]; omega
        · have hne : Hid (ls ≠ ls') := Lib.hid (fun e => hss (by rw [e, hs'] at hs; exact (Option.some.inj hs).symm))
          have hb1 := str_ne hss
          have hb2 : (s.toList == s'.toList) = false := by simpa using hb1
          clear hs hs' hss
          go_wp2_with fail
          go_quiet (fail)
          go_wp2_with fail
          go_ret
          exact ⟨ret_bool (by simp [hne.out]), hd.more _⟩
      · obtain rfl : j = len := by omega
        go_wp2_with fail
        go_ret
        refine ⟨ret_bool ?_, hd⟩
        have := HT.out
        rw [List.take_of_length_le (by rw [hlen.out]; exact Nat.le_refl _), List.take_of_length_le (by rw [hlen'.out]; exact Nat.le_refl _)] at this
        simp [this]
  · have hl' : (len != len') = true := by simpa using hl
    have hne : ls ≠ ls' := fun e => hl (by rw [hlen.out, hlen'.out, e])
    have HN := Lib.hid hne
    clear hne
    go_enter Tryd.func36, Tryd.ntmps36
    go_wp2_with fail
    go_ret
    exact ⟨ret_bool (by simp [HN.out]), Drew.refl _⟩

def RSameP (B : Nat → Prop) (p : Pr) : Prop := ∀ (q : Pr) (v v' : Value) (w : World), Low B w → PrVal B w v p → PrVal B w v' q → Calls Tryd.prog 32 #[v, v'] w fun e w' => e = .returned (.bool (eqP p q)) ∧ Below w.heap.size w w'

abbrev wb2 (w : World) (p q : Pr) (la : Option Addr) (ln lc : Nat) (aa : Option Addr) (an ac : Nat) (ta : Option Addr) (tn tc : Nat) (ua : Option Addr) (un uc : Nat) (ka : Option Addr) (kn kc : Nat) (la' : Option Addr) (ln' lc' : Nat) (aa' : Option Addr) (an' ac' : Nat) (ta' : Option Addr) (tn' tc' : Nat) (ua' : Option Addr) (un' uc' : Nat) (ka' : Option Addr) (kn' kc' : Nat) : World :=
  (w.alloc (cell12 p (.slice la ln lc) (.slice aa an ac) (.slice ta tn tc) (.slice ua un uc) (.slice ka kn kc))).alloc (cell12 q (.slice la' ln' lc') (.slice aa' an' ac') (.slice ta' tn' tc') (.slice ua' un' uc') (.slice ka' kn' kc'))

set_option maxHeartbeats 8000000 in
set_option maxRecDepth 100000 in
theorem rpsame_step (B : Nat → Prop) (p q : Pr) (ih : ∀ u ∈ p.ps, RSameP B u) (v v' : Value) (w : World) (hB : Low B w) (hv : PrVal B w v p) (hv' : PrVal B w v' q) :
    Calls Tryd.prog 32 #[v, v'] w fun e w' => e = .returned (.bool (eqP p q)) ∧ Below w.heap.size w w' := by
  obtain ⟨lv, av, tl, tk, kv, rfl, _, hl, ha, ht, hk⟩ := hv
  obtain ⟨lv', av', tl', tk', kv', rfl, _, hl', ha', ht', hk'⟩ := hv'
  obtain ⟨ka, kn, kc, rfl, hkn, hkm, hkg⟩ := hk.open
  obtain ⟨ka', kn', kc', rfl, hkn', hkm', hkg'⟩ := hk'.open
  obtain ⟨aa, an, ac, rfl, han, ham, hag⟩ := ha.open
  obtain ⟨aa', an', ac', rfl, han', ham', hag'⟩ := ha'.open
  obtain ⟨la, ln, lc, rfl, _⟩ := hl.open
  obtain ⟨la', ln', lc', rfl, _⟩ := hl'.open
  obtain ⟨⟨ta, tn, tc, rfl⟩, ua, un, uc, rfl⟩ := slices_of ht
  obtain ⟨⟨ta', tn', tc', rfl⟩, ua', un', uc', rfl⟩ := slices_of ht'
  have hb0 : Below w.heap.size w ((w.alloc (cell12 p (.slice la ln lc) (.slice aa an ac) (.slice ta tn tc) (.slice ua un uc) (.slice ka kn kc))).alloc (cell12 q (.slice la' ln' lc') (.slice aa' an' ac') (.slice ta' tn' tc') (.slice ua' un' uc') (.slice ka' kn' kc'))) := box2_below w _ _
  obtain ⟨b1, hb1⟩ : ∃ x, decide (p.ls = q.ls) = x := ⟨_, rfl⟩
  obtain ⟨b2, hb2⟩ : ∃ x, eqV p.vs q.vs = x := ⟨_, rfl⟩
  obtain ⟨b3, hb3⟩ : ∃ x, eqB p.t q.t = x := ⟨_, rfl⟩
  obtain ⟨b4, hb4⟩ : ∃ x, eqQ p.ps q.ps = x := ⟨_, rfl⟩
  have HEQ : Hid (eqP p q = (decide (p.k = q.k) && (decide (p.c = q.c) && (decide (p.x = q.x) && (b1 && (b2 && (b3 && b4))))))) := Lib.hid (by
    rw [← hb1, ← hb2, ← hb3, ← hb4, Bool.eq_iff_iff]
    simp only [eqP_true, Bool.and_eq_true, decide_eq_true_eq, eqV_true, eqB_true, eqQ_true]
    cases p; cases q
    simp only [Pr.mk.injEq, Pr.k, Pr.c, Pr.x, Pr.ls, Pr.vs, Pr.t, Pr.ps])
  have HT : Hid (Calls Tryd.prog 36 #[.slice la ln lc, .slice la' ln' lc'] ((w.alloc (cell12 p (.slice la ln lc) (.slice aa an ac) (.slice ta tn tc) (.slice ua un uc) (.slice ka kn kc))).alloc (cell12 q (.slice la' ln' lc') (.slice aa' an' ac') (.slice ta' tn' tc') (.slice ua' un' uc') (.slice ka' kn' kc'))) fun e w' => e = .returned (.bool b1) ∧ Below ((w.alloc (cell12 p (.slice la ln lc) (.slice aa an ac) (.slice ta tn tc) (.slice ua un uc) (.slice ka kn kc))).alloc (cell12 q (.slice la' ln' lc') (.slice aa' an' ac') (.slice ta' tn' tc') (.slice ua' un' uc') (.slice ka' kn' kc'))).heap.size ((w.alloc (cell12 p (.slice la ln lc) (.slice aa an ac) (.slice ta tn tc) (.slice ua un uc) (.slice ka kn kc))).alloc (cell12 q (.slice la' ln' lc') (.slice aa' an' ac') (.slice ta' tn' tc') (.slice ua' un' uc') (.slice ka' kn' kc'))) w') := Lib.hid ((ptexts_any B _ _ _ _ _ (hl.keep (hb0.keeps'.mono hB)) (hl'.keep (hb0.keeps'.mono hB))).mono fun e w' ⟨h1, h2⟩ => ⟨by rw [h1, hb1], h2.below _⟩)
  have HY : Hid (∀ W, Below w.heap.size w W → Calls Tryd.prog 19 #[.agg #[.int .i64 p.t.k, .int .i64 p.t.p, .string p.t.n, .int .i64 p.t.s, .slice ta tn tc, .slice ua un uc], .agg #[.int .i64 q.t.k, .int .i64 q.t.p, .string q.t.n, .int .i64 q.t.s, .slice ta' tn' tc', .slice ua' un' uc']] W fun e w' => e = .returned (.bool b3) ∧ Below W.heap.size W w') := Lib.hid (fun W hW => by
    rw [← hb3]; exact rsame_any B p.t q.t _ _ W (hB.le hW.size) (ht.keep (hW.keeps'.mono hB)) (ht'.keep (hW.keeps'.mono hB)))
  have HV1 : Hid (an ≠ an' → b2 = false) := Lib.hid (fun h => by rw [← hb2]; exact eqV_ne (fun e => h (by rw [han.out, han'.out, e])))
  have HV2 : Hid (an = an' → p.vs.take an = q.vs.take an → b2 = true) := Lib.hid (fun h h2 => by rw [← hb2]; exact eqV_true.2 (lists_eq han.out (h.trans han'.out) h2))
  have HV3 : Hid (∀ (j : Nat) (s s' : Vl), p.vs[j]? = some s → q.vs[j]? = some s' → s ≠ s' → b2 = false) := Lib.hid (fun j s s' h h' hn => by rw [← hb2]; exact eqV_ne (fun e => hn (by rw [e, h'] at h; exact (Option.some.inj h).symm)))
  have HK1 : Hid (kn ≠ kn' → b4 = false) := Lib.hid (fun h => by rw [← hb4]; exact eqQ_ne (fun e => h (by rw [hkn.out, hkn'.out, e])))
  have HK2 : Hid (kn = kn' → p.ps.take kn = q.ps.take kn → b4 = true) := Lib.hid (fun h h2 => by rw [← hb4]; exact eqQ_true.2 (lists_eq hkn.out (h.trans hkn'.out) h2))
  have HK3 : Hid (∀ (j : Nat) (s s' : Pr), p.ps[j]? = some s → q.ps[j]? = some s' → s ≠ s' → b4 = false) := Lib.hid (fun j s s' h h' hn => by rw [← hb4]; exact eqQ_ne (fun e => hn (by rw [e, h'] at h; exact (Option.some.inj h).symm)))
  have HIH := Lib.hid ih
  have HGV := Lib.hid hag
  have HGV' := Lib.hid hag'
  have HGK := Lib.hid hkg
  have HGK' := Lib.hid hkg'
  have HB0 := Lib.hid hb0
  rw [HEQ.out]
  clear HEQ hb1 hb2 hb3 hb4 hl ha ht hk hl' ha' ht' hk' hag hag' hkg hkg' ih hb0
  unfold prAgg
  by_cases h1 : p.k = q.k
  · have h1' : (p.k != q.k) = false := by simp [h1]
    rw [show decide (p.k = q.k) = true by simpa using h1, Bool.true_and]
    by_cases h2 : p.c = q.c
    · have h2' : (p.c.toList != q.c.toList) = false := by simp [h2]
      have h2e : (p.c.toList == q.c.toList) = true := by simp [h2]
      rw [show decide (p.c = q.c) = true by simpa using h2, Bool.true_and]
      by_cases h3 : p.x = q.x
      · have h3' : (p.x.toList != q.x.toList) = false := by simp [h3]
        have h3e : (p.x.toList == q.x.toList) = true := by simp [h3]
        rw [show decide (p.x = q.x) = true by simpa using h3, Bool.true_and]
        clear h1 h2 h3
        cases b1
        · rw [Bool.false_and]
          go_enter Tryd.func32, Tryd.ntmps32
          go_wp2_with fail
          refine HT.out.mono ?_
          rintro e w1 ⟨rfl, g1⟩
          go_wp2_with fail
          go_ret
          exact ⟨rfl, below_seq HB0.out g1⟩
        · rw [Bool.true_and]
          by_cases h4 : an = an'
          · subst h4
            cases b3
            · rw [Bool.false_and, Bool.and_false]
              go_enter Tryd.func32, Tryd.ntmps32
              go_wp2_with fail
              refine HT.out.mono ?_
              rintro e w1 ⟨rfl, g1⟩
              have gb : Below (w.heap.size + 2) (wb2 w p q la ln lc aa an ac ta tn tc ua un uc ka kn kc la' ln' lc' aa' an ac' ta' tn' tc' ua' un' uc' ka' kn' kc') w1 := g1.mono (by simp)
              have c4 := box2_fst gb 4 rfl
              have c4' := box2_snd gb 4 rfl
              have c5 := box2_fst gb 5 rfl
              have c5' := box2_snd gb 5 rfl
              have c6 := box2_fst gb 6 rfl
              have c6' := box2_snd gb 6 rfl
              have c7 := box2_fst gb 7 rfl
              have c7' := box2_snd gb 7 rfl
              have c8 := box2_fst gb 8 rfl
              have c8' := box2_snd gb 8 rfl
              have c9 := box2_fst gb 9 rfl
              have c9' := box2_snd gb 9 rfl
              have c10 := box2_fst gb 10 rfl
              have c10' := box2_snd gb 10 rfl
              go_wp2_with fail
              clear c4 c4' c5 c5' c6 c6' c7 c7' c8 c8' c9 c9' c10 c10'
              refine (HY.out _ (box2_low gb)).mono ?_
              rintro e w2 ⟨rfl, g2⟩
              go_wp2_with fail
              go_ret
              exact ⟨rfl, below_seq (box2_low gb) g2⟩
            · rw [Bool.true_and]
              by_cases h5 : kn = kn'
              · subst h5
                go_enter Tryd.func32, Tryd.ntmps32
                go_wp2_with fail
                refine HT.out.mono ?_
                rintro e w1 ⟨rfl, g1⟩
                have gb : Below (w.heap.size + 2) (wb2 w p q la ln lc aa an ac ta tn tc ua un uc ka kn kc la' ln' lc' aa' an ac' ta' tn' tc' ua' un' uc' ka' kn kc') w1 := g1.mono (by simp)
                have c4 := box2_fst gb 4 rfl
                have c4' := box2_snd gb 4 rfl
                have c5 := box2_fst gb 5 rfl
                have c5' := box2_snd gb 5 rfl
                have c6 := box2_fst gb 6 rfl
                have c6' := box2_snd gb 6 rfl
                have c7 := box2_fst gb 7 rfl
                have c7' := box2_snd gb 7 rfl
                have c8 := box2_fst gb 8 rfl
                have c8' := box2_snd gb 8 rfl
                have c9 := box2_fst gb 9 rfl
                have c9' := box2_snd gb 9 rfl
                have c10 := box2_fst gb 10 rfl
                have c10' := box2_snd gb 10 rfl
                go_wp2_with fail
                clear c4 c4' c5 c5' c6 c6' c7 c7' c8 c8' c9 c9' c10 c10'
                refine (HY.out _ (box2_low gb)).mono ?_
                rintro e w2 ⟨rfl, g2⟩
                have gc : Below (w.heap.size + 2) (wb2 w p q la ln lc aa an ac ta tn tc ua un uc ka kn kc la' ln' lc' aa' an ac' ta' tn' tc' ua' un' uc' ka' kn kc') w2 := gb.trans (g2.mono (by have := gb.size; simp at this; omega))
                have c11 := box2_fst gc 11 rfl
                have c11' := box2_snd gc 11 rfl
                go_wp2_with fail
                clear c11 c11' HT HY g1 g2
                have GC := Lib.hid gc
                clear gb gc
                go_loopw [5] (fun i wr => ∃ (j : Nat), i = .int .i64 j ∧ j ≤ an ∧ Hid (p.vs.take j = q.vs.take j) ∧ Below (w.heap.size + 2) (wb2 w p q la ln lc aa an ac ta tn tc ua un uc ka kn kc la' ln' lc' aa' an ac' ta' tn' tc' ua' un' uc' ka' kn kc') wr) (fun i _ => an - (intOf i).toNat)
                case atStart => exact ⟨0, rfl, by omega, Lib.hid (by simp), GC.out⟩
                case round =>
                  obtain ⟨j, rfl, hj, HTK, hb⟩ := hrel
                  have c4 := box2_fst hb 4 rfl
                  have c4' := box2_snd hb 4 rfl
                  have hw := box2_low hb
                  by_cases hlt : j < an
                  · obtain ⟨s, hs⟩ : ∃ s, p.vs[j]? = some s := ⟨_, List.getElem?_eq_getElem (by rw [← han.out]; exact hlt)⟩
                    obtain ⟨s', hs'⟩ : ∃ s', q.vs[j]? = some s' := ⟨_, List.getElem?_eq_getElem (by rw [← han'.out]; exact hlt)⟩
                    obtain ⟨_, kb, ko, rfl, hkb, hc⟩ := HGV.out j s hs
                    obtain ⟨_, kb', ko', rfl, hkb', hc'⟩ := HGV'.out j s' hs'
                    have e0 := (hw.cell (p := ⟨kb, _, none⟩) (hB kb hkb)).trans hc.1
                    have e1 := (hw.cell (p := ⟨kb, _, none⟩) (hB kb hkb)).trans hc.2.1
                    have e2 := (hw.cell (p := ⟨kb, _, none⟩) (hB kb hkb)).trans hc.2.2
                    have e0' := (hw.cell (p := ⟨kb', _, none⟩) (hB kb' hkb')).trans hc'.1
                    have e1' := (hw.cell (p := ⟨kb', _, none⟩) (hB kb' hkb')).trans hc'.2.1
                    have e2' := (hw.cell (p := ⟨kb', _, none⟩) (hB kb' hkb')).trans hc'.2.2
                    clear hc hc'
                    by_cases hss : s = s'
                    · subst hss
                      have hn : Hid (p.vs.take (j + 1) = q.vs.take (j + 1)) := Lib.hid (by rw [take_snoc_get hs, take_snoc_get hs', HTK.out])
                      clear hs hs'
                      go_wp2_with fail
                      go_quiet (fail)
                      go_wp2_with fail
                      go_roundw
                      case rel => exact ⟨j + 1, by go_num, by omega, hn, below_drewN hb _⟩
                      case measure => simp [intOf]; omega
                    · have HF := Lib.hid (HV3.out j s s' hs hs' hss)
                      clear hs hs'
                      obtain ⟨k, n, x⟩ := s
                      obtain ⟨k', n', x'⟩ := s'
                      simp only at e0 e1 e2 e0' e1' e2'
                      by_cases z1 : k = k'
                      · subst z1
                        by_cases z2 : n = n'
                        · subst z2
                          have z3 : (x == x') = false := by simp; intro e; exact hss (by rw [e])
                          clear hss
                          go_wp2_with fail
                          go_quiet (fail)
                          go_wp2_with fail
                          go_ret
                          exact ⟨ret_bool (by rw [HF.out, Bool.false_and]), below_drewN hw _⟩
                        · have z3 := str_ne z2
                          have z4 : (n.toList == n'.toList) = false := by simpa using z3
                          clear hss z2
                          go_wp2_with fail
                          go_quiet (fail)
                          go_wp2_with fail
                          go_ret
                          exact ⟨ret_bool (by rw [HF.out, Bool.false_and]), below_drewN hw _⟩
                      · have z3 : (k == k') = false := by simpa using z1
                        clear hss z1
                        go_wp2_with fail
                        go_quiet (fail)
                        go_wp2_with fail
                        go_ret
                        exact ⟨ret_bool (by rw [HF.out, Bool.false_and]), below_drewN hw _⟩
                  · obtain rfl : an = j := by omega
                    have HB2 := Lib.hid (HV2.out (by first | trivial | rfl) HTK.out)
                    clear HTK
                    go_wp2_with fail
                    clear c4 c4'
                    have GD := Lib.hid hb
                    clear hb
                    go_loopw [6] (fun i wr => ∃ (m : Nat), i = .int .i64 m ∧ m ≤ kn ∧ Hid (p.ps.take m = q.ps.take m) ∧ Below (w.heap.size + 2) (wb2 w p q la ln lc aa an ac ta tn tc ua un uc ka kn kc la' ln' lc' aa' an ac' ta' tn' tc' ua' un' uc' ka' kn kc') wr) (fun i _ => kn - (intOf i).toNat)
                    case atStart => exact ⟨0, rfl, by omega, Lib.hid (by simp), GD.out⟩
                    case round =>
                      obtain ⟨m, rfl, hm, HTK, hb⟩ := hrel
                      have c11 := box2_fst hb 11 rfl
                      have c11' := box2_snd hb 11 rfl
                      have hw := box2_low hb
                      by_cases hlt : m < kn
                      · obtain ⟨s, hs⟩ : ∃ s, p.ps[m]? = some s := ⟨_, List.getElem?_eq_getElem (by rw [← hkn.out]; exact hlt)⟩
                        obtain ⟨s', hs'⟩ : ∃ s', q.ps[m]? = some s' := ⟨_, List.getElem?_eq_getElem (by rw [← hkn'.out]; exact hlt)⟩
                        obtain ⟨kb, ko, rfl, hkb, hty⟩ := HGK.out m s hs
                        obtain ⟨kb', ko', rfl, hkb', hty'⟩ := HGK'.out m s' hs'
                        obtain ⟨la1, ln1, lc1, aa1, an1, ac1, ta1, tn1, tc1, ua1, un1, uc1, ka1, kn1, kc1, ⟨D0, D1, D2, D3, D4, D5, D6, D7, D8, D9, D10, D11⟩, hval⟩ := (hty.keep (hw.keeps'.mono hB)).load'
                        obtain ⟨la2, ln2, lc2, aa2, an2, ac2, ta2, tn2, tc2, ua2, un2, uc2, ka2, kn2, kc2, ⟨F0, F1, F2, F3, F4, F5, F6, F7, F8, F9, F10, F11⟩, hval'⟩ := (hty'.keep (hw.keeps'.mono hB)).load'
                        have IH : Hid (∀ W, Below wr.heap.size wr W → Calls Tryd.prog 32 #[prAgg s (.slice la1 ln1 lc1) (.slice aa1 an1 ac1) (.slice ta1 tn1 tc1) (.slice ua1 un1 uc1) (.slice ka1 kn1 kc1), prAgg s' (.slice la2 ln2 lc2) (.slice aa2 an2 ac2) (.slice ta2 tn2 tc2) (.slice ua2 un2 uc2) (.slice ka2 kn2 kc2)] W fun e w' => e = .returned (.bool (eqP s s')) ∧ Below W.heap.size W w') :=
                          Lib.hid (fun W hW => HIH.out s (List.mem_of_getElem? hs) s' _ _ W (hB.le (Nat.le_trans hw.size hW.size)) (hval.to (hB.le hw.size) hW) (hval'.to (hB.le hw.size) hW))
                        have hbk := hB kb hkb
                        have hbk' := hB kb' hkb'
                        have lift : ∀ {v : Value} {x : Nat}, wr.cell? ⟨kb, x, none⟩ = some v → ∀ W, Below wr.heap.size wr W → W.cell? ⟨kb, x, none⟩ = some v := fun h W hW => (hW.cell (p := ⟨kb, _, none⟩) (by have := hw.size; simp; omega)).trans h
                        have lift' : ∀ {v : Value} {x : Nat}, wr.cell? ⟨kb', x, none⟩ = some v → ∀ W, Below wr.heap.size wr W → W.cell? ⟨kb', x, none⟩ = some v := fun h W hW => (hW.cell (p := ⟨kb', _, none⟩) (by have := hw.size; simp; omega)).trans h
                        have x11 := fun Q : Later wr.heap.size wr => (Q.2.cell (p := ⟨w.heap.size, 11, none⟩) (by have := hb.size; simp at this; simp; omega)).trans c11
                        have x11' := fun Q : Later wr.heap.size wr => (Q.2.cell (p := ⟨w.heap.size + 1, 11, none⟩) (by have := hb.size; simp at this; simp; omega)).trans c11'
                        have X0 := fun Q : Later wr.heap.size wr => lift D0 Q.1 Q.2
                        have Y0 := fun Q : Later wr.heap.size wr => lift' F0 Q.1 Q.2
                        have X1 := fun Q : Later wr.heap.size wr => lift D1 Q.1 Q.2
                        have Y1 := fun Q : Later wr.heap.size wr => lift' F1 Q.1 Q.2
                        have X2 := fun Q : Later wr.heap.size wr => lift D2 Q.1 Q.2
                        have Y2 := fun Q : Later wr.heap.size wr => lift' F2 Q.1 Q.2
                        have X3 := fun Q : Later wr.heap.size wr => lift D3 Q.1 Q.2
                        have Y3 := fun Q : Later wr.heap.size wr => lift' F3 Q.1 Q.2
                        have X4 := fun Q : Later wr.heap.size wr => lift D4 Q.1 Q.2
                        have Y4 := fun Q : Later wr.heap.size wr => lift' F4 Q.1 Q.2
                        have X5 := fun Q : Later wr.heap.size wr => lift D5 Q.1 Q.2
                        have Y5 := fun Q : Later wr.heap.size wr => lift' F5 Q.1 Q.2
                        have X6 := fun Q : Later wr.heap.size wr => lift D6 Q.1 Q.2
                        have Y6 := fun Q : Later wr.heap.size wr => lift' F6 Q.1 Q.2
                        have X7 := fun Q : Later wr.heap.size wr => lift D7 Q.1 Q.2
                        have Y7 := fun Q : Later wr.heap.size wr => lift' F7 Q.1 Q.2
                        have X8 := fun Q : Later wr.heap.size wr => lift D8 Q.1 Q.2
                        have Y8 := fun Q : Later wr.heap.size wr => lift' F8 Q.1 Q.2
                        have X9 := fun Q : Later wr.heap.size wr => lift D9 Q.1 Q.2
                        have Y9 := fun Q : Later wr.heap.size wr => lift' F9 Q.1 Q.2
                        have X10 := fun Q : Later wr.heap.size wr => lift D10 Q.1 Q.2
                        have Y10 := fun Q : Later wr.heap.size wr => lift' F10 Q.1 Q.2
                        have X11 := fun Q : Later wr.heap.size wr => lift D11 Q.1 Q.2
                        have Y11 := fun Q : Later wr.heap.size wr => lift' F11 Q.1 Q.2
                        clear lift lift' hval hval' hty hty' D0 F0 D1 F1 D2 F2 D3 F3 D4 F4 D5 F5 D6 F6 D7 F7 D8 F8 D9 F9 D10 F10 D11 F11
                        by_cases hss : s = s'
                        · rw [eqP_true.2 hss] at IH
                          have hn : Hid (p.ps.take (m + 1) = q.ps.take (m + 1)) := Lib.hid (by rw [take_snoc_get hs, take_snoc_get hs', HTK.out, hss])
                          clear hs hs' hss
                          unfold prAgg at IH
                          go_wp2_with fail
                          clear c11 c11'
                          refine wp_region_later wr.heap.size wr (by kernel_rfl) (by kernel_rfl) (Below.refl _ _) ?_
                          repeat (go_big_quiet_step ((go_at_call 32; exact later_call _ (Nat.le_refl _) (IH.out _ (Subtype.property _)))))
                          refine wpQuiet_nil ?_
                          rintro _ ⟨⟨w5, hb5⟩, rfl⟩
                          clear x11 x11' X0 Y0 X1 Y1 X2 Y2 X3 Y3 X4 Y4 X5 Y5 X6 Y6 X7 Y7 X8 Y8 X9 Y9 X10 Y10 X11 Y11
                          go_wp2_with fail
                          go_roundw
                          case rel => exact ⟨m + 1, by go_num, by omega, hn, hb.trans (hb5.mono (by have := hb.size; simpa using this))⟩
                          case measure => simp [intOf]; omega
                        · rw [eqP_ne hss] at IH
                          have HF := Lib.hid (HK3.out m s s' hs hs' hss)
                          clear hs hs' hss
                          unfold prAgg at IH
                          go_wp2_with fail
                          clear c11 c11'
                          refine wp_region_later wr.heap.size wr (by kernel_rfl) (by kernel_rfl) (Below.refl _ _) ?_
                          repeat (go_big_quiet_step ((go_at_call 32; exact later_call _ (Nat.le_refl _) (IH.out _ (Subtype.property _)))))
                          refine wpQuiet_nil ?_
                          rintro _ ⟨⟨w5, hb5⟩, rfl⟩
                          clear x11 x11' X0 Y0 X1 Y1 X2 Y2 X3 Y3 X4 Y4 X5 Y5 X6 Y6 X7 Y7 X8 Y8 X9 Y9 X10 Y10 X11 Y11
                          go_wp2_with fail
                          go_ret
                          exact ⟨ret_bool (by rw [HF.out, Bool.and_false]), below_seq hw hb5⟩
                      · obtain rfl : m = kn := by omega
                        have HB4 := Lib.hid (HK2.out (by first | trivial | rfl) HTK.out)
                        clear HTK
                        go_wp2_with fail
                        go_ret
                        exact ⟨ret_bool (by rw [HB2.out, HB4.out]; rfl), hw⟩
              · have HF := Lib.hid (HK1.out h5)
                have h5' : (kn != kn') = true := by simpa using h5
                clear h5
                go_enter Tryd.func32, Tryd.ntmps32
                go_wp2_with fail
                refine HT.out.mono ?_
                rintro e w1 ⟨rfl, g1⟩
                have gb : Below (w.heap.size + 2) (wb2 w p q la ln lc aa an ac ta tn tc ua un uc ka kn kc la' ln' lc' aa' an ac' ta' tn' tc' ua' un' uc' ka' kn' kc') w1 := g1.mono (by simp)
                have c4 := box2_fst gb 4 rfl
                have c4' := box2_snd gb 4 rfl
                have c5 := box2_fst gb 5 rfl
                have c5' := box2_snd gb 5 rfl
                have c6 := box2_fst gb 6 rfl
                have c6' := box2_snd gb 6 rfl
                have c7 := box2_fst gb 7 rfl
                have c7' := box2_snd gb 7 rfl
                have c8 := box2_fst gb 8 rfl
                have c8' := box2_snd gb 8 rfl
                have c9 := box2_fst gb 9 rfl
                have c9' := box2_snd gb 9 rfl
                have c10 := box2_fst gb 10 rfl
                have c10' := box2_snd gb 10 rfl
                go_wp2_with fail
                clear c4 c4' c5 c5' c6 c6' c7 c7' c8 c8' c9 c9' c10 c10'
                refine (HY.out _ (box2_low gb)).mono ?_
                rintro e w2 ⟨rfl, g2⟩
                have gc : Below (w.heap.size + 2) (wb2 w p q la ln lc aa an ac ta tn tc ua un uc ka kn kc la' ln' lc' aa' an ac' ta' tn' tc' ua' un' uc' ka' kn' kc') w2 := gb.trans (g2.mono (by have := gb.size; simp at this; omega))
                have c11 := box2_fst gc 11 rfl
                have c11' := box2_snd gc 11 rfl
                go_wp2_with fail
                go_ret
                exact ⟨ret_bool (by rw [HF.out, Bool.and_false]), box2_low gc⟩
          · have HF := Lib.hid (HV1.out h4)
            have h4' : (an != an') = true := by simpa using h4
            have h4'' : (an == an') = false := by simpa using h4
            have h4i : ((an : Int) == (an' : Int)) = false := by simp; omega
            have h4j : ((an : Int) != (an' : Int)) = true := by simp; omega
            clear h4
            go_enter Tryd.func32, Tryd.ntmps32
            go_wp2_with fail
            refine HT.out.mono ?_
            rintro e w1 ⟨rfl, g1⟩
            have gb : Below (w.heap.size + 2) (wb2 w p q la ln lc aa an ac ta tn tc ua un uc ka kn kc la' ln' lc' aa' an' ac' ta' tn' tc' ua' un' uc' ka' kn' kc') w1 := g1.mono (by simp)
            have c4 := box2_fst gb 4 rfl
            have c4' := box2_snd gb 4 rfl
            go_wp2_with fail
            go_ret
            exact ⟨ret_bool (by rw [HF.out, Bool.false_and]), box2_low gb⟩
      · have h3' := str_ne h3
        have h3e : (p.x.toList == q.x.toList) = false := by simpa using h3'
        rw [show decide (p.x = q.x) = false by simpa using h3, Bool.false_and]
        clear h1 h2 h3
        go_enter Tryd.func32, Tryd.ntmps32
        go_wp2_with fail
        go_ret
        exact ⟨rfl, HB0.out⟩
    · have h2' := str_ne h2
      have h2e : (p.c.toList == q.c.toList) = false := by simpa using h2'
      rw [show decide (p.c = q.c) = false by simpa using h2, Bool.false_and]
      clear h1 h2
      go_enter Tryd.func32, Tryd.ntmps32
      go_wp2_with fail
      go_ret
      exact ⟨rfl, HB0.out⟩
  · have h1' : (p.k != q.k) = true := by simpa using h1
    rw [show decide (p.k = q.k) = false by simpa using h1, Bool.false_and]
    clear h1
    go_enter Tryd.func32, Tryd.ntmps32
    go_wp2_with fail
    go_ret
    exact ⟨rfl, HB0.out⟩

theorem rpsame_any (B : Nat → Prop) : ∀ (p : Pr), RSameP B p := by
  refine Pr.ind ?_
  intro k c x ls vs t ps ih q v v' w hB hv hv'
  exact rpsame_step B (.mk k c x ls vs t ps) q ih v v' w hB hv hv'

end Go.Proofs.YtipjjhkgcbabnaaDoor

/- Processes: the program's functions at values anywhere in memory. -/
namespace Go.Proofs.YtipjjhkgcbabnaaDoor
open Go.RowKit Go.Deep Go.Shelf

theorem plow (w : World) : Low (fun k => k < w.heap.size) w := fun _ h => h
theorem pright_l {E : Nat} {W : World} {v : Value} {p : Pr} {c : Int} (he : Env E W) (h : PLies W v p) (hg : PGood p) (hd : p.depth ≤ 99999) (hc : prightE p = c) : Calls Tryd.prog 57 #[v] W fun e w' => e = .returned (.int .i64 c) ∧ Below W.heap.size W w' := by
  rw [← hc]; exact pright_any E _ p hg hd v W (plow W) he h
theorem psize_l {W : World} {v : Value} {p : Pr} {c : Int} (h : PLies W v p) (hs : p.size ≤ 1000000) (hd : p.depth ≤ 99999) (hc : (p.size : Int) = c) : Calls Tryd.prog 25 #[v] W fun e w' => e = .returned (.int .i64 c) ∧ Below W.heap.size W w' := by
  rw [← hc]; exact psize_any _ p hs hd v W (plow W) h
theorem pdepth_l {W : World} {v : Value} {p : Pr} {c : Int} (h : PLies W v p) (hd : p.depth ≤ 99999) (hc : (p.depth : Int) = c) : Calls Tryd.prog 27 #[v] W fun e w' => e = .returned (.int .i64 c) ∧ Below W.heap.size W w' := by
  rw [← hc]; exact pdepthP_any _ p hd v W (plow W) h
theorem ptotal_l {W : World} {v : Value} {g : Pg} {c : Int} (h : GLies W v g) (hg : GGood g) (hs : g.total ≤ 1000000000) (hc : (g.total : Int) = c) : Calls Tryd.prog 29 #[v] W fun e w' => e = .returned (.int .i64 c) ∧ Below W.heap.size W w' := by
  rw [← hc]; exact ptotal_any _ g hg hs v W (plow W) h
theorem pprog_l {E : Nat} {W : World} {v : Value} {g : Pg} {c : Int} (he : Env E W) (h : GLies W v g) (hg : GGood g) (hc : pprogE g = c) : Calls Tryd.prog 58 #[v] W fun e w' => e = .returned (.int .i64 c) ∧ Below W.heap.size W w' := by
  rw [← hc]; exact pprogram_any E _ g hg v W (plow W) he h
theorem psame_l {W : World} {v v' : Value} {p q : Pr} {b : Bool} (h : PLies W v p) (h' : PLies W v' q) (hb : eqP p q = b) : Calls Tryd.prog 31 #[v, v'] W fun e w' => e = .returned (.bool b) ∧ Below W.heap.size W w' := by
  rw [← hb]; exact psame_any _ p q v v' W (plow W) h h'
theorem rpsame_l {W : World} {v v' : Value} {p q : Pr} {b : Bool} (h : PLies W v p) (h' : PLies W v' q) (hb : eqP p q = b) : Calls Tryd.prog 32 #[v, v'] W fun e w' => e = .returned (.bool b) ∧ Below W.heap.size W w' := by
  rw [← hb]; exact rpsame_any _ p q v v' W (plow W) h h'
theorem pprefix_l {W : World} {v : Value} {p : Pr} {b : Bool} (h : PLies W v p) (hb : prefixB p.k = b) : Calls Tryd.prog 35 #[v] W fun e w' => e = .returned (.bool b) ∧ Below W.heap.size W w' := by
  rw [← hb]; exact pprefix_any _ p v W h
theorem pcopy_l {W : World} {v : Value} {p : Pr} (h : PLies W v p) (hm : p.mod) : Calls Tryd.prog 41 #[v] W fun e w' => ∃ la ln lc aa an ac ta tn tc ua un uc ka kn kc, e = .returned (prAgg p (.slice la ln lc) (.slice aa an ac) (.slice ta tn tc) (.slice ua un uc) (.slice ka kn kc)) ∧
    PLies w' (prAgg p (.slice la ln lc) (.slice aa an ac) (.slice ta tn tc) (.slice ua un uc) (.slice ka kn kc)) p ∧ Below W.heap.size W w' :=
  (pcopy_any _ p hm v W (plow W) h).mono fun _ _ ⟨la, ln, lc, aa, an, ac, ta, tn, tc, ua, un, uc, ka, kn, kc, h1, h2, h3⟩ => ⟨la, ln, lc, aa, an, ac, ta, tn, tc, ua, un, uc, ka, kn, kc, h1, h2.mono (fun _ hk => hk.2), h3⟩
/-- A list of texts, anywhere. -/
def SLies (w : World) (v : Value) (l : List ByteArray) : Prop := StrSl (fun k => k < w.heap.size) w v l
theorem SLies.to {w w' : World} {v : Value} {l : List ByteArray} (h : SLies w v l) (hb : Below w.heap.size w w') : SLies w' v l :=
  (h.keep (hb.keeps'.mono (fun _ hk => hk))).mono (fun _ hk => Nat.lt_of_lt_of_le hk hb.size)
theorem pfree_l {W : World} {v : Value} {p : Pr} {l : List ByteArray} (h : PLies W v p) (hs : p.size ≤ 1000000) (hd : p.depth ≤ 100000) (hn : p.nms ≤ 1000000000) (hl : p.free = l) : Calls Tryd.prog 37 #[v] W fun e w' => ∃ la ln lc, e = .returned (.slice la ln lc) ∧ SLies w' (.slice la ln lc) l ∧ Below W.heap.size W w' := by
  rw [← hl]
  exact (pfree_any _ p hd hs hn v W (plow W) h).mono fun _ _ ⟨la, ln, lc, h1, h2, h3⟩ => ⟨la, ln, lc, h1, h2.mono (fun _ hk => hk.2), h3⟩
theorem drew_below {w w' : World} (h : Drew w w') : Below w.heap.size w w' := h.below _
theorem wp_at {P : Program} {c : Code} {Q : Exit → Act → World → Prop} {a : Act} {W W0 : World} (h : W = W0) (k : c.wp P Q a W0) : c.wp P Q a W := by rw [h]; exact k
theorem ptexts_l {W : World} {v v' : Value} {l l' : List ByteArray} {b : Bool} (h : SLies W v l) (h' : SLies W v' l') (hb : decide (l = l') = b) : Calls Tryd.prog 36 #[v, v'] W fun e w' => e = .returned (.bool b) ∧ Below W.heap.size W w' := by
  rw [← hb]; exact (ptexts_any _ v v' l l' W h h').mono fun _ _ ⟨h1, h2⟩ => ⟨h1, drew_below h2⟩
theorem lies_pz (W : World) : PLies W (prAgg pz sl0 sl0 sl0 sl0 sl0) pz := ⟨_, _, _, _, _, rfl, ⟨by decide, by decide⟩, nil_strs _ _, nil_vls _ _, val_leaf _ _ 0 0 0 e0 (by decide), nil_prs _ _⟩
theorem lies_g4 {W : World} {lv av tl tk kv : Value} (h : PLies W (prAgg p4 lv av tl tk kv) p4) : GLies W (pgAgg g4 sl0 lv av tl tk kv) g4 := ⟨_, _, _, _, _, _, rfl, nil_dfs _ _, h⟩
theorem two_names {w W : World} (hb : Below (w.alloc (.cells #[.string bA, .string bB] 9)).heap.size (w.alloc (.cells #[.string bA, .string bB] 9)) W) : SLies W (.slice (some ⟨w.heap.size, 0, none⟩) 2 2) [bA, bB] := by
  rw [World.size_alloc] at hb
  exact (strSl_made (w := w) (W := W) [bA, bB] hb (fun s hs => by simp at hs; rcases hs with rfl | rfl <;> decide) (by decide)).mono (fun _ hk => hk.2)

theorem lies_pz' (W : World) : PLies W (.agg #[.int .i64 0, .string ⟨#[]⟩, .string ⟨#[]⟩, .slice none 0 0, .slice none 0 0, .int .i64 0, .int .i64 0, .string ⟨#[]⟩, .int .i64 0, .slice none 0 0, .slice none 0 0, .slice none 0 0]) pz := lies_pz W
theorem dp4 : p4.depth ≤ 99999 := by decide
theorem dp4' : p4.depth ≤ 100000 := by decide
theorem dpz : pz.depth ≤ 99999 := by decide
theorem zp4 : p4.size ≤ 1000000 := by decide
theorem pre_p4 : prefixB p4.k = true := by rfl
theorem pre_p3 : prefixB p3.k = false := by rfl
theorem two_dec : decide ([bA, bB] = [bA, bB]) = true := by simp
end Go.Proofs.YtipjjhkgcbabnaaDoor
