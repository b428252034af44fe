/- Processes: Copy. (and what follows from it) -/
import Derived.Test.YtliijbcgkkiekaaDoorPb26
import Derived.Deep.RegionWith

/- Processes: Copy. -/
namespace Go.Proofs.YtliijbcgkkiekaaDoor
open Go.RowKit Go.Deep

mutual
/-- Processes whose lists are not too long. -/
def Pr.mod : Pr → Prop
  | .mk _ _ _ ls vs t ps => ls.length ≤ 1048576 ∧ vs.length ≤ 1048576 ∧ ps.length ≤ 65536 ∧ t.mod ∧ Pr.mods ps
def Pr.mods : List Pr → Prop
  | [] => True
  | p :: r => p.mod ∧ Pr.mods r
end
theorem Pr.mods_mem : ∀ {l : List Pr}, Pr.mods l → ∀ p ∈ l, p.mod
  | [], _, _, h => by cases h
  | u :: r, h, p, hp => by
    simp only [Pr.mods] at h
    rcases List.mem_cons.1 hp with rfl | hp
    · exact h.1
    · exact Pr.mods_mem h.2 p hp
/-- A process in new memory is returned. -/
def PrRet (w : World) (p : Pr) (e : Ending) (w' : World) : Prop :=
  ∃ la ln lc aa an ac ta tn tc ua un uc ka kn kc, e = .returned (prAgg p (.slice la ln lc) (.slice aa an ac) (.slice ta tn tc) (.slice ua un uc) (.slice ka kn kc)) ∧
    PrVal (Fresh w.heap.size w'.heap.size) w' (prAgg p (.slice la ln lc) (.slice aa an ac) (.slice ta tn tc) (.slice ua un uc) (.slice ka kn kc)) p ∧ Below w.heap.size w w'

/-- A block of twelve cells, whole. -/
def Twelve (w : World) (b : Nat) (a0 a1 a2 a3 a4 a5 a6 a7 a8 a9 a10 a11 : Value) : Prop := w.heap[b]? = some (.cells #[a0, a1, a2, a3, a4, a5, a6, a7, a8, a9, a10, a11] 36 (0, 0))
section
variable {w w' : World} {b : Nat} {a0 a1 a2 a3 a4 a5 a6 a7 a8 a9 a10 a11 : Value}
theorem Twelve.cells (h : Twelve w b a0 a1 a2 a3 a4 a5 a6 a7 a8 a9 a10 a11) :
    (w.cell? ⟨b, 0, none⟩ = some a0 ∧ w.cell? ⟨b, 1, none⟩ = some a1 ∧ w.cell? ⟨b, 2, none⟩ = some a2 ∧ w.cell? ⟨b, 3, none⟩ = some a3 ∧ w.cell? ⟨b, 4, none⟩ = some a4 ∧ w.cell? ⟨b, 5, none⟩ = some a5 ∧ w.cell? ⟨b, 6, none⟩ = some a6 ∧ w.cell? ⟨b, 7, none⟩ = some a7 ∧ w.cell? ⟨b, 8, none⟩ = some a8 ∧ w.cell? ⟨b, 9, none⟩ = some a9 ∧ w.cell? ⟨b, 10, none⟩ = some a10 ∧ w.cell? ⟨b, 11, none⟩ = some a11) ∧ ∀ j, w.frozen? ⟨b, j, none⟩ = false := by
  unfold Twelve at h
  refine ⟨⟨?_, ?_, ?_, ?_, ?_, ?_, ?_, ?_, ?_, ?_, ?_, ?_⟩, fun j => frozen_of_block h j⟩ <;> simp [World.cell?, h]
theorem Twelve.lt (h : Twelve w b a0 a1 a2 a3 a4 a5 a6 a7 a8 a9 a10 a11) : b < w.heap.size := (Array.getElem?_eq_some_iff.1 h).1
theorem Twelve.to (h : Twelve w b a0 a1 a2 a3 a4 a5 a6 a7 a8 a9 a10 a11) (hb : Below w.heap.size w w') : Twelve w' b a0 a1 a2 a3 a4 a5 a6 a7 a8 a9 a10 a11 := (hb.block b h.lt).trans h
theorem Twelve.other (h : Twelve w b a0 a1 a2 a3 a4 a5 a6 a7 a8 a9 a10 a11) {c o : Nat} (hne : b ≠ c) (v : Value) : Twelve (w.setCell ⟨c, o, none⟩ v) b a0 a1 a2 a3 a4 a5 a6 a7 a8 a9 a10 a11 := (Below.heap_setCell _ _ _ b hne).trans h
theorem Twelve.others (h : Twelve w b a0 a1 a2 a3 a4 a5 a6 a7 a8 a9 a10 a11) {c : Nat} (hne : b ≠ c) (vs : List Value) (o : Nat) : Twelve (w.setCells c o vs) b a0 a1 a2 a3 a4 a5 a6 a7 a8 a9 a10 a11 := (heap_setCells_other hne _ _ _).trans h
theorem Twelve.set3 (h : Twelve w b a0 a1 a2 a3 a4 a5 a6 a7 a8 a9 a10 a11) (v : Value) : Twelve (w.setCell ⟨b, 3, none⟩ v) b a0 a1 a2 v a4 a5 a6 a7 a8 a9 a10 a11 := set_block h 3 v
theorem Twelve.set4 (h : Twelve w b a0 a1 a2 a3 a4 a5 a6 a7 a8 a9 a10 a11) (v : Value) : Twelve (w.setCell ⟨b, 4, none⟩ v) b a0 a1 a2 a3 v a5 a6 a7 a8 a9 a10 a11 := set_block h 4 v
theorem Twelve.set11 (h : Twelve w b a0 a1 a2 a3 a4 a5 a6 a7 a8 a9 a10 a11) (v : Value) : Twelve (w.setCell ⟨b, 11, none⟩ v) b a0 a1 a2 a3 a4 a5 a6 a7 a8 a9 a10 v := set_block h 11 v
theorem Twelve.setT (h : Twelve w b a0 a1 a2 a3 a4 a5 a6 a7 a8 a9 a10 a11) (v5 v6 v7 v8 v9 v10 : Value) : Twelve (w.setCells b 5 [v5, v6, v7, v8, v9, v10]) b a0 a1 a2 a3 a4 v5 v6 v7 v8 v9 v10 a11 := by
  have h5 : Twelve (w.setCell ⟨b, 5, none⟩ v5) b a0 a1 a2 a3 a4 v5 a6 a7 a8 a9 a10 a11 := set_block h 5 v5
  have h6 : Twelve ((w.setCell ⟨b, 5, none⟩ v5).setCell ⟨b, 6, none⟩ v6) b a0 a1 a2 a3 a4 v5 v6 a7 a8 a9 a10 a11 := set_block h5 6 v6
  have h7 : Twelve (((w.setCell ⟨b, 5, none⟩ v5).setCell ⟨b, 6, none⟩ v6).setCell ⟨b, 7, none⟩ v7) b a0 a1 a2 a3 a4 v5 v6 v7 a8 a9 a10 a11 := set_block h6 7 v7
  have h8 : Twelve ((((w.setCell ⟨b, 5, none⟩ v5).setCell ⟨b, 6, none⟩ v6).setCell ⟨b, 7, none⟩ v7).setCell ⟨b, 8, none⟩ v8) b a0 a1 a2 a3 a4 v5 v6 v7 v8 a9 a10 a11 := set_block h7 8 v8
  have h9 : Twelve (((((w.setCell ⟨b, 5, none⟩ v5).setCell ⟨b, 6, none⟩ v6).setCell ⟨b, 7, none⟩ v7).setCell ⟨b, 8, none⟩ v8).setCell ⟨b, 9, none⟩ v9) b a0 a1 a2 a3 a4 v5 v6 v7 v8 v9 a10 a11 := set_block h8 9 v9
  have h10 : Twelve ((((((w.setCell ⟨b, 5, none⟩ v5).setCell ⟨b, 6, none⟩ v6).setCell ⟨b, 7, none⟩ v7).setCell ⟨b, 8, none⟩ v8).setCell ⟨b, 9, none⟩ v9).setCell ⟨b, 10, none⟩ v10) b a0 a1 a2 a3 a4 v5 v6 v7 v8 v9 v10 a11 := set_block h9 10 v10
  exact h10
theorem Twelve.fill (h : Twelve w b a0 a1 a2 a3 a4 a5 a6 a7 a8 a9 a10 a11) (v0 v1 v2 v3 v4 v5 v6 v7 v8 v9 v10 v11 : Value) : Twelve (w.setCells b 0 [v0, v1, v2, v3, v4, v5, v6, v7, v8, v9, v10, v11]) b v0 v1 v2 v3 v4 v5 v6 v7 v8 v9 v10 v11 := by
  have h0 : Twelve (w.setCell ⟨b, 0, none⟩ v0) b v0 a1 a2 a3 a4 a5 a6 a7 a8 a9 a10 a11 := set_block h 0 v0
  have h1 : Twelve ((w.setCell ⟨b, 0, none⟩ v0).setCell ⟨b, 1, none⟩ v1) b v0 v1 a2 a3 a4 a5 a6 a7 a8 a9 a10 a11 := set_block h0 1 v1
  have h2 : Twelve (((w.setCell ⟨b, 0, none⟩ v0).setCell ⟨b, 1, none⟩ v1).setCell ⟨b, 2, none⟩ v2) b v0 v1 v2 a3 a4 a5 a6 a7 a8 a9 a10 a11 := set_block h1 2 v2
  have h3 : Twelve ((((w.setCell ⟨b, 0, none⟩ v0).setCell ⟨b, 1, none⟩ v1).setCell ⟨b, 2, none⟩ v2).setCell ⟨b, 3, none⟩ v3) b v0 v1 v2 v3 a4 a5 a6 a7 a8 a9 a10 a11 := set_block h2 3 v3
  have h4 : Twelve (((((w.setCell ⟨b, 0, none⟩ v0).setCell ⟨b, 1, none⟩ v1).setCell ⟨b, 2, none⟩ v2).setCell ⟨b, 3, none⟩ v3).setCell ⟨b, 4, none⟩ v4) b v0 v1 v2 v3 v4 a5 a6 a7 a8 a9 a10 a11 := set_block h3 4 v4
  have h5 : Twelve ((((((w.setCell ⟨b, 0, none⟩ v0).setCell ⟨b, 1, none⟩ v1).setCell ⟨b, 2, none⟩ v2).setCell ⟨b, 3, none⟩ v3).setCell ⟨b, 4, none⟩ v4).setCell ⟨b, 5, none⟩ v5) b v0 v1 v2 v3 v4 v5 a6 a7 a8 a9 a10 a11 := set_block h4 5 v5
  have h6 : Twelve (((((((w.setCell ⟨b, 0, none⟩ v0).setCell ⟨b, 1, none⟩ v1).setCell ⟨b, 2, none⟩ v2).setCell ⟨b, 3, none⟩ v3).setCell ⟨b, 4, none⟩ v4).setCell ⟨b, 5, none⟩ v5).setCell ⟨b, 6, none⟩ v6) b v0 v1 v2 v3 v4 v5 v6 a7 a8 a9 a10 a11 := set_block h5 6 v6
  have h7 : Twelve ((((((((w.setCell ⟨b, 0, none⟩ v0).setCell ⟨b, 1, none⟩ v1).setCell ⟨b, 2, none⟩ v2).setCell ⟨b, 3, none⟩ v3).setCell ⟨b, 4, none⟩ v4).setCell ⟨b, 5, none⟩ v5).setCell ⟨b, 6, none⟩ v6).setCell ⟨b, 7, none⟩ v7) b v0 v1 v2 v3 v4 v5 v6 v7 a8 a9 a10 a11 := set_block h6 7 v7
  have h8 : Twelve (((((((((w.setCell ⟨b, 0, none⟩ v0).setCell ⟨b, 1, none⟩ v1).setCell ⟨b, 2, none⟩ v2).setCell ⟨b, 3, none⟩ v3).setCell ⟨b, 4, none⟩ v4).setCell ⟨b, 5, none⟩ v5).setCell ⟨b, 6, none⟩ v6).setCell ⟨b, 7, none⟩ v7).setCell ⟨b, 8, none⟩ v8) b v0 v1 v2 v3 v4 v5 v6 v7 v8 a9 a10 a11 := set_block h7 8 v8
  have h9 : Twelve ((((((((((w.setCell ⟨b, 0, none⟩ v0).setCell ⟨b, 1, none⟩ v1).setCell ⟨b, 2, none⟩ v2).setCell ⟨b, 3, none⟩ v3).setCell ⟨b, 4, none⟩ v4).setCell ⟨b, 5, none⟩ v5).setCell ⟨b, 6, none⟩ v6).setCell ⟨b, 7, none⟩ v7).setCell ⟨b, 8, none⟩ v8).setCell ⟨b, 9, none⟩ v9) b v0 v1 v2 v3 v4 v5 v6 v7 v8 v9 a10 a11 := set_block h8 9 v9
  have h10 : Twelve (((((((((((w.setCell ⟨b, 0, none⟩ v0).setCell ⟨b, 1, none⟩ v1).setCell ⟨b, 2, none⟩ v2).setCell ⟨b, 3, none⟩ v3).setCell ⟨b, 4, none⟩ v4).setCell ⟨b, 5, none⟩ v5).setCell ⟨b, 6, none⟩ v6).setCell ⟨b, 7, none⟩ v7).setCell ⟨b, 8, none⟩ v8).setCell ⟨b, 9, none⟩ v9).setCell ⟨b, 10, none⟩ v10) b v0 v1 v2 v3 v4 v5 v6 v7 v8 v9 v10 a11 := set_block h9 10 v10
  have h11 : Twelve ((((((((((((w.setCell ⟨b, 0, none⟩ v0).setCell ⟨b, 1, none⟩ v1).setCell ⟨b, 2, none⟩ v2).setCell ⟨b, 3, none⟩ v3).setCell ⟨b, 4, none⟩ v4).setCell ⟨b, 5, none⟩ v5).setCell ⟨b, 6, none⟩ v6).setCell ⟨b, 7, none⟩ v7).setCell ⟨b, 8, none⟩ v8).setCell ⟨b, 9, none⟩ v9).setCell ⟨b, 10, none⟩ v10).setCell ⟨b, 11, none⟩ v11) b v0 v1 v2 v3 v4 v5 v6 v7 v8 v9 v10 v11 := set_block h10 11 v11
  exact h11
end
/-- The cells of a process, a list. -/
def prCellsL (p : Pr) (lv av tl tk kv : Value) : List Value := [.int .i64 p.k, .string p.c, .string p.x, lv, av, .int .i64 p.t.k, .int .i64 p.t.p, .string p.t.n, .int .i64 p.t.s, tl, tk, kv]
theorem setCells12 (w : World) (g o : Nat) (a b c d e f a' b' c' d' e' f' : Value) : w.setCells g o [a, b, c, d, e, f, a', b', c', d', e', f'] =
    (((((((((((w.setCell ⟨g, o, none⟩ a).setCell ⟨g, o + 1, none⟩ b).setCell ⟨g, o + 2, none⟩ c).setCell ⟨g, o + 3, none⟩ d).setCell ⟨g, o + 4, none⟩ e).setCell ⟨g, o + 5, none⟩ f).setCell ⟨g, o + 6, none⟩ a').setCell ⟨g, o + 7, none⟩ b').setCell ⟨g, o + 8, none⟩ c').setCell ⟨g, o + 9, none⟩ d').setCell ⟨g, o + 10, none⟩ e').setCell ⟨g, o + 11, none⟩ f' := rfl
theorem Twelve.new (w : World) (a0 a1 a2 a3 a4 a5 a6 a7 a8 a9 a10 a11 : Value) : Twelve (w.alloc (.cells #[a0, a1, a2, a3, a4, a5, a6, a7, a8, a9, a10, a11] 36)) w.heap.size a0 a1 a2 a3 a4 a5 a6 a7 a8 a9 a10 a11 := World.alloc_heap_new w _
/-- Stores into one block of the call's own leave what lies in others. -/
theorem keeps_setCells {F : Nat → Prop} {w : World} {c : Nat} (h : ∀ k, F k → k ≠ c) (vs : List Value) (o : Nat) : Keeps F w (w.setCells c o vs) := fun k _ hk ho _ => (heap_setCells_other (h k hk) _ _ _).trans ho

theorem PFilled.to {B : Nat → Prop} {g n k : Nat} {ps : List Pr} {w w' : World} (h : PFilled B g n ps k w) (hB : Low B w) (hb : Below w.heap.size w w') : PFilled B g n ps k w' := by
  obtain ⟨cs, hcs, hz⟩ := h.block
  have hg := (Array.getElem?_eq_some_iff.1 hcs).1
  refine ⟨⟨cs, (hb.block g hg).trans hcs, hz⟩, fun i t ht => ?_⟩
  obtain ⟨la, ln, lc, aa, an, ac, ta, tn, tc, ua, un, uc, ka, kn, kc, ⟨d0, d1, d2, d3, d4, d5, d6, d7, d8, d9, d10, d11⟩, hv⟩ := h.each i t ht
  have hc : ∀ (o : Nat) (v : Value), w.cell? ⟨g, o, none⟩ = some v → w'.cell? ⟨g, o, none⟩ = some v := fun o v hv => (hb.cell (p := ⟨g, o, none⟩) hg).trans hv
  refine ⟨la, ln, lc, aa, an, ac, ta, tn, tc, ua, un, uc, ka, kn, kc, ⟨hc _ _ d0, hc _ _ d1, hc _ _ d2, hc _ _ d3, hc _ _ d4, hc _ _ d5, hc _ _ d6, hc _ _ d7, hc _ _ d8, hc _ _ d9, hc _ _ d10, hc _ _ d11⟩, ?_⟩
  by_cases hi : i < k
  · rw [if_pos hi] at hv ⊢
    exact (hv.to (fun j hj => hj.2) hb).mono (Fresh.mono (Nat.le_refl _) hb.size)
  · rw [if_neg hi] at hv ⊢
    exact hv.to hB hb
theorem PFilled.store {B : Nat → Prop} {g n k : Nat} {ps : List Pr} {w : World} (h : PFilled B g n ps k w) (hn : n = ps.length) (hBg : ∀ j, B j → j ≠ g) {t : Pr} (ht : ps[k]? = some t) {la : Option Addr} {ln lc : Nat} {aa : Option Addr} {an ac : Nat} {ta : Option Addr} {tn tc : Nat} {ua : Option Addr} {un uc : Nat} {ka : Option Addr} {kn kc : Nat}
    (hv : PrVal (Fresh (g + 1) w.heap.size) w (prAgg t (.slice la ln lc) (.slice aa an ac) (.slice ta tn tc) (.slice ua un uc) (.slice ka kn kc)) t) :
    PFilled B g n ps (k + 1) (w.setCells g (k * 12) (prCellsL t (.slice la ln lc) (.slice aa an ac) (.slice ta tn tc) (.slice ua un uc) (.slice ka kn kc))) := by
  obtain ⟨cs, hcs, hz⟩ := h.block
  obtain ⟨cs', h1, h2⟩ := heap_setCells_same (prCellsL t (.slice la ln lc) (.slice aa an ac) (.slice ta tn tc) (.slice ua un uc) (.slice ka kn kc)) (k * 12) w cs _ hcs
  have hkl := (List.getElem?_eq_some_iff.1 ht).1
  have hkeep : ∀ F : Nat → Prop, (∀ j, F j → j ≠ g) → Keeps F w (w.setCells g (k * 12) (prCellsL t (.slice la ln lc) (.slice aa an ac) (.slice ta tn tc) (.slice ua un uc) (.slice ka kn kc))) := fun F hF => keeps_setCells hF _ _
  have hsz := size_setCells g (prCellsL t (.slice la ln lc) (.slice aa an ac) (.slice ta tn tc) (.slice ua un uc) (.slice ka kn kc)) (k * 12) w
  refine ⟨⟨cs', h1, by omega⟩, fun i u hu => ?_⟩
  have hil := (List.getElem?_eq_some_iff.1 hu).1
  by_cases e : i = k
  · subst e
    rw [ht] at hu; cases hu
    have hin := World.cell?_setCells_in g (prCellsL t (.slice la ln lc) (.slice aa an ac) (.slice ta tn tc) (.slice ua un uc) (.slice ka kn kc)) (i * 12) w (fun j hj => by
      obtain ⟨x, hx⟩ := cell_in hcs (j := i * 12 + j) (by simp [prCellsL] at hj; omega)
      rw [hx]; rfl)
    refine ⟨la, ln, lc, aa, an, ac, ta, tn, tc, ua, un, uc, ka, kn, kc, ⟨hin 0 (by simp [prCellsL]), hin 1 (by simp [prCellsL]), hin 2 (by simp [prCellsL]), hin 3 (by simp [prCellsL]), hin 4 (by simp [prCellsL]), hin 5 (by simp [prCellsL]), hin 6 (by simp [prCellsL]), hin 7 (by simp [prCellsL]), hin 8 (by simp [prCellsL]), hin 9 (by simp [prCellsL]), hin 10 (by simp [prCellsL]), hin 11 (by simp [prCellsL])⟩, ?_⟩
    rw [if_pos (by omega), hsz]
    exact hv.keep (hkeep _ (fun j hj => by have := hj.1; omega))
  · obtain ⟨la', ln', lc', aa', an', ac', ta', tn', tc', ua', un', uc', ka', kn', kc', ⟨d0, d1, d2, d3, d4, d5, d6, d7, d8, d9, d10, d11⟩, hu'⟩ := h.each i u hu
    have hout : ∀ j, j < 12 → (w.setCells g (k * 12) (prCellsL t (.slice la ln lc) (.slice aa an ac) (.slice ta tn tc) (.slice ua un uc) (.slice ka kn kc))).cell? ⟨g, i * 12 + j, none⟩ = w.cell? ⟨g, i * 12 + j, none⟩ := fun j hj =>
      World.cell?_setCells_out g _ _ _ _ (fun _ hq => by
        rcases Nat.lt_or_ge i k with hik | hik
        · exact .inl (by simp; omega)
        · exact .inr (by simp [prCellsL]; omega))
    refine ⟨la', ln', lc', aa', an', ac', ta', tn', tc', ua', un', uc', ka', kn', kc', ⟨(hout 0 (by omega)).trans d0, (hout 1 (by omega)).trans d1, (hout 2 (by omega)).trans d2, (hout 3 (by omega)).trans d3, (hout 4 (by omega)).trans d4, (hout 5 (by omega)).trans d5, (hout 6 (by omega)).trans d6, (hout 7 (by omega)).trans d7, (hout 8 (by omega)).trans d8, (hout 9 (by omega)).trans d9, (hout 10 (by omega)).trans d10, (hout 11 (by omega)).trans d11⟩, ?_⟩
    by_cases hi : i < k
    · rw [if_pos hi] at hu'
      rw [if_pos (by omega), hsz]
      exact hu'.keep (hkeep _ (fun j hj => by have := hj.1; omega))
    · rw [if_neg hi] at hu'
      rw [if_neg (by omega)]
      exact hu'.keep (hkeep _ hBg)

end Go.Proofs.YtliijbcgkkiekaaDoor

/- Processes: Copy, walked. -/
namespace Go.Proofs.YtliijbcgkkiekaaDoor
open Go.RowKit Go.Deep

theorem ty_slices {B : Nat → Prop} {w : World} {t : Ty} {k p s : Int} {n : ByteArray} {tl tk : Value} (h : TyVal B w (.agg #[.int .i64 k, .int .i64 p, .string n, .int .i64 s, tl, tk]) t) : (∃ (a : Option Addr) (n c : Nat), tl = .slice a n c) ∧ ∃ (a : Option Addr) (n c : Nat), tk = .slice a n c := by
  obtain ⟨lv', kv', e, _, hl, hk2⟩ := h
  simp only [Value.agg.injEq, Array.mk.injEq, List.cons.injEq, and_true] at e
  obtain ⟨_, _, _, _, rfl, rfl⟩ := e
  obtain ⟨a, n, c, e, _⟩ := hl.open
  obtain ⟨a', n', c', e', _⟩ := hk2.open
  exact ⟨⟨a, n, c, e⟩, a', n', c', e'⟩
abbrev zero12 : Obj := .cells #[.int .i64 0, .string ⟨#[]⟩, .string ⟨#[]⟩, .slice none 0 0, .slice none 0 0, .int .i64 0, .int .i64 0, .string ⟨#[]⟩, .int .i64 0, .slice none 0 0, .slice none 0 0, .slice none 0 0] 36

theorem PFilled.keep {B : Nat → Prop} {g n k : Nat} {ps : List Pr} {w w' : World} (h : PFilled B g n ps k w) (hg : w'.heap[g]? = w.heap[g]?) (hs : w.heap.size ≤ w'.heap.size) (hB : Keeps B w w') (hF : Keeps (Fresh (g + 1) w.heap.size) w w') : PFilled B g n ps k w' := by
  obtain ⟨cs, hcs, hz⟩ := h.block
  have hc : ∀ (o : Nat) (v : Value), w.cell? ⟨g, o, none⟩ = some v → w'.cell? ⟨g, o, none⟩ = some v := fun o v hv => by
    rw [← hv]; unfold World.cell?; simp only [hg]
  refine ⟨⟨cs, hg.trans hcs, hz⟩, fun i t ht => ?_⟩
  obtain ⟨la, ln, lc, aa, an, ac, ta, tn, tc, ua, un, uc, ka, kn, kc, ⟨d0, d1, d2, d3, d4, d5, d6, d7, d8, d9, d10, d11⟩, hv⟩ := h.each i t ht
  refine ⟨la, ln, lc, aa, an, ac, ta, tn, tc, ua, un, uc, ka, kn, kc, ⟨hc _ _ d0, hc _ _ d1, hc _ _ d2, hc _ _ d3, hc _ _ d4, hc _ _ d5, hc _ _ d6, hc _ _ d7, hc _ _ d8, hc _ _ d9, hc _ _ d10, hc _ _ d11⟩, ?_⟩
  by_cases hi : i < k
  · rw [if_pos hi] at hv ⊢
    exact (hv.keep hF).mono (Fresh.mono (Nat.le_refl _) hs)
  · rw [if_neg hi] at hv ⊢
    exact hv.keep hB
/-- What stands while the Kids are copied. -/
structure CpSt (w : World) (m : Nat) (p : Pr) (lv av tl tk kv : Value) (wr : World) : Prop where
  own : Twelve wr w.heap.size (.int .i64 p.k) (.string p.c) (.string p.x) lv av (.int .i64 p.t.k) (.int .i64 p.t.p) (.string p.t.n) (.int .i64 p.t.s) tl tk kv
  res : Twelve wr (w.heap.size + 1) (.int .i64 0) (.string ⟨#[]⟩) (.string ⟨#[]⟩) (.slice none 0 0) (.slice none 0 0) (.int .i64 0) (.int .i64 0) (.string ⟨#[]⟩) (.int .i64 0) (.slice none 0 0) (.slice none 0 0) (.slice none 0 0)
  strs : StrSl (Fresh (w.heap.size + 2) m) wr lv p.ls
  vals : VlSl (Fresh (w.heap.size + 2) m) wr av p.vs
  ty : TyVal (Fresh (w.heap.size + 2) m) wr (.agg #[.int .i64 p.t.k, .int .i64 p.t.p, .string p.t.n, .int .i64 p.t.s, tl, tk]) p.t
  below : Below w.heap.size w wr
  low : w.heap.size + 2 ≤ m ∧ m ≤ wr.heap.size
theorem CpSt.to {w : World} {m : Nat} {p : Pr} {lv av tl tk kv : Value} {wr W : World} (h : CpSt w m p lv av tl tk kv wr) (hb : Below wr.heap.size wr W) : CpSt w m p lv av tl tk kv W := by
  have hk : Keeps (Fresh (w.heap.size + 2) m) wr W := hb.keeps'.mono (fun k hk => by have := hk.2; have := h.low.2; omega)
  exact ⟨h.own.to hb, h.res.to hb, h.strs.keep hk, h.vals.keep hk, h.ty.keep hk, below_seq h.below hb, h.low.1, Nat.le_trans h.low.2 hb.size⟩
theorem CpSt.stores {w : World} {m : Nat} {p : Pr} {lv av tl tk kv : Value} {wr : World} (h : CpSt w m p lv av tl tk kv wr) {g : Nat} (hg : m ≤ g) (vs : List Value) (o : Nat) : CpSt w m p lv av tl tk kv (wr.setCells g o vs) := by
  have hk : Keeps (Fresh (w.heap.size + 2) m) wr (wr.setCells g o vs) := keeps_setCells (fun k hk => by have := hk.2; omega) _ _
  have := h.low.1
  exact ⟨h.own.others (by omega) _ _, h.res.others (by omega) _ _, h.strs.keep hk, h.vals.keep hk, h.ty.keep hk, h.below.trans (below_setCells g (by omega) _ _ _), h.low.1, by rw [size_setCells]; exact h.low.2⟩

set_option maxHeartbeats 4000000 in
set_option maxRecDepth 100000 in
theorem pcopy_step (B : Nat → Prop) (p : Pr) (hm : p.mod) (ih : ∀ u ∈ p.ps, ∀ (v : Value) (w : World), Low B w → PrVal B w v u → Calls Tryd.prog 41 #[v] w (PrRet w u)) (v : Value) (w : World) (hB : Low B w) (hv : PrVal B w v p) :
    Calls Tryd.prog 41 #[v] w (PrRet w p) := by
  obtain ⟨lv, av, tl, tk, kv, rfl, hn, hl, ha, ht, hk⟩ := hv
  obtain ⟨la, ln, lc, rfl, _⟩ := hl.open
  obtain ⟨aa, an, ac, rfl, _⟩ := ha.open
  obtain ⟨ka, kn, kc, rfl, _⟩ := hk.open
  obtain ⟨⟨ta, tn, tc, rfl⟩, ua, un, uc, rfl⟩ := ty_slices ht
  have hm' : p.ls.length ≤ 1048576 ∧ p.vs.length ≤ 1048576 ∧ p.ps.length ≤ 65536 ∧ p.t.mod := by
    cases p; simp only [Pr.mod] at hm; exact ⟨hm.1, hm.2.1, hm.2.2.1, hm.2.2.2.1⟩
  obtain ⟨hm1, hm2, hm3, hm4⟩ := hm'
  have t0 : Twelve ((w.alloc (cell12 p (.slice la ln lc) (.slice aa an ac) (.slice ta tn tc) (.slice ua un uc) (.slice ka kn kc))).alloc zero12) w.heap.size (.int .i64 p.k) (.string p.c) (.string p.x) (.slice la ln lc) (.slice aa an ac) (.int .i64 p.t.k) (.int .i64 p.t.p) (.string p.t.n) (.int .i64 p.t.s) (.slice ta tn tc) (.slice ua un uc) (.slice ka kn kc) := (Twelve.new w _ _ _ _ _ _ _ _ _ _ _ _).to (blkBelow _ _ _)
  have t1 : Twelve ((w.alloc (cell12 p (.slice la ln lc) (.slice aa an ac) (.slice ta tn tc) (.slice ua un uc) (.slice ka kn kc))).alloc zero12) (w.heap.size + 1) (.int .i64 0) (.string ⟨#[]⟩) (.string ⟨#[]⟩) (.slice none 0 0) (.slice none 0 0) (.int .i64 0) (.int .i64 0) (.string ⟨#[]⟩) (.int .i64 0) (.slice none 0 0) (.slice none 0 0) (.slice none 0 0) := by
    have := Twelve.new (w.alloc (cell12 p (.slice la ln lc) (.slice aa an ac) (.slice ta tn tc) (.slice ua un uc) (.slice ka kn kc))) (.int .i64 0) (.string ⟨#[]⟩) (.string ⟨#[]⟩) (.slice none 0 0) (.slice none 0 0) (.int .i64 0) (.int .i64 0) (.string ⟨#[]⟩) (.int .i64 0) (.slice none 0 0) (.slice none 0 0) (.slice none 0 0)
    rwa [World.size_alloc] at this
  have hb0 : Below w.heap.size w ((w.alloc (cell12 p (.slice la ln lc) (.slice aa an ac) (.slice ta tn tc) (.slice ua un uc) (.slice ka kn kc))).alloc zero12) := ((Below.refl _ _).alloc (Nat.le_refl _) _).alloc (by simp) _
  have hs2 : ((w.alloc (cell12 p (.slice la ln lc) (.slice aa an ac) (.slice ta tn tc) (.slice ua un uc) (.slice ka kn kc))).alloc zero12).heap.size = w.heap.size + 2 := by simp
  obtain ⟨w2, hw2⟩ : ∃ w2, (w.alloc (cell12 p (.slice la ln lc) (.slice aa an ac) (.slice ta tn tc) (.slice ua un uc) (.slice ka kn kc))).alloc zero12 = w2 := ⟨_, rfl⟩
  rw [hw2] at t0 t1 hb0 hs2
  simp only [cell12, zero12] at hw2
  have HW2 := Lib.hid hw2
  have HIH := Lib.hid ih
  have HL := Lib.hid hl
  have HA := Lib.hid ha
  have HT := Lib.hid ht
  have HK := Lib.hid hk
  have HNS := Lib.hid hn
  obtain ⟨ps, hps⟩ : ∃ ps, p.ps = ps := ⟨_, rfl⟩
  rw [hps] at HK HIH hm3
  clear hl ha ht hk ih hm hw2 hn
  unfold prAgg
  go_enter Tryd.func41, Tryd.ntmps41
  go_wp2_with fail
  rw [HW2.out]
  -- the labels
  refine (strClone_any B _ p.ls hm1 w2 (HL.out.keep (hb0.keeps'.mono hB))).mono ?_
  rintro e w3 ⟨la', ln', lc', rfl, hs3, hb3⟩
  have T0 := Lib.hid ((t0.to hb3).set3 (.slice la' ln' lc'))
  have T1 := Lib.hid ((t1.to hb3).other (c := w.heap.size) (o := 3) (by omega) (.slice la' ln' lc'))
  have hz3 := hb3.size
  obtain ⟨⟨c0, c1, c2, c3, c4, c5, c6, c7, c8, c9, c10, c11⟩, hf⟩ := (t0.to hb3).cells
  have hab3 : Above (w.heap.size + 2) w3 (w3.setCell ⟨w.heap.size, 3, none⟩ (.slice la' ln' lc')) := (Above.refl _ _).set (by omega) _
  have HB3 := Lib.hid ((below_seq hb0 hb3).setCell (p := ⟨w.heap.size, 3, none⟩) (Nat.le_refl _) (.slice la' ln' lc'))
  have HS3 := Lib.hid ((hs3.mono (Fresh.mono (c := w.heap.size + 2) (d := w3.heap.size) (by omega) (Nat.le_refl _))).keep hab3.keeps)
  have hq3 : (w3.setCell ⟨w.heap.size, 3, none⟩ (.slice la' ln' lc')).heap.size = w3.heap.size := by simp
  clear hs3 hb3 t0 t1 hb0 hab3 HL
  go_wp2_with fail
  obtain ⟨w4, hw4⟩ : ∃ w4, w3.setCell ⟨w.heap.size, 3, none⟩ (.slice la' ln' lc') = w4 := ⟨_, rfl⟩
  rw [hw4] at T0 T1 HB3 HS3 hq3 ⊢
  clear hw4 c0 c1 c2 c3 c4 c5 c6 c7 c8 c9 c10 c11 hf
  -- the values
  refine (vlClone_any B _ p.vs hm2 w4 (HA.out.keep (HB3.out.keeps'.mono hB))).mono ?_
  rintro e w5 ⟨aa', an', ac', rfl, ha5, hb5⟩
  have T2 := Lib.hid ((T0.out.to hb5).set4 (.slice aa' an' ac'))
  have T3 := Lib.hid ((T1.out.to hb5).other (c := w.heap.size) (o := 4) (by omega) (.slice aa' an' ac'))
  have hz5 := hb5.size
  obtain ⟨⟨c0, c1, c2, c3, c4, c5, c6, c7, c8, c9, c10, c11⟩, hf⟩ := (T0.out.to hb5).cells
  have hab5 : Above (w.heap.size + 2) w5 (w5.setCell ⟨w.heap.size, 4, none⟩ (.slice aa' an' ac')) := (Above.refl _ _).set (by omega) _
  have HB5 := Lib.hid ((below_seq HB3.out hb5).setCell (p := ⟨w.heap.size, 4, none⟩) (Nat.le_refl _) (.slice aa' an' ac'))
  have HS5 := Lib.hid ((((HS3.out.keep (hb5.keeps'.mono (fun k hk => by have := hk.2; omega)))).mono (Fresh.mono (c := w.heap.size + 2) (d := w5.heap.size) (Nat.le_refl _) (by omega))).keep hab5.keeps)
  have HA5 := Lib.hid ((ha5.mono (Fresh.mono (c := w.heap.size + 2) (d := w5.heap.size) (by omega) (Nat.le_refl _))).keep hab5.keeps)
  have hq5 : (w5.setCell ⟨w.heap.size, 4, none⟩ (.slice aa' an' ac')).heap.size = w5.heap.size := by simp
  clear ha5 hb5 T0 T1 HB3 HS3 hab5 HA
  go_wp2_with fail
  obtain ⟨w6, hw6⟩ : ∃ w6, w5.setCell ⟨w.heap.size, 4, none⟩ (.slice aa' an' ac') = w6 := ⟨_, rfl⟩
  rw [hw6] at T2 T3 HB5 HS5 HA5 hq5 ⊢
  clear hw6 c0 c1 c2 c3 c4 c5 c6 c7 c8 c9 c10 c11 hf
  -- the type
  refine (copy_any B p.t hm4 _ w6 (hB.le HB5.out.size) (HT.out.keep (HB5.out.keeps'.mono hB))).mono ?_
  rintro e w7 ⟨ta', tn', tc', ua', un', uc', rfl, ht7, hb7⟩
  have T4 := Lib.hid ((T2.out.to hb7).setT (.int .i64 p.t.k) (.int .i64 p.t.p) (.string p.t.n) (.int .i64 p.t.s) (.slice ta' tn' tc') (.slice ua' un' uc'))
  have T5 := Lib.hid ((T3.out.to hb7).others (c := w.heap.size) (by omega) [.int .i64 p.t.k, .int .i64 p.t.p, .string p.t.n, .int .i64 p.t.s, .slice ta' tn' tc', .slice ua' un' uc'] 5)
  have hz7 := hb7.size
  obtain ⟨⟨c0, c1, c2, c3, c4, c5, c6, c7, c8, c9, c10, c11⟩, hf⟩ := (T2.out.to hb7).cells
  have hkp7 : Keeps (Fresh (w.heap.size + 2) w7.heap.size) w7 (w7.setCells w.heap.size 5 [.int .i64 p.t.k, .int .i64 p.t.p, .string p.t.n, .int .i64 p.t.s, .slice ta' tn' tc', .slice ua' un' uc']) := keeps_setCells (fun k hk => by have := hk.1; omega) _ _
  have HB7 := Lib.hid ((below_seq HB5.out hb7).trans (below_setCells w.heap.size (Nat.le_refl _) [.int .i64 p.t.k, .int .i64 p.t.p, .string p.t.n, .int .i64 p.t.s, .slice ta' tn' tc', .slice ua' un' uc'] 5 w7))
  have HS7 := Lib.hid ((((HS5.out.keep (hb7.keeps'.mono (fun k hk => by have := hk.2; omega)))).mono (Fresh.mono (c := w.heap.size + 2) (d := w7.heap.size) (Nat.le_refl _) (by omega))).keep hkp7)
  have HA7 := Lib.hid ((((HA5.out.keep (hb7.keeps'.mono (fun k hk => by have := hk.2; omega)))).mono (Fresh.mono (c := w.heap.size + 2) (d := w7.heap.size) (Nat.le_refl _) (by omega))).keep hkp7)
  have HT7 := Lib.hid ((ht7.mono (Fresh.mono (c := w.heap.size + 2) (d := w7.heap.size) (by omega) (Nat.le_refl _))).keep hkp7)
  have hq7 := size_setCells w.heap.size [.int .i64 p.t.k, .int .i64 p.t.p, .string p.t.n, .int .i64 p.t.s, .slice ta' tn' tc', .slice ua' un' uc'] 5 w7
  rw [setCells6] at T4 T5 HB7 HS7 HA7 HT7 hq7
  clear ht7 hb7 T2 T3 HB5 HS5 HA5 HT hkp7
  go_wp2_with fail
  obtain ⟨w8, hw8⟩ : ∃ w8, (((((w7.setCell ⟨w.heap.size, 5, none⟩ (.int .i64 p.t.k)).setCell ⟨w.heap.size, 5 + 1, none⟩ (.int .i64 p.t.p)).setCell ⟨w.heap.size, 5 + 2, none⟩ (.string p.t.n)).setCell ⟨w.heap.size, 5 + 3, none⟩ (.int .i64 p.t.s)).setCell ⟨w.heap.size, 5 + 4, none⟩ (.slice ta' tn' tc')).setCell ⟨w.heap.size, 5 + 5, none⟩ (.slice ua' un' uc') = w8 := ⟨_, rfl⟩
  rw [hw8] at T4 T5 HB7 HS7 HA7 HT7 hq7
  simp only [Nat.reduceAdd] at hw8
  rw [hw8]
  clear hw8 c0 c1 c2 c3 c4 c5 c6 c7 c8 c9 c10 c11 hf
  -- the Kids
  refine (prClone_any B _ ps hm3 w8 (hB.le HB7.out.size) (HK.out.keep (HB7.out.keeps'.mono hB))).mono ?_
  rintro e w9 ⟨hrow, hb9⟩
  have hrow' : ∃ ga cap, e = .returned (.slice ga ps.length cap) ∧ ((ps = [] ∧ True) ∨ ∃ g, ga = some ⟨g, 0, none⟩ ∧ w8.heap.size ≤ g ∧ g < w9.heap.size ∧ PFilled B g ps.length ps 0 w9) := by
    rcases hrow with ⟨a, c, rfl, rfl⟩ | ⟨g, cap, rfl, h1, h2, h3⟩
    · exact ⟨a, c, rfl, .inl ⟨rfl, trivial⟩⟩
    · exact ⟨_, cap, rfl, .inr ⟨g, rfl, h1, h2, h3⟩⟩
  clear hrow
  obtain ⟨ga, cap, rfl, hrow⟩ := hrow'
  obtain ⟨n, hnn⟩ : ∃ n, n = ps.length := ⟨_, rfl⟩
  rw [← hnn] at hrow hm3 ⊢
  have hz9 := hb9.size
  have S9 : CpSt w w8.heap.size p (.slice la' ln' lc') (.slice aa' an' ac') (.slice ta' tn' tc') (.slice ua' un' uc') (.slice ka kn kc) w8 := ⟨T4.out, T5.out, by rw [hq7]; exact HS7.out, by rw [hq7]; exact HA7.out, by rw [hq7]; exact HT7.out, HB7.out, by omega, Nat.le_refl _⟩
  have S10 := S9.to hb9
  have S11 : CpSt w w8.heap.size p (.slice la' ln' lc') (.slice aa' an' ac') (.slice ta' tn' tc') (.slice ua' un' uc') (.slice ga n cap) (w9.setCell ⟨w.heap.size, 11, none⟩ (.slice ga n cap)) := by
    have hk : Keeps (Fresh (w.heap.size + 2) w8.heap.size) w9 (w9.setCells w.heap.size 11 [.slice ga n cap]) := keeps_setCells (fun k hk => by have := hk.1; omega) _ _
    exact ⟨S10.own.set11 _, S10.res.other (by omega) _, S10.strs.keep hk, S10.vals.keep hk, S10.ty.keep hk, S10.below.setCell (p := ⟨w.heap.size, 11, none⟩) (Nat.le_refl _) _, S10.low.1, by simp; omega⟩
  have hrow2 : (ps = [] ∧ True) ∨ ∃ g, ga = some ⟨g, 0, none⟩ ∧ w8.heap.size ≤ g ∧ g < w9.heap.size ∧ PFilled B g n ps 0 (w9.setCell ⟨w.heap.size, 11, none⟩ (.slice ga n cap)) := by
    rcases hrow with h | ⟨g, h1, h2, h3, h4⟩
    · exact .inl h
    · refine .inr ⟨g, h1, h2, h3, h4.keep (Below.heap_setCell _ _ _ g (by simp; omega)) (by simp) ?_ ?_⟩
      · exact keeps_setCells (c := w.heap.size) (fun k hk => by have := hB k hk; omega) [.slice ga n cap] 11
      · exact keeps_setCells (c := w.heap.size) (fun k hk => by have := hk.1; omega) [.slice ga n cap] 11
  have HS := Lib.hid S11
  have HROW := Lib.hid hrow2
  have HN := Lib.hid hnn
  obtain ⟨⟨c0, c1, c2, c3, c4, c5, c6, c7, c8, c9, c10, c11⟩, hf⟩ := S10.own.cells
  clear S9 S10 S11 hrow2 hrow T4 T5 HB7 HS7 HA7 HT7 hb9 hnn HK
  go_wp2_with fail
  obtain ⟨w10, hw10⟩ : ∃ w10, w9.setCell ⟨w.heap.size, 11, none⟩ (.slice ga n cap) = w10 := ⟨_, rfl⟩
  have hz10 : w9.heap.size = w10.heap.size := by rw [← hw10]; simp
  rw [hw10] at HS HROW ⊢
  clear hw10 c0 c1 c2 c3 c4 c5 c6 c7 c8 c9 c10 c11 hf
  obtain ⟨m, hmm⟩ : ∃ m, w8.heap.size = m := ⟨_, rfl⟩
  rw [hmm] at HS HROW hz9
  go_loopw [24] (fun i wr => ∃ k : Nat, i = .int .i64 (k : Int) ∧ k ≤ n ∧ Hid (CpSt w m p (.slice la' ln' lc') (.slice aa' an' ac') (.slice ta' tn' tc') (.slice ua' un' uc') (.slice ga n cap) wr) ∧ Hid ((ps = [] ∧ True) ∨ ∃ g, ga = some ⟨g, 0, none⟩ ∧ m ≤ g ∧ g < wr.heap.size ∧ PFilled B g n ps k wr)) (fun i _ => n - (intOf i).toNat)
  case atStart => exact ⟨0, rfl, by omega, HS, Lib.hid (by rw [← hz10]; exact HROW.out)⟩
  case round =>
    clear HROW HS
    obtain ⟨k, rfl, hk, HS, HROW⟩ := hrel
    by_cases hlt : k < n
    · obtain ⟨t, htk⟩ : ∃ t, ps[k]? = some t := ⟨_, List.getElem?_eq_getElem (by rw [← HN.out]; exact hlt)⟩
      obtain ⟨g, hga, hgm, hgl, hpf⟩ : ∃ g, ga = some ⟨g, 0, none⟩ ∧ m ≤ g ∧ g < wr.heap.size ∧ PFilled B g n ps k wr := by
        rcases HROW.out with ⟨h, _⟩ | h
        · rw [h] at htk; cases htk
        · exact h
      subst hga
      obtain ⟨la2, ln2, lc2, aa2, an2, ac2, ta2, tn2, tc2, ua2, un2, uc2, ka2, kn2, kc2, ⟨d0, d1, d2, d3, d4, d5, d6, d7, d8, d9, d10, d11⟩, hval⟩ := hpf.each k t htk
      rw [if_neg (by omega)] at hval
      have hBr : Low B wr := hB.le HS.out.below.size
      have hbx := (blkBelow wr #[.int .i64 t.k, .string t.c, .string t.x, .slice la2 ln2 lc2, .slice aa2 an2 ac2, .int .i64 t.t.k, .int .i64 t.t.p, .string t.t.n, .int .i64 t.t.s, .slice ta2 tn2 tc2, .slice ua2 un2 uc2, .slice ka2 kn2 kc2] 36).drew
      have IH := Lib.hid (HIH.out t (List.mem_of_getElem? htk) _ _ (hBr.le hbx.size) (hval.to hBr hbx))
      have HPF := Lib.hid (hpf.to hBr hbx)
      have HS2 := Lib.hid (HS.out.to hbx)
      have HTK := Lib.hid htk
      have hblw := HS.out.below.size
      have hlow := HS.out.low
      have hlw0 : w.heap.size < wr.heap.size := by omega
      have hsz12 : ((wr.alloc (.cells #[.int .i64 t.k, .string t.c, .string t.x, .slice la2 ln2 lc2, .slice aa2 an2 ac2, .int .i64 t.t.k, .int .i64 t.t.p, .string t.t.n, .int .i64 t.t.s, .slice ta2 tn2 tc2, .slice ua2 un2 uc2, .slice ka2 kn2 kc2] 36)).drew).heap.size = wr.heap.size + 1 := by simp
      have c11 := HS.out.own.cells.1.2.2.2.2.2.2.2.2.2.2.2
      unfold prAgg at IH
      clear hpf hval hbx htk
      go_wp2_with fail
      go_region_with (go_at_call 41; refine IH.out.mono ?_; rintro e w11 ⟨la3, ln3, lc3, aa3, an3, ac3, ta3, tn3, tc3, ua3, un3, uc3, ka3, kn3, kc3, rfl, hv11, hb11⟩; have hpf := HPF.out.to (hBr.le (by rw [hsz12]; omega)) hb11; obtain ⟨cs, hcs, hcz⟩ := hpf.block; have hfz := frozen_of_block hcs; obtain ⟨x0, y0⟩ := cell_in hcs (j := k * 12) (by omega); obtain ⟨x1, y1⟩ := cell_in hcs (j := k * 12 + 1) (by omega); obtain ⟨x2, y2⟩ := cell_in hcs (j := k * 12 + 2) (by omega); obtain ⟨x3, y3⟩ := cell_in hcs (j := k * 12 + 3) (by omega); obtain ⟨x4, y4⟩ := cell_in hcs (j := k * 12 + 4) (by omega); obtain ⟨x5, y5⟩ := cell_in hcs (j := k * 12 + 5) (by omega); obtain ⟨x6, y6⟩ := cell_in hcs (j := k * 12 + 6) (by omega); obtain ⟨x7, y7⟩ := cell_in hcs (j := k * 12 + 7) (by omega); obtain ⟨x8, y8⟩ := cell_in hcs (j := k * 12 + 8) (by omega); obtain ⟨x9, y9⟩ := cell_in hcs (j := k * 12 + 9) (by omega); obtain ⟨x10, y10⟩ := cell_in hcs (j := k * 12 + 10) (by omega); obtain ⟨x11, y11⟩ := cell_in hcs (j := k * 12 + 11) (by omega); have z11 := (HS2.out.to hb11).own.cells.1.2.2.2.2.2.2.2.2.2.2.2; replace hcs := Lib.hid hcs)
      all_goals
        go_wp2_with fail
        have hs12 := hb11.size
        have hst := hpf.store HN.out (fun j hj => by have := hB j hj; omega) HTK.out (hv11.mono (Fresh.mono (c := g + 1) (d := w11.heap.size) (by rw [hsz12]; omega) (Nat.le_refl _)))
        have hss := (HS2.out.to hb11).stores hgm (prCellsL t (.slice la3 ln3 lc3) (.slice aa3 an3 ac3) (.slice ta3 tn3 tc3) (.slice ua3 un3 uc3) (.slice ka3 kn3 kc3)) (k * 12)
        have hgl2 : g < (w11.setCells g (k * 12) (prCellsL t (.slice la3 ln3 lc3) (.slice aa3 an3 ac3) (.slice ta3 tn3 tc3) (.slice ua3 un3 uc3) (.slice ka3 kn3 kc3))).heap.size := by rw [size_setCells]; omega
        unfold prCellsL at hst hss hgl2
        rw [setCells12] at hst hss hgl2
        go_roundw
        case rel => exact ⟨k + 1, by go_num, by omega, Lib.hid hss, Lib.hid (.inr ⟨g, rfl, hgm, hgl2, hst⟩)⟩
        case measure => simp [intOf]; omega
    · obtain rfl : k = n := by omega
      obtain ⟨⟨c0, c1, c2, c3, c4, c5, c6, c7, c8, c9, c10, c11⟩, hf⟩ := HS.out.own.cells
      obtain ⟨⟨e0, e1, e2, e3, e4, e5, e6, e7, e8, e9, e10, e11⟩, hf1⟩ := HS.out.res.cells
      have hlow := HS.out.low
      have hbl := HS.out.below
      have hfill := HS.out.res.fill (.int .i64 p.k) (.string p.c) (.string p.x) (.slice la' ln' lc') (.slice aa' an' ac') (.int .i64 p.t.k) (.int .i64 p.t.p) (.string p.t.n) (.int .i64 p.t.s) (.slice ta' tn' tc') (.slice ua' un' uc') (.slice ga k cap)
      have hkp : ∀ F : Nat → Prop, (∀ j, F j → j ≠ w.heap.size + 1) → Keeps F wr (wr.setCells (w.heap.size + 1) 0 [.int .i64 p.k, .string p.c, .string p.x, .slice la' ln' lc', .slice aa' an' ac', .int .i64 p.t.k, .int .i64 p.t.p, .string p.t.n, .int .i64 p.t.s, .slice ta' tn' tc', .slice ua' un' uc', .slice ga k cap]) := fun F hF => keeps_setCells hF _ _
      have hbb := hbl.trans (below_setCells (w.heap.size + 1) (by omega) [.int .i64 p.k, .string p.c, .string p.x, .slice la' ln' lc', .slice aa' an' ac', .int .i64 p.t.k, .int .i64 p.t.p, .string p.t.n, .int .i64 p.t.s, .slice ta' tn' tc', .slice ua' un' uc', .slice ga k cap] 0 wr)
      have hsz := size_setCells (w.heap.size + 1) [.int .i64 p.k, .string p.c, .string p.x, .slice la' ln' lc', .slice aa' an' ac', .int .i64 p.t.k, .int .i64 p.t.p, .string p.t.n, .int .i64 p.t.s, .slice ta' tn' tc', .slice ua' un' uc', .slice ga k cap] 0 wr
      have hgo : ∀ g, w.heap.size + 1 ≠ g → (wr.setCells (w.heap.size + 1) 0 [.int .i64 p.k, .string p.c, .string p.x, .slice la' ln' lc', .slice aa' an' ac', .int .i64 p.t.k, .int .i64 p.t.p, .string p.t.n, .int .i64 p.t.s, .slice ta' tn' tc', .slice ua' un' uc', .slice ga k cap]).heap[g]? = wr.heap[g]? := fun g hg => heap_setCells_other (fun e => hg e.symm) _ _ _
      rw [setCells12] at hfill hkp hbb hsz hgo
      simp only [Nat.zero_add] at hfill hkp hbb hsz hgo
      have HFI := Lib.hid hfill
      have HKP := Lib.hid hkp
      have HBB := Lib.hid hbb
      have HSZ := Lib.hid hsz
      have HGO := Lib.hid hgo
      clear hfill hkp hbb hsz hgo
      go_wp2_with fail
      obtain ⟨w12, hw12⟩ : ∃ x, ((((((((((((wr.setCell ⟨w.heap.size + 1, 0, none⟩ (.int .i64 p.k)).setCell ⟨w.heap.size + 1, 1, none⟩ (.string p.c)).setCell ⟨w.heap.size + 1, 2, none⟩ (.string p.x)).setCell ⟨w.heap.size + 1, 3, none⟩ (.slice la' ln' lc')).setCell ⟨w.heap.size + 1, 4, none⟩ (.slice aa' an' ac')).setCell ⟨w.heap.size + 1, 5, none⟩ (.int .i64 p.t.k)).setCell ⟨w.heap.size + 1, 6, none⟩ (.int .i64 p.t.p)).setCell ⟨w.heap.size + 1, 7, none⟩ (.string p.t.n)).setCell ⟨w.heap.size + 1, 8, none⟩ (.int .i64 p.t.s)).setCell ⟨w.heap.size + 1, 9, none⟩ (.slice ta' tn' tc')).setCell ⟨w.heap.size + 1, 10, none⟩ (.slice ua' un' uc')).setCell ⟨w.heap.size + 1, 11, none⟩ (.slice ga k cap)) = x := ⟨_, rfl⟩
      rw [hw12] at HFI HKP HBB HSZ HGO ⊢
      clear hw12 c0 c1 c2 c3 c4 c5 c6 c7 c8 c9 c10 c11 hf e0 e1 e2 e3 e4 e5 e6 e7 e8 e9 e10 e11 hf1
      obtain ⟨⟨f0, f1, f2, f3, f4, f5, f6, f7, f8, f9, f10, f11⟩, hf2⟩ := HFI.out.cells
      have hF := HKP.out (Fresh (w.heap.size + 2) m) (fun j hj => by have := hj.1; omega)
      have hFm : ∀ j, Fresh (w.heap.size + 2) m j → Fresh w.heap.size w12.heap.size j := Fresh.mono (by omega) (by rw [HSZ.out]; omega)
      have hpr : PrVal (Fresh w.heap.size w12.heap.size) w12 (prAgg p (.slice la' ln' lc') (.slice aa' an' ac') (.slice ta' tn' tc') (.slice ua' un' uc') (.slice ga k cap)) p := by
        refine ⟨_, _, _, _, _, rfl, HNS.out, (HS.out.strs.keep hF).mono hFm, (HS.out.vals.keep hF).mono hFm, (HS.out.ty.keep hF).mono hFm, ?_, by rw [hps, ← HN.out]; unfold maxLen; omega⟩
        rw [hps]
        rcases HROW.out with ⟨h, _⟩ | ⟨g, h, hgm, hgl, hpf⟩
        · left
          have hk0 : k = 0 := by rw [HN.out, h]; rfl
          exact ⟨⟨ga, cap, by rw [hk0]⟩, h⟩
        · right
          refine ⟨g, 0, cap, by rw [h, ← HN.out], ⟨by omega, by rw [HSZ.out]; exact hgl⟩, prsAt_of (fun i t hi => ?_)⟩
          have hik : i < k := by rw [HN.out]; exact (List.getElem?_eq_some_iff.1 hi).1
          obtain ⟨la2, ln2, lc2, aa2, an2, ac2, ta2, tn2, tc2, ua2, un2, uc2, ka2, kn2, kc2, ⟨d0, d1, d2, d3, d4, d5, d6, d7, d8, d9, d10, d11⟩, hval⟩ := hpf.each i t hi
          rw [if_pos hik] at hval
          have hc : ∀ (o : Nat) (v : Value), wr.cell? ⟨g, o, none⟩ = some v → w12.cell? ⟨g, o, none⟩ = some v := fun o v hv => by
            rw [← hv]; unfold World.cell?; simp only [HGO.out g (by omega)]
          rw [Nat.zero_add]
          exact prAt_of ⟨by omega, by rw [HSZ.out]; exact hgl⟩ (hc _ _ d0) (hc _ _ d1) (hc _ _ d2) (hc _ _ d3) (hc _ _ d4) (hc _ _ d5) (hc _ _ d6) (hc _ _ d7) (hc _ _ d8) (hc _ _ d9) (hc _ _ d10) (hc _ _ d11)
            ((hval.keep (HKP.out _ (fun j hj => by have := hj.1; omega))).mono (Fresh.mono (by omega) (by rw [HSZ.out]; exact Nat.le_refl _)))
      exact bodyPost_ret (v := (.agg #[.int .i64 p.k, .string p.c, .string p.x, .slice la' ln' lc', .slice aa' an' ac', .int .i64 p.t.k, .int .i64 p.t.p, .string p.t.n, .int .i64 p.t.s, .slice ta' tn' tc', .slice ua' un' uc', .slice ga k cap])) (by simp [results, Tryd.results41, go_sem, f0, f1, f2, f3, f4, f5, f6, f7, f8, f9, f10, f11]) rfl ⟨_, _, _, _, _, _, _, _, _, _, _, _, _, _, _, rfl, hpr, HBB.out⟩

theorem pcopy_any (B : Nat → Prop) : ∀ p : Pr, p.mod → ∀ (v : Value) (w : World), Low B w → PrVal B w v p → Calls Tryd.prog 41 #[v] w (PrRet w p) := by
  refine Pr.ind ?_
  intro k c x ls vs t ps ih hm v w hB hv
  have hm' := hm
  simp only [Pr.mod] at hm'
  exact pcopy_step B _ hm (fun u hu => ih u hu (Pr.mods_mem hm'.2.2.2.2 u hu)) v w hB hv

end Go.Proofs.YtliijbcgkkiekaaDoor
