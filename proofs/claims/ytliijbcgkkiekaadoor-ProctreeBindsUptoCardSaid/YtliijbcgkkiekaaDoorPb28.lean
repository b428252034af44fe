/- Processes: the law's fixed processes, and what they are. (and what follows from it) -/
import Derived.Test.YtliijbcgkkiekaaDoorPb26
import Derived.Test.YtliijbcgkkiekaaDoorPb27
import Derived.Test.YtliijbcgkkiekaaDoorPb19

/- Processes: the law's fixed processes, and what they are. -/
namespace Go.Proofs.YtliijbcgkkiekaaDoor
open Go.RowKit Go.Deep Go.Shelf

abbrev bA : ByteArray := ⟨#[97]⟩
abbrev bB : ByteArray := ⟨#[98]⟩
abbrev bC : ByteArray := ⟨#[99]⟩
abbrev bD : ByteArray := ⟨#[100]⟩
def p1 : Pr := .mk 1 e0 e0 [] [] (leafT 0) []
def p2 : Pr := .mk 2 bC e0 [] [⟨1, bA, 0⟩] (leafT 0) [p1]
def p3 : Pr := .mk 6 bC bD [] [] (leafT 3) [p2]
def p4 : Pr := .mk 2 bA e0 [] [⟨1, bB, 0⟩] (leafT 0) [p3]
def pz : Pr := .mk 0 e0 e0 [] [] (leafT 0) []
def g4 : Pg := ⟨[], p4⟩
theorem size_p4 : p4.size = 4 := by rfl
theorem depth_p4 : p4.depth = 4 := by rfl
theorem p4_ne_p3 : p4 ≠ p3 := by intro h; have := congrArg Pr.k h; simp [p4, p3, Pr.k] at this
theorem leaf_few (k : Int) : (leafT k).few 300 = true := by
  have h0 : (leafT 0).few 300 = true := by decide +kernel
  exact h0
theorem good_pz : PGood pz := by
  refine ⟨?_, ?_⟩
  · simp [pz, leafT, Pr.fine, Pr.fines, Ty.fine, Ty.fines, In64]
  · simp [pz, Pr.tf, Pr.tfs, leaf_few]
theorem good_p4 : PGood p4 := by
  refine ⟨?_, ?_⟩
  · simp [p4, p3, p2, p1, leafT, Pr.fine, Pr.fines, Ty.fine, Ty.fines, In64]
  · simp [p4, p3, p2, p1, Pr.tf, Pr.tfs, leaf_few]
theorem mod_p4 : p4.mod := by simp [p4, p3, p2, p1, leafT, Pr.mod, Pr.mods, Ty.mod, Ty.mods, okI]
theorem nms_p4 : p4.nms ≤ 1000000000 := by decide
theorem ggood_g4 : GGood g4 := by
  refine ⟨by simp [g4], by simp [g4], fun p hp => ?_⟩
  have : p = p4 := by simpa [g4, Pg.bodies] using hp
  subst this
  exact ⟨good_p4, by decide, by decide⟩
theorem total_g4 : g4.total = 5 := by rw [Pg.total_eq]; rfl
theorem right_pz : prightE pz = 3 := by decide +kernel
theorem r4_leaf (k : Int) (c x : ByteArray) (ls : List ByteArray) (vs : List Vl) (ps : List Pr) (hk : k ≠ 6) : (Pr.mk k c x ls vs (leafT 0) ps).r4 = true := by
  unfold Pr.r4
  show (if k = 6 then _ else eqB (leafT 0) default) = true
  rw [if_neg hk]; exact eqB_self _
theorem ok_p1 : p1.okN = true := by
  have h : p1.r4 = true := r4_leaf _ _ _ _ _ _ (by decide)
  unfold Pr.okN Pr.shp; rw [h]; decide +kernel
theorem ok_p2 : p2.okN = true := by
  have h : p2.r4 = true := r4_leaf _ _ _ _ _ _ (by decide)
  unfold Pr.okN Pr.shp; rw [h]; decide +kernel
theorem ok_p3 : p3.okN = true := by decide +kernel
theorem ok_p4 : p4.okN = true := by
  have h : p4.r4 = true := r4_leaf _ _ _ _ _ _ (by decide)
  unfold Pr.okN Pr.shp; rw [h]; decide +kernel
theorem right_p4 : prightE p4 = 0 := by
  have h : preP 1 p4 = [(1, p4), (2, p3), (3, p2), (4, p1)] := by rfl
  have hl : p4.large = false := by decide +kernel
  unfold prightE
  rw [h, hl]
  simp [allN, ok_p1, ok_p2, ok_p3, ok_p4]
theorem free_p4 : p4.free = [bA, bB] := by decide +kernel
theorem prog_g4 : pprogE g4 = 0 := by
  have hm : g4.many = false := by unfold Pg.many; rw [total_g4]; rfl
  have hb : g4.bodies = [p4] := by rfl
  unfold pprogE
  rw [hm, hb]
  simp [firstR, right_p4, g4]

theorem nil_vls (B : Nat → Prop) (w : World) : VlSl B w (.slice none 0 0) [] := ⟨.inl ⟨⟨_, _, rfl⟩, rfl⟩, by simp [maxLen], fun s h => by cases h⟩
theorem nil_prs (B : Nat → Prop) (w : World) : PrSl B w (.slice none 0 0) [] := ⟨.inl ⟨⟨_, _, rfl⟩, rfl⟩, by simp [maxLen]⟩
theorem nil_dfs (B : Nat → Prop) (w : World) : DfSl B w (.slice none 0 0) [] := ⟨.inl ⟨⟨_, _, rfl⟩, rfl⟩, by simp [maxLen]⟩
/-- One process in a block of its own. -/
theorem prs_one {B : Nat → Prop} {W : World} {b : Nat} {p : Pr} {lv av tl tk kv : Value} (hb : B b) (hh : W.heap[b]? = some (cell12 p lv av tl tk kv)) (hv : PrVal B W (prAgg p lv av tl tk kv) p) : PrSl B W (.slice (some ⟨b, 0, none⟩) 1 1) [p] := by
  refine ⟨.inr ⟨b, 0, 1, rfl, hb, ?_⟩, by simp [maxLen]⟩
  show PrAt B W p b 0 ∧ True
  exact ⟨prAt_of hb (cell_of hh 0) (cell_of hh 1) (cell_of hh 2) (cell_of hh 3) (cell_of hh 4) (cell_of hh 5) (cell_of hh 6) (cell_of hh 7) (cell_of hh 8) (cell_of hh 9) (cell_of hh 10) (cell_of hh 11) hv, trivial⟩
theorem vls_one {B : Nat → Prop} {W : World} {b : Nat} {a : Vl} (hb : B b) (hh : W.heap[b]? = some (.cells #[.int .i64 a.k, .string a.n, .int .i64 a.x] 74)) (hn : a.n.size ≤ maxLen) : VlSl B W (.slice (some ⟨b, 0, none⟩) 1 1) [a] := by
  refine ⟨.inr ⟨b, 0, 1, rfl, hb, Nat.le_refl _, fun j x hj => ?_⟩, by simp [maxLen], fun x hx => by rw [List.mem_singleton.1 hx]; exact hn⟩
  cases j with
  | zero =>
    simp only [List.getElem?_cons_zero, Option.some.injEq] at hj
    subst hj
    exact ⟨cell_of hh 0, cell_of hh 1, cell_of hh 2⟩
  | succ j => simp at hj

abbrev sl0 : Value := .slice none 0 0
abbrev sl1 (b : Nat) : Value := .slice (some ⟨b, 0, none⟩) 1 1
/-- The nine blocks of the examples. -/
theorem made_ps (w : World) (W : World)
    (hW : (((((((((w.alloc (cell12 p1 sl0 sl0 sl0 sl0 sl0)).alloc (.cells #[.int .i64 1, .string bA, .int .i64 0] 74)).alloc (cell12 p1 sl0 sl0 sl0 sl0 sl0)).alloc (cell12 p2 sl0 (sl1 (w.heap.size + 1)) sl0 sl0 (sl1 (w.heap.size + 1 + 1)))).alloc
      (cell12 p2 sl0 (sl1 (w.heap.size + 1)) sl0 sl0 (sl1 (w.heap.size + 1 + 1)))).alloc (cell12 p3 sl0 sl0 sl0 sl0 (sl1 (w.heap.size + 1 + 1 + 1 + 1)))).alloc (.cells #[.int .i64 1, .string bB, .int .i64 0] 74)).alloc (cell12 p3 sl0 sl0 sl0 sl0 (sl1 (w.heap.size + 1 + 1 + 1 + 1)))).alloc
      (cell12 p4 sl0 (sl1 (w.heap.size + 1 + 1 + 1 + 1 + 1 + 1)) sl0 sl0 (sl1 (w.heap.size + 1 + 1 + 1 + 1 + 1 + 1 + 1)))) = W) :
    (W.heap[w.heap.size + 1 + 1 + 1 + 1 + 1]? = some (cell12 p3 sl0 sl0 sl0 sl0 (sl1 (w.heap.size + 1 + 1 + 1 + 1))) ∧ W.heap[w.heap.size + 1 + 1 + 1 + 1 + 1 + 1 + 1 + 1]? = some (cell12 p4 sl0 (sl1 (w.heap.size + 1 + 1 + 1 + 1 + 1 + 1)) sl0 sl0 (sl1 (w.heap.size + 1 + 1 + 1 + 1 + 1 + 1 + 1)))) ∧
    PLies W (prAgg p3 sl0 sl0 sl0 sl0 (sl1 (w.heap.size + 1 + 1 + 1 + 1))) p3 ∧ PLies W (prAgg p4 sl0 (sl1 (w.heap.size + 1 + 1 + 1 + 1 + 1 + 1)) sl0 sl0 (sl1 (w.heap.size + 1 + 1 + 1 + 1 + 1 + 1 + 1))) p4 ∧ Below w.heap.size w W := by
  have hs : W.heap.size = w.heap.size + 9 := by rw [← hW]; simp
  have k1 : W.heap[w.heap.size + 1]? = some (.cells #[.int .i64 1, .string bA, .int .i64 0] 74) := by rw [← hW]; simp only [heap_push, Array.getElem?_push, Array.size_push]; simp
  have k2 : W.heap[w.heap.size + 1 + 1]? = some (cell12 p1 sl0 sl0 sl0 sl0 sl0) := by rw [← hW]; simp only [heap_push, Array.getElem?_push, Array.size_push]; simp
  have k4 : W.heap[w.heap.size + 1 + 1 + 1 + 1]? = some (cell12 p2 sl0 (sl1 (w.heap.size + 1)) sl0 sl0 (sl1 (w.heap.size + 1 + 1))) := by rw [← hW]; simp only [heap_push, Array.getElem?_push, Array.size_push]; simp
  have k5 : W.heap[w.heap.size + 1 + 1 + 1 + 1 + 1]? = some (cell12 p3 sl0 sl0 sl0 sl0 (sl1 (w.heap.size + 1 + 1 + 1 + 1))) := by rw [← hW]; simp only [heap_push, Array.getElem?_push, Array.size_push]; simp
  have k6 : W.heap[w.heap.size + 1 + 1 + 1 + 1 + 1 + 1]? = some (.cells #[.int .i64 1, .string bB, .int .i64 0] 74) := by rw [← hW]; simp only [heap_push, Array.getElem?_push, Array.size_push]; simp
  have k7 : W.heap[w.heap.size + 1 + 1 + 1 + 1 + 1 + 1 + 1]? = some (cell12 p3 sl0 sl0 sl0 sl0 (sl1 (w.heap.size + 1 + 1 + 1 + 1))) := by rw [← hW]; simp only [heap_push, Array.getElem?_push, Array.size_push]; simp
  have k8 : W.heap[w.heap.size + 1 + 1 + 1 + 1 + 1 + 1 + 1 + 1]? = some (cell12 p4 sl0 (sl1 (w.heap.size + 1 + 1 + 1 + 1 + 1 + 1)) sl0 sl0 (sl1 (w.heap.size + 1 + 1 + 1 + 1 + 1 + 1 + 1))) := by rw [← hW]; simp only [heap_push, Array.getElem?_push, Array.size_push]; simp
  have hb : Below w.heap.size w W := by
    rw [← hW]
    exact (((((((((Below.refl _ _).alloc (by simp) _).alloc (by simp) _).alloc (by simp; omega) _).alloc (by simp; omega) _).alloc (by simp; omega) _).alloc (by simp; omega) _).alloc (by simp; omega) _).alloc (by simp; omega) _).alloc (by simp; omega) _
  have v1 : PLies W (prAgg p1 sl0 sl0 sl0 sl0 sl0) p1 := ⟨_, _, _, _, _, rfl, ⟨by decide, by decide⟩, nil_strs _ _, nil_vls _ _, val_leaf _ _ 0 0 0 e0 (by decide), nil_prs _ _⟩
  have v2 : PLies W (prAgg p2 sl0 (sl1 (w.heap.size + 1)) sl0 sl0 (sl1 (w.heap.size + 1 + 1))) p2 := ⟨_, _, _, _, _, rfl, ⟨by decide, by decide⟩, nil_strs _ _, vls_one (a := ⟨1, bA, 0⟩) (by omega) k1 (by decide), val_leaf _ _ 0 0 0 e0 (by decide), prs_one (by omega) k2 v1⟩
  have v3 : PLies W (prAgg p3 sl0 sl0 sl0 sl0 (sl1 (w.heap.size + 1 + 1 + 1 + 1))) p3 := ⟨_, _, _, _, _, rfl, ⟨by decide, by decide⟩, nil_strs _ _, nil_vls _ _, val_leaf _ _ 3 0 0 e0 (by decide), prs_one (by omega) k4 v2⟩
  have v4 : PLies W (prAgg p4 sl0 (sl1 (w.heap.size + 1 + 1 + 1 + 1 + 1 + 1)) sl0 sl0 (sl1 (w.heap.size + 1 + 1 + 1 + 1 + 1 + 1 + 1))) p4 := ⟨_, _, _, _, _, rfl, ⟨by decide, by decide⟩, nil_strs _ _, vls_one (a := ⟨1, bB, 0⟩) (by omega) k6 (by decide), val_leaf _ _ 0 0 0 e0 (by decide), prs_one (by omega) k7 v3⟩
  exact ⟨⟨k5, k8⟩, v3, v4, hb⟩
end Go.Proofs.YtliijbcgkkiekaaDoor
