/- Processes: Size, Depth, tooLarge. -/
import Derived.Test.YtgmdmbmkljbgiaaGreatDoorPrV
import Derived.Test.YtgmdmbmkljbgiaaGreatDoorTyZa
namespace Go.Proofs.YtgmdmbmkljbgiaaGreatDoor
open Go.RowKit Go.Deep Go.Shelf
attribute [local go_sem] Oper.semAt_some

abbrev cell12 (p : Pr) (lv av tl tk kv : Value) : Obj := .cells #[.int .i64 p.k, .string p.c, .string p.x, lv, av, .int .i64 p.t.k, .int .i64 p.t.p, .string p.t.n, .int .i64 p.t.s, tl, tk, kv] 30
/-- A process in a box of its own. -/
theorem boxed_prAt {B S : Nat → Prop} {w W : World} {p : Pr} {lv av tl tk kv : Value} (hB : Low B w) (hv : PrVal B w (prAgg p lv av tl tk kv) p) (hb : Below (w.heap.size + 1) (w.alloc (cell12 p lv av tl tk kv)) W) (hBS : ∀ k, B k → S k) (hS : S w.heap.size) : PrAt S W p w.heap.size 0 := by
  have hc : ∀ (j : Nat) (v : Value), #[.int .i64 p.k, .string p.c, .string p.x, lv, av, .int .i64 p.t.k, .int .i64 p.t.p, .string p.t.n, .int .i64 p.t.s, tl, tk, kv][j]? = some v → W.cell? ⟨w.heap.size, j, none⟩ = some v := fun j v hj => blk_cell hb j hj
  refine prAt_of hS (hc 0 _ rfl) (hc 1 _ rfl) (hc 2 _ rfl) (hc 3 _ rfl) (hc 4 _ rfl) (hc 5 _ rfl) (hc 6 _ rfl) (hc 7 _ rfl) (hc 8 _ rfl) (hc 9 _ rfl) (hc 10 _ rfl) (hc 11 _ rfl) ?_
  exact (hv.to hB (blk_below hb)).mono hBS

theorem preP_length : ∀ (p : Pr) (d : Nat), (preP d p).length = p.size := by
  refine Pr.ind ?_
  intro k c x ls vs t ps ih d
  have h : ∀ (l : List Pr) (d : Nat), (∀ p ∈ l, ∀ d, (preP d p).length = p.size) → (prePs d l).length = Pr.sizes l := by
    intro l
    induction l with
    | nil => intro _ _; simp [prePs, Pr.sizes]
    | cons u r ihl =>
      intro d hh
      rw [prePs, List.length_append, Pr.sizes, hh u (by simp), ihl d (fun t ht => hh t (by simp [ht]))]
  rw [preP_eq, Pr.size_eq, List.length_cons]
  show (prePs (d + 1) ps).length + 1 = Pr.sizes ps + 1
  rw [h _ _ ih]
/-- The greatest depth of the nodes that have come. -/
def mdP (l : List (Nat × Pr)) : Nat := l.foldl (fun m x => max m x.1) 0
theorem mdP_snoc (l : List (Nat × Pr)) (x : Nat × Pr) : mdP (l ++ [x]) = max (mdP l) x.1 := by simp [mdP]
theorem foldl_maxP (l : List (Nat × Pr)) : ∀ m : Nat, l.foldl (fun m x => max m x.1) m = max m (mdP l) := by
  induction l with
  | nil => intro m; simp [mdP]
  | cons x l ih => intro m; simp only [mdP, List.foldl_cons]; rw [ih, ih (max 0 _)]; omega
theorem mdP_append (l r : List (Nat × Pr)) : mdP (l ++ r) = max (mdP l) (mdP r) := by
  unfold mdP; rw [List.foldl_append, foldl_maxP]; rfl
theorem mdP_le_of_prefix {l r : List (Nat × Pr)} (h : l <+: r) : mdP l ≤ mdP r := by
  obtain ⟨s, rfl⟩ := h
  rw [mdP_append]; omega
theorem mdP_preP : ∀ (p : Pr) (d : Nat), mdP (preP (d + 1) p) = d + p.depth := by
  refine Pr.ind ?_
  intro k c x ls vs t ps ih d
  have h : ∀ (l : List Pr) (d : Nat), (∀ p ∈ l, ∀ d, mdP (preP (d + 1) p) = d + p.depth) → max d (mdP (prePs (d + 1) l)) = d + Pr.depths l := by
    intro l
    induction l with
    | nil => intro d _; simp [prePs, mdP, Pr.depths]
    | cons u r ihl =>
      intro d hh
      have h1 := hh u (by simp) d
      have h2 := ihl d (fun t ht => hh t (by simp [ht]))
      have h3 := u.depth_pos
      rw [prePs, mdP_append, Pr.depths]; omega
  have h1 := h ps (d + 1) ih
  rw [preP_eq, Pr.depth_eq]
  show mdP ([_] ++ _) = _
  rw [mdP_append]
  have h2 : mdP [(d + 1, Pr.mk k c x ls vs t ps)] = d + 1 := by simp [mdP]
  rw [h2]
  show max (d + 1) (mdP (prePs (d + 1 + 1) ps)) = _
  simp only [Pr.ps]
  omega
theorem w64_succP (x : Np) (pre : List Np) : wrap64 (wrap64 ((pre.length : Nat) : Int) + 1) = wrap64 (((pre ++ [x]).length : Nat) : Int) := by
  rw [List.length_append]; simp only [List.length_cons, List.length_nil]; unfold wrap64; omega

end Go.Proofs.YtgmdmbmkljbgiaaGreatDoor
