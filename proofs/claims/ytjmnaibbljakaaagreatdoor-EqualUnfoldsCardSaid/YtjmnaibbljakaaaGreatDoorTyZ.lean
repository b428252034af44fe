/- Types: Depth, tooLarge. -/
import Derived.Test.YtjmnaibbljakaaaGreatDoorTyY
namespace Go.Proofs.YtjmnaibbljakaaaGreatDoor
open Go.RowKit Go.Deep Go.Shelf
attribute [local go_sem] Oper.semAt_some

/-- The greatest depth of the nodes that have come. -/
def mdep (l : List (List Ty × Int × Ty)) : Nat := l.foldl (fun m x => max m (x.1.length + 1)) 0
theorem mdep_snoc (l : List (List Ty × Int × Ty)) (x : List Ty × Int × Ty) : mdep (l ++ [x]) = max (mdep l) (x.1.length + 1) := by simp [mdep]
theorem foldl_max (l : List (List Ty × Int × Ty)) : ∀ m : Nat, l.foldl (fun m x => max m (x.1.length + 1)) m = max m (mdep l) := by
  induction l with
  | nil => intro m; simp [mdep]
  | cons x l ih => intro m; simp only [mdep, List.foldl_cons]; rw [ih, ih (max 0 _)]; omega
theorem mdep_append (l r : List (List Ty × Int × Ty)) : mdep (l ++ r) = max (mdep l) (mdep r) := by
  unfold mdep; rw [List.foldl_append, foldl_max]; rfl
theorem mdep_preT : ∀ (t : Ty) (path : List Ty) (kid : Int), mdep (preT path kid t) = path.length + t.depth := by
  refine Ty.ind ?_
  intro k p n s ls ts ih path kid
  have h : ∀ (l : List Ty) (path : List Ty) (kid : Int), (∀ t ∈ l, ∀ (path : List Ty) (kid : Int), mdep (preT path kid t) = path.length + t.depth) → max path.length (mdep (preTs path kid l)) = path.length + Ty.depths l := by
    intro l
    induction l with
    | nil => intro _ _ _; simp [preTs, Ty.depths, mdep]
    | cons u r ihl =>
      intro path kid hh
      have h1 := hh u (by simp) path kid
      have h2 := ihl path (kid + 1) (fun t ht => hh t (by simp [ht]))
      have h3 := u.depth_pos
      rw [preTs, mdep_append, Ty.depths]; omega
  have h1 := h ts (path ++ [Ty.mk k p n s ls ts]) 0 ih
  rw [preT_eq, Ty.depth_eq]
  show mdep ([_] ++ _) = _
  rw [mdep_append]
  simp only [List.length_append, List.length_cons, List.length_nil, Ty.ts] at h1 ⊢
  have h2 : mdep [(path, kid, Ty.mk k p n s ls ts)] = path.length + 1 := by simp [mdep]
  omega

theorem below_seq' {a b c : World} (h : Below a.heap.size a b) (k : Below b.heap.size b c) : Below a.heap.size a c := below_seq h k
/-- The world in which a function over a type begins to range over its nodes. -/
structure Begin (B : Nat → Prop) (t : Ty) (lv kv : Value) (w : World) (bt bp : Nat) (W0 : World) : Prop where
  below : Below w.heap.size w W0
  tyAt : TyAt (fun k => B k ∨ k = bt) W0 t bt 0
  ptr : W0.cell? ⟨bp, 0, none⟩ = some (.pointer (some ⟨bt, 0, none⟩))

end Go.Proofs.YtjmnaibbljakaaaGreatDoor
