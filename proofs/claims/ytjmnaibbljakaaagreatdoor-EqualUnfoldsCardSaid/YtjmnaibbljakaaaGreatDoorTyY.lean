/- Types: nodes; Size. -/
import Derived.Test.YtjmnaibbljakaaaGreatDoorTyX
namespace Go.Proofs.YtjmnaibbljakaaaGreatDoor
open Go.RowKit Go.Deep Go.Shelf
attribute [local go_sem] Oper.semAt_some

/-- How many nodes: as all of them. -/
theorem preT_length : ∀ (t : Ty) (path : List Ty) (kid : Int), (preT path kid t).length = t.size := by
  refine Ty.ind ?_
  intro k p n s ls ts ih path kid
  rw [preT_eq, Ty.size_eq, List.length_cons]
  have h : ∀ (l : List Ty) (path : List Ty) (kid : Int), (∀ t ∈ l, ∀ (path : List Ty) (kid : Int), (preT path kid t).length = t.size) → (preTs path kid l).length = Ty.sizes l := by
    intro l
    induction l with
    | nil => intro _ _ _; simp [preTs, Ty.sizes]
    | cons u r ihl =>
      intro path kid hh
      rw [preTs, List.length_append, Ty.sizes, hh u (by simp), ihl path (kid + 1) (fun t ht => hh t (by simp [ht]))]
  show (preTs (path ++ [Ty.mk k p n s ls ts]) 0 ts).length + 1 = Ty.sizes ts + 1
  rw [h _ _ _ ih]

theorem w64_id (n : Int) (h1 : -9223372036854775808 ≤ n) (h2 : n ≤ 9223372036854775807) : wrap64 n = n := by unfold wrap64; omega
theorem w64_succ (x : Nd) (pre : List Nd) : wrap64 (wrap64 ((pre.length : Nat) : Int) + 1) = wrap64 (((pre ++ [x]).length : Nat) : Int) := by
  rw [List.length_append]; simp only [List.length_cons, List.length_nil]; unfold wrap64; omega
theorem abides_boxed {β : Type} {D b : Nat} (hb : b < D) (t : TypeId) (f : β → Value) : AbidesAll D (fun s W => W.heap[b]? = some (.cells #[f s] t (0, 0))) :=
  fun _ _ _ _ hs hg hr => (hg.block b (Array.getElem?_eq_some_iff.1 hs).1 (fun e => by have := hr b e.symm; omega)).trans hs

/-- Node and pointer: a box that holds a type is a place of the type. -/
theorem boxed_tyAt {B : Nat → Prop} {S : Nat → Prop} {W : World} {b : Nat} {t : Ty} {lv kv : Value} (h6 : Six W b (.int .i64 t.k) (.int .i64 t.p) (.string t.n) (.int .i64 t.s) lv kv) (hv : TyVal B W (.agg #[.int .i64 t.k, .int .i64 t.p, .string t.n, .int .i64 t.s, lv, kv]) t) (hB : ∀ k, B k → S k) (hb : S b) : TyAt S W t b 0 := by
  obtain ⟨⟨c0, c1, c2, c3, c4, c5⟩, _⟩ := h6.cells
  exact tyAt_of hb c0 c1 c2 c3 c4 c5 (hv.mono hB)

end Go.Proofs.YtjmnaibbljakaaaGreatDoor
