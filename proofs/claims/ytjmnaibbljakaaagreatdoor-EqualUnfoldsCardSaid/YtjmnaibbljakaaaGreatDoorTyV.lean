/- Types: the iterator over the nodes: what is told at each round; append, with the row's block told. -/
import Derived.Test.YtjmnaibbljakaaaGreatDoorTyN
import Derived.RangeFuncNested
import Derived.RangeFuncBound
import Derived.RangeFuncCalls
import Derived.RangeFuncLeaves
import Derived.RangeFuncBox
import Derived.Shelf.RegionOpen
import Derived.OwnWalkIn
import Derived.TacticsInMore
import Derived.LoopNIn
import Derived.LoopIn
import Derived.Maps.OwnIn
import Derived.ArgAppend
namespace Go.Proofs.YtjmnaibbljakaaaGreatDoor
open Go.RowKit Go.Deep Go.Shelf

/-- What a round is handed: the nodes around, the index, the node. -/
structure Nd where
  ar : Value
  kid : Int
  b : Nat
  o : Nat
  path : List Ty
  ty : Ty
abbrev ndArgs (x : Nd) : Array Value := #[.agg #[x.ar, .int .i64 x.kid], .pointer (some ⟨x.b, x.o, none⟩)]
/-- What is told of a round, without addresses. -/
def Nd.g (x : Nd) : List Ty × Int × Ty := (x.path, x.kid, x.ty)
mutual
/-- All nodes, each before its Kids. -/
def preT (path : List Ty) (kid : Int) : Ty → List (List Ty × Int × Ty)
  | .mk k p n s ls ts => (path, kid, .mk k p n s ls ts) :: preTs (path ++ [.mk k p n s ls ts]) 0 ts
def preTs (path : List Ty) (kid : Int) : List Ty → List (List Ty × Int × Ty)
  | [] => []
  | t :: r => preT path kid t ++ preTs path (kid + 1) r
end
theorem preT_eq (path : List Ty) (kid : Int) (t : Ty) : preT path kid t = (path, kid, t) :: preTs (path ++ [t]) 0 t.ts := by cases t; simp [preT, Ty.ts]
theorem preTs_append (path : List Ty) : ∀ (l r : List Ty) (kid : Int), preTs path kid (l ++ r) = preTs path kid l ++ preTs path (kid + l.length) r
  | [], r, kid => by simp [preTs]
  | t :: l, r, kid => by
    simp only [List.cons_append, preTs, preTs_append path l r (kid + 1), List.append_assoc, List.length_cons]
    congr 3
    omega
theorem preTs_take {path : List Ty} {l : List Ty} {j : Nat} {t : Ty} (h : l[j]? = some t) (kid : Int) : preTs path kid (l.take (j + 1)) = preTs path kid (l.take j) ++ preT path (kid + j) t := by
  have hj := (List.getElem?_eq_some_iff.1 h).1
  rw [take_snoc_get h, preTs_append, List.length_take, Nat.min_eq_left (by omega)]
  simp [preTs]
theorem preTs_prefix (path : List Ty) (l : List Ty) (j : Nat) (kid : Int) : preTs path kid (l.take j) <+: preTs path kid l := by
  conv => rhs; rw [← List.take_append_drop j l, preTs_append]
  exact List.prefix_append _ _

def ptrs (ads : List (Nat × Nat)) : List Value := ads.map fun a => .pointer (some ⟨a.1, a.2, none⟩)
theorem ownsRow_kept {W W' : World} {base : Nat} {e : TypeId} {size : Nat} {v : Value} {n : Nat} {xs : List Value} (h : W.ownsRow base e size v n xs) (hk : ∀ (g : Nat) (o : Obj), v.ownBlock = some g → W.heap[g]? = some o → o.isCells = true → W'.heap[g]? = some o) : W'.ownsRow base e size v n xs := by
  refine ⟨h.1, ?_⟩
  rcases h.2 with h0 | ⟨g, cap, cur, rfl, hb, hg, r⟩
  · exact .inl h0
  · exact .inr ⟨g, cap, cur, rfl, hb, hk g _ rfl hg rfl, r⟩
theorem CellsKept.keeps {A B : World} (h : CellsKept A B) (S : Nat → Prop) : Keeps S A B := fun k o _ ho hc => h k o ho hc
theorem cellsKept_alloc (W : World) (o : Obj) : CellsKept W (W.alloc o) := fun k _ hk _ => (Below.heap_alloc W o k (Array.getElem?_eq_some_iff.1 hk).1).trans hk

/-- Cells lie as they lay, but for the blocks X and the block of one slice. -/
structure KV (X : Nat → Prop) (ar : Value) (W W' : World) : Prop where
  size : W.heap.size ≤ W'.heap.size
  keep : ∀ (k : Nat) (o : Obj), W.heap[k]? = some o → o.isCells = true → ¬ X k → ar.ownBlock ≠ some k → W'.heap[k]? = some o
/-- What a round keeps. -/
abbrev Kp (X : Nat → Prop) : World → World → Prop := KV X .nilFunc
theorem KV.refl (X : Nat → Prop) (ar : Value) (W : World) : KV X ar W W := ⟨Nat.le_refl _, fun _ _ h _ _ _ => h⟩
theorem KV.trans {X : Nat → Prop} {ar : Value} {A B C : World} (h : KV X ar A B) (g : KV X ar B C) : KV X ar A C :=
  ⟨Nat.le_trans h.size g.size, fun k o hk hc hx ha => g.keep k o (h.keep k o hk hc hx ha) hc hx ha⟩
theorem KV.of_kp {X : Nat → Prop} {ar : Value} {A B : World} (h : Kp X A B) : KV X ar A B := ⟨h.size, fun k o hk hc hx _ => h.keep k o hk hc hx (by simp [Value.ownBlock])⟩
theorem KV.of_below {X : Nat → Prop} {ar : Value} {A B : World} (h : Below A.heap.size A B) : KV X ar A B := ⟨h.size, fun k _ hk _ _ _ => (h.block k (Array.getElem?_eq_some_iff.1 hk).1).trans hk⟩
theorem KV.of_cells {X : Nat → Prop} {ar : Value} {A B : World} (hs : A.heap.size ≤ B.heap.size) (h : CellsKept A B) : KV X ar A B := ⟨hs, fun k o hk hc _ _ => h k o hk hc⟩
theorem KV.keeps {X : Nat → Prop} {ar : Value} {A B : World} {S : Nat → Prop} (h : KV X ar A B) (hS : ∀ k, S k → ¬ X k ∧ ar.ownBlock ≠ some k) : Keeps S A B := fun k o hk ho hc => h.keep k o ho hc (hS k hk).1 (hS k hk).2

end Go.Proofs.YtjmnaibbljakaaaGreatDoor
