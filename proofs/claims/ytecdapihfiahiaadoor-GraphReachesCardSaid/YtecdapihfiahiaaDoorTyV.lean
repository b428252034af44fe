/- Types: the iterator over the nodes: what is told at each round; append, with the row's block told. -/
import Derived.Test.YtecdapihfiahiaaDoorTyN
import Derived.RangeFuncNested
import Derived.RangeFuncBound
import Derived.RangeFuncCalls
import Derived.RangeFuncLeaves
import Derived.RangeFuncBox
import Derived.Shelf.RegionOpen
import Derived.OwnWalkIn
import Derived.TacticsInMore
import Derived.LoopNIn
import Derived.LoopIn
import Derived.Maps.OwnIn
import Derived.ArgAppend
namespace Go.Proofs.YtecdapihfiahiaaDoor
open Go.RowKit Go.Deep Go.Shelf

/-- What a round is handed: the nodes around, the index, the node. -/
structure Nd where
  ar : Value
  kid : Int
  b : Nat
  o : Nat
  path : List Ty
  ty : Ty
abbrev ndArgs (x : Nd) : Array Value := #[.agg #[x.ar, .int .i64 x.kid], .pointer (some ⟨x.b, x.o, none⟩)]
/-- What is told of a round, without addresses. -/
def Nd.g (x : Nd) : List Ty × Int × Ty := (x.path, x.kid, x.ty)
mutual
/-- All nodes, each before its Kids. -/
def preT (path : List Ty) (kid : Int) : Ty → List (List Ty × Int × Ty)
  | .mk k p n s ls ts => (path, kid, .mk k p n s ls ts) :: preTs (path ++ [.mk k p n s ls ts]) 0 ts
def preTs (path : List Ty) (kid : Int) : List Ty → List (List Ty × Int × Ty)
  | [] => []
  | t :: r => preT path kid t ++ preTs path (kid + 1) r
end
theorem preT_eq (path : List Ty) (kid : Int) (t : Ty) : preT path kid t = (path, kid, t) :: preTs (path ++ [t]) 0 t.ts := by cases t; simp [preT, Ty.ts]
theorem preTs_append (path : List Ty) : ∀ (l r : List Ty) (kid : Int), preTs path kid (l ++ r) = preTs path kid l ++ preTs path (kid + l.length) r
  | [], r, kid => by simp [preTs]
  | t :: l, r, kid => by
    simp only [List.cons_append, preTs, preTs_append path l r (kid + 1), List.append_assoc, List.length_cons]
    congr 3
    omega
theorem preTs_take {path : List Ty} {l : List Ty} {j : Nat} {t : Ty} (h : l[j]? = some t) (kid : Int) : preTs path kid (l.take (j + 1)) = preTs path kid (l.take j) ++ preT path (kid + j) t := by
  have hj := (List.getElem?_eq_some_iff.1 h).1
  rw [take_snoc_get h, preTs_append, List.length_take, Nat.min_eq_left (by omega)]
  simp [preTs]
theorem preTs_prefix (path : List Ty) (l : List Ty) (j : Nat) (kid : Int) : preTs path kid (l.take j) <+: preTs path kid l := by
  conv => rhs; rw [← List.take_append_drop j l, preTs_append]
  exact List.prefix_append _ _

def ptrs (ads : List (Nat × Nat)) : List Value := ads.map fun a => .pointer (some ⟨a.1, a.2, none⟩)
/-- The slice of the nodes around lies in memory of its own (from block D on), and its pointers lead to these nodes. -/
def ARow (D : Nat) (S : Nat → Prop) (W : World) (ar : Value) (path : List Ty) : Prop :=
  ∃ ads : List (Nat × Nat), ads.length = path.length ∧ W.ownsRow D 76 1 ar path.length (ptrs ads) ∧ ∀ (i : Nat) (a : Nat × Nat) (t : Ty), ads[i]? = some a → path[i]? = some t → TyAt S W t a.1 a.2
/-- What holds in memory at a round. -/
def Px (D : Nat) (S : Nat → Prop) (x : Nd) (W : World) : Prop := ARow D S W x.ar x.path ∧ TyAt S W x.ty x.b x.o ∧ x.path.length ≤ 1000

theorem ownsRow_kept {W W' : World} {base : Nat} {e : TypeId} {size : Nat} {v : Value} {n : Nat} {xs : List Value} (h : W.ownsRow base e size v n xs) (hk : ∀ (g : Nat) (o : Obj), v.ownBlock = some g → W.heap[g]? = some o → o.isCells = true → W'.heap[g]? = some o) : W'.ownsRow base e size v n xs := by
  refine ⟨h.1, ?_⟩
  rcases h.2 with h0 | ⟨g, cap, cur, rfl, hb, hg, r⟩
  · exact .inl h0
  · exact .inr ⟨g, cap, cur, rfl, hb, hk g _ rfl hg rfl, r⟩
theorem ARow.kept {D : Nat} {S : Nat → Prop} {W W' : World} {ar : Value} {path : List Ty} (h : ARow D S W ar path) (hS : Keeps S W W') (hk : ∀ (g : Nat) (o : Obj), ar.ownBlock = some g → W.heap[g]? = some o → o.isCells = true → W'.heap[g]? = some o) : ARow D S W' ar path := by
  obtain ⟨ads, h1, h2, h3⟩ := h
  exact ⟨ads, h1, ownsRow_kept h2 hk, fun i a t ha ht => (h3 i a t ha ht).keep hS⟩
theorem CellsKept.keeps {A B : World} (h : CellsKept A B) (S : Nat → Prop) : Keeps S A B := fun k o _ ho hc => h k o ho hc
theorem Px.kept {D : Nat} {S : Nat → Prop} {x : Nd} {W W' : World} (h : CellsKept W W') (hp : Px D S x W) : Px D S x W' :=
  ⟨hp.1.kept (h.keeps S) (fun g o _ ho hc => h g o ho hc), hp.2.1.keep (h.keeps S), hp.2.2⟩
theorem cellsKept_alloc (W : World) (o : Obj) : CellsKept W (W.alloc o) := fun k _ hk _ => (Below.heap_alloc W o k (Array.getElem?_eq_some_iff.1 hk).1).trans hk

/-- Cells lie as they lay, but for the blocks X and the block of one slice. -/
structure KV (X : Nat → Prop) (ar : Value) (W W' : World) : Prop where
  size : W.heap.size ≤ W'.heap.size
  keep : ∀ (k : Nat) (o : Obj), W.heap[k]? = some o → o.isCells = true → ¬ X k → ar.ownBlock ≠ some k → W'.heap[k]? = some o
/-- What a round keeps. -/
abbrev Kp (X : Nat → Prop) : World → World → Prop := KV X .nilFunc
theorem KV.refl (X : Nat → Prop) (ar : Value) (W : World) : KV X ar W W := ⟨Nat.le_refl _, fun _ _ h _ _ _ => h⟩
theorem KV.trans {X : Nat → Prop} {ar : Value} {A B C : World} (h : KV X ar A B) (g : KV X ar B C) : KV X ar A C :=
  ⟨Nat.le_trans h.size g.size, fun k o hk hc hx ha => g.keep k o (h.keep k o hk hc hx ha) hc hx ha⟩
theorem KV.of_kp {X : Nat → Prop} {ar : Value} {A B : World} (h : Kp X A B) : KV X ar A B := ⟨h.size, fun k o hk hc hx _ => h.keep k o hk hc hx (by simp [Value.ownBlock])⟩
theorem KV.of_below {X : Nat → Prop} {ar : Value} {A B : World} (h : Below A.heap.size A B) : KV X ar A B := ⟨h.size, fun k _ hk _ _ _ => (h.block k (Array.getElem?_eq_some_iff.1 hk).1).trans hk⟩
theorem KV.of_cells {X : Nat → Prop} {ar : Value} {A B : World} (hs : A.heap.size ≤ B.heap.size) (h : CellsKept A B) : KV X ar A B := ⟨hs, fun k o hk hc _ _ => h k o hk hc⟩
theorem KV.keeps {X : Nat → Prop} {ar : Value} {A B : World} {S : Nat → Prop} (h : KV X ar A B) (hS : ∀ k, S k → ¬ X k ∧ ar.ownBlock ≠ some k) : Keeps S A B := fun k o hk ho hc => h.keep k o ho hc (hS k hk).1 (hS k hk).2

theorem ptrInfo : (Tryd.prog.info? 76).map (fun i => (i.zero, i.size, i.bytes)) = some (some (.pointer none), 1, 8) := by kernel_rfl

/-- Behind a node's Kids: the slice that came in, and what was kept. -/
theorem row_back {D : Nat} {X S : Nat → Prop} {W w1 W' : World} {ar : Value} {path : List Ty} {t : Ty} {g' c' : Nat} (hX : ∀ k, X k → ¬ S k ∧ k < D) (hrow : ARow D S W ar path)
    (hcase : (ar = .slice (some ⟨g', 0, none⟩) path.length c' ∧ W.grownBy w1 (some g')) ∨ (W.heap.size ≤ g' ∧ W.grownBy w1 none))
    (hkv : KV X (.slice (some ⟨g', 0, none⟩) (path.length + 1) c') w1 W') (hrow' : ARow D S W' (.slice (some ⟨g', 0, none⟩) (path.length + 1) c') (path ++ [t])) : ARow D S W' ar path ∧ KV X ar W W' := by
  rcases hcase with ⟨rfl, hg⟩ | ⟨hnew, hg⟩
  · have hkv' : KV X (.slice (some ⟨g', 0, none⟩) path.length c') W W' := ⟨Nat.le_trans hg.size hkv.size, fun k o hk hc hx ha => hkv.keep k o ((hg.block k (Array.getElem?_eq_some_iff.1 hk).1 (fun e => ha (by simp only [Option.some.injEq] at e; simp [Value.ownBlock, e]))).trans hk) hc hx (by simpa [Value.ownBlock] using ha)⟩
    refine ⟨?_, hkv'⟩
    obtain ⟨ads, h1, h2, h3⟩ := hrow
    obtain ⟨ads', h1', h2', h3'⟩ := hrow'
    have hlen : (path ++ [t]).length = path.length + 1 := by simp
    rw [hlen] at h1' h2'
    refine ⟨ads'.take path.length, by rw [List.length_take]; omega, ?_, fun i a u ha hu => ?_⟩
    · refine ⟨by simp [ptrs]; omega, ?_⟩
      rcases h2'.2 with ⟨h, _⟩ | ⟨g, cap, cur, h, hb, hgg, hnc, hcm, hcs, htake⟩
      · simp at h
      · simp only [Value.slice.injEq, Option.some.injEq, Addr.mk.injEq, and_true, true_and] at h
        obtain ⟨rfl, rfl⟩ := h
        refine .inr ⟨g', c', cur, rfl, hb, hgg, by omega, hcm, hcs, ?_⟩
        have := congrArg (List.take (path.length * 1)) htake
        rw [List.take_take, Nat.min_eq_left (by omega)] at this
        rw [this]
        simp [ptrs, List.map_take]
    · have hi : i < path.length := (List.getElem?_eq_some_iff.1 hu).1
      have ha' : ads'[i]? = some a := by rw [List.getElem?_take, if_pos hi] at ha; exact ha
      exact h3' i a u ha' (by rw [List.getElem?_append_left hi]; exact hu)
  · have hkv' : KV X ar W W' := ⟨Nat.le_trans hg.size hkv.size, fun k o hk hc hx _ => by
      have hlt := (Array.getElem?_eq_some_iff.1 hk).1
      exact hkv.keep k o ((hg.block k hlt (by simp)).trans hk) hc hx (by simp [Value.ownBlock]; omega)⟩
    have hall : ∀ (k : Nat) (o : Obj), W.heap[k]? = some o → o.isCells = true → ¬ X k → W'.heap[k]? = some o := fun k o hk hc hx => by
      have hlt := (Array.getElem?_eq_some_iff.1 hk).1
      exact hkv.keep k o ((hg.block k hlt (by simp)).trans hk) hc hx (by simp [Value.ownBlock]; omega)
    refine ⟨hrow.kept (fun k o hk ho hc => hall k o ho hc (fun hx => (hX k hx).1 hk)) (fun g o hg' ho hc => hall g o ho hc (fun hx => ?_)), hkv'⟩
    obtain ⟨ads, _, h2, _⟩ := hrow
    rcases h2.2 with ⟨rfl, _⟩ | ⟨g0, cap, cur, rfl, hb, _⟩
    · simp [Value.ownBlock] at hg'
    · simp [Value.ownBlock] at hg'
      have := (hX g hx).2
      omega

end Go.Proofs.YtecdapihfiahiaaDoor
