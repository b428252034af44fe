/- Types: the program's mayStand. (and what follows from it) -/
import Derived.Test.YtjmnaibbljakaaaGreatDoorPu1
import Derived.Test.YtjmnaibbljakaaaGreatDoorTyG
import Derived.WalkKit
import Derived.ProofKit
import Derived.OpenShut
import Derived.Deep.DeepHandedRow
import Derived.Deep.Slices
import Derived.Deep.Fields
import Derived.ChangeSame
import Derived.Carry
import Derived.OwnWalk

/- Types: the program's mayStand. -/
namespace Go.Proofs.YtjmnaibbljakaaaGreatDoor
open Go.RowKit

/-- A number that a word holds. -/
def In64 (k : Int) : Prop := -9223372036854775808 ≤ k ∧ k ≤ 9223372036854775807
end Go.Proofs.YtjmnaibbljakaaaGreatDoor

/- Types: slices.Backward over the nodes around. -/
namespace Go.Proofs.YtjmnaibbljakaaaGreatDoor
open Go.RowKit Go.Deep Go.Shelf
attribute [local go_sem] Oper.semAt_some

/-- What a round is handed: the index, the node. -/
structure Bk where
  i : Nat
  b : Nat
  o : Nat
  ty : Ty
abbrev bkArgs (x : Bk) : Array Value := #[.int .i64 x.i, .pointer (some ⟨x.b, x.o, none⟩)]
/-- The index at which r nodes are left. -/
def idxV : Nat → Value
  | 0 => .int .i64 (-1)
  | r + 1 => .int .i64 (r : Int)
theorem rev_take {α : Type} {l : List α} {r : Nat} {x : α} (h : l[r]? = some x) : l.reverse.take (l.length - r) = l.reverse.take (l.length - (r + 1)) ++ [x] := by
  have hlt := (List.getElem?_eq_some_iff.1 h).1
  have e : l.length - r = (l.length - (r + 1)) + 1 := by omega
  rw [e]
  refine take_snoc_get ?_
  rw [List.getElem?_reverse (by omega)]
  rw [show l.length - 1 - (l.length - (r + 1)) = r by omega, h]

end Go.Proofs.YtjmnaibbljakaaaGreatDoor

/- Types: the program's varError. -/
namespace Go.Proofs.YtjmnaibbljakaaaGreatDoor
open Go.RowKit Go.Deep Go.Shelf
attribute [local go_sem] Oper.semAt_some

def actP (l : List Ty) : Bool := l.any fun u => actB u.k
theorem actP_snoc (l : List Ty) (u : Ty) : actP (l ++ [u]) = (actP l || actB u.k) := by simp [actP]
/-- Nodes that are passed by: what is asked of the others. -/
def Past (n : ByteArray) (l : List Ty) : Prop := ∀ rest, vErr n (l ++ rest) false = vErr n rest (actP l)
theorem past_nil (n : ByteArray) : Past n [] := fun _ => rfl
theorem past_snoc {n : ByteArray} {l : List Ty} {u : Ty} (h : Past n l) (hu : ¬ (u.k = 8 ∧ u.n = n)) : Past n (l ++ [u]) := fun rest => by
  rw [List.append_assoc, h, actP_snoc]
  show vErr n (u :: rest) _ = _
  rw [vErr, if_neg hu]
theorem past_hit {n : ByteArray} {l : List Ty} {u : Ty} (h : Past n l) (hu : u.k = 8 ∧ u.n = n) (rest : List Ty) : vErr n (l ++ [u] ++ rest) false = if actP l then 0 else 3 := by
  rw [List.append_assoc, h]
  show vErr n (u :: rest) _ = _
  rw [vErr, if_pos hu]
theorem box4_heap (w : World) (o0 o1 o2 o3 : Obj) : ((((w.alloc o0).alloc o1).alloc o2).alloc o3).heap[w.heap.size]? = some o0 ∧ ((((w.alloc o0).alloc o1).alloc o2).alloc o3).heap[w.heap.size + 1]? = some o1 ∧
    ((((w.alloc o0).alloc o1).alloc o2).alloc o3).heap[w.heap.size + 2]? = some o2 ∧ ((((w.alloc o0).alloc o1).alloc o2).alloc o3).heap[w.heap.size + 3]? = some o3 := by
  have h0 := World.alloc_heap_new w o0
  have h1 := World.alloc_heap_new (w.alloc o0) o1
  have h2 := World.alloc_heap_new ((w.alloc o0).alloc o1) o2
  have h3 := World.alloc_heap_new (((w.alloc o0).alloc o1).alloc o2) o3
  simp only [World.size_alloc] at h1 h2 h3
  refine ⟨?_, ?_, ?_, h3⟩
  · exact (Below.heap_alloc _ _ _ (by simp only [World.size_alloc]; omega)).trans ((Below.heap_alloc _ _ _ (by simp only [World.size_alloc]; omega)).trans ((Below.heap_alloc _ _ _ (by simp only [World.size_alloc]; omega)).trans h0))
  · exact (Below.heap_alloc _ _ _ (by simp only [World.size_alloc]; omega)).trans ((Below.heap_alloc _ _ _ (by simp only [World.size_alloc]; omega)).trans h1)
  · exact (Below.heap_alloc _ _ _ (by simp only [World.size_alloc]; omega)).trans h2

end Go.Proofs.YtjmnaibbljakaaaGreatDoor

/- Types: the program's nodeError. -/
namespace Go.Proofs.YtjmnaibbljakaaaGreatDoor
open Go.RowKit

end Go.Proofs.YtjmnaibbljakaaaGreatDoor

/- Types: the program's Right. -/
namespace Go.Proofs.YtjmnaibbljakaaaGreatDoor
open Go.RowKit Go.Deep Go.Shelf
attribute [local go_sem] Oper.semAt_some

mutual
/-- All kinds are numbers that a word holds. -/
def Ty.fine : Ty → Prop
  | .mk k _ _ _ _ ts => In64 k ∧ Ty.fines ts
def Ty.fines : List Ty → Prop
  | [] => True
  | t :: r => t.fine ∧ Ty.fines r
end
theorem Ty.fine_k {t : Ty} (h : t.fine) : In64 t.k := by cases t; exact h.1
theorem Ty.fines_mem : ∀ {l : List Ty}, Ty.fines l → ∀ u ∈ l, u.fine
  | [], _, _, hu => by cases hu
  | t :: r, h, u, hu => by
    rcases List.mem_cons.1 hu with rfl | hu
    · exact h.1
    · exact Ty.fines_mem h.2 u hu
theorem Ty.fine_ts {t : Ty} (h : t.fine) : ∀ u ∈ t.ts, u.fine := by cases t; exact Ty.fines_mem h.2
/-- The nodes around, and the node, are fine. -/
def FineAt (path : List Ty) (t : Ty) : Prop := (∀ u ∈ path, In64 u.k) ∧ t.fine
theorem fineAt_down (path : List Ty) (t : Ty) (h : FineAt path t) : ∀ u ∈ t.ts, FineAt (path ++ [t]) u := fun u hu =>
  ⟨fun v hv => by
    rcases List.mem_append.1 hv with hv | hv
    · exact h.1 v hv
    · simp at hv; rw [hv]; exact Ty.fine_k h.2, Ty.fine_ts h.2 u hu⟩

theorem firstE_prefix {l r : List (List Ty × Int × Ty)} (h : l <+: r) (hl : firstE l ≠ 0) : firstE r = firstE l := by
  obtain ⟨s, rfl⟩ := h
  rw [firstE_append, if_neg hl]

def RulesIn (W : World) (bm : Nat) : Prop := RulesAt W bm
theorem abides_rules {β : Type} {D bm : Nat} (hb : bm < D) : AbidesAll D (fun (_ : β) W => RulesIn W bm) :=
  fun _ _ _ _ hs hg hr => MapIs.kept hs hg (fun e => by have := hr bm e.symm; omega)
theorem keepsOthers_below {A B : World} (h : Below A.heap.size A B) : KeepsOthers A B := ⟨h.size, fun k _ hk _ => (h.block k (Array.getElem?_eq_some_iff.1 hk).1).trans hk⟩
theorem firstE_snoc (l : List (List Ty × Int × Ty)) (x : List Ty × Int × Ty) (h : firstE l = 0) : firstE (l ++ [x]) = nodeErr x.1 x.2.1 x.2.2 := by
  rw [firstE_append, if_pos h]
  simp only [firstE]
  split
  · rename_i h0; exact h0.symm
  · rfl
end Go.Proofs.YtjmnaibbljakaaaGreatDoor

/- Types: a value that is a type, anywhere in memory; the law's send and loop. -/
namespace Go.Proofs.YtjmnaibbljakaaaGreatDoor
open Go.RowKit Go.Deep Go.Shelf

/-- A value is a type that lies in w. -/
def Lies (w : World) (v : Value) (t : Ty) : Prop := TyVal (fun k => k < w.heap.size) w v t
theorem Lies.to {w w' : World} {v : Value} {t : Ty} (h : Lies w v t) (hb : Below w.heap.size w w') : Lies w' v t :=
  TyVal.mono (fun _ hk => Nat.lt_of_lt_of_le hk hb.size) (TyVal.to (fun _ hk => hk) hb h)
theorem lies_low (w : World) : Low (fun k => k < w.heap.size) w := fun _ h => h
/-- A type is returned that lies in new memory and in B. -/
def TyIn (B : Nat → Prop) (w : World) (g : Ty) (e : Ending) (w' : World) : Prop :=
  ∃ la ln lc ka kn kc, e = .returned (.agg #[.int .i64 g.k, .int .i64 g.p, .string g.n, .int .i64 g.s, .slice la ln lc, .slice ka kn kc]) ∧
    TyVal (fun k => B k ∨ Fresh w.heap.size w'.heap.size k) w' (.agg #[.int .i64 g.k, .int .i64 g.p, .string g.n, .int .i64 g.s, .slice la ln lc, .slice ka kn kc]) g ∧ Below w.heap.size w w'
/-- A type is returned. -/
def TyOut (w : World) (g : Ty) (e : Ending) (w' : World) : Prop :=
  ∃ la ln lc ka kn kc, e = .returned (.agg #[.int .i64 g.k, .int .i64 g.p, .string g.n, .int .i64 g.s, .slice la ln lc, .slice ka kn kc]) ∧
    Lies w' (.agg #[.int .i64 g.k, .int .i64 g.p, .string g.n, .int .i64 g.s, .slice la ln lc, .slice ka kn kc]) g ∧ Below w.heap.size w w'
theorem TyRet.out {w : World} {g : Ty} {e : Ending} {w' : World} (h : TyRet w g e w') : TyOut w g e w' := by
  obtain ⟨la, ln, lc, ka, kn, kc, h1, h2, h3⟩ := h
  exact ⟨la, ln, lc, ka, kn, kc, h1, TyVal.mono (fun k hk => hk.2) h2, h3⟩

def tT : ByteArray := ⟨#[116]⟩
def e0 : ByteArray := ⟨#[]⟩
def leafT (k : Int) : Ty := .mk k 0 e0 0 [] []
def varT (s : Int) : Ty := .mk 9 0 tT s [] []
def sendT (p : Int) (r : Ty) : Ty := .mk 4 p e0 0 [] [leafT 1, r]
def loopT (p k : Int) : Ty := .mk 8 0 tT 0 [] [sendT p (varT k)]
def bareT : Ty := .mk 8 0 tT 0 [] [varT 0]

theorem nil_strs (B : Nat → Prop) (w : World) : StrSl B w (.slice none 0 0) [] := ⟨.inl ⟨⟨_, _, rfl⟩, rfl⟩, by simp [maxLen], fun s h => by cases h⟩
theorem nil_tys (B : Nat → Prop) (w : World) : TySl B w (.slice none 0 0) [] := ⟨.inl ⟨⟨_, _, rfl⟩, rfl⟩, by simp [maxLen]⟩
theorem val_leaf (B : Nat → Prop) (w : World) (k p s : Int) (n : ByteArray) (hn : n.size ≤ maxLen) : TyVal B w (.agg #[.int .i64 k, .int .i64 p, .string n, .int .i64 s, .slice none 0 0, .slice none 0 0]) (.mk k p n s [] []) :=
  ⟨_, _, rfl, hn, nil_strs _ _, nil_tys _ _⟩
theorem lies_leaf (w : World) (k p s : Int) (n : ByteArray) (hn : n.size ≤ maxLen) : Lies w (.agg #[.int .i64 k, .int .i64 p, .string n, .int .i64 s, .slice none 0 0, .slice none 0 0]) (.mk k p n s [] []) :=
  ⟨_, _, rfl, hn, nil_strs _ _, nil_tys _ _⟩
theorem lies_lies {w : World} {k p s : Int} {n : ByteArray} {lv kv : Value} {t : Ty} (h : Lies w (.agg #[.int .i64 k, .int .i64 p, .string n, .int .i64 s, lv, kv]) t) : t.k = k ∧ t.p = p ∧ t.n = n ∧ t.s = s ∧ n.size ≤ maxLen ∧ StrSl (fun k => k < w.heap.size) w lv t.ls ∧ TySl (fun k => k < w.heap.size) w kv t.ts := by
  obtain ⟨lv', kv', e, h1, h2, h3⟩ := h
  simp only [Value.agg.injEq, Array.mk.injEq, List.cons.injEq, Value.int.injEq, Value.string.injEq, and_true, true_and] at e
  obtain ⟨e1, e2, e3, e4, rfl, rfl⟩ := e
  exact ⟨e1.symm, e2.symm, e3.symm, e4.symm, by rw [e3]; exact h1, h2, h3⟩
theorem alloc_lt {w w2 : World} {o : Obj} (hb : Below (w.alloc o).heap.size (w.alloc o) w2) : w.heap.size < w2.heap.size := by
  have := hb.size; simp at this; omega
theorem cell_of {W : World} {b : Nat} {cs : Array Value} {t : TypeId} {fr : Nat × Nat} (h : W.heap[b]? = some (.cells cs t fr)) (j : Nat) : W.cell? ⟨b, j, none⟩ = cs[j]? := by simp [World.cell?, h]
/-- The cells of an int and another type. -/
def send12 (k p s : Int) (n : ByteArray) (lv kv : Value) : Array Value := #[.int .i64 1, .int .i64 0, .string ⟨#[]⟩, .int .i64 0, .slice none 0 0, .slice none 0 0, .int .i64 k, .int .i64 p, .string n, .int .i64 s, lv, kv]
theorem send_rest {B : Nat → Prop} {W : World} {p : Int} {r : Ty} {lv kv : Value} (hB : Low B W) (h : TyVal B W (.agg #[.int .i64 r.k, .int .i64 r.p, .string r.n, .int .i64 r.s, lv, kv]) r) :
    TyVal (fun k => B k ∨ k = W.heap.size) (W.alloc (.cells (send12 r.k r.p r.s r.n lv kv) 25)) (.agg #[.int .i64 4, .int .i64 p, .string ⟨#[]⟩, .int .i64 0, .slice none 0 0, .slice (some ⟨W.heap.size, 0, none⟩) 2 2]) (sendT p r) := by
  have hb := blkBelow W (send12 r.k r.p r.s r.n lv kv) 25
  have hw : TyVal (fun k => B k ∨ k = W.heap.size) _ _ _ := (h.to hB hb).mono (fun _ h => .inl h)
  have hc : ∀ (j : Nat) (v : Value), (send12 r.k r.p r.s r.n lv kv)[j]? = some v → (W.alloc (.cells (send12 r.k r.p r.s r.n lv kv) 25)).cell? ⟨W.heap.size, j, none⟩ = some v := fun j v hv => blk_cell (Below.refl _ _) j hv
  refine ⟨_, _, rfl, (by decide : (⟨#[]⟩ : ByteArray).size ≤ maxLen), nil_strs _ _, ⟨.inr ⟨W.heap.size, 0, 2, rfl, .inr rfl, ?_⟩, by simp [sendT, Ty.ts, maxLen]⟩⟩
  show TyAt _ _ (leafT 1) _ _ ∧ TyAt _ _ r _ _ ∧ True
  exact ⟨tyAt_of (.inr rfl) (hc 0 _ rfl) (hc 1 _ rfl) (hc 2 _ rfl) (hc 3 _ rfl) (hc 4 _ rfl) (hc 5 _ rfl) (val_leaf _ _ 1 0 0 e0 (by decide)), tyAt_of (.inr rfl) (hc 6 _ rfl) (hc 7 _ rfl) (hc 8 _ rfl) (hc 9 _ rfl) (hc 10 _ rfl) (hc 11 _ rfl) hw, trivial⟩

/-- A type that names one Kid in a block of its own. -/
theorem rec_val {B : Nat → Prop} {W : World} {k p s : Int} {n : ByteArray} {u : Ty} {lv kv : Value} (hn : n.size ≤ maxLen) (hB : Low B W) (h : TyVal B W (.agg #[.int .i64 u.k, .int .i64 u.p, .string u.n, .int .i64 u.s, lv, kv]) u) :
    TyVal (fun j => B j ∨ j = W.heap.size) (W.alloc (.cells #[.int .i64 u.k, .int .i64 u.p, .string u.n, .int .i64 u.s, lv, kv] 25)) (.agg #[.int .i64 k, .int .i64 p, .string n, .int .i64 s, .slice none 0 0, .slice (some ⟨W.heap.size, 0, none⟩) 1 1]) (.mk k p n s [] [u]) := by
  have hb := blkBelow W #[.int .i64 u.k, .int .i64 u.p, .string u.n, .int .i64 u.s, lv, kv] 25
  have hw : TyVal (fun j => B j ∨ j = W.heap.size) _ _ _ := (h.to hB hb).mono (fun _ h => .inl h)
  have hc : ∀ (j : Nat) (v : Value), #[.int .i64 u.k, .int .i64 u.p, .string u.n, .int .i64 u.s, lv, kv][j]? = some v → (W.alloc (.cells #[.int .i64 u.k, .int .i64 u.p, .string u.n, .int .i64 u.s, lv, kv] 25)).cell? ⟨W.heap.size, j, none⟩ = some v := fun j v hv => blk_cell (Below.refl _ _) j hv
  refine ⟨_, _, rfl, hn, nil_strs _ _, ⟨.inr ⟨W.heap.size, 0, 1, rfl, .inr rfl, ?_⟩, by simp [Ty.ts, maxLen]⟩⟩
  show TyAt _ _ u _ _ ∧ True
  exact ⟨tyAt_of (.inr rfl) (hc 0 _ rfl) (hc 1 _ rfl) (hc 2 _ rfl) (hc 3 _ rfl) (hc 4 _ rfl) (hc 5 _ rfl) hw, trivial⟩

end Go.Proofs.YtjmnaibbljakaaaGreatDoor

/- Types: what the law's fixed types are. -/
namespace Go.Proofs.YtjmnaibbljakaaaGreatDoor
open Go.RowKit

theorem name_t : nameB tT = true := by decide +kernel
theorem empty_e : e0.toList.isEmpty = true := by decide +kernel
theorem right_loop : rightE (loopT 0 2) = 0 := by decide +kernel
theorem right_var : rightE (varT 0) = 4 := by decide +kernel
theorem right_bare : rightE bareT = 3 := by decide +kernel
theorem right_int : rightE (leafT 1) = 0 := by decide +kernel
theorem right_send : rightE (sendT 0 (leafT 1)) = 3 := by decide +kernel
theorem unfold_loop : Ty.put tT (loopT 0 2) (sendT 0 (varT 2)) = sendT 0 (loopT 2 2) := by rfl
theorem raise_loop : (loopT 0 2).raise 3 = loopT 3 2 := by rfl
theorem size_loop : (loopT 0 2).size = 4 := by rfl
theorem depth_loop : (loopT 0 2).depth = 3 := by rfl
theorem loop_ne_var : loopT 0 2 ≠ varT 0 := by intro h; have := congrArg Ty.k h; simp [loopT, varT, Ty.k] at this

end Go.Proofs.YtjmnaibbljakaaaGreatDoor

/- Types: the fixed examples of the law all come out right. -/
namespace Go.Proofs.YtjmnaibbljakaaaGreatDoor
open Go.RowKit Go.Deep Go.Shelf

theorem rsame_l {W : World} {v v' : Value} {t u : Ty} {b : Bool} (h : Lies W v t) (h' : Lies W v' u) (hb : eqB t u = b) : Calls Tryz.prog 68 #[v, v'] W fun e w' => e = .returned (.bool b) ∧ Below W.heap.size W w' := by
  rw [← hb]; exact rsame_any _ t u v v' W (lies_low W) h h'
theorem fine_loop : (loopT 0 2).fine := by simp [loopT, sendT, varT, leafT, Ty.fine, Ty.fines, In64]
theorem fine_var : (varT 0).fine := by simp [varT, Ty.fine, Ty.fines, In64]
theorem fine_bare : bareT.fine := by simp [bareT, varT, Ty.fine, Ty.fines, In64]
theorem fine_int : (leafT 1).fine := by simp [leafT, Ty.fine, Ty.fines, In64]
theorem fine_send : (sendT 0 (leafT 1)).fine := by simp [sendT, leafT, Ty.fine, Ty.fines, In64]

end Go.Proofs.YtjmnaibbljakaaaGreatDoor

/- Types: the two laws of layer 2. -/
namespace Go.Proofs.YtjmnaibbljakaaaGreatDoor
open Go.RowKit Go.Deep Go.Shelf

theorem few_l {W : World} {v : Value} {t : Ty} {m : Nat} {b : Bool} (h : Lies W v t) (hm : m ≤ 1000000) (hb : t.few m = b) : Calls Tryz.prog 21 #[v, .int .i64 m] W fun e w' => e = .returned (.bool b) ∧ Below W.heap.size W w' := by
  rw [← hb]; exact rfew_any _ t m hm v W (lies_low W) h
theorem rright_l {W : World} {v : Value} {t : Ty} {c : Int} (h : Lies W v t) (hs : t.size ≤ 1000000) (hc : rightE t = c) : Calls Tryz.prog 22 #[v] W fun e w' => e = .returned (.int .i64 c) ∧ Below W.heap.size W w' := by
  rw [← hc]; exact rright_any _ t v W hs (lies_low W) h
theorem rsize_l {W : World} {v : Value} {t : Ty} {c : Int} (h : Lies W v t) (hs : t.size ≤ 1000000) (hc : (t.size : Int) = c) : Calls Tryz.prog 39 #[v] W fun e w' => e = .returned (.int .i64 c) ∧ Below W.heap.size W w' := by
  rw [← hc]; exact rsize_any _ t hs v W (lies_low W) h
theorem rdepth_l {W : World} {v : Value} {t : Ty} {c : Int} (h : Lies W v t) (hd : t.depth ≤ 1000000) (hc : (t.depth : Int) = c) : Calls Tryz.prog 38 #[v] W fun e w' => e = .returned (.int .i64 c) ∧ Below W.heap.size W w' := by
  rw [← hc]; exact rdepth_any _ t hd v W (lies_low W) h
theorem few_size {t : Ty} {m : Nat} (h : t.few m = true) : t.size ≤ m ∧ t.depth ≤ 150 := by simpa [Ty.few] using h
/-- A type, its two slices written out. -/
theorem Lies.out {w : World} {v : Value} {t : Ty} (h : Lies w v t) : ∃ (la : Option Addr) (ln lc : Nat) (ka : Option Addr) (kn kc : Nat), v = .agg #[.int .i64 t.k, .int .i64 t.p, .string t.n, .int .i64 t.s, .slice la ln lc, .slice ka kn kc] := by
  obtain ⟨lv, kv, rfl, _, hl, hk⟩ := h
  obtain ⟨pa, len, c, rfl, _⟩ := hk.open
  obtain ⟨la, ln, lc, rfl, _⟩ := hl.open
  exact ⟨_, _, _, _, _, _, rfl⟩

end Go.Proofs.YtjmnaibbljakaaaGreatDoor

/- Processes: the program's small checks. -/
namespace Go.Proofs.YtjmnaibbljakaaaGreatDoor
open Go.RowKit Go.Deep Go.Shelf

def vlB (v : Vl) : Bool := if v.k = 1 then nameB v.n && v.x == 0 else if v.k = 2 then v.n.toList.isEmpty else if v.k = 3 then v.n.toList.isEmpty && (v.x == 0 || v.x == 1) else false
end Go.Proofs.YtjmnaibbljakaaaGreatDoor

/- Processes: more of the program's small checks. -/
namespace Go.Proofs.YtjmnaibbljakaaaGreatDoor
open Go.RowKit Go.Deep Go.Shelf

def partsB (ps : List Pr) : Bool := decide (∀ p ∈ ps, p.k ≠ 7) && decide (1 < ps.length)
def vlsB (vs : List Vl) : Bool := decide (∀ v ∈ vs, vlB v = true)
end Go.Proofs.YtjmnaibbljakaaaGreatDoor

/- Processes: differentLabels, rightSession, varIsOtherName. -/
namespace Go.Proofs.YtjmnaibbljakaaaGreatDoor
open Go.RowKit Go.Deep Go.Shelf

end Go.Proofs.YtjmnaibbljakaaaGreatDoor

/- Processes: varIsOtherName, prefix, nodesAt. -/
namespace Go.Proofs.YtjmnaibbljakaaaGreatDoor
open Go.RowKit Go.Deep Go.Shelf

def prefixB (k : Int) : Bool := k == 2 || (k == 3 || (k == 4 || k == 5))
def Pr.adds (p : Pr) : Nat := if p.k = 6 then 1 + p.t.size else 1
end Go.Proofs.YtjmnaibbljakaaaGreatDoor

/- Processes: fieldFits and fits. -/
namespace Go.Proofs.YtjmnaibbljakaaaGreatDoor
open Go.RowKit Go.Deep Go.Shelf

end Go.Proofs.YtjmnaibbljakaaaGreatDoor

/- Processes: fits. -/
namespace Go.Proofs.YtjmnaibbljakaaaGreatDoor
open Go.RowKit Go.Deep Go.Shelf

theorem tyVal_zero (B : Nat → Prop) (w : World) : TyVal B w (.agg #[.int .i64 0, .int .i64 0, .string ⟨#[]⟩, .int .i64 0, .slice none 0 0, .slice none 0 0]) default :=
  ⟨.slice none 0 0, .slice none 0 0, rfl, Nat.zero_le _, ⟨.inl ⟨⟨_, _, rfl⟩, rfl⟩, by simp [maxLen, default, Ty.ls], by intro s hs; cases hs⟩, ⟨.inl ⟨⟨_, _, rfl⟩, rfl⟩, by simp [maxLen, default, Ty.ts]⟩⟩

theorem run_build0 (W : World) : (Instr.build 25 #[]).run Tryz.prog W = .ok (.agg #[.int .i64 0, .int .i64 0, .string ⟨#[]⟩, .int .i64 0, .slice none 0 0, .slice none 0 0]) W := by kernel_rfl

end Go.Proofs.YtjmnaibbljakaaaGreatDoor

/- Processes: the program's table of rules, made. -/
namespace Go.Proofs.YtjmnaibbljakaaaGreatDoor
open Go.RowKit Go.Deep Go.Shelf

def pknK (k : Int) : Bool := decide (1 ≤ k) && decide (k ≤ 8)
end Go.Proofs.YtjmnaibbljakaaaGreatDoor

/- Processes: what the rule of a kind says of a node. -/
namespace Go.Proofs.YtjmnaibbljakaaaGreatDoor
open Go.RowKit Go.Deep Go.Shelf

noncomputable def Pr.r0 (p : Pr) : Bool :=
  if p.k = 2 then (nameB p.c) else if p.k = 3 then (nameB p.c) else if p.k = 4 then (nameB p.c) else if p.k = 5 then (nameB p.c) else if p.k = 6 then (nameB p.c) else if p.k = 8 then (nameB p.c) else p.c.toList.isEmpty
noncomputable def Pr.r1 (p : Pr) : Bool :=
  if p.k = 3 then (nameB p.x) else if p.k = 6 then (nameB p.x && !decide (p.x = p.c)) else p.x.toList.isEmpty
noncomputable def Pr.r2 (p : Pr) : Bool :=
  if p.k = 4 then (decide (p.ls.length = 1) && labelsB p.ls) else if p.k = 5 then (labelsB p.ls && decide (0 < p.ls.length)) else decide (p.ls.length = 0)
noncomputable def Pr.r3 (p : Pr) : Bool :=
  if p.k = 2 then (decide (p.vs.length = 1) && vlsB p.vs) else if p.k = 8 then (vlsB p.vs) else decide (p.vs.length = 0)
noncomputable def Pr.r4 (p : Pr) : Bool :=
  if p.k = 6 then ((p.t.k != 1 && p.t.k != 2) && rightE p.t == 0) else eqB p.t default
noncomputable def Pr.r5 (p : Pr) : Bool :=
  if p.k = 2 then (decide (p.ps.length = 1)) else if p.k = 3 then (decide (p.ps.length = 1)) else if p.k = 4 then (decide (p.ps.length = 1)) else if p.k = 5 then (decide (p.ps.length = p.ls.length)) else if p.k = 6 then (decide (p.ps.length = 1)) else if p.k = 7 then (partsB p.ps) else decide (p.ps.length = 0)
/-- Is a node shaped as its kind asks? -/
noncomputable def Pr.shp (p : Pr) : Bool := p.r0 && (p.r1 && (p.r2 && (p.r3 && (p.r4 && p.r5))))

end Go.Proofs.YtjmnaibbljakaaaGreatDoor

/- Processes: sameness, by the program. -/
namespace Go.Proofs.YtjmnaibbljakaaaGreatDoor
open Go.RowKit Go.Deep Go.Shelf

noncomputable def eqP (p q : Pr) : Bool := @decide (p = q) (Classical.propDecidable _)
theorem eqP_true {p q : Pr} : eqP p q = true ↔ p = q := by unfold eqP; simp
theorem eqP_self (p : Pr) : eqP p p = true := eqP_true.2 rfl
theorem eqP_ne {p q : Pr} (h : p ≠ q) : eqP p q = false := by
  cases e : eqP p q with
  | false => rfl
  | true => exact absurd (eqP_true.1 e) h
noncomputable def eqQ (p q : List Pr) : Bool := @decide (p = q) (Classical.propDecidable _)
theorem eqQ_true {p q : List Pr} : eqQ p q = true ↔ p = q := by unfold eqQ; simp
theorem eqQ_ne {p q : List Pr} (h : p ≠ q) : eqQ p q = false := by
  cases e : eqQ p q with
  | false => rfl
  | true => exact absurd (eqQ_true.1 e) h
/-- What is asked of a function that compares two processes in memory. -/
def SameP (f : Nat) (B : Nat → Prop) (p : Pr) : Prop := ∀ (q : Pr) (b o b' o' : Nat) (w : World), Low B w → PrAt B w p b o → PrAt B w q b' o' → Calls Tryz.prog f #[.pointer (some ⟨b, o, none⟩), .pointer (some ⟨b', o', none⟩)] w fun e w' => e = .returned (.bool (eqP p q)) ∧ Below w.heap.size w w'

end Go.Proofs.YtjmnaibbljakaaaGreatDoor

/- Processes: Prefix and Same. -/
namespace Go.Proofs.YtjmnaibbljakaaaGreatDoor
open Go.RowKit Go.Deep Go.Shelf

end Go.Proofs.YtjmnaibbljakaaaGreatDoor

/- Processes: the reference's In. -/
namespace Go.Proofs.YtjmnaibbljakaaaGreatDoor
open Go.RowKit

end Go.Proofs.YtjmnaibbljakaaaGreatDoor

/- Processes: binders. -/
namespace Go.Proofs.YtjmnaibbljakaaaGreatDoor
open Go.RowKit Go.Deep Go.Shelf

/-- The names that a node binds. -/
def Pr.bnd (p : Pr) : List ByteArray := if p.k = 3 then [p.x] else if p.k = 6 then [p.c, p.x] else []
theorem strSl_made {w W : World} (l : List ByteArray) (hb : Below (w.heap.size + 1) (w.alloc (.cells (l.map Value.string).toArray 9)) W) (hs : ∀ s ∈ l, s.size ≤ maxLen) (hl : l.length ≤ maxLen) :
    StrSl (Fresh w.heap.size W.heap.size) W (.slice (some ⟨w.heap.size, 0, none⟩) l.length l.length) l :=
  ⟨.inr ⟨_, _, _, rfl, ⟨Nat.le_refl _, by have := hb.size; rw [World.size_alloc] at this; omega⟩, Nat.le_refl _, fun j s hj => by rw [Nat.zero_add]; exact blk_cell hb j (by simp [hj])⟩, hl, hs⟩
end Go.Proofs.YtjmnaibbljakaaaGreatDoor

/- Programs: headFits. -/
namespace Go.Proofs.YtjmnaibbljakaaaGreatDoor
open Go.RowKit Go.Deep Go.Shelf

noncomputable def pmB (a : Pm) : Bool := nameB a.n && rightE a.t == 0
noncomputable def hdB (d : Df) : Bool := d.ms.all pmB && nameB d.n
end Go.Proofs.YtjmnaibbljakaaaGreatDoor

/- Types: the second law of layer 2. -/
namespace Go.Proofs.YtjmnaibbljakaaaGreatDoor
open Go.RowKit Go.Deep Go.Shelf

theorem rsess_l {W : World} {k p s : Int} {n : ByteArray} {lv kv : Value} {b : Bool} (hb : (k != 1 && k != 2) = b) : Calls Tryz.prog 59 #[.agg #[.int .i64 k, .int .i64 p, .string n, .int .i64 s, lv, kv]] W fun e w' => e = .returned (.bool b) ∧ Below W.heap.size W w' := by
  rw [← hb]; exact rsession_any k p s n lv kv W
theorem six_two_below (w : World) (a0 a1 a2 a3 a4 a5 b0 b1 b2 b3 b4 b5 : Value) : Below w.heap.size w ((w.alloc (.cells #[a0, a1, a2, a3, a4, a5] 25)).alloc (.cells #[b0, b1, b2, b3, b4, b5] 25)) := box2_below w _ _

end Go.Proofs.YtjmnaibbljakaaaGreatDoor

/- No environment: see XGrEnv. -/
namespace Go.Proofs.YtjmnaibbljakaaaGreatDoor
end Go.Proofs.YtjmnaibbljakaaaGreatDoor

/- Types: a type that came in as an argument. -/
namespace Go.Proofs.YtjmnaibbljakaaaGreatDoor
open Go.ChangeShapes Go.WideShapes Go.ChangeAt Go.RowKit Go.Deep

theorem choose_list {α : Type} (Q : Nat → α → Prop) : ∀ n : Nat, (∀ i, i < n → ∃ x, Q i x) → ∃ ls : List α, ls.length = n ∧ ∀ i x, ls[i]? = some x → Q i x
  | 0, _ => ⟨[], rfl, fun i x h => by simp at h⟩
  | n + 1, h => by
    obtain ⟨ls, hl, hq⟩ := choose_list Q n (fun i hi => h i (by omega))
    obtain ⟨x, hx⟩ := h n (by omega)
    refine ⟨ls ++ [x], by simp [hl], fun i y hy => ?_⟩
    by_cases hi : i < ls.length
    · rw [List.getElem?_append_left hi] at hy; exact hq i y hy
    · rw [List.getElem?_append_right (by omega)] at hy
      have : i - ls.length = 0 := by
        rcases Nat.eq_zero_or_pos (i - ls.length) with h0 | h0
        · exact h0
        · rw [List.getElem?_eq_none (by simp; omega)] at hy; cases hy
      rw [this] at hy
      simp at hy
      subst hy
      have : i = n := by omega
      subst this
      exact hx
theorem addr_of_cell {w : World} {a : Addr} {v : Value} (h : w.cell? a = some v) : a = ⟨a.block, a.off, none⟩ ∧ a.block < w.heap.size := by
  obtain ⟨b, o, s⟩ := a
  unfold World.cell? at h
  cases hb : w.heap[b]? with
  | none => simp [hb] at h
  | some ob =>
    have hlt := (Array.getElem?_eq_some_iff.1 hb).1
    cases s with
    | none => exact ⟨rfl, hlt⟩
    | some s => cases ob <;> simp [hb] at h
theorem add_block {b o : Nat} (j : Nat) : (⟨b, o, none⟩ : Addr).add j = ⟨b, o + j, none⟩ := by
  unfold Addr.add
  by_cases h : j = 0
  · subst h; simp
  · simp [h]
theorem add_zero' (a : Addr) : a.add 0 = a := by unfold Addr.add; simp
/-- A struct of one-cell fields, field by field. -/
theorem fields_of {H : Type} {enc : TypeId × Value → H} {P : Program} {w : World} {base : Nat} {spare : Nat → Bool} {held : Bool} {e : TypeId} {fs : Array Field} {fuel : Nat} {cs : List Value} {x : DataW H × List MemPlace}
    (he : P.underlying e = some (.struct fs)) (hone : oneCellFields P fs = true) (hC : P.cellsOf e = fs.size) (h : DataW.trod enc P w base spare held fuel e cs = some x) :
    ∃ (ys : List (DataW H × List MemPlace)) (n : Nat), fuel = n + 1 ∧ x = (.agg (ys.map (·.1)), ys.flatMap (·.2)) ∧ cs.length = fs.size ∧ ys.length = fs.size ∧
      ∀ (j : Nat) (f : Field), fs[j]? = some f → ∃ v y, cs[j]? = some v ∧ ys[j]? = some y ∧ DataW.trod enc P w base spare held n f.type [v] = some y := by
  obtain ⟨ys, n, hn, hx, hl, hyl, hf⟩ := DataW.trod_struct he h
  rw [hC] at hl
  refine ⟨ys, n, hn, hx, hl, hyl, fun j f hj => ?_⟩
  have hlt := (Array.getElem?_eq_some_iff.1 hj).1
  obtain ⟨ho, h1⟩ := hone_of hone j f hj
  have h2 := hf j f hj
  obtain ⟨v, hv⟩ : ∃ v, cs[j]? = some v := ⟨_, List.getElem?_eq_getElem (by omega)⟩
  obtain ⟨y, hy⟩ : ∃ y, ys[j]? = some y := ⟨_, List.getElem?_eq_getElem (by omega)⟩
  have ht : (cs.drop j).take 1 = [v] := by
    have hd := List.drop_eq_getElem_cons (l := cs) (i := j) (by omega)
    rw [List.getElem?_eq_getElem (by omega)] at hv
    rw [hd, List.take_succ_cons, List.take_zero]
    simpa using hv
  rw [ho, h1, ht, hy] at h2
  exact ⟨v, y, hv, hy, h2⟩
/-- A slice: nil, or elements that read with less fuel. -/
theorem slice_of {H : Type} {enc : TypeId × Value → H} {P : Program} {w : World} {base : Nat} {spare : Nat → Bool} {held : Bool} {t e : TypeId} {fuel : Nat} {v : Value} {x : DataW H × List MemPlace}
    (he : P.underlying t = some (.slice e)) (h : DataW.trod enc P w base spare held fuel t [v] = some x) :
    ∃ (a : Option Addr) (len cap : Nat), v = .slice a len cap ∧ len ≤ cap ∧ cap ≤ maxLen ∧ ∀ i, i < len → ∃ ad n cs y, a = some ad ∧ n < fuel ∧ w.cells? base (ad.add (i * P.cellsOf e)) (P.cellsOf e) = some cs ∧ DataW.trod enc P w base spare held n e cs = some y := by
  rcases DataW.trod_slice he h with ⟨hc, hx⟩ | ⟨a, len, cap, elems, rest, n, hn, hcs, hx, hb, hl, hm, hlen, hel, _⟩
  · simp only [List.cons.injEq, and_true] at hc
    exact ⟨none, 0, 0, hc, by omega, by simp [maxLen], fun i hi => by omega⟩
  · simp only [List.cons.injEq, and_true] at hcs
    refine ⟨some a, len, cap, hcs, hl, hm, fun i hi => ?_⟩
    have h1 := hel i hi
    obtain ⟨y, hy⟩ : ∃ y, elems[i]? = some y := ⟨_, List.getElem?_eq_getElem (by omega)⟩
    rw [hy] at h1
    cases hq : w.cells? base (a.add (i * P.cellsOf e)) (P.cellsOf e) with
    | none => rw [hq] at h1; simp at h1
    | some cs => rw [hq] at h1; exact ⟨a, n, cs, y, rfl, by omega, hq, by simpa using h1⟩

theorem wf_in {n : Int} (h : (Lit.int .i64 n).wf = true) : In64 n := by
  unfold Lit.wf at h
  rw [Bool.and_eq_true, decide_eq_true_eq, decide_eq_true_eq] at h
  exact h

theorem strs_open {H : Type} {enc : TypeId × Value → H} {W : World} {base : Nat} {spare : Nat → Bool} {held : Bool} {fuel : Nat} {v : Value} {x : DataW H × List MemPlace} (h : DataW.trod enc Tryz.prog W base spare held fuel 22 [v] = some x) :
    ∃ ls, StrSl (fun k => k < W.heap.size) W v ls := by
  obtain ⟨a, len, cap, rfl, hl, hm, hi⟩ := slice_of Tryz.underlying22 h
  rw [show Tryz.prog.cellsOf 9 = 1 from by kernel_rfl] at hi
  have each : ∀ i, i < len → ∃ s : ByteArray, s.size ≤ maxLen ∧ ∃ b o, a = some ⟨b, o, none⟩ ∧ b < W.heap.size ∧ W.cell? ⟨b, o + i, none⟩ = some (.string s) := by
    intro i hin
    obtain ⟨ad, n, cs, y, rfl, _, hc, ht⟩ := hi i hin
    obtain ⟨ad0, n0, cs0, y0, e0, _, hc0, ht0⟩ := hi 0 (by omega)
    obtain rfl := Option.some.inj e0
    obtain ⟨s, rfl, _, hs⟩ := DataW.trod_string Tryz.underlying9 ht
    obtain ⟨s0, rfl, _, _⟩ := DataW.trod_string Tryz.underlying9 ht0
    obtain ⟨_, _, hat⟩ := World.cells?_some hc
    obtain ⟨_, _, hat0⟩ := World.cells?_some hc0
    have h0 := hat0 0 (by omega)
    have h1 := hat 0 (by omega)
    rw [Nat.zero_mul, add_zero', add_zero'] at h0
    obtain ⟨e1, e2⟩ := addr_of_cell h0
    rw [add_zero', e1, add_block] at h1
    exact ⟨s, hs, ad.block, ad.off, by rw [← e1], e2, by simpa using h1⟩
  obtain ⟨ls, hln, hls⟩ := choose_list _ len each
  refine ⟨ls, ?_, by omega, fun s hs => ?_⟩
  · cases ls with
    | nil => exact .inl ⟨⟨a, cap, by rw [← hln]; rfl⟩, rfl⟩
    | cons s0 r =>
      obtain ⟨_, b, o, rfl, hb, _⟩ := hls 0 s0 rfl
      refine .inr ⟨b, o, cap, by rw [hln], hb, by omega, fun j s hj => ?_⟩
      obtain ⟨_, b', o', e, _, hc⟩ := hls j s hj
      simp only [Option.some.injEq, Addr.mk.injEq, and_true] at e
      obtain ⟨rfl, rfl⟩ := e
      exact hc
  · obtain ⟨i, hi'⟩ := List.mem_iff_getElem?.1 hs
    exact (hls i s hi').1

/-- The cells of a type. -/
def tyCells (t : Ty) (lv kv : Value) : List Value := [.int .i64 t.k, .int .i64 t.p, .string t.n, .int .i64 t.s, lv, kv]
theorem tyCellsOf : Tryz.prog.cellsOf 25 = 6 := by kernel_rfl

set_option maxRecDepth 100000 in
theorem ty_open {H : Type} {enc : TypeId × Value → H} {W : World} {base : Nat} {spare : Nat → Bool} {held : Bool} : ∀ (fuel : Nat) (cs : List Value) (x : DataW H × List MemPlace), DataW.trod enc Tryz.prog W base spare held fuel 25 cs = some x →
    ∃ t lv kv, cs = tyCells t lv kv ∧ t.fine ∧ Lies W (.agg (tyCells t lv kv).toArray) t := by
  intro fuel
  induction fuel using Nat.strongRecOn with
  | _ fuel ih =>
  intro cs x h
  obtain ⟨ys, n', hn', hD, hcl, hyl, hf⟩ := fields_of Tryz.underlying25 (by kernel_rfl) (by kernel_rfl) h
  obtain ⟨v0, y0, e0, z0, t0⟩ := hf 0 _ rfl
  obtain ⟨v1, y1, e1, z1, t1⟩ := hf 1 _ rfl
  obtain ⟨v2, y2, e2, z2, t2⟩ := hf 2 _ rfl
  obtain ⟨v3, y3, e3, z3, t3⟩ := hf 3 _ rfl
  obtain ⟨v4, y4, e4, z4, t4⟩ := hf 4 _ rfl
  obtain ⟨v5, y5, e5, z5, t5⟩ := hf 5 _ rfl
  obtain ⟨k, hk, _, wk⟩ := DataW.trod_int Tryz.underlying3 t0
  obtain ⟨p, hp, _, _⟩ := DataW.trod_int Tryz.underlying3 t1
  obtain ⟨nm, hnm, _, hnz⟩ := DataW.trod_string Tryz.underlying9 t2
  obtain ⟨s, hs, _, _⟩ := DataW.trod_int Tryz.underlying3 t3
  simp only [List.cons.injEq, and_true] at hk hp hnm hs
  subst hk hp hnm hs
  obtain ⟨ls, hls⟩ := strs_open t4
  obtain ⟨a, len, cap, rfl, hl, hm, hi⟩ := slice_of Tryz.underlying23 t5
  rw [tyCellsOf] at hi
  have each : ∀ i, i < len → ∃ t : Ty, t.fine ∧ ∃ b o, a = some ⟨b, o, none⟩ ∧ TyAt (fun k => k < W.heap.size) W t b (o + i * 6) := by
    intro i hin
    obtain ⟨ad, n, cs', y, rfl, hlt, hc, ht⟩ := hi i hin
    obtain ⟨ad0, n0, cs0, y0, e0, _, hc0, ht0⟩ := hi 0 (by omega)
    obtain rfl := Option.some.inj e0
    obtain ⟨t, lv, kv, rfl, hfine, hlies⟩ := ih n (by omega) cs' y ht
    obtain ⟨_, hl6, hat⟩ := World.cells?_some hc
    obtain ⟨_, hl0, hat0⟩ := World.cells?_some hc0
    have h0 := hat0 0 (by omega)
    rw [Nat.zero_mul, add_zero', add_zero', List.getElem?_eq_getElem (by omega)] at h0
    obtain ⟨e1, e2⟩ := addr_of_cell h0
    rw [e1] at hat
    simp only [add_block] at hat
    refine ⟨t, hfine, ad.block, ad.off, by rw [← e1], ?_⟩
    refine tyAt_of e2 ?_ ?_ ?_ ?_ ?_ ?_ hlies
    · have := hat 0 (by omega); simpa [tyCells] using this
    · have := hat 1 (by omega); simpa [tyCells] using this
    · have := hat 2 (by omega); simpa [tyCells] using this
    · have := hat 3 (by omega); simpa [tyCells] using this
    · have := hat 4 (by omega); simpa [tyCells] using this
    · have := hat 5 (by omega); simpa [tyCells] using this
  obtain ⟨ts, htn, hts⟩ := choose_list _ len each
  have hcs : cs = [.int .i64 k, .int .i64 p, .string nm, .int .i64 s, v4, .slice a len cap] := by
    match cs, hcl, e0, e1, e2, e3, e4, e5 with
    | [a0, a1, a2, a3, a4, a5], _, e0, e1, e2, e3, e4, e5 =>
      simp at e0 e1 e2 e3 e4 e5
      rw [e0, e1, e2, e3, e4, e5]
  refine ⟨.mk k p nm s ls ts, v4, .slice a len cap, hcs, ⟨wf_in wk, ?_⟩, _, _, rfl, hnz, hls, ?_, by show ts.length ≤ _; omega⟩
  · have : ∀ l : List Ty, (∀ u ∈ l, u.fine) → Ty.fines l := by
      intro l
      induction l with
      | nil => intro _; trivial
      | cons u r ihr => intro hh; exact ⟨hh u (by simp), ihr (fun v hv => hh v (by simp [hv]))⟩
    refine this ts (fun u hu => ?_)
    obtain ⟨i, hi'⟩ := List.mem_iff_getElem?.1 hu
    exact (hts i u hi').1
  · show _ ∨ _
    cases ts with
    | nil => exact .inl ⟨⟨a, cap, by rw [← htn]; rfl⟩, rfl⟩
    | cons u0 r =>
      obtain ⟨_, b, o, rfl, hat0⟩ := hts 0 u0 rfl
      refine .inr ⟨b, o, cap, by show Value.slice _ _ _ = Value.slice _ (u0 :: r).length _; rw [htn], (TyAt.eq.1 hat0).1, ?_⟩
      refine tysAt_of (fun i t hi' => ?_)
      obtain ⟨_, b', o', e, hat⟩ := hts i t hi'
      simp only [Option.some.injEq, Addr.mk.injEq, and_true] at e
      obtain ⟨rfl, rfl⟩ := e
      exact hat

set_option maxRecDepth 100000 in
/-- A type that came in. -/
theorem type_open {H : Type} {enc : TypeId × Value → H} {W : World} {base : Nat} {spare : Nat → Bool} {held : Bool} {v : Value} {d : DataW H} {p : List MemPlace} {b0 : Nat} (hv : Value.okWide Tryz.prog W .any b0 25 v) (h : DataW.Trod enc Tryz.prog W base spare held 25 v d p) :
    ∃ t, t.fine ∧ Lies W v t := by
  obtain ⟨fuel, hf⟩ := h
  unfold Value.okWide at hv
  rw [Tryz.underlying25] at hv
  obtain ⟨cs, rfl, _, _⟩ := hv
  obtain ⟨t, lv, kv, e, hfine, hl⟩ := ty_open fuel _ _ hf
  have e' : cs.toList = tyCells t lv kv := e
  have : cs = (tyCells t lv kv).toArray := by rw [← e']
  rw [this]
  exact ⟨t, hfine, hl⟩

end Go.Proofs.YtjmnaibbljakaaaGreatDoor

/- Processes and programs: those that came in as arguments. -/
namespace Go.Proofs.YtjmnaibbljakaaaGreatDoor
open Go.ChangeShapes Go.WideShapes Go.ChangeAt Go.RowKit Go.Deep

mutual
/-- All kinds are numbers that a word holds, also those of the types. -/
def Pr.fine : Pr → Prop
  | .mk k _ _ _ _ t ps => In64 k ∧ t.fine ∧ Pr.fines ps
def Pr.fines : List Pr → Prop
  | [] => True
  | p :: r => p.fine ∧ Pr.fines r
end
theorem Pr.fine_k {p : Pr} (h : p.fine) : In64 p.k := by cases p; exact h.1
theorem Pr.fine_t {p : Pr} (h : p.fine) : p.t.fine := by cases p; exact h.2.1
theorem Pr.fines_mem : ∀ {l : List Pr}, Pr.fines l → ∀ u ∈ l, u.fine
  | [], _, _, hu => by cases hu
  | t :: r, h, u, hu => by
    rcases List.mem_cons.1 hu with rfl | hu
    · exact h.1
    · exact Pr.fines_mem h.2 u hu
theorem Pr.fine_ps {p : Pr} (h : p.fine) : ∀ u ∈ p.ps, u.fine := by cases p; exact Pr.fines_mem h.2.2
theorem Pr.fines_of : ∀ l : List Pr, (∀ u ∈ l, u.fine) → Pr.fines l := by
  intro l
  induction l with
  | nil => intro _; trivial
  | cons u r ihr => intro hh; exact ⟨hh u (by simp), ihr (fun v hv => hh v (by simp [hv]))⟩
def Df.fine (d : Df) : Prop := (∀ a ∈ d.ms, a.t.fine) ∧ d.b.fine
def Pg.fine (g : Pg) : Prop := (∀ d ∈ g.ds, d.fine) ∧ g.m.fine

/-- A value is a process that lies in w. -/
def PLies (w : World) (v : Value) (p : Pr) : Prop := PrVal (fun k => k < w.heap.size) w v p
theorem PLies.to {w w' : World} {v : Value} {p : Pr} (h : PLies w v p) (hb : Below w.heap.size w w') : PLies w' v p :=
  PrVal.mono (fun _ hk => Nat.lt_of_lt_of_le hk hb.size) (PrVal.to (fun _ hk => hk) hb h)
/-- A value is a program that lies in w. -/
def GLies (w : World) (v : Value) (g : Pg) : Prop := PgVal (fun k => k < w.heap.size) w v g
theorem GLies.to {w w' : World} {v : Value} {g : Pg} (h : GLies w v g) (hb : Below w.heap.size w w') : GLies w' v g :=
  PgVal.mono (fun _ hk => Nat.lt_of_lt_of_le hk hb.size) (PgVal.to (fun _ hk => hk) hb h)

/-- One field of a struct. -/
theorem fld {H : Type} {enc : TypeId × Value → H} {P : Program} {w : World} {base : Nat} {spare : Nat → Bool} {held : Bool} {n : Nat} {cs : List Value} {fs : Array Field} {xs : List (DataW H × List MemPlace)} (hx : xs.length = fs.size)
    (hf : ∀ (i : Nat) (f : Field), fs[i]? = some f → DataW.trod enc P w base spare held n f.type ((cs.drop f.offset).take (P.cellsOf f.type)) = xs[i]?) (i : Nat) {f : Field} (hi : fs[i]? = some f) {c : Nat} (hc : P.cellsOf f.type = c) {ds : List Value} (hd : (cs.drop f.offset).take c = ds) {t : TypeId} (ht : f.type = t) :
    ∃ y, DataW.trod enc P w base spare held n t ds = some y := by
  subst ht hd hc
  have hlt := (Array.getElem?_eq_some_iff.1 hi).1
  rw [hf i f hi]
  exact ⟨_, List.getElem?_eq_getElem (by omega)⟩

/-- The elements of a slice, each of which is told from its cells. -/
theorem rows_of {H : Type} {enc : TypeId × Value → H} {P : Program} {w : World} {base : Nat} {spare : Nat → Bool} {held : Bool} {e : TypeId} {fuel len c : Nat} {a : Option Addr} {α : Type} (Q : α → Nat → Nat → Prop) (hc : 0 < c)
    (hi : ∀ i, i < len → ∃ ad n cs y, a = some ad ∧ n < fuel ∧ w.cells? base (ad.add (i * c)) c = some cs ∧ DataW.trod enc P w base spare held n e cs = some y)
    (hel : ∀ n cs y, n < fuel → cs.length = c → DataW.trod enc P w base spare held n e cs = some y → ∃ x : α, ∀ b o, b < w.heap.size → (∀ j v, cs[j]? = some v → w.cell? ⟨b, o + j, none⟩ = some v) → Q x b o) :
    ∃ xs : List α, xs.length = len ∧ (xs = [] ∨ ∃ b o, a = some ⟨b, o, none⟩ ∧ b < w.heap.size ∧ ∀ j x, xs[j]? = some x → Q x b (o + j * c)) ∧ ∀ x ∈ xs, ∃ b o, Q x b o := by
  have each : ∀ i, i < len → ∃ x : α, ∃ b o, a = some ⟨b, o, none⟩ ∧ b < w.heap.size ∧ Q x b (o + i * c) := by
    intro i hin
    obtain ⟨ad, n, cs, y, rfl, hn, hcs, ht⟩ := hi i hin
    obtain ⟨ad0, n0, cs0, y0, e0, _, hcs0, ht0⟩ := hi 0 (by omega)
    obtain rfl := Option.some.inj e0
    obtain ⟨_, hl, hat⟩ := World.cells?_some hcs
    obtain ⟨_, hl0, hat0⟩ := World.cells?_some hcs0
    have h0 := hat0 0 hc
    rw [Nat.zero_mul, add_zero', add_zero', List.getElem?_eq_getElem (by omega)] at h0
    obtain ⟨e1, e2⟩ := addr_of_cell h0
    obtain ⟨x, hx⟩ := hel n cs y hn hl ht
    rw [e1] at hat
    simp only [add_block] at hat
    exact ⟨x, ad.block, ad.off, by rw [← e1], e2, hx _ _ e2 (fun j v hj => by
      have hj' : j < c := by rw [← hl]; exact (List.getElem?_eq_some_iff.1 hj).1
      rw [hat j hj', hj])⟩
  obtain ⟨xs, hn, hxs⟩ := choose_list _ len each
  refine ⟨xs, hn, ?_, fun x hx => ?_⟩
  · cases xs with
    | nil => exact .inl rfl
    | cons x0 r =>
      obtain ⟨b, o, rfl, hb, _⟩ := hxs 0 x0 rfl
      refine .inr ⟨b, o, rfl, hb, fun j x hj => ?_⟩
      obtain ⟨b', o', e, _, hq⟩ := hxs j x hj
      simp only [Option.some.injEq, Addr.mk.injEq, and_true] at e
      obtain ⟨rfl, rfl⟩ := e
      exact hq
  · obtain ⟨i, hi'⟩ := List.mem_iff_getElem?.1 hx
    obtain ⟨b, o, _, _, hq⟩ := hxs i x hi'
    exact ⟨_, _, hq⟩

theorem list3 {α : Type} {l : List α} (h : l.length = 3) : ∃ a b c, l = [a, b, c] := by
  match l, h with
  | [a, b, c], _ => exact ⟨a, b, c, rfl⟩
theorem list7 {α : Type} {l : List α} (h : l.length = 7) : ∃ a0 a1 a2 a3 a4 a5 a6, l = [a0, a1, a2, a3, a4, a5, a6] := by
  match l, h with
  | [a0, a1, a2, a3, a4, a5, a6], _ => exact ⟨_, _, _, _, _, _, _, rfl⟩
theorem list12 {α : Type} {l : List α} (h : l.length = 12) : ∃ a0 a1 a2 a3 a4 a5 a6 a7 a8 a9 a10 a11, l = [a0, a1, a2, a3, a4, a5, a6, a7, a8, a9, a10, a11] := by
  match l, h with
  | [a0, a1, a2, a3, a4, a5, a6, a7, a8, a9, a10, a11], _ => exact ⟨_, _, _, _, _, _, _, _, _, _, _, _, rfl⟩
theorem list13 {α : Type} {l : List α} (h : l.length = 13) : ∃ a r, l = a :: r ∧ r.length = 12 := by
  cases l with
  | nil => simp at h
  | cons a r => exact ⟨a, r, rfl, by simpa using h⟩
theorem list14 {α : Type} {l : List α} (h : l.length = 14) : ∃ a b r, l = a :: b :: r ∧ r.length = 12 := by
  match l, h with
  | a :: b :: r, h => exact ⟨a, b, r, rfl, by simpa using h⟩

/-- The cells of a process. -/
def prCells (p : Pr) (lv av tl tk kv : Value) : List Value := [.int .i64 p.k, .string p.c, .string p.x, lv, av, .int .i64 p.t.k, .int .i64 p.t.p, .string p.t.n, .int .i64 p.t.s, tl, tk, kv]

end Go.Proofs.YtjmnaibbljakaaaGreatDoor

/- Processes: the reference's measures. -/
namespace Go.Proofs.YtjmnaibbljakaaaGreatDoor
open Go.RowKit

end Go.Proofs.YtjmnaibbljakaaaGreatDoor

/- Processes: the reference's types, left, Few. -/
namespace Go.Proofs.YtjmnaibbljakaaaGreatDoor
open Go.RowKit

mutual
/-- The nodes of the types that stand at PNew. -/
def Pr.typ : Pr → Nat
  | .mk k _ _ _ _ t ps => (if k = 6 then t.size else 0) + Pr.typs ps
def Pr.typs : List Pr → Nat
  | [] => 0
  | p :: r => p.typ + Pr.typs r
end
def Pr.typ0 (p : Pr) : Nat := if p.k = 6 then p.t.size else 0
theorem Pr.typ_eq (p : Pr) : p.typ = p.typ0 + Pr.typs p.ps := by
  cases p
  rename_i k _ _ _ _ _ _
  by_cases h : k = 6 <;> simp [Pr.typ, Pr.ps, Pr.typ0, Pr.k, Pr.t, h]
theorem Pr.typs_append (l r : List Pr) : Pr.typs (l ++ r) = Pr.typs l + Pr.typs r := by
  induction l with
  | nil => simp [Pr.typs]
  | cons t l ih => simp only [List.cons_append, Pr.typs, ih]; omega
theorem Pr.typs_take {l : List Pr} {i : Nat} {p : Pr} (h : l[i]? = some p) : Pr.typs (l.take (i + 1)) = Pr.typs (l.take i) + p.typ := by
  rw [take_snoc_get h, Pr.typs_append]; simp [Pr.typs]
theorem Pr.typs_take_le (l : List Pr) (i : Nat) : Pr.typs (l.take i) ≤ Pr.typs l := by
  have := Pr.typs_append (l.take i) (l.drop i); rw [List.take_append_drop] at this; omega
theorem Pr.typ_mem {l : List Pr} {p : Pr} (h : p ∈ l) : p.typ ≤ Pr.typs l := by
  induction l with
  | nil => cases h
  | cons u l ih =>
    simp only [Pr.typs]
    rcases List.mem_cons.1 h with rfl | h
    · omega
    · have := ih h; omega

mutual
/-- All types are small. -/
def Pr.tf : Pr → Prop
  | .mk _ _ _ _ _ t ps => t.few 300 = true ∧ Pr.tfs ps
def Pr.tfs : List Pr → Prop
  | [] => True
  | p :: r => p.tf ∧ Pr.tfs r
end
theorem Pr.tf_t {p : Pr} (h : p.tf) : p.t.few 300 = true := by cases p; exact h.1
theorem Pr.tfs_mem : ∀ {l : List Pr}, Pr.tfs l → ∀ u ∈ l, u.tf
  | [], _, _, hu => by cases hu
  | t :: r, h, u, hu => by
    rcases List.mem_cons.1 hu with rfl | hu
    · exact h.1
    · exact Pr.tfs_mem h.2 u hu
theorem Pr.tf_ps {p : Pr} (h : p.tf) : ∀ u ∈ p.ps, u.tf := by cases p; exact Pr.tfs_mem h.2
theorem Pr.tf_size {p : Pr} (h : p.tf) : p.t.size ≤ 300 := (few_size (Pr.tf_t h)).1
theorem Pr.tf_depth {p : Pr} (h : p.tf) : p.t.depth ≤ 150 := (few_size (Pr.tf_t h)).2

end Go.Proofs.YtjmnaibbljakaaaGreatDoor

/- Processes: the reference's left and Few. -/
namespace Go.Proofs.YtjmnaibbljakaaaGreatDoor
open Go.RowKit

mutual
def Pr.lft : Pr → Int → Int
  | .mk _ _ _ _ _ t ps, m => if t.few 300 then Pr.lfts ps (m - 1) else -1
def Pr.lfts : List Pr → Int → Int
  | [], m => m
  | p :: r, m => if 0 ≤ m then Pr.lfts r (p.lft m) else m
end
theorem Pr.lft_eq (p : Pr) (m : Int) : p.lft m = if p.t.few 300 then Pr.lfts p.ps (m - 1) else -1 := by
  cases p
  rename_i k c x ls vs t ps
  by_cases h : t.few 300 = true <;> simp [Pr.lft, Pr.ps, Pr.t, h]
theorem Pr.lfts_neg (ps : List Pr) (m : Int) (h : ¬ 0 ≤ m) : Pr.lfts ps m = m := by cases ps <;> simp [Pr.lfts, h]
mutual
theorem Pr.lft_range : ∀ (p : Pr) (m : Int), 0 ≤ m → -1 ≤ p.lft m ∧ p.lft m ≤ m ∧ (0 ≤ p.lft m → p.lft m = m - p.size ∧ p.tf)
  | .mk k c x ls vs t ps, m, h => by
    rw [Pr.lft_eq, Pr.size_eq]; simp only [Pr.ps, Pr.t, Pr.tf]
    by_cases hf : t.few 300 = true
    · simp only [hf, if_true, true_and]
      have := Pr.lfts_range ps (m - 1) (by omega)
      exact ⟨this.1, by omega, fun h0 => ⟨by have := (this.2.2 h0).1; omega, (this.2.2 h0).2⟩⟩
    · simp only [hf]
      exact ⟨by simp, by simp; omega, fun h0 => by simp at h0⟩
theorem Pr.lfts_range : ∀ (ps : List Pr) (m : Int), -1 ≤ m → -1 ≤ Pr.lfts ps m ∧ Pr.lfts ps m ≤ m ∧ (0 ≤ Pr.lfts ps m → Pr.lfts ps m = m - Pr.sizes ps ∧ Pr.tfs ps)
  | [], m, hm => by simp only [Pr.lfts, Pr.sizes, Pr.tfs]; exact ⟨hm, by omega, fun _ => ⟨by omega, trivial⟩⟩
  | p :: r, m, hm => by
    simp only [Pr.lfts, Pr.sizes, Pr.tfs]
    by_cases h : 0 ≤ m
    · rw [if_pos h]
      have h1 := Pr.lft_range p m h
      have h2 := Pr.lfts_range r (p.lft m) h1.1
      refine ⟨h2.1, by omega, fun h0 => ?_⟩
      have h3 := h2.2.2 h0
      have h4 := h1.2.2 (by omega)
      exact ⟨by omega, h4.2, h3.2⟩
    · rw [if_neg h]
      exact ⟨hm, by omega, fun h0 => absurd h0 h⟩
end
theorem Pr.lfts_drop {ps : List Pr} {j : Nat} {p : Pr} (h : ps[j]? = some p) (m : Int) (hm : 0 ≤ m) : Pr.lfts (ps.drop j) m = Pr.lfts (ps.drop (j + 1)) (p.lft m) := by
  have hj := (List.getElem?_eq_some_iff.1 h).1
  have e : ps.drop j = p :: ps.drop (j + 1) := by rw [List.drop_eq_getElem_cons hj]; congr 1; exact (List.getElem?_eq_some_iff.1 h).2
  rw [e, Pr.lfts, if_pos hm]

theorem slices_of {B : Nat → Prop} {w : World} {t : Ty} {k p s : Int} {n : ByteArray} {tl tk : Value} (h : TyVal B w (.agg #[.int .i64 k, .int .i64 p, .string n, .int .i64 s, tl, tk]) t) : (∃ (a : Option Addr) (n c : Nat), tl = .slice a n c) ∧ ∃ (a : Option Addr) (n c : Nat), tk = .slice a n c := by
  obtain ⟨lv', kv', e, _, hl, hk2⟩ := h
  simp only [Value.agg.injEq, Array.mk.injEq, List.cons.injEq, and_true] at e
  obtain ⟨_, _, _, _, rfl, rfl⟩ := e
  obtain ⟨a, n, c, e, _⟩ := hl.open
  obtain ⟨a', n', c', e', _⟩ := hk2.open
  exact ⟨⟨a, n, c, e⟩, a', n', c', e'⟩

/-- Is a process small? -/
def Pr.few (p : Pr) (m : Nat) : Bool := decide (0 ≤ p.lft m) && decide (p.depth ≤ 150)
theorem Pr.few_facts {p : Pr} {m : Nat} (h : p.few m = true) : p.size ≤ m ∧ p.depth ≤ 150 ∧ p.tf := by
  have h' : 0 ≤ p.lft m ∧ p.depth ≤ 150 := by simpa [Pr.few] using h
  have h1 := p.lft_range m (by omega)
  have h2 := h1.2.2 h'.1
  exact ⟨by omega, h'.2, h2.2⟩

end Go.Proofs.YtjmnaibbljakaaaGreatDoor

/- Programs: their sizes, and the rows of what they hold. -/
namespace Go.Proofs.YtjmnaibbljakaaaGreatDoor
open Go.RowKit Go.Deep Go.Shelf

def sumN : List Nat → Nat
  | [] => 0
  | x :: r => x + sumN r
theorem sumN_append (l r : List Nat) : sumN (l ++ r) = sumN l + sumN r := by
  induction l with
  | nil => simp [sumN]
  | cons x l ih => simp only [List.cons_append, sumN, ih]; omega
theorem sumN_le_of_prefix {l r : List Nat} (h : l <+: r) : sumN l ≤ sumN r := by
  obtain ⟨s, rfl⟩ := h
  rw [sumN_append]; omega

/-- What the nodes of a process add. -/
def addsL (l : List (Nat × Pr)) : List Nat := l.map fun x => x.2.adds
theorem Pr.adds_eq (p : Pr) : p.adds = 1 + p.typ0 := by
  unfold Pr.adds Pr.typ0
  by_cases h : p.k = 6
  · rw [if_pos h, if_pos h]
  · rw [if_neg h, if_neg h]
theorem sum_adds : ∀ (p : Pr) (d : Nat), sumN (addsL (preP d p)) = p.size + p.typ := by
  refine Pr.ind ?_
  intro k c x ls vs t ps ih d
  have h : ∀ (l : List Pr) (d : Nat), (∀ p ∈ l, ∀ d, sumN (addsL (preP d p)) = p.size + p.typ) → sumN (addsL (prePs d l)) = Pr.sizes l + Pr.typs l := by
    intro l
    induction l with
    | nil => intro _ _; simp [prePs, addsL, sumN, Pr.sizes, Pr.typs]
    | cons u r ihl =>
      intro d hh
      have h1 := hh u (by simp) d
      have h2 := ihl d (fun t ht => hh t (by simp [ht]))
      unfold addsL at h1 h2 ⊢
      rw [prePs, List.map_append, sumN_append, h1, h2, Pr.sizes, Pr.typs]; omega
  have h1 := h ps (d + 1) ih
  rw [preP_eq, Pr.size_eq, Pr.typ_eq]
  unfold addsL at h1 ⊢
  rw [List.map_cons, sumN]
  show (Pr.mk k c x ls vs t ps).adds + sumN (List.map (fun x => x.2.adds) (prePs (d + 1) ps)) = _
  rw [h1, Pr.adds_eq]
  simp only [Pr.ps]
  omega

def Df.pms (d : Df) : List Nat := d.ms.map fun a => a.t.size
def Pg.bodies (g : Pg) : List Pr := g.ds.map (fun d => d.b) ++ [g.m]
def bodyCnts (l : List Pr) : List Nat := l.flatMap fun p => addsL (preP 1 p)
def paramCnts (l : List Df) : List Nat := l.flatMap Df.pms
/-- The numbers that make up the size of a program, part by part. -/
def Pg.cnts (g : Pg) : List Nat := paramCnts g.ds ++ bodyCnts g.bodies
def Pg.total (g : Pg) : Nat := sumN g.cnts
def Df.all (d : Df) : Nat := d.b.size + d.b.typ + sumN d.pms
theorem Pg.total_eq (g : Pg) : g.total = g.m.size + g.m.typ + sumN (g.ds.map Df.all) := by
  have h1 : ∀ l : List Pr, sumN (bodyCnts l) = sumN (l.map fun p => p.size + p.typ) := by
    intro l
    induction l with
    | nil => rfl
    | cons p r ih =>
      unfold bodyCnts at ih ⊢
      rw [List.flatMap_cons, sumN_append, sum_adds, ih, List.map_cons, sumN]
  have h2 : ∀ l : List Df, sumN (paramCnts l) + sumN ((l.map (fun d => d.b)).map fun p => p.size + p.typ) = sumN (l.map Df.all) := by
    intro l
    induction l with
    | nil => rfl
    | cons d r ih =>
      unfold paramCnts at ih ⊢
      rw [List.flatMap_cons, sumN_append, List.map_cons, List.map_cons, sumN, List.map_cons, sumN, ← ih]
      unfold Df.all
      omega
  unfold Pg.total Pg.cnts Pg.bodies
  have := h2 g.ds
  rw [sumN_append, h1, List.map_append, sumN_append]
  simp only [List.map_cons, List.map_nil, sumN]
  omega

theorem flatMap_take {α β : Type} {l : List α} {j : Nat} {x : α} (f : α → List β) (h : l[j]? = some x) : (l.take (j + 1)).flatMap f = (l.take j).flatMap f ++ f x := by
  rw [take_snoc_get h, List.flatMap_append]; simp
theorem flatMap_prefix {α β : Type} (l : List α) (j : Nat) (f : α → List β) : (l.take j).flatMap f <+: l.flatMap f := by
  conv => rhs; rw [← List.take_append_drop j l, List.flatMap_append]
  exact List.prefix_append _ _
theorem map_take_snoc {α β : Type} {l : List α} {j : Nat} {x : α} (f : α → β) (h : l[j]? = some x) : (l.take (j + 1)).map f = (l.take j).map f ++ [f x] := by
  rw [take_snoc_get h, List.map_append]; rfl
theorem map_prefix {α β : Type} (l : List α) (j : Nat) (f : α → β) : (l.take j).map f <+: l.map f := by
  conv => rhs; rw [← List.take_append_drop j l, List.map_append]
  exact List.prefix_append _ _

/-! ### Loads -/
theorem PmAt.load' {B : Nat → Prop} {w : World} {a : Pm} {b o : Nat} (h : PmAt B w a b o) :
    ∃ (la : Option Addr) (ln lc : Nat) (ka : Option Addr) (kn kc : Nat),
      (w.cell? ⟨b, o, none⟩ = some (.string a.n) ∧ w.cell? ⟨b, o + 1, none⟩ = some (.int .i64 a.t.k) ∧ w.cell? ⟨b, o + 2, none⟩ = some (.int .i64 a.t.p) ∧ w.cell? ⟨b, o + 3, none⟩ = some (.string a.t.n) ∧ w.cell? ⟨b, o + 4, none⟩ = some (.int .i64 a.t.s) ∧ w.cell? ⟨b, o + 5, none⟩ = some (.slice la ln lc) ∧ w.cell? ⟨b, o + 6, none⟩ = some (.slice ka kn kc)) ∧
      TyVal B w (.agg #[.int .i64 a.t.k, .int .i64 a.t.p, .string a.t.n, .int .i64 a.t.s, .slice la ln lc, .slice ka kn kc]) a.t := by
  obtain ⟨_, c0, hty⟩ := h
  obtain ⟨la, ln, lc, ka, kn, kc, ⟨d0, d1, d2, d3, d4, d5⟩, hv⟩ := hty.load'
  exact ⟨la, ln, lc, ka, kn, kc, ⟨c0, d0, d1, d2, d3, d4, d5⟩, hv⟩
theorem DfAt.load' {B : Nat → Prop} {w : World} {d : Df} {b o : Nat} (h : DfAt B w d b o) :
    ∃ (ma : Option Addr) (mn mc : Nat) (la : Option Addr) (ln lc : Nat) (aa : Option Addr) (an ac : Nat) (ta : Option Addr) (tn tc : Nat) (ua : Option Addr) (un uc : Nat) (ka : Option Addr) (kn kc : Nat),
      (w.cell? ⟨b, o, none⟩ = some (.string d.n) ∧ w.cell? ⟨b, o + 1, none⟩ = some (.slice ma mn mc) ∧ w.cell? ⟨b, o + 2, none⟩ = some (.int .i64 d.b.k) ∧ w.cell? ⟨b, o + 3, none⟩ = some (.string d.b.c) ∧ w.cell? ⟨b, o + 4, none⟩ = some (.string d.b.x) ∧
       w.cell? ⟨b, o + 5, none⟩ = some (.slice la ln lc) ∧ w.cell? ⟨b, o + 6, none⟩ = some (.slice aa an ac) ∧
       w.cell? ⟨b, o + 7, none⟩ = some (.int .i64 d.b.t.k) ∧ w.cell? ⟨b, o + 8, none⟩ = some (.int .i64 d.b.t.p) ∧ w.cell? ⟨b, o + 9, none⟩ = some (.string d.b.t.n) ∧ w.cell? ⟨b, o + 10, none⟩ = some (.int .i64 d.b.t.s) ∧
       w.cell? ⟨b, o + 11, none⟩ = some (.slice ta tn tc) ∧ w.cell? ⟨b, o + 12, none⟩ = some (.slice ua un uc) ∧ w.cell? ⟨b, o + 13, none⟩ = some (.slice ka kn kc)) ∧
      PmSl B w (.slice ma mn mc) d.ms ∧ PrVal B w (prAgg d.b (.slice la ln lc) (.slice aa an ac) (.slice ta tn tc) (.slice ua un uc) (.slice ka kn kc)) d.b := by
  obtain ⟨_, c0, ⟨mv, c1, hm⟩, hp⟩ := h
  obtain ⟨ma, mn, mc, rfl, _⟩ := hm.open
  obtain ⟨la, ln, lc, aa, an, ac, ta, tn, tc, ua, un, uc, ka, kn, kc, ⟨d0, d1, d2, d3, d4, d5, d6, d7, d8, d9, d10, d11⟩, hv⟩ := hp.load'
  exact ⟨ma, mn, mc, la, ln, lc, aa, an, ac, ta, tn, tc, ua, un, uc, ka, kn, kc, ⟨c0, c1, d0, d1, d2, d3, d4, d5, d6, d7, d8, d9, d10, d11⟩, hm, hv⟩
/-- What is asked of the processes that are looked at. -/
def PGood (p : Pr) : Prop := p.fine ∧ p.tf
theorem PGood.ps {p : Pr} (h : PGood p) : ∀ u ∈ p.ps, PGood u := fun u hu => ⟨Pr.fine_ps h.1 u hu, Pr.tf_ps h.2 u hu⟩

/-- What is asked of the programs that are measured. -/
def GGood (g : Pg) : Prop := g.ds.length ≤ 1000 ∧ (∀ d ∈ g.ds, ∀ a ∈ d.ms, a.t.fine ∧ a.t.few 300 = true) ∧ ∀ p ∈ g.bodies, PGood p ∧ p.depth ≤ 1000 ∧ p.size ≤ 1000000
theorem GGood.pm {g : Pg} (h : GGood g) {d : Df} (hd : d ∈ g.ds) {a : Pm} (ha : a ∈ d.ms) : a.t.size ≤ 300 ∧ a.t.depth ≤ 150 := few_size (h.2.1 d hd a ha).2
theorem Pg.body_mem {g : Pg} {d : Df} (hd : d ∈ g.ds) : d.b ∈ g.bodies := by unfold Pg.bodies; simp only [List.mem_append, List.mem_map]; exact .inl ⟨d, hd, rfl⟩
theorem Pg.main_mem (g : Pg) : g.m ∈ g.bodies := by unfold Pg.bodies; simp

end Go.Proofs.YtjmnaibbljakaaaGreatDoor

/- Programs: bodies. -/
namespace Go.Proofs.YtjmnaibbljakaaaGreatDoor
open Go.RowKit Go.Deep Go.Shelf

theorem news1 (W : World) (x : Value) (t : TypeId) : ∀ (j : Nat) (u : Value), [x][j]? = some u → (W.alloc (.cells #[x] t)).cell? ((⟨W.heap.size, 0, none⟩ : Addr).add j) = some u := by
  intro j u hj
  match j, hj with
  | 0, hj => simp at hj; subst hj; simp [Addr.add]
/-- The address of a definition's Body. -/
def bAd (pa : Option Addr) (i : Nat) : Value := .pointer (pa.map fun a => ⟨a.block, a.off + i * 14 + 2, none⟩)
def bAds (pa : Option Addr) (j : Nat) : List Value := (List.range j).map (bAd pa)
theorem bAds_succ (pa : Option Addr) (j : Nat) : bAds pa (j + 1) = bAds pa j ++ [bAd pa j] := by simp [bAds, List.range_succ]
theorem bAds_length (pa : Option Addr) (j : Nat) : (bAds pa j).length = j := by simp [bAds]
theorem bAds_get (pa : Option Addr) (j i : Nat) (h : i < j) : (bAds pa j)[i]? = some (bAd pa i) := by simp [bAds, h]
/-- The bodies of a program, one pointer each, lie in block r. -/
def BodyRow (S : Nat → Prop) (W : World) (r : Nat) (g : Pg) : Prop := ∀ (i : Nat) (p : Pr), g.bodies[i]? = some p → ∃ kb ko, W.cell? ⟨r, i, none⟩ = some (.pointer (some ⟨kb, ko, none⟩)) ∧ PrAt S W p kb ko

theorem hW_keep (S : Nat → Prop) {w W : World} (hS : Low S w) (h : Below w.heap.size w W) : Keeps S w W := h.keeps'.mono hS

end Go.Proofs.YtjmnaibbljakaaaGreatDoor

/- A range over a function whose rounds keep all that is no cells from the iterator's start on: the iterator may itself range over functions. -/
namespace Go.Proofs.YtjmnaibbljakaaaGreatDoor
open Go.RowKit

theorem AbidesAll.below {β : Type} {B : Nat} {J : β → World → Prop} (h : AbidesAll B J) {s : β} {W W' : World} (hs : J s W) (hb : Below W.heap.size W W') : J s W' :=
  h s W W' none hs ⟨hb.os, hb.tape, hb.output, hb.size, fun k hk _ => hb.block k hk⟩ (fun r e => by cases e)
theorem AbidesAll.drew {β : Type} {B : Nat} {J : β → World → Prop} (h : AbidesAll B J) {s : β} {W : World} (hs : J s W) : J s W.drew := h.below hs (Below.refl _ _).drew
theorem _root_.Go.KeepsFrom.le {B B' : Nat} {A C : World} (h : KeepsFrom B A C) (hB : B ≤ B') : KeepsFrom B' A C := ⟨h.size, fun k o hk hc hx => h.same k o (Nat.le_trans hB hk) hc hx⟩
theorem _root_.Go.KeepsFrom.put {B l : Nat} {W : World} (hl : l < B) (o : Obj) : KeepsFrom B W (W.putObj l o) := ⟨by simp, fun k o' hk hx _ => (World.putObj_heap_other (by omega)).trans hx⟩

variable {F : Fence} {n : Nat} {P : Program}

end Go.Proofs.YtjmnaibbljakaaaGreatDoor

/- Programs: counts. -/
namespace Go.Proofs.YtjmnaibbljakaaaGreatDoor
open Go.RowKit Go.Deep Go.Shelf
attribute [local go_sem] Oper.semAt_some

/-- The marks of the loops that have ended. -/
def marks (Ds : List Nat) : List Deferred := Ds.map fun D => { target := .collected D, args := #[] }
def Marked (lo : Nat) (Ds : List Nat) (W : World) : Prop := Ds.Nodup ∧ ∀ D ∈ Ds, lo ≤ D ∧ W.heap[D]? = some (.deferred (some []))
theorem Marked.nil (lo : Nat) (W : World) : Marked lo [] W := ⟨List.nodup_nil, fun D h => by cases h⟩
theorem Marked.keeps {lo : Nat} {Ds : List Nat} {A B : World} (h : Marked lo Ds A) (hk : KeepsFrom lo A B) : Marked lo Ds B := ⟨h.1, fun D hD => ⟨(h.2 D hD).1, hk.same D _ (h.2 D hD).1 (h.2 D hD).2 rfl⟩⟩
theorem Marked.cons {lo D : Nat} {Ds : List Nat} {W : World} (h : Marked lo Ds W) (hne : D ∉ Ds) (hlo : lo ≤ D) (hD : W.heap[D]? = some (.deferred (some []))) : Marked lo (D :: Ds) W :=
  ⟨List.nodup_cons.2 ⟨hne, h.1⟩, fun E hE => by
    rcases List.mem_cons.1 hE with rfl | hE
    · exact ⟨hlo, hD⟩
    · exact h.2 E hE⟩
theorem leaves_marked {F : Fence} {n lo : Nat} {P : Program} {fn : Func} {tmps : Array Value} {R : Ending → World → Prop} {J : World → Prop} (hJ : ∀ (W : World) (D : Nat) (o : Obj), J W → lo ≤ D → J (W.putObj D o)) (hR : ∀ W, J W → LeavesIn F n P fn tmps R [] .returning W) :
    ∀ (Ds : List Nat) (W : World), J W → Marked lo Ds W → LeavesInM F n P fn tmps R (marks Ds) .returning W
  | [], W, hj, _ => hR W hj
  | D :: Ds, W, hj, hm => by
    have hD := hm.2 D (by simp)
    refine ⟨by simp, .inl ⟨_, _, rfl, run_takeDeferred hD.2, ?_⟩⟩
    refine leaves_marked hJ hR Ds _ (hJ _ _ _ hj hD.1) ⟨(List.nodup_cons.1 hm.1).2, fun E hE => ⟨(hm.2 E (by simp [hE])).1, ?_⟩⟩
    have hne : E ≠ D := fun e => (List.nodup_cons.1 hm.1).1 (e ▸ hE)
    exact (World.putObj_heap_other hne).trans (hm.2 E (by simp [hE])).2

/-- The same, and no panic. -/
def noP (Q : Exit → Act → World → Prop) : Exit → Act → World → Prop
  | .panic _, _, _ => False
  | e, a, w => Q e a w
theorem noP_imp {Q : Exit → Act → World → Prop} : ∀ e a w, noP Q e a w → Q e a w := fun e a w h => by
  cases e <;> first | exact h | exact h.elim
abbrev cnArgs (x : Nat) : Array Value := #[.int .i64 (x : Int)]
/-- What a round of the caller of counts does. -/
def CnY (l : Nat) (lo : Nat) (X : Nat → Prop) (J Jx : List Nat → World → Prop) : Prop :=
  ∀ m pre x W1, x ≤ 1000 → J pre W1 → YieldAt Fence.wide m Tryz.prog l (cnArgs x) W1 fun e W' => ∃ r, e = .returned (.bool r) ∧ ((r = true ∧ J (pre ++ [x]) W' ∧ Kp X W1 W') ∨ (r = false ∧ Jx (pre ++ [x]) W')) ∧ KeepsFrom lo W1 W'
theorem grown_box {X : Nat → Prop} (W : World) (o : Obj) : Kp X W (W.alloc o) := KV.of_cells (by simp) (cellsKept_alloc W o)

theorem abides_of {α β : Type} {B B' : Nat} {J : β → World → Prop} (h : AbidesAll B J) (hB : B ≤ B') (f : α → β) : AbidesAll B' (fun s W => J (f s) W) := fun s A C row hs hg hr => h (f s) A C row hs hg (fun r e => Nat.le_trans hB (hr r e))
theorem abides_kp {β : Type} (X : Nat → Prop) (A : World) : AbidesAll A.heap.size (fun (_ : β) W => Kp X A W) := fun _ W C row hs hg hr => ⟨Nat.le_trans hs.size hg.size, fun k o hk hc hx ha => by
  have hW := hs.keep k o hk hc hx ha
  exact (hg.block k (Array.getElem?_eq_some_iff.1 hW).1 (fun e => by have := hr k e.symm; have := (Array.getElem?_eq_some_iff.1 hk).1; omega)).trans hW⟩
theorem abides_from {β : Type} (lo : Nat) (A : World) : AbidesAll A.heap.size (fun (_ : β) W => KeepsFrom lo A W) := fun _ W C row hs hg hr => ⟨Nat.le_trans hs.size hg.size, fun k o hlo hk hc => by
  have hW := hs.same k o hlo hk hc
  exact (hg.block k (Array.getElem?_eq_some_iff.1 hW).1 (fun e => by have := hr k e.symm; have := (Array.getElem?_eq_some_iff.1 hk).1; omega)).trans hW⟩
theorem addsL_snoc (l : List Np) (x : Np) : addsL ((l ++ [x]).map Np.g) = addsL (l.map Np.g) ++ [x.p.adds] := by simp [addsL, Np.g]
theorem addsL_prefix {l r : List (Nat × Pr)} (h : l <+: r) : addsL l <+: addsL r := by
  obtain ⟨s, rfl⟩ := h
  unfold addsL; rw [List.map_append]; exact List.prefix_append _ _

end Go.Proofs.YtjmnaibbljakaaaGreatDoor

/- Programs: sameness, by the program. -/
namespace Go.Proofs.YtjmnaibbljakaaaGreatDoor
open Go.RowKit Go.Deep Go.Shelf

abbrev pgAgg (g : Pg) (dv lv av tl tk kv : Value) : Value := .agg #[dv, .int .i64 g.m.k, .string g.m.c, .string g.m.x, lv, av, .int .i64 g.m.t.k, .int .i64 g.m.t.p, .string g.m.t.n, .int .i64 g.m.t.s, tl, tk, kv]
noncomputable def eqM (a a' : Pm) : Bool := decide (a.n = a'.n) && eqB a.t a'.t
theorem eqM_true {a a' : Pm} : eqM a a' = true ↔ a = a' := by
  unfold eqM; rw [Bool.and_eq_true, decide_eq_true_eq, eqB_true]; cases a; cases a'; simp
noncomputable def eqMs (p q : List Pm) : Bool := @decide (p = q) (Classical.propDecidable _)
theorem eqMs_true {p q : List Pm} : eqMs p q = true ↔ p = q := by unfold eqMs; simp
theorem eqMs_ne {p q : List Pm} (h : p ≠ q) : eqMs p q = false := by
  cases e : eqMs p q with
  | false => rfl
  | true => exact absurd (eqMs_true.1 e) h
noncomputable def eqD (a a' : Df) : Bool := decide (a.n = a'.n) && (eqMs a.ms a'.ms && eqP a.b a'.b)
theorem eqD_true {a a' : Df} : eqD a a' = true ↔ a = a' := by
  unfold eqD; rw [Bool.and_eq_true, Bool.and_eq_true, decide_eq_true_eq, eqMs_true, eqP_true]; cases a; cases a'; simp
noncomputable def eqDs (p q : List Df) : Bool := @decide (p = q) (Classical.propDecidable _)
theorem eqDs_true {p q : List Df} : eqDs p q = true ↔ p = q := by unfold eqDs; simp
theorem eqDs_ne {p q : List Df} (h : p ≠ q) : eqDs p q = false := by
  cases e : eqDs p q with
  | false => rfl
  | true => exact absurd (eqDs_true.1 e) h
noncomputable def eqG (a a' : Pg) : Bool := eqDs a.ds a'.ds && eqP a.m a'.m
theorem eqG_true {a a' : Pg} : eqG a a' = true ↔ a = a' := by
  unfold eqG; rw [Bool.and_eq_true, eqDs_true, eqP_true]; cases a; cases a'; simp
theorem eqG_self (g : Pg) : eqG g g = true := eqG_true.2 rfl
theorem eqM_ne {a a' : Pm} (h : a ≠ a') : eqM a a' = false := by
  cases e : eqM a a' with
  | false => rfl
  | true => exact absurd (eqM_true.1 e) h
theorem eqD_ne {a a' : Df} (h : a ≠ a') : eqD a a' = false := by
  cases e : eqD a a' with
  | false => rfl
  | true => exact absurd (eqD_true.1 e) h

end Go.Proofs.YtjmnaibbljakaaaGreatDoor

/- Programs: Total, tooManyNodes. -/
namespace Go.Proofs.YtjmnaibbljakaaaGreatDoor
open Go.RowKit Go.Deep Go.Shelf
attribute [local go_sem] Oper.semAt_some

theorem sumN_snoc (l : List Nat) (x : Nat) : sumN (l ++ [x]) = sumN l + x := by rw [sumN_append]; simp [sumN]

theorem w64_add (s x : Nat) : wrap64 (wrap64 (s : Int) + (x : Int)) = wrap64 ((s + x : Nat) : Int) := by unfold wrap64; omega

def Pg.many (g : Pg) : Bool := decide (10000 < g.total)

end Go.Proofs.YtjmnaibbljakaaaGreatDoor
