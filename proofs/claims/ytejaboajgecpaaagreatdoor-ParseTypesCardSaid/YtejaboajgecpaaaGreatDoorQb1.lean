/- A range over a function whose iterator t: lemmas. -/
import Derived.Test.YtejaboajgecpaaaGreatDoorProg
import Derived.RangeFuncNested
import Derived.RangeFuncBound
import Derived.Below
import Derived.Lib.Hide
import Derived.RangeFuncWrites
import Derived.WalkSmall
import Derived.WalkKit
import Derived.WalkSpells
import Derived.WalkLawsBesides
import Derived.BigQuiet
import Derived.Deep.QuietTactic
set_option maxHeartbeats 16000000
set_option maxRecDepth 100000
namespace Go.Proofs.YtejaboajgecpaaaGreatDoor
open Go.RowKit
def AbidesAll {β : Type} (B : Nat) (J : β -> World -> Prop) : Prop :=
 ∀ s W W' row, J s W -> W.grownBy W' row -> (∀ r, row = some r -> B <= r) -> J s W'
theorem AbidesAll.alloc {β : Type} {B : Nat} {J : β -> World -> Prop} (h : AbidesAll B J) {s : β} {W : World} (o : Obj) (hs : J s W) : J s (W.alloc o) :=
 h s W _ none hs (World.grownBy_alloc W o none) (fun r e => by cases e)
theorem AbidesAll.put {β : Type} {B : Nat} {J : β -> World -> Prop} (h : AbidesAll B J) {s : β} {W : World} {l : Nat} (o : Obj) (hs : J s W) (hB : B <= l) : J s (W.putObj l o) :=
 h s W _ (some l) hs (grownBy_putObj' W l o) (fun r e => by cases e; exact hB)
theorem AbidesAll.and {β : Type} {B : Nat} {J K : β -> World -> Prop} (h : AbidesAll B J) (k : AbidesAll B K) : AbidesAll B (fun s W => J s W /\ K s W) :=
 fun s A B' row hs hg hr => ⟨h s A B' row hs.1 hg hr, k s A B' row hs.2 hg hr⟩
theorem AbidesAll.mono {β : Type} {B C : Nat} {J : β -> World -> Prop} (h : AbidesAll B J) (hBC : B <= C) : AbidesAll C J :=
 fun s A B' row hs hg hr => h s A B' row hs hg (fun r e => Nat.le_trans hBC (hr r e))
theorem abidesAll_below {β : Type} {n₀ B : Nat} {w : World} (hn : n₀ <= B) (hw : n₀ <= w.heap.size) : AbidesAll B (fun (_ : β) W => Below n₀ w W) :=
 fun _ _ _ _ hs hg hr => hs.grown hg (Nat.le_trans hw hs.size) (fun k e => Nat.le_trans hn (hr k e))
theorem abidesAll_block {β : Type} {B k : Nat} {o : Obj} (hk : k < B) : AbidesAll B (fun (_ : β) W => W.heap[k]? = some o) :=
 fun _ _ _ _ hs hg hr => (hg.block k (Array.getElem?_eq_some_iff.1 hs).1 (fun e => by have := hr k e.symm; omega)).trans hs
theorem abidesAll_pure {β : Type} (B : Nat) (p : β -> Prop) : AbidesAll B (fun s (_ : World) => p s) := fun _ _ _ _ hs _ _ => hs
def Tells {α : Type} (F : Fence) (n : Nat) (P : Program) (g : Nat) (lb : Array Value) (encs : α -> Array Value) (Px : α -> World -> Prop) (Kp : World -> World -> Prop) (S Sp : List α -> Prop) (w : World) : Prop :=
 ∀ (l : Nat) (J Jx : List α -> World -> Prop) (W : World), Below w.heap.size w W -> AbidesAll W.heap.size J -> AbidesAll W.heap.size Jx ->
  (∀ pre x W1, J pre W1 -> Px x W1 -> YieldAt F (n - 1) P l (encs x) W1 fun e W' =>
   (e = .returned (.bool true) /\ J (pre ++ [x]) W' /\ Kp W1 W') \/ (e = .returned (.bool false) /\ Jx (pre ++ [x]) W')) ->
  J [] W ->
  CallsIn F n P g (#[.func (.yield l) #[] #[]] ++ lb) W fun e W' => (∃ v, e = .returned v) /\ ((∃ xs, S xs /\ J xs W') \/ (∃ pre, Sp pre /\ Jx pre W'))
def CellsKept (A B : World) : Prop := ∀ (k : Nat) (o : Obj), A.heap[k]? = some o -> o.isCells = true -> B.heap[k]? = some o
theorem cellsKept_put {W : World} {l : Nat} {o o' : Obj} (h : W.heap[l]? = some o) (ho : o.isCells = false) : CellsKept W (W.putObj l o') := fun k ob hk hc => by
 by_cases e : k = l
 ·subst e; rw [h] at hk; cases hk; rw [ho] at hc; cases hc
 ·exact (World.putObj_heap_other e).trans hk
variable {F : Fence} {n : Nat} {P : Program}
theorem wpIn_range_told {α : Type} {g : Operand} {ps : Array Tmp} {assign body : Code} {Q : Exit -> Act -> World -> Prop} {a : Act} {w : World}
 (hro : F.round = none) (h1 : 1 <= n) {gf : Nat} {lb : Array Value} (hg : a.eval g = .func (.func gf) #[] lb) (hFg : F.fn gf) (eg : ∀ args w, (callFunc gf args).run P w = .ok (.enter gf args) w)
 {encs : α -> Array Value} {Px : α -> World -> Prop} {Kp : World -> World -> Prop} {S Sp : List α -> Prop} {w0 : World} (hseq : Tells F (n - 1) P gf lb encs Px Kp S Sp w0)
 (hKt : ∀ {A B C : World}, Kp A B -> Kp B C -> Kp A C) (hKb : ∀ (W : World) (l : Nat) (o o' : Obj), w.heap.size <= l -> W.heap[l]? = some o -> o.isCells = false -> o.isWalk = false -> Kp W (W.putObj l o'))
 (hPx : ∀ x A B, CellsKept A B -> Px x A -> Px x B) (hb0 : Below w0.heap.size w0 w) (hps : ∀ x, (encs x).size = ps.size)
 (I : List α -> World -> Prop) (Ix : Code -> List α -> World -> Prop) (hI : AbidesAll w.heap.size I) (hIx : ∀ c, AbidesAll w.heap.size (Ix c)) (h0 : I [] w) (Ax : α -> Act -> World -> Prop) (hAx : ∀ x a' A B, CellsKept A B -> Ax x a' A -> Ax x a' B)
 (hassign : ∀ (l : Nat) (pre : List α) (x : α) (W : World) (K : Act -> World -> Prop), I pre W -> Px x W -> (∀ a' W', KeepsFrom w.heap.size W W' -> Kp W W' -> I pre W' -> Px x W' -> Ax x a' W' -> K a' W') ->
  assign.wpIn (F.inRound l) (n - 1 - 1) P (Exit.then K (fun _ _ _ => False)) { tmps := (ps.zip (encs x)).foldl (fun t (p, v) => t.setIfInBounds p v) a.tmps, defers := [] } W)
 (hbody : ∀ (l : Nat) (pre : List α) (x : α) (a' : Act) (W : World), w.heap.size <= l -> (∃ r, W.heap[l]? = some (.loop r)) -> I pre W -> Px x W -> Ax x a' W -> body.wpIn (F.inRound l) (n - 1 - 1) P (ownPostG w.heap.size Kp I Ix (pre ++ [x]) W) a' W)
 (hdone : ∀ (D : Nat) (xs : List α) (W : World), w.heap.size <= D -> S xs -> I xs W -> W.heap[D]? = some (.deferred (some [])) -> Q .normal { a with defers := { target := .collected D, args := #[] } :: a.defers } W)
 (hstop : ∀ (D : Nat) (c : Code) (pre : List α) (W : World), w.heap.size <= D -> Sp pre -> Ix c pre W -> W.heap[D]? = some (.deferred (some [])) -> c.wpIn F n P Q { a with defers := { target := .collected D, args := #[] } :: a.defers } W) :
 (Code.rangeFunc g ps assign body).wpIn F n P Q a w := by
 refine wpIn_rangeFunc ?_
 intro fn hfn
 rw [hro]
 generalize hL : w.heap.size + 1 = L
 have hLw : w.heap.size < L := by omega
 let rec_ (st : LoopState) (pe : Option Code) : Loop := { state := st, pending := pe, fn, tmps := a.tmps, params := ps, assign, body, defers := w.heap.size }
 obtain ⟨W1, hW1⟩ : ∃ W1, (w.alloc (.deferred (some []))).alloc (.loop (rec_ .ready none)) = W1 := ⟨_, rfl⟩
 have hs1 : W1.heap.size = L + 1 := by rw [<- hW1]; simp; omega
 have hL1 : W1.heap[L]? = some (.loop (rec_ .ready none)) := by
  have h := World.alloc_heap_new (w.alloc (.deferred (some []))) (.loop (rec_ .ready none))
  rw [World.size_alloc, hL, hW1] at h; exact h
 have hK1 : W1.heap[w.heap.size]? = some (.deferred (some [])) := by
  rw [<- hW1]; exact (Below.heap_alloc _ _ _ (by simp)).trans (World.alloc_heap_new w _)
 have hI1 : I [] W1 := by rw [<- hW1]; exact hI.alloc _ (hI.alloc _ h0)
 have hb1 : Below w0.heap.size w0 W1 := by
  rw [<- hW1]; exact hb0.trans ((((Below.refl _ w).alloc (Nat.le_refl _) _).alloc (by simp) _).mono hb0.size)
 refine ⟨L, [{ target := .collected w.heap.size, args := #[] }], W1, { target := .fn (.func gf) lb, args := #[.func (.yield L) #[] #[]] }, W1, gf, #[.func (.yield L) #[] #[]] ++ lb, W1, ?_, ?_, ?_, ?_, fun _ => h1, ?_⟩
 ·rw [<- hW1, <- hL]; exact run_enterLoop_outer _ _ _ _ _
 ·simp only [resolve, hg]
  simp [go_sem]
 ·intro f' hf'; simp [Target.leads] at hf'; subst hf'; exact hFg
 ·simp [invoke, go_sem, eg]
 refine (hseq L (fun pre W => I pre W /\ W.heap[L]? = some (.loop (rec_ .ready none)) /\ W.heap[w.heap.size]? = some (.deferred (some [])))
  (fun pre W => ∃ c, Ix c pre W /\ W.heap[L]? = some (.loop (rec_ .done (some c))) /\ W.heap[w.heap.size]? = some (.deferred (some []))) W1 hb1
  ((hI.mono (by omega)).and ((abidesAll_block (by omega)).and (abidesAll_block (by omega)))) ?_ ?_ ⟨hI1, hL1, hK1⟩).mono ?_
 ·rintro s A B row ⟨c, hc⟩ hg' hr
  exact ⟨c, ((hIx c).mono (by omega)).and ((abidesAll_block (by omega)).and (abidesAll_block (by omega))) s A B row hc hg' hr⟩
 · -- one round
  rintro pre x W ⟨hi, hl, hk⟩ hpx
  have hy := run_yield (P := P) (args := encs x) hl (hps x)
  refine ⟨fn, _, assign, body, hy, roundIn_of_wpIn hfn (hassign _ pre x W _ hi hpx ?_)⟩
  clear hy
  intro a' V hkf hkp hiV hpV hax
  have hlV := hkf.same _ _ (by omega) hl rfl
  have hkV := hkf.same _ _ (Nat.le_refl _) hk rfl
  refine ⟨_, run_beginRound hlV rfl, ?_⟩
  have hl2 : (V.putObj L (.loop (rec_ .busy none))).heap[L]? = some (.loop (rec_ .busy none)) := World.putObj_heap_same (Array.getElem?_eq_some_iff.1 hlV).1
  have hk2 : (V.putObj L (.loop (rec_ .busy none))).heap[w.heap.size]? = some (.deferred (some [])) := (World.putObj_heap_other (by omega)).trans hkV
  have hp2 : Kp V (V.putObj L (.loop (rec_ .busy none))) := hKb _ _ _ _ (by omega) hlV rfl rfl
  refine wpIn_mono (hbody _ pre x a' _ (by omega) ⟨_, hl2⟩ (hI.put _ hiV (by omega)) (hPx x _ _ (cellsKept_put hlV rfl) hpV) (hAx x a' _ _ (cellsKept_put hlV rfl) hax)) ?_
  have fin : ∀ (jump : Option Code) (X : World), KeepsFrom w.heap.size (V.putObj L (.loop (rec_ .busy none))) X ->
   (Instr.endRound L jump).run P X = .ok (.bool jump.isNone) (X.putObj L (.loop (rec_ (if jump.isNone then .ready else .done) jump))) /\ X.heap[L]? = some (.loop (rec_ .busy none)) /\
   (X.putObj L (.loop (rec_ (if jump.isNone then .ready else .done) jump))).heap[L]? = some (.loop (rec_ (if jump.isNone then .ready else .done) jump)) /\
   (X.putObj L (.loop (rec_ (if jump.isNone then .ready else .done) jump))).heap[w.heap.size]? = some (.deferred (some [])) := fun jump X hX => by
   have h3 := hX.same _ _ (by omega) hl2 rfl
   exact ⟨run_endRound (P := P) jump h3, h3, World.putObj_heap_same (Array.getElem?_eq_some_iff.1 h3).1, (World.putObj_heap_other (by omega)).trans (hX.same _ _ (Nat.le_refl _) hk2 rfl)⟩
  rintro e a3 X hp
  cases e with
  | normal =>
   obtain ⟨hX, hkp3, hi3⟩ := hp
   obtain ⟨hr, hl3, hl4, hk4⟩ := fin none X hX
   exact ⟨_, _, hr, .inl ⟨rfl, ⟨hI.put _ hi3 (by omega), hl4, hk4⟩, hKt hkp (hKt (hKt hp2 hkp3) (hKb _ _ _ _ (by omega) hl3 rfl rfl))⟩⟩
  | ret =>
   obtain ⟨hX, hi3⟩ := hp
   obtain ⟨hr, hl3, hl4, hk4⟩ := fin (some .ret) X hX
   exact ⟨_, _, hr, .inr ⟨rfl, .ret, (hIx _).put _ hi3 (by omega), hl4, hk4⟩⟩
  | exit id =>
   obtain ⟨hX, hi3⟩ := hp
   obtain ⟨hr, hl3, hl4, hk4⟩ := fin (some (.exit id)) X hX
   exact ⟨_, _, hr, .inr ⟨rfl, .exit id, (hIx _).put _ hi3 (by omega), hl4, hk4⟩⟩
  | goto t =>
   obtain ⟨hX, hi3⟩ := hp
   obtain ⟨hr, hl3, hl4, hk4⟩ := fin (some (.goto t)) X hX
   exact ⟨_, _, hr, .inr ⟨rfl, .goto t, (hIx _).put _ hi3 (by omega), hl4, hk4⟩⟩
  | panic ch => exact hp.elim
  | outgrown => exact hp.elim
 · -- behind the iterator
  rintro e W2 ⟨⟨v, rfl⟩, (⟨xs, hS, hi, hl, hk⟩ | ⟨pre, hSp, c, hi, hl, hk⟩)⟩
  ·exact ⟨none, _, run_endLoop (P := P) hl (by simp [rec_]), hdone _ xs _ (Nat.le_refl _) hS (hI.put _ hi (by omega)) ((World.putObj_heap_other (by omega)).trans hk)⟩
  ·exact ⟨some c, _, run_endLoop (P := P) hl (by simp [rec_]), hstop _ c pre _ (Nat.le_refl _) hSp ((hIx c).put _ hi (by omega)) ((World.putObj_heap_other (by omega)).trans hk)⟩
end Go.Proofs.YtejaboajgecpaaaGreatDoor
namespace Go.Proofs.YtejaboajgecpaaaGreatDoor
open Go.Lib (hid)
open Go.RowKit
theorem made {w W : World} {cs : Array Value} {T : TypeId} (h : w.alloc (.cells cs T) = W) : Below w.heap.size w W /\ W.heap[w.heap.size]? = some (.cells cs T (0, 0)) := by
 subst h
 exact ⟨(Below.refl _ _).alloc (Nat.le_refl _) _, World.alloc_heap_new _ _⟩
theorem ex1 {α : Type} (a : α) : ∃ x, a = x := ⟨a, rfl⟩
theorem gl {α : Type} {a : Array α} {i : Nat} {x : α} (h : a[i]? = some x) : i < a.size := (Array.getElem?_eq_some_iff.1 h).1
inductive Ty where
 | mk (k p : Int) (n : ByteArray) (s : Int) (ls : List ByteArray) (ts : List Ty)
instance : Inhabited Ty := ⟨.mk 0 0 ⟨#[]⟩ 0 [] []⟩
namespace Ty
def k : Ty -> Int | .mk k _ _ _ _ _ => k
def p : Ty -> Int | .mk _ p _ _ _ _ => p
def n : Ty -> ByteArray | .mk _ _ n _ _ _ => n
def s : Ty -> Int | .mk _ _ _ s _ _ => s
def ls : Ty -> List ByteArray | .mk _ _ _ _ ls _ => ls
def ts : Ty -> List Ty | .mk _ _ _ _ _ ts => ts
end Ty
mutual
theorem Ty.ind {M : Ty -> Prop} (h : ∀ k p n s ls ts, (∀ t ∈ ts, M t) -> M (.mk k p n s ls ts)) : ∀ t, M t
 | .mk k p n s ls ts => h k p n s ls ts (Ty.inds h ts)
theorem Ty.inds {M : Ty -> Prop} (h : ∀ k p n s ls ts, (∀ t ∈ ts, M t) -> M (.mk k p n s ls ts)) : ∀ ts : List Ty, ∀ t ∈ ts, M t
 | [], _, hm => by cases hm
 | t :: r, u, hm => by
  rcases List.mem_cons.1 hm with e | hm
  ·rw [e]; exact Ty.ind h t
  ·exact Ty.inds h r u hm
end
mutual
def Ty.size : Ty -> Nat
 | .mk _ _ _ _ _ ts => Ty.sizes ts + 1
def Ty.sizes : List Ty -> Nat
 | [] => 0
 | t :: r => t.size + Ty.sizes r
end
mutual
def Ty.depth : Ty -> Nat
 | .mk _ _ _ _ _ ts => Ty.depths ts + 1
def Ty.depths : List Ty -> Nat
 | [] => 0
 | t :: r => max t.depth (Ty.depths r)
end
theorem Ty.size_eq (t : Ty) : t.size = Ty.sizes t.ts + 1 := by cases t; simp [Ty.size, Ty.ts]
theorem Ty.depth_eq (t : Ty) : t.depth = Ty.depths t.ts + 1 := by cases t; simp [Ty.depth, Ty.ts]
theorem Ty.depth_pos (t : Ty) : 1 <= t.depth := by rw [Ty.depth_eq]; omega
theorem Ty.sizes_append (l r : List Ty) : Ty.sizes (l ++ r) = Ty.sizes l + Ty.sizes r := by
 induction l with
 | nil => simp [Ty.sizes]
 | cons t l ih => simp only [List.cons_append, Ty.sizes, ih]; omega
theorem Ty.depths_append (l r : List Ty) : Ty.depths (l ++ r) = max (Ty.depths l) (Ty.depths r) := by
 induction l with
 | nil => simp [Ty.depths]
 | cons t l ih => simp only [List.cons_append, Ty.depths, ih]; omega
theorem take_snoc_get {α : Type} {l : List α} {i : Nat} {x : α} (h : l[i]? = some x) : l.take (i + 1) = l.take i ++ [x] := by
 rw [List.take_add_one, h]; rfl
theorem Ty.sizes_take {l : List Ty} {i : Nat} {t : Ty} (h : l[i]? = some t) : Ty.sizes (l.take (i + 1)) = Ty.sizes (l.take i) + t.size := by
 rw [take_snoc_get h, Ty.sizes_append]; simp [Ty.sizes]
theorem Ty.depths_take {l : List Ty} {i : Nat} {t : Ty} (h : l[i]? = some t) : Ty.depths (l.take (i + 1)) = max (Ty.depths (l.take i)) t.depth := by
 rw [take_snoc_get h, Ty.depths_append]; simp [Ty.depths]
theorem Ty.sizes_take_le (l : List Ty) (i : Nat) : Ty.sizes (l.take i) <= Ty.sizes l := by
 have := Ty.sizes_append (l.take i) (l.drop i); rw [List.take_append_drop] at this; omega
theorem Ty.depths_take_le (l : List Ty) (i : Nat) : Ty.depths (l.take i) <= Ty.depths l := by
 have := Ty.depths_append (l.take i) (l.drop i); rw [List.take_append_drop] at this; omega
theorem Ty.depth_mem {l : List Ty} {t : Ty} (h : t ∈ l) : t.depth <= Ty.depths l := by
 induction l with
 | nil => cases h
 | cons u l ih =>
  simp only [Ty.depths]
  rcases List.mem_cons.1 h with rfl | h
  ·omega
  ·have := ih h; omega
theorem Ty.size_mem {l : List Ty} {t : Ty} (h : t ∈ l) : t.size <= Ty.sizes l := by
 induction l with
 | nil => cases h
 | cons u l ih =>
  simp only [Ty.sizes]
  rcases List.mem_cons.1 h with rfl | h
  ·omega
  ·have := ih h; omega
def StrRow (w : World) (b o : Nat) (ls : List ByteArray) : Prop := ∀ (j : Nat) (s : ByteArray), ls[j]? = some s -> w.cell? ⟨b, o + j, none⟩ = some (.string s)
def StrSl (B : Nat -> Prop) (w : World) (v : Value) (ls : List ByteArray) : Prop :=
 (((∃ a c, v = .slice a 0 c) /\ ls = []) \/ ∃ b o c, v = .slice (some ⟨b, o, none⟩) ls.length c /\ B b /\ ls.length <= c /\ StrRow w b o ls) /\ ls.length <= maxLen /\ ∀ s ∈ ls, s.size <= maxLen
mutual
def TyAt (B : Nat -> Prop) (w : World) : Ty -> Nat -> Nat -> Prop
 | .mk k p n s ls ts, b, o => B b /\ n.size <= maxLen /\
  (w.cell? ⟨b, o, none⟩ = some (.int .i64 k) /\ w.cell? ⟨b, o + 1, none⟩ = some (.int .i64 p) /\ w.cell? ⟨b, o + 2, none⟩ = some (.string n) /\ w.cell? ⟨b, o + 3, none⟩ = some (.int .i64 s)) /\
  ∃ lv kv, w.cell? ⟨b, o + 4, none⟩ = some lv /\ w.cell? ⟨b, o + 5, none⟩ = some kv /\ StrSl B w lv ls /\
   (((∃ a c, kv = .slice a 0 c) /\ ts = []) \/ ∃ kb ko c, kv = .slice (some ⟨kb, ko, none⟩) ts.length c /\ B kb /\ TysAt B w ts kb ko) /\ ts.length <= maxLen
def TysAt (B : Nat -> Prop) (w : World) : List Ty -> Nat -> Nat -> Prop
 | [], _, _ => True
 | t :: r, b, o => TyAt B w t b o /\ TysAt B w r b (o + 6)
end
def TySl (B : Nat -> Prop) (w : World) (kv : Value) (ts : List Ty) : Prop :=
 (((∃ a c, kv = .slice a 0 c) /\ ts = []) \/ ∃ kb ko c, kv = .slice (some ⟨kb, ko, none⟩) ts.length c /\ B kb /\ TysAt B w ts kb ko) /\ ts.length <= maxLen
def TyVal (B : Nat -> Prop) (w : World) (v : Value) (t : Ty) : Prop :=
 ∃ lv kv, v = .agg #[.int .i64 t.k, .int .i64 t.p, .string t.n, .int .i64 t.s, lv, kv] /\ t.n.size <= maxLen /\ StrSl B w lv t.ls /\ TySl B w kv t.ts
theorem TyAt.eq {B : Nat -> Prop} {w : World} {t : Ty} {b o : Nat} : TyAt B w t b o ↔ B b /\ t.n.size <= maxLen /\
 (w.cell? ⟨b, o, none⟩ = some (.int .i64 t.k) /\ w.cell? ⟨b, o + 1, none⟩ = some (.int .i64 t.p) /\ w.cell? ⟨b, o + 2, none⟩ = some (.string t.n) /\ w.cell? ⟨b, o + 3, none⟩ = some (.int .i64 t.s)) /\
 ∃ lv kv, w.cell? ⟨b, o + 4, none⟩ = some lv /\ w.cell? ⟨b, o + 5, none⟩ = some kv /\ StrSl B w lv t.ls /\ TySl B w kv t.ts := by
 cases t; simp only [TyAt, TySl, Ty.k, Ty.p, Ty.n, Ty.s, Ty.ls, Ty.ts]
def Keeps (B : Nat -> Prop) (w w' : World) : Prop := ∀ (k : Nat) (o : Obj), B k -> w.heap[k]? = some o -> o.isCells = true -> w'.heap[k]? = some o
theorem Keeps.mono {B C : Nat -> Prop} {a b : World} (h : Keeps B a b) (hc : ∀ k, C k -> B k) : Keeps C a b := fun k o hk ho h' => h k o (hc k hk) ho h'
theorem Keeps.cell {B : Nat -> Prop} {w w' : World} (h : Keeps B w w') {b o : Nat} {v : Value} (hb : B b) (hv : w.cell? ⟨b, o, none⟩ = some v) : w'.cell? ⟨b, o, none⟩ = some v := by
 unfold World.cell? at hv |-
 cases ho : w.heap[b]? with
 | none => simp [ho] at hv
 | some ob =>
  cases ob with
  | cells cs t fr =>
   have := h b _ hb ho rfl
   simp only [ho] at hv
   simp only [this]; exact hv
  | _ => simp [ho] at hv
theorem _root_.Go.RowKit.Below.keeps' {n : Nat} {w w' : World} (h : Below n w w') : Keeps (fun k => k < n) w w' := fun k _ hk ho _ => (h.block k hk).trans ho
def Low (B : Nat -> Prop) (w : World) : Prop := ∀ k, B k -> k < w.heap.size
theorem Low.le {B : Nat -> Prop} {w w' : World} (h : Low B w) (hs : w.heap.size <= w'.heap.size) : Low B w' := fun k hk => Nat.lt_of_lt_of_le (h k hk) hs
theorem blkBelow (w : World) (cs : Array Value) (t : TypeId) : Below w.heap.size w (w.alloc (.cells cs t)) := (Below.refl _ _).alloc (Nat.le_refl _) _
theorem blk_cell {w wr : World} {cs : Array Value} {t : TypeId} (hb : Below (w.heap.size + 1) (w.alloc (.cells cs t)) wr) (j : Nat) {v : Value} (h : cs[j]? = some v) : wr.cell? ⟨w.heap.size, j, none⟩ = some v :=
 (hb.cell (p := ⟨w.heap.size, j, none⟩) (Nat.lt_succ_self _)).trans (by simp [h])
theorem blk_below {w wr : World} {cs : Array Value} {t : TypeId} (hb : Below (w.heap.size + 1) (w.alloc (.cells cs t)) wr) : Below w.heap.size w wr := (blkBelow w cs t).trans (hb.mono (Nat.le_succ _))
def Drew (w wr : World) : Prop := ∃ nq, wr = w.drewN nq
theorem Drew.refl (w : World) : Drew w w := ⟨0, rfl⟩
theorem Drew.more {w wr : World} (h : Drew w wr) (n : Nat) : Drew w (wr.drewN n) := by
 obtain ⟨m, rfl⟩ := h; exact ⟨m + n, by rw [World.drewN_drewN]⟩
theorem Drew.below {w wr : World} (h : Drew w wr) (B : Nat) : Below B w wr := by
 obtain ⟨m, rfl⟩ := h; exact below_drewN (Below.refl _ _) m
theorem below_seq {a b c : World} (h : Below a.heap.size a b) (k : Below b.heap.size b c) : Below a.heap.size a c := h.trans (k.mono h.size)
theorem bcell {W w1 : World} (hb : Below W.heap.size W w1) : (∀ b o, b < W.heap.size -> w1.cell? ⟨b, o, none⟩ = W.cell? ⟨b, o, none⟩) /\ (∀ b o, b < W.heap.size -> w1.frozen? ⟨b, o, none⟩ = W.frozen? ⟨b, o, none⟩) :=
 ⟨fun b o h => hb.cell (p := ⟨b, o, none⟩) h, fun b o h => hb.frozen (p := ⟨b, o, none⟩) h⟩
theorem StrSl.keep {B : Nat -> Prop} {w w' : World} (h : Keeps B w w') {v : Value} {ls : List ByteArray} (hv : StrSl B w v ls) : StrSl B w' v ls := by
 refine ⟨?_, hv.2⟩
 rcases hv.1 with h1 | ⟨b, o, c, h1, h2, hc, h3⟩
 ·exact .inl h1
 ·exact .inr ⟨b, o, c, h1, h2, hc, fun j s hj => h.cell h2 (h3 j s hj)⟩
mutual
theorem TyAt.keep {B : Nat -> Prop} {w w' : World} (h : Keeps B w w') : ∀ (t : Ty) (b o : Nat), TyAt B w t b o -> TyAt B w' t b o
 | .mk k p n s ls ts, b, o, ht => by
  simp only [TyAt] at ht |-
  obtain ⟨hb, hn, ⟨c0, c1, c2, c3⟩, lv, kv, c4, c5, hl, hk, hm⟩ := ht
  refine ⟨hb, hn, ⟨h.cell hb c0, h.cell hb c1, h.cell hb c2, h.cell hb c3⟩, lv, kv, h.cell hb c4, h.cell hb c5, hl.keep h, ?_, hm⟩
  rcases hk with h1 | ⟨kb, ko, c, h1, h2, h3⟩
  ·exact .inl h1
  ·exact .inr ⟨kb, ko, c, h1, h2, TysAt.keep h ts kb ko h3⟩
theorem TysAt.keep {B : Nat -> Prop} {w w' : World} (h : Keeps B w w') : ∀ (ts : List Ty) (b o : Nat), TysAt B w ts b o -> TysAt B w' ts b o
 | [], _, _, _ => by simp [TysAt]
 | t :: r, b, o, ht => by
  simp only [TysAt] at ht |-
  exact ⟨TyAt.keep h t b o ht.1, TysAt.keep h r b (o + 6) ht.2⟩
end
theorem TySl.keep {B : Nat -> Prop} {w w' : World} (h : Keeps B w w') {v : Value} {ts : List Ty} (hv : TySl B w v ts) : TySl B w' v ts := by
 refine ⟨?_, hv.2⟩
 rcases hv.1 with h1 | ⟨b, o, c, h1, h2, h3⟩
 ·exact .inl h1
 ·exact .inr ⟨b, o, c, h1, h2, TysAt.keep h _ _ _ h3⟩
theorem TyVal.keep {B : Nat -> Prop} {w w' : World} (h : Keeps B w w') {v : Value} {t : Ty} (hv : TyVal B w v t) : TyVal B w' v t := by
 obtain ⟨lv, kv, e, hn, hl, hk⟩ := hv
 exact ⟨lv, kv, e, hn, hl.keep h, hk.keep h⟩
theorem StrSl.mono {B C : Nat -> Prop} {w : World} (h : ∀ k, B k -> C k) {v : Value} {ls : List ByteArray} (hv : StrSl B w v ls) : StrSl C w v ls := by
 refine ⟨?_, hv.2⟩
 rcases hv.1 with h1 | ⟨b, o, c, h1, h2, hc, h3⟩
 ·exact .inl h1
 ·exact .inr ⟨b, o, c, h1, h _ h2, hc, h3⟩
mutual
theorem TyAt.mono {B C : Nat -> Prop} {w : World} (h : ∀ k, B k -> C k) : ∀ (t : Ty) (b o : Nat), TyAt B w t b o -> TyAt C w t b o
 | .mk k p n s ls ts, b, o, ht => by
  simp only [TyAt] at ht |-
  obtain ⟨hb, hn, hc, lv, kv, c4, c5, hl, hk, hm⟩ := ht
  refine ⟨h _ hb, hn, hc, lv, kv, c4, c5, hl.mono h, ?_, hm⟩
  rcases hk with h1 | ⟨kb, ko, c, h1, h2, h3⟩
  ·exact .inl h1
  ·exact .inr ⟨kb, ko, c, h1, h _ h2, TysAt.mono h ts kb ko h3⟩
theorem TysAt.mono {B C : Nat -> Prop} {w : World} (h : ∀ k, B k -> C k) : ∀ (ts : List Ty) (b o : Nat), TysAt B w ts b o -> TysAt C w ts b o
 | [], _, _, _ => by simp [TysAt]
 | t :: r, b, o, ht => by
  simp only [TysAt] at ht |-
  exact ⟨TyAt.mono h t b o ht.1, TysAt.mono h r b (o + 6) ht.2⟩
end
theorem TySl.mono {B C : Nat -> Prop} {w : World} (h : ∀ k, B k -> C k) {v : Value} {ts : List Ty} (hv : TySl B w v ts) : TySl C w v ts := by
 refine ⟨?_, hv.2⟩
 rcases hv.1 with h1 | ⟨b, o, c, h1, h2, h3⟩
 ·exact .inl h1
 ·exact .inr ⟨b, o, c, h1, h _ h2, TysAt.mono h _ _ _ h3⟩
theorem TyVal.mono {B C : Nat -> Prop} {w : World} (h : ∀ k, B k -> C k) {v : Value} {t : Ty} (hv : TyVal B w v t) : TyVal C w v t := by
 obtain ⟨lv, kv, e, hn, hl, hk⟩ := hv
 exact ⟨lv, kv, e, hn, hl.mono h, hk.mono h⟩
theorem TyVal.to {B : Nat -> Prop} {C : Nat} {w w' : World} (hBC : ∀ k, B k -> k < C) (hb : Below C w w') {v : Value} {t : Ty} (hv : TyVal B w v t) : TyVal B w' v t := hv.keep (hb.keeps'.mono hBC)
theorem TysAt.get {B : Nat -> Prop} {w : World} : ∀ {ts : List Ty} {b o : Nat}, TysAt B w ts b o -> ∀ {i : Nat} {t : Ty}, ts[i]? = some t -> TyAt B w t b (o + i * 6)
 | [], _, _, _, i, t, hi => by simp at hi
 | u :: r, b, o, h, i, t, hi => by
  simp only [TysAt] at h
  cases i with
  | zero => simp at hi; subst hi; simpa using h.1
  | succ i =>
   have := TysAt.get h.2 (i := i) (t := t) (by simpa using hi)
   rw [show o + (i + 1) * 6 = o + 6 + i * 6 by omega]; exact this
theorem TySl.open {B : Nat -> Prop} {w : World} {kv : Value} {ts : List Ty} (h : TySl B w kv ts) :
 ∃ pa len c, kv = .slice pa len c /\ Hid (len = ts.length) /\ len <= 9223372036854775807 /\ ∀ i t, ts[i]? = some t -> ∃ kb ko, pa = some ⟨kb, ko, none⟩ /\ B kb /\ TyAt B w t kb (ko + i * 6) := by
 obtain ⟨h, hm⟩ := h
 unfold maxLen at hm
 rcases h with ⟨⟨a, c, rfl⟩, rfl⟩ | ⟨kb, ko, c, rfl, hkb, hrow⟩
 ·exact ⟨a, 0, c, rfl, hid rfl, by omega, fun i t hi => by simp at hi⟩
 ·exact ⟨_, _, _, rfl, hid rfl, by omega, fun i t hi => ⟨kb, ko, rfl, hkb, hrow.get hi⟩⟩
theorem StrSl.open {B : Nat -> Prop} {w : World} {v : Value} {ls : List ByteArray} (h : StrSl B w v ls) :
 ∃ pa len c, v = .slice pa len c /\ Hid (len = ls.length) /\ len <= 9223372036854775807 /\ ∀ i s, ls[i]? = some s -> s.size <= maxLen /\ ∃ kb ko, pa = some ⟨kb, ko, none⟩ /\ B kb /\ w.cell? ⟨kb, ko + i, none⟩ = some (.string s) := by
 obtain ⟨h, hm, hz⟩ := h
 unfold maxLen at hm
 rcases h with ⟨⟨a, c, rfl⟩, rfl⟩ | ⟨b, o, c, rfl, hb, _, hrow⟩
 ·exact ⟨a, 0, c, rfl, hid rfl, by omega, fun i t hi => by simp at hi⟩
 ·exact ⟨_, _, _, rfl, hid rfl, by omega, fun i t hi => ⟨hz _ (List.mem_of_getElem? hi), b, o, rfl, hb, hrow i t hi⟩⟩
theorem TyAt.load {B : Nat -> Prop} {w : World} {t : Ty} {b o : Nat} (h : TyAt B w t b o) :
 ∃ lv kv, (w.cell? ⟨b, o, none⟩ = some (.int .i64 t.k) /\ w.cell? ⟨b, o + 1, none⟩ = some (.int .i64 t.p) /\ w.cell? ⟨b, o + 2, none⟩ = some (.string t.n) /\ w.cell? ⟨b, o + 3, none⟩ = some (.int .i64 t.s) /\
  w.cell? ⟨b, o + 4, none⟩ = some lv /\ w.cell? ⟨b, o + 5, none⟩ = some kv) /\ TyVal B w (.agg #[.int .i64 t.k, .int .i64 t.p, .string t.n, .int .i64 t.s, lv, kv]) t := by
 obtain ⟨_, hn, ⟨c0, c1, c2, c3⟩, lv, kv, c4, c5, hl, hk⟩ := TyAt.eq.1 h
 exact ⟨lv, kv, ⟨c0, c1, c2, c3, c4, c5⟩, lv, kv, rfl, hn, hl, hk⟩
theorem TyAt.load' {B : Nat -> Prop} {w : World} {t : Ty} {b o : Nat} (h : TyAt B w t b o) :
 ∃ (la : Option Addr) (ln lc : Nat) (ka : Option Addr) (kn kc : Nat), (w.cell? ⟨b, o, none⟩ = some (.int .i64 t.k) /\ w.cell? ⟨b, o + 1, none⟩ = some (.int .i64 t.p) /\ w.cell? ⟨b, o + 2, none⟩ = some (.string t.n) /\ w.cell? ⟨b, o + 3, none⟩ = some (.int .i64 t.s) /\
  w.cell? ⟨b, o + 4, none⟩ = some (.slice la ln lc) /\ w.cell? ⟨b, o + 5, none⟩ = some (.slice ka kn kc)) /\ TyVal B w (.agg #[.int .i64 t.k, .int .i64 t.p, .string t.n, .int .i64 t.s, .slice la ln lc, .slice ka kn kc]) t := by
 obtain ⟨lv, kv, hc, hv⟩ := h.load
 obtain ⟨lv', kv', e, hn, hl, hk⟩ := hv
 obtain ⟨la, ln, lc, el, _⟩ := hl.open
 obtain ⟨ka, kn, kc, ek, _⟩ := hk.open
 simp only [Value.agg.injEq, Array.mk.injEq, List.cons.injEq, and_true, true_and] at e
 obtain ⟨rfl, rfl⟩ := e
 subst el ek
 exact ⟨la, ln, lc, ka, kn, kc, hc, _, _, rfl, hn, hl, hk⟩
theorem ret_int {k : IntKind} {a b : Int} (h : a = b) : Ending.returned (.int k a) = .returned (.int k b) := by rw [h]
theorem ret_val {a b : Int} (h : a = b) : Value.int .i64 a = .int .i64 b := by rw [h]
theorem ret_bool {a b : Bool} (h : a = b) : Ending.returned (.bool a) = .returned (.bool b) := by rw [h]
theorem rsize_step (B : Nat -> Prop) (k p s : Int) (n : ByteArray) (lv kv : Value) (ts : List Ty) (hts : Ty.sizes ts <= 1000000)
 (ih : ∀ t ∈ ts, ∀ (v : Value) (w : World), Low B w -> TyVal B w v t -> Calls Tryz.prog 40 #[v] w fun e w' => e = .returned (.int .i64 t.size) /\ Below w.heap.size w w')
 (w : World) (hB : Low B w) (hk : TySl B w kv ts) :
 Calls Tryz.prog 40 #[.agg #[.int .i64 k, .int .i64 p, .string n, .int .i64 s, lv, kv]] w fun e w' => e = .returned (.int .i64 ((Ty.sizes ts + 1 : Nat) : Int)) /\ Below w.heap.size w w' := by
 obtain ⟨pa, len, c, rfl, hlen, hm, hget⟩ := hk.open
 have HG := hid hget
 clear hget hk
 go_enter Tryz.func40, Tryz.ntmps40
 go_wp2_with fail
 go_loopw [3, 4] (fun a i wr => ∃ j : Nat, i = .int .i64 j /\ j <= len /\ a = .int .i64 ((Ty.sizes (ts.take j) + 1 : Nat) : Int) /\ Below (w.heap.size + 1) (w.alloc (.cells #[.int .i64 k, .int .i64 p, .string n, .int .i64 s, lv, .slice pa len c] 28)) wr) (fun _ i _ => len - (intOf i).toNat)
 case atStart => exact ⟨0, rfl, by omega, by simp [Ty.sizes], Below.refl _ _⟩
 case round =>
  obtain ⟨j, rfl, hj, rfl, hb⟩ := hrel
  have c5 := blk_cell hb 5 rfl
  have hw := blk_below hb
  by_cases hlt : j < len
  ·obtain ⟨t, ht⟩ : ∃ t, ts[j]? = some t := ⟨_, List.getElem?_eq_getElem (by rw [<- hlen.out]; exact hlt)⟩
   obtain ⟨kb, ko, rfl, hkb, hty⟩ := HG.out j t ht
   obtain ⟨lv', kv', ⟨d0, d1, d2, d3, d4, d5⟩, hval⟩ := (hty.keep (hw.keeps'.mono hB)).load
   have hsz := Ty.sizes_take ht
   have hle := Ty.sizes_take_le ts (j + 1)
   have IH := hid (ih t (List.mem_of_getElem? ht) _ wr (hB.le hw.size) hval)
   obtain ⟨a0, ha0⟩ : ∃ a0, Ty.sizes (ts.take j) + 1 = a0 := ⟨_, rfl⟩
   have HA := hid hsz
   have ha1 : a0 + t.size <= 1000001 := by omega
   have HA0 := hid ha0
   rw [ha0]
   clear hsz ha0 ht
   go_wp2_with (go_at_call 40; refine IH.out.mono ?_; rintro e w1 ⟨rfl, hb1⟩)
   go_roundw
   case rel => exact ⟨j + 1, by go_num, by omega, ret_val (by rw [HA.out]; have := HA0.out; omega), hb.trans (hb1.mono (by have := hb.size; simpa using this))⟩
   case measure => simp [intOf]; omega
  ·obtain rfl : j = len := by omega
   go_wp2_with fail
   go_ret
   exact ⟨ret_int (by rw [List.take_of_length_le (by rw [hlen.out]; exact Nat.le_refl _)]), hw⟩
theorem rsize_any (B : Nat -> Prop) : ∀ (t : Ty), t.size <= 1000000 -> ∀ (v : Value) (w : World), Low B w -> TyVal B w v t -> Calls Tryz.prog 40 #[v] w fun e w' => e = .returned (.int .i64 t.size) /\ Below w.heap.size w w' := by
 refine Ty.ind ?_
 intro k p n s ls ts ih hsz v w hB hv
 obtain ⟨lv, kv, rfl, _, _, hk⟩ := hv
 have h1 : Ty.sizes ts <= 1000000 := by rw [Ty.size_eq] at hsz; simp only [Ty.ts] at hsz; omega
 have := rsize_step B k p s n lv kv ts h1 (fun t ht => ih t ht (Nat.le_trans (Ty.size_mem ht) h1)) w hB hk
 rw [Ty.size_eq]; exact this
theorem rdepth_step (B : Nat -> Prop) (k p s : Int) (n : ByteArray) (lv kv : Value) (ts : List Ty) (hts : Ty.depths ts <= 1000000)
 (ih : ∀ t ∈ ts, ∀ (v : Value) (w : World), Low B w -> TyVal B w v t -> Calls Tryz.prog 39 #[v] w fun e w' => e = .returned (.int .i64 t.depth) /\ Below w.heap.size w w')
 (w : World) (hB : Low B w) (hk : TySl B w kv ts) :
 Calls Tryz.prog 39 #[.agg #[.int .i64 k, .int .i64 p, .string n, .int .i64 s, lv, kv]] w fun e w' => e = .returned (.int .i64 ((Ty.depths ts + 1 : Nat) : Int)) /\ Below w.heap.size w w' := by
 obtain ⟨pa, len, c, rfl, hlen, hm, hget⟩ := hk.open
 have HG := hid hget
 clear hget hk
 go_enter Tryz.func39, Tryz.ntmps39
 go_wp2_with fail
 go_loopw [3, 4] (fun a i wr => ∃ j : Nat, i = .int .i64 j /\ j <= len /\ a = .int .i64 ((Ty.depths (ts.take j) : Nat) : Int) /\ Below (w.heap.size + 1) (w.alloc (.cells #[.int .i64 k, .int .i64 p, .string n, .int .i64 s, lv, .slice pa len c] 28)) wr) (fun _ i _ => len - (intOf i).toNat)
 case atStart => exact ⟨0, rfl, by omega, by simp [Ty.depths], Below.refl _ _⟩
 case round =>
  obtain ⟨j, rfl, hj, rfl, hb⟩ := hrel
  have c5 := blk_cell hb 5 rfl
  have hw := blk_below hb
  by_cases hlt : j < len
  ·obtain ⟨t, ht⟩ : ∃ t, ts[j]? = some t := ⟨_, List.getElem?_eq_getElem (by rw [<- hlen.out]; exact hlt)⟩
   obtain ⟨kb, ko, rfl, hkb, hty⟩ := HG.out j t ht
   obtain ⟨lv', kv', ⟨d0, d1, d2, d3, d4, d5⟩, hval⟩ := (hty.keep (hw.keeps'.mono hB)).load
   have hsz := Ty.depths_take ht
   have hle := Ty.depths_take_le ts (j + 1)
   have IH := hid (ih t (List.mem_of_getElem? ht) _ wr (hB.le hw.size) hval)
   obtain ⟨a0, ha0⟩ : ∃ a0, Ty.depths (ts.take j) = a0 := ⟨_, rfl⟩
   have HA := hid hsz
   have ha1 : max a0 t.depth <= 1000000 := by omega
   have HA0 := hid ha0
   rw [ha0]
   clear hsz ha0 ht
   go_wp2_with (go_at_call 39; refine IH.out.mono ?_; rintro e w1 ⟨rfl, hb1⟩)
   go_roundw
   case rel => exact ⟨j + 1, by go_num, by omega, ret_val (by rw [HA.out]; have := HA0.out; omega), hb.trans (hb1.mono (by have := hb.size; simpa using this))⟩
   case measure => simp [intOf]; omega
  ·obtain rfl : j = len := by omega
   have hle := Ty.depths_take_le ts j
   go_wp2_with fail
   go_ret
   exact ⟨ret_int (by rw [List.take_of_length_le (by rw [hlen.out]; exact Nat.le_refl _)]; omega), hw⟩
theorem rdepth_any (B : Nat -> Prop) : ∀ (t : Ty), t.depth <= 1000000 -> ∀ (v : Value) (w : World), Low B w -> TyVal B w v t -> Calls Tryz.prog 39 #[v] w fun e w' => e = .returned (.int .i64 t.depth) /\ Below w.heap.size w w' := by
 refine Ty.ind ?_
 intro k p n s ls ts ih hsz v w hB hv
 obtain ⟨lv, kv, rfl, _, _, hk⟩ := hv
 have h1 : Ty.depths ts <= 1000000 := by rw [Ty.depth_eq] at hsz; simp only [Ty.ts] at hsz; omega
 have := rdepth_step B k p s n lv kv ts h1 (fun t ht => ih t ht (Nat.le_trans (Ty.depth_mem ht) h1)) w hB hk
 rw [Ty.depth_eq]; exact this
mutual
theorem Ty.depth_le_size : ∀ t : Ty, t.depth <= t.size
 | .mk k p n s ls ts => by rw [Ty.depth_eq, Ty.size_eq]; have := Ty.depths_le_sizes ts; simp only [Ty.ts]; omega
theorem Ty.depths_le_sizes : ∀ ts : List Ty, Ty.depths ts <= Ty.sizes ts
 | [] => by simp [Ty.depths]
 | t :: r => by have := Ty.depth_le_size t; have := Ty.depths_le_sizes r; simp only [Ty.depths, Ty.sizes]; omega
end
end Go.Proofs.YtejaboajgecpaaaGreatDoor
