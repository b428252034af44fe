/- A range over a function whose iterator t: lemmas. -/
import Derived.Test.YtejaboajgecpaaaGreatDoorProg
import Derived.RangeFuncNested
import Derived.RangeFuncBound
import Derived.Below
import Derived.Lib.Hide
import Derived.RangeFuncWrites
import Derived.WalkSmall
import Derived.WalkKit
import Derived.WalkSpells
import Derived.WalkLawsBesides
import Derived.BigQuiet
import Derived.Deep.QuietTactic
import Derived.Lib.Strings
import Derived.StillTailTactics
set_option maxHeartbeats 16000000
set_option maxRecDepth 100000
namespace Go.Proofs.YtejaboajgecpaaaGreatDoor
open Go.RowKit
def AbidesAll {β : Type} (B : Nat) (J : β -> World -> Prop) : Prop :=
 ∀ s W W' row, J s W -> W.grownBy W' row -> (∀ r, row = some r -> B <= r) -> J s W'
theorem AbidesAll.alloc {β : Type} {B : Nat} {J : β -> World -> Prop} (h : AbidesAll B J) {s : β} {W : World} (o : Obj) (hs : J s W) : J s (W.alloc o) :=
 h s W _ none hs (World.grownBy_alloc W o none) (fun r e => by cases e)
theorem AbidesAll.put {β : Type} {B : Nat} {J : β -> World -> Prop} (h : AbidesAll B J) {s : β} {W : World} {l : Nat} (o : Obj) (hs : J s W) (hB : B <= l) : J s (W.putObj l o) :=
 h s W _ (some l) hs (grownBy_putObj' W l o) (fun r e => by cases e; exact hB)
theorem AbidesAll.and {β : Type} {B : Nat} {J K : β -> World -> Prop} (h : AbidesAll B J) (k : AbidesAll B K) : AbidesAll B (fun s W => J s W /\ K s W) :=
 fun s A B' row hs hg hr => ⟨h s A B' row hs.1 hg hr, k s A B' row hs.2 hg hr⟩
theorem AbidesAll.mono {β : Type} {B C : Nat} {J : β -> World -> Prop} (h : AbidesAll B J) (hBC : B <= C) : AbidesAll C J :=
 fun s A B' row hs hg hr => h s A B' row hs hg (fun r e => Nat.le_trans hBC (hr r e))
theorem abidesAll_below {β : Type} {n₀ B : Nat} {w : World} (hn : n₀ <= B) (hw : n₀ <= w.heap.size) : AbidesAll B (fun (_ : β) W => Below n₀ w W) :=
 fun _ _ _ _ hs hg hr => hs.grown hg (Nat.le_trans hw hs.size) (fun k e => Nat.le_trans hn (hr k e))
theorem abidesAll_block {β : Type} {B k : Nat} {o : Obj} (hk : k < B) : AbidesAll B (fun (_ : β) W => W.heap[k]? = some o) :=
 fun _ _ _ _ hs hg hr => (hg.block k (Array.getElem?_eq_some_iff.1 hs).1 (fun e => by have := hr k e.symm; omega)).trans hs
theorem abidesAll_pure {β : Type} (B : Nat) (p : β -> Prop) : AbidesAll B (fun s (_ : World) => p s) := fun _ _ _ _ hs _ _ => hs
def Tells {α : Type} (F : Fence) (n : Nat) (P : Program) (g : Nat) (lb : Array Value) (encs : α -> Array Value) (Px : α -> World -> Prop) (Kp : World -> World -> Prop) (S Sp : List α -> Prop) (w : World) : Prop :=
 ∀ (l : Nat) (J Jx : List α -> World -> Prop) (W : World), Below w.heap.size w W -> AbidesAll W.heap.size J -> AbidesAll W.heap.size Jx ->
  (∀ pre x W1, J pre W1 -> Px x W1 -> YieldAt F (n - 1) P l (encs x) W1 fun e W' =>
   (e = .returned (.bool true) /\ J (pre ++ [x]) W' /\ Kp W1 W') \/ (e = .returned (.bool false) /\ Jx (pre ++ [x]) W')) ->
  J [] W ->
  CallsIn F n P g (#[.func (.yield l) #[] #[]] ++ lb) W fun e W' => (∃ v, e = .returned v) /\ ((∃ xs, S xs /\ J xs W') \/ (∃ pre, Sp pre /\ Jx pre W'))
def CellsKept (A B : World) : Prop := ∀ (k : Nat) (o : Obj), A.heap[k]? = some o -> o.isCells = true -> B.heap[k]? = some o
theorem cellsKept_put {W : World} {l : Nat} {o o' : Obj} (h : W.heap[l]? = some o) (ho : o.isCells = false) : CellsKept W (W.putObj l o') := fun k ob hk hc => by
 by_cases e : k = l
 ·subst e; rw [h] at hk; cases hk; rw [ho] at hc; cases hc
 ·exact (World.putObj_heap_other e).trans hk
variable {F : Fence} {n : Nat} {P : Program}
theorem wpIn_range_told {α : Type} {g : Operand} {ps : Array Tmp} {assign body : Code} {Q : Exit -> Act -> World -> Prop} {a : Act} {w : World}
 (hro : F.round = none) (h1 : 1 <= n) {gf : Nat} {lb : Array Value} (hg : a.eval g = .func (.func gf) #[] lb) (hFg : F.fn gf) (eg : ∀ args w, (callFunc gf args).run P w = .ok (.enter gf args) w)
 {encs : α -> Array Value} {Px : α -> World -> Prop} {Kp : World -> World -> Prop} {S Sp : List α -> Prop} {w0 : World} (hseq : Tells F (n - 1) P gf lb encs Px Kp S Sp w0)
 (hKt : ∀ {A B C : World}, Kp A B -> Kp B C -> Kp A C) (hKb : ∀ (W : World) (l : Nat) (o o' : Obj), w.heap.size <= l -> W.heap[l]? = some o -> o.isCells = false -> o.isWalk = false -> Kp W (W.putObj l o'))
 (hPx : ∀ x A B, CellsKept A B -> Px x A -> Px x B) (hb0 : Below w0.heap.size w0 w) (hps : ∀ x, (encs x).size = ps.size)
 (I : List α -> World -> Prop) (Ix : Code -> List α -> World -> Prop) (hI : AbidesAll w.heap.size I) (hIx : ∀ c, AbidesAll w.heap.size (Ix c)) (h0 : I [] w) (Ax : α -> Act -> World -> Prop) (hAx : ∀ x a' A B, CellsKept A B -> Ax x a' A -> Ax x a' B)
 (hassign : ∀ (l : Nat) (pre : List α) (x : α) (W : World) (K : Act -> World -> Prop), I pre W -> Px x W -> (∀ a' W', KeepsFrom w.heap.size W W' -> Kp W W' -> I pre W' -> Px x W' -> Ax x a' W' -> K a' W') ->
  assign.wpIn (F.inRound l) (n - 1 - 1) P (Exit.then K (fun _ _ _ => False)) { tmps := (ps.zip (encs x)).foldl (fun t (p, v) => t.setIfInBounds p v) a.tmps, defers := [] } W)
 (hbody : ∀ (l : Nat) (pre : List α) (x : α) (a' : Act) (W : World), w.heap.size <= l -> (∃ r, W.heap[l]? = some (.loop r)) -> I pre W -> Px x W -> Ax x a' W -> body.wpIn (F.inRound l) (n - 1 - 1) P (ownPostG w.heap.size Kp I Ix (pre ++ [x]) W) a' W)
 (hdone : ∀ (D : Nat) (xs : List α) (W : World), w.heap.size <= D -> S xs -> I xs W -> W.heap[D]? = some (.deferred (some [])) -> Q .normal { a with defers := { target := .collected D, args := #[] } :: a.defers } W)
 (hstop : ∀ (D : Nat) (c : Code) (pre : List α) (W : World), w.heap.size <= D -> Sp pre -> Ix c pre W -> W.heap[D]? = some (.deferred (some [])) -> c.wpIn F n P Q { a with defers := { target := .collected D, args := #[] } :: a.defers } W) :
 (Code.rangeFunc g ps assign body).wpIn F n P Q a w := by
 refine wpIn_rangeFunc ?_
 intro fn hfn
 rw [hro]
 generalize hL : w.heap.size + 1 = L
 have hLw : w.heap.size < L := by omega
 let rec_ (st : LoopState) (pe : Option Code) : Loop := { state := st, pending := pe, fn, tmps := a.tmps, params := ps, assign, body, defers := w.heap.size }
 obtain ⟨W1, hW1⟩ : ∃ W1, (w.alloc (.deferred (some []))).alloc (.loop (rec_ .ready none)) = W1 := ⟨_, rfl⟩
 have hs1 : W1.heap.size = L + 1 := by rw [<- hW1]; simp; omega
 have hL1 : W1.heap[L]? = some (.loop (rec_ .ready none)) := by
  have h := World.alloc_heap_new (w.alloc (.deferred (some []))) (.loop (rec_ .ready none))
  rw [World.size_alloc, hL, hW1] at h; exact h
 have hK1 : W1.heap[w.heap.size]? = some (.deferred (some [])) := by
  rw [<- hW1]; exact (Below.heap_alloc _ _ _ (by simp)).trans (World.alloc_heap_new w _)
 have hI1 : I [] W1 := by rw [<- hW1]; exact hI.alloc _ (hI.alloc _ h0)
 have hb1 : Below w0.heap.size w0 W1 := by
  rw [<- hW1]; exact hb0.trans ((((Below.refl _ w).alloc (Nat.le_refl _) _).alloc (by simp) _).mono hb0.size)
 refine ⟨L, [{ target := .collected w.heap.size, args := #[] }], W1, { target := .fn (.func gf) lb, args := #[.func (.yield L) #[] #[]] }, W1, gf, #[.func (.yield L) #[] #[]] ++ lb, W1, ?_, ?_, ?_, ?_, fun _ => h1, ?_⟩
 ·rw [<- hW1, <- hL]; exact run_enterLoop_outer _ _ _ _ _
 ·simp only [resolve, hg]
  simp [go_sem]
 ·intro f' hf'; simp [Target.leads] at hf'; subst hf'; exact hFg
 ·simp [invoke, go_sem, eg]
 refine (hseq L (fun pre W => I pre W /\ W.heap[L]? = some (.loop (rec_ .ready none)) /\ W.heap[w.heap.size]? = some (.deferred (some [])))
  (fun pre W => ∃ c, Ix c pre W /\ W.heap[L]? = some (.loop (rec_ .done (some c))) /\ W.heap[w.heap.size]? = some (.deferred (some []))) W1 hb1
  ((hI.mono (by omega)).and ((abidesAll_block (by omega)).and (abidesAll_block (by omega)))) ?_ ?_ ⟨hI1, hL1, hK1⟩).mono ?_
 ·rintro s A B row ⟨c, hc⟩ hg' hr
  exact ⟨c, ((hIx c).mono (by omega)).and ((abidesAll_block (by omega)).and (abidesAll_block (by omega))) s A B row hc hg' hr⟩
 · -- one round
  rintro pre x W ⟨hi, hl, hk⟩ hpx
  have hy := run_yield (P := P) (args := encs x) hl (hps x)
  refine ⟨fn, _, assign, body, hy, roundIn_of_wpIn hfn (hassign _ pre x W _ hi hpx ?_)⟩
  clear hy
  intro a' V hkf hkp hiV hpV hax
  have hlV := hkf.same _ _ (by omega) hl rfl
  have hkV := hkf.same _ _ (Nat.le_refl _) hk rfl
  refine ⟨_, run_beginRound hlV rfl, ?_⟩
  have hl2 : (V.putObj L (.loop (rec_ .busy none))).heap[L]? = some (.loop (rec_ .busy none)) := World.putObj_heap_same (Array.getElem?_eq_some_iff.1 hlV).1
  have hk2 : (V.putObj L (.loop (rec_ .busy none))).heap[w.heap.size]? = some (.deferred (some [])) := (World.putObj_heap_other (by omega)).trans hkV
  have hp2 : Kp V (V.putObj L (.loop (rec_ .busy none))) := hKb _ _ _ _ (by omega) hlV rfl rfl
  refine wpIn_mono (hbody _ pre x a' _ (by omega) ⟨_, hl2⟩ (hI.put _ hiV (by omega)) (hPx x _ _ (cellsKept_put hlV rfl) hpV) (hAx x a' _ _ (cellsKept_put hlV rfl) hax)) ?_
  have fin : ∀ (jump : Option Code) (X : World), KeepsFrom w.heap.size (V.putObj L (.loop (rec_ .busy none))) X ->
   (Instr.endRound L jump).run P X = .ok (.bool jump.isNone) (X.putObj L (.loop (rec_ (if jump.isNone then .ready else .done) jump))) /\ X.heap[L]? = some (.loop (rec_ .busy none)) /\
   (X.putObj L (.loop (rec_ (if jump.isNone then .ready else .done) jump))).heap[L]? = some (.loop (rec_ (if jump.isNone then .ready else .done) jump)) /\
   (X.putObj L (.loop (rec_ (if jump.isNone then .ready else .done) jump))).heap[w.heap.size]? = some (.deferred (some [])) := fun jump X hX => by
   have h3 := hX.same _ _ (by omega) hl2 rfl
   exact ⟨run_endRound (P := P) jump h3, h3, World.putObj_heap_same (Array.getElem?_eq_some_iff.1 h3).1, (World.putObj_heap_other (by omega)).trans (hX.same _ _ (Nat.le_refl _) hk2 rfl)⟩
  rintro e a3 X hp
  cases e with
  | normal =>
   obtain ⟨hX, hkp3, hi3⟩ := hp
   obtain ⟨hr, hl3, hl4, hk4⟩ := fin none X hX
   exact ⟨_, _, hr, .inl ⟨rfl, ⟨hI.put _ hi3 (by omega), hl4, hk4⟩, hKt hkp (hKt (hKt hp2 hkp3) (hKb _ _ _ _ (by omega) hl3 rfl rfl))⟩⟩
  | ret =>
   obtain ⟨hX, hi3⟩ := hp
   obtain ⟨hr, hl3, hl4, hk4⟩ := fin (some .ret) X hX
   exact ⟨_, _, hr, .inr ⟨rfl, .ret, (hIx _).put _ hi3 (by omega), hl4, hk4⟩⟩
  | exit id =>
   obtain ⟨hX, hi3⟩ := hp
   obtain ⟨hr, hl3, hl4, hk4⟩ := fin (some (.exit id)) X hX
   exact ⟨_, _, hr, .inr ⟨rfl, .exit id, (hIx _).put _ hi3 (by omega), hl4, hk4⟩⟩
  | goto t =>
   obtain ⟨hX, hi3⟩ := hp
   obtain ⟨hr, hl3, hl4, hk4⟩ := fin (some (.goto t)) X hX
   exact ⟨_, _, hr, .inr ⟨rfl, .goto t, (hIx _).put _ hi3 (by omega), hl4, hk4⟩⟩
  | panic ch => exact hp.elim
  | outgrown => exact hp.elim
 · -- behind the iterator
  rintro e W2 ⟨⟨v, rfl⟩, (⟨xs, hS, hi, hl, hk⟩ | ⟨pre, hSp, c, hi, hl, hk⟩)⟩
  ·exact ⟨none, _, run_endLoop (P := P) hl (by simp [rec_]), hdone _ xs _ (Nat.le_refl _) hS (hI.put _ hi (by omega)) ((World.putObj_heap_other (by omega)).trans hk)⟩
  ·exact ⟨some c, _, run_endLoop (P := P) hl (by simp [rec_]), hstop _ c pre _ (Nat.le_refl _) hSp ((hIx c).put _ hi (by omega)) ((World.putObj_heap_other (by omega)).trans hk)⟩
end Go.Proofs.YtejaboajgecpaaaGreatDoor
namespace Go.Proofs.YtejaboajgecpaaaGreatDoor
open Go.Lib (hid)
open Go.RowKit
theorem made {w W : World} {cs : Array Value} {T : TypeId} (h : w.alloc (.cells cs T) = W) : Below w.heap.size w W /\ W.heap[w.heap.size]? = some (.cells cs T (0, 0)) := by
 subst h
 exact ⟨(Below.refl _ _).alloc (Nat.le_refl _) _, World.alloc_heap_new _ _⟩
theorem ex1 {α : Type} (a : α) : ∃ x, a = x := ⟨a, rfl⟩
theorem gl {α : Type} {a : Array α} {i : Nat} {x : α} (h : a[i]? = some x) : i < a.size := (Array.getElem?_eq_some_iff.1 h).1
inductive Ty where
 | mk (k p : Int) (n : ByteArray) (s : Int) (ls : List ByteArray) (ts : List Ty)
instance : Inhabited Ty := ⟨.mk 0 0 ⟨#[]⟩ 0 [] []⟩
namespace Ty
def k : Ty -> Int | .mk k _ _ _ _ _ => k
def p : Ty -> Int | .mk _ p _ _ _ _ => p
def n : Ty -> ByteArray | .mk _ _ n _ _ _ => n
def s : Ty -> Int | .mk _ _ _ s _ _ => s
def ls : Ty -> List ByteArray | .mk _ _ _ _ ls _ => ls
def ts : Ty -> List Ty | .mk _ _ _ _ _ ts => ts
end Ty
mutual
theorem Ty.ind {M : Ty -> Prop} (h : ∀ k p n s ls ts, (∀ t ∈ ts, M t) -> M (.mk k p n s ls ts)) : ∀ t, M t
 | .mk k p n s ls ts => h k p n s ls ts (Ty.inds h ts)
theorem Ty.inds {M : Ty -> Prop} (h : ∀ k p n s ls ts, (∀ t ∈ ts, M t) -> M (.mk k p n s ls ts)) : ∀ ts : List Ty, ∀ t ∈ ts, M t
 | [], _, hm => by cases hm
 | t :: r, u, hm => by
  rcases List.mem_cons.1 hm with e | hm
  ·rw [e]; exact Ty.ind h t
  ·exact Ty.inds h r u hm
end
mutual
def Ty.size : Ty -> Nat
 | .mk _ _ _ _ _ ts => Ty.sizes ts + 1
def Ty.sizes : List Ty -> Nat
 | [] => 0
 | t :: r => t.size + Ty.sizes r
end
mutual
def Ty.depth : Ty -> Nat
 | .mk _ _ _ _ _ ts => Ty.depths ts + 1
def Ty.depths : List Ty -> Nat
 | [] => 0
 | t :: r => max t.depth (Ty.depths r)
end
theorem Ty.size_eq (t : Ty) : t.size = Ty.sizes t.ts + 1 := by cases t; simp [Ty.size, Ty.ts]
theorem Ty.depth_eq (t : Ty) : t.depth = Ty.depths t.ts + 1 := by cases t; simp [Ty.depth, Ty.ts]
theorem Ty.depth_pos (t : Ty) : 1 <= t.depth := by rw [Ty.depth_eq]; omega
theorem take_snoc_get {α : Type} {l : List α} {i : Nat} {x : α} (h : l[i]? = some x) : l.take (i + 1) = l.take i ++ [x] := by
 rw [List.take_add_one, h]; rfl
theorem Ty.depth_mem {l : List Ty} {t : Ty} (h : t ∈ l) : t.depth <= Ty.depths l := by
 induction l with
 | nil => cases h
 | cons u l ih =>
  simp only [Ty.depths]
  rcases List.mem_cons.1 h with rfl | h
  ·omega
  ·have := ih h; omega
def StrRow (w : World) (b o : Nat) (ls : List ByteArray) : Prop := ∀ (j : Nat) (s : ByteArray), ls[j]? = some s -> w.cell? ⟨b, o + j, none⟩ = some (.string s)
def StrSl (B : Nat -> Prop) (w : World) (v : Value) (ls : List ByteArray) : Prop :=
 (((∃ a c, v = .slice a 0 c) /\ ls = []) \/ ∃ b o c, v = .slice (some ⟨b, o, none⟩) ls.length c /\ B b /\ ls.length <= c /\ StrRow w b o ls) /\ ls.length <= maxLen /\ ∀ s ∈ ls, s.size <= maxLen
mutual
def TyAt (B : Nat -> Prop) (w : World) : Ty -> Nat -> Nat -> Prop
 | .mk k p n s ls ts, b, o => B b /\ n.size <= maxLen /\
  (w.cell? ⟨b, o, none⟩ = some (.int .i64 k) /\ w.cell? ⟨b, o + 1, none⟩ = some (.int .i64 p) /\ w.cell? ⟨b, o + 2, none⟩ = some (.string n) /\ w.cell? ⟨b, o + 3, none⟩ = some (.int .i64 s)) /\
  ∃ lv kv, w.cell? ⟨b, o + 4, none⟩ = some lv /\ w.cell? ⟨b, o + 5, none⟩ = some kv /\ StrSl B w lv ls /\
   (((∃ a c, kv = .slice a 0 c) /\ ts = []) \/ ∃ kb ko c, kv = .slice (some ⟨kb, ko, none⟩) ts.length c /\ B kb /\ TysAt B w ts kb ko) /\ ts.length <= maxLen
def TysAt (B : Nat -> Prop) (w : World) : List Ty -> Nat -> Nat -> Prop
 | [], _, _ => True
 | t :: r, b, o => TyAt B w t b o /\ TysAt B w r b (o + 6)
end
def TySl (B : Nat -> Prop) (w : World) (kv : Value) (ts : List Ty) : Prop :=
 (((∃ a c, kv = .slice a 0 c) /\ ts = []) \/ ∃ kb ko c, kv = .slice (some ⟨kb, ko, none⟩) ts.length c /\ B kb /\ TysAt B w ts kb ko) /\ ts.length <= maxLen
def TyVal (B : Nat -> Prop) (w : World) (v : Value) (t : Ty) : Prop :=
 ∃ lv kv, v = .agg #[.int .i64 t.k, .int .i64 t.p, .string t.n, .int .i64 t.s, lv, kv] /\ t.n.size <= maxLen /\ StrSl B w lv t.ls /\ TySl B w kv t.ts
theorem TyAt.eq {B : Nat -> Prop} {w : World} {t : Ty} {b o : Nat} : TyAt B w t b o ↔ B b /\ t.n.size <= maxLen /\
 (w.cell? ⟨b, o, none⟩ = some (.int .i64 t.k) /\ w.cell? ⟨b, o + 1, none⟩ = some (.int .i64 t.p) /\ w.cell? ⟨b, o + 2, none⟩ = some (.string t.n) /\ w.cell? ⟨b, o + 3, none⟩ = some (.int .i64 t.s)) /\
 ∃ lv kv, w.cell? ⟨b, o + 4, none⟩ = some lv /\ w.cell? ⟨b, o + 5, none⟩ = some kv /\ StrSl B w lv t.ls /\ TySl B w kv t.ts := by
 cases t; simp only [TyAt, TySl, Ty.k, Ty.p, Ty.n, Ty.s, Ty.ls, Ty.ts]
def Keeps (B : Nat -> Prop) (w w' : World) : Prop := ∀ (k : Nat) (o : Obj), B k -> w.heap[k]? = some o -> o.isCells = true -> w'.heap[k]? = some o
theorem Keeps.mono {B C : Nat -> Prop} {a b : World} (h : Keeps B a b) (hc : ∀ k, C k -> B k) : Keeps C a b := fun k o hk ho h' => h k o (hc k hk) ho h'
theorem Keeps.cell {B : Nat -> Prop} {w w' : World} (h : Keeps B w w') {b o : Nat} {v : Value} (hb : B b) (hv : w.cell? ⟨b, o, none⟩ = some v) : w'.cell? ⟨b, o, none⟩ = some v := by
 unfold World.cell? at hv |-
 cases ho : w.heap[b]? with
 | none => simp [ho] at hv
 | some ob =>
  cases ob with
  | cells cs t fr =>
   have := h b _ hb ho rfl
   simp only [ho] at hv
   simp only [this]; exact hv
  | _ => simp [ho] at hv
theorem _root_.Go.RowKit.Below.keeps' {n : Nat} {w w' : World} (h : Below n w w') : Keeps (fun k => k < n) w w' := fun k _ hk ho _ => (h.block k hk).trans ho
def Low (B : Nat -> Prop) (w : World) : Prop := ∀ k, B k -> k < w.heap.size
theorem Low.le {B : Nat -> Prop} {w w' : World} (h : Low B w) (hs : w.heap.size <= w'.heap.size) : Low B w' := fun k hk => Nat.lt_of_lt_of_le (h k hk) hs
theorem blkBelow (w : World) (cs : Array Value) (t : TypeId) : Below w.heap.size w (w.alloc (.cells cs t)) := (Below.refl _ _).alloc (Nat.le_refl _) _
theorem blk_cell {w wr : World} {cs : Array Value} {t : TypeId} (hb : Below (w.heap.size + 1) (w.alloc (.cells cs t)) wr) (j : Nat) {v : Value} (h : cs[j]? = some v) : wr.cell? ⟨w.heap.size, j, none⟩ = some v :=
 (hb.cell (p := ⟨w.heap.size, j, none⟩) (Nat.lt_succ_self _)).trans (by simp [h])
theorem blk_below {w wr : World} {cs : Array Value} {t : TypeId} (hb : Below (w.heap.size + 1) (w.alloc (.cells cs t)) wr) : Below w.heap.size w wr := (blkBelow w cs t).trans (hb.mono (Nat.le_succ _))
def Drew (w wr : World) : Prop := ∃ nq, wr = w.drewN nq
theorem Drew.refl (w : World) : Drew w w := ⟨0, rfl⟩
theorem Drew.more {w wr : World} (h : Drew w wr) (n : Nat) : Drew w (wr.drewN n) := by
 obtain ⟨m, rfl⟩ := h; exact ⟨m + n, by rw [World.drewN_drewN]⟩
theorem Drew.below {w wr : World} (h : Drew w wr) (B : Nat) : Below B w wr := by
 obtain ⟨m, rfl⟩ := h; exact below_drewN (Below.refl _ _) m
theorem below_seq {a b c : World} (h : Below a.heap.size a b) (k : Below b.heap.size b c) : Below a.heap.size a c := h.trans (k.mono h.size)
theorem bcell {W w1 : World} (hb : Below W.heap.size W w1) : (∀ b o, b < W.heap.size -> w1.cell? ⟨b, o, none⟩ = W.cell? ⟨b, o, none⟩) /\ (∀ b o, b < W.heap.size -> w1.frozen? ⟨b, o, none⟩ = W.frozen? ⟨b, o, none⟩) :=
 ⟨fun b o h => hb.cell (p := ⟨b, o, none⟩) h, fun b o h => hb.frozen (p := ⟨b, o, none⟩) h⟩
theorem StrSl.keep {B : Nat -> Prop} {w w' : World} (h : Keeps B w w') {v : Value} {ls : List ByteArray} (hv : StrSl B w v ls) : StrSl B w' v ls := by
 refine ⟨?_, hv.2⟩
 rcases hv.1 with h1 | ⟨b, o, c, h1, h2, hc, h3⟩
 ·exact .inl h1
 ·exact .inr ⟨b, o, c, h1, h2, hc, fun j s hj => h.cell h2 (h3 j s hj)⟩
mutual
theorem TyAt.keep {B : Nat -> Prop} {w w' : World} (h : Keeps B w w') : ∀ (t : Ty) (b o : Nat), TyAt B w t b o -> TyAt B w' t b o
 | .mk k p n s ls ts, b, o, ht => by
  simp only [TyAt] at ht |-
  obtain ⟨hb, hn, ⟨c0, c1, c2, c3⟩, lv, kv, c4, c5, hl, hk, hm⟩ := ht
  refine ⟨hb, hn, ⟨h.cell hb c0, h.cell hb c1, h.cell hb c2, h.cell hb c3⟩, lv, kv, h.cell hb c4, h.cell hb c5, hl.keep h, ?_, hm⟩
  rcases hk with h1 | ⟨kb, ko, c, h1, h2, h3⟩
  ·exact .inl h1
  ·exact .inr ⟨kb, ko, c, h1, h2, TysAt.keep h ts kb ko h3⟩
theorem TysAt.keep {B : Nat -> Prop} {w w' : World} (h : Keeps B w w') : ∀ (ts : List Ty) (b o : Nat), TysAt B w ts b o -> TysAt B w' ts b o
 | [], _, _, _ => by simp [TysAt]
 | t :: r, b, o, ht => by
  simp only [TysAt] at ht |-
  exact ⟨TyAt.keep h t b o ht.1, TysAt.keep h r b (o + 6) ht.2⟩
end
theorem TySl.keep {B : Nat -> Prop} {w w' : World} (h : Keeps B w w') {v : Value} {ts : List Ty} (hv : TySl B w v ts) : TySl B w' v ts := by
 refine ⟨?_, hv.2⟩
 rcases hv.1 with h1 | ⟨b, o, c, h1, h2, h3⟩
 ·exact .inl h1
 ·exact .inr ⟨b, o, c, h1, h2, TysAt.keep h _ _ _ h3⟩
theorem TyVal.keep {B : Nat -> Prop} {w w' : World} (h : Keeps B w w') {v : Value} {t : Ty} (hv : TyVal B w v t) : TyVal B w' v t := by
 obtain ⟨lv, kv, e, hn, hl, hk⟩ := hv
 exact ⟨lv, kv, e, hn, hl.keep h, hk.keep h⟩
theorem StrSl.mono {B C : Nat -> Prop} {w : World} (h : ∀ k, B k -> C k) {v : Value} {ls : List ByteArray} (hv : StrSl B w v ls) : StrSl C w v ls := by
 refine ⟨?_, hv.2⟩
 rcases hv.1 with h1 | ⟨b, o, c, h1, h2, hc, h3⟩
 ·exact .inl h1
 ·exact .inr ⟨b, o, c, h1, h _ h2, hc, h3⟩
mutual
theorem TyAt.mono {B C : Nat -> Prop} {w : World} (h : ∀ k, B k -> C k) : ∀ (t : Ty) (b o : Nat), TyAt B w t b o -> TyAt C w t b o
 | .mk k p n s ls ts, b, o, ht => by
  simp only [TyAt] at ht |-
  obtain ⟨hb, hn, hc, lv, kv, c4, c5, hl, hk, hm⟩ := ht
  refine ⟨h _ hb, hn, hc, lv, kv, c4, c5, hl.mono h, ?_, hm⟩
  rcases hk with h1 | ⟨kb, ko, c, h1, h2, h3⟩
  ·exact .inl h1
  ·exact .inr ⟨kb, ko, c, h1, h _ h2, TysAt.mono h ts kb ko h3⟩
theorem TysAt.mono {B C : Nat -> Prop} {w : World} (h : ∀ k, B k -> C k) : ∀ (ts : List Ty) (b o : Nat), TysAt B w ts b o -> TysAt C w ts b o
 | [], _, _, _ => by simp [TysAt]
 | t :: r, b, o, ht => by
  simp only [TysAt] at ht |-
  exact ⟨TyAt.mono h t b o ht.1, TysAt.mono h r b (o + 6) ht.2⟩
end
theorem TySl.mono {B C : Nat -> Prop} {w : World} (h : ∀ k, B k -> C k) {v : Value} {ts : List Ty} (hv : TySl B w v ts) : TySl C w v ts := by
 refine ⟨?_, hv.2⟩
 rcases hv.1 with h1 | ⟨b, o, c, h1, h2, h3⟩
 ·exact .inl h1
 ·exact .inr ⟨b, o, c, h1, h _ h2, TysAt.mono h _ _ _ h3⟩
theorem TyVal.mono {B C : Nat -> Prop} {w : World} (h : ∀ k, B k -> C k) {v : Value} {t : Ty} (hv : TyVal B w v t) : TyVal C w v t := by
 obtain ⟨lv, kv, e, hn, hl, hk⟩ := hv
 exact ⟨lv, kv, e, hn, hl.mono h, hk.mono h⟩
theorem TyVal.to {B : Nat -> Prop} {C : Nat} {w w' : World} (hBC : ∀ k, B k -> k < C) (hb : Below C w w') {v : Value} {t : Ty} (hv : TyVal B w v t) : TyVal B w' v t := hv.keep (hb.keeps'.mono hBC)
theorem TysAt.get {B : Nat -> Prop} {w : World} : ∀ {ts : List Ty} {b o : Nat}, TysAt B w ts b o -> ∀ {i : Nat} {t : Ty}, ts[i]? = some t -> TyAt B w t b (o + i * 6)
 | [], _, _, _, i, t, hi => by simp at hi
 | u :: r, b, o, h, i, t, hi => by
  simp only [TysAt] at h
  cases i with
  | zero => simp at hi; subst hi; simpa using h.1
  | succ i =>
   have := TysAt.get h.2 (i := i) (t := t) (by simpa using hi)
   rw [show o + (i + 1) * 6 = o + 6 + i * 6 by omega]; exact this
theorem TySl.open {B : Nat -> Prop} {w : World} {kv : Value} {ts : List Ty} (h : TySl B w kv ts) :
 ∃ pa len c, kv = .slice pa len c /\ Hid (len = ts.length) /\ len <= 9223372036854775807 /\ ∀ i t, ts[i]? = some t -> ∃ kb ko, pa = some ⟨kb, ko, none⟩ /\ B kb /\ TyAt B w t kb (ko + i * 6) := by
 obtain ⟨h, hm⟩ := h
 unfold maxLen at hm
 rcases h with ⟨⟨a, c, rfl⟩, rfl⟩ | ⟨kb, ko, c, rfl, hkb, hrow⟩
 ·exact ⟨a, 0, c, rfl, hid rfl, by omega, fun i t hi => by simp at hi⟩
 ·exact ⟨_, _, _, rfl, hid rfl, by omega, fun i t hi => ⟨kb, ko, rfl, hkb, hrow.get hi⟩⟩
theorem StrSl.open {B : Nat -> Prop} {w : World} {v : Value} {ls : List ByteArray} (h : StrSl B w v ls) :
 ∃ pa len c, v = .slice pa len c /\ Hid (len = ls.length) /\ len <= 9223372036854775807 /\ ∀ i s, ls[i]? = some s -> s.size <= maxLen /\ ∃ kb ko, pa = some ⟨kb, ko, none⟩ /\ B kb /\ w.cell? ⟨kb, ko + i, none⟩ = some (.string s) := by
 obtain ⟨h, hm, hz⟩ := h
 unfold maxLen at hm
 rcases h with ⟨⟨a, c, rfl⟩, rfl⟩ | ⟨b, o, c, rfl, hb, _, hrow⟩
 ·exact ⟨a, 0, c, rfl, hid rfl, by omega, fun i t hi => by simp at hi⟩
 ·exact ⟨_, _, _, rfl, hid rfl, by omega, fun i t hi => ⟨hz _ (List.mem_of_getElem? hi), b, o, rfl, hb, hrow i t hi⟩⟩
theorem TyAt.load {B : Nat -> Prop} {w : World} {t : Ty} {b o : Nat} (h : TyAt B w t b o) :
 ∃ lv kv, (w.cell? ⟨b, o, none⟩ = some (.int .i64 t.k) /\ w.cell? ⟨b, o + 1, none⟩ = some (.int .i64 t.p) /\ w.cell? ⟨b, o + 2, none⟩ = some (.string t.n) /\ w.cell? ⟨b, o + 3, none⟩ = some (.int .i64 t.s) /\
  w.cell? ⟨b, o + 4, none⟩ = some lv /\ w.cell? ⟨b, o + 5, none⟩ = some kv) /\ TyVal B w (.agg #[.int .i64 t.k, .int .i64 t.p, .string t.n, .int .i64 t.s, lv, kv]) t := by
 obtain ⟨_, hn, ⟨c0, c1, c2, c3⟩, lv, kv, c4, c5, hl, hk⟩ := TyAt.eq.1 h
 exact ⟨lv, kv, ⟨c0, c1, c2, c3, c4, c5⟩, lv, kv, rfl, hn, hl, hk⟩
theorem TyAt.load' {B : Nat -> Prop} {w : World} {t : Ty} {b o : Nat} (h : TyAt B w t b o) :
 ∃ (la : Option Addr) (ln lc : Nat) (ka : Option Addr) (kn kc : Nat), (w.cell? ⟨b, o, none⟩ = some (.int .i64 t.k) /\ w.cell? ⟨b, o + 1, none⟩ = some (.int .i64 t.p) /\ w.cell? ⟨b, o + 2, none⟩ = some (.string t.n) /\ w.cell? ⟨b, o + 3, none⟩ = some (.int .i64 t.s) /\
  w.cell? ⟨b, o + 4, none⟩ = some (.slice la ln lc) /\ w.cell? ⟨b, o + 5, none⟩ = some (.slice ka kn kc)) /\ TyVal B w (.agg #[.int .i64 t.k, .int .i64 t.p, .string t.n, .int .i64 t.s, .slice la ln lc, .slice ka kn kc]) t := by
 obtain ⟨lv, kv, hc, hv⟩ := h.load
 obtain ⟨lv', kv', e, hn, hl, hk⟩ := hv
 obtain ⟨la, ln, lc, el, _⟩ := hl.open
 obtain ⟨ka, kn, kc, ek, _⟩ := hk.open
 simp only [Value.agg.injEq, Array.mk.injEq, List.cons.injEq, and_true, true_and] at e
 obtain ⟨rfl, rfl⟩ := e
 subst el ek
 exact ⟨la, ln, lc, ka, kn, kc, hc, _, _, rfl, hn, hl, hk⟩
end Go.Proofs.YtejaboajgecpaaaGreatDoor
namespace Go.Proofs.YtejaboajgecpaaaGreatDoor
open Go.RowKit
theorem ret_int {k : IntKind} {a b : Int} (h : a = b) : Ending.returned (.int k a) = .returned (.int k b) := by rw [h]
theorem ret_bool {a b : Bool} (h : a = b) : Ending.returned (.bool a) = .returned (.bool b) := by rw [h]
end Go.Proofs.YtejaboajgecpaaaGreatDoor
namespace Go.Proofs.YtejaboajgecpaaaGreatDoor
open Go.Lib (hid)
open Go.RowKit
theorem str_ne {s s' : ByteArray} (h : s ≠ s') : (s.toList != s'.toList) = true := by
 simp only [bne_iff_ne, ne_eq]
 intro e
 apply h
 rw [Lib.toList_data, Lib.toList_data] at e
 obtain ⟨⟨a⟩⟩ := s
 obtain ⟨⟨b⟩⟩ := s'
 simp at e
 rw [e]
theorem rtexts_any (B : Nat -> Prop) (v v' : Value) (ls ls' : List ByteArray) (w : World) (h : StrSl B w v ls) (h' : StrSl B w v' ls') :
 Calls Tryz.prog 41 #[v, v'] w fun e w' => e = .returned (.bool (decide (ls = ls'))) /\ Drew w w' := by
 obtain ⟨pa, len, c, rfl, hlen, hm, hget⟩ := h.open
 obtain ⟨pa', len', c', rfl, hlen', hm', hget'⟩ := h'.open
 have HG := hid hget
 have HG' := hid hget'
 clear hget hget' h h'
 by_cases hl : len = len'
 ·subst hl
  go_enter Tryz.func41, Tryz.ntmps41
  go_wp2_with fail
  go_loopw [5] (fun i wr => ∃ (j : Nat), i = .int .i64 j /\ j <= len /\ Hid (ls.take j = ls'.take j) /\ Drew w wr) (fun i _ => len - (intOf i).toNat)
  case atStart => exact ⟨0, rfl, by omega, hid (by simp), Drew.refl _⟩
  case round =>
   obtain ⟨j, rfl, hj, HT, hd⟩ := hrel
   by_cases hlt : j < len
   ·obtain ⟨s, hs⟩ : ∃ s, ls[j]? = some s := ⟨_, List.getElem?_eq_getElem (by rw [<- hlen.out]; exact hlt)⟩
    obtain ⟨s', hs'⟩ : ∃ s', ls'[j]? = some s' := ⟨_, List.getElem?_eq_getElem (by rw [<- hlen'.out]; exact hlt)⟩
    obtain ⟨_, kb, ko, rfl, hkb, hc⟩ := HG.out j s hs
    obtain ⟨_, kb', ko', rfl, hkb', hc'⟩ := HG'.out j s' hs'
    replace hc : wr.cell? ⟨kb, ko + j, none⟩ = some (.string s) := by obtain ⟨m, rfl⟩ := hd; exact hc
    replace hc' : wr.cell? ⟨kb', ko' + j, none⟩ = some (.string s') := by obtain ⟨m, rfl⟩ := hd; exact hc'
    by_cases hss : s = s'
    ·subst hss
     have hn : Hid (ls.take (j + 1) = ls'.take (j + 1)) := hid (by rw [take_snoc_get hs, take_snoc_get hs', HT.out])
     clear hs hs'
     go_wp2_with fail
     go_quiet (fail)
     go_wp2_with fail
     go_roundw
     case rel => exact ⟨j + 1, by go_num, by omega, hn, hd.more _⟩
     case measure => simp [intOf]; omega
    ·have hne : Hid (ls ≠ ls') := hid (fun e => hss (by rw [e, hs'] at hs; exact (Option.some.inj hs).symm))
     have hb1 := str_ne hss
     have hb2 : (s.toList == s'.toList) = false := by simpa using hb1
     clear hs hs' hss
     go_wp2_with fail
     go_quiet (fail)
     go_wp2_with fail
     go_ret
     exact ⟨ret_bool (by simp [hne.out]), hd.more _⟩
   ·obtain rfl : j = len := by omega
    go_wp2_with fail
    go_ret
    refine ⟨ret_bool ?_, hd⟩
    have := HT.out
    rw [List.take_of_length_le (by rw [hlen.out]; exact Nat.le_refl _), List.take_of_length_le (by rw [hlen'.out]; exact Nat.le_refl _)] at this
    simp [this]
 ·have hl' : (len != len') = true := by simpa using hl
  have hne : ls ≠ ls' := fun e => hl (by rw [hlen.out, hlen'.out, e])
  have HN := hid hne
  clear hne
  go_enter Tryz.func41, Tryz.ntmps41
  go_wp2_with fail
  go_ret
  exact ⟨ret_bool (by simp [HN.out]), Drew.refl _⟩
noncomputable def eqB (t u : Ty) : Bool := @decide (t = u) (Classical.propDecidable _)
theorem eqB_true {t u : Ty} : eqB t u = true ↔ t = u := by unfold eqB; simp
theorem eqB_ne {t u : Ty} (h : t ≠ u) : eqB t u = false := by
 cases e : eqB t u with
 | false => rfl
 | true => exact absurd (eqB_true.1 e) h
def SameAt (f : Nat) (B : Nat -> Prop) (t : Ty) : Prop := ∀ (u : Ty) (v v' : Value) (w : World), Low B w -> TyVal B w v t -> TyVal B w v' u -> Calls Tryz.prog f #[v, v'] w fun e w' => e = .returned (.bool (eqB t u)) /\ Below w.heap.size w w'
abbrev cell6 (k p : Int) (n : ByteArray) (s : Int) (lv kv : Value) : Obj := .cells #[.int .i64 k, .int .i64 p, .string n, .int .i64 s, lv, kv] 28
abbrev box2 (w : World) (k p : Int) (n : ByteArray) (s : Int) (lv kv : Value) (k' p' : Int) (n' : ByteArray) (s' : Int) (lv' kv' : Value) : World := (w.alloc (cell6 k p n s lv kv)).alloc (cell6 k' p' n' s' lv' kv')
theorem box2_below (w : World) (o o' : Obj) : Below w.heap.size w ((w.alloc o).alloc o') := ((Below.refl _ _).alloc (Nat.le_refl _) _).alloc (by simp) _
theorem rsame_no (k p s k' p' s' : Int) (n n' : ByteArray) (lv kv lv' kv' : Value) (h : ¬ (k = k' /\ p = p' /\ n = n' /\ s = s')) (w : World) :
 Calls Tryz.prog 18 #[.agg #[.int .i64 k, .int .i64 p, .string n, .int .i64 s, lv, kv], .agg #[.int .i64 k', .int .i64 p', .string n', .int .i64 s', lv', kv']] w fun e w' => e = .returned (.bool false) /\ Below w.heap.size w w' := by
 by_cases h1 : k = k'
 ·subst h1
  by_cases h2 : p = p'
  ·subst h2
   by_cases h3 : n = n'
   ·subst h3
    have h4 : (s != s') = true := by simp; intro e; exact h ⟨rfl, rfl, rfl, e⟩
    clear h
    go_enter Tryz.func18, Tryz.ntmps18
    go_wp2_with fail
    go_ret
    exact ⟨rfl, box2_below _ _ _⟩
   ·have h4 := str_ne h3
    have h5 : (n.toList == n'.toList) = false := by simpa using h4
    clear h
    go_enter Tryz.func18, Tryz.ntmps18
    go_wp2_with fail
    go_ret
    exact ⟨rfl, box2_below _ _ _⟩
  ·have h4 : (p != p') = true := by simpa using h2
   clear h
   go_enter Tryz.func18, Tryz.ntmps18
   go_wp2_with fail
   go_ret
   exact ⟨rfl, box2_below _ _ _⟩
 ·have h4 : (k != k') = true := by simpa using h1
  clear h
  go_enter Tryz.func18, Tryz.ntmps18
  go_wp2_with fail
  go_ret
  exact ⟨rfl, box2_below _ _ _⟩
theorem lists_eq {α : Type} {l l' : List α} {n : Nat} (h : n = l.length) (h' : n = l'.length) (ht : l.take n = l'.take n) : l = l' := by
 rw [List.take_of_length_le (by omega), List.take_of_length_le (by omega)] at ht; exact ht
theorem box2_fst {w wr : World} {cs cs' : Array Value} {t t' : TypeId} (hb : Below (w.heap.size + 2) ((w.alloc (.cells cs t)).alloc (.cells cs' t')) wr) (j : Nat) {v : Value} (h : cs[j]? = some v) : wr.cell? ⟨w.heap.size, j, none⟩ = some v := by
 refine (hb.cell (p := ⟨w.heap.size, j, none⟩) (by simp)).trans ?_
 rw [(Below.refl _ _ |>.alloc (Nat.le_refl _) (.cells cs' t') : Below (w.alloc (.cells cs t)).heap.size (w.alloc (.cells cs t)) _).cell (by simp)]
 simp [h]
theorem box2_snd {w wr : World} {cs cs' : Array Value} {t t' : TypeId} (hb : Below (w.heap.size + 2) ((w.alloc (.cells cs t)).alloc (.cells cs' t')) wr) (j : Nat) {v : Value} (h : cs'[j]? = some v) : wr.cell? ⟨w.heap.size + 1, j, none⟩ = some v := by
 refine (hb.cell (p := ⟨w.heap.size + 1, j, none⟩) (by simp)).trans ?_
 have := blk_cell (w := w.alloc (.cells cs t)) (cs := cs') (t := t') (Below.refl _ _) j h
 simpa using this
theorem box2_low {w wr : World} {o o' : Obj} (hb : Below (w.heap.size + 2) ((w.alloc o).alloc o') wr) : Below w.heap.size w wr := (box2_below w o o').trans (hb.mono (by omega))
theorem rsame_kids (B : Nat -> Prop) (k p s : Int) (n : ByteArray) (lv lv' kv kv' : Value) (ls ls' : List ByteArray) (ts ts' : List Ty) (ih : ∀ t ∈ ts, SameAt 18 B t) (w : World) (hB : Low B w)
 (hl : StrSl B w lv ls) (hl' : StrSl B w lv' ls') (hk : TySl B w kv ts) (hk' : TySl B w kv' ts') :
 Calls Tryz.prog 18 #[.agg #[.int .i64 k, .int .i64 p, .string n, .int .i64 s, lv, kv], .agg #[.int .i64 k, .int .i64 p, .string n, .int .i64 s, lv', kv']] w
  fun e w' => e = .returned (.bool (eqB (.mk k p n s ls ts) (.mk k p n s ls' ts'))) /\ Below w.heap.size w w' := by
 obtain ⟨pa, len, c, rfl, hlen, hm, hget⟩ := hk.open
 obtain ⟨pa', len', c', rfl, hlen', hm', hget'⟩ := hk'.open
 have HG := hid hget
 have HG' := hid hget'
 have hb0 := box2_below w (cell6 k p n s lv (.slice pa len c)) (cell6 k p n s lv' (.slice pa' len' c'))
 have HT := hid (rtexts_any B lv lv' ls ls' (box2 w k p n s lv (.slice pa len c) k p n s lv' (.slice pa' len' c')) (hl.keep (hb0.keeps'.mono hB)) (hl'.keep (hb0.keeps'.mono hB)))
 clear hget hget' hk hk' hl hl' hb0
 by_cases he : ls = ls'
 ·subst he
  rw [show decide (ls = ls) = true by simp] at HT
  by_cases hz : len = len'
  ·subst hz
   go_enter Tryz.func18, Tryz.ntmps18
   go_wp2_with (go_at_call 41; refine HT.out.mono ?_; rintro e w1 ⟨rfl, nq, rfl⟩)
   clear HT
   generalize hW0 : ((box2 w k p n s lv (.slice pa len c) k p n s lv' (.slice pa' len c')).drewN nq) = W0
   have hB0 : Below (w.heap.size + 2) (box2 w k p n s lv (.slice pa len c) k p n s lv' (.slice pa' len c')) W0 := by rw [<- hW0]; exact below_drewN (Below.refl _ _) _
   clear hW0
   go_loopw [5] (fun i wr => ∃ (j : Nat), i = .int .i64 j /\ j <= len /\ Hid (ts.take j = ts'.take j) /\ Below (w.heap.size + 2) (box2 w k p n s lv (.slice pa len c) k p n s lv' (.slice pa' len c')) wr) (fun i _ => len - (intOf i).toNat)
   case atStart => exact ⟨0, rfl, by omega, hid (by simp), hB0⟩
   case round =>
    obtain ⟨j, rfl, hj, HT, hb⟩ := hrel
    have c5 := box2_fst hb 5 rfl
    have d5 := box2_snd hb 5 rfl
    have hw := box2_low hb
    by_cases hlt : j < len
    ·obtain ⟨t, ht⟩ : ∃ t, ts[j]? = some t := ⟨_, List.getElem?_eq_getElem (by rw [<- hlen.out]; exact hlt)⟩
     obtain ⟨t', ht'⟩ : ∃ t', ts'[j]? = some t' := ⟨_, List.getElem?_eq_getElem (by rw [<- hlen'.out]; exact hlt)⟩
     obtain ⟨kb, ko, rfl, hkb, hty⟩ := HG.out j t ht
     obtain ⟨kb', ko', rfl, hkb', hty'⟩ := HG'.out j t' ht'
     obtain ⟨lv1, kv1, ⟨a0, a1, a2, a3, a4, a5⟩, hval⟩ := (hty.keep (hw.keeps'.mono hB)).load
     obtain ⟨lv2, kv2, ⟨b0, b1, b2, b3, b4, b5⟩, hval'⟩ := (hty'.keep (hw.keeps'.mono hB)).load
     have IH := hid (ih t (List.mem_of_getElem? ht) t' _ _ wr.drew (hB.le hw.size) (hval.to (hB.le hw.size) (Below.drew (Below.refl _ _))) (hval'.to (hB.le hw.size) (Below.drew (Below.refl _ _))))
     by_cases htt : t = t'
     ·rw [eqB_true.2 htt] at IH
      have hn : Hid (ts.take (j + 1) = ts'.take (j + 1)) := hid (by rw [take_snoc_get ht, take_snoc_get ht', HT.out, htt])
      clear ht ht' htt hty hty' hval hval'
      go_wp2_with fail
      go_still_tail 10, (by kernel_rfl)
      change wpList _ _ _ _ _ wr.drew
      generalize hw2 : wr.drew = w2 at *
      have hb2 : Below (w.heap.size + 2) (box2 w k p n s lv (.slice (some ⟨kb, ko, none⟩) len c) k p n s lv' (.slice (some ⟨kb', ko', none⟩) len c')) w2 := by rw [<- hw2]; exact hb.drew
      clear hw2
      go_wp2_with (go_at_call 18; refine IH.out.mono ?_; rintro e w3 ⟨rfl, hb3⟩)
      go_roundw
      case rel => exact ⟨j + 1, by go_num, by omega, hn, hb2.trans (hb3.mono (by have := hb2.size; simpa using this))⟩
      case measure => simp [intOf]; omega
     ·rw [eqB_ne htt] at IH
      have hne : Hid (eqB (.mk k p n s ls ts) (.mk k p n s ls ts') = false) := hid (eqB_ne (fun e => htt (by cases e; rw [ht] at ht'; exact Option.some.inj ht')))
      clear ht ht' htt hty hty' hval hval'
      go_wp2_with fail
      go_still_tail 10, (by kernel_rfl)
      change wpList _ _ _ _ _ wr.drew
      generalize hw2 : wr.drew = w2 at *
      have hb2 : Below (w.heap.size + 2) (box2 w k p n s lv (.slice (some ⟨kb, ko, none⟩) len c) k p n s lv' (.slice (some ⟨kb', ko', none⟩) len c')) w2 := by rw [<- hw2]; exact hb.drew
      clear hw2
      go_wp2_with (go_at_call 18; refine IH.out.mono ?_; rintro e w3 ⟨rfl, hb3⟩)
      go_ret
      exact ⟨ret_bool hne.out.symm, below_seq (box2_low hb2) hb3⟩
    ·obtain rfl : j = len := by omega
     have hq : Hid (eqB (.mk k p n s ls ts) (.mk k p n s ls ts') = true) := hid (eqB_true.2 (by rw [lists_eq hlen.out hlen'.out HT.out]))
     go_wp2_with fail
     go_ret
     exact ⟨ret_bool hq.out.symm, hw⟩
  ·have hz' : (len != len') = true := by simpa using hz
   have hne : Hid (eqB (.mk k p n s ls ts) (.mk k p n s ls ts') = false) := hid (eqB_ne (fun e => hz (by rw [hlen.out, hlen'.out]; cases e; rfl)))
   go_enter Tryz.func18, Tryz.ntmps18
   go_wp2_with (go_at_call 41; refine HT.out.mono ?_; rintro e w1 ⟨rfl, nq, rfl⟩)
   go_ret
   exact ⟨ret_bool hne.out.symm, below_drewN (box2_below _ _ _) _⟩
 ·rw [show decide (ls = ls') = false by simpa using he] at HT
  have hne : Hid (eqB (.mk k p n s ls ts) (.mk k p n s ls' ts') = false) := hid (eqB_ne (fun e => he (by cases e; rfl)))
  clear he
  go_enter Tryz.func18, Tryz.ntmps18
  go_wp2_with (go_at_call 41; refine HT.out.mono ?_; rintro e w1 ⟨rfl, nq, rfl⟩)
  go_ret
  exact ⟨ret_bool hne.out.symm, below_drewN (box2_below _ _ _) _⟩
theorem rsame_any (B : Nat -> Prop) : ∀ (t : Ty), SameAt 18 B t := by
 refine Ty.ind ?_
 intro k p n s ls ts ih u v v' w hB hv hv'
 obtain ⟨lv, kv, rfl, _, hl, hk⟩ := hv
 obtain ⟨k', p', n', s', ls', ts'⟩ := u
 obtain ⟨lv', kv', rfl, _, hl', hk'⟩ := hv'
 by_cases h : k = k' /\ p = p' /\ n = n' /\ s = s'
 ·obtain ⟨rfl, rfl, rfl, rfl⟩ := h
  exact rsame_kids B _ _ _ _ lv lv' kv kv' ls ls' ts ts' ih w hB hl hl' hk hk'
 ·rw [eqB_ne (fun e => h (by cases e; exact ⟨rfl, rfl, rfl, rfl⟩))]
  exact rsame_no _ _ _ _ _ _ _ _ _ _ _ _ h w
end Go.Proofs.YtejaboajgecpaaaGreatDoor
