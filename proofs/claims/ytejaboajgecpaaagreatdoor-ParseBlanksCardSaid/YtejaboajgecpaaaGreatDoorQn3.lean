/- Types: lemmas. -/
import Derived.Test.YtejaboajgecpaaaGreatDoorQn2
import Derived.RangeFuncCalls
import Derived.RangeFuncLeaves
import Derived.RangeFuncBox
import Derived.Shelf.RegionOpen
import Derived.OwnWalkIn
import Derived.TacticsInMore
import Derived.LoopNIn
import Derived.LoopIn
import Derived.Maps.OwnIn
import Derived.ArgAppend
set_option maxHeartbeats 16000000
set_option maxRecDepth 100000
namespace Go.Proofs.YtejaboajgecpaaaGreatDoor
open Go.RowKit Go.Deep Go.Shelf
structure Nd where
 ar : Value
 kid : Int
 b : Nat
 o : Nat
 path : List Ty
 ty : Ty
abbrev ndArgs (x : Nd) : Array Value := #[.agg #[x.ar, .int .i64 x.kid], .pointer (some ⟨x.b, x.o, none⟩)]
def Nd.g (x : Nd) : List Ty × Int × Ty := (x.path, x.kid, x.ty)
mutual
def preT (path : List Ty) (kid : Int) : Ty -> List (List Ty × Int × Ty)
 | .mk k p n s ls ts => (path, kid, .mk k p n s ls ts) :: preTs (path ++ [.mk k p n s ls ts]) 0 ts
def preTs (path : List Ty) (kid : Int) : List Ty -> List (List Ty × Int × Ty)
 | [] => []
 | t :: r => preT path kid t ++ preTs path (kid + 1) r
end
theorem preT_eq (path : List Ty) (kid : Int) (t : Ty) : preT path kid t = (path, kid, t) :: preTs (path ++ [t]) 0 t.ts := by cases t; simp [preT, Ty.ts]
theorem preTs_append (path : List Ty) : ∀ (l r : List Ty) (kid : Int), preTs path kid (l ++ r) = preTs path kid l ++ preTs path (kid + l.length) r
 | [], r, kid => by simp [preTs]
 | t :: l, r, kid => by
  simp only [List.cons_append, preTs, preTs_append path l r (kid + 1), List.append_assoc, List.length_cons]
  congr 3
  omega
theorem preTs_take {path : List Ty} {l : List Ty} {j : Nat} {t : Ty} (h : l[j]? = some t) (kid : Int) : preTs path kid (l.take (j + 1)) = preTs path kid (l.take j) ++ preT path (kid + j) t := by
 have hj := (List.getElem?_eq_some_iff.1 h).1
 rw [take_snoc_get h, preTs_append, List.length_take, Nat.min_eq_left (by omega)]
 simp [preTs]
theorem preTs_prefix (path : List Ty) (l : List Ty) (j : Nat) (kid : Int) : preTs path kid (l.take j) <+: preTs path kid l := by
 conv => rhs; rw [<- List.take_append_drop j l, preTs_append]
 exact List.prefix_append _ _
def ptrs (ads : List (Nat × Nat)) : List Value := ads.map fun a => .pointer (some ⟨a.1, a.2, none⟩)
def ARow (D : Nat) (S : Nat -> Prop) (W : World) (ar : Value) (path : List Ty) : Prop :=
 ∃ ads : List (Nat × Nat), ads.length = path.length /\ W.ownsRow D 136 1 ar path.length (ptrs ads) /\ ∀ (i : Nat) (a : Nat × Nat) (t : Ty), ads[i]? = some a -> path[i]? = some t -> TyAt S W t a.1 a.2
def Px (D : Nat) (S : Nat -> Prop) (x : Nd) (W : World) : Prop := ARow D S W x.ar x.path /\ TyAt S W x.ty x.b x.o /\ x.path.length <= 1000
theorem ownsRow_kept {W W' : World} {base : Nat} {e : TypeId} {size : Nat} {v : Value} {n : Nat} {xs : List Value} (h : W.ownsRow base e size v n xs) (hk : ∀ (g : Nat) (o : Obj), v.ownBlock = some g -> W.heap[g]? = some o -> o.isCells = true -> W'.heap[g]? = some o) : W'.ownsRow base e size v n xs := by
 refine ⟨h.1, ?_⟩
 rcases h.2 with h0 | ⟨g, cap, cur, rfl, hb, hg, r⟩
 ·exact .inl h0
 ·exact .inr ⟨g, cap, cur, rfl, hb, hk g _ rfl hg rfl, r⟩
theorem ARow.kept {D : Nat} {S : Nat -> Prop} {W W' : World} {ar : Value} {path : List Ty} (h : ARow D S W ar path) (hS : Keeps S W W') (hk : ∀ (g : Nat) (o : Obj), ar.ownBlock = some g -> W.heap[g]? = some o -> o.isCells = true -> W'.heap[g]? = some o) : ARow D S W' ar path := by
 obtain ⟨ads, h1, h2, h3⟩ := h
 exact ⟨ads, h1, ownsRow_kept h2 hk, fun i a t ha ht => (h3 i a t ha ht).keep hS⟩
theorem CellsKept.keeps {A B : World} (h : CellsKept A B) (S : Nat -> Prop) : Keeps S A B := fun k o _ ho hc => h k o ho hc
theorem Px.kept {D : Nat} {S : Nat -> Prop} {x : Nd} {W W' : World} (h : CellsKept W W') (hp : Px D S x W) : Px D S x W' :=
 ⟨hp.1.kept (h.keeps S) (fun g o _ ho hc => h g o ho hc), hp.2.1.keep (h.keeps S), hp.2.2⟩
theorem cellsKept_alloc (W : World) (o : Obj) : CellsKept W (W.alloc o) := fun k _ hk _ => (Below.heap_alloc W o k (Array.getElem?_eq_some_iff.1 hk).1).trans hk
structure KV (X : Nat -> Prop) (ar : Value) (W W' : World) : Prop where
 size : W.heap.size <= W'.heap.size
 keep : ∀ (k : Nat) (o : Obj), W.heap[k]? = some o -> o.isCells = true -> ¬ X k -> ar.ownBlock ≠ some k -> W'.heap[k]? = some o
abbrev Kp (X : Nat -> Prop) : World -> World -> Prop := KV X .nilFunc
theorem KV.refl (X : Nat -> Prop) (ar : Value) (W : World) : KV X ar W W := ⟨Nat.le_refl _, fun _ _ h _ _ _ => h⟩
theorem KV.trans {X : Nat -> Prop} {ar : Value} {A B C : World} (h : KV X ar A B) (g : KV X ar B C) : KV X ar A C :=
 ⟨Nat.le_trans h.size g.size, fun k o hk hc hx ha => g.keep k o (h.keep k o hk hc hx ha) hc hx ha⟩
theorem KV.of_kp {X : Nat -> Prop} {ar : Value} {A B : World} (h : Kp X A B) : KV X ar A B := ⟨h.size, fun k o hk hc hx _ => h.keep k o hk hc hx (by simp [Value.ownBlock])⟩
theorem KV.of_below {X : Nat -> Prop} {ar : Value} {A B : World} (h : Below A.heap.size A B) : KV X ar A B := ⟨h.size, fun k _ hk _ _ _ => (h.block k (Array.getElem?_eq_some_iff.1 hk).1).trans hk⟩
theorem KV.of_cells {X : Nat -> Prop} {ar : Value} {A B : World} (hs : A.heap.size <= B.heap.size) (h : CellsKept A B) : KV X ar A B := ⟨hs, fun k o hk hc _ _ => h k o hk hc⟩
theorem KV.keeps {X : Nat -> Prop} {ar : Value} {A B : World} {S : Nat -> Prop} (h : KV X ar A B) (hS : ∀ k, S k -> ¬ X k /\ ar.ownBlock ≠ some k) : Keeps S A B := fun k o hk ho hc => h.keep k o ho hc (hS k hk).1 (hS k hk).2
theorem ptrInfo : (Tryz.prog.info? 136).map (fun i => (i.zero, i.size, i.bytes)) = some (some (.pointer none), 1, 8) := by kernel_rfl
theorem run_append_ptr (base : Nat) (ty : TypeId) (v : Value) (n : Nat) (xs : List Value) (w : World) (hown : w.ownsRow base 136 1 v n xs) (ad : Addr) (c : Nat) (u : Value) (hu : w.cell? ad = some u) (h1 : u.oneCell' = true) (h63 : n + 1 <= 1000000) (hbase : base <= w.heap.size) :
 ∃ g' c' w', (Builtin.append_ #[160, 160] ty #[v, .slice (some ad) 1 c]).run Tryz.prog w = .ok (.slice (some ⟨g', 0, none⟩) (n + 1) c') w' /\ w'.ownsRow base 136 1 (.slice (some ⟨g', 0, none⟩) (n + 1) c') (n + 1) (xs ++ [u]) /\
  ((v = .slice (some ⟨g', 0, none⟩) n c' /\ w.grownBy w' (some g')) \/ (w.heap.size <= g' /\ w.grownBy w' none)) := by
 obtain ⟨i0, hi, hz0, hz1, hz2⟩ := info_parts ptrInfo
 have hnews : ∀ (j : Nat) (x : Value), [u][j]? = some x -> w.cell? (ad.add j) = some x := fun j x hj => by
  cases j with
  | zero => simp at hj; subst hj; simpa [Addr.add] using hu
  | succ j => simp at hj
 have hone : ∀ x ∈ [u], x.oneCell' = true := fun x hx => by simp at hx; subst hx; exact h1
 rcases hown.2 with ⟨rfl, rfl⟩ | ⟨g, cap, cur, rfl, hb, hg, hnc, hcm, hcs, htake⟩
 ·obtain ⟨v', w', hr, h2, h3, h4, h5⟩ := run_append_own_at (P := Tryz.prog) w base 160 ty 136 i0 _ 1 8 Tryz.underlying160 hi hz0 hz1 hz2 rfl (by decide) _ _ xs hown ad 1 c [u] rfl hnews hone (by unfold maxLen; omega) (by omega) hbase
  rcases h2.2 with ⟨rfl, h0⟩ | ⟨g', c', cur', rfl, r⟩
  ·omega
  ·refine ⟨g', c', w', hr, h2, .inr ⟨?_, h3⟩⟩
   rcases h5 with h | h
   ·simp [Value.ownBlock] at h
   ·simp [Value.ownBlock] at h; omega
 ·by_cases hroom : n + 1 <= cap
  ·obtain ⟨w', hr, h2, h3⟩ := run_append_fits (P := Tryz.prog) w base 160 ty 136 i0 1 Tryz.underlying160 hi hz1 g n cap xs hown ad 1 c [u] rfl hnews hone hroom
   exact ⟨g, cap, w', hr, h2, .inl ⟨rfl, h3⟩⟩
  ·have holds : ∀ (j : Nat) (x : Value), xs[j]? = some x -> w.cell? ((⟨g, 0, none⟩ : Addr).add j) = some x := fun j x hj => by
    have hx : cur.toList[j]? = some x := by
     have hl := (List.getElem?_eq_some_iff.1 hj).1
     rw [<- htake] at hj hl
     rw [List.length_take] at hl
     rw [List.getElem?_take] at hj
     simpa using (by simpa using hj : j < n /\ cur[j]? = some x).2
    have e : (⟨g, 0, none⟩ : Addr).add j = ⟨g, j, none⟩ := by
     unfold Addr.add
     by_cases h : j = 0
     ·subst h; rfl
     ·simp [h]
    rw [e]
    simpa [World.cell?, hg] using hx
   obtain ⟨v', w', hr, h2, h3⟩ := run_append_arg_grows (P := Tryz.prog) w 160 ty 136 i0 _ 1 8 Tryz.underlying160 hi hz0 hz1 hz2 rfl (by decide) ⟨g, 0, none⟩ n cap xs (by simpa using hown.1) holds ad 1 c [u] rfl hnews (by omega) (by unfold maxLen; omega) (by omega)
   rcases h2.2 with ⟨rfl, h0⟩ | ⟨g', c', cur', rfl, hb', r⟩
   ·omega
   ·exact ⟨g', c', w', hr, ⟨h2.1, .inr ⟨g', c', cur', rfl, by omega, r⟩⟩, .inr ⟨hb', h3⟩⟩
theorem wpListIn_append_ptr {F : Fence} {nF : Nat} {w : World} {ops : Array Oper} {rest : List Oper} {o : Oper} {a : Act} {Q : Exit -> Act -> World -> Prop} (hgd : o.guard = none) (s x : Operand)
 (ho : o.op = .call { callee := .builtin .append, args := #[s, x], argTypes := #[160, 160] }) (base : Nat) (v : Value) (n : Nat) (xs : List Value) (hs : a.eval s = v) (hown : w.ownsRow base 136 1 v n xs)
 (ad : Addr) (c : Nat) (u : Value) (hx : a.eval x = .slice (some ad) 1 c) (hu : w.cell? ad = some u) (h1 : u.oneCell' = true) (h63 : n + 1 <= 1000000) (hbase : base <= w.heap.size)
 (h : ∀ g' c' w', w'.ownsRow base 136 1 (.slice (some ⟨g', 0, none⟩) (n + 1) c') (n + 1) (xs ++ [u]) -> ((v = .slice (some ⟨g', 0, none⟩) n c' /\ w.grownBy w' (some g')) \/ (w.heap.size <= g' /\ w.grownBy w' none)) ->
  wpListIn F nF Tryz.prog ops Q rest (a.put o.dst (.slice (some ⟨g', 0, none⟩) (n + 1) c')) w') :
 wpListIn F nF Tryz.prog ops Q (o :: rest) a w := by
 refine wpListIn_plain hgd fun K hK => ?_
 obtain ⟨g', c', w', hr, h2, h3⟩ := run_append_ptr base o.type v n xs w hown ad c u hu h1 h63 hbase
 unfold Oper.wpIn
 refine ⟨by simp [Oper.about, ho, resolve, Target.leads, Sem.run_pure], ?_⟩
 rw [Oper.semAt_plain F _ _ (by rw [ho]; intro c hc'; cases hc')]
 simp [execOp, ho, resolve, invoke, builtin, hs, hx, hr, Result.andThen]
 exact hK _ _ (h g' c' w' h2 h3)
theorem row_back {D : Nat} {X S : Nat -> Prop} {W w1 W' : World} {ar : Value} {path : List Ty} {t : Ty} {g' c' : Nat} (hX : ∀ k, X k -> ¬ S k /\ k < D) (hrow : ARow D S W ar path)
 (hcase : (ar = .slice (some ⟨g', 0, none⟩) path.length c' /\ W.grownBy w1 (some g')) \/ (W.heap.size <= g' /\ W.grownBy w1 none))
 (hkv : KV X (.slice (some ⟨g', 0, none⟩) (path.length + 1) c') w1 W') (hrow' : ARow D S W' (.slice (some ⟨g', 0, none⟩) (path.length + 1) c') (path ++ [t])) : ARow D S W' ar path /\ KV X ar W W' := by
 rcases hcase with ⟨rfl, hg⟩ | ⟨hnew, hg⟩
 ·have hkv' : KV X (.slice (some ⟨g', 0, none⟩) path.length c') W W' := ⟨Nat.le_trans hg.size hkv.size, fun k o hk hc hx ha => hkv.keep k o ((hg.block k (Array.getElem?_eq_some_iff.1 hk).1 (fun e => ha (by simp only [Option.some.injEq] at e; simp [Value.ownBlock, e]))).trans hk) hc hx (by simpa [Value.ownBlock] using ha)⟩
  refine ⟨?_, hkv'⟩
  obtain ⟨ads, h1, h2, h3⟩ := hrow
  obtain ⟨ads', h1', h2', h3'⟩ := hrow'
  have hlen : (path ++ [t]).length = path.length + 1 := by simp
  rw [hlen] at h1' h2'
  refine ⟨ads'.take path.length, by rw [List.length_take]; omega, ?_, fun i a u ha hu => ?_⟩
  ·refine ⟨by simp [ptrs]; omega, ?_⟩
   rcases h2'.2 with ⟨h, _⟩ | ⟨g, cap, cur, h, hb, hgg, hnc, hcm, hcs, htake⟩
   ·simp at h
   ·simp only [Value.slice.injEq, Option.some.injEq, Addr.mk.injEq, and_true, true_and] at h
    obtain ⟨rfl, rfl⟩ := h
    refine .inr ⟨g', c', cur, rfl, hb, hgg, by omega, hcm, hcs, ?_⟩
    have := congrArg (List.take (path.length * 1)) htake
    rw [List.take_take, Nat.min_eq_left (by omega)] at this
    rw [this]
    simp [ptrs, List.map_take]
  ·have hi : i < path.length := (List.getElem?_eq_some_iff.1 hu).1
   have ha' : ads'[i]? = some a := by rw [List.getElem?_take, if_pos hi] at ha; exact ha
   exact h3' i a u ha' (by rw [List.getElem?_append_left hi]; exact hu)
 ·have hkv' : KV X ar W W' := ⟨Nat.le_trans hg.size hkv.size, fun k o hk hc hx _ => by
   have hlt := (Array.getElem?_eq_some_iff.1 hk).1
   exact hkv.keep k o ((hg.block k hlt (by simp)).trans hk) hc hx (by simp [Value.ownBlock]; omega)⟩
  have hall : ∀ (k : Nat) (o : Obj), W.heap[k]? = some o -> o.isCells = true -> ¬ X k -> W'.heap[k]? = some o := fun k o hk hc hx => by
   have hlt := (Array.getElem?_eq_some_iff.1 hk).1
   exact hkv.keep k o ((hg.block k hlt (by simp)).trans hk) hc hx (by simp [Value.ownBlock]; omega)
  refine ⟨hrow.kept (fun k o hk ho hc => hall k o ho hc (fun hx => (hX k hx).1 hk)) (fun g o hg' ho hc => hall g o ho hc (fun hx => ?_)), hkv'⟩
  obtain ⟨ads, _, h2, _⟩ := hrow
  rcases h2.2 with ⟨rfl, _⟩ | ⟨g0, cap, cur, rfl, hb, _⟩
  ·simp [Value.ownBlock] at hg'
  ·simp [Value.ownBlock] at hg'
   have := (hX g hx).2
   omega
end Go.Proofs.YtejaboajgecpaaaGreatDoor
namespace Go.Proofs.YtejaboajgecpaaaGreatDoor
open Go.Lib (hid)
open Go.RowKit Go.Deep Go.Shelf
attribute [local go_sem] Oper.semAt_some
theorem room_none {F : Fence} (hd : F.depth = none) (k : Nat) : F.room k := fun d h => by rw [hd] at h; cases h
theorem yield_any {F : Fence} (hd : F.depth = none) {m : Nat} (m' : Nat) {P : Program} {l : Nat} {args : Array Value} {W : World} {R : Ending -> World -> Prop} (h : YieldAt F m P l args W R) : YieldAt F m' P l args W R := by
 obtain ⟨fn, tmps, assign, body, hy, hR⟩ := h
 exact ⟨fn, tmps, assign, body, hy, ⟨hR.1, fun c cs _ => hR.2 c cs (room_none hd _)⟩⟩
def CellsBut (ar : Value) (W W' : World) : Prop := ∀ (k : Nat) (o : Obj), W.heap[k]? = some o -> o.isCells = true -> ar.ownBlock ≠ some k -> W'.heap[k]? = some o
theorem CellsBut.keeps {ar : Value} {W W' : World} {S : Nat -> Prop} (h : CellsBut ar W W') (hS : ∀ k, S k -> ar.ownBlock ≠ some k) : Keeps S W W' := fun k o hk ho hc => h k o ho hc (hS k hk)
theorem grown_cells {ar : Value} {W w1 : World} {n g' c' : Nat} {tmp : Obj} (hcase : (ar = .slice (some ⟨g', 0, none⟩) n c' /\ (W.alloc tmp).grownBy w1 (some g')) \/ ((W.alloc tmp).heap.size <= g' /\ (W.alloc tmp).grownBy w1 none)) : W.heap.size <= w1.heap.size /\ CellsBut ar W w1 := by
 rcases hcase with ⟨rfl, hg⟩ | ⟨_, hg⟩
 ·exact ⟨by have := hg.size; simp at this; omega, fun k o hk hc ha => (hg.block k (by have := (Array.getElem?_eq_some_iff.1 hk).1; simp; omega) (fun e => ha (by simp only [Option.some.injEq] at e; simp [Value.ownBlock, e]))).trans (cellsKept_alloc W tmp k o hk hc)⟩
 ·exact ⟨by have := hg.size; simp at this; omega, fun k o hk hc _ => (hg.block k (by have := (Array.getElem?_eq_some_iff.1 hk).1; simp; omega) (by simp)).trans (cellsKept_alloc W tmp k o hk hc)⟩
theorem own_ge {W : World} {base n k : Nat} {e : TypeId} {size : Nat} {v : Value} {xs : List Value} (h : W.ownsRow base e size v n xs) (hk : v.ownBlock = some k) : base <= k := by
 rcases h.2 with ⟨rfl, _⟩ | ⟨g, cap, cur, rfl, hb, _⟩
 ·simp [Value.ownBlock] at hk
 ·obtain rfl : g = k := by simpa [Value.ownBlock] using hk
  exact hb
def VisPost (D : Nat) (S X : Nat -> Prop) (J Jx : List Nd -> World -> Prop) (pre : List Nd) (ar : Value) (path : List Ty) (kid : Int) (t : Ty) (W : World) (e : Ending) (W' : World) : Prop :=
 (e = .returned (.bool true) /\ (∃ ys, ys.map Nd.g = preT path kid t /\ J (pre ++ ys) W') /\ KV X ar W W' /\ ARow D S W' ar path) \/
 (e = .returned (.bool false) /\ ∃ ys, ys.map Nd.g <+: preT path kid t /\ Jx (pre ++ ys) W')
theorem visit_g (G : List Ty -> Ty -> Prop) (hG : ∀ path t, G path t -> ∀ u ∈ t.ts, G (path ++ [t]) u) (F : Fence) (hd : F.depth = none) (hF : ∀ f, F.fn f) (hro : F.round = none) (l D : Nat) (S X : Nat -> Prop) (hX : ∀ k, X k -> ¬ S k /\ k < D) (hS : ∀ k, S k -> k < D) (J Jx : List Nd -> World -> Prop) (hJ : AbidesAll D J)
 (hY : ∀ m pre x W, J pre W -> Px D S x W -> G x.path x.ty -> D <= W.heap.size -> YieldAt F m Tryz.prog l (ndArgs x) W fun e W' => (e = .returned (.bool true) /\ J (pre ++ [x]) W' /\ Kp X W W') \/ (e = .returned (.bool false) /\ Jx (pre ++ [x]) W')) :
 ∀ (t : Ty) (n : Nat) (path : List Ty) (kid : Int) (pa : Option Addr) (an ac b o : Nat) (pre : List Nd) (W : World), D <= W.heap.size -> J pre W -> TyAt S W t b o -> ARow D S W (.slice pa an ac) path -> path.length + t.depth <= 1000 -> G path t ->
  CallsIn F n Tryz.prog 126 #[.agg #[.slice pa an ac, .int .i64 kid], .pointer (some ⟨b, o, none⟩), .func (.yield l) #[] #[]] W (VisPost D S X J Jx pre (.slice pa an ac) path kid t W) := by
 refine Ty.ind ?_
 intro k p nm s ls ts ih n path kid pa an ac b o pre W hDW hj hty hrow hdep hg0
 obtain ⟨t, ht0⟩ : ∃ t, Ty.mk k p nm s ls ts = t := ⟨_, rfl⟩
 have hts : ts = t.ts := by rw [<- ht0]; rfl
 rw [ht0] at hty hdep hg0 |-
 have hdd : ∀ k : Nat, (F.depth.isSome = true -> 1 <= k) := fun k h => by rw [hd] at h; cases h
 have hbx := blkBelow W #[.slice pa an ac, .int .i64 kid] 162
 have hj1 := hJ.alloc (.cells #[.slice pa an ac, .int .i64 kid] 162) hj
 have hck := cellsKept_alloc W (.cells #[.slice pa an ac, .int .i64 kid] 162)
 have hpx : Px D S ⟨.slice pa an ac, kid, b, o, path, t⟩ (W.alloc (.cells #[.slice pa an ac, .int .i64 kid] 162)) := ⟨hrow.kept (hck.keeps S) (fun g o _ ho hc => hck g o ho hc), hty.keep (hck.keeps S), by show path.length <= 1000; omega⟩
 obtain ⟨fn, tmps, assign, body, hy, hR⟩ := hY (n - 1) pre ⟨.slice pa an ac, kid, b, o, path, t⟩ _ hj1 hpx hg0 (by simp; omega)
 simp only [ndArgs] at hy
 have HR := hid hR
 have HGK := hid (hG path t hg0)
 clear hj1 hck hpx hR hg0
 refine callsIn_of_wp Tryz.func126 rfl (hF _) ?_ hro
 simp only [Tryz.ntmps126, List.size_toArray, List.length_cons, List.length_nil, Nat.reduceAdd, Nat.reduceSub, Array.replicate_succ, Array.replicate_zero, List.push_toArray, List.append_toArray, List.nil_append, List.cons_append]
 gi_wp2_with fail
 refine HR.out.mono ?_
 rintro e W2 (⟨rfl, hj2, hk2⟩ | ⟨rfl, hx2⟩)
 ·have hz2 : W.heap.size < W2.heap.size := by have := hk2.size; simp at this; omega
  have hck2 : CellsKept W (W.alloc (.cells #[.slice pa an ac, .int .i64 kid] 162)) := cellsKept_alloc W _
  have c0 : W2.cell? ⟨W.heap.size, 0, none⟩ = some (.slice pa an ac) := by
   have := hk2.keep W.heap.size _ (World.alloc_heap_new W _) rfl (fun hx => by have := (hX _ hx).2; omega) (by simp [Value.ownBlock])
   simp [World.cell?, this]
  have hkS : Keeps S (W.alloc (.cells #[.slice pa an ac, .int .i64 kid] 162)) W2 := hk2.keeps (fun k hk => ⟨fun hx => (hX k hx).1 hk, by simp [Value.ownBlock]⟩)
  have hty2 := (hty.keep (hck2.keeps S)).keep hkS
  have hrow2 : ARow D S W2 (.slice pa an ac) path := (hrow.kept (hck2.keeps S) (fun g o _ ho hc => hck2 g o ho hc)).kept hkS (fun g o hg ho hc => hk2.keep g o ho hc (fun hx => by
   have hd' := (hX g hx).2
   obtain ⟨_, _, h2, _⟩ := hrow
   rcases h2.2 with ⟨h, _⟩ | ⟨g0, cap, cur, h, hb, _⟩
   ·simp only [Value.slice.injEq] at h; obtain ⟨rfl, _⟩ := h; simp [Value.ownBlock] at hg
   ·simp only [Value.slice.injEq] at h; obtain ⟨rfl, _⟩ := h; simp [Value.ownBlock] at hg; omega) (by simp [Value.ownBlock]))
  have hkv2 : KV X (.slice pa an ac) W W2 := (KV.of_below hbx).trans (KV.of_kp hk2)
  obtain ⟨ads, hal, hown, hat⟩ := hrow2
  have HAT := hid hat
  have HKV2 := hid hkv2
  have HTY2 := hid hty2
  have HJ2 := hid hj2
  clear hy HR hj hty hrow hbx hk2 hkS hty2 hj2 hck2 hat hkv2
  gi_wp2_with (gi_at_builtin; go_must (refine wpListIn_append_ptr rfl _ _ rfl D _ _ _ rfl (hown.alloc _) ⟨W2.heap.size, 0, none⟩ 1 (.pointer (some ⟨b, o, none⟩)) rfl (blk_cell (Below.refl _ _) 0 rfl) (by simp [Value.oneCell']) (by omega) (by simp; omega) ?_); intro g' c' w3 hown' hcase; have hg3 : W2.heap.size <= w3.heap.size /\ CellsBut (.slice pa an ac) W2 w3 := grown_cells hcase; have hty3 := HTY2.out.keep (hg3.2.keeps (fun k hk => fun e => by have := hS k hk; have := own_ge hown e; omega)); obtain ⟨la, ln, lc, ka, kn, kc, ⟨_, _, _, _, _, e5⟩, hval⟩ := hty3.load'; replace hval := hid hval; replace hown' := hid hown'; replace hcase := hid hcase; replace hty3 := hid hty3)
  have hg' : D <= g' := own_ge hown'.out rfl
  have hrow3 : ARow D S w3 (.slice (some ⟨g', 0, none⟩) (path.length + 1) c') (path ++ [t]) := by
   refine ⟨ads ++ [(b, o)], by simp [hal], by simpa [ptrs] using hown'.out, fun i a u ha hu => ?_⟩
   by_cases hi : i < path.length
   ·rw [List.getElem?_append_left (by omega)] at ha
    rw [List.getElem?_append_left hi] at hu
    exact (HAT.out i a u ha hu).keep (hg3.2.keeps (fun k hk => fun e => by have := hS k hk; have := own_ge hown e; omega))
   ·have hi2 : i = path.length := by have := (List.getElem?_eq_some_iff.1 hu).1; simp at this; omega
    subst hi2
    rw [List.getElem?_append_right (by omega), hal] at ha
    rw [List.getElem?_append_right (by omega)] at hu
    simp at ha hu
    subst ha hu
    exact hty3.out
  have hj3 : J (pre ++ [⟨.slice pa an ac, kid, b, o, path, t⟩] ++ []) w3 := by
   rw [List.append_nil]
   rcases hcase.out with ⟨_, hg⟩ | ⟨_, hg⟩
   ·exact hJ _ _ _ _ (hJ.alloc _ HJ2.out) hg (fun r e => by cases e; exact hg')
   ·exact hJ _ _ _ _ (hJ.alloc _ HJ2.out) hg (fun r e => by cases e)
  obtain ⟨lv', kv', he, _, _, hks⟩ := hval.out
  simp only [Value.agg.injEq, Array.mk.injEq, List.cons.injEq, and_true, true_and] at he
  obtain ⟨rfl, rfl⟩ := he
  obtain ⟨ka', kn', kc', he, hlen, hmx, hget⟩ := hks.open
  simp only [Value.slice.injEq] at he
  obtain ⟨rfl, rfl, rfl⟩ := he
  have hSb : S b := (TyAt.eq.1 hty3.out).1
  have HG := hid hget
  have HIH := hid ih
  have HE5 := hid e5
  have HROW3 := hid hrow3
  have HJ3 := hid hj3
  have HOWN := hid hown
  have HG3 := hid hg3
  have HTS := hid hts
  have HAL := hid hal
  clear hget ih e5 hrow3 hj3 hks hown hg3 hts ht0 hal
  gi_loopw [24] (fun i wr => ∃ (j : Nat) (ys : List Nd), i = .int .i64 j /\ j <= kn /\ Hid (ys.map Nd.g = preTs (path ++ [t]) 0 (t.ts.take j)) /\ Hid (J (pre ++ [⟨.slice pa an ac, kid, b, o, path, t⟩] ++ ys) wr) /\ Hid (KV X (.slice (some ⟨g', 0, none⟩) (path.length + 1) c') w3 wr) /\ Hid (ARow D S wr (.slice (some ⟨g', 0, none⟩) (path.length + 1) c') (path ++ [t])))
   (fun i _ => kn - (intOf i).toNat)
  case atStart => exact ⟨0, [], rfl, by omega, hid (by simp [preTs]), hid HJ3.out, hid (KV.refl _ _ _), hid HROW3.out⟩
  case round =>
   obtain ⟨j, ys, rfl, hj, HYS, HJJ, HKV, HRW⟩ := hrel
   by_cases hlt : j < kn
   ·obtain ⟨t', ht'⟩ : ∃ t', t.ts[j]? = some t' := ⟨_, List.getElem?_eq_getElem (by rw [<- hlen.out]; exact hlt)⟩
    obtain ⟨kb, ko, rfl, hkb, hty'⟩ := HG.out j t' ht'
    have hkS : Keeps S w3 wr := HKV.out.keeps (fun k hk => ⟨fun hx => (hX k hx).1 hk, fun e => by have := hS k hk; simp [Value.ownBlock] at e; omega⟩)
    have e5 := hkS.cell hSb HE5.out
    have hmem : t' ∈ ts := by rw [HTS.out]; exact List.mem_of_getElem? ht'
    have hdt : t'.depth + 1 <= t.depth := by rw [t.depth_eq]; have := Ty.depth_mem (List.mem_of_getElem? ht'); omega
    have hDr : D <= wr.heap.size := by have h1 := HKV.out.size; have h2 := HG3.out.1; omega
    have IH := hid (fun n' => HIH.out t' hmem n' (path ++ [t]) (j : Int) (some ⟨g', 0, none⟩) (path.length + 1) c' kb (ko + j * 6) (pre ++ [⟨.slice pa an ac, kid, b, o, path, t⟩] ++ ys) wr hDr HJJ.out (hty'.keep hkS) HRW.out (by simp; omega) (HGK.out t' (List.mem_of_getElem? ht')))
    have HPT := hid (preTs_take (path := path ++ [t]) ht' 0)
    have HPP := hid (preTs_prefix (path ++ [t]) t.ts (j + 1) 0)
    clear ht' hty' hkS hmem hdt hDr
    gi_wp2_with fail
    refine (IH.out _).mono ?_
    rintro e w4 (⟨rfl, ⟨zs, hz1, hz2⟩, hkv, hrw⟩ | ⟨rfl, zs, hz1, hz2⟩)
    ·have hys : Hid ((ys ++ zs).map Nd.g = preTs (path ++ [t]) 0 (t.ts.take (j + 1))) := hid (by rw [List.map_append, HYS.out, hz1, HPT.out]; simp)
     have hjj : Hid (J (pre ++ [⟨.slice pa an ac, kid, b, o, path, t⟩] ++ (ys ++ zs)) w4) := hid (by rw [<- List.append_assoc]; exact hz2)
     have hkk := hid (HKV.out.trans hkv)
     have hrr := hid hrw
     clear hz1 hz2 hkv hrw
     gi_wp2_with fail
     exact ⟨⟨j + 1, ys ++ zs, by go_num, by omega, hys, hjj, hkk, hrr⟩, by simp [intOf]; omega⟩
    ·have hq : ∃ q, q.map Nd.g <+: preT path kid t /\ Jx (pre ++ q) w4 := by
      refine ⟨[⟨.slice pa an ac, kid, b, o, path, t⟩] ++ (ys ++ zs), ?_, by simpa [List.append_assoc] using hz2⟩
      rw [preT_eq, List.map_append, List.map_append, HYS.out]
      refine (List.prefix_cons_inj _).2 ((List.IsPrefix.trans ?_ HPP.out))
      rw [HPT.out]
      refine (List.prefix_append_right_inj _).2 ?_
      simpa using hz1
     have HQ := hid hq
     clear hz1 hz2 hq
     gi_wp2
     go_ret
     exact .inr ⟨rfl, HQ.out⟩
   ·obtain rfl : j = kn := by omega
    have hback := row_back (W := W2.alloc (.cells #[.pointer (some ⟨b, o, none⟩)] 136)) (path := path) (t := t) (ar := .slice pa an ac) hX
     (by
      refine ⟨ads, HAL.out, HOWN.out.alloc _, fun i a u ha hu => (HAT.out i a u ha hu).keep ((cellsKept_alloc W2 _).keeps S)⟩) hcase.out HKV.out HRW.out
    have hq : ∃ q, q.map Nd.g = preT path kid t /\ J (pre ++ q) wr := by
     refine ⟨[⟨.slice pa an ac, kid, b, o, path, t⟩] ++ ys, ?_, by simpa [List.append_assoc] using HJJ.out⟩
     rw [preT_eq, List.map_append, HYS.out, List.take_of_length_le (by rw [hlen.out]; exact Nat.le_refl _)]
     rfl
    have HQ := hid hq
    have HBK := hid hback
    clear hq hback
    gi_wp2
    go_ret
    exact .inl ⟨rfl, HQ.out, HKV2.out.trans ((KV.of_below (blkBelow W2 _ _)).trans HBK.out.2), HBK.out.1⟩
 ·gi_wp2
  go_ret
  exact .inr ⟨rfl, [_], by rw [preT_eq]; exact ⟨preTs (path ++ [t]) 0 t.ts, rfl⟩, hx2⟩
theorem visit_in (F : Fence) (hd : F.depth = none) (hF : ∀ f, F.fn f) (hro : F.round = none) (l D : Nat) (S X : Nat -> Prop) (hX : ∀ k, X k -> ¬ S k /\ k < D) (hS : ∀ k, S k -> k < D) (J Jx : List Nd -> World -> Prop) (hJ : AbidesAll D J)
 (hY : ∀ m pre x W, J pre W -> Px D S x W -> D <= W.heap.size -> YieldAt F m Tryz.prog l (ndArgs x) W fun e W' => (e = .returned (.bool true) /\ J (pre ++ [x]) W' /\ Kp X W W') \/ (e = .returned (.bool false) /\ Jx (pre ++ [x]) W'))
 (t : Ty) (n : Nat) (path : List Ty) (kid : Int) (pa : Option Addr) (an ac b o : Nat) (pre : List Nd) (W : World) (hDW : D <= W.heap.size) (hj : J pre W) (hty : TyAt S W t b o) (hrow : ARow D S W (.slice pa an ac) path) (hdep : path.length + t.depth <= 1000) :
  CallsIn F n Tryz.prog 126 #[.agg #[.slice pa an ac, .int .i64 kid], .pointer (some ⟨b, o, none⟩), .func (.yield l) #[] #[]] W (VisPost D S X J Jx pre (.slice pa an ac) path kid t W) :=
 visit_g (fun _ _ => True) (fun _ _ _ _ _ => trivial) F hd hF hro l D S X hX hS J Jx hJ (fun m pre x W hj hp _ hs => hY m pre x W hj hp hs) t n path kid pa an ac b o pre W hDW hj hty hrow hdep trivial
end Go.Proofs.YtejaboajgecpaaaGreatDoor
namespace Go.Proofs.YtejaboajgecpaaaGreatDoor
open Go.Lib (hid)
open Go.RowKit Go.Deep Go.Shelf
attribute [local go_sem] Oper.semAt_some
theorem ARow.low {D D' : Nat} {S : Nat -> Prop} {W : World} {ar : Value} {path : List Ty} (h : ARow D S W ar path) (hd : D' <= D) : ARow D' S W ar path := by
 obtain ⟨ads, h1, h2, h3⟩ := h
 refine ⟨ads, h1, ⟨h2.1, ?_⟩, h3⟩
 rcases h2.2 with h0 | ⟨g, cap, cur, rfl, hb, r⟩
 ·exact .inl h0
 ·exact .inr ⟨g, cap, cur, rfl, Nat.le_trans hd hb, r⟩
theorem nodes_any (a : Option Addr) (w : World) :
 Calls Tryz.prog 99 #[.pointer a] w fun e w' => e = .returned (.func (.func 125) #[] #[.pointer (some ⟨w.heap.size, 0, none⟩)]) /\ w' = w.alloc (.cells #[.pointer a] 136) := by
 go_enter Tryz.func99, Tryz.ntmps99
 go_wp2
 go_ret
 exact ⟨rfl, rfl⟩
theorem nodes_tells (n : Nat) (Bt b o : Nat) (t : Ty) (S X : Nat -> Prop) (w : World) (hX : ∀ k, X k -> ¬ S k /\ k < w.heap.size) (hS : ∀ k, S k -> k < w.heap.size) (hBt : Bt < w.heap.size) (hc : w.cell? ⟨Bt, 0, none⟩ = some (.pointer (some ⟨b, o, none⟩))) (hty : TyAt S w t b o) (hdep : t.depth <= 1000) :
 Tells Fence.wide n Tryz.prog 125 #[.pointer (some ⟨Bt, 0, none⟩)] ndArgs (Px w.heap.size S) (Kp X) (fun ys => ys.map Nd.g = preT [] 0 t) (fun pre => pre.map Nd.g <+: preT [] 0 t) w := by
 intro l J Jx W hW hJ _ hY h0
 have hp := visit_in Fence.wide rfl (fun _ => trivial) rfl l W.heap.size S X (fun k hk => ⟨(hX k hk).1, Nat.lt_of_lt_of_le (hX k hk).2 hW.size⟩) (fun k hk => Nat.lt_of_lt_of_le (hS k hk) hW.size) J Jx hJ
  (fun m pre x W1 hj hpx _ => yield_any rfl m (hY pre x W1 hj ⟨hpx.1.low hW.size, hpx.2⟩)) t (n - 1) [] 0 none 0 0 b o [] W (Nat.le_refl _) h0 (hty.keep (hW.keeps'.mono hS)) ⟨[], rfl, World.ownsRow_nil _ _ _ _, fun i a u ha _ => by simp at ha⟩ (by simpa using hdep)
 have hc' := (hW.cell (p := ⟨Bt, 0, none⟩) hBt).trans hc
 have HP := hid hp
 clear hp hY h0 hJ
 refine callsIn_of_wp Tryz.func125 rfl trivial ?_ rfl
 simp only [Tryz.ntmps125, List.size_toArray, List.length_cons, List.length_nil, Nat.reduceAdd, Nat.reduceSub, Array.replicate_succ, Array.replicate_zero, List.push_toArray, List.append_toArray, List.nil_append, List.cons_append]
 gi_wp2_with fail
 refine ⟨trivial, ⟨fun h => (by cases h), ?_⟩⟩
 refine HP.out.mono ?_
 rintro e W1 (⟨rfl, ⟨ys, h1, h2⟩, _, _⟩ | ⟨rfl, ys, h1, h2⟩)
 ·have H1 := hid h1
  have H2 := hid h2
  clear h1 h2
  gi_wp2
  go_end0
  exact ⟨⟨_, rfl⟩, .inl ⟨ys, H1.out, by simpa using H2.out⟩⟩
 ·have H1 := hid h1
  have H2 := hid h2
  clear h1 h2
  gi_wp2
  go_end0
  exact ⟨⟨_, rfl⟩, .inr ⟨ys, H1.out, by simpa using H2.out⟩⟩
theorem preT_length : ∀ (t : Ty) (path : List Ty) (kid : Int), (preT path kid t).length = t.size := by
 refine Ty.ind ?_
 intro k p n s ls ts ih path kid
 rw [preT_eq, Ty.size_eq, List.length_cons]
 have h : ∀ (l : List Ty) (path : List Ty) (kid : Int), (∀ t ∈ l, ∀ (path : List Ty) (kid : Int), (preT path kid t).length = t.size) -> (preTs path kid l).length = Ty.sizes l := by
  intro l
  induction l with
  | nil => intro _ _ _; simp [preTs, Ty.sizes]
  | cons u r ihl =>
   intro path kid hh
   rw [preTs, List.length_append, Ty.sizes, hh u (by simp), ihl path (kid + 1) (fun t ht => hh t (by simp [ht]))]
 show (preTs (path ++ [Ty.mk k p n s ls ts]) 0 ts).length + 1 = Ty.sizes ts + 1
 rw [h _ _ _ ih]
theorem w64_id (n : Int) (h1 : -9223372036854775808 <= n) (h2 : n <= 9223372036854775807) : wrap64 n = n := by unfold wrap64; omega
theorem w64_succ (x : Nd) (pre : List Nd) : wrap64 (wrap64 ((pre.length : Nat) : Int) + 1) = wrap64 (((pre ++ [x]).length : Nat) : Int) := by
 rw [List.length_append]; simp only [List.length_cons, List.length_nil]; unfold wrap64; omega
theorem abides_boxed {β : Type} {D b : Nat} (hb : b < D) (t : TypeId) (f : β -> Value) : AbidesAll D (fun s W => W.heap[b]? = some (.cells #[f s] t (0, 0))) :=
 fun _ _ _ _ hs hg hr => (hg.block b (Array.getElem?_eq_some_iff.1 hs).1 (fun e => by have := hr b e.symm; omega)).trans hs
theorem boxed_tyAt {B : Nat -> Prop} {S : Nat -> Prop} {W : World} {b : Nat} {t : Ty} {lv kv : Value} (h6 : Six W b (.int .i64 t.k) (.int .i64 t.p) (.string t.n) (.int .i64 t.s) lv kv) (hv : TyVal B W (.agg #[.int .i64 t.k, .int .i64 t.p, .string t.n, .int .i64 t.s, lv, kv]) t) (hB : ∀ k, B k -> S k) (hb : S b) : TyAt S W t b 0 := by
 obtain ⟨⟨c0, c1, c2, c3, c4, c5⟩, _⟩ := h6.cells
 exact tyAt_of hb c0 c1 c2 c3 c4 c5 (hv.mono hB)
theorem tsize_in (n : Nat) (hn : 3 <= n) (B : Nat -> Prop) (t : Ty) (hsz : t.size <= 1000000) (hdep : t.depth <= 1000) (lv kv : Value) (w : World) (hB : Low B w) (hv : TyVal B w (.agg #[.int .i64 t.k, .int .i64 t.p, .string t.n, .int .i64 t.s, lv, kv]) t) :
 CallsIn Fence.wide n Tryz.prog 70 #[.agg #[.int .i64 t.k, .int .i64 t.p, .string t.n, .int .i64 t.s, lv, kv]] w fun e w' => e = .returned (.int .i64 t.size) /\ Below w.heap.size w w' := by
 have h1 : 1 <= n := by omega
 refine callsIn_of_wp_marks Tryz.func70 rfl trivial ?_ rfl
 simp only [Tryz.ntmps70, List.size_toArray, List.length_cons, List.length_nil, Nat.reduceAdd, Nat.reduceSub, Array.replicate_succ, Array.replicate_zero, List.push_toArray, List.append_toArray, List.nil_append, List.cons_append]
 gi_wp2_with (refine ⟨trivial, ?_⟩; gi_at_call 99; refine (callsIn_wide.2 (nodes_any _ _)).mono ?_; rintro e w' ⟨rfl, rfl⟩)
 have h6 := (Six.new w (.int .i64 t.k) (.int .i64 t.p) (.string t.n) (.int .i64 t.s) lv kv).to (box2_below _ (.cells #[.int .i64 0] 3) (.cells #[.pointer (some ⟨w.heap.size, 0, none⟩)] 136))
 have hc : (((w.alloc (cell6 t.k t.p t.n t.s lv kv)).alloc (.cells #[.int .i64 0] 3)).alloc (.cells #[.pointer (some ⟨w.heap.size, 0, none⟩)] 136)).heap[w.heap.size + 1]? = some (.cells #[.int .i64 0] 3 (0, 0)) := by
  have h := World.alloc_heap_new (w.alloc (cell6 t.k t.p t.n t.s lv kv)) (.cells #[.int .i64 0] 3)
  rw [World.size_alloc] at h
  exact (Below.heap_alloc _ _ _ (by simp)).trans h
 have hp : (((w.alloc (cell6 t.k t.p t.n t.s lv kv)).alloc (.cells #[.int .i64 0] 3)).alloc (.cells #[.pointer (some ⟨w.heap.size, 0, none⟩)] 136)).cell? ⟨w.heap.size + 1 + 1, 0, none⟩ = some (.pointer (some ⟨w.heap.size, 0, none⟩)) := by
  have h := blk_cell (w := (w.alloc (cell6 t.k t.p t.n t.s lv kv)).alloc (.cells #[.int .i64 0] 3)) (cs := #[.pointer (some ⟨w.heap.size, 0, none⟩)]) (t := 136) (Below.refl _ _) 0 rfl
  simpa using h
 have hbel := box3_below w (cell6 t.k t.p t.n t.s lv kv) (.cells #[.int .i64 0] 3) (.cells #[.pointer (some ⟨w.heap.size, 0, none⟩)] 136)
 have hsz0 : (((w.alloc (cell6 t.k t.p t.n t.s lv kv)).alloc (.cells #[.int .i64 0] 3)).alloc (.cells #[.pointer (some ⟨w.heap.size, 0, none⟩)] 136)).heap.size = w.heap.size + 3 := by simp
 obtain ⟨W0, hW0⟩ : ∃ W0, (((w.alloc (cell6 t.k t.p t.n t.s lv kv)).alloc (.cells #[.int .i64 0] 3)).alloc (.cells #[.pointer (some ⟨w.heap.size, 0, none⟩)] 136)) = W0 := ⟨_, rfl⟩
 rw [hW0] at h6 hc hp hbel hsz0 |-
 clear hW0
 have hty := boxed_tyAt (S := fun k => B k \/ k = w.heap.size) h6 (hv.to hB hbel) (fun _ h => .inl h) (.inr rfl)
 have hX : ∀ k, k = w.heap.size + 1 -> ¬ (B k \/ k = w.heap.size) /\ k < W0.heap.size := fun k e => ⟨fun h => h.elim (fun h => by have := hB k h; omega) (fun h => by omega), by omega⟩
 have hS : ∀ k, (B k \/ k = w.heap.size) -> k < W0.heap.size := fun k h => h.elim (fun h => by have := hB k h; omega) (fun h => by omega)
 refine wpIn_range_told rfl h1 (gf := 125) (lb := #[.pointer (some ⟨w.heap.size + 1 + 1, 0, none⟩)]) rfl trivial (enters_of Tryz.func125 (by kernel_rfl) rfl)
  (nodes_tells (n - 1) (w.heap.size + 1 + 1) w.heap.size 0 t (fun k => B k \/ k = w.heap.size) (fun k => k = w.heap.size + 1) W0 hX hS (by omega) hp hty hdep) (fun h g => KV.trans h g) (fun W l o o' _ h ho _ => KV.of_cells (by simp) (cellsKept_put h ho)) (fun x A B h hp => Px.kept h hp) (Below.refl _ _) (fun _ => rfl)
  (fun pre W => W.heap[w.heap.size + 1]? = some (.cells #[.int .i64 (wrap64 pre.length)] 3 (0, 0)) /\ Below w.heap.size w W) (fun _ _ _ => False)
  ((abides_boxed (by omega) _ _).and (abidesAll_below (by omega) (Nat.le_refl _))) (fun _ _ _ _ _ h _ _ => h) ⟨by rw [show wrap64 ((([] : List Nd).length : Nat) : Int) = 0 from w64_id _ (by simp) (by simp)]; exact hc, hbel⟩
  (fun x a' _ => a' = { tmps := #[.agg #[.int .i64 t.k, .int .i64 t.p, .string t.n, .int .i64 t.s, lv, kv], .pointer (some ⟨w.heap.size, 0, none⟩), .int .i64 0, .pointer (some ⟨w.heap.size + 1, 0, none⟩),
   .func (.func 125) #[] #[.pointer (some ⟨w.heap.size + 1 + 1, 0, none⟩)], .agg #[x.ar, .int .i64 x.kid], .pointer (some ⟨x.b, x.o, none⟩), undef, undef, undef], defers := [] }) (fun _ _ _ _ _ h => h) ?assign ?body ?done ?stop
 case assign =>
  intro l pre x W K hi hp hK
  simp only [ndArgs]
  gi_wp2
  exact hK _ _ (KeepsFrom.refl _ _) (KV.refl _ _ _) hi hp (by simp)
 case body =>
  rintro l pre x a' W hl _ ⟨hb, hbw⟩ hpx rfl
  have c0 : W.cell? ⟨w.heap.size + 1, 0, none⟩ = some (.int .i64 (wrap64 pre.length)) := by simp [World.cell?, hb]
  have f0 : W.frozen? ⟨w.heap.size + 1, 0, none⟩ = false := by simp [World.frozen?, hb]
  have HB := hid hb
  clear hb hpx
  gi_wp2
  refine ⟨(KeepsOthers.setCell _ _ _).from _, ?_, ?_, hbw.setCell (p := ⟨w.heap.size + 1, 0, none⟩) (by simp) _⟩
  ·exact ⟨by simp, fun k o hk hc hx _ => (Below.heap_setCell _ _ _ k (fun e => hx e)).trans hk⟩
  ·rw [w64_succ x pre]
   exact set_block HB.out 0 _
 case done =>
  rintro D ys W hD hys ⟨hb, hbw⟩ hK
  have hlen : ys.length = t.size := by
   have := congrArg List.length hys
   rwa [List.length_map, preT_length] at this
  rw [hlen, w64_id _ (by omega) (by omega)] at hb
  have c0 : W.cell? ⟨w.heap.size + 1, 0, none⟩ = some (.int .i64 t.size) := by simp [World.cell?, hb]
  have HK := hid hK
  clear hb hys hlen hK
  gi_wp2
  refine ⟨by simp, .inl ⟨_, _, rfl, run_takeDeferred HK.out, ?_⟩⟩
  exact ⟨_, results_tmp rfl _ _ _, rfl, hbw.trans (belowK_b (w := w) (Nat.le_refl _) W D _ _ (by omega) HK.out rfl rfl)⟩
 case stop =>
  rintro D c pre W _ _ h _
  exact h.elim
theorem tsize_any (B : Nat -> Prop) (t : Ty) (hsz : t.size <= 1000000) (hdep : t.depth <= 1000) (v : Value) (w : World) (hB : Low B w) (hv : TyVal B w v t) :
 Calls Tryz.prog 70 #[v] w fun e w' => e = .returned (.int .i64 t.size) /\ Below w.heap.size w w' := by
 have hv' := hv
 obtain ⟨lv, kv, rfl, _⟩ := hv'
 exact callsIn_wide.1 (tsize_in 3 (by omega) B t hsz hdep lv kv w hB hv)
end Go.Proofs.YtejaboajgecpaaaGreatDoor
namespace Go.Proofs.YtejaboajgecpaaaGreatDoor
open Go.RowKit Go.Deep Go.Shelf
attribute [local go_sem] Oper.semAt_some
end Go.Proofs.YtejaboajgecpaaaGreatDoor
namespace Go.Proofs.YtejaboajgecpaaaGreatDoor
open Go.RowKit Go.Deep Go.Shelf
attribute [local go_sem] Oper.semAt_some
end Go.Proofs.YtejaboajgecpaaaGreatDoor
