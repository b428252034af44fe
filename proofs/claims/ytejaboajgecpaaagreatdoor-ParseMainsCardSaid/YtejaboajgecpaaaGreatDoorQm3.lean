/- Parsing: lemmas. -/
import Derived.Test.YtejaboajgecpaaaGreatDoorQm2
import Derived.Shelf.Abstract
import Derived.RangeFuncCalls
import Derived.RangeFuncLeaves
import Derived.RangeFuncBox
import Derived.Shelf.RegionOpen
import Derived.OwnWalkIn
import Derived.TacticsInMore
import Derived.LoopNIn
import Derived.LoopIn
import Derived.Maps.OwnIn
import Derived.ArgAppend
set_option maxHeartbeats 16000000
set_option maxRecDepth 100000
namespace Go.Proofs.YtejaboajgecpaaaGreatDoor
abbrev z6 : Array Value := #[.int .i64 0, .int .i64 0, .string ⟨#[]⟩, .int .i64 0, .slice none 0 0, .slice none 0 0]
abbrev z12 : Array Value := #[.int .i64 0, .string ⟨#[]⟩, .string ⟨#[]⟩, .slice none 0 0, .slice none 0 0, .int .i64 0, .int .i64 0, .string ⟨#[]⟩, .int .i64 0, .slice none 0 0, .slice none 0 0, .slice none 0 0]
abbrev z13 : Array Value := #[.slice none 0 0, .int .i64 0, .string ⟨#[]⟩, .string ⟨#[]⟩, .slice none 0 0, .slice none 0 0, .int .i64 0, .int .i64 0, .string ⟨#[]⟩, .int .i64 0, .slice none 0 0, .slice none 0 0, .slice none 0 0]
structure Tk where
 k : Int
 t : ByteArray
 v : Int
 a : Int
inductive PR (α : Type) where
 | ok (x : α) (r : List Tk)
 | bad (e : Int) (r : List Tk)
def PR.bind {α β : Type} (p : PR α) (f : α -> List Tk -> PR β) : PR β := match p with
 | .ok x r => f x r
 | .bad e r => .bad e r
def hd (s : ByteArray) : List Tk -> Bool
 | [] => false
 | x :: _ => x.t.toList == s.toList
def need (s : ByteArray) (ts : List Tk) : PR Unit := if hd s ts = true then .ok () ts.tail else .bad 1 ts
def pname (isN : ByteArray -> Bool) : List Tk -> PR ByteArray
 | [] => .bad 1 []
 | x :: r => if isN x.t = true then .ok x.t r else .bad 1 (x :: r)
def pnumber : List Tk -> PR Int
 | [] => .bad 1 []
 | x :: r => if x.k ≠ 2 \/ x.v < 0 then .bad 1 (x :: r) else if 1000000 < x.v then .bad 2 (x :: r) else .ok x.v r
def pprio : List Tk -> PR Int
 | [] => .ok 0 []
 | x :: r => if x.k ≠ 2 then .ok 0 (x :: r) else pnumber (x :: r)
abbrev sInt : ByteArray := ⟨#[105, 110, 116]⟩
abbrev sBool : ByteArray := ⟨#[98, 111, 111, 108]⟩
abbrev sEnd : ByteArray := ⟨#[101, 110, 100]⟩
abbrev sRec : ByteArray := ⟨#[114, 101, 99]⟩
abbrev sStop : ByteArray := ⟨#[115, 116, 111, 112]⟩
abbrev sNew : ByteArray := ⟨#[110, 101, 119]⟩
abbrev sTrue : ByteArray := ⟨#[116, 114, 117, 101]⟩
abbrev sFalse : ByteArray := ⟨#[102, 97, 108, 115, 101]⟩
abbrev sDef : ByteArray := ⟨#[100, 101, 102]⟩
abbrev sMain : ByteArray := ⟨#[109, 97, 105, 110]⟩
abbrev sBang : ByteArray := ⟨#[33]⟩
abbrev sAsk : ByteArray := ⟨#[63]⟩
abbrev sDot : ByteArray := ⟨#[46]⟩
abbrev sOpen : ByteArray := ⟨#[40]⟩
abbrev sShut : ByteArray := ⟨#[41]⟩
abbrev sBra : ByteArray := ⟨#[123]⟩
abbrev sKet : ByteArray := ⟨#[125]⟩
abbrev sLess : ByteArray := ⟨#[60]⟩
abbrev sMore : ByteArray := ⟨#[62]⟩
abbrev sComma : ByteArray := ⟨#[44]⟩
abbrev sColon : ByteArray := ⟨#[58]⟩
abbrev sSemi : ByteArray := ⟨#[59]⟩
abbrev sBar : ByteArray := ⟨#[124]⟩
abbrev sAnd : ByteArray := ⟨#[38]⟩
abbrev sEq : ByteArray := ⟨#[61]⟩
abbrev sPlus : ByteArray := ⟨#[43]⟩
section
variable (isN : ByteArray -> Bool)
def plist {α : Type} (F : List Tk -> PR α) : Nat -> List Tk -> PR (List α)
 | 0, ts => .bad 1 ts
 | g + 1, ts => (F ts).bind fun x r => if hd sComma r = true then (plist F g r.tail).bind fun l r => .ok (x :: l) r else .ok [x] r
def pcase {α : Type} (F : List Tk -> PR α) (ts : List Tk) : PR (ByteArray × α) :=
 (pname isN ts).bind fun n r => (need sColon r).bind fun _ r => (F r).bind fun x r => .ok (n, x) r
def pcases {α : Type} (F : List Tk -> PR α) (g : Nat) (ts : List Tk) : PR (List (ByteArray × α)) :=
 (need sBra ts).bind fun _ r => (plist (pcase isN F) g r).bind fun l r => (need sKet r).bind fun _ r => .ok l r
def plistUpTo {α : Type} (F : List Tk -> PR α) (s : ByteArray) (g : Nat) (ts : List Tk) : PR (List α) :=
 if hd s ts = true then .ok [] ts.tail else (plist F g ts).bind fun l r => (need s r).bind fun _ r => .ok l r
def pvar (ts : List Tk) : PR Ty :=
 (pname isN ts).bind fun n r => if hd sPlus r = true then (pnumber r.tail).bind fun s r => .ok (.mk 9 0 n s [] []) r else .ok (.mk 9 0 n 0 [] []) r
def panyS (S : List Tk -> PR Ty) (ts : List Tk) : PR Ty :=
 if hd sInt ts = true then .ok (.mk 1 0 ⟨#[]⟩ 0 [] []) ts.tail else if hd sBool ts = true then .ok (.mk 2 0 ⟨#[]⟩ 0 [] []) ts.tail else S ts
def ppayS (S : List Tk -> PR Ty) (ts : List Tk) : PR Ty :=
 if hd sBang ts = true \/ hd sAsk ts = true \/ hd sPlus ts = true \/ hd sAnd ts = true \/ hd sRec ts = true then .bad 1 ts else panyS S ts
def pexchS (S : List Tk -> PR Ty) (k : Int) (ts : List Tk) : PR Ty :=
 (pprio ts).bind fun p r => (ppayS S r).bind fun t r => (need sDot r).bind fun _ r => (S r).bind fun u r => .ok (.mk k p ⟨#[]⟩ 0 [] [t, u]) r
def pchoiceS (S : List Tk -> PR Ty) (g : Nat) (k : Int) (ts : List Tk) : PR Ty :=
 (pprio ts).bind fun p r => (pcases isN S g r).bind fun l r => .ok (.mk k p ⟨#[]⟩ 0 (l.map (·.1)) (l.map (·.2))) r
def precS (S : List Tk -> PR Ty) (ts : List Tk) : PR Ty :=
 (pname isN ts).bind fun n r => (need sDot r).bind fun _ r => (S r).bind fun t r => .ok (.mk 8 0 n 0 [] [t]) r
def psess : Nat -> List Tk -> PR Ty
 | 0, ts => .bad 1 ts
 | f + 1, ts =>
  if hd sEnd ts = true then .ok (.mk 3 0 ⟨#[]⟩ 0 [] []) ts.tail
  else if hd sBang ts = true then pexchS (psess f) 4 ts.tail
  else if hd sAsk ts = true then pexchS (psess f) 5 ts.tail
  else if hd sPlus ts = true then pchoiceS isN (psess f) f 6 ts.tail
  else if hd sAnd ts = true then pchoiceS isN (psess f) f 7 ts.tail
  else if hd sRec ts = true then precS isN (psess f) ts.tail
  else if hd sOpen ts = true then (psess f ts.tail).bind fun t r => (need sShut r).bind fun _ r => .ok t r
  else pvar isN ts
def pval : List Tk -> PR Vl
 | [] => .bad 1 []
 | x :: r => if (x.t.toList == sTrue.toList) = true then .ok ⟨3, ⟨#[]⟩, 1⟩ r else if (x.t.toList == sFalse.toList) = true then .ok ⟨3, ⟨#[]⟩, 0⟩ r else if x.k = 2 then .ok ⟨2, ⟨#[]⟩, x.v⟩ r else if isN x.t = true then .ok ⟨1, x.t, 0⟩ r else .bad 1 (x :: r)
def zT : Ty := .mk 0 0 ⟨#[]⟩ 0 [] []
def parOf : List Pr -> Pr
 | [p] => p
 | l => .mk 7 ⟨#[]⟩ ⟨#[]⟩ [] [] zT l
def prestS (S : List Tk -> PR Pr) (ts : List Tk) : PR Pr := (need sDot ts).bind fun _ r => S r
def psendS (S : List Tk -> PR Pr) (c : ByteArray) (ts : List Tk) : PR Pr :=
 (need sLess ts).bind fun _ r => (pval isN r).bind fun v r => (need sMore r).bind fun _ r => (prestS S r).bind fun p r => .ok (.mk 2 c ⟨#[]⟩ [] [v] zT [p]) r
def precvS (S : List Tk -> PR Pr) (c : ByteArray) (ts : List Tk) : PR Pr :=
 (need sOpen ts).bind fun _ r => (pname isN r).bind fun x r => (need sShut r).bind fun _ r => (prestS S r).bind fun p r => .ok (.mk 3 c x [] [] zT [p]) r
def pselS (S : List Tk -> PR Pr) (c : ByteArray) (ts : List Tk) : PR Pr :=
 (pname isN ts).bind fun l r => (prestS S r).bind fun p r => .ok (.mk 4 c ⟨#[]⟩ [l] [] zT [p]) r
def pbraS (P : List Tk -> PR Pr) (g : Nat) (c : ByteArray) (ts : List Tk) : PR Pr :=
 (pcases isN P g ts).bind fun l r => .ok (.mk 5 c ⟨#[]⟩ (l.map (·.1)) [] zT (l.map (·.2))) r
def pcallS (g : Nat) (c : ByteArray) (ts : List Tk) : PR Pr :=
 (need sLess ts).bind fun _ r => (plistUpTo (pval isN) sMore g r).bind fun l r => .ok (.mk 8 c ⟨#[]⟩ [] l zT []) r
def pnewS (T : List Tk -> PR Ty) (S : List Tk -> PR Pr) (ts : List Tk) : PR Pr :=
 (need sOpen ts).bind fun _ r => (pname isN r).bind fun a r => (need sComma r).bind fun _ r => (pname isN r).bind fun b r => (need sColon r).bind fun _ r => (T r).bind fun t r => (need sShut r).bind fun _ r => (S r).bind fun p r => .ok (.mk 6 a b [] [] t [p]) r
def pnamedS (P S : List Tk -> PR Pr) (g : Nat) (c : ByteArray) (ts : List Tk) : PR Pr :=
 if hd sBang ts = true then psendS isN S c ts.tail
 else if hd sAsk ts = true then precvS isN S c ts.tail
 else if hd sDot ts = true then pselS isN S c ts.tail
 else if hd sAnd ts = true then pbraS isN P g c ts.tail
 else pcallS isN g c ts
def pparts : Nat -> Bool -> List Tk -> PR (List Pr)
 | 0, _, ts => .bad 1 ts
 | f + 1, false, ts =>
  if hd sStop ts = true then .ok [.mk 1 ⟨#[]⟩ ⟨#[]⟩ [] [] zT []] ts.tail
  else if hd sOpen ts = true then (pparts f true ts.tail).bind fun l r => (need sShut r).bind fun _ r => .ok [parOf l] r
  else if hd sNew ts = true then (pnewS isN (psess isN f) (fun r => (pparts f false r).bind fun l r => .ok (parOf l) r) ts.tail).bind fun p r => .ok [p] r
  else (pname isN ts).bind fun c r => (pnamedS isN (fun r => (pparts f true r).bind fun l r => .ok (parOf l) r) (fun r => (pparts f false r).bind fun l r => .ok (parOf l) r) f c r).bind fun p r => .ok [p] r
 | f + 1, true, ts =>
  (if hd sOpen ts = true then (pparts f true ts.tail).bind fun l r => (need sShut r).bind fun _ r => .ok l r else pparts f false ts).bind fun l r =>
   if hd sBar r = true then (pparts f true r.tail).bind fun m r => .ok (l ++ m) r else .ok l r
def pproc (f : Nat) (ts : List Tk) : PR Pr := (pparts isN f true ts).bind fun l r => .ok (parOf l) r
def psing (f : Nat) (ts : List Tk) : PR Pr := (pparts isN f false ts).bind fun l r => .ok (parOf l) r
def pbody (f : Nat) (ts : List Tk) : PR Pr := (need sEq ts).bind fun _ r => (pproc isN f r).bind fun p r => (need sSemi r).bind fun _ r => .ok p r
def pparam (f : Nat) (ts : List Tk) : PR Pm := (pname isN ts).bind fun n r => (need sColon r).bind fun _ r => (panyS (psess isN f) r).bind fun t r => .ok ⟨n, t⟩ r
def pdef (f : Nat) (ts : List Tk) : PR Df := (pname isN ts).bind fun n r => (need sOpen r).bind fun _ r => (plistUpTo (pparam isN f) sShut f r).bind fun l r => (pbody isN f r).bind fun b r => .ok ⟨n, l, b⟩ r
def pdefs (f : Nat) : Nat -> List Tk -> PR (List Df)
 | 0, ts => .bad 1 ts
 | g + 1, ts => if hd sDef ts = true then (pdef isN f ts.tail).bind fun d r => (pdefs f g r).bind fun l r => .ok (d :: l) r else .ok [] ts
def pprog (f : Nat) (ts : List Tk) : PR Pg := (pdefs isN f f ts).bind fun l r => (need sMain r).bind fun _ r => (pbody isN f r).bind fun m r => .ok ⟨l, m⟩ r
end
end Go.Proofs.YtejaboajgecpaaaGreatDoor
namespace Go.Proofs.YtejaboajgecpaaaGreatDoor
open Go.RowKit Go.Deep
def Six (w : World) (b : Nat) (a0 a1 a2 a3 a4 a5 : Value) : Prop := w.heap[b]? = some (.cells #[a0, a1, a2, a3, a4, a5] 28 (0, 0))
theorem Six.cells {w : World} {b : Nat} {a0 a1 a2 a3 a4 a5 : Value} (h : Six w b a0 a1 a2 a3 a4 a5) :
 (w.cell? ⟨b, 0, none⟩ = some a0 /\ w.cell? ⟨b, 1, none⟩ = some a1 /\ w.cell? ⟨b, 2, none⟩ = some a2 /\ w.cell? ⟨b, 3, none⟩ = some a3 /\ w.cell? ⟨b, 4, none⟩ = some a4 /\ w.cell? ⟨b, 5, none⟩ = some a5) /\ ∀ j, w.frozen? ⟨b, j, none⟩ = false := by
 unfold Six at h
 refine ⟨⟨?_, ?_, ?_, ?_, ?_, ?_⟩, fun j => frozen_of_block h j⟩ <;> simp [World.cell?, h]
theorem Six.new (w : World) (a0 a1 a2 a3 a4 a5 : Value) : Six (w.alloc (.cells #[a0, a1, a2, a3, a4, a5] 28)) w.heap.size a0 a1 a2 a3 a4 a5 := World.alloc_heap_new w _
theorem Six.below {w w' : World} {b n : Nat} {a0 a1 a2 a3 a4 a5 : Value} (h : Six w b a0 a1 a2 a3 a4 a5) (hb : Below n w w') (hn : b < n) : Six w' b a0 a1 a2 a3 a4 a5 := (hb.block b hn).trans h
theorem Six.lt {w : World} {b : Nat} {a0 a1 a2 a3 a4 a5 : Value} (h : Six w b a0 a1 a2 a3 a4 a5) : b < w.heap.size := (Array.getElem?_eq_some_iff.1 h).1
theorem Six.to {w w' : World} {b : Nat} {a0 a1 a2 a3 a4 a5 : Value} (h : Six w b a0 a1 a2 a3 a4 a5) (hb : Below w.heap.size w w') : Six w' b a0 a1 a2 a3 a4 a5 := h.below hb h.lt
theorem set_block {W : World} {b : Nat} {cs : Array Value} {t : TypeId} {fr : Nat × Nat} (h : W.heap[b]? = some (.cells cs t fr)) (o : Nat) (v : Value) : (W.setCell ⟨b, o, none⟩ v).heap[b]? = some (.cells (cs.setIfInBounds o v) t fr) := by
 obtain ⟨hlt, hk⟩ := Array.getElem?_eq_some_iff.1 h
 show (W.heap.modify b _)[b]? = _
 rw [Array.getElem?_eq_getElem (by rw [Array.size_modify]; exact hlt), Array.getElem_modify_self, hk]
 rfl
end Go.Proofs.YtejaboajgecpaaaGreatDoor
namespace Go.Proofs.YtejaboajgecpaaaGreatDoor
open Go.RowKit Go.Deep Go.Shelf
theorem box3_below (w : World) (o o' o'' : Obj) : Below w.heap.size w (((w.alloc o).alloc o').alloc o'') := (((Below.refl _ _).alloc (Nat.le_refl _) _).alloc (by simp) _).alloc (by simp; omega) _
end Go.Proofs.YtejaboajgecpaaaGreatDoor
namespace Go.Proofs.YtejaboajgecpaaaGreatDoor
open Go.RowKit Go.Deep Go.Shelf
section
variable (nm : ByteArray) (b : Ty)
end
end Go.Proofs.YtejaboajgecpaaaGreatDoor
namespace Go.Proofs.YtejaboajgecpaaaGreatDoor
open Go.RowKit Go.Deep Go.Shelf
structure Nd where
 ar : Value
 kid : Int
 b : Nat
 o : Nat
 path : List Ty
 ty : Ty
abbrev ndArgs (x : Nd) : Array Value := #[.agg #[x.ar, .int .i64 x.kid], .pointer (some ⟨x.b, x.o, none⟩)]
def Nd.g (x : Nd) : List Ty × Int × Ty := (x.path, x.kid, x.ty)
mutual
def preT (path : List Ty) (kid : Int) : Ty -> List (List Ty × Int × Ty)
 | .mk k p n s ls ts => (path, kid, .mk k p n s ls ts) :: preTs (path ++ [.mk k p n s ls ts]) 0 ts
def preTs (path : List Ty) (kid : Int) : List Ty -> List (List Ty × Int × Ty)
 | [] => []
 | t :: r => preT path kid t ++ preTs path (kid + 1) r
end
theorem preT_eq (path : List Ty) (kid : Int) (t : Ty) : preT path kid t = (path, kid, t) :: preTs (path ++ [t]) 0 t.ts := by cases t; simp [preT, Ty.ts]
theorem preTs_append (path : List Ty) : ∀ (l r : List Ty) (kid : Int), preTs path kid (l ++ r) = preTs path kid l ++ preTs path (kid + l.length) r
 | [], r, kid => by simp [preTs]
 | t :: l, r, kid => by
  simp only [List.cons_append, preTs, preTs_append path l r (kid + 1), List.append_assoc, List.length_cons]
  congr 3
  omega
theorem preTs_take {path : List Ty} {l : List Ty} {j : Nat} {t : Ty} (h : l[j]? = some t) (kid : Int) : preTs path kid (l.take (j + 1)) = preTs path kid (l.take j) ++ preT path (kid + j) t := by
 have hj := (List.getElem?_eq_some_iff.1 h).1
 rw [take_snoc_get h, preTs_append, List.length_take, Nat.min_eq_left (by omega)]
 simp [preTs]
theorem preTs_prefix (path : List Ty) (l : List Ty) (j : Nat) (kid : Int) : preTs path kid (l.take j) <+: preTs path kid l := by
 conv => rhs; rw [<- List.take_append_drop j l, preTs_append]
 exact List.prefix_append _ _
def ptrs (ads : List (Nat × Nat)) : List Value := ads.map fun a => .pointer (some ⟨a.1, a.2, none⟩)
def ARow (D : Nat) (S : Nat -> Prop) (W : World) (ar : Value) (path : List Ty) : Prop :=
 ∃ ads : List (Nat × Nat), ads.length = path.length /\ W.ownsRow D 136 1 ar path.length (ptrs ads) /\ ∀ (i : Nat) (a : Nat × Nat) (t : Ty), ads[i]? = some a -> path[i]? = some t -> TyAt S W t a.1 a.2
def Px (D : Nat) (S : Nat -> Prop) (x : Nd) (W : World) : Prop := ARow D S W x.ar x.path /\ TyAt S W x.ty x.b x.o /\ x.path.length <= 1000
theorem ownsRow_kept {W W' : World} {base : Nat} {e : TypeId} {size : Nat} {v : Value} {n : Nat} {xs : List Value} (h : W.ownsRow base e size v n xs) (hk : ∀ (g : Nat) (o : Obj), v.ownBlock = some g -> W.heap[g]? = some o -> o.isCells = true -> W'.heap[g]? = some o) : W'.ownsRow base e size v n xs := by
 refine ⟨h.1, ?_⟩
 rcases h.2 with h0 | ⟨g, cap, cur, rfl, hb, hg, r⟩
 ·exact .inl h0
 ·exact .inr ⟨g, cap, cur, rfl, hb, hk g _ rfl hg rfl, r⟩
theorem ARow.kept {D : Nat} {S : Nat -> Prop} {W W' : World} {ar : Value} {path : List Ty} (h : ARow D S W ar path) (hS : Keeps S W W') (hk : ∀ (g : Nat) (o : Obj), ar.ownBlock = some g -> W.heap[g]? = some o -> o.isCells = true -> W'.heap[g]? = some o) : ARow D S W' ar path := by
 obtain ⟨ads, h1, h2, h3⟩ := h
 exact ⟨ads, h1, ownsRow_kept h2 hk, fun i a t ha ht => (h3 i a t ha ht).keep hS⟩
theorem CellsKept.keeps {A B : World} (h : CellsKept A B) (S : Nat -> Prop) : Keeps S A B := fun k o _ ho hc => h k o ho hc
theorem Px.kept {D : Nat} {S : Nat -> Prop} {x : Nd} {W W' : World} (h : CellsKept W W') (hp : Px D S x W) : Px D S x W' :=
 ⟨hp.1.kept (h.keeps S) (fun g o _ ho hc => h g o ho hc), hp.2.1.keep (h.keeps S), hp.2.2⟩
theorem cellsKept_alloc (W : World) (o : Obj) : CellsKept W (W.alloc o) := fun k _ hk _ => (Below.heap_alloc W o k (Array.getElem?_eq_some_iff.1 hk).1).trans hk
structure KV (X : Nat -> Prop) (ar : Value) (W W' : World) : Prop where
 size : W.heap.size <= W'.heap.size
 keep : ∀ (k : Nat) (o : Obj), W.heap[k]? = some o -> o.isCells = true -> ¬ X k -> ar.ownBlock ≠ some k -> W'.heap[k]? = some o
abbrev Kp (X : Nat -> Prop) : World -> World -> Prop := KV X .nilFunc
theorem KV.refl (X : Nat -> Prop) (ar : Value) (W : World) : KV X ar W W := ⟨Nat.le_refl _, fun _ _ h _ _ _ => h⟩
theorem KV.trans {X : Nat -> Prop} {ar : Value} {A B C : World} (h : KV X ar A B) (g : KV X ar B C) : KV X ar A C :=
 ⟨Nat.le_trans h.size g.size, fun k o hk hc hx ha => g.keep k o (h.keep k o hk hc hx ha) hc hx ha⟩
theorem KV.of_kp {X : Nat -> Prop} {ar : Value} {A B : World} (h : Kp X A B) : KV X ar A B := ⟨h.size, fun k o hk hc hx _ => h.keep k o hk hc hx (by simp [Value.ownBlock])⟩
theorem KV.of_below {X : Nat -> Prop} {ar : Value} {A B : World} (h : Below A.heap.size A B) : KV X ar A B := ⟨h.size, fun k _ hk _ _ _ => (h.block k (Array.getElem?_eq_some_iff.1 hk).1).trans hk⟩
theorem KV.of_cells {X : Nat -> Prop} {ar : Value} {A B : World} (hs : A.heap.size <= B.heap.size) (h : CellsKept A B) : KV X ar A B := ⟨hs, fun k o hk hc _ _ => h k o hk hc⟩
theorem KV.keeps {X : Nat -> Prop} {ar : Value} {A B : World} {S : Nat -> Prop} (h : KV X ar A B) (hS : ∀ k, S k -> ¬ X k /\ ar.ownBlock ≠ some k) : Keeps S A B := fun k o hk ho hc => h.keep k o ho hc (hS k hk).1 (hS k hk).2
theorem ptrInfo : (Tryz.prog.info? 136).map (fun i => (i.zero, i.size, i.bytes)) = some (some (.pointer none), 1, 8) := by kernel_rfl
theorem run_append_ptr (base : Nat) (ty : TypeId) (v : Value) (n : Nat) (xs : List Value) (w : World) (hown : w.ownsRow base 136 1 v n xs) (ad : Addr) (c : Nat) (u : Value) (hu : w.cell? ad = some u) (h1 : u.oneCell' = true) (h63 : n + 1 <= 1000000) (hbase : base <= w.heap.size) :
 ∃ g' c' w', (Builtin.append_ #[160, 160] ty #[v, .slice (some ad) 1 c]).run Tryz.prog w = .ok (.slice (some ⟨g', 0, none⟩) (n + 1) c') w' /\ w'.ownsRow base 136 1 (.slice (some ⟨g', 0, none⟩) (n + 1) c') (n + 1) (xs ++ [u]) /\
  ((v = .slice (some ⟨g', 0, none⟩) n c' /\ w.grownBy w' (some g')) \/ (w.heap.size <= g' /\ w.grownBy w' none)) := by
 obtain ⟨i0, hi, hz0, hz1, hz2⟩ := info_parts ptrInfo
 have hnews : ∀ (j : Nat) (x : Value), [u][j]? = some x -> w.cell? (ad.add j) = some x := fun j x hj => by
  cases j with
  | zero => simp at hj; subst hj; simpa [Addr.add] using hu
  | succ j => simp at hj
 have hone : ∀ x ∈ [u], x.oneCell' = true := fun x hx => by simp at hx; subst hx; exact h1
 rcases hown.2 with ⟨rfl, rfl⟩ | ⟨g, cap, cur, rfl, hb, hg, hnc, hcm, hcs, htake⟩
 ·obtain ⟨v', w', hr, h2, h3, h4, h5⟩ := run_append_own_at (P := Tryz.prog) w base 160 ty 136 i0 _ 1 8 Tryz.underlying160 hi hz0 hz1 hz2 rfl (by decide) _ _ xs hown ad 1 c [u] rfl hnews hone (by unfold maxLen; omega) (by omega) hbase
  rcases h2.2 with ⟨rfl, h0⟩ | ⟨g', c', cur', rfl, r⟩
  ·omega
  ·refine ⟨g', c', w', hr, h2, .inr ⟨?_, h3⟩⟩
   rcases h5 with h | h
   ·simp [Value.ownBlock] at h
   ·simp [Value.ownBlock] at h; omega
 ·by_cases hroom : n + 1 <= cap
  ·obtain ⟨w', hr, h2, h3⟩ := run_append_fits (P := Tryz.prog) w base 160 ty 136 i0 1 Tryz.underlying160 hi hz1 g n cap xs hown ad 1 c [u] rfl hnews hone hroom
   exact ⟨g, cap, w', hr, h2, .inl ⟨rfl, h3⟩⟩
  ·have holds : ∀ (j : Nat) (x : Value), xs[j]? = some x -> w.cell? ((⟨g, 0, none⟩ : Addr).add j) = some x := fun j x hj => by
    have hx : cur.toList[j]? = some x := by
     have hl := (List.getElem?_eq_some_iff.1 hj).1
     rw [<- htake] at hj hl
     rw [List.length_take] at hl
     rw [List.getElem?_take] at hj
     simpa using (by simpa using hj : j < n /\ cur[j]? = some x).2
    have e : (⟨g, 0, none⟩ : Addr).add j = ⟨g, j, none⟩ := by
     unfold Addr.add
     by_cases h : j = 0
     ·subst h; rfl
     ·simp [h]
    rw [e]
    simpa [World.cell?, hg] using hx
   obtain ⟨v', w', hr, h2, h3⟩ := run_append_arg_grows (P := Tryz.prog) w 160 ty 136 i0 _ 1 8 Tryz.underlying160 hi hz0 hz1 hz2 rfl (by decide) ⟨g, 0, none⟩ n cap xs (by simpa using hown.1) holds ad 1 c [u] rfl hnews (by omega) (by unfold maxLen; omega) (by omega)
   rcases h2.2 with ⟨rfl, h0⟩ | ⟨g', c', cur', rfl, hb', r⟩
   ·omega
   ·exact ⟨g', c', w', hr, ⟨h2.1, .inr ⟨g', c', cur', rfl, by omega, r⟩⟩, .inr ⟨hb', h3⟩⟩
theorem wpListIn_append_ptr {F : Fence} {nF : Nat} {w : World} {ops : Array Oper} {rest : List Oper} {o : Oper} {a : Act} {Q : Exit -> Act -> World -> Prop} (hgd : o.guard = none) (s x : Operand)
 (ho : o.op = .call { callee := .builtin .append, args := #[s, x], argTypes := #[160, 160] }) (base : Nat) (v : Value) (n : Nat) (xs : List Value) (hs : a.eval s = v) (hown : w.ownsRow base 136 1 v n xs)
 (ad : Addr) (c : Nat) (u : Value) (hx : a.eval x = .slice (some ad) 1 c) (hu : w.cell? ad = some u) (h1 : u.oneCell' = true) (h63 : n + 1 <= 1000000) (hbase : base <= w.heap.size)
 (h : ∀ g' c' w', w'.ownsRow base 136 1 (.slice (some ⟨g', 0, none⟩) (n + 1) c') (n + 1) (xs ++ [u]) -> ((v = .slice (some ⟨g', 0, none⟩) n c' /\ w.grownBy w' (some g')) \/ (w.heap.size <= g' /\ w.grownBy w' none)) ->
  wpListIn F nF Tryz.prog ops Q rest (a.put o.dst (.slice (some ⟨g', 0, none⟩) (n + 1) c')) w') :
 wpListIn F nF Tryz.prog ops Q (o :: rest) a w := by
 refine wpListIn_plain hgd fun K hK => ?_
 obtain ⟨g', c', w', hr, h2, h3⟩ := run_append_ptr base o.type v n xs w hown ad c u hu h1 h63 hbase
 unfold Oper.wpIn
 refine ⟨by simp [Oper.about, ho, resolve, Target.leads, Sem.run_pure], ?_⟩
 rw [Oper.semAt_plain F _ _ (by rw [ho]; intro c hc'; cases hc')]
 simp [execOp, ho, resolve, invoke, builtin, hs, hx, hr, Result.andThen]
 exact hK _ _ (h g' c' w' h2 h3)
theorem row_back {D : Nat} {X S : Nat -> Prop} {W w1 W' : World} {ar : Value} {path : List Ty} {t : Ty} {g' c' : Nat} (hX : ∀ k, X k -> ¬ S k /\ k < D) (hrow : ARow D S W ar path)
 (hcase : (ar = .slice (some ⟨g', 0, none⟩) path.length c' /\ W.grownBy w1 (some g')) \/ (W.heap.size <= g' /\ W.grownBy w1 none))
 (hkv : KV X (.slice (some ⟨g', 0, none⟩) (path.length + 1) c') w1 W') (hrow' : ARow D S W' (.slice (some ⟨g', 0, none⟩) (path.length + 1) c') (path ++ [t])) : ARow D S W' ar path /\ KV X ar W W' := by
 rcases hcase with ⟨rfl, hg⟩ | ⟨hnew, hg⟩
 ·have hkv' : KV X (.slice (some ⟨g', 0, none⟩) path.length c') W W' := ⟨Nat.le_trans hg.size hkv.size, fun k o hk hc hx ha => hkv.keep k o ((hg.block k (Array.getElem?_eq_some_iff.1 hk).1 (fun e => ha (by simp only [Option.some.injEq] at e; simp [Value.ownBlock, e]))).trans hk) hc hx (by simpa [Value.ownBlock] using ha)⟩
  refine ⟨?_, hkv'⟩
  obtain ⟨ads, h1, h2, h3⟩ := hrow
  obtain ⟨ads', h1', h2', h3'⟩ := hrow'
  have hlen : (path ++ [t]).length = path.length + 1 := by simp
  rw [hlen] at h1' h2'
  refine ⟨ads'.take path.length, by rw [List.length_take]; omega, ?_, fun i a u ha hu => ?_⟩
  ·refine ⟨by simp [ptrs]; omega, ?_⟩
   rcases h2'.2 with ⟨h, _⟩ | ⟨g, cap, cur, h, hb, hgg, hnc, hcm, hcs, htake⟩
   ·simp at h
   ·simp only [Value.slice.injEq, Option.some.injEq, Addr.mk.injEq, and_true, true_and] at h
    obtain ⟨rfl, rfl⟩ := h
    refine .inr ⟨g', c', cur, rfl, hb, hgg, by omega, hcm, hcs, ?_⟩
    have := congrArg (List.take (path.length * 1)) htake
    rw [List.take_take, Nat.min_eq_left (by omega)] at this
    rw [this]
    simp [ptrs, List.map_take]
  ·have hi : i < path.length := (List.getElem?_eq_some_iff.1 hu).1
   have ha' : ads'[i]? = some a := by rw [List.getElem?_take, if_pos hi] at ha; exact ha
   exact h3' i a u ha' (by rw [List.getElem?_append_left hi]; exact hu)
 ·have hkv' : KV X ar W W' := ⟨Nat.le_trans hg.size hkv.size, fun k o hk hc hx _ => by
   have hlt := (Array.getElem?_eq_some_iff.1 hk).1
   exact hkv.keep k o ((hg.block k hlt (by simp)).trans hk) hc hx (by simp [Value.ownBlock]; omega)⟩
  have hall : ∀ (k : Nat) (o : Obj), W.heap[k]? = some o -> o.isCells = true -> ¬ X k -> W'.heap[k]? = some o := fun k o hk hc hx => by
   have hlt := (Array.getElem?_eq_some_iff.1 hk).1
   exact hkv.keep k o ((hg.block k hlt (by simp)).trans hk) hc hx (by simp [Value.ownBlock]; omega)
  refine ⟨hrow.kept (fun k o hk ho hc => hall k o ho hc (fun hx => (hX k hx).1 hk)) (fun g o hg' ho hc => hall g o ho hc (fun hx => ?_)), hkv'⟩
  obtain ⟨ads, _, h2, _⟩ := hrow
  rcases h2.2 with ⟨rfl, _⟩ | ⟨g0, cap, cur, rfl, hb, _⟩
  ·simp [Value.ownBlock] at hg'
  ·simp [Value.ownBlock] at hg'
   have := (hX g hx).2
   omega
end Go.Proofs.YtejaboajgecpaaaGreatDoor
