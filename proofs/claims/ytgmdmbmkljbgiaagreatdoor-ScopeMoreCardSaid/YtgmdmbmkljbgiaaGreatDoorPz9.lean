/- Lists of texts that a call owns, and append to them; the names that the reference finds. (and what follows from it) -/
import Derived.Test.YtgmdmbmkljbgiaaGreatDoorPz8
import Derived.Test.YtgmdmbmkljbgiaaGreatDoorPz1
import Derived.Test.YtgmdmbmkljbgiaaGreatDoorPz3
import Derived.Test.YtgmdmbmkljbgiaaGreatDoorPz4
import Derived.Test.YtgmdmbmkljbgiaaGreatDoorPrB
import Derived.Test.YtgmdmbmkljbgiaaGreatDoorTyJ
import Derived.Test.YtgmdmbmkljbgiaaGreatDoorPz5
import Derived.Maps.AppendAt
import Derived.Deep.RegionHeld3
import Derived.Deep.RegionWith
import Derived.Deep.RegionLaw
import Derived.OwnWalk

/- Lists of texts that a call owns, and append to them; the names that the reference finds. -/
namespace Go.Proofs.YtgmdmbmkljbgiaaGreatDoor
open Go.RowKit Go.Deep Go.Shelf

/-- A list of texts that lies in a row of the call's own. -/
def Row (base : Nat) (W : World) (v : Value) (l : List ByteArray) : Prop := W.ownsRow base 9 1 v l.length (l.map .string) ∧ ∀ s ∈ l, s.size ≤ maxLen
theorem Row.nil (base : Nat) (W : World) : Row base W (.slice none 0 0) [] := ⟨World.ownsRow_nil _ _ _ _, fun s h => by cases h⟩
theorem Row.empty (base : Nat) (w0 : World) (b : Nat) (hb : b = w0.heap.size) (h : base ≤ w0.heap.size) : Row base (w0.alloc (.cells #[] 9)) (.slice (some ⟨b, 0, none⟩) 0 0) [] := ⟨fresh_row' w0 base b hb h, fun s h => by cases h⟩
theorem Row.alloc {base : Nat} {W : World} {v : Value} {l : List ByteArray} (h : Row base W v l) (o : Obj) : Row base (W.alloc o) v l := ⟨h.1.alloc o, h.2⟩
theorem Row.drew {base : Nat} {W : World} {v : Value} {l : List ByteArray} (h : Row base W v l) : Row base W.drew v l := h
theorem Row.lt {base : Nat} {W : World} {v : Value} {l : List ByteArray} (h : Row base W v l) : ∀ k, v.ownBlock = some k → base ≤ k ∧ k < W.heap.size := h.1.lt
theorem Row.kept {base : Nat} {W W' : World} {v : Value} {l : List ByteArray} (h : Row base W v l) (hb : ∀ k, v.ownBlock = some k → W'.heap[k]? = W.heap[k]?) : Row base W' v l := by
  refine ⟨⟨h.1.1, ?_⟩, h.2⟩
  rcases h.1.2 with h0 | ⟨g, cap, cur, rfl, hbg, hg, r⟩
  · exact .inl h0
  · exact .inr ⟨g, cap, cur, rfl, hbg, (hb g rfl).trans hg, r⟩
theorem Row.to {base : Nat} {W W' : World} {v : Value} {l : List ByteArray} (h : Row base W v l) (hb : Below W.heap.size W W') : Row base W' v l := h.kept fun k hk => hb.block k (h.lt k hk).2
theorem Row.strs {base : Nat} {W : World} {v : Value} {l : List ByteArray} (h : Row base W v l) (hl : l.length ≤ maxLen) : (∃ a n c, v = .slice a n c) ∧ StrSl (Fresh base W.heap.size) W v l := strSl_row2 h.1 h.2 hl

theorem run_nothing (base : Nat) (ty : TypeId) (v : Value) (n : Nat) (xs : List Value) (w : World) (hown : w.ownsRow base 9 1 v n xs) (a : Option Addr) (c : Nat) :
    (Builtin.append_ #[23, 23] ty #[v, .slice a 0 c]).run Tryz.prog w = .ok v w := by
  obtain ⟨i0, hi, hz0, hz1, hz2⟩ := info_parts strInfo'
  have ht := Tryz.underlying23
  rcases hown.2 with ⟨rfl, rfl⟩ | ⟨g, cap, cur, rfl, _, _, hnc, _⟩
  · cases a with
    | none => simp [Builtin.append_, run_underlying ht, sizeOf, typeInfo, hi, Builtin.lenOf, Builtin.firstCells]
    | some ad => simp [Builtin.append_, run_underlying ht, sizeOf, typeInfo, hi, Builtin.lenOf, Builtin.firstCells, loadCells, loadCellsFrom]
  · cases a with
    | none => simp [Builtin.append_, run_underlying ht, sizeOf, typeInfo, hi, Builtin.lenOf, Builtin.firstCells, hnc, storeCells]
    | some ad => simp [Builtin.append_, run_underlying ht, sizeOf, typeInfo, hi, Builtin.lenOf, Builtin.firstCells, hnc, storeCells, loadCells, loadCellsFrom]

theorem slice_of_row {base : Nat} {W : World} {v : Value} {n : Nat} {xs : List Value} (h : W.ownsRow base 9 1 v n xs) : ∃ a m c, v = .slice a m c := by
  rcases h.2 with ⟨rfl, _⟩ | ⟨g, cap, cur, rfl, _⟩
  · exact ⟨_, _, _, rfl⟩
  · exact ⟨_, _, _, rfl⟩

/-- append of a list of texts, which may be empty, to one of the call's own, which may be nil. -/
theorem run_app (base : Nat) (ty : TypeId) (v : Value) (l : List ByteArray) (w : World) (hown : Row base w v l) (B : Nat → Prop) (na : Option Addr) (nn nc : Nat) (names : List ByteArray) (hnv : StrSl B w (.slice na nn nc) names) (h63 : l.length + names.length ≤ 1000000000) (hbase : base ≤ w.heap.size) :
    ∃ ga gn gc w', (Builtin.append_ #[23, 23] ty #[v, .slice na nn nc]).run Tryz.prog w = .ok (.slice ga gn gc) w' ∧ Row base w' (.slice ga gn gc) (l ++ names) ∧ w.grownBy w' v.ownBlock ∧ ((Value.slice ga gn gc).ownBlock = v.ownBlock ∨ (Value.slice ga gn gc).ownBlock = some w.heap.size) := by
  obtain ⟨i0, hi, hz0, hz1, hz2⟩ := info_parts strInfo'
  have hall : ∀ s ∈ l ++ names, s.size ≤ maxLen := fun s hs => by
    rcases List.mem_append.1 hs with h | h
    · exact hown.2 s h
    · exact hnv.2.2 s h
  rcases hnv.1 with ⟨⟨a, c, e⟩, rfl⟩ | ⟨b, o, c, e, _, _, hrow⟩
  · cases e
    obtain ⟨ga, gn, gc, rfl⟩ := slice_of_row hown.1
    exact ⟨_, _, _, w, run_nothing base ty _ _ _ w hown.1 na nc, by rw [List.append_nil]; exact hown, ⟨rfl, rfl, rfl, Nat.le_refl _, fun _ _ _ => rfl⟩, .inl rfl⟩
  · cases e
    obtain ⟨v', w', hr, h2, h3, h4, h5⟩ := run_append_own_at (P := Tryz.prog) w base 23 ty 9 i0 _ 1 16 Tryz.underlying23 hi hz0 hz1 hz2 rfl (by decide) _ _ _ hown.1 ⟨b, o, none⟩ names.length nc (names.map .string) (by simp) (fun j u hj => by
      rw [List.getElem?_map] at hj
      cases hx : names[j]? with
      | none => simp [hx] at hj
      | some x => simp [hx] at hj; subst hj; have hc := hrow j x hx; cases j with | zero => simpa [Addr.add] using hc | succ j => simpa [Addr.add] using hc) (fun u hu => by
      obtain ⟨x, _, rfl⟩ := List.mem_map.1 hu; rfl) (by unfold maxLen; omega) (by omega) hbase
    obtain ⟨ga, gn, gc, rfl⟩ := slice_of_row h2
    exact ⟨_, _, _, w', hr, ⟨by rw [List.length_append, List.map_append]; exact h2, hall⟩, h3, h5⟩

/-- .. at an operation of a plain region. -/
theorem wpList_app {ops : Array Oper} {rest : List Oper} {o : Oper} {a : Act} {w : World} {Q : Exit → Act → World → Prop} (hgd : o.guard = none) (s x : Operand)
    (ho : o.op = .call { callee := .builtin .append, args := #[s, x], argTypes := #[23, 23] })
    (base : Nat) (l : List ByteArray) (v : Value) (hs : a.eval s = v) (hown : Row base w v l) (B : Nat → Prop) (na : Option Addr) (nn nc : Nat) (names : List ByteArray) (hx : a.eval x = .slice na nn nc) (hnv : StrSl B w (.slice na nn nc) names) (h63 : l.length + names.length ≤ 1000000000) (hbase : base ≤ w.heap.size)
    (h : ∀ ga gn gc w', Row base w' (.slice ga gn gc) (l ++ names) → w.grownBy w' v.ownBlock → ((Value.slice ga gn gc).ownBlock = v.ownBlock ∨ (Value.slice ga gn gc).ownBlock = some w.heap.size) → wpList Tryz.prog ops Q rest (a.put o.dst (.slice ga gn gc)) w') : wpList Tryz.prog ops Q (o :: rest) a w := by
  refine wpList_plain hgd fun K hK => ?_
  obtain ⟨ga, gn, gc, w', hr, h2, h3, h4⟩ := run_app base o.type v l w hown B na nn nc names hnv h63 hbase
  unfold Oper.wp execOp
  simp only [ho, resolve, invoke, builtin, Sem.run_bind, Sem.run_pure, Result.andThen_ok, List.map_toArray, List.map_cons, List.map_nil, hs, hx, hr]
  exact hK _ _ (h ga gn gc w' h2 h3 h4)
/-- .. at a step of a region that draws its order. -/
theorem step_app {ops : Array Oper} {o : Oper} {a : Act} {w : World} {K : Act → World → Prop} {Q : Exit → Act → World → Prop} {E : Prop} (hgd : o.guard = none) (s x : Operand)
    (ho : o.op = .call { callee := .builtin .append, args := #[s, x], argTypes := #[23, 23] })
    (base : Nat) (l : List ByteArray) (v : Value) (hs : a.eval s = v) (hown : Row base w v l) (B : Nat → Prop) (na : Option Addr) (nn nc : Nat) (names : List ByteArray) (hx : a.eval x = .slice na nn nc) (hnv : StrSl B w (.slice na nn nc) names) (h63 : l.length + names.length ≤ 1000000000) (hbase : base ≤ w.heap.size)
    (m : List ByteArray) (hm : l ++ names = m)
    (h : ∀ ga gn gc w', Row base w' (.slice ga gn gc) m → w.grownBy w' v.ownBlock → K (a.put o.dst (.slice ga gn gc)) w') :
    if Region.wanted o (yielded ops a.tmps) = true then Oper.wp Tryz.prog o a w K Q else E := by
  subst hm
  have hw : Region.wanted o (yielded ops a.tmps) = true := by simp [Region.wanted, hgd]
  rw [if_pos hw]
  obtain ⟨ga, gn, gc, w', hr, h2, h3, h4⟩ := run_app base o.type v l w hown B na nn nc names hnv h63 hbase
  unfold Oper.wp execOp
  simp only [ho, resolve, invoke, builtin, Sem.run_bind, Sem.run_pure, Result.andThen_ok, List.map_toArray, List.map_cons, List.map_nil, hs, hx, hr]
  exact h ga gn gc w' h2 h3

/-! ### The names -/
theorem prefixB_eq (k : Int) : prefixB k = (decide (2 ≤ k) && decide (k ≤ 5)) := by
  unfold prefixB
  rw [Bool.eq_iff_iff]; simp; omega
/-- The names of a node, as often as they occur. -/
def Pr.ownT (p : Pr) (j : Nat) : List ByteArray := (if prefixB p.k then [p.c] else []) ++ ((p.vs.take j).filter (fun a => a.k == 1)).map (fun a => a.n)
def Pr.own (p : Pr) : List ByteArray := (if prefixB p.k then [p.c] else []) ++ (p.vs.filter (fun a => a.k == 1)).map (fun a => a.n)
theorem Pr.ownT_all {p : Pr} {j : Nat} (h : p.vs.length ≤ j) : p.ownT j = p.own := by unfold Pr.ownT Pr.own; rw [List.take_of_length_le h]
theorem Pr.ownT_yes {p : Pr} {j : Nat} {a : Vl} (h : p.vs[j]? = some a) (hk : a.k = 1) : p.ownT (j + 1) = p.ownT j ++ [a.n] := by
  unfold Pr.ownT; rw [take_snoc_get h, List.filter_append, List.map_append, ← List.append_assoc]; simp [hk]
theorem Pr.ownT_no {p : Pr} {j : Nat} {a : Vl} (h : p.vs[j]? = some a) (hk : a.k ≠ 1) : p.ownT (j + 1) = p.ownT j := by
  unfold Pr.ownT; rw [take_snoc_get h, List.filter_append, List.map_append]; simp [hk]
theorem Pr.ownT_len (p : Pr) (j : Nat) : (p.ownT j).length ≤ 1 + p.vs.length := by
  unfold Pr.ownT
  have h1 : ((p.vs.take j).filter (fun a => a.k == 1)).length ≤ p.vs.length := Nat.le_trans (List.length_filter_le _ _) (by rw [List.length_take]; omega)
  rw [List.length_append, List.length_map]
  split <;> simp <;> omega
def keepF (bd : List ByteArray) (l : List ByteArray) : List ByteArray := l.filter (fun s => !memB s bd)
theorem keepF_yes {bd l : List ByteArray} {j : Nat} {s : ByteArray} (h : l[j]? = some s) (hm : memB s bd = false) : keepF bd (l.take (j + 1)) = keepF bd (l.take j) ++ [s] := by
  unfold keepF; rw [take_snoc_get h, List.filter_append]; simp [hm]
theorem keepF_no {bd l : List ByteArray} {j : Nat} {s : ByteArray} (h : l[j]? = some s) (hm : memB s bd = true) : keepF bd (l.take (j + 1)) = keepF bd (l.take j) := by
  unfold keepF; rw [take_snoc_get h, List.filter_append]; simp [hm]
theorem keepF_len (bd l : List ByteArray) (j : Nat) : (keepF bd (l.take j)).length ≤ l.length := Nat.le_trans (List.length_filter_le _ _) (by rw [List.length_take]; omega)
mutual
/-- The names that are not bound, as often as they occur. -/
def Pr.uses : Pr → List ByteArray → List ByteArray
  | .mk k c x ls vs t ps, bd => keepF bd (Pr.mk k c x ls vs t ps).own ++ Pr.usess ps (bd ++ (Pr.mk k c x ls vs t ps).bnd)
def Pr.usess : List Pr → List ByteArray → List ByteArray
  | [], _ => []
  | p :: r, bd => p.uses bd ++ Pr.usess r bd
end
theorem Pr.uses_eq (p : Pr) (bd : List ByteArray) : p.uses bd = keepF bd p.own ++ Pr.usess p.ps (bd ++ p.bnd) := by cases p; simp only [Pr.uses, Pr.ps]
theorem Pr.usess_append (l r : List Pr) (bd : List ByteArray) : Pr.usess (l ++ r) bd = Pr.usess l bd ++ Pr.usess r bd := by
  induction l with
  | nil => simp [Pr.usess]
  | cons p l ih => rw [List.cons_append, Pr.usess, ih, Pr.usess, List.append_assoc]
theorem Pr.usess_take {l : List Pr} {j : Nat} {u : Pr} (h : l[j]? = some u) (bd : List ByteArray) : Pr.usess (l.take (j + 1)) bd = Pr.usess (l.take j) bd ++ u.uses bd := by
  rw [take_snoc_get h, Pr.usess_append]; simp [Pr.usess]
theorem Pr.own_len (p : Pr) : p.own.length ≤ 1 + p.vs.length := by
  have := p.ownT_len p.vs.length; rw [Pr.ownT_all (Nat.le_refl _)] at this; exact this
mutual
theorem Pr.uses_len : ∀ (p : Pr) (bd : List ByteArray), (p.uses bd).length ≤ p.nms
  | .mk k c x ls vs t ps, bd => by
    have h1 := Pr.usess_len ps (bd ++ (Pr.mk k c x ls vs t ps).bnd)
    have h2 := (Pr.mk k c x ls vs t ps).own_len
    have h3 : (keepF bd (Pr.mk k c x ls vs t ps).own).length ≤ (Pr.mk k c x ls vs t ps).own.length := List.length_filter_le _ _
    have h4 : (Pr.mk k c x ls vs t ps).vs.length = vs.length := rfl
    simp only [Pr.uses, Pr.nms, List.length_append]; omega
theorem Pr.usess_len : ∀ (l : List Pr) (bd : List ByteArray), (Pr.usess l bd).length ≤ Pr.nmss l
  | [], _ => by simp [Pr.usess, Pr.nmss]
  | p :: r, bd => by
    have h1 := Pr.uses_len p bd
    have h2 := Pr.usess_len r bd
    simp only [Pr.usess, Pr.nmss, List.length_append]; omega
end
/-- A name, if it is not there yet. -/
def addN (out : List ByteArray) (s : ByteArray) : List ByteArray := if memB s out then out else out ++ [s]
theorem addN_len (out : List ByteArray) (s : ByteArray) : (addN out s).length ≤ out.length + 1 := by unfold addN; split <;> simp
theorem foldN_len (l : List ByteArray) : ∀ out, (l.foldl addN out).length ≤ out.length + l.length := by
  induction l with
  | nil => intro out; simp
  | cons s r ih => intro out; rw [List.foldl_cons, List.length_cons]; have := ih (addN out s); have := addN_len out s; omega

/-- The counts and the bound names tell the same. -/
def Agree (cnt : ByteArray → Int) (bd : List ByteArray) : Prop := ∀ y, 0 ≤ cnt y ∧ (cnt y = 0 ↔ y ∉ bd)
theorem Agree.add {cnt : ByteArray → Int} {bd : List ByteArray} (h : Agree cnt bd) (s : ByteArray) : Agree (add1 cnt s) (bd ++ [s]) := fun y => by
  have hy := h y
  have hs := h s
  unfold add1
  by_cases e : y = s
  · subst e; rw [if_pos rfl]; refine ⟨by omega, ?_⟩; simp; omega
  · rw [if_neg e]; refine ⟨hy.1, ?_⟩; simp [e, hy.2]
theorem Agree.adds (l : List ByteArray) : ∀ {cnt : ByteArray → Int} {bd : List ByteArray}, Agree cnt bd → Agree (l.foldl add1 cnt) (bd ++ l) := by
  induction l with
  | nil => intro cnt bd h; simpa using h
  | cons s r ih => intro cnt bd h; rw [List.foldl_cons]; have := ih (h.add s); rwa [List.append_assoc, List.singleton_append] at this
theorem occ_addN {cnt : ByteArray → Int} {bd : List ByteArray} (h : Agree cnt bd) (out : List ByteArray) (s : ByteArray) : occ cnt out s = (keepF bd [s]).foldl addN out := by
  unfold occ keepF
  by_cases hc : cnt s = 0
  · have hm : memB s bd = false := memB_false ((h s).2.1 hc)
    simp only [hc, hm, List.filter_cons, List.filter_nil, Bool.not_false, if_true, List.foldl_cons, List.foldl_nil, true_and]
    unfold addN
    cases memB s out <;> simp
  · have hm : memB s bd = true := memB_true.2 (by
      by_cases hb : s ∈ bd
      · exact hb
      · exact absurd ((h s).2.2 hb) hc)
    simp [hc, hm]
theorem here_addN {cnt : ByteArray → Int} {bd : List ByteArray} (h : Agree cnt bd) (p : Pr) (out : List ByteArray) : p.here cnt out = (keepF bd p.own).foldl addN out := by
  have hv : ∀ (l : List Vl) (out : List ByteArray), l.foldl (occV cnt) out = (keepF bd ((l.filter (fun a => a.k == 1)).map (fun a => a.n))).foldl addN out := by
    intro l
    induction l with
    | nil => intro out; rfl
    | cons a r ih =>
      intro out
      rw [List.foldl_cons, ih]
      unfold occV
      by_cases hk : a.k = 1
      · rw [if_pos hk, occ_addN h, ← List.foldl_append]
        unfold keepF
        rw [← List.filter_append]
        simp [hk]
      · rw [if_neg hk]; simp [hk]
  unfold Pr.here Pr.own keepF
  rw [hv, List.filter_append, List.foldl_append]
  unfold keepF
  congr 1
  by_cases hp : prefixB p.k = true
  · rw [if_pos hp, if_pos hp, occ_addN h]; rfl
  · rw [if_neg hp, if_neg hp]; rfl
mutual
theorem Pr.fw_addN : ∀ (p : Pr) (cnt : ByteArray → Int) (bd out : List ByteArray), Agree cnt bd → p.fw cnt out = (p.uses bd).foldl addN out
  | .mk k c x ls vs t ps, cnt, bd, out, h => by
    rw [Pr.fw, Pr.uses, List.foldl_append, ← here_addN h, Pr.fws_addN ps _ _ _ (Agree.adds _ h)]
theorem Pr.fws_addN : ∀ (l : List Pr) (cnt : ByteArray → Int) (bd out : List ByteArray), Agree cnt bd → Pr.fws l cnt out = (Pr.usess l bd).foldl addN out
  | [], cnt, bd, out, h => by simp [Pr.fws, Pr.usess]
  | p :: r, cnt, bd, out, h => by
    rw [Pr.fws, Pr.usess, List.foldl_append, ← Pr.fw_addN p cnt bd out h, Pr.fws_addN r cnt bd _ h]
end
theorem agree_zero : Agree (fun _ => 0) [] := fun y => ⟨Int.le_refl _, by simp⟩
/-- What the program finds is what the reference finds. -/
theorem Pr.free_uses (p : Pr) : p.free = (p.uses []).foldl addN [] := Pr.fw_addN p _ _ _ agree_zero

end Go.Proofs.YtgmdmbmkljbgiaaGreatDoor

/- Scopes: visit, Calls, Binders. -/
namespace Go.Proofs.YtgmdmbmkljbgiaaGreatDoor
open Go.RowKit Go.Deep Go.Shelf

/-! ### What is gathered -/
mutual
def Pr.gath (sel : Pr → List ByteArray) : Pr → List ByteArray
  | .mk k c x ls vs t ps => sel (.mk k c x ls vs t ps) ++ Pr.gaths sel ps
def Pr.gaths (sel : Pr → List ByteArray) : List Pr → List ByteArray
  | [] => []
  | p :: r => p.gath sel ++ Pr.gaths sel r
end
theorem Pr.gath_eq (sel : Pr → List ByteArray) (p : Pr) : p.gath sel = sel p ++ Pr.gaths sel p.ps := by cases p; simp [Pr.gath, Pr.ps]
theorem Pr.gaths_append (sel : Pr → List ByteArray) (l r : List Pr) : Pr.gaths sel (l ++ r) = Pr.gaths sel l ++ Pr.gaths sel r := by
  induction l with
  | nil => simp [Pr.gaths]
  | cons p l ih => rw [List.cons_append, Pr.gaths, ih, Pr.gaths, List.append_assoc]
theorem Pr.gaths_take {sel : Pr → List ByteArray} {l : List Pr} {j : Nat} {u : Pr} (h : l[j]? = some u) : Pr.gaths sel (l.take (j + 1)) = Pr.gaths sel (l.take j) ++ u.gath sel := by
  rw [take_snoc_get h, Pr.gaths_append]; simp [Pr.gaths]
mutual
theorem Pr.gath_len {sel : Pr → List ByteArray} (h : ∀ p, (sel p).length ≤ 2) : ∀ p : Pr, (p.gath sel).length ≤ 2 * p.size
  | .mk k c x ls vs t ps => by
    have h1 := Pr.gaths_len h ps
    have h2 := h (.mk k c x ls vs t ps)
    simp only [Pr.gath, Pr.size, List.length_append]; omega
theorem Pr.gaths_len {sel : Pr → List ByteArray} (h : ∀ p, (sel p).length ≤ 2) : ∀ ps : List Pr, (Pr.gaths sel ps).length ≤ 2 * Pr.sizes ps
  | [] => by simp [Pr.gaths, Pr.sizes]
  | p :: r => by
    have h1 := Pr.gath_len h p
    have h2 := Pr.gaths_len h r
    simp only [Pr.gaths, Pr.sizes, List.length_append]; omega
end
def selC (p : Pr) : List ByteArray := if p.k = 8 then [p.c] else []
theorem selC_len (p : Pr) : (selC p).length ≤ 2 := by unfold selC; split <;> simp
theorem bnd_len2 (p : Pr) : p.bnd.length ≤ 2 := by unfold Pr.bnd; split <;> (try split) <;> simp

/-! ### The blocks -/
structure VsSt (z : Nat) (fid : FuncId) (W : World) (out : List ByteArray) : Prop where
  lbox : ∃ v, W.heap[z + 1]? = some (.cells #[v] 23 (0, 0)) ∧ Row (z + 4) W v out
  fbox : W.heap[z + 2]? = some (.cells #[.func (.func fid) #[] #[ptr (z + 1)]] 77 (0, 0))
  wbox : W.heap[z + 3]? = some (.cells #[.func (.func 55) #[] #[ptr (z + 2), ptr (z + 3)]] 77 (0, 0))
theorem VsSt.size {z : Nat} {fid : FuncId} {W : World} {out : List ByteArray} (h : VsSt z fid W out) : z + 4 ≤ W.heap.size := (Array.getElem?_eq_some_iff.1 h.wbox).1
theorem VsSt.to {z : Nat} {fid : FuncId} {W W' : World} {out : List ByteArray} (h : VsSt z fid W out) (hb : Below W.heap.size W W') : VsSt z fid W' out := by
  have hs := h.size
  obtain ⟨⟨v, h1, h2⟩, h3, h4⟩ := h
  exact ⟨⟨v, (hb.block _ (by omega)).trans h1, h2.to hb⟩, (hb.block _ (by omega)).trans h3, (hb.block _ (by omega)).trans h4⟩
theorem VsSt.cells {z : Nat} {fid : FuncId} {W : World} {out : List ByteArray} (h : VsSt z fid W out) : W.cell? ⟨z + 2, 0, none⟩ = some (.func (.func fid) #[] #[ptr (z + 1)]) ∧ W.cell? ⟨z + 3, 0, none⟩ = some (.func (.func 55) #[] #[ptr (z + 2), ptr (z + 3)]) := by
  refine ⟨?_, ?_⟩
  · simp [World.cell?, h.fbox]
  · simp [World.cell?, h.wbox]
theorem enters_visit : ∀ args w, (callFunc 55 args).run Tryz.prog w = .ok (.enter 55 args) w := enters_of Tryz.func55 (by kernel_rfl) rfl
theorem enters_calls1 : ∀ args w, (callFunc 38 args).run Tryz.prog w = .ok (.enter 38 args) w := enters_of Tryz.func38 (by kernel_rfl) rfl
theorem enters_binders1 : ∀ args w, (callFunc 39 args).run Tryz.prog w = .ok (.enter 39 args) w := enters_of Tryz.func39 (by kernel_rfl) rfl

/-- What the function that is called for each node does. -/
def VisF (z : Nat) (fid : FuncId) (S : Nat → Prop) (sel : Pr → List ByteArray) : Prop := ∀ (out : List ByteArray) (q : Pr) (b o : Nat) (W : World), VsSt z fid W out → PrAt S W q b o → out.length + 2 ≤ 1000000000 →
  Calls Tryz.prog fid #[.pointer (some ⟨b, o, none⟩), ptr (z + 1)] W fun e W' => (∃ v, e = .returned v) ∧ VsSt z fid W' (out ++ sel q) ∧ Below (z + 1) W W'
def WalkV (z : Nat) (fid : FuncId) (S : Nat → Prop) (sel : Pr → List ByteArray) (p : Pr) : Prop := ∀ (out : List ByteArray) (b o : Nat) (W : World), VsSt z fid W out → PrAt S W p b o → out.length + 2 * p.size ≤ 1000000000 →
  Calls Tryz.prog 55 #[.pointer (some ⟨b, o, none⟩), ptr (z + 2), ptr (z + 3)] W fun e W' => (∃ v, e = .returned v) ∧ VsSt z fid W' (out ++ p.gath sel) ∧ Below (z + 1) W W'

set_option maxHeartbeats 4000000 in
set_option maxRecDepth 100000 in
theorem walkV_step (z : Nat) (fid : FuncId) (S : Nat → Prop) (sel : Pr → List ByteArray) (hS : ∀ k, S k → k < z + 1) (hl : ∀ p, (sel p).length ≤ 2) (egf : ∀ args w, (callFunc fid args).run Tryz.prog w = .ok (.enter fid args) w) (hf : VisF z fid S sel) (p : Pr) (ih : ∀ u ∈ p.ps, WalkV z fid S sel u) : WalkV z fid S sel p := by
  intro out b o w hst hp hn
  obtain ⟨hSb, _, _, _, lv, av, kv, _, _, c11, _, _, hk⟩ := PrAt.eq.1 hp
  obtain ⟨ka, kn, kc, rfl, hkl, hkm, hkg⟩ := hk.open
  have hbz := hS b hSb
  have HP : Hid (∀ A, Below (z + 1) w A → PrAt S A p b o ∧ A.cell? ⟨b, o + 11, none⟩ = some (.slice ka kn kc)) := Lib.hid (fun A hA => ⟨PrAt.keep (hA.keeps'.mono hS) _ _ _ hp, (hA.cell (p := ⟨b, _, none⟩) hbz).trans c11⟩)
  have HKG : Hid (∀ (i : Nat) (u : Pr) (A : World), p.ps[i]? = some u → Below (z + 1) w A → ∃ gb go, ka = some ⟨gb, go, none⟩ ∧ gb < z + 1 ∧ PrAt S A u gb (go + i * 12)) := Lib.hid (fun i u A hi hA => by
    obtain ⟨gb, go, e, hgb, hu⟩ := hkg i u hi
    exact ⟨gb, go, e, hS gb hgb, PrAt.keep (hA.keeps'.mono hS) _ _ _ hu⟩)
  have hsize := p.size_eq
  obtain ⟨x2, _⟩ := hst.cells
  have hzs := hst.size
  have hz2 : z + 2 < w.heap.size := by omega
  have HF := Lib.hid (hf out p b o w hst hp (by have := p.size_pos; omega))
  have HN := Lib.hid (And.intro hsize hn)
  have HIH := Lib.hid ih
  have HL := Lib.hid hl
  have eg2 := enters_visit
  clear ih hst hp hn hSb c11 hk hkg hsize hf hl
  go_enter Tryz.func55, Tryz.ntmps55
  go_wp2_with fail
  refine HF.out.mono ?_
  rintro e w2 ⟨⟨vv, rfl⟩, hs2, hb2⟩
  obtain ⟨_, d11⟩ := HP.out w2 hb2
  have HS2 := Lib.hid hs2
  have HB2 := Lib.hid hb2
  have hzs2 := hs2.size
  have hb2w : b < w2.heap.size := by omega
  clear hs2 hb2 x2
  go_wp2_with fail
  clear d11
  go_loopw [13] (fun i wr => ∃ j : Nat, i = .int .i64 (j : Int) ∧ j ≤ kn ∧ Hid (VsSt z fid wr (out ++ sel p ++ Pr.gaths sel (p.ps.take j))) ∧ Hid (Below (z + 1) w wr)) (fun i _ => kn - (intOf i).toNat)
  case atStart => exact ⟨0, rfl, by omega, Lib.hid (by simpa [Pr.gaths] using HS2.out), HB2⟩
  case round =>
    obtain ⟨j, rfl, hj, HSj, HBj⟩ := hrel
    obtain ⟨wo, hwo⟩ : ∃ wo, wo = wr := ⟨_, rfl⟩
    subst hwo
    have hzo := HSj.out.size
    obtain ⟨_, d11⟩ := HP.out wo HBj.out
    have hbw : b < wo.heap.size := by omega
    by_cases hlt : j < kn
    · obtain ⟨u, huj⟩ : ∃ u, p.ps[j]? = some u := ⟨_, List.getElem?_eq_getElem (by rw [← hkl.out]; exact hlt)⟩
      obtain ⟨gb, go, rfl, hgz, hu⟩ := HKG.out j u wo.drew huj HBj.out.drew
      obtain ⟨_, x3⟩ := HSj.out.cells
      have hmem := List.mem_of_getElem? huj
      have hus := Pr.sizes_take huj
      have husl := Pr.sizes_take_le p.ps (j + 1)
      have hgl := Pr.gaths_len HL.out (p.ps.take j)
      have hpl := HL.out p
      have hnn := HN.out
      have HGT : Hid (out ++ sel p ++ Pr.gaths sel (p.ps.take (j + 1)) = (out ++ sel p ++ Pr.gaths sel (p.ps.take j)) ++ u.gath sel) := Lib.hid (by rw [Pr.gaths_take huj]; simp only [List.append_assoc])
      have HIU := Lib.hid (HIH.out u hmem (out ++ sel p ++ Pr.gaths sel (p.ps.take j)) gb (go + j * 12) wo.drew (HSj.out.to (Below.refl _ _).drew) hu (by simp only [List.length_append]; omega))
      have hgw : gb < wo.heap.size := by omega
      have hz3 : z + 3 < wo.heap.size := by omega
      clear huj hu hmem hus husl hgl hpl hnn
      go_wp2_with fail
      go_region_with (go_at_call 55; refine HIU.out.mono ?_; rintro e w9 ⟨⟨vv, rfl⟩, hs9, hb9⟩; replace hs9 := Lib.hid hs9; replace hb9 := Lib.hid hb9)
      all_goals
        go_wp2_with fail
        go_roundw
        case rel => exact ⟨j + 1, by go_num, by omega, Lib.hid (by rw [HGT.out]; exact hs9.out), Lib.hid (HBj.out.drew.trans hb9.out)⟩
        case measure => simp [intOf]; omega
    · obtain rfl : kn = j := by omega
      have HFI : Hid (VsSt z fid wo (out ++ p.gath sel)) := Lib.hid (by
        have h := HSj.out
        rw [List.take_of_length_le (by rw [hkl.out]; exact Nat.le_refl _)] at h
        rw [Pr.gath_eq, ← List.append_assoc]; exact h)
      go_wp2_with fail
      go_end0
      exact ⟨⟨_, rfl⟩, HFI.out, HBj.out⟩

theorem walkV_any (z : Nat) (fid : FuncId) (S : Nat → Prop) (sel : Pr → List ByteArray) (hS : ∀ k, S k → k < z + 1) (hl : ∀ p, (sel p).length ≤ 2) (egf : ∀ args w, (callFunc fid args).run Tryz.prog w = .ok (.enter fid args) w) (hf : VisF z fid S sel) : ∀ p : Pr, WalkV z fid S sel p := by
  refine Pr.ind ?_
  intro k c x ls vs t ps ih
  exact walkV_step z fid S sel hS hl egf hf (.mk k c x ls vs t ps) ih

/-- The world in which visit begins to walk. -/
def VsMade (w : World) (o : Obj) (fid : FuncId) : World := ((((w.alloc o).alloc (.cells #[.slice none 0 0] 23)).alloc (.cells #[.func (.func fid) #[] #[.pointer (some ⟨w.heap.size + 1, 0, none⟩)]] 77)).alloc (.cells #[.func (.func 55) #[] #[.pointer (some ⟨w.heap.size + 1 + 1, 0, none⟩), .pointer (some ⟨w.heap.size + 1 + 1 + 1, 0, none⟩)]] 77))
theorem vsMade (w : World) (o : Obj) (fid : FuncId) : VsSt w.heap.size fid (VsMade w o fid) [] ∧ Below (w.heap.size + 1) (w.alloc o) (VsMade w o fid) := by
  refine ⟨⟨⟨.slice none 0 0, ?_, Row.nil _ _⟩, ?_, ?_⟩, ?_⟩
  · unfold VsMade; simp only [World.alloc, Array.getElem?_push, Array.size_push]; simp
  · unfold VsMade; simp only [World.alloc, Array.getElem?_push, Array.size_push]; simp
  · unfold VsMade; simp only [World.alloc, Array.getElem?_push, Array.size_push]; simp
  · unfold VsMade; exact (((Below.refl _ _).alloc (by simp) _).alloc (by simp; try omega) _).alloc (by simp; try omega) _

end Go.Proofs.YtgmdmbmkljbgiaaGreatDoor

/- Scopes: the functions that Calls and Binders call for each node; Find. -/
namespace Go.Proofs.YtgmdmbmkljbgiaaGreatDoor
open Go.RowKit Go.Deep Go.Shelf

theorem vsSt_put {z : Nat} {fid : FuncId} {W W5 : World} {out out' : List ByteArray} {v v' : Value} (h : VsSt z fid W out) (hb : ∀ k, k < z + 4 → W5.heap[k]? = W.heap[k]?) (hv : W.heap[z + 1]? = some (.cells #[v] 23 (0, 0))) (hrow : Row (z + 4) W5 v' out') :
    VsSt z fid (W5.setCell ⟨z + 1, 0, none⟩ v') out' := by
  have k1 : W5.heap[z + 1]? = some (.cells #[v] 23 (0, 0)) := (hb _ (by omega)).trans hv
  have hne : ∀ k, k ≠ z + 1 → (W5.setCell ⟨z + 1, 0, none⟩ v').heap[k]? = W5.heap[k]? := fun k hk => by
    show (W5.heap.modify (z + 1) _)[k]? = _
    rw [Array.getElem?_modify, if_neg (fun e => hk e.symm)]
  refine ⟨⟨v', set_block k1 0 _, hrow.kept (fun k hk => hne k (by have := (hrow.lt k hk).1; omega))⟩, (hne _ (by omega)).trans ((hb _ (by omega)).trans h.fbox), (hne _ (by omega)).trans ((hb _ (by omega)).trans h.wbox)⟩

set_option maxHeartbeats 4000000 in
set_option maxRecDepth 100000 in
theorem calls1_any (z : Nat) (S : Nat → Prop) (hS : ∀ k, S k → k < z + 1) : VisF z 38 S selC := by
  intro out q b o W hst hq hn
  obtain ⟨hSb, ⟨hcz, hxz⟩, ⟨c0, c1, c2⟩, _⟩ := PrAt.eq.1 hq
  have hbz := hS b hSb
  have hzs := hst.size
  have hbw : b < W.heap.size := by omega
  unfold selC
  by_cases h8 : q.k = 8
  · rw [if_pos h8]
    rw [h8] at c0
    obtain ⟨v, hv, hrow⟩ := hst.lbox
    obtain ⟨sa, sn, sc, rfl⟩ := slice_of_row hrow.1
    have HSK : Hid (∀ X, Below W.heap.size W X → X.cell? ⟨z + 1, 0, none⟩ = some (.slice sa sn sc) ∧ X.cell? ⟨b, o + 1, none⟩ = some (.string q.c)) := Lib.hid (fun X hX => ⟨(hX.cell (p := ⟨z + 1, _, none⟩) (by simp only; omega)).trans (by simp [World.cell?, hv]), (hX.cell (p := ⟨b, _, none⟩) hbw).trans c1⟩)
    have HROW := Lib.hid hrow
    have HV := Lib.hid hv
    have HST := Lib.hid hst
    have HCZ := Lib.hid hcz
    have hl0 : out.length + [q.c].length ≤ 1000000000 := by simp; omega
    have e1 := HSK.out W (Below.refl _ _)
    obtain ⟨x1, x2⟩ := e1
    have hz1 : z + 1 < W.heap.size := by omega
    clear hst hq hSb h8 hv hrow hcz hxz c1 c2
    go_enter Tryz.func38, Tryz.ntmps38
    go_wp2_with fail
    go_region_law
      (first
        | (refine step_app (by rfl) _ _ (by rfl) (z + 4) out (.slice sa sn sc) ?_ ?_ (Fresh W.heap.size (W.drew.alloc (.cells #[.string q.c] 9)).heap.size) (some ⟨W.heap.size, 0, none⟩) 1 1 [q.c] ?_ ?_ hl0 ?_ (out ++ [q.c]) rfl ?_
           · rfl
           · exact (HROW.out.drew.alloc _)
           · rfl
           · exact strSl_made (w := W.drew) [q.c] (Below.refl _ _) (fun s hs => by rw [List.mem_singleton.1 hs]; exact HCZ.out) (by simp [maxLen])
           · (simp; omega)
           intro ga gn gc W5 hrow5 hgrow5
           have hk5 : ∀ k, k < z + 4 → W5.heap[k]? = W.heap[k]? := fun k hk => (hgrow5.block k (by simp; omega) (fun e => by have := (HROW.out.lt k e.symm).1; omega)).trans (Below.heap_alloc W.drew _ k (by simp; omega))
           have h51 : W5.heap[z + 1]? = some (.cells #[.slice sa sn sc] 23 (0, 0)) := (hk5 _ (by omega)).trans HV.out
           have v2 := Boxed.cell h51
           have f2 := Boxed.frozen h51
           have HS5 : Hid (W5.cell? ⟨z + 1, 0, none⟩ = some (.slice sa sn sc) ∧ W5.cell? ⟨b, o + 1, none⟩ = some (.string q.c)) := Lib.hid ⟨v2, by
             have h := (HSK.out W (Below.refl _ _)).2
             unfold World.cell? at h ⊢
             rw [hk5 b (by omega)]; exact h⟩
           have HK5 := Lib.hid hk5
           have HR5 := Lib.hid hrow5
           have HB5 := Lib.hid ((((Below.refl (z + 1) W).drew.alloc (by simp; omega) (.cells #[.string q.c] 9))).grown hgrow5 (by simp; omega) (fun k e => by have := (HROW.out.lt k e).1; omega))
           clear hk5 h51 hrow5 hgrow5)
        | fail)
    all_goals
      go_wp2_with fail
      go_end0
      exact ⟨⟨_, rfl⟩, vsSt_put HST.out HK5.out HV.out HR5.out, HB5.out.setCell (p := ⟨z + 1, 0, none⟩) (by simp) _⟩
  · rw [if_neg h8, List.append_nil]
    have h8' : (q.k == 8) = false := by simpa using h8
    have HST := Lib.hid hst
    clear hst hq hSb h8 c1 c2
    go_enter Tryz.func38, Tryz.ntmps38
    go_wp2_with fail
    go_end0
    exact ⟨⟨_, rfl⟩, HST.out, Below.refl _ _⟩

end Go.Proofs.YtgmdmbmkljbgiaaGreatDoor

/- Scopes: what Binders calls for each node; Calls, Binders, Find. -/
namespace Go.Proofs.YtgmdmbmkljbgiaaGreatDoor
open Go.RowKit Go.Deep Go.Shelf

set_option maxHeartbeats 4000000 in
set_option maxRecDepth 100000 in
theorem binders1_any (z : Nat) (S : Nat → Prop) (hS : ∀ k, S k → k < z + 1) : VisF z 39 S Pr.bnd := by
  intro out q b o W hst hq hn
  have hzs := hst.size
  obtain ⟨v, hv, hrow⟩ := hst.lbox
  obtain ⟨sa, sn, sc, rfl⟩ := slice_of_row hrow.1
  have x1 : W.cell? ⟨z + 1, 0, none⟩ = some (.slice sa sn sc) := by simp [World.cell?, hv]
  have hz1 : z + 1 < W.heap.size := by omega
  have hlw : Low S W := fun k hk => by have := hS k hk; omega
  have HBD := Lib.hid (bound_any S q b o W.drew (fun k hk => hlw k hk) (PrAt.keep ((((Below.refl W.heap.size W).drew).keeps').mono hlw) _ _ _ hq))
  have HROW := Lib.hid hrow
  have HV := Lib.hid hv
  have HST := Lib.hid hst
  have hl0 : out.length + q.bnd.length ≤ 1000000000 := by have := bnd_len2 q; omega
  clear hst hq hv hrow hlw
  go_enter Tryz.func39, Tryz.ntmps39
  go_wp2_with fail
  go_region_law
    (first
      | (go_simp; go_at_call 40; refine HBD.out.mono ?_; rintro e w2 ⟨la, ln, lc, rfl, hsl, hb2⟩
         have y1 := (hb2.cell (p := ⟨z + 1, 0, none⟩) (by simpa using hz1)).trans x1
         have HSL := Lib.hid hsl
         have HB2 := Lib.hid hb2
         have hz2 : z + 4 ≤ w2.heap.size := by have := hb2.size; simp at this; omega
         clear hsl hb2)
      | (refine step_app (by rfl) _ _ (by rfl) (z + 4) out (.slice sa sn sc) ?_ ?_ (Fresh W.drew.heap.size w2.heap.size) la ln lc q.bnd ?_ ?_ hl0 ?_ (out ++ q.bnd) rfl ?_
         · rfl
         · exact HROW.out.drew.to HB2.out
         · rfl
         · exact HSL.out
         · exact hz2
         intro ga gn gc W5 hrow5 hgrow5
         have hk5 : ∀ k, k < z + 4 → W5.heap[k]? = W.heap[k]? := fun k hk => (hgrow5.block k (by omega) (fun e => by have := (HROW.out.lt k e.symm).1; omega)).trans (HB2.out.block k (by simp; omega))
         have h51 : W5.heap[z + 1]? = some (.cells #[.slice sa sn sc] 23 (0, 0)) := (hk5 _ (by omega)).trans HV.out
         have v2 := Boxed.cell h51
         have f2 := Boxed.frozen h51
         have HK5 := Lib.hid hk5
         have HR5 := Lib.hid hrow5
         have HB5 := Lib.hid (((Below.refl (z + 1) W).drew.trans (HB2.out.mono (by simp; omega))).grown hgrow5 (by omega) (fun k e => by have := (HROW.out.lt k e).1; omega))
         clear hk5 h51 hrow5 hgrow5)
      | fail)
  all_goals
    go_wp2_with fail
    go_end0
    exact ⟨⟨_, rfl⟩, vsSt_put HST.out HK5.out HV.out HR5.out, HB5.out.setCell (p := ⟨z + 1, 0, none⟩) (by simp) _⟩

theorem scalls_at' {P : Program} {f : FuncId} {vs : Array Value} {Q : Ending → World → Prop} {W W0 : World} (h : W = W0) (k : Calls P f vs W0 Q) : Calls P f vs W Q := by rw [h]; exact k
/-- What a gathering function gives. -/
theorem gather_ret {w : World} {o : Obj} {fid : FuncId} {W' : World} {out : List ByteArray} (h : VsSt w.heap.size fid W' out) (hb : Below (w.heap.size + 1) (VsMade w o fid) W') (hl : out.length ≤ maxLen) :
    ∃ a n c, W'.cell? ⟨w.heap.size + 1, 0, none⟩ = some (.slice a n c) ∧ StrSl (Fresh w.heap.size W'.heap.size) W' (.slice a n c) out ∧ Below w.heap.size w W' := by
  obtain ⟨v, h1, h2⟩ := h.lbox
  obtain ⟨⟨a, n, c, rfl⟩, hs⟩ := h2.strs hl
  refine ⟨a, n, c, by simp [World.cell?, h1], hs.mono (fun k hk => ⟨by have := hk.1; omega, hk.2⟩), ?_⟩
  exact (((Below.refl w.heap.size w).alloc (Nat.le_refl _) o).trans ((vsMade w o fid).2.mono (by omega))).trans (hb.mono (by omega))

set_option maxHeartbeats 4000000 in
set_option maxRecDepth 100000 in
theorem visit_any (fid : FuncId) (S : Nat → Prop) (sel : Pr → List ByteArray) (hl : ∀ p, (sel p).length ≤ 2) (egf : ∀ args w, (callFunc fid args).run Tryz.prog w = .ok (.enter fid args) w) (w : World) (o : Obj) (hS : ∀ k, S k → k < w.heap.size + 1) (hf : VisF w.heap.size fid S sel) (p : Pr) (hsz : p.size ≤ 1000000)
    (W1 : World) (h1 : (w.alloc o).alloc (.cells #[.slice none 0 0] 23) = W1) (hp : PrAt S (VsMade w o fid) p w.heap.size 0) :
    Calls Tryz.prog 37 #[.pointer (some ⟨w.heap.size, 0, none⟩), .func (.func fid) #[] #[.pointer (some ⟨w.heap.size + 1, 0, none⟩)]] W1 fun e W' => (∃ v, e = .returned v) ∧ VsSt w.heap.size fid W' (p.gath sel) ∧ Below (w.heap.size + 1) (VsMade w o fid) W' := by
  have hs1 : W1.heap.size = w.heap.size + 1 + 1 := by rw [← h1]; simp
  have hm : (W1.alloc (.cells #[.func (.func fid) #[] #[.pointer (some ⟨w.heap.size + 1, 0, none⟩)]] 77)).alloc (.cells #[.func (.func 55) #[] #[.pointer (some ⟨W1.heap.size, 0, none⟩), .pointer (some ⟨W1.heap.size + 1, 0, none⟩)]] 77) = VsMade w o fid := by
    rw [hs1, ← h1]; rfl
  have HWK := Lib.hid (walkV_any w.heap.size fid S sel hS hl egf hf p [] w.heap.size 0 _ (vsMade w o fid).1 hp (by simp; omega))
  have HM := Lib.hid hm
  have HS1 : Hid (W1.heap.size = w.heap.size + 2) := Lib.hid hs1
  have eg2 := enters_visit
  have hsf : ∀ (w : World) (a : Addr) (m : Mode) (f : Fn) (t : Array Value) (b : Array Value), (store a (.func f t b) m).run Tryz.prog w = stored Tryz.prog w a (.func f t b) m := fun w a m f t b => run_store _ w a _ m rfl
  clear hS hf hp hs1 hm h1 hsz hl
  obtain ⟨W0, hW0⟩ : ∃ W0, VsMade w o fid = W0 := ⟨_, rfl⟩
  rw [hW0] at HWK HM ⊢
  clear hW0
  go_enter Tryz.func37, Tryz.ntmps37
  go_wp2_with fail
  refine scalls_at' HM.out ?_
  rw [HS1.out]
  refine HWK.out.mono ?_
  rintro e w2 ⟨⟨vv, rfl⟩, hs2, hb2⟩
  have HS2 := Lib.hid (And.intro hs2 hb2)
  clear hs2 hb2
  go_wp2_with fail
  go_end0
  exact ⟨⟨_, rfl⟩, by simpa using HS2.out.1, HS2.out.2⟩

set_option maxHeartbeats 4000000 in
set_option maxRecDepth 100000 in
theorem calls_any (B : Nat → Prop) (p : Pr) (hsz : p.size ≤ 1000000) (v : Value) (w : World) (hB : Low B w) (hv : PrVal B w v p) :
    Calls Tryz.prog 19 #[v] w (StrRet w (p.gath selC)) := by
  have hv' := hv
  obtain ⟨lv, av, tl, tk, kv, rfl, _⟩ := hv'
  obtain ⟨⟨la, ln, lc, rfl⟩, ⟨aa, an, ac, rfl⟩, ⟨ta, tn, tc, rfl⟩, ⟨ua, un, uc, rfl⟩, ka, kn, kc, rfl⟩ := pr_slices hv
  obtain ⟨hst, hbel⟩ := vsMade w (cell12 p (.slice la ln lc) (.slice aa an ac) (.slice ta tn tc) (.slice ua un uc) (.slice ka kn kc)) 38
  have hp := boxed_prAt (S := fun k => B k ∨ k = w.heap.size) hB hv hbel (fun k h => .inl h) (.inr rfl)
  have hS : ∀ k, (B k ∨ k = w.heap.size) → k < w.heap.size + 1 := fun k h => h.elim (fun h => by have := hB k h; omega) (fun h => by omega)
  have HVI := Lib.hid (visit_any 38 _ selC selC_len enters_calls1 w _ hS (calls1_any w.heap.size _ hS) p hsz _ rfl hp)
  have hlen := Pr.gath_len selC_len p
  have hl : (p.gath selC).length ≤ maxLen := by unfold maxLen; omega
  have HL := Lib.hid hl
  clear hst hbel hp hv hB hS hsz hlen hl
  go_enter Tryz.func19, Tryz.ntmps19
  go_wp2_with fail
  refine HVI.out.mono ?_
  rintro e w2 ⟨⟨vv, rfl⟩, hs2, hb2⟩
  obtain ⟨a, n, c, c1, hsl, hbb⟩ := gather_ret hs2 hb2 HL.out
  have HSL := Lib.hid (And.intro hsl hbb)
  clear hs2 hb2 hsl hbb
  go_wp2_with fail
  go_ret
  exact ⟨_, _, _, rfl, HSL.out.1, HSL.out.2⟩

set_option maxHeartbeats 4000000 in
set_option maxRecDepth 100000 in
theorem sbinders_any (B : Nat → Prop) (p : Pr) (hsz : p.size ≤ 1000000) (v : Value) (w : World) (hB : Low B w) (hv : PrVal B w v p) :
    Calls Tryz.prog 20 #[v] w (StrRet w (p.gath Pr.bnd)) := by
  have hv' := hv
  obtain ⟨lv, av, tl, tk, kv, rfl, _⟩ := hv'
  obtain ⟨⟨la, ln, lc, rfl⟩, ⟨aa, an, ac, rfl⟩, ⟨ta, tn, tc, rfl⟩, ⟨ua, un, uc, rfl⟩, ka, kn, kc, rfl⟩ := pr_slices hv
  obtain ⟨hst, hbel⟩ := vsMade w (cell12 p (.slice la ln lc) (.slice aa an ac) (.slice ta tn tc) (.slice ua un uc) (.slice ka kn kc)) 39
  have hp := boxed_prAt (S := fun k => B k ∨ k = w.heap.size) hB hv hbel (fun k h => .inl h) (.inr rfl)
  have hS : ∀ k, (B k ∨ k = w.heap.size) → k < w.heap.size + 1 := fun k h => h.elim (fun h => by have := hB k h; omega) (fun h => by omega)
  have HVI := Lib.hid (visit_any 39 _ Pr.bnd bnd_len2 enters_binders1 w _ hS (binders1_any w.heap.size _ hS) p hsz _ rfl hp)
  have hlen := Pr.gath_len bnd_len2 p
  have hl : (p.gath Pr.bnd).length ≤ maxLen := by unfold maxLen; omega
  have HL := Lib.hid hl
  clear hst hbel hp hv hB hS hsz hlen hl
  go_enter Tryz.func20, Tryz.ntmps20
  go_wp2_with fail
  refine HVI.out.mono ?_
  rintro e w2 ⟨⟨vv, rfl⟩, hs2, hb2⟩
  obtain ⟨a, n, c, c1, hsl, hbb⟩ := gather_ret hs2 hb2 HL.out
  have HSL := Lib.hid (And.intro hsl hbb)
  clear hs2 hb2 hsl hbb
  go_wp2_with fail
  go_ret
  exact ⟨_, _, _, rfl, HSL.out.1, HSL.out.2⟩


end Go.Proofs.YtgmdmbmkljbgiaaGreatDoor

/- Scopes: Find, by the program and by the reference. -/
namespace Go.Proofs.YtgmdmbmkljbgiaaGreatDoor
open Go.RowKit Go.Deep Go.Shelf

def nameAt (ds : List Df) (s : ByteArray) (i : Nat) : Bool := match ds[i]? with
  | some d => decide (d.n = s)
  | none => false
/-- The first definition with a name. -/
def fdI (ds : List Df) (s : ByteArray) : Option Nat := (List.range ds.length).find? (nameAt ds s)
theorem nameAt_some {ds : List Df} {s : ByteArray} {i : Nat} {d : Df} (h : ds[i]? = some d) : nameAt ds s i = decide (d.n = s) := by unfold nameAt; rw [h]
def fdZ (r : Option Nat) : Int := match r with
  | some i => (i : Int)
  | none => -1

set_option maxHeartbeats 2000000 in
set_option maxRecDepth 100000 in
theorem find_any (B : Nat → Prop) (g : Pg) (s : ByteArray) (v : Value) (w : World) (hB : Low B w) (hv : PgVal B w v g) (r : Option Nat) (hr : fdI g.ds s = r) :
    Calls Tryz.prog 17 #[v, .string s] w fun e w' => e = .returned (.tuple #[.int .i64 ((r.getD 0 : Nat) : Int), .bool r.isSome]) ∧ Below w.heap.size w w' := by
  obtain ⟨dv, lv, av, tl, tk, kv, rfl, hd, hp⟩ := hv
  obtain ⟨⟨la, ln, lc, rfl⟩, ⟨aa, an, ac, rfl⟩, ⟨ta, tn, tc, rfl⟩, ⟨ua, un, uc, rfl⟩, ka, kn, kc, rfl⟩ := pr_slices hp
  obtain ⟨pa, len, c, rfl, hlen, hmx, hget⟩ := hd.open
  have CZ : Hid (∀ W, Below (w.heap.size + 1) (w.alloc (cell13 g (.slice pa len c) (.slice la ln lc) (.slice aa an ac) (.slice ta tn tc) (.slice ua un uc) (.slice ka kn kc))) W → W.cell? ⟨w.heap.size, 0, none⟩ = some (.slice pa len c) ∧ Below w.heap.size w W) := Lib.hid (fun W hW => ⟨blk_cell hW 0 rfl, blk_below hW⟩)
  have HG : Hid (∀ (j : Nat) (d : Df), g.ds[j]? = some d → ∃ kb ko, pa = some ⟨kb, ko, none⟩ ∧ ∀ W, Below w.heap.size w W → W.cell? ⟨kb, ko + j * 14, none⟩ = some (.string d.n)) := Lib.hid (fun j d hj => by
    obtain ⟨kb, ko, e, hkb, ha⟩ := hget j d hj
    exact ⟨kb, ko, e, fun W hW => (hW.cell (p := ⟨kb, _, none⟩) (hB kb hkb)).trans ha.2.1⟩)
  have HR := Lib.hid hr
  have HB0 := Lib.hid (Below.refl (w.heap.size + 1) (w.alloc (cell13 g (.slice pa len c) (.slice la ln lc) (.slice aa an ac) (.slice ta tn tc) (.slice ua un uc) (.slice ka kn kc))))
  clear hd hp hget hB hr
  go_enter Tryz.func17, Tryz.ntmps17
  go_wp2_with fail
  go_loopw [10] (fun i wr => ∃ j : Nat, i = .int .i64 (j : Int) ∧ j ≤ len ∧ Hid (∀ k, k < j → nameAt g.ds s k = false) ∧ Hid (Below (w.heap.size + 1) (w.alloc (cell13 g (.slice pa len c) (.slice la ln lc) (.slice aa an ac) (.slice ta tn tc) (.slice ua un uc) (.slice ka kn kc))) wr)) (fun i _ => len - (intOf i).toNat)
  case atStart => exact ⟨0, rfl, by omega, Lib.hid (fun k hk => by omega), HB0⟩
  case round =>
    obtain ⟨j, rfl, hj, HT, HBj⟩ := hrel
    obtain ⟨cz, _⟩ := CZ.out wr HBj.out
    by_cases hlt : j < len
    · obtain ⟨d, hd⟩ : ∃ d, g.ds[j]? = some d := ⟨_, List.getElem?_eq_getElem (by rw [← hlen.out]; exact hlt)⟩
      obtain ⟨kb, ko, rfl, hc⟩ := HG.out j d hd
      have c0 := hc wr (CZ.out wr HBj.out).2
      have HNA : Hid (nameAt g.ds s j = decide (d.n = s)) := Lib.hid (nameAt_some hd)
      have HJ : Hid (j < g.ds.length) := Lib.hid (List.getElem?_eq_some_iff.1 hd).1
      clear hd hc
      by_cases he : d.n = s
      · have HRR : Hid (r = some j) := Lib.hid (by rw [← HR.out]; exact range_find HJ.out HT.out (by rw [HNA.out]; simpa using he))
        rw [he] at c0
        clear he
        go_wp2_with fail
        go_ret2
        exact ⟨by rw [HRR.out]; rfl, (CZ.out wr HBj.out).2⟩
      · have h1 := str_ne he
        have h2 : (d.n.toList == s.toList) = false := by simpa using h1
        have HT' : Hid (∀ k, k < j + 1 → nameAt g.ds s k = false) := Lib.hid (fun k hk => by
          rcases Nat.lt_succ_iff_lt_or_eq.1 hk with h | rfl
          · exact HT.out k h
          · rw [HNA.out]; simpa using he)
        clear he
        go_wp2_with fail
        go_roundw
        case rel => exact ⟨j + 1, by go_num, by omega, HT', HBj⟩
        case measure => simp [intOf]; omega
    · obtain rfl : j = len := by omega
      have HRR : Hid (r = none) := Lib.hid (by rw [← HR.out]; exact range_find_none (fun i hi => HT.out i (by rw [hlen.out]; exact hi)))
      clear cz
      go_wp2_with fail
      go_ret2
      exact ⟨by rw [HRR.out]; rfl, (CZ.out wr HBj.out).2⟩

set_option maxHeartbeats 2000000 in
set_option maxRecDepth 100000 in
theorem rfind_any (B : Nat → Prop) (g : Pg) (s : ByteArray) (v : Value) (w : World) (hB : Low B w) (hv : PgVal B w v g) (x : Int) (hr : fdZ (fdI g.ds s) = x) :
    Calls Tryz.prog 13 #[v, .string s] w fun e w' => e = .returned (.int .i64 x) ∧ Below w.heap.size w w' := by
  obtain ⟨dv, lv, av, tl, tk, kv, rfl, hd, hp⟩ := hv
  obtain ⟨⟨la, ln, lc, rfl⟩, ⟨aa, an, ac, rfl⟩, ⟨ta, tn, tc, rfl⟩, ⟨ua, un, uc, rfl⟩, ka, kn, kc, rfl⟩ := pr_slices hp
  obtain ⟨pa, len, c, rfl, hlen, hmx, hget⟩ := hd.open
  have CZ : Hid (∀ W, Below (w.heap.size + 1) (w.alloc (cell13 g (.slice pa len c) (.slice la ln lc) (.slice aa an ac) (.slice ta tn tc) (.slice ua un uc) (.slice ka kn kc))) W → W.cell? ⟨w.heap.size, 0, none⟩ = some (.slice pa len c) ∧ Below w.heap.size w W) := Lib.hid (fun W hW => ⟨blk_cell hW 0 rfl, blk_below hW⟩)
  have HG : Hid (∀ (j : Nat) (d : Df), g.ds[j]? = some d → ∃ kb ko, pa = some ⟨kb, ko, none⟩ ∧ ∀ W, Below w.heap.size w W → W.cell? ⟨kb, ko + j * 14, none⟩ = some (.string d.n)) := Lib.hid (fun j d hj => by
    obtain ⟨kb, ko, e, hkb, ha⟩ := hget j d hj
    exact ⟨kb, ko, e, fun W hW => (hW.cell (p := ⟨kb, _, none⟩) (hB kb hkb)).trans ha.2.1⟩)
  have HR := Lib.hid hr
  have HB0 := Lib.hid (Below.refl (w.heap.size + 1) (w.alloc (cell13 g (.slice pa len c) (.slice la ln lc) (.slice aa an ac) (.slice ta tn tc) (.slice ua un uc) (.slice ka kn kc))))
  clear hd hp hget hB hr
  go_enter Tryz.func13, Tryz.ntmps13
  go_wp2_with fail
  go_loopw [5] (fun i wr => ∃ j : Nat, i = .int .i64 (j : Int) ∧ j ≤ len ∧ Hid (∀ k, k < j → nameAt g.ds s k = false) ∧ Hid (Below (w.heap.size + 1) (w.alloc (cell13 g (.slice pa len c) (.slice la ln lc) (.slice aa an ac) (.slice ta tn tc) (.slice ua un uc) (.slice ka kn kc))) wr)) (fun i _ => len - (intOf i).toNat)
  case atStart => exact ⟨0, rfl, by omega, Lib.hid (fun k hk => by omega), HB0⟩
  case round =>
    obtain ⟨j, rfl, hj, HT, HBj⟩ := hrel
    obtain ⟨cz, _⟩ := CZ.out wr HBj.out
    by_cases hlt : j < len
    · obtain ⟨d, hd⟩ : ∃ d, g.ds[j]? = some d := ⟨_, List.getElem?_eq_getElem (by rw [← hlen.out]; exact hlt)⟩
      obtain ⟨kb, ko, rfl, hc⟩ := HG.out j d hd
      have c0 := hc wr (CZ.out wr HBj.out).2
      have HNA : Hid (nameAt g.ds s j = decide (d.n = s)) := Lib.hid (nameAt_some hd)
      have HJ : Hid (j < g.ds.length) := Lib.hid (List.getElem?_eq_some_iff.1 hd).1
      clear hd hc
      by_cases he : d.n = s
      · have HRR : Hid (x = (j : Int)) := Lib.hid (by rw [← HR.out, show fdI g.ds s = some j from range_find HJ.out HT.out (by rw [HNA.out]; simpa using he)]; rfl)
        rw [he] at c0
        clear he
        go_wp2_with fail
        go_ret
        exact ⟨by rw [HRR.out]; rfl, (CZ.out wr HBj.out).2⟩
      · have h1 := str_ne he
        have h2 : (d.n.toList == s.toList) = false := by simpa using h1
        have HT' : Hid (∀ k, k < j + 1 → nameAt g.ds s k = false) := Lib.hid (fun k hk => by
          rcases Nat.lt_succ_iff_lt_or_eq.1 hk with h | rfl
          · exact HT.out k h
          · rw [HNA.out]; simpa using he)
        clear he
        go_wp2_with fail
        go_roundw
        case rel => exact ⟨j + 1, by go_num, by omega, HT', HBj⟩
        case measure => simp [intOf]; omega
    · obtain rfl : j = len := by omega
      have HRR : Hid (x = -1) := Lib.hid (by rw [← HR.out, show fdI g.ds s = none from range_find_none (fun i hi => HT.out i (by rw [hlen.out]; exact hi))]; rfl)
      go_wp2_with fail
      go_ret
      exact ⟨by rw [HRR.out]; rfl, (CZ.out wr HBj.out).2⟩

end Go.Proofs.YtgmdmbmkljbgiaaGreatDoor

/- Processes: slices.Clone at the three kinds of lists. -/
namespace Go.Proofs.YtgmdmbmkljbgiaaGreatDoor
open Go.RowKit Go.Deep

theorem list_of {α : Type} (Q : Nat → α → Prop) : ∀ n : Nat, (∀ i, i < n → ∃ x, Q i x) → ∃ ls : List α, ls.length = n ∧ ∀ i x, ls[i]? = some x → Q i x
  | 0, _ => ⟨[], rfl, fun i x h => by simp at h⟩
  | n + 1, h => by
    obtain ⟨ls, hl, hq⟩ := list_of Q n (fun i hi => h i (by omega))
    obtain ⟨x, hx⟩ := h n (by omega)
    refine ⟨ls ++ [x], by simp [hl], fun i y hy => ?_⟩
    by_cases hi : i < ls.length
    · rw [List.getElem?_append_left hi] at hy; exact hq i y hy
    · rw [List.getElem?_append_right (by omega)] at hy
      rcases Nat.eq_zero_or_pos (i - ls.length) with h0 | h0
      · rw [h0] at hy
        simp at hy
        subst hy
        have : i = n := by omega
        subst this
        exact hx
      · rw [List.getElem?_eq_none (by simp; omega)] at hy; cases hy

theorem valInfo : (Tryz.prog.info? 53).map (fun i => (i.zero, i.size, i.bytes)) = some (some (.agg #[.int .i64 0, .string ⟨#[]⟩, .int .i64 0]), 3, 32) := by kernel_rfl
theorem procInfo : (Tryz.prog.info? 30).map (fun i => (i.zero, i.size, i.bytes)) = some (some (.agg #[.int .i64 0, .string ⟨#[]⟩, .string ⟨#[]⟩, .slice none 0 0, .slice none 0 0, .int .i64 0, .int .i64 0, .string ⟨#[]⟩, .int .i64 0, .slice none 0 0, .slice none 0 0, .slice none 0 0]), 12, 200) := by kernel_rfl
theorem strInfoC : (Tryz.prog.info? 9).map (fun i => (i.zero, i.size, i.bytes)) = some (some (.string ⟨#[]⟩), 1, 16) := by kernel_rfl
theorem eqVl (a : Option Addr) (l c : Nat) (w : World) : (binOp .eql 24 (.slice a l c) (.slice none 0 0)).run Tryz.prog w = .ok (.bool a.isNone) w := Lib.run_eql_slice_nil w 24 53 a l c 0 0 Tryz.underlying24
theorem eqPr (a : Option Addr) (l c : Nat) (w : World) : (binOp .eql 28 (.slice a l c) (.slice none 0 0)).run Tryz.prog w = .ok (.bool a.isNone) w := Lib.run_eql_slice_nil w 28 30 a l c 0 0 Tryz.underlying28

/-- A row that is a copy of the cells at an address. -/
def Cloned (w : World) (e : TypeId) (size : Nat) (n : Nat) (news : List Value) (en : Ending) (w' : World) : Prop :=
  ∃ g cap, en = .returned (.slice (some ⟨g, 0, none⟩) n cap) ∧ n ≤ cap ∧ w'.ownsRow w.heap.size e size (.slice (some ⟨g, 0, none⟩) n cap) n news ∧ w.heap.size ≤ g ∧ g < w'.heap.size ∧ Below w.heap.size w w'

/-! ### What the copies are -/
theorem addr_add0 (b o j : Nat) : (⟨b, o, none⟩ : Addr).add j = ⟨b, o + j, none⟩ := by
  unfold Addr.add
  by_cases h : j = 0
  · subst h; simp
  · simp [h]
/-- A list of values in new memory is returned. -/
def VlRet (w : World) (vs : List Vl) (e : Ending) (w' : World) : Prop :=
  ∃ la ln lc, e = .returned (.slice la ln lc) ∧ VlSl (Fresh w.heap.size w'.heap.size) w' (.slice la ln lc) vs ∧ Below w.heap.size w w'
/-- The cells of a row, of n elements of size s each. -/
theorem news_of {w : World} {b o n s : Nat} (h : ∀ i, i < n → ∀ r, r < s → ∃ v, w.cell? ⟨b, o + i * s + r, none⟩ = some v ∧ v.oneCell' = true) (hs : 0 < s) :
    ∃ news : List Value, news.length = n * s ∧ (∀ j u, news[j]? = some u → w.cell? ((⟨b, o, none⟩ : Addr).add j) = some u) ∧ ∀ u ∈ news, u.oneCell' = true := by
  obtain ⟨news, hl, hn⟩ := list_of (fun j v => w.cell? ⟨b, o + j, none⟩ = some v ∧ v.oneCell' = true) (n * s) (fun j hj => by
    have h1 : j / s < n := Nat.div_lt_of_lt_mul (by rw [Nat.mul_comm]; exact hj)
    obtain ⟨v, h2, h3⟩ := h (j / s) h1 (j % s) (Nat.mod_lt _ hs)
    refine ⟨v, ?_, h3⟩
    have e : o + j / s * s + j % s = o + j := by have := Nat.div_add_mod j s; rw [Nat.mul_comm] at this; omega
    rw [e] at h2; exact h2)
  refine ⟨news, hl, fun j u hj => by rw [addr_add0]; exact (hn j u hj).1, fun u hu => ?_⟩
  obtain ⟨i, hi⟩ := List.mem_iff_getElem?.1 hu
  exact (hn i u hi).2
/-- A cell of the copy is the cell that was copied. -/
theorem cloned_cell {w w' : World} {e : TypeId} {b o n s g cap base : Nat} {news : List Value} (hl : news.length = n * s) (hn : ∀ j u, news[j]? = some u → w.cell? ((⟨b, o, none⟩ : Addr).add j) = some u) (h : w'.ownsRow base e s (.slice (some ⟨g, 0, none⟩) n cap) n news) {j : Nat} (hj : j < n * s) {v : Value} (hv : w.cell? ⟨b, o + j, none⟩ = some v) :
    w'.cell? ⟨g, j, none⟩ = some v := by
  rw [h.cellAt j hj]
  obtain ⟨u, hu⟩ : ∃ u, news[j]? = some u := ⟨_, List.getElem?_eq_getElem (by omega)⟩
  have := hn j u hu
  rw [addr_add0, hv] at this
  rw [hu, ← this]

/-- Twelve cells from cell o of block g on. -/
def CellsAt (w : World) (g o : Nat) (p : Pr) (lv av tl tk kv : Value) : Prop :=
  w.cell? ⟨g, o, none⟩ = some (.int .i64 p.k) ∧ w.cell? ⟨g, o + 1, none⟩ = some (.string p.c) ∧ w.cell? ⟨g, o + 2, none⟩ = some (.string p.x) ∧ w.cell? ⟨g, o + 3, none⟩ = some lv ∧ w.cell? ⟨g, o + 4, none⟩ = some av ∧
  w.cell? ⟨g, o + 5, none⟩ = some (.int .i64 p.t.k) ∧ w.cell? ⟨g, o + 6, none⟩ = some (.int .i64 p.t.p) ∧ w.cell? ⟨g, o + 7, none⟩ = some (.string p.t.n) ∧ w.cell? ⟨g, o + 8, none⟩ = some (.int .i64 p.t.s) ∧ w.cell? ⟨g, o + 9, none⟩ = some tl ∧ w.cell? ⟨g, o + 10, none⟩ = some tk ∧ w.cell? ⟨g, o + 11, none⟩ = some kv
/-- The copied row of processes: the first k stand anew. -/
structure PFilled (B : Nat → Prop) (g n : Nat) (ps : List Pr) (k : Nat) (w : World) : Prop where
  block : ∃ cs, w.heap[g]? = some (.cells cs 30 (0, 0)) ∧ n * 12 ≤ cs.size
  each : ∀ i p, ps[i]? = some p → ∃ la ln lc aa an ac ta tn tc ua un uc ka kn kc, CellsAt w g (i * 12) p (.slice la ln lc) (.slice aa an ac) (.slice ta tn tc) (.slice ua un uc) (.slice ka kn kc) ∧ PrVal (if i < k then Fresh (g + 1) w.heap.size else B) w (prAgg p (.slice la ln lc) (.slice aa an ac) (.slice ta tn tc) (.slice ua un uc) (.slice ka kn kc)) p
end Go.Proofs.YtgmdmbmkljbgiaaGreatDoor

/- Processes: Copy. -/
namespace Go.Proofs.YtgmdmbmkljbgiaaGreatDoor
open Go.RowKit Go.Deep

mutual
/-- Processes whose lists are not too long. -/
def Pr.mod : Pr → Prop
  | .mk _ _ _ ls vs t ps => ls.length ≤ 400000000 ∧ vs.length ≤ 400000000 ∧ ps.length ≤ 65536 ∧ t.modc ∧ Pr.mods ps
def Pr.mods : List Pr → Prop
  | [] => True
  | p :: r => p.mod ∧ Pr.mods r
end
theorem Pr.mods_mem : ∀ {l : List Pr}, Pr.mods l → ∀ p ∈ l, p.mod
  | [], _, _, h => by cases h
  | u :: r, h, p, hp => by
    simp only [Pr.mods] at h
    rcases List.mem_cons.1 hp with rfl | hp
    · exact h.1
    · exact Pr.mods_mem h.2 p hp
/-- A process in new memory is returned. -/
def PrRet (w : World) (p : Pr) (e : Ending) (w' : World) : Prop :=
  ∃ la ln lc aa an ac ta tn tc ua un uc ka kn kc, e = .returned (prAgg p (.slice la ln lc) (.slice aa an ac) (.slice ta tn tc) (.slice ua un uc) (.slice ka kn kc)) ∧
    PrVal (Fresh w.heap.size w'.heap.size) w' (prAgg p (.slice la ln lc) (.slice aa an ac) (.slice ta tn tc) (.slice ua un uc) (.slice ka kn kc)) p ∧ Below w.heap.size w w'

/-- A block of twelve cells, whole. -/
def Twelve (w : World) (b : Nat) (a0 a1 a2 a3 a4 a5 a6 a7 a8 a9 a10 a11 : Value) : Prop := w.heap[b]? = some (.cells #[a0, a1, a2, a3, a4, a5, a6, a7, a8, a9, a10, a11] 30 (0, 0))
section
variable {w w' : World} {b : Nat} {a0 a1 a2 a3 a4 a5 a6 a7 a8 a9 a10 a11 : Value}
theorem Twelve.cells (h : Twelve w b a0 a1 a2 a3 a4 a5 a6 a7 a8 a9 a10 a11) :
    (w.cell? ⟨b, 0, none⟩ = some a0 ∧ w.cell? ⟨b, 1, none⟩ = some a1 ∧ w.cell? ⟨b, 2, none⟩ = some a2 ∧ w.cell? ⟨b, 3, none⟩ = some a3 ∧ w.cell? ⟨b, 4, none⟩ = some a4 ∧ w.cell? ⟨b, 5, none⟩ = some a5 ∧ w.cell? ⟨b, 6, none⟩ = some a6 ∧ w.cell? ⟨b, 7, none⟩ = some a7 ∧ w.cell? ⟨b, 8, none⟩ = some a8 ∧ w.cell? ⟨b, 9, none⟩ = some a9 ∧ w.cell? ⟨b, 10, none⟩ = some a10 ∧ w.cell? ⟨b, 11, none⟩ = some a11) ∧ ∀ j, w.frozen? ⟨b, j, none⟩ = false := by
  unfold Twelve at h
  refine ⟨⟨?_, ?_, ?_, ?_, ?_, ?_, ?_, ?_, ?_, ?_, ?_, ?_⟩, fun j => frozen_of_block h j⟩ <;> simp [World.cell?, h]
theorem Twelve.lt (h : Twelve w b a0 a1 a2 a3 a4 a5 a6 a7 a8 a9 a10 a11) : b < w.heap.size := (Array.getElem?_eq_some_iff.1 h).1
theorem Twelve.to (h : Twelve w b a0 a1 a2 a3 a4 a5 a6 a7 a8 a9 a10 a11) (hb : Below w.heap.size w w') : Twelve w' b a0 a1 a2 a3 a4 a5 a6 a7 a8 a9 a10 a11 := (hb.block b h.lt).trans h
theorem Twelve.other (h : Twelve w b a0 a1 a2 a3 a4 a5 a6 a7 a8 a9 a10 a11) {c o : Nat} (hne : b ≠ c) (v : Value) : Twelve (w.setCell ⟨c, o, none⟩ v) b a0 a1 a2 a3 a4 a5 a6 a7 a8 a9 a10 a11 := (Below.heap_setCell _ _ _ b hne).trans h
theorem Twelve.others (h : Twelve w b a0 a1 a2 a3 a4 a5 a6 a7 a8 a9 a10 a11) {c : Nat} (hne : b ≠ c) (vs : List Value) (o : Nat) : Twelve (w.setCells c o vs) b a0 a1 a2 a3 a4 a5 a6 a7 a8 a9 a10 a11 := (heap_setCells_other hne _ _ _).trans h
theorem Twelve.set3 (h : Twelve w b a0 a1 a2 a3 a4 a5 a6 a7 a8 a9 a10 a11) (v : Value) : Twelve (w.setCell ⟨b, 3, none⟩ v) b a0 a1 a2 v a4 a5 a6 a7 a8 a9 a10 a11 := set_block h 3 v
theorem Twelve.set4 (h : Twelve w b a0 a1 a2 a3 a4 a5 a6 a7 a8 a9 a10 a11) (v : Value) : Twelve (w.setCell ⟨b, 4, none⟩ v) b a0 a1 a2 a3 v a5 a6 a7 a8 a9 a10 a11 := set_block h 4 v
theorem Twelve.set11 (h : Twelve w b a0 a1 a2 a3 a4 a5 a6 a7 a8 a9 a10 a11) (v : Value) : Twelve (w.setCell ⟨b, 11, none⟩ v) b a0 a1 a2 a3 a4 a5 a6 a7 a8 a9 a10 v := set_block h 11 v
theorem Twelve.setT (h : Twelve w b a0 a1 a2 a3 a4 a5 a6 a7 a8 a9 a10 a11) (v5 v6 v7 v8 v9 v10 : Value) : Twelve (w.setCells b 5 [v5, v6, v7, v8, v9, v10]) b a0 a1 a2 a3 a4 v5 v6 v7 v8 v9 v10 a11 := by
  have h5 : Twelve (w.setCell ⟨b, 5, none⟩ v5) b a0 a1 a2 a3 a4 v5 a6 a7 a8 a9 a10 a11 := set_block h 5 v5
  have h6 : Twelve ((w.setCell ⟨b, 5, none⟩ v5).setCell ⟨b, 6, none⟩ v6) b a0 a1 a2 a3 a4 v5 v6 a7 a8 a9 a10 a11 := set_block h5 6 v6
  have h7 : Twelve (((w.setCell ⟨b, 5, none⟩ v5).setCell ⟨b, 6, none⟩ v6).setCell ⟨b, 7, none⟩ v7) b a0 a1 a2 a3 a4 v5 v6 v7 a8 a9 a10 a11 := set_block h6 7 v7
  have h8 : Twelve ((((w.setCell ⟨b, 5, none⟩ v5).setCell ⟨b, 6, none⟩ v6).setCell ⟨b, 7, none⟩ v7).setCell ⟨b, 8, none⟩ v8) b a0 a1 a2 a3 a4 v5 v6 v7 v8 a9 a10 a11 := set_block h7 8 v8
  have h9 : Twelve (((((w.setCell ⟨b, 5, none⟩ v5).setCell ⟨b, 6, none⟩ v6).setCell ⟨b, 7, none⟩ v7).setCell ⟨b, 8, none⟩ v8).setCell ⟨b, 9, none⟩ v9) b a0 a1 a2 a3 a4 v5 v6 v7 v8 v9 a10 a11 := set_block h8 9 v9
  have h10 : Twelve ((((((w.setCell ⟨b, 5, none⟩ v5).setCell ⟨b, 6, none⟩ v6).setCell ⟨b, 7, none⟩ v7).setCell ⟨b, 8, none⟩ v8).setCell ⟨b, 9, none⟩ v9).setCell ⟨b, 10, none⟩ v10) b a0 a1 a2 a3 a4 v5 v6 v7 v8 v9 v10 a11 := set_block h9 10 v10
  exact h10
theorem Twelve.fill (h : Twelve w b a0 a1 a2 a3 a4 a5 a6 a7 a8 a9 a10 a11) (v0 v1 v2 v3 v4 v5 v6 v7 v8 v9 v10 v11 : Value) : Twelve (w.setCells b 0 [v0, v1, v2, v3, v4, v5, v6, v7, v8, v9, v10, v11]) b v0 v1 v2 v3 v4 v5 v6 v7 v8 v9 v10 v11 := by
  have h0 : Twelve (w.setCell ⟨b, 0, none⟩ v0) b v0 a1 a2 a3 a4 a5 a6 a7 a8 a9 a10 a11 := set_block h 0 v0
  have h1 : Twelve ((w.setCell ⟨b, 0, none⟩ v0).setCell ⟨b, 1, none⟩ v1) b v0 v1 a2 a3 a4 a5 a6 a7 a8 a9 a10 a11 := set_block h0 1 v1
  have h2 : Twelve (((w.setCell ⟨b, 0, none⟩ v0).setCell ⟨b, 1, none⟩ v1).setCell ⟨b, 2, none⟩ v2) b v0 v1 v2 a3 a4 a5 a6 a7 a8 a9 a10 a11 := set_block h1 2 v2
  have h3 : Twelve ((((w.setCell ⟨b, 0, none⟩ v0).setCell ⟨b, 1, none⟩ v1).setCell ⟨b, 2, none⟩ v2).setCell ⟨b, 3, none⟩ v3) b v0 v1 v2 v3 a4 a5 a6 a7 a8 a9 a10 a11 := set_block h2 3 v3
  have h4 : Twelve (((((w.setCell ⟨b, 0, none⟩ v0).setCell ⟨b, 1, none⟩ v1).setCell ⟨b, 2, none⟩ v2).setCell ⟨b, 3, none⟩ v3).setCell ⟨b, 4, none⟩ v4) b v0 v1 v2 v3 v4 a5 a6 a7 a8 a9 a10 a11 := set_block h3 4 v4
  have h5 : Twelve ((((((w.setCell ⟨b, 0, none⟩ v0).setCell ⟨b, 1, none⟩ v1).setCell ⟨b, 2, none⟩ v2).setCell ⟨b, 3, none⟩ v3).setCell ⟨b, 4, none⟩ v4).setCell ⟨b, 5, none⟩ v5) b v0 v1 v2 v3 v4 v5 a6 a7 a8 a9 a10 a11 := set_block h4 5 v5
  have h6 : Twelve (((((((w.setCell ⟨b, 0, none⟩ v0).setCell ⟨b, 1, none⟩ v1).setCell ⟨b, 2, none⟩ v2).setCell ⟨b, 3, none⟩ v3).setCell ⟨b, 4, none⟩ v4).setCell ⟨b, 5, none⟩ v5).setCell ⟨b, 6, none⟩ v6) b v0 v1 v2 v3 v4 v5 v6 a7 a8 a9 a10 a11 := set_block h5 6 v6
  have h7 : Twelve ((((((((w.setCell ⟨b, 0, none⟩ v0).setCell ⟨b, 1, none⟩ v1).setCell ⟨b, 2, none⟩ v2).setCell ⟨b, 3, none⟩ v3).setCell ⟨b, 4, none⟩ v4).setCell ⟨b, 5, none⟩ v5).setCell ⟨b, 6, none⟩ v6).setCell ⟨b, 7, none⟩ v7) b v0 v1 v2 v3 v4 v5 v6 v7 a8 a9 a10 a11 := set_block h6 7 v7
  have h8 : Twelve (((((((((w.setCell ⟨b, 0, none⟩ v0).setCell ⟨b, 1, none⟩ v1).setCell ⟨b, 2, none⟩ v2).setCell ⟨b, 3, none⟩ v3).setCell ⟨b, 4, none⟩ v4).setCell ⟨b, 5, none⟩ v5).setCell ⟨b, 6, none⟩ v6).setCell ⟨b, 7, none⟩ v7).setCell ⟨b, 8, none⟩ v8) b v0 v1 v2 v3 v4 v5 v6 v7 v8 a9 a10 a11 := set_block h7 8 v8
  have h9 : Twelve ((((((((((w.setCell ⟨b, 0, none⟩ v0).setCell ⟨b, 1, none⟩ v1).setCell ⟨b, 2, none⟩ v2).setCell ⟨b, 3, none⟩ v3).setCell ⟨b, 4, none⟩ v4).setCell ⟨b, 5, none⟩ v5).setCell ⟨b, 6, none⟩ v6).setCell ⟨b, 7, none⟩ v7).setCell ⟨b, 8, none⟩ v8).setCell ⟨b, 9, none⟩ v9) b v0 v1 v2 v3 v4 v5 v6 v7 v8 v9 a10 a11 := set_block h8 9 v9
  have h10 : Twelve (((((((((((w.setCell ⟨b, 0, none⟩ v0).setCell ⟨b, 1, none⟩ v1).setCell ⟨b, 2, none⟩ v2).setCell ⟨b, 3, none⟩ v3).setCell ⟨b, 4, none⟩ v4).setCell ⟨b, 5, none⟩ v5).setCell ⟨b, 6, none⟩ v6).setCell ⟨b, 7, none⟩ v7).setCell ⟨b, 8, none⟩ v8).setCell ⟨b, 9, none⟩ v9).setCell ⟨b, 10, none⟩ v10) b v0 v1 v2 v3 v4 v5 v6 v7 v8 v9 v10 a11 := set_block h9 10 v10
  have h11 : Twelve ((((((((((((w.setCell ⟨b, 0, none⟩ v0).setCell ⟨b, 1, none⟩ v1).setCell ⟨b, 2, none⟩ v2).setCell ⟨b, 3, none⟩ v3).setCell ⟨b, 4, none⟩ v4).setCell ⟨b, 5, none⟩ v5).setCell ⟨b, 6, none⟩ v6).setCell ⟨b, 7, none⟩ v7).setCell ⟨b, 8, none⟩ v8).setCell ⟨b, 9, none⟩ v9).setCell ⟨b, 10, none⟩ v10).setCell ⟨b, 11, none⟩ v11) b v0 v1 v2 v3 v4 v5 v6 v7 v8 v9 v10 v11 := set_block h10 11 v11
  exact h11
end
/-- The cells of a process, a list. -/
def prCellsL (p : Pr) (lv av tl tk kv : Value) : List Value := [.int .i64 p.k, .string p.c, .string p.x, lv, av, .int .i64 p.t.k, .int .i64 p.t.p, .string p.t.n, .int .i64 p.t.s, tl, tk, kv]
theorem setCells12 (w : World) (g o : Nat) (a b c d e f a' b' c' d' e' f' : Value) : w.setCells g o [a, b, c, d, e, f, a', b', c', d', e', f'] =
    (((((((((((w.setCell ⟨g, o, none⟩ a).setCell ⟨g, o + 1, none⟩ b).setCell ⟨g, o + 2, none⟩ c).setCell ⟨g, o + 3, none⟩ d).setCell ⟨g, o + 4, none⟩ e).setCell ⟨g, o + 5, none⟩ f).setCell ⟨g, o + 6, none⟩ a').setCell ⟨g, o + 7, none⟩ b').setCell ⟨g, o + 8, none⟩ c').setCell ⟨g, o + 9, none⟩ d').setCell ⟨g, o + 10, none⟩ e').setCell ⟨g, o + 11, none⟩ f' := rfl
theorem Twelve.new (w : World) (a0 a1 a2 a3 a4 a5 a6 a7 a8 a9 a10 a11 : Value) : Twelve (w.alloc (.cells #[a0, a1, a2, a3, a4, a5, a6, a7, a8, a9, a10, a11] 30)) w.heap.size a0 a1 a2 a3 a4 a5 a6 a7 a8 a9 a10 a11 := World.alloc_heap_new w _
/-- Stores into one block of the call's own leave what lies in others. -/
theorem keeps_setCells {F : Nat → Prop} {w : World} {c : Nat} (h : ∀ k, F k → k ≠ c) (vs : List Value) (o : Nat) : Keeps F w (w.setCells c o vs) := fun k _ hk ho _ => (heap_setCells_other (h k hk) _ _ _).trans ho

theorem PFilled.to {B : Nat → Prop} {g n k : Nat} {ps : List Pr} {w w' : World} (h : PFilled B g n ps k w) (hB : Low B w) (hb : Below w.heap.size w w') : PFilled B g n ps k w' := by
  obtain ⟨cs, hcs, hz⟩ := h.block
  have hg := (Array.getElem?_eq_some_iff.1 hcs).1
  refine ⟨⟨cs, (hb.block g hg).trans hcs, hz⟩, fun i t ht => ?_⟩
  obtain ⟨la, ln, lc, aa, an, ac, ta, tn, tc, ua, un, uc, ka, kn, kc, ⟨d0, d1, d2, d3, d4, d5, d6, d7, d8, d9, d10, d11⟩, hv⟩ := h.each i t ht
  have hc : ∀ (o : Nat) (v : Value), w.cell? ⟨g, o, none⟩ = some v → w'.cell? ⟨g, o, none⟩ = some v := fun o v hv => (hb.cell (p := ⟨g, o, none⟩) hg).trans hv
  refine ⟨la, ln, lc, aa, an, ac, ta, tn, tc, ua, un, uc, ka, kn, kc, ⟨hc _ _ d0, hc _ _ d1, hc _ _ d2, hc _ _ d3, hc _ _ d4, hc _ _ d5, hc _ _ d6, hc _ _ d7, hc _ _ d8, hc _ _ d9, hc _ _ d10, hc _ _ d11⟩, ?_⟩
  by_cases hi : i < k
  · rw [if_pos hi] at hv ⊢
    exact (hv.to (fun j hj => hj.2) hb).mono (Fresh.mono (Nat.le_refl _) hb.size)
  · rw [if_neg hi] at hv ⊢
    exact hv.to hB hb
theorem PFilled.store {B : Nat → Prop} {g n k : Nat} {ps : List Pr} {w : World} (h : PFilled B g n ps k w) (hn : n = ps.length) (hBg : ∀ j, B j → j ≠ g) {t : Pr} (ht : ps[k]? = some t) {la : Option Addr} {ln lc : Nat} {aa : Option Addr} {an ac : Nat} {ta : Option Addr} {tn tc : Nat} {ua : Option Addr} {un uc : Nat} {ka : Option Addr} {kn kc : Nat}
    (hv : PrVal (Fresh (g + 1) w.heap.size) w (prAgg t (.slice la ln lc) (.slice aa an ac) (.slice ta tn tc) (.slice ua un uc) (.slice ka kn kc)) t) :
    PFilled B g n ps (k + 1) (w.setCells g (k * 12) (prCellsL t (.slice la ln lc) (.slice aa an ac) (.slice ta tn tc) (.slice ua un uc) (.slice ka kn kc))) := by
  obtain ⟨cs, hcs, hz⟩ := h.block
  obtain ⟨cs', h1, h2⟩ := heap_setCells_same (prCellsL t (.slice la ln lc) (.slice aa an ac) (.slice ta tn tc) (.slice ua un uc) (.slice ka kn kc)) (k * 12) w cs _ hcs
  have hkl := (List.getElem?_eq_some_iff.1 ht).1
  have hkeep : ∀ F : Nat → Prop, (∀ j, F j → j ≠ g) → Keeps F w (w.setCells g (k * 12) (prCellsL t (.slice la ln lc) (.slice aa an ac) (.slice ta tn tc) (.slice ua un uc) (.slice ka kn kc))) := fun F hF => keeps_setCells hF _ _
  have hsz := size_setCells g (prCellsL t (.slice la ln lc) (.slice aa an ac) (.slice ta tn tc) (.slice ua un uc) (.slice ka kn kc)) (k * 12) w
  refine ⟨⟨cs', h1, by omega⟩, fun i u hu => ?_⟩
  have hil := (List.getElem?_eq_some_iff.1 hu).1
  by_cases e : i = k
  · subst e
    rw [ht] at hu; cases hu
    have hin := World.cell?_setCells_in g (prCellsL t (.slice la ln lc) (.slice aa an ac) (.slice ta tn tc) (.slice ua un uc) (.slice ka kn kc)) (i * 12) w (fun j hj => by
      obtain ⟨x, hx⟩ := cell_in hcs (j := i * 12 + j) (by simp [prCellsL] at hj; omega)
      rw [hx]; rfl)
    refine ⟨la, ln, lc, aa, an, ac, ta, tn, tc, ua, un, uc, ka, kn, kc, ⟨hin 0 (by simp [prCellsL]), hin 1 (by simp [prCellsL]), hin 2 (by simp [prCellsL]), hin 3 (by simp [prCellsL]), hin 4 (by simp [prCellsL]), hin 5 (by simp [prCellsL]), hin 6 (by simp [prCellsL]), hin 7 (by simp [prCellsL]), hin 8 (by simp [prCellsL]), hin 9 (by simp [prCellsL]), hin 10 (by simp [prCellsL]), hin 11 (by simp [prCellsL])⟩, ?_⟩
    rw [if_pos (by omega), hsz]
    exact hv.keep (hkeep _ (fun j hj => by have := hj.1; omega))
  · obtain ⟨la', ln', lc', aa', an', ac', ta', tn', tc', ua', un', uc', ka', kn', kc', ⟨d0, d1, d2, d3, d4, d5, d6, d7, d8, d9, d10, d11⟩, hu'⟩ := h.each i u hu
    have hout : ∀ j, j < 12 → (w.setCells g (k * 12) (prCellsL t (.slice la ln lc) (.slice aa an ac) (.slice ta tn tc) (.slice ua un uc) (.slice ka kn kc))).cell? ⟨g, i * 12 + j, none⟩ = w.cell? ⟨g, i * 12 + j, none⟩ := fun j hj =>
      World.cell?_setCells_out g _ _ _ _ (fun _ hq => by
        rcases Nat.lt_or_ge i k with hik | hik
        · exact .inl (by simp; omega)
        · exact .inr (by simp [prCellsL]; omega))
    refine ⟨la', ln', lc', aa', an', ac', ta', tn', tc', ua', un', uc', ka', kn', kc', ⟨(hout 0 (by omega)).trans d0, (hout 1 (by omega)).trans d1, (hout 2 (by omega)).trans d2, (hout 3 (by omega)).trans d3, (hout 4 (by omega)).trans d4, (hout 5 (by omega)).trans d5, (hout 6 (by omega)).trans d6, (hout 7 (by omega)).trans d7, (hout 8 (by omega)).trans d8, (hout 9 (by omega)).trans d9, (hout 10 (by omega)).trans d10, (hout 11 (by omega)).trans d11⟩, ?_⟩
    by_cases hi : i < k
    · rw [if_pos hi] at hu'
      rw [if_pos (by omega), hsz]
      exact hu'.keep (hkeep _ (fun j hj => by have := hj.1; omega))
    · rw [if_neg hi] at hu'
      rw [if_neg (by omega)]
      exact hu'.keep (hkeep _ hBg)

end Go.Proofs.YtgmdmbmkljbgiaaGreatDoor

/- Processes: Copy, walked. -/
namespace Go.Proofs.YtgmdmbmkljbgiaaGreatDoor
open Go.RowKit Go.Deep

theorem ty_slices {B : Nat → Prop} {w : World} {t : Ty} {k p s : Int} {n : ByteArray} {tl tk : Value} (h : TyVal B w (.agg #[.int .i64 k, .int .i64 p, .string n, .int .i64 s, tl, tk]) t) : (∃ (a : Option Addr) (n c : Nat), tl = .slice a n c) ∧ ∃ (a : Option Addr) (n c : Nat), tk = .slice a n c := by
  obtain ⟨lv', kv', e, _, hl, hk2⟩ := h
  simp only [Value.agg.injEq, Array.mk.injEq, List.cons.injEq, and_true] at e
  obtain ⟨_, _, _, _, rfl, rfl⟩ := e
  obtain ⟨a, n, c, e, _⟩ := hl.open
  obtain ⟨a', n', c', e', _⟩ := hk2.open
  exact ⟨⟨a, n, c, e⟩, a', n', c', e'⟩
abbrev zero12 : Obj := .cells #[.int .i64 0, .string ⟨#[]⟩, .string ⟨#[]⟩, .slice none 0 0, .slice none 0 0, .int .i64 0, .int .i64 0, .string ⟨#[]⟩, .int .i64 0, .slice none 0 0, .slice none 0 0, .slice none 0 0] 30

theorem PFilled.keep {B : Nat → Prop} {g n k : Nat} {ps : List Pr} {w w' : World} (h : PFilled B g n ps k w) (hg : w'.heap[g]? = w.heap[g]?) (hs : w.heap.size ≤ w'.heap.size) (hB : Keeps B w w') (hF : Keeps (Fresh (g + 1) w.heap.size) w w') : PFilled B g n ps k w' := by
  obtain ⟨cs, hcs, hz⟩ := h.block
  have hc : ∀ (o : Nat) (v : Value), w.cell? ⟨g, o, none⟩ = some v → w'.cell? ⟨g, o, none⟩ = some v := fun o v hv => by
    rw [← hv]; unfold World.cell?; simp only [hg]
  refine ⟨⟨cs, hg.trans hcs, hz⟩, fun i t ht => ?_⟩
  obtain ⟨la, ln, lc, aa, an, ac, ta, tn, tc, ua, un, uc, ka, kn, kc, ⟨d0, d1, d2, d3, d4, d5, d6, d7, d8, d9, d10, d11⟩, hv⟩ := h.each i t ht
  refine ⟨la, ln, lc, aa, an, ac, ta, tn, tc, ua, un, uc, ka, kn, kc, ⟨hc _ _ d0, hc _ _ d1, hc _ _ d2, hc _ _ d3, hc _ _ d4, hc _ _ d5, hc _ _ d6, hc _ _ d7, hc _ _ d8, hc _ _ d9, hc _ _ d10, hc _ _ d11⟩, ?_⟩
  by_cases hi : i < k
  · rw [if_pos hi] at hv ⊢
    exact (hv.keep hF).mono (Fresh.mono (Nat.le_refl _) hs)
  · rw [if_neg hi] at hv ⊢
    exact hv.keep hB
/-- What stands while the Kids are copied. -/
structure CpSt (w : World) (m : Nat) (p : Pr) (lv av tl tk kv : Value) (wr : World) : Prop where
  own : Twelve wr w.heap.size (.int .i64 p.k) (.string p.c) (.string p.x) lv av (.int .i64 p.t.k) (.int .i64 p.t.p) (.string p.t.n) (.int .i64 p.t.s) tl tk kv
  res : Twelve wr (w.heap.size + 1) (.int .i64 0) (.string ⟨#[]⟩) (.string ⟨#[]⟩) (.slice none 0 0) (.slice none 0 0) (.int .i64 0) (.int .i64 0) (.string ⟨#[]⟩) (.int .i64 0) (.slice none 0 0) (.slice none 0 0) (.slice none 0 0)
  strs : StrSl (Fresh (w.heap.size + 2) m) wr lv p.ls
  vals : VlSl (Fresh (w.heap.size + 2) m) wr av p.vs
  ty : TyVal (Fresh (w.heap.size + 2) m) wr (.agg #[.int .i64 p.t.k, .int .i64 p.t.p, .string p.t.n, .int .i64 p.t.s, tl, tk]) p.t
  below : Below w.heap.size w wr
  low : w.heap.size + 2 ≤ m ∧ m ≤ wr.heap.size
theorem CpSt.to {w : World} {m : Nat} {p : Pr} {lv av tl tk kv : Value} {wr W : World} (h : CpSt w m p lv av tl tk kv wr) (hb : Below wr.heap.size wr W) : CpSt w m p lv av tl tk kv W := by
  have hk : Keeps (Fresh (w.heap.size + 2) m) wr W := hb.keeps'.mono (fun k hk => by have := hk.2; have := h.low.2; omega)
  exact ⟨h.own.to hb, h.res.to hb, h.strs.keep hk, h.vals.keep hk, h.ty.keep hk, below_seq h.below hb, h.low.1, Nat.le_trans h.low.2 hb.size⟩
theorem CpSt.stores {w : World} {m : Nat} {p : Pr} {lv av tl tk kv : Value} {wr : World} (h : CpSt w m p lv av tl tk kv wr) {g : Nat} (hg : m ≤ g) (vs : List Value) (o : Nat) : CpSt w m p lv av tl tk kv (wr.setCells g o vs) := by
  have hk : Keeps (Fresh (w.heap.size + 2) m) wr (wr.setCells g o vs) := keeps_setCells (fun k hk => by have := hk.2; omega) _ _
  have := h.low.1
  exact ⟨h.own.others (by omega) _ _, h.res.others (by omega) _ _, h.strs.keep hk, h.vals.keep hk, h.ty.keep hk, h.below.trans (below_setCells g (by omega) _ _ _), h.low.1, by rw [size_setCells]; exact h.low.2⟩

end Go.Proofs.YtgmdmbmkljbgiaaGreatDoor

/- Processes: the law's fixed processes, and what they are. -/
namespace Go.Proofs.YtgmdmbmkljbgiaaGreatDoor
open Go.RowKit Go.Deep Go.Shelf

abbrev bA : ByteArray := ⟨#[97]⟩
abbrev bB : ByteArray := ⟨#[98]⟩
abbrev bC : ByteArray := ⟨#[99]⟩
abbrev bD : ByteArray := ⟨#[100]⟩
def p1 : Pr := .mk 1 e0 e0 [] [] (leafT 0) []
def p2 : Pr := .mk 2 bC e0 [] [⟨1, bA, 0⟩] (leafT 0) [p1]
def p3 : Pr := .mk 6 bC bD [] [] (leafT 3) [p2]
def p4 : Pr := .mk 2 bA e0 [] [⟨1, bB, 0⟩] (leafT 0) [p3]
def pz : Pr := .mk 0 e0 e0 [] [] (leafT 0) []
def g4 : Pg := ⟨[], p4⟩
theorem size_p4 : p4.size = 4 := by rfl
theorem depth_p4 : p4.depth = 4 := by rfl
theorem p4_ne_p3 : p4 ≠ p3 := by intro h; have := congrArg Pr.k h; simp [p4, p3, Pr.k] at this
theorem leaf_few (k : Int) : (leafT k).few 300 = true := by
  have h0 : (leafT 0).few 300 = true := by decide +kernel
  exact h0
theorem good_pz : PGood pz := by
  refine ⟨?_, ?_⟩
  · simp [pz, leafT, Pr.fine, Pr.fines, Ty.fine, Ty.fines, In64]
  · simp [pz, Pr.tf, Pr.tfs, leaf_few]
theorem good_p4 : PGood p4 := by
  refine ⟨?_, ?_⟩
  · simp [p4, p3, p2, p1, leafT, Pr.fine, Pr.fines, Ty.fine, Ty.fines, In64]
  · simp [p4, p3, p2, p1, Pr.tf, Pr.tfs, leaf_few]
theorem mod_p4 : p4.mod := by simp [p4, p3, p2, p1, leafT, Pr.mod, Pr.mods, Ty.modc, Ty.modcs]
theorem nms_p4 : p4.nms ≤ 1000000000 := by decide
theorem ggood_g4 : GGood g4 := by
  refine ⟨by simp [g4], by simp [g4], fun p hp => ?_⟩
  have : p = p4 := by simpa [g4, Pg.bodies] using hp
  subst this
  exact ⟨good_p4, by decide, by decide⟩
theorem total_g4 : g4.total = 5 := by rw [Pg.total_eq]; rfl
theorem right_pz : prightE pz = 3 := by decide +kernel
theorem r4_leaf (k : Int) (c x : ByteArray) (ls : List ByteArray) (vs : List Vl) (ps : List Pr) (hk : k ≠ 6) : (Pr.mk k c x ls vs (leafT 0) ps).r4 = true := by
  unfold Pr.r4
  show (if k = 6 then _ else eqB (leafT 0) default) = true
  rw [if_neg hk]; exact eqB_self _
theorem ok_p1 : p1.okN = true := by
  have h : p1.r4 = true := r4_leaf _ _ _ _ _ _ (by decide)
  unfold Pr.okN Pr.shp; rw [h]; decide +kernel
theorem ok_p2 : p2.okN = true := by
  have h : p2.r4 = true := r4_leaf _ _ _ _ _ _ (by decide)
  unfold Pr.okN Pr.shp; rw [h]; decide +kernel
theorem ok_p3 : p3.okN = true := by decide +kernel
theorem ok_p4 : p4.okN = true := by
  have h : p4.r4 = true := r4_leaf _ _ _ _ _ _ (by decide)
  unfold Pr.okN Pr.shp; rw [h]; decide +kernel
theorem right_p4 : prightE p4 = 0 := by
  have h : preP 1 p4 = [(1, p4), (2, p3), (3, p2), (4, p1)] := by rfl
  have hl : p4.large = false := by decide +kernel
  unfold prightE
  rw [h, hl]
  simp [allN, ok_p1, ok_p2, ok_p3, ok_p4]
theorem free_p4 : p4.free = [bA, bB] := by decide +kernel
theorem prog_g4 : pprogE g4 = 0 := by
  have hm : g4.many = false := by unfold Pg.many; rw [total_g4]; rfl
  have hb : g4.bodies = [p4] := by rfl
  unfold pprogE
  rw [hm, hb]
  simp [firstR, right_p4, g4]

theorem nil_vls (B : Nat → Prop) (w : World) : VlSl B w (.slice none 0 0) [] := ⟨.inl ⟨⟨_, _, rfl⟩, rfl⟩, by simp [maxLen], fun s h => by cases h⟩
theorem nil_prs (B : Nat → Prop) (w : World) : PrSl B w (.slice none 0 0) [] := ⟨.inl ⟨⟨_, _, rfl⟩, rfl⟩, by simp [maxLen]⟩
theorem nil_dfs (B : Nat → Prop) (w : World) : DfSl B w (.slice none 0 0) [] := ⟨.inl ⟨⟨_, _, rfl⟩, rfl⟩, by simp [maxLen]⟩
/-- One process in a block of its own. -/
theorem prs_one {B : Nat → Prop} {W : World} {b : Nat} {p : Pr} {lv av tl tk kv : Value} (hb : B b) (hh : W.heap[b]? = some (cell12 p lv av tl tk kv)) (hv : PrVal B W (prAgg p lv av tl tk kv) p) : PrSl B W (.slice (some ⟨b, 0, none⟩) 1 1) [p] := by
  refine ⟨.inr ⟨b, 0, 1, rfl, hb, ?_⟩, by simp [maxLen]⟩
  show PrAt B W p b 0 ∧ True
  exact ⟨prAt_of hb (cell_of hh 0) (cell_of hh 1) (cell_of hh 2) (cell_of hh 3) (cell_of hh 4) (cell_of hh 5) (cell_of hh 6) (cell_of hh 7) (cell_of hh 8) (cell_of hh 9) (cell_of hh 10) (cell_of hh 11) hv, trivial⟩
theorem vls_one {B : Nat → Prop} {W : World} {b : Nat} {a : Vl} (hb : B b) (hh : W.heap[b]? = some (.cells #[.int .i64 a.k, .string a.n, .int .i64 a.x] 53)) (hn : a.n.size ≤ maxLen) : VlSl B W (.slice (some ⟨b, 0, none⟩) 1 1) [a] := by
  refine ⟨.inr ⟨b, 0, 1, rfl, hb, Nat.le_refl _, fun j x hj => ?_⟩, by simp [maxLen], fun x hx => by rw [List.mem_singleton.1 hx]; exact hn⟩
  cases j with
  | zero =>
    simp only [List.getElem?_cons_zero, Option.some.injEq] at hj
    subst hj
    exact ⟨cell_of hh 0, cell_of hh 1, cell_of hh 2⟩
  | succ j => simp at hj

abbrev sl0 : Value := .slice none 0 0
abbrev sl1 (b : Nat) : Value := .slice (some ⟨b, 0, none⟩) 1 1
/-- The nine blocks of the examples. -/
theorem made_ps (w : World) (W : World)
    (hW : (((((((((w.alloc (cell12 p1 sl0 sl0 sl0 sl0 sl0)).alloc (.cells #[.int .i64 1, .string bA, .int .i64 0] 53)).alloc (cell12 p1 sl0 sl0 sl0 sl0 sl0)).alloc (cell12 p2 sl0 (sl1 (w.heap.size + 1)) sl0 sl0 (sl1 (w.heap.size + 1 + 1)))).alloc
      (cell12 p2 sl0 (sl1 (w.heap.size + 1)) sl0 sl0 (sl1 (w.heap.size + 1 + 1)))).alloc (cell12 p3 sl0 sl0 sl0 sl0 (sl1 (w.heap.size + 1 + 1 + 1 + 1)))).alloc (.cells #[.int .i64 1, .string bB, .int .i64 0] 53)).alloc (cell12 p3 sl0 sl0 sl0 sl0 (sl1 (w.heap.size + 1 + 1 + 1 + 1)))).alloc
      (cell12 p4 sl0 (sl1 (w.heap.size + 1 + 1 + 1 + 1 + 1 + 1)) sl0 sl0 (sl1 (w.heap.size + 1 + 1 + 1 + 1 + 1 + 1 + 1)))) = W) :
    (W.heap[w.heap.size + 1 + 1 + 1 + 1 + 1]? = some (cell12 p3 sl0 sl0 sl0 sl0 (sl1 (w.heap.size + 1 + 1 + 1 + 1))) ∧ W.heap[w.heap.size + 1 + 1 + 1 + 1 + 1 + 1 + 1 + 1]? = some (cell12 p4 sl0 (sl1 (w.heap.size + 1 + 1 + 1 + 1 + 1 + 1)) sl0 sl0 (sl1 (w.heap.size + 1 + 1 + 1 + 1 + 1 + 1 + 1)))) ∧
    PLies W (prAgg p3 sl0 sl0 sl0 sl0 (sl1 (w.heap.size + 1 + 1 + 1 + 1))) p3 ∧ PLies W (prAgg p4 sl0 (sl1 (w.heap.size + 1 + 1 + 1 + 1 + 1 + 1)) sl0 sl0 (sl1 (w.heap.size + 1 + 1 + 1 + 1 + 1 + 1 + 1))) p4 ∧ Below w.heap.size w W := by
  have hs : W.heap.size = w.heap.size + 9 := by rw [← hW]; simp
  have k1 : W.heap[w.heap.size + 1]? = some (.cells #[.int .i64 1, .string bA, .int .i64 0] 53) := by rw [← hW]; simp only [heap_push, Array.getElem?_push, Array.size_push]; simp
  have k2 : W.heap[w.heap.size + 1 + 1]? = some (cell12 p1 sl0 sl0 sl0 sl0 sl0) := by rw [← hW]; simp only [heap_push, Array.getElem?_push, Array.size_push]; simp
  have k4 : W.heap[w.heap.size + 1 + 1 + 1 + 1]? = some (cell12 p2 sl0 (sl1 (w.heap.size + 1)) sl0 sl0 (sl1 (w.heap.size + 1 + 1))) := by rw [← hW]; simp only [heap_push, Array.getElem?_push, Array.size_push]; simp
  have k5 : W.heap[w.heap.size + 1 + 1 + 1 + 1 + 1]? = some (cell12 p3 sl0 sl0 sl0 sl0 (sl1 (w.heap.size + 1 + 1 + 1 + 1))) := by rw [← hW]; simp only [heap_push, Array.getElem?_push, Array.size_push]; simp
  have k6 : W.heap[w.heap.size + 1 + 1 + 1 + 1 + 1 + 1]? = some (.cells #[.int .i64 1, .string bB, .int .i64 0] 53) := by rw [← hW]; simp only [heap_push, Array.getElem?_push, Array.size_push]; simp
  have k7 : W.heap[w.heap.size + 1 + 1 + 1 + 1 + 1 + 1 + 1]? = some (cell12 p3 sl0 sl0 sl0 sl0 (sl1 (w.heap.size + 1 + 1 + 1 + 1))) := by rw [← hW]; simp only [heap_push, Array.getElem?_push, Array.size_push]; simp
  have k8 : W.heap[w.heap.size + 1 + 1 + 1 + 1 + 1 + 1 + 1 + 1]? = some (cell12 p4 sl0 (sl1 (w.heap.size + 1 + 1 + 1 + 1 + 1 + 1)) sl0 sl0 (sl1 (w.heap.size + 1 + 1 + 1 + 1 + 1 + 1 + 1))) := by rw [← hW]; simp only [heap_push, Array.getElem?_push, Array.size_push]; simp
  have hb : Below w.heap.size w W := by
    rw [← hW]
    exact (((((((((Below.refl _ _).alloc (by simp) _).alloc (by simp) _).alloc (by simp; omega) _).alloc (by simp; omega) _).alloc (by simp; omega) _).alloc (by simp; omega) _).alloc (by simp; omega) _).alloc (by simp; omega) _).alloc (by simp; omega) _
  have v1 : PLies W (prAgg p1 sl0 sl0 sl0 sl0 sl0) p1 := ⟨_, _, _, _, _, rfl, ⟨by decide, by decide⟩, nil_strs _ _, nil_vls _ _, val_leaf _ _ 0 0 0 e0 (by decide), nil_prs _ _⟩
  have v2 : PLies W (prAgg p2 sl0 (sl1 (w.heap.size + 1)) sl0 sl0 (sl1 (w.heap.size + 1 + 1))) p2 := ⟨_, _, _, _, _, rfl, ⟨by decide, by decide⟩, nil_strs _ _, vls_one (a := ⟨1, bA, 0⟩) (by omega) k1 (by decide), val_leaf _ _ 0 0 0 e0 (by decide), prs_one (by omega) k2 v1⟩
  have v3 : PLies W (prAgg p3 sl0 sl0 sl0 sl0 (sl1 (w.heap.size + 1 + 1 + 1 + 1))) p3 := ⟨_, _, _, _, _, rfl, ⟨by decide, by decide⟩, nil_strs _ _, nil_vls _ _, val_leaf _ _ 3 0 0 e0 (by decide), prs_one (by omega) k4 v2⟩
  have v4 : PLies W (prAgg p4 sl0 (sl1 (w.heap.size + 1 + 1 + 1 + 1 + 1 + 1)) sl0 sl0 (sl1 (w.heap.size + 1 + 1 + 1 + 1 + 1 + 1 + 1))) p4 := ⟨_, _, _, _, _, rfl, ⟨by decide, by decide⟩, nil_strs _ _, vls_one (a := ⟨1, bB, 0⟩) (by omega) k6 (by decide), val_leaf _ _ 0 0 0 e0 (by decide), prs_one (by omega) k7 v3⟩
  exact ⟨⟨k5, k8⟩, v3, v4, hb⟩
end Go.Proofs.YtgmdmbmkljbgiaaGreatDoor

/- Processes: the reference's Texts and Same. -/
namespace Go.Proofs.YtgmdmbmkljbgiaaGreatDoor
open Go.RowKit Go.Deep Go.Shelf

set_option maxHeartbeats 1000000 in
/-- Lists of texts, compared by the reference. -/
theorem ptexts_any (B : Nat → Prop) (v v' : Value) (ls ls' : List ByteArray) (w : World) (h : StrSl B w v ls) (h' : StrSl B w v' ls') :
    Calls Tryz.prog 18 #[v, v'] w fun e w' => e = .returned (.bool (decide (ls = ls'))) ∧ Drew w w' := by
  obtain ⟨pa, len, c, rfl, hlen, hm, hget⟩ := h.open
  obtain ⟨pa', len', c', rfl, hlen', hm', hget'⟩ := h'.open
  have HG := Lib.hid hget
  have HG' := Lib.hid hget'
  clear hget hget' h h'
  by_cases hl : len = len'
  · subst hl
    go_enter Tryz.func18, Tryz.ntmps18
    go_wp2_with fail
    go_loopw [5] (fun i wr => ∃ (j : Nat), i = .int .i64 j ∧ j ≤ len ∧ Hid (ls.take j = ls'.take j) ∧ Drew w wr) (fun i _ => len - (intOf i).toNat)
    case atStart => exact ⟨0, rfl, by omega, Lib.hid (by simp), Drew.refl _⟩
    case round =>
      obtain ⟨j, rfl, hj, HT, hd⟩ := hrel
      by_cases hlt : j < len
      · obtain ⟨s, hs⟩ : ∃ s, ls[j]? = some s := ⟨_, List.getElem?_eq_getElem (by rw [← hlen.out]; exact hlt)⟩
        obtain ⟨s', hs'⟩ : ∃ s', ls'[j]? = some s' := ⟨_, List.getElem?_eq_getElem (by rw [← hlen'.out]; exact hlt)⟩
        obtain ⟨_, kb, ko, rfl, hkb, hc⟩ := HG.out j s hs
        obtain ⟨_, kb', ko', rfl, hkb', hc'⟩ := HG'.out j s' hs'
        replace hc : wr.cell? ⟨kb, ko + j, none⟩ = some (.string s) := by obtain ⟨m, rfl⟩ := hd; exact hc
        replace hc' : wr.cell? ⟨kb', ko' + j, none⟩ = some (.string s') := by obtain ⟨m, rfl⟩ := hd; exact hc'
        by_cases hss : s = s'
        · subst hss
          have hn : Hid (ls.take (j + 1) = ls'.take (j + 1)) := Lib.hid (by rw [take_snoc_get hs, take_snoc_get hs', HT.out])
          clear hs hs'
          go_wp2_with fail
          go_quiet (fail)
          go_wp2_with fail
          go_roundw
          case rel => exact ⟨j + 1, by go_num, by omega, hn, hd.more _⟩
          case measure => simp [intOf]; omega
        · have hne : Hid (ls ≠ ls') := Lib.hid (fun e => hss (by rw [e, hs'] at hs; exact (Option.some.inj hs).symm))
          have hb1 := str_ne hss
          have hb2 : (s.toList == s'.toList) = false := by simpa using hb1
          clear hs hs' hss
          go_wp2_with fail
          go_quiet (fail)
          go_wp2_with fail
          go_ret
          exact ⟨ret_bool (by simp [hne.out]), hd.more _⟩
      · obtain rfl : j = len := by omega
        go_wp2_with fail
        go_ret
        refine ⟨ret_bool ?_, hd⟩
        have := HT.out
        rw [List.take_of_length_le (by rw [hlen.out]; exact Nat.le_refl _), List.take_of_length_le (by rw [hlen'.out]; exact Nat.le_refl _)] at this
        simp [this]
  · have hl' : (len != len') = true := by simpa using hl
    have hne : ls ≠ ls' := fun e => hl (by rw [hlen.out, hlen'.out, e])
    have HN := Lib.hid hne
    clear hne
    go_enter Tryz.func18, Tryz.ntmps18
    go_wp2_with fail
    go_ret
    exact ⟨ret_bool (by simp [HN.out]), Drew.refl _⟩

abbrev wb2 (w : World) (p q : Pr) (la : Option Addr) (ln lc : Nat) (aa : Option Addr) (an ac : Nat) (ta : Option Addr) (tn tc : Nat) (ua : Option Addr) (un uc : Nat) (ka : Option Addr) (kn kc : Nat) (la' : Option Addr) (ln' lc' : Nat) (aa' : Option Addr) (an' ac' : Nat) (ta' : Option Addr) (tn' tc' : Nat) (ua' : Option Addr) (un' uc' : Nat) (ka' : Option Addr) (kn' kc' : Nat) : World :=
  (w.alloc (cell12 p (.slice la ln lc) (.slice aa an ac) (.slice ta tn tc) (.slice ua un uc) (.slice ka kn kc))).alloc (cell12 q (.slice la' ln' lc') (.slice aa' an' ac') (.slice ta' tn' tc') (.slice ua' un' uc') (.slice ka' kn' kc'))

end Go.Proofs.YtgmdmbmkljbgiaaGreatDoor

/- Processes: the program's functions at values anywhere in memory. -/
namespace Go.Proofs.YtgmdmbmkljbgiaaGreatDoor
open Go.RowKit Go.Deep Go.Shelf

theorem plow (w : World) : Low (fun k => k < w.heap.size) w := fun _ h => h
theorem pright_l {E : Nat} {W : World} {v : Value} {p : Pr} {c : Int} (he : Env E W) (h : PLies W v p) (hg : PGood p) (hd : p.depth ≤ 99999) (hc : prightE p = c) : Calls Tryz.prog 47 #[v] W fun e w' => e = .returned (.int .i64 c) ∧ Below W.heap.size W w' := by
  rw [← hc]; exact pright_any E _ p hg hd v W (plow W) he h
theorem pprog_l {E : Nat} {W : World} {v : Value} {g : Pg} {c : Int} (he : Env E W) (h : GLies W v g) (hg : GGood g) (hc : pprogE g = c) : Calls Tryz.prog 24 #[v] W fun e w' => e = .returned (.int .i64 c) ∧ Below W.heap.size W w' := by
  rw [← hc]; exact pprogram_any E _ g hg v W (plow W) he h
theorem pprefix_l {W : World} {v : Value} {p : Pr} {b : Bool} (h : PLies W v p) (hb : prefixB p.k = b) : Calls Tryz.prog 63 #[v] W fun e w' => e = .returned (.bool b) ∧ Below W.heap.size W w' := by
  rw [← hb]; exact pprefix_any _ p v W h
/-- A list of texts, anywhere. -/
def SLies (w : World) (v : Value) (l : List ByteArray) : Prop := StrSl (fun k => k < w.heap.size) w v l
theorem SLies.to {w w' : World} {v : Value} {l : List ByteArray} (h : SLies w v l) (hb : Below w.heap.size w w') : SLies w' v l :=
  (h.keep (hb.keeps'.mono (fun _ hk => hk))).mono (fun _ hk => Nat.lt_of_lt_of_le hk hb.size)
theorem drew_below {w w' : World} (h : Drew w w') : Below w.heap.size w w' := h.below _
theorem wp_at {P : Program} {c : Code} {Q : Exit → Act → World → Prop} {a : Act} {W W0 : World} (h : W = W0) (k : c.wp P Q a W0) : c.wp P Q a W := by rw [h]; exact k
theorem ptexts_l {W : World} {v v' : Value} {l l' : List ByteArray} {b : Bool} (h : SLies W v l) (h' : SLies W v' l') (hb : decide (l = l') = b) : Calls Tryz.prog 18 #[v, v'] W fun e w' => e = .returned (.bool b) ∧ Below W.heap.size W w' := by
  rw [← hb]; exact (ptexts_any _ v v' l l' W h h').mono fun _ _ ⟨h1, h2⟩ => ⟨h1, drew_below h2⟩
theorem lies_pz (W : World) : PLies W (prAgg pz sl0 sl0 sl0 sl0 sl0) pz := ⟨_, _, _, _, _, rfl, ⟨by decide, by decide⟩, nil_strs _ _, nil_vls _ _, val_leaf _ _ 0 0 0 e0 (by decide), nil_prs _ _⟩
theorem lies_g4 {W : World} {lv av tl tk kv : Value} (h : PLies W (prAgg p4 lv av tl tk kv) p4) : GLies W (pgAgg g4 sl0 lv av tl tk kv) g4 := ⟨_, _, _, _, _, _, rfl, nil_dfs _ _, h⟩
theorem two_names {w W : World} (hb : Below (w.alloc (.cells #[.string bA, .string bB] 9)).heap.size (w.alloc (.cells #[.string bA, .string bB] 9)) W) : SLies W (.slice (some ⟨w.heap.size, 0, none⟩) 2 2) [bA, bB] := by
  rw [World.size_alloc] at hb
  exact (strSl_made (w := w) (W := W) [bA, bB] hb (fun s hs => by simp at hs; rcases hs with rfl | rfl <;> decide) (by decide)).mono (fun _ hk => hk.2)

theorem lies_pz' (W : World) : PLies W (.agg #[.int .i64 0, .string ⟨#[]⟩, .string ⟨#[]⟩, .slice none 0 0, .slice none 0 0, .int .i64 0, .int .i64 0, .string ⟨#[]⟩, .int .i64 0, .slice none 0 0, .slice none 0 0, .slice none 0 0]) pz := lies_pz W
theorem dp4 : p4.depth ≤ 99999 := by decide
theorem dp4' : p4.depth ≤ 100000 := by decide
theorem dpz : pz.depth ≤ 99999 := by decide
theorem zp4 : p4.size ≤ 1000000 := by decide
theorem pre_p4 : prefixB p4.k = true := by rfl
theorem pre_p3 : prefixB p3.k = false := by rfl
theorem two_dec : decide ([bA, bB] = [bA, bB]) = true := by simp
end Go.Proofs.YtgmdmbmkljbgiaaGreatDoor
