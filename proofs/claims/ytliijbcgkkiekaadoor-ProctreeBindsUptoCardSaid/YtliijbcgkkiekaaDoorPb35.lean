/- Lists of texts that a call owns, and append to them; the names that the reference finds. (and what follows from it) -/
import Derived.Test.YtliijbcgkkiekaaDoorPb26
import Derived.Test.YtliijbcgkkiekaaDoorPb10
import Derived.Test.YtliijbcgkkiekaaDoorPb18
import Derived.Maps.AppendAt

/- Lists of texts that a call owns, and append to them; the names that the reference finds. -/
namespace Go.Proofs.YtliijbcgkkiekaaDoor
open Go.RowKit Go.Deep Go.Shelf

/-- A list of texts that lies in a row of the call's own. -/
def Row (base : Nat) (W : World) (v : Value) (l : List ByteArray) : Prop := W.ownsRow base 9 1 v l.length (l.map .string) ∧ ∀ s ∈ l, s.size ≤ maxLen
theorem Row.nil (base : Nat) (W : World) : Row base W (.slice none 0 0) [] := ⟨World.ownsRow_nil _ _ _ _, fun s h => by cases h⟩
theorem Row.empty (base : Nat) (w0 : World) (b : Nat) (hb : b = w0.heap.size) (h : base ≤ w0.heap.size) : Row base (w0.alloc (.cells #[] 9)) (.slice (some ⟨b, 0, none⟩) 0 0) [] := ⟨fresh_row' w0 base b hb h, fun s h => by cases h⟩
theorem Row.alloc {base : Nat} {W : World} {v : Value} {l : List ByteArray} (h : Row base W v l) (o : Obj) : Row base (W.alloc o) v l := ⟨h.1.alloc o, h.2⟩
theorem Row.drew {base : Nat} {W : World} {v : Value} {l : List ByteArray} (h : Row base W v l) : Row base W.drew v l := h
theorem Row.lt {base : Nat} {W : World} {v : Value} {l : List ByteArray} (h : Row base W v l) : ∀ k, v.ownBlock = some k → base ≤ k ∧ k < W.heap.size := h.1.lt
theorem Row.kept {base : Nat} {W W' : World} {v : Value} {l : List ByteArray} (h : Row base W v l) (hb : ∀ k, v.ownBlock = some k → W'.heap[k]? = W.heap[k]?) : Row base W' v l := by
  refine ⟨⟨h.1.1, ?_⟩, h.2⟩
  rcases h.1.2 with h0 | ⟨g, cap, cur, rfl, hbg, hg, r⟩
  · exact .inl h0
  · exact .inr ⟨g, cap, cur, rfl, hbg, (hb g rfl).trans hg, r⟩
theorem Row.to {base : Nat} {W W' : World} {v : Value} {l : List ByteArray} (h : Row base W v l) (hb : Below W.heap.size W W') : Row base W' v l := h.kept fun k hk => hb.block k (h.lt k hk).2
theorem Row.strs {base : Nat} {W : World} {v : Value} {l : List ByteArray} (h : Row base W v l) (hl : l.length ≤ maxLen) : (∃ a n c, v = .slice a n c) ∧ StrSl (Fresh base W.heap.size) W v l := strSl_row2 h.1 h.2 hl

theorem run_nothing (base : Nat) (ty : TypeId) (v : Value) (n : Nat) (xs : List Value) (w : World) (hown : w.ownsRow base 9 1 v n xs) (a : Option Addr) (c : Nat) :
    (Builtin.append_ #[22, 22] ty #[v, .slice a 0 c]).run Tryd.prog w = .ok v w := by
  obtain ⟨i0, hi, hz0, hz1, hz2⟩ := info_parts strInfo'
  have ht := Tryd.underlying22
  rcases hown.2 with ⟨rfl, rfl⟩ | ⟨g, cap, cur, rfl, _, _, hnc, _⟩
  · cases a with
    | none => simp [Builtin.append_, run_underlying ht, sizeOf, typeInfo, hi, Builtin.lenOf, Builtin.firstCells]
    | some ad => simp [Builtin.append_, run_underlying ht, sizeOf, typeInfo, hi, Builtin.lenOf, Builtin.firstCells, loadCells, loadCellsFrom]
  · cases a with
    | none => simp [Builtin.append_, run_underlying ht, sizeOf, typeInfo, hi, Builtin.lenOf, Builtin.firstCells, hnc, storeCells]
    | some ad => simp [Builtin.append_, run_underlying ht, sizeOf, typeInfo, hi, Builtin.lenOf, Builtin.firstCells, hnc, storeCells, loadCells, loadCellsFrom]

theorem slice_of_row {base : Nat} {W : World} {v : Value} {n : Nat} {xs : List Value} (h : W.ownsRow base 9 1 v n xs) : ∃ a m c, v = .slice a m c := by
  rcases h.2 with ⟨rfl, _⟩ | ⟨g, cap, cur, rfl, _⟩
  · exact ⟨_, _, _, rfl⟩
  · exact ⟨_, _, _, rfl⟩

/-- append of a list of texts, which may be empty, to one of the call's own, which may be nil. -/
theorem run_app (base : Nat) (ty : TypeId) (v : Value) (l : List ByteArray) (w : World) (hown : Row base w v l) (B : Nat → Prop) (na : Option Addr) (nn nc : Nat) (names : List ByteArray) (hnv : StrSl B w (.slice na nn nc) names) (h63 : l.length + names.length ≤ 1000000000) (hbase : base ≤ w.heap.size) :
    ∃ ga gn gc w', (Builtin.append_ #[22, 22] ty #[v, .slice na nn nc]).run Tryd.prog w = .ok (.slice ga gn gc) w' ∧ Row base w' (.slice ga gn gc) (l ++ names) ∧ w.grownBy w' v.ownBlock ∧ ((Value.slice ga gn gc).ownBlock = v.ownBlock ∨ (Value.slice ga gn gc).ownBlock = some w.heap.size) := by
  obtain ⟨i0, hi, hz0, hz1, hz2⟩ := info_parts strInfo'
  have hall : ∀ s ∈ l ++ names, s.size ≤ maxLen := fun s hs => by
    rcases List.mem_append.1 hs with h | h
    · exact hown.2 s h
    · exact hnv.2.2 s h
  rcases hnv.1 with ⟨⟨a, c, e⟩, rfl⟩ | ⟨b, o, c, e, _, _, hrow⟩
  · cases e
    obtain ⟨ga, gn, gc, rfl⟩ := slice_of_row hown.1
    exact ⟨_, _, _, w, run_nothing base ty _ _ _ w hown.1 na nc, by rw [List.append_nil]; exact hown, ⟨rfl, rfl, rfl, Nat.le_refl _, fun _ _ _ => rfl⟩, .inl rfl⟩
  · cases e
    obtain ⟨v', w', hr, h2, h3, h4, h5⟩ := run_append_own_at (P := Tryd.prog) w base 22 ty 9 i0 _ 1 16 Tryd.underlying22 hi hz0 hz1 hz2 rfl (by decide) _ _ _ hown.1 ⟨b, o, none⟩ names.length nc (names.map .string) (by simp) (fun j u hj => by
      rw [List.getElem?_map] at hj
      cases hx : names[j]? with
      | none => simp [hx] at hj
      | some x => simp [hx] at hj; subst hj; have hc := hrow j x hx; cases j with | zero => simpa [Addr.add] using hc | succ j => simpa [Addr.add] using hc) (fun u hu => by
      obtain ⟨x, _, rfl⟩ := List.mem_map.1 hu; rfl) (by unfold maxLen; omega) (by omega) hbase
    obtain ⟨ga, gn, gc, rfl⟩ := slice_of_row h2
    exact ⟨_, _, _, w', hr, ⟨by rw [List.length_append, List.map_append]; exact h2, hall⟩, h3, h5⟩

/-- .. at an operation of a plain region. -/
theorem wpList_app {ops : Array Oper} {rest : List Oper} {o : Oper} {a : Act} {w : World} {Q : Exit → Act → World → Prop} (hgd : o.guard = none) (s x : Operand)
    (ho : o.op = .call { callee := .builtin .append, args := #[s, x], argTypes := #[22, 22] })
    (base : Nat) (l : List ByteArray) (v : Value) (hs : a.eval s = v) (hown : Row base w v l) (B : Nat → Prop) (na : Option Addr) (nn nc : Nat) (names : List ByteArray) (hx : a.eval x = .slice na nn nc) (hnv : StrSl B w (.slice na nn nc) names) (h63 : l.length + names.length ≤ 1000000000) (hbase : base ≤ w.heap.size)
    (h : ∀ ga gn gc w', Row base w' (.slice ga gn gc) (l ++ names) → w.grownBy w' v.ownBlock → ((Value.slice ga gn gc).ownBlock = v.ownBlock ∨ (Value.slice ga gn gc).ownBlock = some w.heap.size) → wpList Tryd.prog ops Q rest (a.put o.dst (.slice ga gn gc)) w') : wpList Tryd.prog ops Q (o :: rest) a w := by
  refine wpList_plain hgd fun K hK => ?_
  obtain ⟨ga, gn, gc, w', hr, h2, h3, h4⟩ := run_app base o.type v l w hown B na nn nc names hnv h63 hbase
  unfold Oper.wp execOp
  simp only [ho, resolve, invoke, builtin, Sem.run_bind, Sem.run_pure, Result.andThen_ok, List.map_toArray, List.map_cons, List.map_nil, hs, hx, hr]
  exact hK _ _ (h ga gn gc w' h2 h3 h4)
/-- .. at a step of a region that draws its order. -/
theorem step_app {ops : Array Oper} {o : Oper} {a : Act} {w : World} {K : Act → World → Prop} {Q : Exit → Act → World → Prop} {E : Prop} (hgd : o.guard = none) (s x : Operand)
    (ho : o.op = .call { callee := .builtin .append, args := #[s, x], argTypes := #[22, 22] })
    (base : Nat) (l : List ByteArray) (v : Value) (hs : a.eval s = v) (hown : Row base w v l) (B : Nat → Prop) (na : Option Addr) (nn nc : Nat) (names : List ByteArray) (hx : a.eval x = .slice na nn nc) (hnv : StrSl B w (.slice na nn nc) names) (h63 : l.length + names.length ≤ 1000000000) (hbase : base ≤ w.heap.size)
    (m : List ByteArray) (hm : l ++ names = m)
    (h : ∀ ga gn gc w', Row base w' (.slice ga gn gc) m → w.grownBy w' v.ownBlock → K (a.put o.dst (.slice ga gn gc)) w') :
    if Region.wanted o (yielded ops a.tmps) = true then Oper.wp Tryd.prog o a w K Q else E := by
  subst hm
  have hw : Region.wanted o (yielded ops a.tmps) = true := by simp [Region.wanted, hgd]
  rw [if_pos hw]
  obtain ⟨ga, gn, gc, w', hr, h2, h3, h4⟩ := run_app base o.type v l w hown B na nn nc names hnv h63 hbase
  unfold Oper.wp execOp
  simp only [ho, resolve, invoke, builtin, Sem.run_bind, Sem.run_pure, Result.andThen_ok, List.map_toArray, List.map_cons, List.map_nil, hs, hx, hr]
  exact h ga gn gc w' h2 h3

/-! ### The names -/
theorem prefixB_eq (k : Int) : prefixB k = (decide (2 ≤ k) && decide (k ≤ 5)) := by
  unfold prefixB
  rw [Bool.eq_iff_iff]; simp; omega
/-- The names of a node, as often as they occur. -/
def Pr.ownT (p : Pr) (j : Nat) : List ByteArray := (if prefixB p.k then [p.c] else []) ++ ((p.vs.take j).filter (fun a => a.k == 1)).map (fun a => a.n)
def Pr.own (p : Pr) : List ByteArray := (if prefixB p.k then [p.c] else []) ++ (p.vs.filter (fun a => a.k == 1)).map (fun a => a.n)
theorem Pr.ownT_all {p : Pr} {j : Nat} (h : p.vs.length ≤ j) : p.ownT j = p.own := by unfold Pr.ownT Pr.own; rw [List.take_of_length_le h]
theorem Pr.ownT_yes {p : Pr} {j : Nat} {a : Vl} (h : p.vs[j]? = some a) (hk : a.k = 1) : p.ownT (j + 1) = p.ownT j ++ [a.n] := by
  unfold Pr.ownT; rw [take_snoc_get h, List.filter_append, List.map_append, ← List.append_assoc]; simp [hk]
theorem Pr.ownT_no {p : Pr} {j : Nat} {a : Vl} (h : p.vs[j]? = some a) (hk : a.k ≠ 1) : p.ownT (j + 1) = p.ownT j := by
  unfold Pr.ownT; rw [take_snoc_get h, List.filter_append, List.map_append]; simp [hk]
theorem Pr.ownT_len (p : Pr) (j : Nat) : (p.ownT j).length ≤ 1 + p.vs.length := by
  unfold Pr.ownT
  have h1 : ((p.vs.take j).filter (fun a => a.k == 1)).length ≤ p.vs.length := Nat.le_trans (List.length_filter_le _ _) (by rw [List.length_take]; omega)
  rw [List.length_append, List.length_map]
  split <;> simp <;> omega
def keepF (bd : List ByteArray) (l : List ByteArray) : List ByteArray := l.filter (fun s => !memB s bd)
theorem keepF_yes {bd l : List ByteArray} {j : Nat} {s : ByteArray} (h : l[j]? = some s) (hm : memB s bd = false) : keepF bd (l.take (j + 1)) = keepF bd (l.take j) ++ [s] := by
  unfold keepF; rw [take_snoc_get h, List.filter_append]; simp [hm]
theorem keepF_no {bd l : List ByteArray} {j : Nat} {s : ByteArray} (h : l[j]? = some s) (hm : memB s bd = true) : keepF bd (l.take (j + 1)) = keepF bd (l.take j) := by
  unfold keepF; rw [take_snoc_get h, List.filter_append]; simp [hm]
theorem keepF_len (bd l : List ByteArray) (j : Nat) : (keepF bd (l.take j)).length ≤ l.length := Nat.le_trans (List.length_filter_le _ _) (by rw [List.length_take]; omega)
mutual
/-- The names that are not bound, as often as they occur. -/
def Pr.uses : Pr → List ByteArray → List ByteArray
  | .mk k c x ls vs t ps, bd => keepF bd (Pr.mk k c x ls vs t ps).own ++ Pr.usess ps (bd ++ (Pr.mk k c x ls vs t ps).bnd)
def Pr.usess : List Pr → List ByteArray → List ByteArray
  | [], _ => []
  | p :: r, bd => p.uses bd ++ Pr.usess r bd
end
theorem Pr.uses_eq (p : Pr) (bd : List ByteArray) : p.uses bd = keepF bd p.own ++ Pr.usess p.ps (bd ++ p.bnd) := by cases p; simp only [Pr.uses, Pr.ps]
theorem Pr.usess_append (l r : List Pr) (bd : List ByteArray) : Pr.usess (l ++ r) bd = Pr.usess l bd ++ Pr.usess r bd := by
  induction l with
  | nil => simp [Pr.usess]
  | cons p l ih => rw [List.cons_append, Pr.usess, ih, Pr.usess, List.append_assoc]
theorem Pr.usess_take {l : List Pr} {j : Nat} {u : Pr} (h : l[j]? = some u) (bd : List ByteArray) : Pr.usess (l.take (j + 1)) bd = Pr.usess (l.take j) bd ++ u.uses bd := by
  rw [take_snoc_get h, Pr.usess_append]; simp [Pr.usess]
theorem Pr.own_len (p : Pr) : p.own.length ≤ 1 + p.vs.length := by
  have := p.ownT_len p.vs.length; rw [Pr.ownT_all (Nat.le_refl _)] at this; exact this
mutual
theorem Pr.uses_len : ∀ (p : Pr) (bd : List ByteArray), (p.uses bd).length ≤ p.nms
  | .mk k c x ls vs t ps, bd => by
    have h1 := Pr.usess_len ps (bd ++ (Pr.mk k c x ls vs t ps).bnd)
    have h2 := (Pr.mk k c x ls vs t ps).own_len
    have h3 : (keepF bd (Pr.mk k c x ls vs t ps).own).length ≤ (Pr.mk k c x ls vs t ps).own.length := List.length_filter_le _ _
    have h4 : (Pr.mk k c x ls vs t ps).vs.length = vs.length := rfl
    simp only [Pr.uses, Pr.nms, List.length_append]; omega
theorem Pr.usess_len : ∀ (l : List Pr) (bd : List ByteArray), (Pr.usess l bd).length ≤ Pr.nmss l
  | [], _ => by simp [Pr.usess, Pr.nmss]
  | p :: r, bd => by
    have h1 := Pr.uses_len p bd
    have h2 := Pr.usess_len r bd
    simp only [Pr.usess, Pr.nmss, List.length_append]; omega
end
/-- A name, if it is not there yet. -/
def addN (out : List ByteArray) (s : ByteArray) : List ByteArray := if memB s out then out else out ++ [s]
theorem addN_len (out : List ByteArray) (s : ByteArray) : (addN out s).length ≤ out.length + 1 := by unfold addN; split <;> simp
theorem foldN_len (l : List ByteArray) : ∀ out, (l.foldl addN out).length ≤ out.length + l.length := by
  induction l with
  | nil => intro out; simp
  | cons s r ih => intro out; rw [List.foldl_cons, List.length_cons]; have := ih (addN out s); have := addN_len out s; omega

/-- The counts and the bound names tell the same. -/
def Agree (cnt : ByteArray → Int) (bd : List ByteArray) : Prop := ∀ y, 0 ≤ cnt y ∧ (cnt y = 0 ↔ y ∉ bd)
theorem Agree.add {cnt : ByteArray → Int} {bd : List ByteArray} (h : Agree cnt bd) (s : ByteArray) : Agree (add1 cnt s) (bd ++ [s]) := fun y => by
  have hy := h y
  have hs := h s
  unfold add1
  by_cases e : y = s
  · subst e; rw [if_pos rfl]; refine ⟨by omega, ?_⟩; simp; omega
  · rw [if_neg e]; refine ⟨hy.1, ?_⟩; simp [e, hy.2]
theorem Agree.adds (l : List ByteArray) : ∀ {cnt : ByteArray → Int} {bd : List ByteArray}, Agree cnt bd → Agree (l.foldl add1 cnt) (bd ++ l) := by
  induction l with
  | nil => intro cnt bd h; simpa using h
  | cons s r ih => intro cnt bd h; rw [List.foldl_cons]; have := ih (h.add s); rwa [List.append_assoc, List.singleton_append] at this
theorem occ_addN {cnt : ByteArray → Int} {bd : List ByteArray} (h : Agree cnt bd) (out : List ByteArray) (s : ByteArray) : occ cnt out s = (keepF bd [s]).foldl addN out := by
  unfold occ keepF
  by_cases hc : cnt s = 0
  · have hm : memB s bd = false := memB_false ((h s).2.1 hc)
    simp only [hc, hm, List.filter_cons, List.filter_nil, Bool.not_false, if_true, List.foldl_cons, List.foldl_nil, true_and]
    unfold addN
    cases memB s out <;> simp
  · have hm : memB s bd = true := memB_true.2 (by
      by_cases hb : s ∈ bd
      · exact hb
      · exact absurd ((h s).2.2 hb) hc)
    simp [hc, hm]
theorem here_addN {cnt : ByteArray → Int} {bd : List ByteArray} (h : Agree cnt bd) (p : Pr) (out : List ByteArray) : p.here cnt out = (keepF bd p.own).foldl addN out := by
  have hv : ∀ (l : List Vl) (out : List ByteArray), l.foldl (occV cnt) out = (keepF bd ((l.filter (fun a => a.k == 1)).map (fun a => a.n))).foldl addN out := by
    intro l
    induction l with
    | nil => intro out; rfl
    | cons a r ih =>
      intro out
      rw [List.foldl_cons, ih]
      unfold occV
      by_cases hk : a.k = 1
      · rw [if_pos hk, occ_addN h, ← List.foldl_append]
        unfold keepF
        rw [← List.filter_append]
        simp [hk]
      · rw [if_neg hk]; simp [hk]
  unfold Pr.here Pr.own keepF
  rw [hv, List.filter_append, List.foldl_append]
  unfold keepF
  congr 1
  by_cases hp : prefixB p.k = true
  · rw [if_pos hp, if_pos hp, occ_addN h]; rfl
  · rw [if_neg hp, if_neg hp]; rfl
mutual
theorem Pr.fw_addN : ∀ (p : Pr) (cnt : ByteArray → Int) (bd out : List ByteArray), Agree cnt bd → p.fw cnt out = (p.uses bd).foldl addN out
  | .mk k c x ls vs t ps, cnt, bd, out, h => by
    rw [Pr.fw, Pr.uses, List.foldl_append, ← here_addN h, Pr.fws_addN ps _ _ _ (Agree.adds _ h)]
theorem Pr.fws_addN : ∀ (l : List Pr) (cnt : ByteArray → Int) (bd out : List ByteArray), Agree cnt bd → Pr.fws l cnt out = (Pr.usess l bd).foldl addN out
  | [], cnt, bd, out, h => by simp [Pr.fws, Pr.usess]
  | p :: r, cnt, bd, out, h => by
    rw [Pr.fws, Pr.usess, List.foldl_append, ← Pr.fw_addN p cnt bd out h, Pr.fws_addN r cnt bd _ h]
end
theorem agree_zero : Agree (fun _ => 0) [] := fun y => ⟨Int.le_refl _, by simp⟩
/-- What the program finds is what the reference finds. -/
theorem Pr.free_uses (p : Pr) : p.free = (p.uses []).foldl addN [] := Pr.fw_addN p _ _ _ agree_zero

end Go.Proofs.YtliijbcgkkiekaaDoor
