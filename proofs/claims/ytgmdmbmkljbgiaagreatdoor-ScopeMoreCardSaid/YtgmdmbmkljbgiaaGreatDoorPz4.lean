/- Scopes: sets of texts as maps, numbers of parameters, and what the names and calls of a program ask. (and what follows from it) -/
import Derived.Test.YtgmdmbmkljbgiaaGreatDoorPz3
import Derived.Test.YtgmdmbmkljbgiaaGreatDoorPz1
import Derived.Test.YtgmdmbmkljbgiaaGreatDoorPz2
import Derived.Test.YtgmdmbmkljbgiaaGreatDoorTyQ
import Derived.Test.YtgmdmbmkljbgiaaGreatDoorRows
import Derived.Maps.OwnSet
import Derived.Maps.OwnOps
import Derived.Deep.RegionWith
import Derived.Deep.Cut
import Derived.Shelf.SlMaps.Clone
import Derived.Ground.SlmcProg
import Derived.RangeFuncBox
import Derived.LaidLaws
import Derived.LaidMore
import Derived.MakeChecks
import Derived.OpenShut
import Derived.ChangeArms
import Derived.WalkKit
import Derived.ProofKit
import Derived.Deep.DeepHandedRow
import Derived.Deep.Slices
import Derived.Deep.Fields
import Derived.ChangeSame
import Derived.Carry

/- Scopes: sets of texts as maps, numbers of parameters, and what the names and calls of a program ask. -/
namespace Go.Proofs.YtgmdmbmkljbgiaaGreatDoor
open Go.RowKit Go.Deep Go.Shelf

/-! ### Lists of texts -/
theorem memB_append (s : ByteArray) (l r : List ByteArray) : memB s (l ++ r) = (memB s l || memB s r) := by simp [memB]
theorem memB_nil (s : ByteArray) : memB s [] = false := rfl
theorem memB_one (s x : ByteArray) : memB s [x] = decide (x = s) := by simp [memB]
theorem memB_cons (s x : ByteArray) (l : List ByteArray) : memB s (x :: l) = (decide (x = s) || memB s l) := by simp [memB]
/-- Some text stands twice. -/
def dups : List ByteArray → Bool
  | [] => false
  | x :: r => memB x r || dups r
theorem dups_snoc (l : List ByteArray) (x : ByteArray) : dups (l ++ [x]) = (dups l || memB x l) := by
  induction l with
  | nil => rfl
  | cons y r ih =>
    rw [List.cons_append, dups, ih, memB_append, dups, memB_one, memB_cons, show decide (x = y) = decide (y = x) from by simp [eq_comm]]
    cases memB y r <;> cases dups r <;> cases decide (y = x) <;> cases memB x r <;> rfl
theorem dups_mono (l : List ByteArray) {j : Nat} (h : dups (l.take j) = true) : dups l = true := by
  have h1 : ∀ (a r : List ByteArray), dups a = true → dups (a ++ r) = true := by
    intro a r
    induction a with
    | nil => intro h; cases h
    | cons y a ih =>
      intro h
      rw [List.cons_append, dups, memB_append]
      rw [dups] at h
      cases hm : memB y a with
      | true => simp
      | false => rw [hm] at h; simp at h; rw [ih h]; simp
  rw [← List.take_append_drop j l]; exact h1 _ _ h

theorem intInfoS : (Tryz.prog.info? 3).map (fun i => (i.zero, i.size, i.bytes)) = some (some (.int .i64 0), 1, 8) := by kernel_rfl
theorem zero_intS (w : World) : (zeroValue 3).run Tryz.prog w = .ok (.int .i64 0) w := by
  obtain ⟨i0, hi, hz0, hz1, hz2⟩ := info_parts intInfoS
  simp [zeroValue, typeInfo, hi, hz0]

/-! ### Sets of texts -/
theorem boolKeyed : Maps.Keyed Tryz.prog 9 := Maps.string_keyed Tryz.underlying9
/-- Block b is a map that holds the texts of l, in at most n entries. -/
def SetIs (w : World) (b n : Nat) (l : List ByteArray) : Prop := ∃ D : DataW Unit, w.ownsMap Tryz.prog 9 (plainElem Tryz.prog 4) b n D ∧ (∀ s : ByteArray, Maps.has D (.string s.data.toList) = memB s l ∧ D.atKey (.string s.data.toList) (.lit (.bool false)) = .lit (.bool (memB s l))) ∧ Maps.size D ≤ l.length ∧ (Maps.size D < l.length ↔ dups l = true)
theorem SetIs.seen {w : World} {b n : Nat} {l : List ByteArray} (h : SetIs w b n l) : Seen w b n l := by
  obtain ⟨D, ho, hf, _⟩ := h; exact ⟨D, ho, fun s => (hf s).2⟩
theorem SetIs.look {w : World} {b n : Nat} {l : List ByteArray} (h : SetIs w b n l) {s : ByteArray} (hs : s.size ≤ maxLen) : (Instr.lookup 67 (.map (some b)) (.string s) false).run Tryz.prog w = .ok (.bool (memB s l)) w := h.seen.look hs
theorem SetIs.made (w : World) : SetIs (w.alloc (.map #[] 0)) w.heap.size 0 [] := ⟨.map [], World.ownsMap_made w _ _ _, fun _ => ⟨rfl, rfl⟩, by simp [Maps.size_eq], by simp [Maps.size_eq, dups]⟩
theorem SetIs.kept {w w' : World} {b n : Nat} {l : List ByteArray} (h : SetIs w b n l) {row : Option Nat} (hg : w.grownBy w' row) (hne : some b ≠ row) : SetIs w' b n l := by
  obtain ⟨D, ho, hf⟩ := h; exact ⟨D, ho.kept hg hne, hf⟩
theorem SetIs.lt {w : World} {b n : Nat} {l : List ByteArray} (h : SetIs w b n l) : b < w.heap.size := by obtain ⟨D, ho, _⟩ := h; exact ho.lt
theorem SetIs.below {w w' : World} {b n m : Nat} {l : List ByteArray} (h : SetIs w b n l) (hb : Below m w w') (hm : b < m) : SetIs w' b n l := by
  obtain ⟨D, ⟨es, clock, h1, r⟩, hf⟩ := h
  exact ⟨D, ⟨es, clock, (hb.block b hm).trans h1, r⟩, hf⟩
theorem SetIs.put {w : World} {b n : Nat} {l : List ByteArray} (h : SetIs w b n l) (hn : n < maxLen) {s : ByteArray} (hs : s.size ≤ maxLen) :
    ∃ w', (Instr.mapUpdate 67 (.map (some b)) (.string s) (.bool true)).run Tryz.prog w = .ok () w' ∧ SetIs w' b (n + 1) (l ++ [s]) ∧ w.grownBy w' (some b) := by
  obtain ⟨D, ho, hf, h1, h2⟩ := h
  obtain ⟨w', hr, ho', ht⟩ := ho.store boolKeyed Tryz.underlying67 hn (Go.WideMaps.keyOf_string_mk Tryz.underlying9 hs) (plainElem_bool Tryz.underlying4 true)
  have hk : WideAt.IsKeyLit (Lit.string s.data.toList) := by first | trivial | simp [WideAt.IsKeyLit]
  have hsz := Maps.size_put (k := Lit.string s.data.toList) (ho.tidy boolKeyed) (DataW.lit (H := Unit) (.bool true))
  rw [(hf s).1] at hsz
  have hd := dups_snoc l s
  refine ⟨w', hr, ⟨_, ho', fun x => ?_, ?_, ?_⟩, ht.grown⟩
  · by_cases e : x = s
    · subst e
      rw [Maps.atKey_put_same ho.isMap hk, Maps.has_put_same ho.isMap hk]
      have : memB x (l ++ [x]) = true := memB_true.2 (by simp)
      rw [this]; exact ⟨rfl, rfl⟩
    · have e1 : Lit.string x.data.toList ≠ Lit.string s.data.toList := fun h => e (by
        have := Lit.string.inj h
        cases x; cases s; simp at this; congr 1)
      rw [Maps.atKey_put_other e1, Maps.has_put_other e1, memB_append, memB_one]
      have e' : decide (s = x) = false := by simpa using fun h => e h.symm
      rw [e', Bool.or_false]; exact hf x
  · rw [List.length_append, List.length_singleton]; split at hsz <;> omega
  · rw [List.length_append, List.length_singleton, hd]
    cases hm : memB s l with
    | true => rw [hm] at hsz; simp at hsz; simp; omega
    | false => rw [hm] at hsz; simp at hsz; rw [Bool.or_false, ← h2]; omega
theorem SetIs.len {w : World} {b n : Nat} {l : List ByteArray} (h : SetIs w b n l) (ty : TypeId) :
    ∃ q : Nat, (Builtin.len_ #[67] ty #[.map (some b)]).run Tryz.prog w = .ok (.int .i64 q) w ∧ q ≤ l.length ∧ (q < l.length ↔ dups l = true) := by
  obtain ⟨D, ho, hf, h1, h2⟩ := h
  exact ⟨_, ho.len Tryz.underlying67 ty, h1, h2⟩

/-! ### Numbers by texts -/
def ArIs (w : World) (b n : Nat) (ar : ByteArray → Option Nat) : Prop := ∃ f : Lit → Option Value, MapIs w 9 b n f ∧ ∀ s : ByteArray, f (.string s.data.toList) = (ar s).map (fun k => Value.int .i64 (k : Int))
theorem ArIs.lt {w : World} {b n : Nat} {ar : ByteArray → Option Nat} (h : ArIs w b n ar) : b < w.heap.size := by obtain ⟨f, hm, _⟩ := h; exact hm.lt
theorem ArIs.below {w w' : World} {b n m : Nat} {ar : ByteArray → Option Nat} (h : ArIs w b n ar) (hb : Below m w w') (hm : b < m) : ArIs w' b n ar := by
  obtain ⟨f, h1, h2⟩ := h; exact ⟨f, h1.below hb hm, h2⟩
theorem ArIs.made (w : World) : ArIs (w.alloc (.map #[] 0)) w.heap.size 0 (fun _ => none) := ⟨_, MapIs.made _ _, fun _ => rfl⟩
theorem ArIs.look_ok {w : World} {b n : Nat} {ar : ByteArray → Option Nat} (h : ArIs w b n ar) {s : ByteArray} (hs : s.size ≤ maxLen) {r : Option Nat} (hr : ar s = r) : (Instr.lookup 62 (.map (some b)) (.string s) true).run Tryz.prog w = .ok (.tuple #[.int .i64 ((r.getD 0 : Nat) : Int), .bool r.isSome]) w := by
  obtain ⟨f, hm, hf⟩ := h
  rw [hm.look_ok boolKeyed Tryz.underlying62 (zero_intS w) (Go.WideMaps.keyOf_string_mk Tryz.underlying9 hs), hf, hr]
  cases r <;> rfl
theorem ArIs.put {w : World} {b n : Nat} {ar : ByteArray → Option Nat} (h : ArIs w b n ar) (hn : n < maxLen) {s : ByteArray} (hs : s.size ≤ maxLen) (x : Nat) :
    ∃ w', (Instr.mapUpdate 62 (.map (some b)) (.string s) (.int .i64 (x : Int))).run Tryz.prog w = .ok () w' ∧ ArIs w' b (n + 1) (fun y => if y = s then some x else ar y) ∧ w.grownBy w' (some b) := by
  obtain ⟨f, hm, hf⟩ := h
  obtain ⟨w', hr, hm', hg⟩ := hm.put boolKeyed Tryz.underlying62 hn (Go.WideMaps.keyOf_string_mk Tryz.underlying9 hs) (by first | trivial | simp [WideAt.IsKeyLit]) (val := .int .i64 (x : Int))
  refine ⟨w', hr, ⟨_, hm', fun y => ?_⟩, hg⟩
  by_cases e : y = s
  · subst e; simp
  · have e' : ¬ (Lit.string y.data.toList = Lit.string s.data.toList) := fun h => e (by
      have := Lit.string.inj h
      cases y; cases s; simp at this; congr 1)
    simp only [if_neg e', if_neg e]
    exact hf y

/-! ### What is asked -/
/-- The numbers of parameters by names: of the last definition with the name. -/
def arOf : List Df → ByteArray → Option Nat
  | [], _ => none
  | d :: r, s => match arOf r s with
    | some k => some k
    | none => if s = d.n then some d.ms.length else none
theorem arOf_snoc (l : List Df) (d : Df) (s : ByteArray) : arOf (l ++ [d]) s = if s = d.n then some d.ms.length else arOf l s := by
  induction l with
  | nil => simp [arOf]
  | cons x r ih =>
    rw [List.cons_append, arOf, ih, arOf]
    by_cases e : s = d.n
    · simp [e]
    · simp [e]
/-- That of the first one. -/
def arFst : List Df → ByteArray → Option Nat
  | [], _ => none
  | d :: r, s => if s = d.n then some d.ms.length else arFst r s
theorem arFst_none {l : List Df} {s : ByteArray} (h : memB s (l.map Df.n) = false) : arFst l s = none := by
  induction l with
  | nil => rfl
  | cons d r ih =>
    rw [List.map_cons, memB_cons, Bool.or_eq_false_iff] at h
    rw [arFst, if_neg (fun e => by simp [e] at h), ih h.2]
theorem arOf_none {l : List Df} {s : ByteArray} (h : memB s (l.map Df.n) = false) : arOf l s = none := by
  induction l with
  | nil => rfl
  | cons d r ih =>
    rw [List.map_cons, memB_cons, Bool.or_eq_false_iff] at h
    rw [arOf, ih h.2]
    simp only
    rw [if_neg (fun e => by simp [e] at h)]
theorem arOf_fst {l : List Df} (h : dups (l.map Df.n) = false) (s : ByteArray) : arOf l s = arFst l s := by
  induction l with
  | nil => rfl
  | cons d r ih =>
    rw [List.map_cons, dups, Bool.or_eq_false_iff] at h
    rw [arOf, arFst]
    by_cases e : s = d.n
    · subst e
      rw [arOf_none h.1]; simp
    · rw [ih h.2, if_neg e, if_neg e]
      cases arFst r s <;> rfl

def badArg (sc : List ByteArray) (a : Vl) : Bool := decide (a.k = 1) && !memB a.n sc
/-- The error of a call, but for its arguments' names. -/
def callE (r : Option Nat) (n : Nat) (g : Bool) : Int := match r with
  | none => 4
  | some k => if k = n then (if g then 0 else 7) else 6
def Pr.nodeE (ar : ByteArray → Option Nat) (sc : List ByteArray) (g : Bool) (p : Pr) : Int :=
  if (prefixB p.k && !memB p.c sc) = true then 4
  else if p.vs.any (badArg sc) = true then 4
  else if p.bnd.any (fun s => memB s sc) = true then 5
  else if p.k = 8 then callE (ar p.c) p.vs.length g
  else 0
mutual
/-- The error of the first node that has one. -/
def Pr.scE (ar : ByteArray → Option Nat) : Pr → List ByteArray → Bool → Int
  | .mk k c x ls vs t ps, sc, g => if (Pr.mk k c x ls vs t ps).nodeE ar sc g = 0 then Pr.scEs ar ps (sc ++ (Pr.mk k c x ls vs t ps).bnd) (g || prefixB k) else (Pr.mk k c x ls vs t ps).nodeE ar sc g
def Pr.scEs (ar : ByteArray → Option Nat) : List Pr → List ByteArray → Bool → Int
  | [], _, _ => 0
  | p :: r, sc, g => if p.scE ar sc g = 0 then Pr.scEs ar r sc g else p.scE ar sc g
end
theorem Pr.scE_eq (ar : ByteArray → Option Nat) (p : Pr) (sc : List ByteArray) (g : Bool) : p.scE ar sc g = if p.nodeE ar sc g = 0 then Pr.scEs ar p.ps (sc ++ p.bnd) (g || prefixB p.k) else p.nodeE ar sc g := by cases p; simp [Pr.scE, Pr.ps, Pr.k]
theorem Pr.scEs_append {ar : ByteArray → Option Nat} {l : List Pr} {sc : List ByteArray} {g : Bool} (h : Pr.scEs ar l sc g = 0) (r : List Pr) : Pr.scEs ar (l ++ r) sc g = Pr.scEs ar r sc g := by
  induction l with
  | nil => rfl
  | cons p l ih =>
    rw [Pr.scEs] at h
    by_cases hp : p.scE ar sc g = 0
    · rw [if_pos hp] at h
      rw [List.cons_append, Pr.scEs, if_pos hp]; exact ih h
    · rw [if_neg hp] at h; exact absurd h hp
theorem Pr.scEs_next {ar : ByteArray → Option Nat} {l : List Pr} {sc : List ByteArray} {g : Bool} {j : Nat} {u : Pr} (hu : l[j]? = some u) (h : Pr.scEs ar (l.take j) sc g = 0) {x : Int} (hx : u.scE ar sc g = x) :
    Pr.scEs ar (l.take (j + 1)) sc g = x ∧ (x ≠ 0 → Pr.scEs ar l sc g = x) := by
  refine ⟨?_, fun h0 => ?_⟩
  · rw [take_snoc_get hu, Pr.scEs_append h, Pr.scEs, hx]
    by_cases h0 : x = 0
    · rw [if_pos h0, h0]; rfl
    · rw [if_neg h0]
  · have hjl : j < l.length := (List.getElem?_eq_some_iff.1 hu).1
    have e : l = l.take j ++ u :: l.drop (j + 1) := by
      conv => lhs; rw [← List.take_append_drop j l, List.drop_eq_getElem_cons hjl]
      congr 2
      exact (List.getElem?_eq_some_iff.1 hu).2
    rw [e, Pr.scEs_append h, Pr.scEs, hx, if_neg h0]

/-- The names and the parameters of a definition are not new. -/
def twiceAt (ds : List Df) (i : Nat) : Bool := match ds[i]? with
  | some d => memB d.n ((ds.take i).map Df.n) || dups (d.ms.map Pm.n)
  | none => false
def twF (ds : List Df) : Option Nat := (List.range ds.length).find? (twiceAt ds)
/-- The error of a body, Main last. -/
def Pg.bE (g : Pg) (ar : ByteArray → Option Nat) (i : Nat) : Int := match g.ds[i]? with
  | some d => d.b.scE ar (d.ms.map Pm.n) false
  | none => g.m.scE ar [] true
def Pg.bF (g : Pg) : Option Nat := (List.range (g.ds.length + 1)).find? (fun i => g.bE (arOf g.ds) i != 0)
theorem range_find {n i : Nat} {p : Nat → Bool} (hi : i < n) (h : ∀ j, j < i → p j = false) (hp : p i = true) : (List.range n).find? p = some i := by
  rw [List.find?_range_eq_some]
  exact ⟨hp, List.mem_range.2 hi, fun j hj => by simp [h j hj]⟩
theorem range_find_none {n : Nat} {p : Nat → Bool} (h : ∀ j, j < n → p j = false) : (List.range n).find? p = none := by
  rw [List.find?_eq_none]; intro j hj; simp [h j (List.mem_range.1 hj)]

end Go.Proofs.YtgmdmbmkljbgiaaGreatDoor

/- Scopes: has, callError, bound. -/
namespace Go.Proofs.YtgmdmbmkljbgiaaGreatDoor
open Go.RowKit Go.Deep Go.Shelf

/-- A set of texts that may be nil. -/
def NSet (w : World) (q : Option Nat) (l : List ByteArray) : Prop := (q = none ∧ l = []) ∨ ∃ b, q = some b ∧ SetIs w b l.length l
theorem NSet.look {w : World} {q : Option Nat} {l : List ByteArray} (h : NSet w q l) {s : ByteArray} (hs : s.size ≤ maxLen) : (Instr.lookup 67 (.map q) (.string s) false).run Tryz.prog w = .ok (.bool (memB s l)) w := by
  rcases h with ⟨rfl, rfl⟩ | ⟨b, rfl, h⟩
  · exact Maps.look_nil false boolKeyed Tryz.underlying67 (zero_bool w) (Go.WideMaps.keyOf_string_mk Tryz.underlying9 hs)
  · exact h.look hs
theorem NSet.to {w w' : World} {q : Option Nat} {l : List ByteArray} (h : NSet w q l) (hb : Below w.heap.size w w') : NSet w' q l := by
  rcases h with h | ⟨b, e, h⟩
  · exact .inl h
  · exact .inr ⟨b, e, h.below hb h.lt⟩
theorem ArIs.to {w w' : World} {b n : Nat} {ar : ByteArray → Option Nat} (h : ArIs w b n ar) (hb : Below w.heap.size w w') : ArIs w' b n ar := h.below hb h.lt
/-- The three cells of a place. -/
abbrev plc (pq aq : Option Nat) (g : Bool) : Value := .agg #[.map pq, .map aq, .bool g]
abbrev cell3 (pq aq : Option Nat) (g : Bool) : Obj := .cells #[.map pq, .map aq, .bool g] 69
/-- What a place says. -/
structure Plc (w : World) (pq aq : Option Nat) (sc : List ByteArray) (n : Nat) : Prop where
  sets : ∃ ps us : List ByteArray, NSet w pq ps ∧ NSet w aq us ∧ aq.isSome = true ∧ us.length ≤ n ∧ ∀ s, memB s sc = (memB s ps || memB s us)
theorem Plc.to {w w' : World} {pq aq : Option Nat} {sc : List ByteArray} {n : Nat} (h : Plc w pq aq sc n) (hb : Below w.heap.size w w') : Plc w' pq aq sc n := by
  obtain ⟨ps, us, h1, h2, h3⟩ := h.sets; exact ⟨ps, us, h1.to hb, h2.to hb, h3⟩

set_option maxHeartbeats 1000000 in
theorem has_any (pq aq : Option Nat) (g : Bool) (sc : List ByteArray) (n : Nat) (s : ByteArray) (hs : s.size ≤ maxLen) (m : Bool) (hm : memB s sc = m) (w : World) (h : Plc w pq aq sc n) :
    Calls Tryz.prog 64 #[.agg #[.map pq, .map aq, .bool g], .string s] w fun e w' => e = .returned (.bool m) ∧ Below w.heap.size w w' := by
  have hb0 := blkBelow w #[.map pq, .map aq, .bool g] 69
  obtain ⟨ps, us, h1, h2, _, _, h3⟩ := (h.to hb0).sets
  have l1 := h1.look hs
  have l2 := h2.look hs
  rw [h3] at hm
  have HB := Lib.hid hb0
  clear hb0 h h1 h2 h3
  obtain ⟨m1, hm1⟩ : ∃ x, memB s ps = x := ⟨_, rfl⟩
  obtain ⟨m2, hm2⟩ : ∃ x, memB s us = x := ⟨_, rfl⟩
  rw [hm1, hm2] at hm
  rw [hm1] at l1
  rw [hm2] at l2
  clear hm1 hm2
  subst hm
  cases m1
  · go_enter Tryz.func64, Tryz.ntmps64
    go_wp2_with fail
    go_ret
    exact ⟨by first | rfl | simp, HB.out⟩
  · go_enter Tryz.func64, Tryz.ntmps64
    go_wp2_with fail
    go_ret
    exact ⟨by first | rfl | simp, HB.out⟩

set_option maxHeartbeats 1000000 in
theorem callError_any (S : Nat → Prop) (p : Pr) (b o : Nat) (g : Bool) (ab n : Nat) (ar : ByteArray → Option Nat) (w : World) (hS : Low S w) (hp : PrAt S w p b o) (ha : ArIs w ab n ar) (r : Int) (hr : callE (ar p.c) p.vs.length g = r) :
    Calls Tryz.prog 65 #[.pointer (some ⟨b, o, none⟩), .bool g, .map (some ab)] w fun e w' => e = .returned (.int .i64 r) ∧ Below w.heap.size w w' := by
  obtain ⟨hSb, ⟨hc, hx⟩, ⟨c0, c1, c2⟩, _, lv, av, kv, c3, c4, c11, _, hv, _⟩ := PrAt.eq.1 hp
  have hbl := hS b hSb
  obtain ⟨aa, an, ac, rfl, hal, ham, _⟩ := hv.open
  obtain ⟨x, hx'⟩ : ∃ x, ar p.c = x := ⟨_, rfl⟩
  have hlk := ha.look_ok hc hx'
  rw [hx', ← hal.out] at hr
  clear hp ha hc hx hv hal hx' c0 c2 c3 c11
  subst hr
  cases x with
  | none =>
    simp only [Option.getD, Option.isSome] at hlk
    go_enter Tryz.func65, Tryz.ntmps65
    go_wp2_with fail
    go_ret
    exact ⟨rfl, Below.refl _ _⟩
  | some k =>
    simp only [Option.getD, Option.isSome] at hlk
    by_cases hk : k = an
    · subst hk
      cases g
      · go_enter Tryz.func65, Tryz.ntmps65
        go_wp2_with fail
        go_ret
        exact ⟨ret_int (by simp [callE]), Below.refl _ _⟩
      · go_enter Tryz.func65, Tryz.ntmps65
        go_wp2_with fail
        go_ret
        exact ⟨ret_int (by simp [callE]), Below.refl _ _⟩
    · have hk1 : ((k : Int) == (an : Int)) = false := by simp; omega
      have hk2 : ((k : Int) != (an : Int)) = true := by simp; omega
      have HK := Lib.hid hk
      clear hk
      go_enter Tryz.func65, Tryz.ntmps65
      go_wp2_with fail
      go_ret
      exact ⟨ret_int (by have := HK.out; simp [callE, this]), Below.refl _ _⟩

set_option maxHeartbeats 1000000 in
theorem bound_any (S : Nat → Prop) (p : Pr) (b o : Nat) (w : World) (hS : Low S w) (hp : PrAt S w p b o) :
    Calls Tryz.prog 40 #[.pointer (some ⟨b, o, none⟩)] w (StrRet w p.bnd) := by
  obtain ⟨hSb, ⟨hc, hx⟩, ⟨c0, c1, c2⟩, _⟩ := PrAt.eq.1 hp
  have hbl := hS b hSb
  unfold Pr.bnd
  obtain ⟨k, hk⟩ : ∃ k, p.k = k := ⟨_, rfl⟩
  rw [hk] at c0 ⊢
  have HC := Lib.hid hc
  have HX := Lib.hid hx
  clear hp hk hc hx
  by_cases h3 : k = 3
  · subst h3
    rw [if_pos rfl]
    go_enter Tryz.func40, Tryz.ntmps40
    go_wp2_with fail
    go_ret
    exact ⟨_, _, _, rfl, strSl_made [p.x] (Below.refl _ _) (fun s hs => by rw [List.mem_singleton.1 hs]; exact HX.out) (by simp [maxLen]), blkBelow w _ _⟩
  · have h3' : (k == 3) = false := by simpa using h3
    rw [if_neg h3]
    clear h3
    by_cases h6 : k = 6
    · subst h6
      rw [if_pos rfl]
      go_enter Tryz.func40, Tryz.ntmps40
      go_wp2_with fail
      go_region
      all_goals
        go_wp2_with fail
        go_ret
        exact ⟨_, _, _, rfl, strSl_made [p.c, p.x] (Below.refl _ _).drew (fun s hs => by
          rcases List.mem_cons.1 hs with e | hs
          · rw [e]; exact HC.out
          · rw [List.mem_singleton.1 hs]; exact HX.out) (by simp [maxLen]), (blkBelow w _ _).drew⟩
    · have h6' : (k == 6) = false := by simpa using h6
      rw [if_neg h6]
      clear h6
      go_enter Tryz.func40, Tryz.ntmps40
      go_wp2_with fail
      go_ret
      exact ⟨_, _, _, rfl, ⟨.inl ⟨⟨_, _, rfl⟩, rfl⟩, by simp [maxLen]⟩, Below.refl _ _⟩

end Go.Proofs.YtgmdmbmkljbgiaaGreatDoor

/- Scopes: nodeError. -/
namespace Go.Proofs.YtgmdmbmkljbgiaaGreatDoor
open Go.RowKit Go.Deep Go.Shelf

theorem any_take {α : Type} {l : List α} {j : Nat} {x : α} (f : α → Bool) (h : l[j]? = some x) (ht : (l.take j).any f = false) : (l.take (j + 1)).any f = f x ∧ (f x = true → l.any f = true) := by
  refine ⟨?_, fun hx => ?_⟩
  · rw [take_snoc_get h, List.any_append, ht]; simp
  · rw [List.any_eq_true]; exact ⟨x, List.mem_of_getElem? h, hx⟩
theorem Pr.nodeE_4a {ar : ByteArray → Option Nat} {sc : List ByteArray} {g : Bool} {p : Pr} (h : (prefixB p.k && !memB p.c sc) = true) : p.nodeE ar sc g = 4 := by unfold Pr.nodeE; rw [if_pos h]
theorem Pr.nodeE_4b {ar : ByteArray → Option Nat} {sc : List ByteArray} {g : Bool} {p : Pr} (h : (prefixB p.k && !memB p.c sc) = false) (h2 : p.vs.any (badArg sc) = true) : p.nodeE ar sc g = 4 := by unfold Pr.nodeE; rw [if_neg (by rw [h]; simp), if_pos h2]
theorem Pr.nodeE_5 {ar : ByteArray → Option Nat} {sc : List ByteArray} {g : Bool} {p : Pr} (h : (prefixB p.k && !memB p.c sc) = false) (h2 : p.vs.any (badArg sc) = false) (h3 : p.bnd.any (fun s => memB s sc) = true) : p.nodeE ar sc g = 5 := by unfold Pr.nodeE; rw [if_neg (by rw [h]; simp), if_neg (by rw [h2]; simp), if_pos h3]
theorem Pr.nodeE_8 {ar : ByteArray → Option Nat} {sc : List ByteArray} {g : Bool} {p : Pr} (h : (prefixB p.k && !memB p.c sc) = false) (h2 : p.vs.any (badArg sc) = false) (h3 : p.bnd.any (fun s => memB s sc) = false) (h8 : p.k = 8) : p.nodeE ar sc g = callE (ar p.c) p.vs.length g := by unfold Pr.nodeE; rw [if_neg (by rw [h]; simp), if_neg (by rw [h2]; simp), if_neg (by rw [h3]; simp), if_pos h8]
theorem Pr.nodeE_0 {ar : ByteArray → Option Nat} {sc : List ByteArray} {g : Bool} {p : Pr} (h : (prefixB p.k && !memB p.c sc) = false) (h2 : p.vs.any (badArg sc) = false) (h3 : p.bnd.any (fun s => memB s sc) = false) (h8 : p.k ≠ 8) : p.nodeE ar sc g = 0 := by unfold Pr.nodeE; rw [if_neg (by rw [h]; simp), if_neg (by rw [h2]; simp), if_neg (by rw [h3]; simp), if_neg h8]

set_option maxHeartbeats 8000000 in
set_option maxRecDepth 100000 in
theorem snodeError_any (S : Nat → Prop) (p : Pr) (b o : Nat) (pq aq : Option Nat) (g : Bool) (sc : List ByteArray) (n ab nn : Nat) (ar : ByteArray → Option Nat) (w : World) (hS : Low S w) (hp : PrAt S w p b o) (hpl : Plc w pq aq sc n) (ha : ArIs w ab nn ar) (r : Int) (hr : p.nodeE ar sc g = r) :
    Calls Tryz.prog 50 #[.pointer (some ⟨b, o, none⟩), .agg #[.map pq, .map aq, .bool g], .map (some ab)] w fun e w' => e = .returned (.int .i64 r) ∧ Below w.heap.size w w' := by
  have hb0 : Below w.heap.size w (w.alloc (cell3 pq aq g)) := blkBelow w _ _
  have hlow : ∀ W, Below (w.heap.size + 1) (w.alloc (cell3 pq aq g)) W → Below w.heap.size w W := fun W hW => blk_below hW
  have CZ : Hid (∀ W, Below (w.heap.size + 1) (w.alloc (cell3 pq aq g)) W → W.cell? ⟨w.heap.size, 0, none⟩ = some (.map pq) ∧ W.cell? ⟨w.heap.size, 1, none⟩ = some (.map aq) ∧ W.cell? ⟨w.heap.size, 2, none⟩ = some (.bool g)) := Lib.hid (fun W hW => ⟨blk_cell hW 0 rfl, blk_cell hW 1 rfl, blk_cell hW 2 rfl⟩)
  have hp0 := hp
  obtain ⟨hSb, ⟨hcz, hxz⟩, ⟨d0, d1, d2⟩, hty, lv, av, kv, d3, d4, d11, hl, hv, hk⟩ := PrAt.eq.1 hp
  obtain ⟨aa, an, ac, rfl, hal, ham, hag⟩ := hv.open
  obtain ⟨la1, ln1, lc1, aa1, an1, ac1, ta1, tn1, tc1, ua1, un1, uc1, ka1, kn1, kc1, ⟨c0, c1, c2, c3, c4, c5, c6, c7, c8, c9, c10, c11⟩, hval⟩ := hp.load'
  have hbl := hS b hSb
  have e4 := c4.symm.trans d4
  simp only [Option.some.injEq, Value.slice.injEq] at e4
  obtain ⟨rfl, rfl, rfl⟩ := e4
  have HP : Hid (∀ W, Below (w.heap.size + 1) (w.alloc (cell3 pq aq g)) W → PrAt S W p b o ∧ Low S W ∧ Plc W pq aq sc n ∧ ArIs W ab nn ar) := Lib.hid (fun W hW => ⟨PrAt.keep ((hlow W hW).keeps'.mono hS) _ _ _ hp0, hS.le (hlow W hW).size, hpl.to (hlow W hW), ha.to (hlow W hW)⟩)
  have HC : Hid (∀ W, Below (w.heap.size + 1) (w.alloc (cell3 pq aq g)) W → W.cell? ⟨b, o, none⟩ = some (.int .i64 p.k) ∧ W.cell? ⟨b, o + 4, none⟩ = some (.slice aa1 an1 ac1)) := Lib.hid (fun W hW => ⟨((hlow W hW).cell (p := ⟨b, _, none⟩) hbl).trans c0, ((hlow W hW).cell (p := ⟨b, _, none⟩) hbl).trans c4⟩)
  have HAG : Hid (∀ (i : Nat) (a : Vl), p.vs[i]? = some a → a.n.size ≤ maxLen ∧ ∃ gb go, aa1 = some ⟨gb, go, none⟩ ∧ gb < w.heap.size ∧ ∀ W, Below w.heap.size w W → W.cell? ⟨gb, go + i * 3, none⟩ = some (.int .i64 a.k) ∧ W.cell? ⟨gb, go + i * 3 + 1, none⟩ = some (.string a.n) ∧ W.cell? ⟨gb, go + i * 3 + 2, none⟩ = some (.int .i64 a.x)) := Lib.hid (fun i a hi => by
    obtain ⟨h1, gb, go, e, hgb, q0, q1, q2⟩ := hag i a hi
    have hgb' := hS gb hgb
    exact ⟨h1, gb, go, e, hgb', fun W hW => ⟨(hW.cell (p := ⟨gb, _, none⟩) hgb').trans q0, (hW.cell (p := ⟨gb, _, none⟩) hgb').trans q1, (hW.cell (p := ⟨gb, _, none⟩) hgb').trans q2⟩⟩)
  have HLow := Lib.hid hlow
  have HAL := Lib.hid hal.out
  obtain ⟨pb, hpb⟩ : ∃ x, prefixB p.k = x := ⟨_, rfl⟩
  obtain ⟨mc, hmc⟩ : ∃ x, memB p.c sc = x := ⟨_, rfl⟩
  have HPX : Hid (∀ W, Below (w.heap.size + 1) (w.alloc (cell3 pq aq g)) W → Calls Tryz.prog 63 #[prAgg p (.slice la1 ln1 lc1) (.slice aa1 an1 ac1) (.slice ta1 tn1 tc1) (.slice ua1 un1 uc1) (.slice ka1 kn1 kc1)] W fun e w' => e = .returned (.bool pb) ∧ Below W.heap.size W w') := Lib.hid (fun W hW => by
    rw [← hpb]
    exact pprefix_any S p _ W (hval.keep ((hlow W hW).keeps'.mono hS)))
  have HHC : Hid (∀ W, Below (w.heap.size + 1) (w.alloc (cell3 pq aq g)) W → Calls Tryz.prog 64 #[.agg #[.map pq, .map aq, .bool g], .string p.c] W fun e w' => e = .returned (.bool mc) ∧ Below W.heap.size W w') := Lib.hid (fun W hW => has_any pq aq g sc n p.c hcz mc hmc W (hpl.to (hlow W hW)))
  have HHS : Hid (∀ (s : ByteArray) (m : Bool) W, s.size ≤ maxLen → memB s sc = m → Below (w.heap.size + 1) (w.alloc (cell3 pq aq g)) W → Calls Tryz.prog 64 #[.agg #[.map pq, .map aq, .bool g], .string s] W fun e w' => e = .returned (.bool m) ∧ Below W.heap.size W w') := Lib.hid (fun s m W hs hm hW => has_any pq aq g sc n s hs m hm W (hpl.to (hlow W hW)))
  have HPB := Lib.hid hpb
  have HMC := Lib.hid hmc
  have HR := Lib.hid hr
  have HB0 : Hid (Below (w.heap.size + 1) (w.alloc (cell3 pq aq g)) (w.alloc (cell3 pq aq g))) := Lib.hid (Below.refl _ _)
  have hbl1 : b < w.heap.size + 1 := by omega
  have kz := fun Q : Later (w.heap.size + 1) (w.alloc (cell3 pq aq g)) => CZ.out Q.1 Q.2
  have kc : ∀ Q : Later (w.heap.size + 1) (w.alloc (cell3 pq aq g)), Q.1.cell? ⟨b, o, none⟩ = some (.int .i64 p.k) ∧ Q.1.cell? ⟨b, o + 1, none⟩ = some (.string p.c) ∧ Q.1.cell? ⟨b, o + 2, none⟩ = some (.string p.x) ∧ Q.1.cell? ⟨b, o + 3, none⟩ = some (.slice la1 ln1 lc1) ∧ Q.1.cell? ⟨b, o + 4, none⟩ = some (.slice aa1 an1 ac1) ∧ Q.1.cell? ⟨b, o + 5, none⟩ = some (.int .i64 p.t.k) ∧ Q.1.cell? ⟨b, o + 6, none⟩ = some (.int .i64 p.t.p) ∧ Q.1.cell? ⟨b, o + 7, none⟩ = some (.string p.t.n) ∧ Q.1.cell? ⟨b, o + 8, none⟩ = some (.int .i64 p.t.s) ∧ Q.1.cell? ⟨b, o + 9, none⟩ = some (.slice ta1 tn1 tc1) ∧ Q.1.cell? ⟨b, o + 10, none⟩ = some (.slice ua1 un1 uc1) ∧ Q.1.cell? ⟨b, o + 11, none⟩ = some (.slice ka1 kn1 kc1) := fun Q => by
    have h : ∀ i v, w.cell? ⟨b, i, none⟩ = some v → Q.1.cell? ⟨b, i, none⟩ = some v := fun i v hv => ((hlow Q.1 Q.2).cell (p := ⟨b, _, none⟩) hbl).trans hv
    exact ⟨h _ _ c0, h _ _ c1, h _ _ c2, h _ _ c3, h _ _ c4, h _ _ c5, h _ _ c6, h _ _ c7, h _ _ c8, h _ _ c9, h _ _ c10, h _ _ c11⟩
  simp only [forall_and] at kz kc
  obtain ⟨z0, z1, z2⟩ := kz
  obtain ⟨y0, y1, y2, y3, y4, y5, y6, y7, y8, y9, y10, y11⟩ := kc
  unfold prAgg at HPX
  clear hp hp0 hpl ha hr hpb hmc hb0 hlow hcz hxz d0 d1 d2 hty d3 d4 d11 hl hv hk hal hag c0 c1 c2 c3 c4 c5 c6 c7 c8 c9 c10 c11 hval hS hSb
  go_enter Tryz.func50, Tryz.ntmps50
  go_upto_region 1 with fail
  go_cut [23] from 11 (fun t wc => t = .bool (pb && !mc) ∧ Hid (Below (w.heap.size + 1) (w.alloc (cell3 pq aq g)) wc))
  case first =>
    cases pb
    · refine wp_region_later (w.heap.size + 1) (w.alloc (cell3 pq aq g)) (by kernel_rfl) (by kernel_rfl) HB0.out ?_
      repeat (go_big_quiet_step (first | (go_at_call 63; exact later_call _ (by simp) (HPX.out _ (Subtype.property _))) | (go_at_call 64; exact later_call _ (by simp) (HHC.out _ (Subtype.property _)))))
      refine wpQuiet_nil ?_
      rintro _ ⟨⟨w5, hb5⟩, rfl⟩
      go_wp2_with fail
      go_meet
      case rel => exact ⟨rfl, Lib.hid hb5⟩
    · cases mc
      · refine wp_region_later (w.heap.size + 1) (w.alloc (cell3 pq aq g)) (by kernel_rfl) (by kernel_rfl) HB0.out ?_
        repeat (go_big_quiet_step (first | (go_at_call 63; exact later_call _ (by simp) (HPX.out _ (Subtype.property _))) | (go_at_call 64; exact later_call _ (by simp) (HHC.out _ (Subtype.property _)))))
        refine wpQuiet_nil ?_
        rintro _ ⟨⟨w5, hb5⟩, rfl⟩
        go_wp2_with fail
        go_meet
        case rel => exact ⟨rfl, Lib.hid hb5⟩
      · refine wp_region_later (w.heap.size + 1) (w.alloc (cell3 pq aq g)) (by kernel_rfl) (by kernel_rfl) HB0.out ?_
        repeat (go_big_quiet_step (first | (go_at_call 63; exact later_call _ (by simp) (HPX.out _ (Subtype.property _))) | (go_at_call 64; exact later_call _ (by simp) (HHC.out _ (Subtype.property _)))))
        refine wpQuiet_nil ?_
        rintro _ ⟨⟨w5, hb5⟩, rfl⟩
        go_wp2_with fail
        go_meet
        case rel => exact ⟨rfl, Lib.hid hb5⟩
  case rest =>
    obtain ⟨rfl, HB1⟩ := hcut
    clear z0 z1 z2 y0 y1 y2 y3 y4 y5 y6 y7 y8 y9 y10 y11 HPX HHC
    obtain ⟨bad, hbad⟩ : ∃ x, (pb && !mc) = x := ⟨_, rfl⟩
    have HBD : Hid ((prefixB p.k && !memB p.c sc) = bad) := Lib.hid (by rw [HPB.out, HMC.out, hbad])
    rw [hbad]
    clear hbad
    cases bad
    · obtain ⟨_, c4⟩ := HC.out wc HB1.out
      go_wp2_with fail
      clear c4
      go_loopw [29] (fun i wr => ∃ (j : Nat), i = .int .i64 (j : Int) ∧ j ≤ an1 ∧ Hid ((p.vs.take j).any (badArg sc) = false) ∧ Hid (Below (w.heap.size + 1) (w.alloc (cell3 pq aq g)) wr)) (fun i _ => an1 - (intOf i).toNat)
      case atStart => exact ⟨0, rfl, by omega, Lib.hid (by simp), HB1⟩
      case round =>
        obtain ⟨j, rfl, hj, HT, HBj⟩ := hrel
        obtain ⟨wo, hwo⟩ : ∃ wo, wo = wr := ⟨_, rfl⟩
        subst hwo
        have hzs : w.heap.size + 1 ≤ wo.heap.size := by have := HBj.out.size; simpa using this
        by_cases hlt : j < an1
        · obtain ⟨a, haj⟩ : ∃ a, p.vs[j]? = some a := ⟨_, List.getElem?_eq_getElem (by rw [← HAL.out]; exact hlt)⟩
          obtain ⟨has, gb, go, rfl, hgz, hcells⟩ := HAG.out j a haj
          obtain ⟨q0, q1, q2⟩ := hcells wo (HLow.out wo HBj.out)
          obtain ⟨z0, z1, z2⟩ := CZ.out wo HBj.out
          have hzz : w.heap.size < wo.heap.size := by omega
          have hgs : gb < wo.heap.size := by omega
          obtain ⟨hA1, hA2⟩ := any_take (badArg sc) haj HT.out
          have HBX : Hid (Below (w.heap.size + 1) (w.alloc (cell3 pq aq g)) (wo.alloc (.cells #[.int .i64 a.k, .string a.n, .int .i64 a.x] 53))) := Lib.hid (HBj.out.alloc (by simpa using hzs) _)
          obtain ⟨ak, hak⟩ : ∃ ak, a.k = ak := ⟨_, rfl⟩
          obtain ⟨m, hm⟩ : ∃ m, memB a.n sc = m := ⟨_, rfl⟩
          rw [hak] at q0 HBX
          have HBA : Hid (badArg sc a = (decide (ak = 1) && !m)) := Lib.hid (by unfold badArg; rw [hak, hm])
          have HHX := Lib.hid (HHS.out a.n m _ has hm HBX.out)
          have HA1 := Lib.hid hA1
          have HA2 := Lib.hid hA2
          clear haj has hcells hA1 hA2 hak hm
          by_cases h1 : ak = 1
          · subst h1
            cases m
            · have HF : Hid (r = 4) := Lib.hid (by rw [← HR.out]; exact Pr.nodeE_4b HBD.out (HA2.out (by rw [HBA.out]; rfl)))
              go_wp2_with (go_at_call 64; refine HHX.out.mono ?_; rintro e w3 ⟨rfl, hb3⟩; replace hb3 := Lib.hid hb3)
              go_ret
              exact ⟨by rw [HF.out]; rfl, HLow.out _ (HBX.out.trans (hb3.out.mono (by simp; omega)))⟩
            · have HN : Hid ((p.vs.take (j + 1)).any (badArg sc) = false) := Lib.hid (by rw [HA1.out, HBA.out]; rfl)
              go_wp2_with (go_at_call 64; refine HHX.out.mono ?_; rintro e w3 ⟨rfl, hb3⟩; replace hb3 := Lib.hid hb3)
              go_roundw
              case rel => exact ⟨j + 1, by go_num, by omega, HN, Lib.hid (HBX.out.trans (hb3.out.mono (by simp; omega)))⟩
              case measure => simp [intOf]; omega
          · have h1' : (ak == 1) = false := by simpa using h1
            have HN : Hid ((p.vs.take (j + 1)).any (badArg sc) = false) := Lib.hid (by rw [HA1.out, HBA.out]; simp [h1])
            clear h1
            go_wp2_with fail
            go_roundw
            case rel => exact ⟨j + 1, by go_num, by omega, HN, HBX⟩
            case measure => simp [intOf]; omega
        · obtain rfl : j = an1 := by omega
          have HA : Hid (p.vs.any (badArg sc) = false) := Lib.hid (by
            have h := HT.out
            rwa [List.take_of_length_le (by rw [HAL.out]; exact Nat.le_refl _)] at h)
          obtain ⟨hpw, hSw, _, _⟩ := HP.out wo HBj.out
          have HBI := Lib.hid (bound_any S p b o wo hSw hpw)
          clear hpw hSw HT
          go_wp2_with (go_at_call 40; refine HBI.out.mono ?_; rintro e w4 ⟨la, ln, lc, rfl, hsl, hb4⟩; replace hsl := Lib.hid hsl; replace hb4 := Lib.hid hb4)
          obtain ⟨pa', len', c', e', hln, hlm, hlg⟩ := hsl.out.open
          simp only [Value.slice.injEq] at e'
          obtain ⟨rfl, rfl, rfl⟩ := e'
          have HB4 : Hid (Below (w.heap.size + 1) (w.alloc (cell3 pq aq g)) w4) := Lib.hid (HBj.out.trans (hb4.out.mono (by simpa using hzs)))
          have hzs4 : w.heap.size + 1 ≤ w4.heap.size := by have := HB4.out.size; simpa using this
          have HLG : Hid (∀ i s, p.bnd[i]? = some s → s.size ≤ maxLen ∧ ∃ kb ko, la = some ⟨kb, ko, none⟩ ∧ ∀ W, Below w4.heap.size w4 W → W.cell? ⟨kb, ko + i, none⟩ = some (.string s)) := Lib.hid (fun i s hi => by
            obtain ⟨h1, kb, ko, e, hkb, hc⟩ := hlg i s hi
            exact ⟨h1, kb, ko, e, fun W hW => (hW.cell (p := ⟨kb, _, none⟩) hkb.2).trans hc⟩)
          clear hlg hsl hb4
          go_loopw [47] (fun i wr => ∃ (j : Nat), i = .int .i64 (j : Int) ∧ j ≤ ln ∧ Hid ((p.bnd.take j).any (fun s => memB s sc) = false) ∧ Hid (Below w4.heap.size w4 wr)) (fun i _ => ln - (intOf i).toNat)
          case atStart => exact ⟨0, rfl, by omega, Lib.hid (by simp), Lib.hid (Below.refl _ _)⟩
          case round =>
            obtain ⟨m2, rfl, hm2, HT2, HBm⟩ := hrel
            have HBw : Hid (Below (w.heap.size + 1) (w.alloc (cell3 pq aq g)) wr) := Lib.hid (HB4.out.trans (HBm.out.mono hzs4))
            obtain ⟨z0, z1, z2⟩ := CZ.out wr HBw.out
            have hzw : w4.heap.size ≤ wr.heap.size := HBm.out.size
            by_cases hlt2 : m2 < ln
            · obtain ⟨s, hsj⟩ : ∃ s, p.bnd[m2]? = some s := ⟨_, List.getElem?_eq_getElem (by rw [← hln.out]; exact hlt2)⟩
              obtain ⟨hss, gb, go, rfl, hcs⟩ := HLG.out m2 s hsj
              have q0 := hcs wr HBm.out
              obtain ⟨hA1, hA2⟩ := any_take (fun s => memB s sc) hsj HT2.out
              obtain ⟨m, hm⟩ : ∃ m, memB s sc = m := ⟨_, rfl⟩
              simp only [hm] at hA1 hA2
              have HHX := Lib.hid (HHS.out s m _ hss hm HBw.out)
              have HA1 := Lib.hid hA1
              have HA2 := Lib.hid hA2
              clear hsj hss hcs hA1 hA2 hm
              cases m
              · go_wp2_with (go_at_call 64; refine HHX.out.mono ?_; rintro e w3 ⟨rfl, hb3⟩; replace hb3 := Lib.hid hb3)
                go_roundw
                case rel => exact ⟨m2 + 1, by go_num, by omega, HA1, Lib.hid (HBm.out.trans (hb3.out.mono hzw))⟩
                case measure => simp [intOf]; omega
              · have HF : Hid (r = 5) := Lib.hid (by rw [← HR.out]; exact Pr.nodeE_5 HBD.out HA.out (HA2.out rfl))
                go_wp2_with (go_at_call 64; refine HHX.out.mono ?_; rintro e w3 ⟨rfl, hb3⟩; replace hb3 := Lib.hid hb3)
                go_ret
                exact ⟨by rw [HF.out]; rfl, HLow.out _ (HBw.out.trans (hb3.out.mono (by omega)))⟩
            · obtain rfl : m2 = ln := by omega
              have HA3 : Hid (p.bnd.any (fun s => memB s sc) = false) := Lib.hid (by
                have h := HT2.out
                rwa [List.take_of_length_le (by rw [hln.out]; exact Nat.le_refl _)] at h)
              obtain ⟨c0, _⟩ := HC.out wr HBw.out
              obtain ⟨hpw, hSw, _, haw⟩ := HP.out wr HBw.out
              by_cases h8 : p.k = 8
              · have HCE := Lib.hid (callError_any S p b o g ab nn ar wr hSw hpw haw r (by rw [← HR.out]; exact (Pr.nodeE_8 HBD.out HA.out HA3.out h8).symm))
                rw [h8] at c0
                clear hpw hSw haw h8
                go_wp2_with (go_at_call 65; refine HCE.out.mono ?_; rintro e w3 ⟨rfl, hb3⟩; replace hb3 := Lib.hid hb3)
                go_ret
                exact ⟨rfl, HLow.out _ (HBw.out.trans (hb3.out.mono (by omega)))⟩
              · have h8' : (p.k == 8) = false := by simpa using h8
                have HF : Hid (r = 0) := Lib.hid (by rw [← HR.out]; exact Pr.nodeE_0 HBD.out HA.out HA3.out h8)
                clear hpw hSw haw h8
                go_wp2_with fail
                go_ret
                exact ⟨by rw [HF.out]; rfl, HLow.out _ HBw.out⟩
    · have HF : Hid (r = 4) := Lib.hid (by rw [← HR.out]; exact Pr.nodeE_4a HBD.out)
      go_wp2_with fail
      go_ret
      exact ⟨by rw [HF.out]; rfl, HLow.out _ HB1.out⟩

end Go.Proofs.YtgmdmbmkljbgiaaGreatDoor

/- Scopes: below, placeOfBody. -/
namespace Go.Proofs.YtgmdmbmkljbgiaaGreatDoor
open Go.Shelf
/-- The library's maps.Clone at this program: a table of numbers, and a field a fact of the program's own. -/
def scopeCloneL_ren : Go.Shelf.Ren := ⟨fun | 5 => 66 | 7 => 97 | n => n, fun | 23 => 67 | 25 => 9 | 3 => 4 | 4 => 4 | 20 => 20 | n => n, fun | n => n⟩
theorem scopeCloneL : Go.Proofs.SlLaysW.n5 Tryz.prog scopeCloneL_ren := {
  mixed := by kernel_rfl
  f5 := ⟨Tryz.f66.name, by decide, Tryz.func66.trans (congrArg some (by kernel_rfl))⟩
  f7 := Tryz.func97.trans (congrArg some (by kernel_rfl))
  t4 := Tryz.underlying4
  a4 := Tryz.isAgg4
  z4 := Tryz.sizeOf4
  v4 := Tryz.zeroValue4
  t20 := Tryz.underlying20
  a20 := Tryz.isAgg20
  z20 := Tryz.sizeOf20
  v20 := Tryz.zeroValue20
  t23 := Tryz.underlying67
  a23 := Tryz.isAgg67
  z23 := Tryz.sizeOf67
  v23 := Tryz.zeroValue67 }
end Go.Proofs.YtgmdmbmkljbgiaaGreatDoor

namespace Go.Proofs.YtgmdmbmkljbgiaaGreatDoor
open Go.RowKit Go.Deep Go.Shelf

theorem Pr.bnd_len' (p : Pr) : p.bnd.length ≤ 2 := by unfold Pr.bnd; split <;> (try split) <;> simp
theorem cell_same {W W' : World} {k i : Nat} (h : W'.heap[k]? = W.heap[k]?) : W'.cell? ⟨k, i, none⟩ = W.cell? ⟨k, i, none⟩ := by unfold World.cell?; rw [h]
theorem SetIs.same {w w' : World} {b n : Nat} {l : List ByteArray} (h : SetIs w b n l) (e : w'.heap[b]? = w.heap[b]?) : SetIs w' b n l := by
  obtain ⟨D, ⟨es, clock, h1, r⟩, hf⟩ := h
  exact ⟨D, ⟨es, clock, e.trans h1, r⟩, hf⟩
theorem scalls_at {P : Program} {f : FuncId} {vs : Array Value} {Q : Ending → World → Prop} {W W0 : World} (h : W = W0) (k : Calls P f vs W0 Q) : Calls P f vs W Q := by rw [h]; exact k
theorem set_other' (W : World) {b c i : Nat} (v : Value) (h : c ≠ b) : (W.setCell ⟨b, i, none⟩ v).heap[c]? = W.heap[c]? := by
  show (W.heap.modify b _)[c]? = _
  rw [Array.getElem?_modify]
  rw [if_neg (fun e => h e.symm)]
theorem mapsClone_any (b n : Nat) (l : List ByteArray) (w : World) (h : SetIs w b n l) :
    Calls Tryz.prog 66 #[.map (some b)] w fun e w' => ∃ c, e = .returned (.map (some c)) ∧ w.heap.size ≤ c ∧ SetIs w' c n l ∧ Below w.heap.size w w' := by
  obtain ⟨D, ho, hf⟩ := h
  have hcon := AnyW.maps_Clone_owns scopeCloneL 9 (plainElem Tryz.prog 4) b n D w ho
  change Calls Tryz.prog 66 _ _ _ at hcon
  exact hcon.mono fun e w' ⟨he, h1, _, hB⟩ => ⟨_, he, Nat.le_refl _, ⟨D, h1, hf⟩, hB⟩

/-- A block with the three cells of a place. -/
def Three (W : World) (b : Nat) (a0 a1 a2 : Value) : Prop := W.heap[b]? = some (.cells #[a0, a1, a2] 69 (0, 0))
section
variable {W W' : World} {b : Nat} {a0 a1 a2 : Value}
theorem Three.cells (h : Three W b a0 a1 a2) : (W.cell? ⟨b, 0, none⟩ = some a0 ∧ W.cell? ⟨b, 1, none⟩ = some a1 ∧ W.cell? ⟨b, 2, none⟩ = some a2) ∧ W.frozen? ⟨b, 0, none⟩ = false ∧ W.frozen? ⟨b, 1, none⟩ = false ∧ W.frozen? ⟨b, 2, none⟩ = false := by
  unfold Three at h
  refine ⟨⟨?_, ?_, ?_⟩, ?_, ?_, ?_⟩ <;> simp [World.cell?, World.frozen?, h]
theorem Three.lt (h : Three W b a0 a1 a2) : b < W.heap.size := (Array.getElem?_eq_some_iff.1 h).1
theorem Three.to (h : Three W b a0 a1 a2) (hb : Below W.heap.size W W') : Three W' b a0 a1 a2 := (hb.block b h.lt).trans h
theorem Three.grown {row : Option Nat} (h : Three W b a0 a1 a2) (hg : W.grownBy W' row) (hne : some b ≠ row) : Three W' b a0 a1 a2 := (hg.block b h.lt hne).trans h
theorem Three.set0 (h : Three W b a0 a1 a2) (v : Value) : Three (W.setCell ⟨b, 0, none⟩ v) b v a1 a2 := set_block h 0 v
theorem Three.set1 (h : Three W b a0 a1 a2) (v : Value) : Three (W.setCell ⟨b, 1, none⟩ v) b a0 v a2 := set_block h 1 v
theorem Three.set2 (h : Three W b a0 a1 a2) (v : Value) : Three (W.setCell ⟨b, 2, none⟩ v) b a0 a1 v := set_block h 2 v
end
theorem three_new (w : World) (a0 a1 a2 : Value) : Three (w.alloc (.cells #[a0, a1, a2] 69)) w.heap.size a0 a1 a2 := World.alloc_heap_new _ _
abbrev zero3 : Obj := .cells #[.map none, .map none, .bool false] 69

set_option maxHeartbeats 8000000 in
set_option maxRecDepth 100000 in
theorem below_any (S : Nat → Prop) (p : Pr) (b o : Nat) (pq aq : Option Nat) (g : Bool) (sc : List ByteArray) (n : Nat) (hn : n ≤ 100000000) (w : World) (hS : Low S w) (hp : PrAt S w p b o) (hpl : Plc w pq aq sc n) :
    Calls Tryz.prog 51 #[.agg #[.map pq, .map aq, .bool g], .pointer (some ⟨b, o, none⟩)] w fun e w' => ∃ cq, e = .returned (.agg #[.map pq, .map cq, .bool (g || prefixB p.k)]) ∧ Plc w' pq cq (sc ++ p.bnd) (n + 2) ∧ Below w.heap.size w w' := by
  have hb0 : Below w.heap.size w ((w.alloc (cell3 pq aq g)).alloc zero3) := (blkBelow w _ _).alloc (by simp) _
  obtain ⟨W0, hW0⟩ : ∃ W0, (w.alloc (cell3 pq aq g)).alloc zero3 = W0 := ⟨_, rfl⟩
  have t0 : Three W0 w.heap.size (.map pq) (.map aq) (.bool g) := by rw [← hW0]; exact (three_new w _ _ _).to ((Below.refl _ _).alloc (Nat.le_refl _) _)
  have t1 : Three W0 (w.heap.size + 1) (.map none) (.map none) (.bool false) := by rw [← hW0]; have h := three_new (w.alloc (cell3 pq aq g)) (.map none) (.map none) (.bool false); rwa [World.size_alloc] at h
  have hs0 : W0.heap.size = w.heap.size + 2 := by rw [← hW0]; simp
  rw [hW0] at hb0
  obtain ⟨la1, ln1, lc1, aa1, an1, ac1, ta1, tn1, tc1, ua1, un1, uc1, ka1, kn1, kc1, ⟨c0, c1, c2, c3, c4, c5, c6, c7, c8, c9, c10, c11⟩, hval⟩ := hp.load'
  obtain ⟨hSb, ⟨hcz, hxz⟩, _⟩ := PrAt.eq.1 hp
  have hbl := hS b hSb
  obtain ⟨pb, hpb⟩ : ∃ x, prefixB p.k = x := ⟨_, rfl⟩
  have HPX : Hid (∀ W, Below w.heap.size w W → Calls Tryz.prog 63 #[prAgg p (.slice la1 ln1 lc1) (.slice aa1 an1 ac1) (.slice ta1 tn1 tc1) (.slice ua1 un1 uc1) (.slice ka1 kn1 kc1)] W fun e w' => e = .returned (.bool pb) ∧ Below W.heap.size W w') := Lib.hid (fun W hW => by
    rw [← hpb]
    exact pprefix_any S p _ W (hval.keep (hW.keeps'.mono hS)))
  have HP : Hid (∀ W, Below w.heap.size w W → PrAt S W p b o ∧ Low S W ∧ Plc W pq aq sc n) := Lib.hid (fun W hW => ⟨PrAt.keep (hW.keeps'.mono hS) _ _ _ hp, hS.le hW.size, hpl.to hW⟩)
  obtain ⟨ps, us, hps, hus, hsm, hul, hmem⟩ := hpl.sets
  have HN : Hid (∀ W, Below w.heap.size w W → NSet W pq ps ∧ NSet W aq us) := Lib.hid (fun W hW => ⟨hps.to hW, hus.to hW⟩)
  have HHM := Lib.hid (And.intro hul hmem)
  have HPB := Lib.hid hpb
  clear hps hus hul hmem
  have HT0 := Lib.hid t0
  have HT1 := Lib.hid t1
  have HW0 := Lib.hid hW0
  have HB0 := Lib.hid hb0
  have HS0 := Lib.hid hs0
  unfold prAgg at HPX
  clear hp hpl hpb t0 t1 hW0 hb0 hcz hxz hval hS hSb hs0
  have gc : g = true ∨ g = false := by cases g <;> simp
  have hgb : ∀ W1 : World, (w.alloc (cell3 pq aq true)).alloc zero3 = W0 → W0.setCell ⟨w.heap.size, 2, none⟩ (.bool true) = W1 → ((w.alloc (cell3 pq aq true)).alloc zero3).setCell ⟨w.heap.size, 2, none⟩ (.bool true) = W1 := fun W1 h1 h2 => by rw [h1]; exact h2
  rcases gc with rfl | rfl
  · obtain ⟨W1, hW1⟩ : ∃ W1, W0.setCell ⟨w.heap.size, 2, none⟩ (.bool true) = W1 := ⟨_, rfl⟩
    have k0 : Hid (Three W1 w.heap.size (.map pq) (.map aq) (.bool (true || pb))) := Lib.hid (by rw [← hW1]; exact HT0.out.set2 _)
    have k1 : Hid (Three W1 (w.heap.size + 1) (.map none) (.map none) (.bool false)) := Lib.hid (by rw [← hW1]; exact (set_other' W0 _ (by omega)).trans HT1.out)
    have k2 : Hid (Below w.heap.size w W1) := Lib.hid (by rw [← hW1]; exact HB0.out.setCell (p := ⟨w.heap.size, 2, none⟩) (by simp) _)
    have k3 : w.heap.size + 2 ≤ W1.heap.size := by rw [← hW1]; simp; have := HS0.out; omega
    have hWW := hgb W1 HW0.out hW1
    clear c0 c1 c2 c3 c4 c5 c6 c7 c8 c9 c10 c11 hgb hW1
    go_enter Tryz.func51, Tryz.ntmps51
    go_wp2_with fail
    clear hWW
    obtain ⟨gg, hgg⟩ : ∃ x, (true || pb) = x := ⟨_, rfl⟩
    have HGG : Hid (gg = (true || prefixB p.k)) := Lib.hid (by rw [HPB.out, hgg])
    rw [hgg] at k0
    have hus := (HN.out W1 k2.out).2
    obtain ⟨ab, rfl, hset⟩ : ∃ ab, aq = some ab ∧ SetIs W1 ab us.length us := by
      rcases hus with ⟨rfl, _⟩ | ⟨ab, e, h⟩
      · cases hsm
      · exact ⟨ab, e, h⟩
    clear hus hsm hgg
    refine (bound_any S p b o W1 (HP.out W1 k2.out).2.1 (HP.out W1 k2.out).1).mono ?_
    rintro e w4 ⟨la, ln, lc, rfl, hsl, hb4⟩
    obtain ⟨_, _, _, e', hln, hlm, hlg⟩ := hsl.open
    simp only [Value.slice.injEq] at e'
    obtain ⟨rfl, rfl, rfl⟩ := e'
    have HT4 : Hid (Three w4 w.heap.size (.map pq) (.map (some ab)) (.bool gg)) := Lib.hid (k0.out.to hb4)
    have HU4 : Hid (Three w4 (w.heap.size + 1) (.map none) (.map none) (.bool false)) := Lib.hid (k1.out.to hb4)
    have HB4 : Hid (Below w.heap.size w w4) := Lib.hid (k2.out.trans (hb4.mono (by omega)))
    have HSET4 : Hid (SetIs w4 ab us.length us) := Lib.hid (hset.below hb4 hset.lt)
    have HLG : Hid (∀ i s, p.bnd[i]? = some s → s.size ≤ maxLen ∧ ∃ kb ko, la = some ⟨kb, ko, none⟩ ∧ W1.heap.size ≤ kb ∧ kb < w4.heap.size ∧ w4.cell? ⟨kb, ko + i, none⟩ = some (.string s)) := Lib.hid (fun i s hi => by
      obtain ⟨h1, kb, ko, e, hkb, hc⟩ := hlg i s hi
      exact ⟨h1, kb, ko, e, hkb.1, hkb.2, hc⟩)
    have hln2 : ln ≤ 2 := by have := hln.out; have := p.bnd_len'; omega
    have hz4 : w.heap.size + 2 ≤ w4.heap.size := Nat.le_trans k3 hb4.size
    clear hsl hlg hset hb4 k0 k1 k2
    obtain ⟨⟨y0, y1, y2⟩, g0, g1, g2⟩ := HT4.out.cells
    obtain ⟨⟨v0, v1, v2⟩, h0, h1, h2⟩ := HU4.out.cells
    by_cases hz : ln = 0
    · subst hz
      have hbe : p.bnd = [] := List.length_eq_zero_iff.1 hln.out.symm
      have HBE := Lib.hid hbe
      clear hbe
      go_wp2_with fail
      obtain ⟨W9, h9⟩ : ∃ W9, (((w4.setCell ⟨w.heap.size + 1, 0, none⟩ (.map pq)).setCell ⟨w.heap.size + 1, 1, none⟩ (.map (some ab))).setCell ⟨w.heap.size + 1, 2, none⟩ (.bool gg)) = W9 := ⟨_, rfl⟩
      have t9 : Three W9 (w.heap.size + 1) (.map pq) (.map (some ab)) (.bool gg) := by rw [← h9]; exact ((HU4.out.set0 _).set1 _).set2 _
      have b9 : Below w.heap.size w W9 := by rw [← h9]; exact ((HB4.out.setCell (p := ⟨w.heap.size + 1, 0, none⟩) (by simp) _).setCell (p := ⟨w.heap.size + 1, 1, none⟩) (by simp) _).setCell (p := ⟨w.heap.size + 1, 2, none⟩) (by simp) _
      rw [h9]
      obtain ⟨⟨q0, q1, q2⟩, _⟩ := t9.cells
      clear v0 v1 v2 h0 h1 h2 y0 y1 y2 g0 g1 g2
      refine bodyPost_ret (v := .agg #[.map pq, .map (some ab), .bool gg]) (by simp [results, Tryz.results51, go_sem, q0, q1, q2]) rfl ⟨some ab, by rw [HGG.out], ?_, b9⟩
      rw [HBE.out, List.append_nil]
      obtain ⟨ps', us', a1, a2, a3, a4, a5⟩ := (HP.out W9 b9).2.2.sets
      exact ⟨⟨ps', us', a1, a2, a3, by omega, a5⟩⟩
    · have hz1 : decide ((0 : Int) < (ln : Int)) = true := by simp; omega
      have hz2 : decide (0 < ln) = true := by simp; omega
      have hz3 : 0 < ln := by omega
      clear v0 v1 v2 h0 h1 h2
      go_wp2_with (go_at_call 66; refine (mapsClone_any ab us.length us w4 HSET4.out).mono ?_; rintro e w5 ⟨cb, rfl, hcb, hset5, hb5⟩; have t5 := HT4.out.to hb5; obtain ⟨⟨y0, y1, y2⟩, g0, g1, g2⟩ := t5.cells; have HT5 := Lib.hid t5; replace hset5 := Lib.hid hset5; replace hb5 := Lib.hid hb5; clear t5)
      go_loopw [28] (fun i wr => ∃ (j : Nat), i = .int .i64 (j : Int) ∧ j ≤ ln ∧ Hid (SetIs wr cb (us.length + j) (us ++ p.bnd.take j)) ∧ Hid (Three wr w.heap.size (.map pq) (.map (some cb)) (.bool gg)) ∧ Hid (Three wr (w.heap.size + 1) (.map none) (.map none) (.bool false)) ∧ Hid (∀ k, W1.heap.size ≤ k → k < w4.heap.size → wr.heap[k]? = w4.heap[k]?) ∧ Hid (Below w.heap.size w wr)) (fun i _ => ln - (intOf i).toNat)
      case atStart =>
        have e4 : ∀ k, k ≠ w.heap.size → (w5.setCell ⟨w.heap.size, 1, none⟩ (.map (some cb))).heap[k]? = w5.heap[k]? := fun k hk => set_other' _ _ hk
        refine ⟨0, rfl, by omega, Lib.hid ?_, Lib.hid ((HT5.out.set1 _)), Lib.hid ?_, Lib.hid (fun k hk1 hk2 => ?_), Lib.hid ?_⟩
        · rw [List.take_zero, List.append_nil, Nat.add_zero]; exact hset5.out.same (e4 cb (by omega))
        · exact (e4 _ (by omega)).trans (HU4.out.to hb5.out)
        · rw [e4 k (by omega)]; exact hb5.out.block k hk2
        · exact (HB4.out.trans (hb5.out.mono (by omega))).setCell (p := ⟨w.heap.size, 1, none⟩) (by simp) _
      case round =>
        obtain ⟨j, rfl, hj, HSE, HTr, HUr, HK, HBr⟩ := hrel
        obtain ⟨wo, hwo⟩ : ∃ wo, wo = wr := ⟨_, rfl⟩
        subst hwo
        obtain ⟨⟨y0, y1, y2⟩, g0, g1, g2⟩ := HTr.out.cells
        have hcbz : w.heap.size + 2 ≤ cb := by omega
        by_cases hlt : j < ln
        · obtain ⟨s, hs⟩ : ∃ s, p.bnd[j]? = some s := ⟨_, List.getElem?_eq_getElem (by rw [← hln.out]; exact hlt)⟩
          obtain ⟨hss, kb, ko, rfl, hk1, hk2, hc⟩ := HLG.out j s hs
          have q0 := (cell_same (i := ko + j) (HK.out kb hk1 hk2)).trans hc
          have hkw : kb < wo.heap.size := World.block_lt_of_cell? wo _ q0
          obtain ⟨w6, hup, hse6, hgr⟩ := HSE.out.put (by have := HHM.out.1; unfold maxLen; omega) hss
          have HS6 : Hid (SetIs w6 cb (us.length + (j + 1)) (us ++ p.bnd.take (j + 1))) := Lib.hid (by rw [take_snoc_get hs, ← List.append_assoc]; exact hse6)
          have HT6 : Hid (Three w6 w.heap.size (.map pq) (.map (some cb)) (.bool gg)) := Lib.hid (HTr.out.grown hgr (by simp; omega))
          have HU6 : Hid (Three w6 (w.heap.size + 1) (.map none) (.map none) (.bool false)) := Lib.hid (HUr.out.grown hgr (by simp; omega))
          have HK6 : Hid (∀ k, W1.heap.size ≤ k → k < w4.heap.size → w6.heap[k]? = w4.heap[k]?) := Lib.hid (fun k h1 h2 => (hgr.block k (by have := HSE.out.lt; omega) (by simp; omega)).trans (HK.out k h1 h2))
          have HB6 : Hid (Below w.heap.size w w6) := Lib.hid (HBr.out.grown hgr HBr.out.size (fun k e => by cases e; omega))
          clear hs hss hk1 hk2 hc hse6 hgr
          go_wp2_with fail
          go_roundw
          case rel => exact ⟨j + 1, by go_num, by omega, HS6, HT6, HU6, HK6, HB6⟩
          case measure => simp [intOf]; omega
        · obtain rfl : j = ln := by omega
          have HSF : Hid (SetIs wo cb (us ++ p.bnd).length (us ++ p.bnd)) := Lib.hid (by
            have h := HSE.out
            rw [List.take_of_length_le (by rw [hln.out]; exact Nat.le_refl _), hln.out] at h
            rw [List.length_append]; exact h)
          obtain ⟨⟨v0, v1, v2⟩, h0, h1, h2⟩ := HUr.out.cells
          clear HSE HK
          go_wp2_with fail
          obtain ⟨W9, h9⟩ : ∃ W9, (((wo.setCell ⟨w.heap.size + 1, 0, none⟩ (.map pq)).setCell ⟨w.heap.size + 1, 1, none⟩ (.map (some cb))).setCell ⟨w.heap.size + 1, 2, none⟩ (.bool gg)) = W9 := ⟨_, rfl⟩
          have t9 : Three W9 (w.heap.size + 1) (.map pq) (.map (some cb)) (.bool gg) := by rw [← h9]; exact ((HUr.out.set0 _).set1 _).set2 _
          have b9 : Below w.heap.size w W9 := by rw [← h9]; exact ((HBr.out.setCell (p := ⟨w.heap.size + 1, 0, none⟩) (by simp) _).setCell (p := ⟨w.heap.size + 1, 1, none⟩) (by simp) _).setCell (p := ⟨w.heap.size + 1, 2, none⟩) (by simp) _
          have s9 : SetIs W9 cb (us ++ p.bnd).length (us ++ p.bnd) := by rw [← h9]; exact HSF.out.same (by rw [set_other' _ _ (by omega), set_other' _ _ (by omega), set_other' _ _ (by omega)])
          rw [h9]
          obtain ⟨⟨q0, q1, q2⟩, _⟩ := t9.cells
          clear v0 v1 v2 h0 h1 h2 y0 y1 y2 g0 g1 g2
          refine bodyPost_ret (v := .agg #[.map pq, .map (some cb), .bool gg]) (by simp [results, Tryz.results51, go_sem, q0, q1, q2]) rfl ⟨some cb, by rw [HGG.out], ?_, b9⟩
          obtain ⟨ps', us', a1, a2, a3, a4, a5⟩ := (HP.out W9 b9).2.2.sets
          refine ⟨⟨ps, us ++ p.bnd, (HN.out W9 b9).1, .inr ⟨cb, rfl, s9⟩, rfl, by rw [List.length_append, ← hln.out]; have := HHM.out.1; omega, fun s => ?_⟩⟩
          rw [memB_append, memB_append, HHM.out.2 s, Bool.or_assoc]
  · obtain ⟨⟨x0, x1, x2⟩, f0, f1, f2⟩ := HT0.out.cells
    go_enter Tryz.func51, Tryz.ntmps51
    go_wp2_with fail
    refine scalls_at HW0.out ?_
    refine (HPX.out W0 HB0.out).mono ?_
    rintro e w2 ⟨rfl, hb2⟩
    have t0 := HT0.out.to hb2
    obtain ⟨⟨y0, y1, y2⟩, g0, g1, g2⟩ := t0.cells
    obtain ⟨W1, hWW⟩ : ∃ W1, w2.setCell ⟨w.heap.size, 2, none⟩ (.bool pb) = W1 := ⟨_, rfl⟩
    have k0 : Hid (Three W1 w.heap.size (.map pq) (.map aq) (.bool (false || pb))) := Lib.hid (by rw [← hWW, Bool.false_or]; exact t0.set2 _)
    have k1 : Hid (Three W1 (w.heap.size + 1) (.map none) (.map none) (.bool false)) := Lib.hid (by rw [← hWW]; exact (set_other' w2 _ (by omega)).trans (HT1.out.to hb2))
    have k2 : Hid (Below w.heap.size w W1) := Lib.hid (by rw [← hWW]; exact (HB0.out.trans (hb2.mono (by have := HS0.out; omega))).setCell (p := ⟨w.heap.size, 2, none⟩) (by simp) _)
    have k3 : w.heap.size + 2 ≤ W1.heap.size := by rw [← hWW]; simp; have := HS0.out; have := hb2.size; omega
    clear c0 c1 c2 c3 c4 c5 c6 c7 c8 c9 c10 c11 hgb t0 x0 x1 x2 f0 f1 f2
    go_wp2_with fail
    clear hWW y0 y1 y2 g0 g1 g2 hb2
    obtain ⟨gg, hgg⟩ : ∃ x, (false || pb) = x := ⟨_, rfl⟩
    have HGG : Hid (gg = (false || prefixB p.k)) := Lib.hid (by rw [HPB.out, hgg])
    rw [hgg] at k0
    have hus := (HN.out W1 k2.out).2
    obtain ⟨ab, rfl, hset⟩ : ∃ ab, aq = some ab ∧ SetIs W1 ab us.length us := by
      rcases hus with ⟨rfl, _⟩ | ⟨ab, e, h⟩
      · cases hsm
      · exact ⟨ab, e, h⟩
    clear hus hsm hgg
    refine (bound_any S p b o W1 (HP.out W1 k2.out).2.1 (HP.out W1 k2.out).1).mono ?_
    rintro e w4 ⟨la, ln, lc, rfl, hsl, hb4⟩
    obtain ⟨_, _, _, e', hln, hlm, hlg⟩ := hsl.open
    simp only [Value.slice.injEq] at e'
    obtain ⟨rfl, rfl, rfl⟩ := e'
    have HT4 : Hid (Three w4 w.heap.size (.map pq) (.map (some ab)) (.bool gg)) := Lib.hid (k0.out.to hb4)
    have HU4 : Hid (Three w4 (w.heap.size + 1) (.map none) (.map none) (.bool false)) := Lib.hid (k1.out.to hb4)
    have HB4 : Hid (Below w.heap.size w w4) := Lib.hid (k2.out.trans (hb4.mono (by omega)))
    have HSET4 : Hid (SetIs w4 ab us.length us) := Lib.hid (hset.below hb4 hset.lt)
    have HLG : Hid (∀ i s, p.bnd[i]? = some s → s.size ≤ maxLen ∧ ∃ kb ko, la = some ⟨kb, ko, none⟩ ∧ W1.heap.size ≤ kb ∧ kb < w4.heap.size ∧ w4.cell? ⟨kb, ko + i, none⟩ = some (.string s)) := Lib.hid (fun i s hi => by
      obtain ⟨h1, kb, ko, e, hkb, hc⟩ := hlg i s hi
      exact ⟨h1, kb, ko, e, hkb.1, hkb.2, hc⟩)
    have hln2 : ln ≤ 2 := by have := hln.out; have := p.bnd_len'; omega
    have hz4 : w.heap.size + 2 ≤ w4.heap.size := Nat.le_trans k3 hb4.size
    clear hsl hlg hset hb4 k0 k1 k2
    obtain ⟨⟨y0, y1, y2⟩, g0, g1, g2⟩ := HT4.out.cells
    obtain ⟨⟨v0, v1, v2⟩, h0, h1, h2⟩ := HU4.out.cells
    by_cases hz : ln = 0
    · subst hz
      have hbe : p.bnd = [] := List.length_eq_zero_iff.1 hln.out.symm
      have HBE := Lib.hid hbe
      clear hbe
      go_wp2_with fail
      obtain ⟨W9, h9⟩ : ∃ W9, (((w4.setCell ⟨w.heap.size + 1, 0, none⟩ (.map pq)).setCell ⟨w.heap.size + 1, 1, none⟩ (.map (some ab))).setCell ⟨w.heap.size + 1, 2, none⟩ (.bool gg)) = W9 := ⟨_, rfl⟩
      have t9 : Three W9 (w.heap.size + 1) (.map pq) (.map (some ab)) (.bool gg) := by rw [← h9]; exact ((HU4.out.set0 _).set1 _).set2 _
      have b9 : Below w.heap.size w W9 := by rw [← h9]; exact ((HB4.out.setCell (p := ⟨w.heap.size + 1, 0, none⟩) (by simp) _).setCell (p := ⟨w.heap.size + 1, 1, none⟩) (by simp) _).setCell (p := ⟨w.heap.size + 1, 2, none⟩) (by simp) _
      rw [h9]
      obtain ⟨⟨q0, q1, q2⟩, _⟩ := t9.cells
      clear v0 v1 v2 h0 h1 h2 y0 y1 y2 g0 g1 g2
      refine bodyPost_ret (v := .agg #[.map pq, .map (some ab), .bool gg]) (by simp [results, Tryz.results51, go_sem, q0, q1, q2]) rfl ⟨some ab, by rw [HGG.out], ?_, b9⟩
      rw [HBE.out, List.append_nil]
      obtain ⟨ps', us', a1, a2, a3, a4, a5⟩ := (HP.out W9 b9).2.2.sets
      exact ⟨⟨ps', us', a1, a2, a3, by omega, a5⟩⟩
    · have hz1 : decide ((0 : Int) < (ln : Int)) = true := by simp; omega
      have hz2 : decide (0 < ln) = true := by simp; omega
      have hz3 : 0 < ln := by omega
      clear v0 v1 v2 h0 h1 h2
      go_wp2_with (go_at_call 66; refine (mapsClone_any ab us.length us w4 HSET4.out).mono ?_; rintro e w5 ⟨cb, rfl, hcb, hset5, hb5⟩; have t5 := HT4.out.to hb5; obtain ⟨⟨y0, y1, y2⟩, g0, g1, g2⟩ := t5.cells; have HT5 := Lib.hid t5; replace hset5 := Lib.hid hset5; replace hb5 := Lib.hid hb5; clear t5)
      go_loopw [28] (fun i wr => ∃ (j : Nat), i = .int .i64 (j : Int) ∧ j ≤ ln ∧ Hid (SetIs wr cb (us.length + j) (us ++ p.bnd.take j)) ∧ Hid (Three wr w.heap.size (.map pq) (.map (some cb)) (.bool gg)) ∧ Hid (Three wr (w.heap.size + 1) (.map none) (.map none) (.bool false)) ∧ Hid (∀ k, W1.heap.size ≤ k → k < w4.heap.size → wr.heap[k]? = w4.heap[k]?) ∧ Hid (Below w.heap.size w wr)) (fun i _ => ln - (intOf i).toNat)
      case atStart =>
        have e4 : ∀ k, k ≠ w.heap.size → (w5.setCell ⟨w.heap.size, 1, none⟩ (.map (some cb))).heap[k]? = w5.heap[k]? := fun k hk => set_other' _ _ hk
        refine ⟨0, rfl, by omega, Lib.hid ?_, Lib.hid ((HT5.out.set1 _)), Lib.hid ?_, Lib.hid (fun k hk1 hk2 => ?_), Lib.hid ?_⟩
        · rw [List.take_zero, List.append_nil, Nat.add_zero]; exact hset5.out.same (e4 cb (by omega))
        · exact (e4 _ (by omega)).trans (HU4.out.to hb5.out)
        · rw [e4 k (by omega)]; exact hb5.out.block k hk2
        · exact (HB4.out.trans (hb5.out.mono (by omega))).setCell (p := ⟨w.heap.size, 1, none⟩) (by simp) _
      case round =>
        obtain ⟨j, rfl, hj, HSE, HTr, HUr, HK, HBr⟩ := hrel
        obtain ⟨wo, hwo⟩ : ∃ wo, wo = wr := ⟨_, rfl⟩
        subst hwo
        obtain ⟨⟨y0, y1, y2⟩, g0, g1, g2⟩ := HTr.out.cells
        have hcbz : w.heap.size + 2 ≤ cb := by omega
        by_cases hlt : j < ln
        · obtain ⟨s, hs⟩ : ∃ s, p.bnd[j]? = some s := ⟨_, List.getElem?_eq_getElem (by rw [← hln.out]; exact hlt)⟩
          obtain ⟨hss, kb, ko, rfl, hk1, hk2, hc⟩ := HLG.out j s hs
          have q0 := (cell_same (i := ko + j) (HK.out kb hk1 hk2)).trans hc
          have hkw : kb < wo.heap.size := World.block_lt_of_cell? wo _ q0
          obtain ⟨w6, hup, hse6, hgr⟩ := HSE.out.put (by have := HHM.out.1; unfold maxLen; omega) hss
          have HS6 : Hid (SetIs w6 cb (us.length + (j + 1)) (us ++ p.bnd.take (j + 1))) := Lib.hid (by rw [take_snoc_get hs, ← List.append_assoc]; exact hse6)
          have HT6 : Hid (Three w6 w.heap.size (.map pq) (.map (some cb)) (.bool gg)) := Lib.hid (HTr.out.grown hgr (by simp; omega))
          have HU6 : Hid (Three w6 (w.heap.size + 1) (.map none) (.map none) (.bool false)) := Lib.hid (HUr.out.grown hgr (by simp; omega))
          have HK6 : Hid (∀ k, W1.heap.size ≤ k → k < w4.heap.size → w6.heap[k]? = w4.heap[k]?) := Lib.hid (fun k h1 h2 => (hgr.block k (by have := HSE.out.lt; omega) (by simp; omega)).trans (HK.out k h1 h2))
          have HB6 : Hid (Below w.heap.size w w6) := Lib.hid (HBr.out.grown hgr HBr.out.size (fun k e => by cases e; omega))
          clear hs hss hk1 hk2 hc hse6 hgr
          go_wp2_with fail
          go_roundw
          case rel => exact ⟨j + 1, by go_num, by omega, HS6, HT6, HU6, HK6, HB6⟩
          case measure => simp [intOf]; omega
        · obtain rfl : j = ln := by omega
          have HSF : Hid (SetIs wo cb (us ++ p.bnd).length (us ++ p.bnd)) := Lib.hid (by
            have h := HSE.out
            rw [List.take_of_length_le (by rw [hln.out]; exact Nat.le_refl _), hln.out] at h
            rw [List.length_append]; exact h)
          obtain ⟨⟨v0, v1, v2⟩, h0, h1, h2⟩ := HUr.out.cells
          clear HSE HK
          go_wp2_with fail
          obtain ⟨W9, h9⟩ : ∃ W9, (((wo.setCell ⟨w.heap.size + 1, 0, none⟩ (.map pq)).setCell ⟨w.heap.size + 1, 1, none⟩ (.map (some cb))).setCell ⟨w.heap.size + 1, 2, none⟩ (.bool gg)) = W9 := ⟨_, rfl⟩
          have t9 : Three W9 (w.heap.size + 1) (.map pq) (.map (some cb)) (.bool gg) := by rw [← h9]; exact ((HUr.out.set0 _).set1 _).set2 _
          have b9 : Below w.heap.size w W9 := by rw [← h9]; exact ((HBr.out.setCell (p := ⟨w.heap.size + 1, 0, none⟩) (by simp) _).setCell (p := ⟨w.heap.size + 1, 1, none⟩) (by simp) _).setCell (p := ⟨w.heap.size + 1, 2, none⟩) (by simp) _
          have s9 : SetIs W9 cb (us ++ p.bnd).length (us ++ p.bnd) := by rw [← h9]; exact HSF.out.same (by rw [set_other' _ _ (by omega), set_other' _ _ (by omega), set_other' _ _ (by omega)])
          rw [h9]
          obtain ⟨⟨q0, q1, q2⟩, _⟩ := t9.cells
          clear v0 v1 v2 h0 h1 h2 y0 y1 y2 g0 g1 g2
          refine bodyPost_ret (v := .agg #[.map pq, .map (some cb), .bool gg]) (by simp [results, Tryz.results51, go_sem, q0, q1, q2]) rfl ⟨some cb, by rw [HGG.out], ?_, b9⟩
          obtain ⟨ps', us', a1, a2, a3, a4, a5⟩ := (HP.out W9 b9).2.2.sets
          refine ⟨⟨ps, us ++ p.bnd, (HN.out W9 b9).1, .inr ⟨cb, rfl, s9⟩, rfl, by rw [List.length_append, ← hln.out]; have := HHM.out.1; omega, fun s => ?_⟩⟩
          rw [memB_append, memB_append, HHM.out.2 s, Bool.or_assoc]

end Go.Proofs.YtgmdmbmkljbgiaaGreatDoor

/- Programs: headFits. -/
namespace Go.Proofs.YtgmdmbmkljbgiaaGreatDoor
open Go.RowKit Go.Deep Go.Shelf

theorem right_is (E : Nat) (B : Nat → Prop) (t : Ty) (hf : t.fine) (hdep : t.depth ≤ 1000) (r : Int) (hr : rightE t = r) (v : Value) (w : World) (hB : Low B w) (he : Env E w) (hv : TyVal B w v t) :
    Calls Tryz.prog 62 #[v] w fun e w' => e = .returned (.int .i64 r) ∧ Below w.heap.size w w' := by
  rw [← hr]; exact tright_any E B t hf hdep v w hB he hv

noncomputable def pmB (a : Pm) : Bool := nameB a.n && rightE a.t == 0
noncomputable def hdB (d : Df) : Bool := d.ms.all pmB && nameB d.n
set_option maxHeartbeats 2000000 in
theorem headFits_any (S : Nat → Prop) (d : Df) (b o E : Nat) (w : World) (hS : Low S w) (he : Env E w) (hSb : S b) (hf : ∀ a ∈ d.ms, a.t.fine ∧ a.t.depth ≤ 1000) (hd : DfAt S w d b o) :
    Calls Tryz.prog 48 #[.pointer (some ⟨b, o, none⟩)] w fun e w' => e = .returned (.bool (hdB d)) ∧ Below w.heap.size w w' := by
  obtain ⟨hn, c0, ⟨mv, c1, hm⟩, _⟩ := hd
  have hbl := hS b hSb
  obtain ⟨pa, len, c, rfl, hlen, hmx, hget⟩ := hm.open
  obtain ⟨ms, hms⟩ : ∃ ms, d.ms = ms := ⟨_, rfl⟩
  obtain ⟨nm, hnm⟩ : ∃ nm, d.n = nm := ⟨_, rfl⟩
  have hhd : hdB d = (ms.all pmB && nameB nm) := by unfold hdB; rw [hms, hnm]
  rw [hhd]
  rw [hms] at hget hlen hf
  rw [hnm] at c0 hn
  have HG := Lib.hid hget
  have HFN := Lib.hid hf
  clear hget hf hm hms hnm hhd
  go_enter Tryz.func48, Tryz.ntmps48
  go_wp2_with fail
  go_loopw [10] (fun i wr => ∃ (j : Nat), i = .int .i64 (j : Int) ∧ j ≤ len ∧ Hid ((ms.take j).all pmB = true) ∧ Below w.heap.size w wr) (fun i _ => len - (intOf i).toNat)
  case atStart => exact ⟨0, rfl, by omega, Lib.hid (by simp), Below.refl _ _⟩
  case round =>
    obtain ⟨j, rfl, hj, HT, hw⟩ := hrel
    by_cases hlt : j < len
    · obtain ⟨x, hx⟩ : ∃ x, ms[j]? = some x := ⟨_, List.getElem?_eq_getElem (by rw [← hlen.out]; exact hlt)⟩
      obtain ⟨kb, ko, rfl, hkb, hxn, a0, hty⟩ := HG.out j x hx
      have hmem := List.mem_of_getElem? hx
      obtain ⟨hfx, hdx⟩ := HFN.out x hmem
      have e0 := (hw.cell (p := ⟨kb, ko + j * 7, none⟩) (hS kb hkb)).trans a0
      obtain ⟨la, ln, lc, ka, kn, kc, ⟨d0, d1, d2, d3, d4, d5⟩, hv⟩ := (hty.keep (hw.keeps'.mono hS)).load'
      have e2 : wr.cell? ⟨kb, ko + j * 7 + 2, none⟩ = some (.int .i64 x.t.p) := d1
      have e3 : wr.cell? ⟨kb, ko + j * 7 + 3, none⟩ = some (.string x.t.n) := d2
      have e4 : wr.cell? ⟨kb, ko + j * 7 + 4, none⟩ = some (.int .i64 x.t.s) := d3
      have e5 : wr.cell? ⟨kb, ko + j * 7 + 5, none⟩ = some (.slice la ln lc) := d4
      have e6 : wr.cell? ⟨kb, ko + j * 7 + 6, none⟩ = some (.slice ka kn kc) := d5
      have hbx := blkBelow wr #[.string x.n, .int .i64 x.t.k, .int .i64 x.t.p, .string x.t.n, .int .i64 x.t.s, .slice la ln lc, .slice ka kn kc] 47
      have hbw := below_seq hw hbx
      obtain ⟨nb, hnb⟩ : ∃ b, nameB x.n = b := ⟨_, rfl⟩
      obtain ⟨r, hr⟩ : ∃ r, rightE x.t = r := ⟨_, rfl⟩
      have HN := Lib.hid (tname_is x.n nb hnb hxn E _ (he.to hbw))
      have HR := Lib.hid (right_is E S x.t hfx hdx r hr _ _ (hS.le hbw.size) (he.to hbw) (hv.to (hS.le hw.size) hbx))
      have HX := Lib.hid hx
      have HPB : Hid (pmB x = (nb && r == 0)) := Lib.hid (by unfold pmB; rw [hnb, hr])
      have HBW := Lib.hid hbw
      have HFA : Hid (pmB x = false → (ms.all pmB && nameB nm) = false) := Lib.hid (fun h => by
        have : ms.all pmB = false := by
          rw [List.all_eq_false]; exact ⟨x, hmem, by rw [h]; simp⟩
        rw [this]; rfl)
      have HTR : Hid (pmB x = true → (ms.take (j + 1)).all pmB = true) := Lib.hid (fun h => by
        rw [take_snoc_get HX.out, List.all_append, HT.out]; simp [h])
      clear hx hmem hfx hdx hty hv d1 d2 d3 d4 d5 hnb hr hbx hbw a0
      cases nb
      · go_wp2_with (go_at_call 61; refine HN.out.mono ?_; rintro e w2 ⟨rfl, rfl⟩)
        go_ret
        exact ⟨ret_bool (HFA.out (by rw [HPB.out]; rfl)).symm, HBW.out⟩
      · by_cases h0 : r = 0
        · subst h0
          go_wp2_with (first | (go_at_call 61; refine HN.out.mono ?_; rintro e w2 ⟨rfl, rfl⟩) | (go_at_call 62; refine HR.out.mono ?_; rintro e w3 ⟨rfl, hb3⟩))
          go_roundw
          case rel => exact ⟨j + 1, by go_num, by omega, Lib.hid (HTR.out (by rw [HPB.out]; rfl)), below_seq HBW.out hb3⟩
          case measure => simp [intOf]; omega
        · have h0' : (r != 0) = true := by simpa using h0
          have h0'' : (r == 0) = false := by simpa using h0
          clear h0
          go_wp2_with (first | (go_at_call 61; refine HN.out.mono ?_; rintro e w2 ⟨rfl, rfl⟩) | (go_at_call 62; refine HR.out.mono ?_; rintro e w3 ⟨rfl, hb3⟩))
          go_ret
          exact ⟨ret_bool (HFA.out (by rw [HPB.out, h0'']; rfl)).symm, below_seq HBW.out hb3⟩
    · obtain rfl : j = len := by omega
      have hall : ms.all pmB = true := by have := HT.out; rwa [List.take_of_length_le (by rw [hlen.out]; exact Nat.le_refl _)] at this
      obtain ⟨nb, hnb⟩ : ∃ b, nameB nm = b := ⟨_, rfl⟩
      have HN := Lib.hid (tname_is nm nb hnb hn E wr (he.to hw))
      have HF : Hid ((ms.all pmB && nameB nm) = nb) := Lib.hid (by rw [hall, hnb, Bool.true_and])
      have e0 := (hw.cell (p := ⟨b, o, none⟩) hbl).trans c0
      clear hall hnb
      go_wp2_with (go_at_call 61; refine HN.out.mono ?_; rintro e w2 ⟨rfl, rfl⟩)
      go_ret
      exact ⟨ret_bool HF.out.symm, hw⟩

end Go.Proofs.YtgmdmbmkljbgiaaGreatDoor

/- Types: the second law of layer 2. -/
namespace Go.Proofs.YtgmdmbmkljbgiaaGreatDoor
open Go.RowKit Go.Deep Go.Shelf

theorem sess_l {W : World} {k p s : Int} {n : ByteArray} {lv kv : Value} {b : Bool} (hb : (k != 1 && k != 2) = b) : Calls Tryz.prog 105 #[.agg #[.int .i64 k, .int .i64 p, .string n, .int .i64 s, lv, kv]] W fun e w' => e = .returned (.bool b) ∧ Below W.heap.size W w' := by
  rw [← hb]; exact tsession_any k p s n lv kv W
theorem rsess_l {W : World} {k p s : Int} {n : ByteArray} {lv kv : Value} {b : Bool} (hb : (k != 1 && k != 2) = b) : Calls Tryz.prog 71 #[.agg #[.int .i64 k, .int .i64 p, .string n, .int .i64 s, lv, kv]] W fun e w' => e = .returned (.bool b) ∧ Below W.heap.size W w' := by
  rw [← hb]; exact rsession_any k p s n lv kv W
theorem six_two_below (w : World) (a0 a1 a2 a3 a4 a5 b0 b1 b2 b3 b4 b5 : Value) : Below w.heap.size w ((w.alloc (.cells #[a0, a1, a2, a3, a4, a5] 27)).alloc (.cells #[b0, b1, b2, b3, b4, b5] 27)) := box2_below w _ _

end Go.Proofs.YtgmdmbmkljbgiaaGreatDoor

/- From a row's list of package-level variables to what the walks lean on; a world that meets the list. -/
namespace Go.Proofs.YtgmdmbmkljbgiaaGreatDoor
open Go.RowKit Go.ChangeShapes

/-- The list that all rows of this seat bear. -/
abbrev seatLaid : List (String × DataW Unit) := Rows.scopeChecksRow.laid

theorem one_reads {P : Program} {w : World} : ∀ {l : List (String × DataW Unit)} {ps : List MemPlace}, DataW.LaidVars P w l ps → ∀ n d, (n, d) ∈ l →
    ∃ g t cs fuel p, P.globalNamed n = some g ∧ (P.globals[g]?).map (·.type) = some t ∧ w.var? P n = some cs ∧ DataW.trod (fun _ => ()) P w 0 (fun _ => true) false fuel t cs.toList = some (d, p)
  | [], _, _, _, _, hm => by cases hm
  | (n', d') :: r, ps, h, n, d, hm => by
    obtain ⟨g, t, cs, fuel, p, q, h1, h2, h3, h4, h5, _⟩ := h
    rcases List.mem_cons.1 hm with e | e
    · cases e
      exact ⟨g, t, cs, fuel, p, h1, h2, h3, h4⟩
    · exact one_reads h5 n d e

theorem strs_read {H : Type} {enc : TypeId × Value → H} {P : Program} {w : World} {base : Nat} {sp : Nat → Bool} {held : Bool} {fuel : Nat} {t e : TypeId} {n : Nat} {cs : List Value} {ls : List (List UInt8)} {p : List MemPlace}
    (ht : P.underlying t = some (.array n e)) (he : P.underlying e = some .string) (hce : P.cellsOf e = 1) (hct : P.cellsOf t = n)
    (h : DataW.trod enc P w base sp held fuel t cs = some (.agg (ls.map fun l => .lit (.string l)), p)) : cs = ls.map fun l => Value.string ⟨l.toArray⟩ := by
  obtain ⟨xs, m, _, hx, hlen, hxl, hat⟩ := DataW.trod_array ht h
  have hxs : xs.map (·.1) = ls.map fun l => (DataW.lit (.string l) : DataW H) := by
    have := congrArg Prod.fst hx
    simpa using this.symm
  have hll : ls.length = n := by
    have := congrArg List.length hxs
    simp at this; omega
  apply List.ext_getElem?
  intro i
  by_cases hi : i < n
  · have hf := hat i hi
    rw [hce, Nat.mul_one] at hf
    obtain ⟨x, hxi⟩ : ∃ x, xs[i]? = some x := ⟨_, List.getElem?_eq_getElem (by omega)⟩
    rw [hxi] at hf
    obtain ⟨s, hc, rfl, _⟩ := DataW.trod_string he hf
    have h1 : cs[i]? = some (.string s) := by
      have := congrArg (·[0]?) hc
      simpa [List.getElem?_take, List.getElem?_drop] using this
    have h2 : (xs.map (·.1))[i]? = some (DataW.lit (.string s.data.toList) : DataW H) := by simp [hxi]
    rw [hxs] at h2
    simp only [List.getElem?_map, Option.map_eq_some_iff, DataW.lit.injEq, Lit.string.injEq] at h2
    obtain ⟨l, hl, hls⟩ := h2
    rw [h1, List.getElem?_map, hl, hls]
    rfl
  · rw [List.getElem?_eq_none (by omega), List.getElem?_eq_none (by simp; omega)]

theorem wordsType : (Tryz.prog.globals[0]?).map (·.type) = some 132 := by kernel_rfl
theorem cellsStr : Tryz.prog.cellsOf 9 = 1 := by kernel_rfl
theorem cellsWords : Tryz.prog.cellsOf 132 = 10 := by kernel_rfl
theorem env_of_laid {W : World} (h : laidMetH Tryz.prog seatLaid W) : Env W.heap.size W := by
  rw [MakeChecks.laidMetH_plain _ _ _ (by kernel_rfl)] at h
  obtain ⟨ps, hv, _⟩ := h
  obtain ⟨g', t', cs', fuel', p', hg', ht', hvar', hd'⟩ := one_reads hv "duologue/lex.keywords" Rows.laid_duologue_lex_keywords (by simp [seatLaid, Rows.scopeChecksRow])
  obtain rfl := Option.some.inj (gWords.symm.trans hg')
  obtain rfl := Option.some.inj (wordsType.symm.trans ht')
  have hws := strs_read (ls := [[100, 101, 102], [109, 97, 105, 110], [115, 116, 111, 112], [110, 101, 119], [105, 110, 116], [98, 111, 111, 108], [101, 110, 100], [114, 101, 99], [116, 114, 117, 101], [102, 97, 108, 115, 101]]) kwU Tryz.underlying9 cellsStr cellsWords hd'
  have lt : ∀ {n : String} {g : Nat} {cs : Array Value}, Tryz.prog.globalNamed n = some g → W.var? Tryz.prog n = some cs → g < W.heap.size := by
    intro n g cs hg hv
    unfold World.var? at hv
    simp only [hg, Option.bind_some] at hv
    rcases Nat.lt_or_ge g W.heap.size with h' | h'
    · exact h'
    · rw [Array.getElem?_eq_none h'] at hv; cases hv
  refine ⟨?_, lt gWords hvar', Nat.le_refl _⟩
  rw [hvar']; obtain ⟨l⟩ := cs'; simp only at hws; rw [hws]; rfl

/-- The door's own heap meets the list: closed facts. -/
theorem door_met (os : Os) (args : Array Value) : laidMetH Tryz.prog seatLaid ((World.doorLaid Tryz.prog 4000 os).forCall (fun _ _ => 0) ⟨#[], args, []⟩).memory :=
  laidMetH_of_parts3 (fuel := 10) (laidMet_of_run' 10 (by kernel_rfl) (by kernel_rfl)) (by kernel_rfl) (by kernel_rfl)

end Go.Proofs.YtgmdmbmkljbgiaaGreatDoor

/- Types: a type that came in as an argument. -/
namespace Go.Proofs.YtgmdmbmkljbgiaaGreatDoor
open Go.ChangeShapes Go.WideShapes Go.ChangeAt Go.RowKit Go.Deep

theorem choose_list {α : Type} (Q : Nat → α → Prop) : ∀ n : Nat, (∀ i, i < n → ∃ x, Q i x) → ∃ ls : List α, ls.length = n ∧ ∀ i x, ls[i]? = some x → Q i x
  | 0, _ => ⟨[], rfl, fun i x h => by simp at h⟩
  | n + 1, h => by
    obtain ⟨ls, hl, hq⟩ := choose_list Q n (fun i hi => h i (by omega))
    obtain ⟨x, hx⟩ := h n (by omega)
    refine ⟨ls ++ [x], by simp [hl], fun i y hy => ?_⟩
    by_cases hi : i < ls.length
    · rw [List.getElem?_append_left hi] at hy; exact hq i y hy
    · rw [List.getElem?_append_right (by omega)] at hy
      have : i - ls.length = 0 := by
        rcases Nat.eq_zero_or_pos (i - ls.length) with h0 | h0
        · exact h0
        · rw [List.getElem?_eq_none (by simp; omega)] at hy; cases hy
      rw [this] at hy
      simp at hy
      subst hy
      have : i = n := by omega
      subst this
      exact hx
theorem addr_of_cell {w : World} {a : Addr} {v : Value} (h : w.cell? a = some v) : a = ⟨a.block, a.off, none⟩ ∧ a.block < w.heap.size := by
  obtain ⟨b, o, s⟩ := a
  unfold World.cell? at h
  cases hb : w.heap[b]? with
  | none => simp [hb] at h
  | some ob =>
    have hlt := (Array.getElem?_eq_some_iff.1 hb).1
    cases s with
    | none => exact ⟨rfl, hlt⟩
    | some s => cases ob <;> simp [hb] at h
theorem add_block {b o : Nat} (j : Nat) : (⟨b, o, none⟩ : Addr).add j = ⟨b, o + j, none⟩ := by
  unfold Addr.add
  by_cases h : j = 0
  · subst h; simp
  · simp [h]
theorem add_zero' (a : Addr) : a.add 0 = a := by unfold Addr.add; simp
/-- A struct of one-cell fields, field by field. -/
theorem fields_of {H : Type} {enc : TypeId × Value → H} {P : Program} {w : World} {base : Nat} {spare : Nat → Bool} {held : Bool} {e : TypeId} {fs : Array Field} {fuel : Nat} {cs : List Value} {x : DataW H × List MemPlace}
    (he : P.underlying e = some (.struct fs)) (hone : oneCellFields P fs = true) (hC : P.cellsOf e = fs.size) (h : DataW.trod enc P w base spare held fuel e cs = some x) :
    ∃ (ys : List (DataW H × List MemPlace)) (n : Nat), fuel = n + 1 ∧ x = (.agg (ys.map (·.1)), ys.flatMap (·.2)) ∧ cs.length = fs.size ∧ ys.length = fs.size ∧
      ∀ (j : Nat) (f : Field), fs[j]? = some f → ∃ v y, cs[j]? = some v ∧ ys[j]? = some y ∧ DataW.trod enc P w base spare held n f.type [v] = some y := by
  obtain ⟨ys, n, hn, hx, hl, hyl, hf⟩ := DataW.trod_struct he h
  rw [hC] at hl
  refine ⟨ys, n, hn, hx, hl, hyl, fun j f hj => ?_⟩
  have hlt := (Array.getElem?_eq_some_iff.1 hj).1
  obtain ⟨ho, h1⟩ := hone_of hone j f hj
  have h2 := hf j f hj
  obtain ⟨v, hv⟩ : ∃ v, cs[j]? = some v := ⟨_, List.getElem?_eq_getElem (by omega)⟩
  obtain ⟨y, hy⟩ : ∃ y, ys[j]? = some y := ⟨_, List.getElem?_eq_getElem (by omega)⟩
  have ht : (cs.drop j).take 1 = [v] := by
    have hd := List.drop_eq_getElem_cons (l := cs) (i := j) (by omega)
    rw [List.getElem?_eq_getElem (by omega)] at hv
    rw [hd, List.take_succ_cons, List.take_zero]
    simpa using hv
  rw [ho, h1, ht, hy] at h2
  exact ⟨v, y, hv, hy, h2⟩
/-- A slice: nil, or elements that read with less fuel. -/
theorem slice_of {H : Type} {enc : TypeId × Value → H} {P : Program} {w : World} {base : Nat} {spare : Nat → Bool} {held : Bool} {t e : TypeId} {fuel : Nat} {v : Value} {x : DataW H × List MemPlace}
    (he : P.underlying t = some (.slice e)) (h : DataW.trod enc P w base spare held fuel t [v] = some x) :
    ∃ (a : Option Addr) (len cap : Nat), v = .slice a len cap ∧ len ≤ cap ∧ cap ≤ maxLen ∧ ∀ i, i < len → ∃ ad n cs y, a = some ad ∧ n < fuel ∧ w.cells? base (ad.add (i * P.cellsOf e)) (P.cellsOf e) = some cs ∧ DataW.trod enc P w base spare held n e cs = some y := by
  rcases DataW.trod_slice he h with ⟨hc, hx⟩ | ⟨a, len, cap, elems, rest, n, hn, hcs, hx, hb, hl, hm, hlen, hel, _⟩
  · simp only [List.cons.injEq, and_true] at hc
    exact ⟨none, 0, 0, hc, by omega, by simp [maxLen], fun i hi => by omega⟩
  · simp only [List.cons.injEq, and_true] at hcs
    refine ⟨some a, len, cap, hcs, hl, hm, fun i hi => ?_⟩
    have h1 := hel i hi
    obtain ⟨y, hy⟩ : ∃ y, elems[i]? = some y := ⟨_, List.getElem?_eq_getElem (by omega)⟩
    rw [hy] at h1
    cases hq : w.cells? base (a.add (i * P.cellsOf e)) (P.cellsOf e) with
    | none => rw [hq] at h1; simp at h1
    | some cs => rw [hq] at h1; exact ⟨a, n, cs, y, rfl, by omega, hq, by simpa using h1⟩

theorem wf_in {n : Int} (h : (Lit.int .i64 n).wf = true) : In64 n := by
  unfold Lit.wf at h
  rw [Bool.and_eq_true, decide_eq_true_eq, decide_eq_true_eq] at h
  exact h

theorem strs_open {H : Type} {enc : TypeId × Value → H} {W : World} {base : Nat} {spare : Nat → Bool} {held : Bool} {fuel : Nat} {v : Value} {x : DataW H × List MemPlace} (h : DataW.trod enc Tryz.prog W base spare held fuel 23 [v] = some x) :
    ∃ ls, StrSl (fun k => k < W.heap.size) W v ls := by
  obtain ⟨a, len, cap, rfl, hl, hm, hi⟩ := slice_of Tryz.underlying23 h
  rw [show Tryz.prog.cellsOf 9 = 1 from by kernel_rfl] at hi
  have each : ∀ i, i < len → ∃ s : ByteArray, s.size ≤ maxLen ∧ ∃ b o, a = some ⟨b, o, none⟩ ∧ b < W.heap.size ∧ W.cell? ⟨b, o + i, none⟩ = some (.string s) := by
    intro i hin
    obtain ⟨ad, n, cs, y, rfl, _, hc, ht⟩ := hi i hin
    obtain ⟨ad0, n0, cs0, y0, e0, _, hc0, ht0⟩ := hi 0 (by omega)
    obtain rfl := Option.some.inj e0
    obtain ⟨s, rfl, _, hs⟩ := DataW.trod_string Tryz.underlying9 ht
    obtain ⟨s0, rfl, _, _⟩ := DataW.trod_string Tryz.underlying9 ht0
    obtain ⟨_, _, hat⟩ := World.cells?_some hc
    obtain ⟨_, _, hat0⟩ := World.cells?_some hc0
    have h0 := hat0 0 (by omega)
    have h1 := hat 0 (by omega)
    rw [Nat.zero_mul, add_zero', add_zero'] at h0
    obtain ⟨e1, e2⟩ := addr_of_cell h0
    rw [add_zero', e1, add_block] at h1
    exact ⟨s, hs, ad.block, ad.off, by rw [← e1], e2, by simpa using h1⟩
  obtain ⟨ls, hln, hls⟩ := choose_list _ len each
  refine ⟨ls, ?_, by omega, fun s hs => ?_⟩
  · cases ls with
    | nil => exact .inl ⟨⟨a, cap, by rw [← hln]; rfl⟩, rfl⟩
    | cons s0 r =>
      obtain ⟨_, b, o, rfl, hb, _⟩ := hls 0 s0 rfl
      refine .inr ⟨b, o, cap, by rw [hln], hb, by omega, fun j s hj => ?_⟩
      obtain ⟨_, b', o', e, _, hc⟩ := hls j s hj
      simp only [Option.some.injEq, Addr.mk.injEq, and_true] at e
      obtain ⟨rfl, rfl⟩ := e
      exact hc
  · obtain ⟨i, hi'⟩ := List.mem_iff_getElem?.1 hs
    exact (hls i s hi').1

/-- The cells of a type. -/
def tyCells (t : Ty) (lv kv : Value) : List Value := [.int .i64 t.k, .int .i64 t.p, .string t.n, .int .i64 t.s, lv, kv]
theorem tyCellsOf : Tryz.prog.cellsOf 27 = 6 := by kernel_rfl

set_option maxRecDepth 100000 in
theorem ty_open {H : Type} {enc : TypeId × Value → H} {W : World} {base : Nat} {spare : Nat → Bool} {held : Bool} : ∀ (fuel : Nat) (cs : List Value) (x : DataW H × List MemPlace), DataW.trod enc Tryz.prog W base spare held fuel 27 cs = some x →
    ∃ t lv kv, cs = tyCells t lv kv ∧ t.fine ∧ Lies W (.agg (tyCells t lv kv).toArray) t := by
  intro fuel
  induction fuel using Nat.strongRecOn with
  | _ fuel ih =>
  intro cs x h
  obtain ⟨ys, n', hn', hD, hcl, hyl, hf⟩ := fields_of Tryz.underlying27 (by kernel_rfl) (by kernel_rfl) h
  obtain ⟨v0, y0, e0, z0, t0⟩ := hf 0 _ rfl
  obtain ⟨v1, y1, e1, z1, t1⟩ := hf 1 _ rfl
  obtain ⟨v2, y2, e2, z2, t2⟩ := hf 2 _ rfl
  obtain ⟨v3, y3, e3, z3, t3⟩ := hf 3 _ rfl
  obtain ⟨v4, y4, e4, z4, t4⟩ := hf 4 _ rfl
  obtain ⟨v5, y5, e5, z5, t5⟩ := hf 5 _ rfl
  obtain ⟨k, hk, _, wk⟩ := DataW.trod_int Tryz.underlying3 t0
  obtain ⟨p, hp, _, _⟩ := DataW.trod_int Tryz.underlying3 t1
  obtain ⟨nm, hnm, _, hnz⟩ := DataW.trod_string Tryz.underlying9 t2
  obtain ⟨s, hs, _, _⟩ := DataW.trod_int Tryz.underlying3 t3
  simp only [List.cons.injEq, and_true] at hk hp hnm hs
  subst hk hp hnm hs
  obtain ⟨ls, hls⟩ := strs_open t4
  obtain ⟨a, len, cap, rfl, hl, hm, hi⟩ := slice_of Tryz.underlying25 t5
  rw [tyCellsOf] at hi
  have each : ∀ i, i < len → ∃ t : Ty, t.fine ∧ ∃ b o, a = some ⟨b, o, none⟩ ∧ TyAt (fun k => k < W.heap.size) W t b (o + i * 6) := by
    intro i hin
    obtain ⟨ad, n, cs', y, rfl, hlt, hc, ht⟩ := hi i hin
    obtain ⟨ad0, n0, cs0, y0, e0, _, hc0, ht0⟩ := hi 0 (by omega)
    obtain rfl := Option.some.inj e0
    obtain ⟨t, lv, kv, rfl, hfine, hlies⟩ := ih n (by omega) cs' y ht
    obtain ⟨_, hl6, hat⟩ := World.cells?_some hc
    obtain ⟨_, hl0, hat0⟩ := World.cells?_some hc0
    have h0 := hat0 0 (by omega)
    rw [Nat.zero_mul, add_zero', add_zero', List.getElem?_eq_getElem (by omega)] at h0
    obtain ⟨e1, e2⟩ := addr_of_cell h0
    rw [e1] at hat
    simp only [add_block] at hat
    refine ⟨t, hfine, ad.block, ad.off, by rw [← e1], ?_⟩
    refine tyAt_of e2 ?_ ?_ ?_ ?_ ?_ ?_ hlies
    · have := hat 0 (by omega); simpa [tyCells] using this
    · have := hat 1 (by omega); simpa [tyCells] using this
    · have := hat 2 (by omega); simpa [tyCells] using this
    · have := hat 3 (by omega); simpa [tyCells] using this
    · have := hat 4 (by omega); simpa [tyCells] using this
    · have := hat 5 (by omega); simpa [tyCells] using this
  obtain ⟨ts, htn, hts⟩ := choose_list _ len each
  have hcs : cs = [.int .i64 k, .int .i64 p, .string nm, .int .i64 s, v4, .slice a len cap] := by
    match cs, hcl, e0, e1, e2, e3, e4, e5 with
    | [a0, a1, a2, a3, a4, a5], _, e0, e1, e2, e3, e4, e5 =>
      simp at e0 e1 e2 e3 e4 e5
      rw [e0, e1, e2, e3, e4, e5]
  refine ⟨.mk k p nm s ls ts, v4, .slice a len cap, hcs, ⟨wf_in wk, ?_⟩, _, _, rfl, hnz, hls, ?_, by show ts.length ≤ _; omega⟩
  · have : ∀ l : List Ty, (∀ u ∈ l, u.fine) → Ty.fines l := by
      intro l
      induction l with
      | nil => intro _; trivial
      | cons u r ihr => intro hh; exact ⟨hh u (by simp), ihr (fun v hv => hh v (by simp [hv]))⟩
    refine this ts (fun u hu => ?_)
    obtain ⟨i, hi'⟩ := List.mem_iff_getElem?.1 hu
    exact (hts i u hi').1
  · show _ ∨ _
    cases ts with
    | nil => exact .inl ⟨⟨a, cap, by rw [← htn]; rfl⟩, rfl⟩
    | cons u0 r =>
      obtain ⟨_, b, o, rfl, hat0⟩ := hts 0 u0 rfl
      refine .inr ⟨b, o, cap, by show Value.slice _ _ _ = Value.slice _ (u0 :: r).length _; rw [htn], (TyAt.eq.1 hat0).1, ?_⟩
      refine tysAt_of (fun i t hi' => ?_)
      obtain ⟨_, b', o', e, hat⟩ := hts i t hi'
      simp only [Option.some.injEq, Addr.mk.injEq, and_true] at e
      obtain ⟨rfl, rfl⟩ := e
      exact hat

set_option maxRecDepth 100000 in
/-- A type that came in. -/
theorem type_open {H : Type} {enc : TypeId × Value → H} {W : World} {base : Nat} {spare : Nat → Bool} {held : Bool} {v : Value} {d : DataW H} {p : List MemPlace} {b0 : Nat} (hv : Value.okWide Tryz.prog W .any b0 27 v) (h : DataW.Trod enc Tryz.prog W base spare held 27 v d p) :
    ∃ t, t.fine ∧ Lies W v t := by
  obtain ⟨fuel, hf⟩ := h
  unfold Value.okWide at hv
  rw [Tryz.underlying27] at hv
  obtain ⟨cs, rfl, _, _⟩ := hv
  obtain ⟨t, lv, kv, e, hfine, hl⟩ := ty_open fuel _ _ hf
  have e' : cs.toList = tyCells t lv kv := e
  have : cs = (tyCells t lv kv).toArray := by rw [← e']
  rw [this]
  exact ⟨t, hfine, hl⟩

end Go.Proofs.YtgmdmbmkljbgiaaGreatDoor
