/- Scopes: sets of texts as maps, numbers of parameters, and what the names and calls of a program ask. (and what follows from it) -/
import Derived.Test.YtmedijheidbmhaaGreatDoorPz3
import Derived.Test.YtmedijheidbmhaaGreatDoorPz1
import Derived.Test.YtmedijheidbmhaaGreatDoorPz2
import Derived.Test.YtmedijheidbmhaaGreatDoorRows
import Derived.Test.YtmedijheidbmhaaGreatDoorPrB
import Derived.Maps.OwnSet
import Derived.Maps.OwnOps
import Derived.LaidLaws
import Derived.LaidMore
import Derived.MakeChecks
import Derived.OpenShut
import Derived.ChangeArms
import Derived.WalkKit
import Derived.ProofKit
import Derived.Deep.DeepHandedRow
import Derived.Deep.Slices
import Derived.Deep.Fields
import Derived.ChangeSame
import Derived.Carry

/- Scopes: sets of texts as maps, numbers of parameters, and what the names and calls of a program ask. -/
namespace Go.Proofs.YtmedijheidbmhaaGreatDoor
open Go.RowKit Go.Deep Go.Shelf

/-! ### Lists of texts -/
theorem memB_append (s : ByteArray) (l r : List ByteArray) : memB s (l ++ r) = (memB s l || memB s r) := by simp [memB]
theorem memB_nil (s : ByteArray) : memB s [] = false := rfl
theorem memB_one (s x : ByteArray) : memB s [x] = decide (x = s) := by simp [memB]
theorem memB_cons (s x : ByteArray) (l : List ByteArray) : memB s (x :: l) = (decide (x = s) || memB s l) := by simp [memB]
/-- Some text stands twice. -/
def dups : List ByteArray → Bool
  | [] => false
  | x :: r => memB x r || dups r
theorem dups_snoc (l : List ByteArray) (x : ByteArray) : dups (l ++ [x]) = (dups l || memB x l) := by
  induction l with
  | nil => rfl
  | cons y r ih =>
    rw [List.cons_append, dups, ih, memB_append, dups, memB_one, memB_cons, show decide (x = y) = decide (y = x) from by simp [eq_comm]]
    cases memB y r <;> cases dups r <;> cases decide (y = x) <;> cases memB x r <;> rfl
theorem dups_mono (l : List ByteArray) {j : Nat} (h : dups (l.take j) = true) : dups l = true := by
  have h1 : ∀ (a r : List ByteArray), dups a = true → dups (a ++ r) = true := by
    intro a r
    induction a with
    | nil => intro h; cases h
    | cons y a ih =>
      intro h
      rw [List.cons_append, dups, memB_append]
      rw [dups] at h
      cases hm : memB y a with
      | true => simp
      | false => rw [hm] at h; simp at h; rw [ih h]; simp
  rw [← List.take_append_drop j l]; exact h1 _ _ h

theorem intInfoS : (Tryz.prog.info? 3).map (fun i => (i.zero, i.size, i.bytes)) = some (some (.int .i64 0), 1, 8) := by kernel_rfl
theorem zero_intS (w : World) : (zeroValue 3).run Tryz.prog w = .ok (.int .i64 0) w := by
  obtain ⟨i0, hi, hz0, hz1, hz2⟩ := info_parts intInfoS
  simp [zeroValue, typeInfo, hi, hz0]

/-! ### Sets of texts -/
theorem boolKeyed : Maps.Keyed Tryz.prog 9 := Maps.string_keyed Tryz.underlying9
/-- Block b is a map that holds the texts of l, in at most n entries. -/
def SetIs (w : World) (b n : Nat) (l : List ByteArray) : Prop := ∃ D : DataW Unit, w.ownsMap Tryz.prog 9 (plainElem Tryz.prog 4) b n D ∧ (∀ s : ByteArray, Maps.has D (.string s.data.toList) = memB s l ∧ D.atKey (.string s.data.toList) (.lit (.bool false)) = .lit (.bool (memB s l))) ∧ Maps.size D ≤ l.length ∧ (Maps.size D < l.length ↔ dups l = true)
theorem SetIs.seen {w : World} {b n : Nat} {l : List ByteArray} (h : SetIs w b n l) : Seen w b n l := by
  obtain ⟨D, ho, hf, _⟩ := h; exact ⟨D, ho, fun s => (hf s).2⟩
theorem SetIs.look {w : World} {b n : Nat} {l : List ByteArray} (h : SetIs w b n l) {s : ByteArray} (hs : s.size ≤ maxLen) : (Instr.lookup 67 (.map (some b)) (.string s) false).run Tryz.prog w = .ok (.bool (memB s l)) w := h.seen.look hs
theorem SetIs.made (w : World) : SetIs (w.alloc (.map #[] 0)) w.heap.size 0 [] := ⟨.map [], World.ownsMap_made w _ _ _, fun _ => ⟨rfl, rfl⟩, by simp [Maps.size_eq], by simp [Maps.size_eq, dups]⟩
theorem SetIs.kept {w w' : World} {b n : Nat} {l : List ByteArray} (h : SetIs w b n l) {row : Option Nat} (hg : w.grownBy w' row) (hne : some b ≠ row) : SetIs w' b n l := by
  obtain ⟨D, ho, hf⟩ := h; exact ⟨D, ho.kept hg hne, hf⟩
theorem SetIs.lt {w : World} {b n : Nat} {l : List ByteArray} (h : SetIs w b n l) : b < w.heap.size := by obtain ⟨D, ho, _⟩ := h; exact ho.lt
theorem SetIs.below {w w' : World} {b n m : Nat} {l : List ByteArray} (h : SetIs w b n l) (hb : Below m w w') (hm : b < m) : SetIs w' b n l := by
  obtain ⟨D, ⟨es, clock, h1, r⟩, hf⟩ := h
  exact ⟨D, ⟨es, clock, (hb.block b hm).trans h1, r⟩, hf⟩
theorem SetIs.put {w : World} {b n : Nat} {l : List ByteArray} (h : SetIs w b n l) (hn : n < maxLen) {s : ByteArray} (hs : s.size ≤ maxLen) :
    ∃ w', (Instr.mapUpdate 67 (.map (some b)) (.string s) (.bool true)).run Tryz.prog w = .ok () w' ∧ SetIs w' b (n + 1) (l ++ [s]) ∧ w.grownBy w' (some b) := by
  obtain ⟨D, ho, hf, h1, h2⟩ := h
  obtain ⟨w', hr, ho', ht⟩ := ho.store boolKeyed Tryz.underlying67 hn (Go.WideMaps.keyOf_string_mk Tryz.underlying9 hs) (plainElem_bool Tryz.underlying4 true)
  have hk : WideAt.IsKeyLit (Lit.string s.data.toList) := by first | trivial | simp [WideAt.IsKeyLit]
  have hsz := Maps.size_put (k := Lit.string s.data.toList) (ho.tidy boolKeyed) (DataW.lit (H := Unit) (.bool true))
  rw [(hf s).1] at hsz
  have hd := dups_snoc l s
  refine ⟨w', hr, ⟨_, ho', fun x => ?_, ?_, ?_⟩, ht.grown⟩
  · by_cases e : x = s
    · subst e
      rw [Maps.atKey_put_same ho.isMap hk, Maps.has_put_same ho.isMap hk]
      have : memB x (l ++ [x]) = true := memB_true.2 (by simp)
      rw [this]; exact ⟨rfl, rfl⟩
    · have e1 : Lit.string x.data.toList ≠ Lit.string s.data.toList := fun h => e (by
        have := Lit.string.inj h
        cases x; cases s; simp at this; congr 1)
      rw [Maps.atKey_put_other e1, Maps.has_put_other e1, memB_append, memB_one]
      have e' : decide (s = x) = false := by simpa using fun h => e h.symm
      rw [e', Bool.or_false]; exact hf x
  · rw [List.length_append, List.length_singleton]; split at hsz <;> omega
  · rw [List.length_append, List.length_singleton, hd]
    cases hm : memB s l with
    | true => rw [hm] at hsz; simp at hsz; simp; omega
    | false => rw [hm] at hsz; simp at hsz; rw [Bool.or_false, ← h2]; omega
theorem SetIs.len {w : World} {b n : Nat} {l : List ByteArray} (h : SetIs w b n l) (ty : TypeId) :
    ∃ q : Nat, (Builtin.len_ #[67] ty #[.map (some b)]).run Tryz.prog w = .ok (.int .i64 q) w ∧ q ≤ l.length ∧ (q < l.length ↔ dups l = true) := by
  obtain ⟨D, ho, hf, h1, h2⟩ := h
  exact ⟨_, ho.len Tryz.underlying67 ty, h1, h2⟩

/-! ### Numbers by texts -/
def ArIs (w : World) (b n : Nat) (ar : ByteArray → Option Nat) : Prop := ∃ f : Lit → Option Value, MapIs w 9 b n f ∧ ∀ s : ByteArray, f (.string s.data.toList) = (ar s).map (fun k => Value.int .i64 (k : Int))
theorem ArIs.lt {w : World} {b n : Nat} {ar : ByteArray → Option Nat} (h : ArIs w b n ar) : b < w.heap.size := by obtain ⟨f, hm, _⟩ := h; exact hm.lt
theorem ArIs.below {w w' : World} {b n m : Nat} {ar : ByteArray → Option Nat} (h : ArIs w b n ar) (hb : Below m w w') (hm : b < m) : ArIs w' b n ar := by
  obtain ⟨f, h1, h2⟩ := h; exact ⟨f, h1.below hb hm, h2⟩
theorem ArIs.made (w : World) : ArIs (w.alloc (.map #[] 0)) w.heap.size 0 (fun _ => none) := ⟨_, MapIs.made _ _, fun _ => rfl⟩
theorem ArIs.look_ok {w : World} {b n : Nat} {ar : ByteArray → Option Nat} (h : ArIs w b n ar) {s : ByteArray} (hs : s.size ≤ maxLen) {r : Option Nat} (hr : ar s = r) : (Instr.lookup 62 (.map (some b)) (.string s) true).run Tryz.prog w = .ok (.tuple #[.int .i64 ((r.getD 0 : Nat) : Int), .bool r.isSome]) w := by
  obtain ⟨f, hm, hf⟩ := h
  rw [hm.look_ok boolKeyed Tryz.underlying62 (zero_intS w) (Go.WideMaps.keyOf_string_mk Tryz.underlying9 hs), hf, hr]
  cases r <;> rfl
theorem ArIs.put {w : World} {b n : Nat} {ar : ByteArray → Option Nat} (h : ArIs w b n ar) (hn : n < maxLen) {s : ByteArray} (hs : s.size ≤ maxLen) (x : Nat) :
    ∃ w', (Instr.mapUpdate 62 (.map (some b)) (.string s) (.int .i64 (x : Int))).run Tryz.prog w = .ok () w' ∧ ArIs w' b (n + 1) (fun y => if y = s then some x else ar y) ∧ w.grownBy w' (some b) := by
  obtain ⟨f, hm, hf⟩ := h
  obtain ⟨w', hr, hm', hg⟩ := hm.put boolKeyed Tryz.underlying62 hn (Go.WideMaps.keyOf_string_mk Tryz.underlying9 hs) (by first | trivial | simp [WideAt.IsKeyLit]) (val := .int .i64 (x : Int))
  refine ⟨w', hr, ⟨_, hm', fun y => ?_⟩, hg⟩
  by_cases e : y = s
  · subst e; simp
  · have e' : ¬ (Lit.string y.data.toList = Lit.string s.data.toList) := fun h => e (by
      have := Lit.string.inj h
      cases y; cases s; simp at this; congr 1)
    simp only [if_neg e', if_neg e]
    exact hf y

/-! ### What is asked -/
/-- The numbers of parameters by names: of the last definition with the name. -/
def arOf : List Df → ByteArray → Option Nat
  | [], _ => none
  | d :: r, s => match arOf r s with
    | some k => some k
    | none => if s = d.n then some d.ms.length else none
theorem arOf_snoc (l : List Df) (d : Df) (s : ByteArray) : arOf (l ++ [d]) s = if s = d.n then some d.ms.length else arOf l s := by
  induction l with
  | nil => simp [arOf]
  | cons x r ih =>
    rw [List.cons_append, arOf, ih, arOf]
    by_cases e : s = d.n
    · simp [e]
    · simp [e]
/-- That of the first one. -/
def arFst : List Df → ByteArray → Option Nat
  | [], _ => none
  | d :: r, s => if s = d.n then some d.ms.length else arFst r s
theorem arFst_none {l : List Df} {s : ByteArray} (h : memB s (l.map Df.n) = false) : arFst l s = none := by
  induction l with
  | nil => rfl
  | cons d r ih =>
    rw [List.map_cons, memB_cons, Bool.or_eq_false_iff] at h
    rw [arFst, if_neg (fun e => by simp [e] at h), ih h.2]
theorem arOf_none {l : List Df} {s : ByteArray} (h : memB s (l.map Df.n) = false) : arOf l s = none := by
  induction l with
  | nil => rfl
  | cons d r ih =>
    rw [List.map_cons, memB_cons, Bool.or_eq_false_iff] at h
    rw [arOf, ih h.2]
    simp only
    rw [if_neg (fun e => by simp [e] at h)]
theorem arOf_fst {l : List Df} (h : dups (l.map Df.n) = false) (s : ByteArray) : arOf l s = arFst l s := by
  induction l with
  | nil => rfl
  | cons d r ih =>
    rw [List.map_cons, dups, Bool.or_eq_false_iff] at h
    rw [arOf, arFst]
    by_cases e : s = d.n
    · subst e
      rw [arOf_none h.1]; simp
    · rw [ih h.2, if_neg e, if_neg e]
      cases arFst r s <;> rfl

def badArg (sc : List ByteArray) (a : Vl) : Bool := decide (a.k = 1) && !memB a.n sc
/-- The error of a call, but for its arguments' names. -/
def callE (r : Option Nat) (n : Nat) (g : Bool) : Int := match r with
  | none => 4
  | some k => if k = n then (if g then 0 else 7) else 6
def Pr.nodeE (ar : ByteArray → Option Nat) (sc : List ByteArray) (g : Bool) (p : Pr) : Int :=
  if (prefixB p.k && !memB p.c sc) = true then 4
  else if p.vs.any (badArg sc) = true then 4
  else if p.bnd.any (fun s => memB s sc) = true then 5
  else if p.k = 8 then callE (ar p.c) p.vs.length g
  else 0
mutual
/-- The error of the first node that has one. -/
def Pr.scE (ar : ByteArray → Option Nat) : Pr → List ByteArray → Bool → Int
  | .mk k c x ls vs t ps, sc, g => if (Pr.mk k c x ls vs t ps).nodeE ar sc g = 0 then Pr.scEs ar ps (sc ++ (Pr.mk k c x ls vs t ps).bnd) (g || prefixB k) else (Pr.mk k c x ls vs t ps).nodeE ar sc g
def Pr.scEs (ar : ByteArray → Option Nat) : List Pr → List ByteArray → Bool → Int
  | [], _, _ => 0
  | p :: r, sc, g => if p.scE ar sc g = 0 then Pr.scEs ar r sc g else p.scE ar sc g
end
theorem Pr.scE_eq (ar : ByteArray → Option Nat) (p : Pr) (sc : List ByteArray) (g : Bool) : p.scE ar sc g = if p.nodeE ar sc g = 0 then Pr.scEs ar p.ps (sc ++ p.bnd) (g || prefixB p.k) else p.nodeE ar sc g := by cases p; simp [Pr.scE, Pr.ps, Pr.k]
theorem Pr.scEs_append {ar : ByteArray → Option Nat} {l : List Pr} {sc : List ByteArray} {g : Bool} (h : Pr.scEs ar l sc g = 0) (r : List Pr) : Pr.scEs ar (l ++ r) sc g = Pr.scEs ar r sc g := by
  induction l with
  | nil => rfl
  | cons p l ih =>
    rw [Pr.scEs] at h
    by_cases hp : p.scE ar sc g = 0
    · rw [if_pos hp] at h
      rw [List.cons_append, Pr.scEs, if_pos hp]; exact ih h
    · rw [if_neg hp] at h; exact absurd h hp
theorem Pr.scEs_next {ar : ByteArray → Option Nat} {l : List Pr} {sc : List ByteArray} {g : Bool} {j : Nat} {u : Pr} (hu : l[j]? = some u) (h : Pr.scEs ar (l.take j) sc g = 0) {x : Int} (hx : u.scE ar sc g = x) :
    Pr.scEs ar (l.take (j + 1)) sc g = x ∧ (x ≠ 0 → Pr.scEs ar l sc g = x) := by
  refine ⟨?_, fun h0 => ?_⟩
  · rw [take_snoc_get hu, Pr.scEs_append h, Pr.scEs, hx]
    by_cases h0 : x = 0
    · rw [if_pos h0, h0]; rfl
    · rw [if_neg h0]
  · have hjl : j < l.length := (List.getElem?_eq_some_iff.1 hu).1
    have e : l = l.take j ++ u :: l.drop (j + 1) := by
      conv => lhs; rw [← List.take_append_drop j l, List.drop_eq_getElem_cons hjl]
      congr 2
      exact (List.getElem?_eq_some_iff.1 hu).2
    rw [e, Pr.scEs_append h, Pr.scEs, hx, if_neg h0]

/-- The names and the parameters of a definition are not new. -/
def twiceAt (ds : List Df) (i : Nat) : Bool := match ds[i]? with
  | some d => memB d.n ((ds.take i).map Df.n) || dups (d.ms.map Pm.n)
  | none => false
def twF (ds : List Df) : Option Nat := (List.range ds.length).find? (twiceAt ds)
/-- The error of a body, Main last. -/
def Pg.bE (g : Pg) (ar : ByteArray → Option Nat) (i : Nat) : Int := match g.ds[i]? with
  | some d => d.b.scE ar (d.ms.map Pm.n) false
  | none => g.m.scE ar [] true
def Pg.bF (g : Pg) : Option Nat := (List.range (g.ds.length + 1)).find? (fun i => g.bE (arOf g.ds) i != 0)
theorem range_find {n i : Nat} {p : Nat → Bool} (hi : i < n) (h : ∀ j, j < i → p j = false) (hp : p i = true) : (List.range n).find? p = some i := by
  rw [List.find?_range_eq_some]
  exact ⟨hp, List.mem_range.2 hi, fun j hj => by simp [h j hj]⟩
theorem range_find_none {n : Nat} {p : Nat → Bool} (h : ∀ j, j < n → p j = false) : (List.range n).find? p = none := by
  rw [List.find?_eq_none]; intro j hj; simp [h j (List.mem_range.1 hj)]

end Go.Proofs.YtmedijheidbmhaaGreatDoor

/- Programs: headFits. -/
namespace Go.Proofs.YtmedijheidbmhaaGreatDoor
open Go.RowKit Go.Deep Go.Shelf

theorem right_is (E : Nat) (B : Nat → Prop) (t : Ty) (hf : t.fine) (hdep : t.depth ≤ 1000) (r : Int) (hr : rightE t = r) (v : Value) (w : World) (hB : Low B w) (he : Env E w) (hv : TyVal B w v t) :
    Calls Tryz.prog 62 #[v] w fun e w' => e = .returned (.int .i64 r) ∧ Below w.heap.size w w' := by
  rw [← hr]; exact tright_any E B t hf hdep v w hB he hv

noncomputable def pmB (a : Pm) : Bool := nameB a.n && rightE a.t == 0
noncomputable def hdB (d : Df) : Bool := d.ms.all pmB && nameB d.n
set_option maxHeartbeats 2000000 in
theorem headFits_any (S : Nat → Prop) (d : Df) (b o E : Nat) (w : World) (hS : Low S w) (he : Env E w) (hSb : S b) (hf : ∀ a ∈ d.ms, a.t.fine ∧ a.t.depth ≤ 1000) (hd : DfAt S w d b o) :
    Calls Tryz.prog 48 #[.pointer (some ⟨b, o, none⟩)] w fun e w' => e = .returned (.bool (hdB d)) ∧ Below w.heap.size w w' := by
  obtain ⟨hn, c0, ⟨mv, c1, hm⟩, _⟩ := hd
  have hbl := hS b hSb
  obtain ⟨pa, len, c, rfl, hlen, hmx, hget⟩ := hm.open
  obtain ⟨ms, hms⟩ : ∃ ms, d.ms = ms := ⟨_, rfl⟩
  obtain ⟨nm, hnm⟩ : ∃ nm, d.n = nm := ⟨_, rfl⟩
  have hhd : hdB d = (ms.all pmB && nameB nm) := by unfold hdB; rw [hms, hnm]
  rw [hhd]
  rw [hms] at hget hlen hf
  rw [hnm] at c0 hn
  have HG := Lib.hid hget
  have HFN := Lib.hid hf
  clear hget hf hm hms hnm hhd
  go_enter Tryz.func48, Tryz.ntmps48
  go_wp2_with fail
  go_loopw [10] (fun i wr => ∃ (j : Nat), i = .int .i64 (j : Int) ∧ j ≤ len ∧ Hid ((ms.take j).all pmB = true) ∧ Below w.heap.size w wr) (fun i _ => len - (intOf i).toNat)
  case atStart => exact ⟨0, rfl, by omega, Lib.hid (by simp), Below.refl _ _⟩
  case round =>
    obtain ⟨j, rfl, hj, HT, hw⟩ := hrel
    by_cases hlt : j < len
    · obtain ⟨x, hx⟩ : ∃ x, ms[j]? = some x := ⟨_, List.getElem?_eq_getElem (by rw [← hlen.out]; exact hlt)⟩
      obtain ⟨kb, ko, rfl, hkb, hxn, a0, hty⟩ := HG.out j x hx
      have hmem := List.mem_of_getElem? hx
      obtain ⟨hfx, hdx⟩ := HFN.out x hmem
      have e0 := (hw.cell (p := ⟨kb, ko + j * 7, none⟩) (hS kb hkb)).trans a0
      obtain ⟨la, ln, lc, ka, kn, kc, ⟨d0, d1, d2, d3, d4, d5⟩, hv⟩ := (hty.keep (hw.keeps'.mono hS)).load'
      have e2 : wr.cell? ⟨kb, ko + j * 7 + 2, none⟩ = some (.int .i64 x.t.p) := d1
      have e3 : wr.cell? ⟨kb, ko + j * 7 + 3, none⟩ = some (.string x.t.n) := d2
      have e4 : wr.cell? ⟨kb, ko + j * 7 + 4, none⟩ = some (.int .i64 x.t.s) := d3
      have e5 : wr.cell? ⟨kb, ko + j * 7 + 5, none⟩ = some (.slice la ln lc) := d4
      have e6 : wr.cell? ⟨kb, ko + j * 7 + 6, none⟩ = some (.slice ka kn kc) := d5
      have hbx := blkBelow wr #[.string x.n, .int .i64 x.t.k, .int .i64 x.t.p, .string x.t.n, .int .i64 x.t.s, .slice la ln lc, .slice ka kn kc] 47
      have hbw := below_seq hw hbx
      obtain ⟨nb, hnb⟩ : ∃ b, nameB x.n = b := ⟨_, rfl⟩
      obtain ⟨r, hr⟩ : ∃ r, rightE x.t = r := ⟨_, rfl⟩
      have HN := Lib.hid (tname_is x.n nb hnb hxn E _ (he.to hbw))
      have HR := Lib.hid (right_is E S x.t hfx hdx r hr _ _ (hS.le hbw.size) (he.to hbw) (hv.to (hS.le hw.size) hbx))
      have HX := Lib.hid hx
      have HPB : Hid (pmB x = (nb && r == 0)) := Lib.hid (by unfold pmB; rw [hnb, hr])
      have HBW := Lib.hid hbw
      have HFA : Hid (pmB x = false → (ms.all pmB && nameB nm) = false) := Lib.hid (fun h => by
        have : ms.all pmB = false := by
          rw [List.all_eq_false]; exact ⟨x, hmem, by rw [h]; simp⟩
        rw [this]; rfl)
      have HTR : Hid (pmB x = true → (ms.take (j + 1)).all pmB = true) := Lib.hid (fun h => by
        rw [take_snoc_get HX.out, List.all_append, HT.out]; simp [h])
      clear hx hmem hfx hdx hty hv d1 d2 d3 d4 d5 hnb hr hbx hbw a0
      cases nb
      · go_wp2_with (go_at_call 61; refine HN.out.mono ?_; rintro e w2 ⟨rfl, rfl⟩)
        go_ret
        exact ⟨ret_bool (HFA.out (by rw [HPB.out]; rfl)).symm, HBW.out⟩
      · by_cases h0 : r = 0
        · subst h0
          go_wp2_with (first | (go_at_call 61; refine HN.out.mono ?_; rintro e w2 ⟨rfl, rfl⟩) | (go_at_call 62; refine HR.out.mono ?_; rintro e w3 ⟨rfl, hb3⟩))
          go_roundw
          case rel => exact ⟨j + 1, by go_num, by omega, Lib.hid (HTR.out (by rw [HPB.out]; rfl)), below_seq HBW.out hb3⟩
          case measure => simp [intOf]; omega
        · have h0' : (r != 0) = true := by simpa using h0
          have h0'' : (r == 0) = false := by simpa using h0
          clear h0
          go_wp2_with (first | (go_at_call 61; refine HN.out.mono ?_; rintro e w2 ⟨rfl, rfl⟩) | (go_at_call 62; refine HR.out.mono ?_; rintro e w3 ⟨rfl, hb3⟩))
          go_ret
          exact ⟨ret_bool (HFA.out (by rw [HPB.out, h0'']; rfl)).symm, below_seq HBW.out hb3⟩
    · obtain rfl : j = len := by omega
      have hall : ms.all pmB = true := by have := HT.out; rwa [List.take_of_length_le (by rw [hlen.out]; exact Nat.le_refl _)] at this
      obtain ⟨nb, hnb⟩ : ∃ b, nameB nm = b := ⟨_, rfl⟩
      have HN := Lib.hid (tname_is nm nb hnb hn E wr (he.to hw))
      have HF : Hid ((ms.all pmB && nameB nm) = nb) := Lib.hid (by rw [hall, hnb, Bool.true_and])
      have e0 := (hw.cell (p := ⟨b, o, none⟩) hbl).trans c0
      clear hall hnb
      go_wp2_with (go_at_call 61; refine HN.out.mono ?_; rintro e w2 ⟨rfl, rfl⟩)
      go_ret
      exact ⟨ret_bool HF.out.symm, hw⟩

end Go.Proofs.YtmedijheidbmhaaGreatDoor

/- Types: the second law of layer 2. -/
namespace Go.Proofs.YtmedijheidbmhaaGreatDoor
open Go.RowKit Go.Deep Go.Shelf

theorem sess_l {W : World} {k p s : Int} {n : ByteArray} {lv kv : Value} {b : Bool} (hb : (k != 1 && k != 2) = b) : Calls Tryz.prog 105 #[.agg #[.int .i64 k, .int .i64 p, .string n, .int .i64 s, lv, kv]] W fun e w' => e = .returned (.bool b) ∧ Below W.heap.size W w' := by
  rw [← hb]; exact tsession_any k p s n lv kv W
theorem rsess_l {W : World} {k p s : Int} {n : ByteArray} {lv kv : Value} {b : Bool} (hb : (k != 1 && k != 2) = b) : Calls Tryz.prog 71 #[.agg #[.int .i64 k, .int .i64 p, .string n, .int .i64 s, lv, kv]] W fun e w' => e = .returned (.bool b) ∧ Below W.heap.size W w' := by
  rw [← hb]; exact rsession_any k p s n lv kv W
theorem six_two_below (w : World) (a0 a1 a2 a3 a4 a5 b0 b1 b2 b3 b4 b5 : Value) : Below w.heap.size w ((w.alloc (.cells #[a0, a1, a2, a3, a4, a5] 27)).alloc (.cells #[b0, b1, b2, b3, b4, b5] 27)) := box2_below w _ _

end Go.Proofs.YtmedijheidbmhaaGreatDoor

/- From a row's list of package-level variables to what the walks lean on; a world that meets the list. -/
namespace Go.Proofs.YtmedijheidbmhaaGreatDoor
open Go.RowKit Go.ChangeShapes

/-- The list that all rows of this seat bear. -/
abbrev seatLaid : List (String × DataW Unit) := Rows.scopeChecksRow.laid

theorem one_reads {P : Program} {w : World} : ∀ {l : List (String × DataW Unit)} {ps : List MemPlace}, DataW.LaidVars P w l ps → ∀ n d, (n, d) ∈ l →
    ∃ g t cs fuel p, P.globalNamed n = some g ∧ (P.globals[g]?).map (·.type) = some t ∧ w.var? P n = some cs ∧ DataW.trod (fun _ => ()) P w 0 (fun _ => true) false fuel t cs.toList = some (d, p)
  | [], _, _, _, _, hm => by cases hm
  | (n', d') :: r, ps, h, n, d, hm => by
    obtain ⟨g, t, cs, fuel, p, q, h1, h2, h3, h4, h5, _⟩ := h
    rcases List.mem_cons.1 hm with e | e
    · cases e
      exact ⟨g, t, cs, fuel, p, h1, h2, h3, h4⟩
    · exact one_reads h5 n d e

theorem strs_read {H : Type} {enc : TypeId × Value → H} {P : Program} {w : World} {base : Nat} {sp : Nat → Bool} {held : Bool} {fuel : Nat} {t e : TypeId} {n : Nat} {cs : List Value} {ls : List (List UInt8)} {p : List MemPlace}
    (ht : P.underlying t = some (.array n e)) (he : P.underlying e = some .string) (hce : P.cellsOf e = 1) (hct : P.cellsOf t = n)
    (h : DataW.trod enc P w base sp held fuel t cs = some (.agg (ls.map fun l => .lit (.string l)), p)) : cs = ls.map fun l => Value.string ⟨l.toArray⟩ := by
  obtain ⟨xs, m, _, hx, hlen, hxl, hat⟩ := DataW.trod_array ht h
  have hxs : xs.map (·.1) = ls.map fun l => (DataW.lit (.string l) : DataW H) := by
    have := congrArg Prod.fst hx
    simpa using this.symm
  have hll : ls.length = n := by
    have := congrArg List.length hxs
    simp at this; omega
  apply List.ext_getElem?
  intro i
  by_cases hi : i < n
  · have hf := hat i hi
    rw [hce, Nat.mul_one] at hf
    obtain ⟨x, hxi⟩ : ∃ x, xs[i]? = some x := ⟨_, List.getElem?_eq_getElem (by omega)⟩
    rw [hxi] at hf
    obtain ⟨s, hc, rfl, _⟩ := DataW.trod_string he hf
    have h1 : cs[i]? = some (.string s) := by
      have := congrArg (·[0]?) hc
      simpa [List.getElem?_take, List.getElem?_drop] using this
    have h2 : (xs.map (·.1))[i]? = some (DataW.lit (.string s.data.toList) : DataW H) := by simp [hxi]
    rw [hxs] at h2
    simp only [List.getElem?_map, Option.map_eq_some_iff, DataW.lit.injEq, Lit.string.injEq] at h2
    obtain ⟨l, hl, hls⟩ := h2
    rw [h1, List.getElem?_map, hl, hls]
    rfl
  · rw [List.getElem?_eq_none (by omega), List.getElem?_eq_none (by simp; omega)]

theorem wordsType : (Tryz.prog.globals[0]?).map (·.type) = some 132 := by kernel_rfl
theorem cellsStr : Tryz.prog.cellsOf 9 = 1 := by kernel_rfl
theorem cellsWords : Tryz.prog.cellsOf 132 = 10 := by kernel_rfl
theorem env_of_laid {W : World} (h : laidMetH Tryz.prog seatLaid W) : Env W.heap.size W := by
  rw [MakeChecks.laidMetH_plain _ _ _ (by kernel_rfl)] at h
  obtain ⟨ps, hv, _⟩ := h
  obtain ⟨g', t', cs', fuel', p', hg', ht', hvar', hd'⟩ := one_reads hv "duologue/lex.keywords" Rows.laid_duologue_lex_keywords (by simp [seatLaid, Rows.scopeChecksRow])
  obtain rfl := Option.some.inj (gWords.symm.trans hg')
  obtain rfl := Option.some.inj (wordsType.symm.trans ht')
  have hws := strs_read (ls := [[100, 101, 102], [109, 97, 105, 110], [115, 116, 111, 112], [110, 101, 119], [105, 110, 116], [98, 111, 111, 108], [101, 110, 100], [114, 101, 99], [116, 114, 117, 101], [102, 97, 108, 115, 101]]) kwU Tryz.underlying9 cellsStr cellsWords hd'
  have lt : ∀ {n : String} {g : Nat} {cs : Array Value}, Tryz.prog.globalNamed n = some g → W.var? Tryz.prog n = some cs → g < W.heap.size := by
    intro n g cs hg hv
    unfold World.var? at hv
    simp only [hg, Option.bind_some] at hv
    rcases Nat.lt_or_ge g W.heap.size with h' | h'
    · exact h'
    · rw [Array.getElem?_eq_none h'] at hv; cases hv
  refine ⟨?_, lt gWords hvar', Nat.le_refl _⟩
  rw [hvar']; obtain ⟨l⟩ := cs'; simp only at hws; rw [hws]; rfl

/-- The door's own heap meets the list: closed facts. -/
theorem door_met (os : Os) (args : Array Value) : laidMetH Tryz.prog seatLaid ((World.doorLaid Tryz.prog 4000 os).forCall (fun _ _ => 0) ⟨#[], args, []⟩).memory :=
  laidMetH_of_parts3 (fuel := 10) (laidMet_of_run' 10 (by kernel_rfl) (by kernel_rfl)) (by kernel_rfl) (by kernel_rfl)

end Go.Proofs.YtmedijheidbmhaaGreatDoor

/- Types: a type that came in as an argument. -/
namespace Go.Proofs.YtmedijheidbmhaaGreatDoor
open Go.ChangeShapes Go.WideShapes Go.ChangeAt Go.RowKit Go.Deep

theorem choose_list {α : Type} (Q : Nat → α → Prop) : ∀ n : Nat, (∀ i, i < n → ∃ x, Q i x) → ∃ ls : List α, ls.length = n ∧ ∀ i x, ls[i]? = some x → Q i x
  | 0, _ => ⟨[], rfl, fun i x h => by simp at h⟩
  | n + 1, h => by
    obtain ⟨ls, hl, hq⟩ := choose_list Q n (fun i hi => h i (by omega))
    obtain ⟨x, hx⟩ := h n (by omega)
    refine ⟨ls ++ [x], by simp [hl], fun i y hy => ?_⟩
    by_cases hi : i < ls.length
    · rw [List.getElem?_append_left hi] at hy; exact hq i y hy
    · rw [List.getElem?_append_right (by omega)] at hy
      have : i - ls.length = 0 := by
        rcases Nat.eq_zero_or_pos (i - ls.length) with h0 | h0
        · exact h0
        · rw [List.getElem?_eq_none (by simp; omega)] at hy; cases hy
      rw [this] at hy
      simp at hy
      subst hy
      have : i = n := by omega
      subst this
      exact hx
theorem addr_of_cell {w : World} {a : Addr} {v : Value} (h : w.cell? a = some v) : a = ⟨a.block, a.off, none⟩ ∧ a.block < w.heap.size := by
  obtain ⟨b, o, s⟩ := a
  unfold World.cell? at h
  cases hb : w.heap[b]? with
  | none => simp [hb] at h
  | some ob =>
    have hlt := (Array.getElem?_eq_some_iff.1 hb).1
    cases s with
    | none => exact ⟨rfl, hlt⟩
    | some s => cases ob <;> simp [hb] at h
theorem add_block {b o : Nat} (j : Nat) : (⟨b, o, none⟩ : Addr).add j = ⟨b, o + j, none⟩ := by
  unfold Addr.add
  by_cases h : j = 0
  · subst h; simp
  · simp [h]
theorem add_zero' (a : Addr) : a.add 0 = a := by unfold Addr.add; simp
/-- A struct of one-cell fields, field by field. -/
theorem fields_of {H : Type} {enc : TypeId × Value → H} {P : Program} {w : World} {base : Nat} {spare : Nat → Bool} {held : Bool} {e : TypeId} {fs : Array Field} {fuel : Nat} {cs : List Value} {x : DataW H × List MemPlace}
    (he : P.underlying e = some (.struct fs)) (hone : oneCellFields P fs = true) (hC : P.cellsOf e = fs.size) (h : DataW.trod enc P w base spare held fuel e cs = some x) :
    ∃ (ys : List (DataW H × List MemPlace)) (n : Nat), fuel = n + 1 ∧ x = (.agg (ys.map (·.1)), ys.flatMap (·.2)) ∧ cs.length = fs.size ∧ ys.length = fs.size ∧
      ∀ (j : Nat) (f : Field), fs[j]? = some f → ∃ v y, cs[j]? = some v ∧ ys[j]? = some y ∧ DataW.trod enc P w base spare held n f.type [v] = some y := by
  obtain ⟨ys, n, hn, hx, hl, hyl, hf⟩ := DataW.trod_struct he h
  rw [hC] at hl
  refine ⟨ys, n, hn, hx, hl, hyl, fun j f hj => ?_⟩
  have hlt := (Array.getElem?_eq_some_iff.1 hj).1
  obtain ⟨ho, h1⟩ := hone_of hone j f hj
  have h2 := hf j f hj
  obtain ⟨v, hv⟩ : ∃ v, cs[j]? = some v := ⟨_, List.getElem?_eq_getElem (by omega)⟩
  obtain ⟨y, hy⟩ : ∃ y, ys[j]? = some y := ⟨_, List.getElem?_eq_getElem (by omega)⟩
  have ht : (cs.drop j).take 1 = [v] := by
    have hd := List.drop_eq_getElem_cons (l := cs) (i := j) (by omega)
    rw [List.getElem?_eq_getElem (by omega)] at hv
    rw [hd, List.take_succ_cons, List.take_zero]
    simpa using hv
  rw [ho, h1, ht, hy] at h2
  exact ⟨v, y, hv, hy, h2⟩
/-- A slice: nil, or elements that read with less fuel. -/
theorem slice_of {H : Type} {enc : TypeId × Value → H} {P : Program} {w : World} {base : Nat} {spare : Nat → Bool} {held : Bool} {t e : TypeId} {fuel : Nat} {v : Value} {x : DataW H × List MemPlace}
    (he : P.underlying t = some (.slice e)) (h : DataW.trod enc P w base spare held fuel t [v] = some x) :
    ∃ (a : Option Addr) (len cap : Nat), v = .slice a len cap ∧ len ≤ cap ∧ cap ≤ maxLen ∧ ∀ i, i < len → ∃ ad n cs y, a = some ad ∧ n < fuel ∧ w.cells? base (ad.add (i * P.cellsOf e)) (P.cellsOf e) = some cs ∧ DataW.trod enc P w base spare held n e cs = some y := by
  rcases DataW.trod_slice he h with ⟨hc, hx⟩ | ⟨a, len, cap, elems, rest, n, hn, hcs, hx, hb, hl, hm, hlen, hel, _⟩
  · simp only [List.cons.injEq, and_true] at hc
    exact ⟨none, 0, 0, hc, by omega, by simp [maxLen], fun i hi => by omega⟩
  · simp only [List.cons.injEq, and_true] at hcs
    refine ⟨some a, len, cap, hcs, hl, hm, fun i hi => ?_⟩
    have h1 := hel i hi
    obtain ⟨y, hy⟩ : ∃ y, elems[i]? = some y := ⟨_, List.getElem?_eq_getElem (by omega)⟩
    rw [hy] at h1
    cases hq : w.cells? base (a.add (i * P.cellsOf e)) (P.cellsOf e) with
    | none => rw [hq] at h1; simp at h1
    | some cs => rw [hq] at h1; exact ⟨a, n, cs, y, rfl, by omega, hq, by simpa using h1⟩

theorem wf_in {n : Int} (h : (Lit.int .i64 n).wf = true) : In64 n := by
  unfold Lit.wf at h
  rw [Bool.and_eq_true, decide_eq_true_eq, decide_eq_true_eq] at h
  exact h

theorem strs_open {H : Type} {enc : TypeId × Value → H} {W : World} {base : Nat} {spare : Nat → Bool} {held : Bool} {fuel : Nat} {v : Value} {x : DataW H × List MemPlace} (h : DataW.trod enc Tryz.prog W base spare held fuel 23 [v] = some x) :
    ∃ ls, StrSl (fun k => k < W.heap.size) W v ls := by
  obtain ⟨a, len, cap, rfl, hl, hm, hi⟩ := slice_of Tryz.underlying23 h
  rw [show Tryz.prog.cellsOf 9 = 1 from by kernel_rfl] at hi
  have each : ∀ i, i < len → ∃ s : ByteArray, s.size ≤ maxLen ∧ ∃ b o, a = some ⟨b, o, none⟩ ∧ b < W.heap.size ∧ W.cell? ⟨b, o + i, none⟩ = some (.string s) := by
    intro i hin
    obtain ⟨ad, n, cs, y, rfl, _, hc, ht⟩ := hi i hin
    obtain ⟨ad0, n0, cs0, y0, e0, _, hc0, ht0⟩ := hi 0 (by omega)
    obtain rfl := Option.some.inj e0
    obtain ⟨s, rfl, _, hs⟩ := DataW.trod_string Tryz.underlying9 ht
    obtain ⟨s0, rfl, _, _⟩ := DataW.trod_string Tryz.underlying9 ht0
    obtain ⟨_, _, hat⟩ := World.cells?_some hc
    obtain ⟨_, _, hat0⟩ := World.cells?_some hc0
    have h0 := hat0 0 (by omega)
    have h1 := hat 0 (by omega)
    rw [Nat.zero_mul, add_zero', add_zero'] at h0
    obtain ⟨e1, e2⟩ := addr_of_cell h0
    rw [add_zero', e1, add_block] at h1
    exact ⟨s, hs, ad.block, ad.off, by rw [← e1], e2, by simpa using h1⟩
  obtain ⟨ls, hln, hls⟩ := choose_list _ len each
  refine ⟨ls, ?_, by omega, fun s hs => ?_⟩
  · cases ls with
    | nil => exact .inl ⟨⟨a, cap, by rw [← hln]; rfl⟩, rfl⟩
    | cons s0 r =>
      obtain ⟨_, b, o, rfl, hb, _⟩ := hls 0 s0 rfl
      refine .inr ⟨b, o, cap, by rw [hln], hb, by omega, fun j s hj => ?_⟩
      obtain ⟨_, b', o', e, _, hc⟩ := hls j s hj
      simp only [Option.some.injEq, Addr.mk.injEq, and_true] at e
      obtain ⟨rfl, rfl⟩ := e
      exact hc
  · obtain ⟨i, hi'⟩ := List.mem_iff_getElem?.1 hs
    exact (hls i s hi').1

/-- The cells of a type. -/
def tyCells (t : Ty) (lv kv : Value) : List Value := [.int .i64 t.k, .int .i64 t.p, .string t.n, .int .i64 t.s, lv, kv]
theorem tyCellsOf : Tryz.prog.cellsOf 27 = 6 := by kernel_rfl

set_option maxRecDepth 100000 in
theorem ty_open {H : Type} {enc : TypeId × Value → H} {W : World} {base : Nat} {spare : Nat → Bool} {held : Bool} : ∀ (fuel : Nat) (cs : List Value) (x : DataW H × List MemPlace), DataW.trod enc Tryz.prog W base spare held fuel 27 cs = some x →
    ∃ t lv kv, cs = tyCells t lv kv ∧ t.fine ∧ Lies W (.agg (tyCells t lv kv).toArray) t := by
  intro fuel
  induction fuel using Nat.strongRecOn with
  | _ fuel ih =>
  intro cs x h
  obtain ⟨ys, n', hn', hD, hcl, hyl, hf⟩ := fields_of Tryz.underlying27 (by kernel_rfl) (by kernel_rfl) h
  obtain ⟨v0, y0, e0, z0, t0⟩ := hf 0 _ rfl
  obtain ⟨v1, y1, e1, z1, t1⟩ := hf 1 _ rfl
  obtain ⟨v2, y2, e2, z2, t2⟩ := hf 2 _ rfl
  obtain ⟨v3, y3, e3, z3, t3⟩ := hf 3 _ rfl
  obtain ⟨v4, y4, e4, z4, t4⟩ := hf 4 _ rfl
  obtain ⟨v5, y5, e5, z5, t5⟩ := hf 5 _ rfl
  obtain ⟨k, hk, _, wk⟩ := DataW.trod_int Tryz.underlying3 t0
  obtain ⟨p, hp, _, _⟩ := DataW.trod_int Tryz.underlying3 t1
  obtain ⟨nm, hnm, _, hnz⟩ := DataW.trod_string Tryz.underlying9 t2
  obtain ⟨s, hs, _, _⟩ := DataW.trod_int Tryz.underlying3 t3
  simp only [List.cons.injEq, and_true] at hk hp hnm hs
  subst hk hp hnm hs
  obtain ⟨ls, hls⟩ := strs_open t4
  obtain ⟨a, len, cap, rfl, hl, hm, hi⟩ := slice_of Tryz.underlying25 t5
  rw [tyCellsOf] at hi
  have each : ∀ i, i < len → ∃ t : Ty, t.fine ∧ ∃ b o, a = some ⟨b, o, none⟩ ∧ TyAt (fun k => k < W.heap.size) W t b (o + i * 6) := by
    intro i hin
    obtain ⟨ad, n, cs', y, rfl, hlt, hc, ht⟩ := hi i hin
    obtain ⟨ad0, n0, cs0, y0, e0, _, hc0, ht0⟩ := hi 0 (by omega)
    obtain rfl := Option.some.inj e0
    obtain ⟨t, lv, kv, rfl, hfine, hlies⟩ := ih n (by omega) cs' y ht
    obtain ⟨_, hl6, hat⟩ := World.cells?_some hc
    obtain ⟨_, hl0, hat0⟩ := World.cells?_some hc0
    have h0 := hat0 0 (by omega)
    rw [Nat.zero_mul, add_zero', add_zero', List.getElem?_eq_getElem (by omega)] at h0
    obtain ⟨e1, e2⟩ := addr_of_cell h0
    rw [e1] at hat
    simp only [add_block] at hat
    refine ⟨t, hfine, ad.block, ad.off, by rw [← e1], ?_⟩
    refine tyAt_of e2 ?_ ?_ ?_ ?_ ?_ ?_ hlies
    · have := hat 0 (by omega); simpa [tyCells] using this
    · have := hat 1 (by omega); simpa [tyCells] using this
    · have := hat 2 (by omega); simpa [tyCells] using this
    · have := hat 3 (by omega); simpa [tyCells] using this
    · have := hat 4 (by omega); simpa [tyCells] using this
    · have := hat 5 (by omega); simpa [tyCells] using this
  obtain ⟨ts, htn, hts⟩ := choose_list _ len each
  have hcs : cs = [.int .i64 k, .int .i64 p, .string nm, .int .i64 s, v4, .slice a len cap] := by
    match cs, hcl, e0, e1, e2, e3, e4, e5 with
    | [a0, a1, a2, a3, a4, a5], _, e0, e1, e2, e3, e4, e5 =>
      simp at e0 e1 e2 e3 e4 e5
      rw [e0, e1, e2, e3, e4, e5]
  refine ⟨.mk k p nm s ls ts, v4, .slice a len cap, hcs, ⟨wf_in wk, ?_⟩, _, _, rfl, hnz, hls, ?_, by show ts.length ≤ _; omega⟩
  · have : ∀ l : List Ty, (∀ u ∈ l, u.fine) → Ty.fines l := by
      intro l
      induction l with
      | nil => intro _; trivial
      | cons u r ihr => intro hh; exact ⟨hh u (by simp), ihr (fun v hv => hh v (by simp [hv]))⟩
    refine this ts (fun u hu => ?_)
    obtain ⟨i, hi'⟩ := List.mem_iff_getElem?.1 hu
    exact (hts i u hi').1
  · show _ ∨ _
    cases ts with
    | nil => exact .inl ⟨⟨a, cap, by rw [← htn]; rfl⟩, rfl⟩
    | cons u0 r =>
      obtain ⟨_, b, o, rfl, hat0⟩ := hts 0 u0 rfl
      refine .inr ⟨b, o, cap, by show Value.slice _ _ _ = Value.slice _ (u0 :: r).length _; rw [htn], (TyAt.eq.1 hat0).1, ?_⟩
      refine tysAt_of (fun i t hi' => ?_)
      obtain ⟨_, b', o', e, hat⟩ := hts i t hi'
      simp only [Option.some.injEq, Addr.mk.injEq, and_true] at e
      obtain ⟨rfl, rfl⟩ := e
      exact hat

set_option maxRecDepth 100000 in
/-- A type that came in. -/
theorem type_open {H : Type} {enc : TypeId × Value → H} {W : World} {base : Nat} {spare : Nat → Bool} {held : Bool} {v : Value} {d : DataW H} {p : List MemPlace} {b0 : Nat} (hv : Value.okWide Tryz.prog W .any b0 27 v) (h : DataW.Trod enc Tryz.prog W base spare held 27 v d p) :
    ∃ t, t.fine ∧ Lies W v t := by
  obtain ⟨fuel, hf⟩ := h
  unfold Value.okWide at hv
  rw [Tryz.underlying27] at hv
  obtain ⟨cs, rfl, _, _⟩ := hv
  obtain ⟨t, lv, kv, e, hfine, hl⟩ := ty_open fuel _ _ hf
  have e' : cs.toList = tyCells t lv kv := e
  have : cs = (tyCells t lv kv).toArray := by rw [← e']
  rw [this]
  exact ⟨t, hfine, hl⟩

end Go.Proofs.YtmedijheidbmhaaGreatDoor

/- Processes and programs: those that came in as arguments. -/
namespace Go.Proofs.YtmedijheidbmhaaGreatDoor
open Go.ChangeShapes Go.WideShapes Go.ChangeAt Go.RowKit Go.Deep

mutual
/-- All kinds are numbers that a word holds, also those of the types. -/
def Pr.fine : Pr → Prop
  | .mk k _ _ _ _ t ps => In64 k ∧ t.fine ∧ Pr.fines ps
def Pr.fines : List Pr → Prop
  | [] => True
  | p :: r => p.fine ∧ Pr.fines r
end
theorem Pr.fine_k {p : Pr} (h : p.fine) : In64 p.k := by cases p; exact h.1
theorem Pr.fine_t {p : Pr} (h : p.fine) : p.t.fine := by cases p; exact h.2.1
theorem Pr.fines_mem : ∀ {l : List Pr}, Pr.fines l → ∀ u ∈ l, u.fine
  | [], _, _, hu => by cases hu
  | t :: r, h, u, hu => by
    rcases List.mem_cons.1 hu with rfl | hu
    · exact h.1
    · exact Pr.fines_mem h.2 u hu
theorem Pr.fine_ps {p : Pr} (h : p.fine) : ∀ u ∈ p.ps, u.fine := by cases p; exact Pr.fines_mem h.2.2
theorem Pr.fines_of : ∀ l : List Pr, (∀ u ∈ l, u.fine) → Pr.fines l := by
  intro l
  induction l with
  | nil => intro _; trivial
  | cons u r ihr => intro hh; exact ⟨hh u (by simp), ihr (fun v hv => hh v (by simp [hv]))⟩
def Df.fine (d : Df) : Prop := (∀ a ∈ d.ms, a.t.fine) ∧ d.b.fine
def Pg.fine (g : Pg) : Prop := (∀ d ∈ g.ds, d.fine) ∧ g.m.fine

/-- A value is a process that lies in w. -/
def PLies (w : World) (v : Value) (p : Pr) : Prop := PrVal (fun k => k < w.heap.size) w v p
theorem PLies.to {w w' : World} {v : Value} {p : Pr} (h : PLies w v p) (hb : Below w.heap.size w w') : PLies w' v p :=
  PrVal.mono (fun _ hk => Nat.lt_of_lt_of_le hk hb.size) (PrVal.to (fun _ hk => hk) hb h)
/-- A value is a program that lies in w. -/
def GLies (w : World) (v : Value) (g : Pg) : Prop := PgVal (fun k => k < w.heap.size) w v g
theorem GLies.to {w w' : World} {v : Value} {g : Pg} (h : GLies w v g) (hb : Below w.heap.size w w') : GLies w' v g :=
  PgVal.mono (fun _ hk => Nat.lt_of_lt_of_le hk hb.size) (PgVal.to (fun _ hk => hk) hb h)

/-- One field of a struct. -/
theorem fld {H : Type} {enc : TypeId × Value → H} {P : Program} {w : World} {base : Nat} {spare : Nat → Bool} {held : Bool} {n : Nat} {cs : List Value} {fs : Array Field} {xs : List (DataW H × List MemPlace)} (hx : xs.length = fs.size)
    (hf : ∀ (i : Nat) (f : Field), fs[i]? = some f → DataW.trod enc P w base spare held n f.type ((cs.drop f.offset).take (P.cellsOf f.type)) = xs[i]?) (i : Nat) {f : Field} (hi : fs[i]? = some f) {c : Nat} (hc : P.cellsOf f.type = c) {ds : List Value} (hd : (cs.drop f.offset).take c = ds) {t : TypeId} (ht : f.type = t) :
    ∃ y, DataW.trod enc P w base spare held n t ds = some y := by
  subst ht hd hc
  have hlt := (Array.getElem?_eq_some_iff.1 hi).1
  rw [hf i f hi]
  exact ⟨_, List.getElem?_eq_getElem (by omega)⟩

/-- The elements of a slice, each of which is told from its cells. -/
theorem rows_of {H : Type} {enc : TypeId × Value → H} {P : Program} {w : World} {base : Nat} {spare : Nat → Bool} {held : Bool} {e : TypeId} {fuel len c : Nat} {a : Option Addr} {α : Type} (Q : α → Nat → Nat → Prop) (hc : 0 < c)
    (hi : ∀ i, i < len → ∃ ad n cs y, a = some ad ∧ n < fuel ∧ w.cells? base (ad.add (i * c)) c = some cs ∧ DataW.trod enc P w base spare held n e cs = some y)
    (hel : ∀ n cs y, n < fuel → cs.length = c → DataW.trod enc P w base spare held n e cs = some y → ∃ x : α, ∀ b o, b < w.heap.size → (∀ j v, cs[j]? = some v → w.cell? ⟨b, o + j, none⟩ = some v) → Q x b o) :
    ∃ xs : List α, xs.length = len ∧ (xs = [] ∨ ∃ b o, a = some ⟨b, o, none⟩ ∧ b < w.heap.size ∧ ∀ j x, xs[j]? = some x → Q x b (o + j * c)) ∧ ∀ x ∈ xs, ∃ b o, Q x b o := by
  have each : ∀ i, i < len → ∃ x : α, ∃ b o, a = some ⟨b, o, none⟩ ∧ b < w.heap.size ∧ Q x b (o + i * c) := by
    intro i hin
    obtain ⟨ad, n, cs, y, rfl, hn, hcs, ht⟩ := hi i hin
    obtain ⟨ad0, n0, cs0, y0, e0, _, hcs0, ht0⟩ := hi 0 (by omega)
    obtain rfl := Option.some.inj e0
    obtain ⟨_, hl, hat⟩ := World.cells?_some hcs
    obtain ⟨_, hl0, hat0⟩ := World.cells?_some hcs0
    have h0 := hat0 0 hc
    rw [Nat.zero_mul, add_zero', add_zero', List.getElem?_eq_getElem (by omega)] at h0
    obtain ⟨e1, e2⟩ := addr_of_cell h0
    obtain ⟨x, hx⟩ := hel n cs y hn hl ht
    rw [e1] at hat
    simp only [add_block] at hat
    exact ⟨x, ad.block, ad.off, by rw [← e1], e2, hx _ _ e2 (fun j v hj => by
      have hj' : j < c := by rw [← hl]; exact (List.getElem?_eq_some_iff.1 hj).1
      rw [hat j hj', hj])⟩
  obtain ⟨xs, hn, hxs⟩ := choose_list _ len each
  refine ⟨xs, hn, ?_, fun x hx => ?_⟩
  · cases xs with
    | nil => exact .inl rfl
    | cons x0 r =>
      obtain ⟨b, o, rfl, hb, _⟩ := hxs 0 x0 rfl
      refine .inr ⟨b, o, rfl, hb, fun j x hj => ?_⟩
      obtain ⟨b', o', e, _, hq⟩ := hxs j x hj
      simp only [Option.some.injEq, Addr.mk.injEq, and_true] at e
      obtain ⟨rfl, rfl⟩ := e
      exact hq
  · obtain ⟨i, hi'⟩ := List.mem_iff_getElem?.1 hx
    obtain ⟨b, o, _, _, hq⟩ := hxs i x hi'
    exact ⟨_, _, hq⟩

theorem list3 {α : Type} {l : List α} (h : l.length = 3) : ∃ a b c, l = [a, b, c] := by
  match l, h with
  | [a, b, c], _ => exact ⟨a, b, c, rfl⟩
theorem list7 {α : Type} {l : List α} (h : l.length = 7) : ∃ a0 a1 a2 a3 a4 a5 a6, l = [a0, a1, a2, a3, a4, a5, a6] := by
  match l, h with
  | [a0, a1, a2, a3, a4, a5, a6], _ => exact ⟨_, _, _, _, _, _, _, rfl⟩
theorem list12 {α : Type} {l : List α} (h : l.length = 12) : ∃ a0 a1 a2 a3 a4 a5 a6 a7 a8 a9 a10 a11, l = [a0, a1, a2, a3, a4, a5, a6, a7, a8, a9, a10, a11] := by
  match l, h with
  | [a0, a1, a2, a3, a4, a5, a6, a7, a8, a9, a10, a11], _ => exact ⟨_, _, _, _, _, _, _, _, _, _, _, _, rfl⟩
theorem list13 {α : Type} {l : List α} (h : l.length = 13) : ∃ a r, l = a :: r ∧ r.length = 12 := by
  cases l with
  | nil => simp at h
  | cons a r => exact ⟨a, r, rfl, by simpa using h⟩
theorem list14 {α : Type} {l : List α} (h : l.length = 14) : ∃ a b r, l = a :: b :: r ∧ r.length = 12 := by
  match l, h with
  | a :: b :: r, h => exact ⟨a, b, r, rfl, by simpa using h⟩

theorem valueCellsOf : Tryz.prog.cellsOf 53 = 3 := by kernel_rfl
theorem procCellsOf : Tryz.prog.cellsOf 30 = 12 := by kernel_rfl
theorem paramCellsOf : Tryz.prog.cellsOf 47 = 7 := by kernel_rfl
theorem defCellsOf : Tryz.prog.cellsOf 45 = 14 := by kernel_rfl
theorem programCellsOf : Tryz.prog.cellsOf 32 = 13 := by kernel_rfl

set_option maxRecDepth 100000 in
theorem vls_open {H : Type} {enc : TypeId × Value → H} {W : World} {base : Nat} {spare : Nat → Bool} {held : Bool} {fuel : Nat} {v : Value} {x : DataW H × List MemPlace} (h : DataW.trod enc Tryz.prog W base spare held fuel 24 [v] = some x) :
    ∃ vs, VlSl (fun k => k < W.heap.size) W v vs := by
  obtain ⟨a, len, cap, rfl, hl, hm, hi⟩ := slice_of Tryz.underlying24 h
  rw [valueCellsOf] at hi
  obtain ⟨vs, hn, hrow, hall⟩ := rows_of (fun (a : Vl) b o => a.n.size ≤ maxLen ∧ W.cell? ⟨b, o, none⟩ = some (.int .i64 a.k) ∧ W.cell? ⟨b, o + 1, none⟩ = some (.string a.n) ∧ W.cell? ⟨b, o + 2, none⟩ = some (.int .i64 a.x)) (by omega) hi (fun n cs y _ hcl ht => by
    obtain ⟨ys, n', hn', hD, hcl2, hyl, hf⟩ := DataW.trod_struct Tryz.underlying53 ht
    obtain ⟨a0, a1, a2, rfl⟩ := list3 hcl
    obtain ⟨y0, t0⟩ := fld hyl hf 0 rfl (c := 1) (by kernel_rfl) (ds := [a0]) rfl (t := 3) rfl
    obtain ⟨y1, t1⟩ := fld hyl hf 1 rfl (c := 1) (by kernel_rfl) (ds := [a1]) rfl (t := 9) rfl
    obtain ⟨y2, t2⟩ := fld hyl hf 2 rfl (c := 1) (by kernel_rfl) (ds := [a2]) rfl (t := 2) rfl
    obtain ⟨k, hk, _, _⟩ := DataW.trod_int Tryz.underlying3 t0
    obtain ⟨nm, hnm, _, hnz⟩ := DataW.trod_string Tryz.underlying9 t1
    obtain ⟨s, hs, _, _⟩ := DataW.trod_int Tryz.underlying2 t2
    simp only [List.cons.injEq, and_true] at hk hnm hs
    subst hk hnm hs
    exact ⟨⟨k, nm, s⟩, fun b o _ hc => ⟨hnz, hc 0 _ rfl, hc 1 _ rfl, hc 2 _ rfl⟩⟩)
  refine ⟨vs, ?_, by omega, fun s hs => ?_⟩
  · rcases hrow with rfl | ⟨b, o, rfl, hb, hrow⟩
    · exact .inl ⟨⟨a, cap, by rw [← hn]; rfl⟩, rfl⟩
    · exact .inr ⟨b, o, cap, by rw [hn], hb, by omega, fun j a hj => (hrow j a hj).2⟩
  · obtain ⟨b, o, hq⟩ := hall s hs
    exact hq.1

/-- The cells of a process. -/
def prCells (p : Pr) (lv av tl tk kv : Value) : List Value := [.int .i64 p.k, .string p.c, .string p.x, lv, av, .int .i64 p.t.k, .int .i64 p.t.p, .string p.t.n, .int .i64 p.t.s, tl, tk, kv]

set_option maxRecDepth 100000 in
theorem pr_open {H : Type} {enc : TypeId × Value → H} {W : World} {base : Nat} {spare : Nat → Bool} {held : Bool} : ∀ (fuel : Nat) (cs : List Value) (x : DataW H × List MemPlace), DataW.trod enc Tryz.prog W base spare held fuel 30 cs = some x →
    ∃ p lv av tl tk kv, cs = prCells p lv av tl tk kv ∧ p.fine ∧ PLies W (.agg (prCells p lv av tl tk kv).toArray) p := by
  intro fuel
  induction fuel using Nat.strongRecOn with
  | _ fuel ih =>
  intro cs x h
  obtain ⟨ys, n', hn', hD, hcl, hyl, hf⟩ := DataW.trod_struct Tryz.underlying30 h
  rw [procCellsOf] at hcl
  obtain ⟨a0, a1, a2, a3, a4, a5, a6, a7, a8, a9, a10, a11, rfl⟩ := list12 hcl
  obtain ⟨y0, t0⟩ := fld hyl hf 0 rfl (c := 1) (by kernel_rfl) (ds := [a0]) rfl (t := 3) rfl
  obtain ⟨y1, t1⟩ := fld hyl hf 1 rfl (c := 1) (by kernel_rfl) (ds := [a1]) rfl (t := 9) rfl
  obtain ⟨y2, t2⟩ := fld hyl hf 2 rfl (c := 1) (by kernel_rfl) (ds := [a2]) rfl (t := 9) rfl
  obtain ⟨y3, t3⟩ := fld hyl hf 3 rfl (c := 1) (by kernel_rfl) (ds := [a3]) rfl (t := 23) rfl
  obtain ⟨y4, t4⟩ := fld hyl hf 4 rfl (c := 1) (by kernel_rfl) (ds := [a4]) rfl (t := 24) rfl
  obtain ⟨y5, t5⟩ := fld hyl hf 5 rfl (c := 6) (by kernel_rfl) (ds := [a5, a6, a7, a8, a9, a10]) rfl (t := 27) rfl
  obtain ⟨y6, t6⟩ := fld hyl hf 6 rfl (c := 1) (by kernel_rfl) (ds := [a11]) rfl (t := 28) rfl
  obtain ⟨k, hk, _, wk⟩ := DataW.trod_int Tryz.underlying3 t0
  obtain ⟨c, hc, _, hcz⟩ := DataW.trod_string Tryz.underlying9 t1
  obtain ⟨xv, hxv, _, hxz⟩ := DataW.trod_string Tryz.underlying9 t2
  simp only [List.cons.injEq, and_true] at hk hc hxv
  subst hk hc hxv
  obtain ⟨ls, hls⟩ := strs_open t3
  obtain ⟨vs, hvs⟩ := vls_open t4
  obtain ⟨t, tl, tk, et, hft, hlt⟩ := ty_open _ _ _ t5
  simp only [tyCells, List.cons.injEq, and_true] at et
  obtain ⟨rfl, rfl, rfl, rfl, rfl, rfl⟩ := et
  obtain ⟨a, len, cap, rfl, hl, hm, hi⟩ := slice_of Tryz.underlying28 t6
  rw [procCellsOf] at hi
  obtain ⟨ps, hn, hrow, hall⟩ := rows_of (fun (p : Pr) b o => p.fine ∧ PrAt (fun k => k < W.heap.size) W p b o) (by omega) hi (fun n cs y hn _ ht => by
    obtain ⟨p, lv, av, tl, tk, kv, rfl, hfine, hlies⟩ := ih n (by omega) cs y ht
    exact ⟨p, fun b o hb hc => ⟨hfine, prAt_of hb (hc 0 _ rfl) (hc 1 _ rfl) (hc 2 _ rfl) (hc 3 _ rfl) (hc 4 _ rfl) (hc 5 _ rfl) (hc 6 _ rfl) (hc 7 _ rfl) (hc 8 _ rfl) (hc 9 _ rfl) (hc 10 _ rfl) (hc 11 _ rfl) hlies⟩⟩)
  refine ⟨.mk k c xv ls vs t ps, a3, a4, a9, a10, .slice a len cap, rfl, ⟨wf_in wk, hft, Pr.fines_of ps (fun u hu => ?_)⟩, _, _, _, _, _, rfl, ⟨hcz, hxz⟩, hls, hvs, hlt, ?_, by show ps.length ≤ _; omega⟩
  · obtain ⟨b, o, hq⟩ := hall u hu
    exact hq.1
  · show _ ∨ _
    rcases hrow with rfl | ⟨b, o, rfl, hb, hrow⟩
    · exact .inl ⟨⟨a, cap, by rw [← hn]; rfl⟩, rfl⟩
    · exact .inr ⟨b, o, cap, by show Value.slice _ _ _ = Value.slice _ ps.length _; rw [hn], hb, prsAt_of (fun i p hi' => (hrow i p hi').2)⟩

set_option maxRecDepth 100000 in
/-- A process that came in. -/
theorem proc_open {H : Type} {enc : TypeId × Value → H} {W : World} {base : Nat} {spare : Nat → Bool} {held : Bool} {v : Value} {d : DataW H} {p : List MemPlace} {b0 : Nat} (hv : Value.okWide Tryz.prog W .any b0 30 v) (h : DataW.Trod enc Tryz.prog W base spare held 30 v d p) :
    ∃ t, t.fine ∧ PLies W v t := by
  obtain ⟨fuel, hf⟩ := h
  unfold Value.okWide at hv
  rw [Tryz.underlying30] at hv
  obtain ⟨cs, rfl, _, _⟩ := hv
  obtain ⟨t, lv, av, tl, tk, kv, e, hfine, hl⟩ := pr_open fuel _ _ hf
  have e' : cs.toList = prCells t lv av tl tk kv := e
  have : cs = (prCells t lv av tl tk kv).toArray := by rw [← e']
  rw [this]
  exact ⟨t, hfine, hl⟩

set_option maxRecDepth 100000 in
theorem pms_open {H : Type} {enc : TypeId × Value → H} {W : World} {base : Nat} {spare : Nat → Bool} {held : Bool} {fuel : Nat} {v : Value} {x : DataW H × List MemPlace} (h : DataW.trod enc Tryz.prog W base spare held fuel 43 [v] = some x) :
    ∃ ms, (∀ a ∈ ms, Ty.fine a.t) ∧ PmSl (fun k => k < W.heap.size) W v ms := by
  obtain ⟨a, len, cap, rfl, hl, hm, hi⟩ := slice_of Tryz.underlying43 h
  rw [paramCellsOf] at hi
  obtain ⟨ms, hn, hrow, hall⟩ := rows_of (fun (a : Pm) b o => a.t.fine ∧ PmAt (fun k => k < W.heap.size) W a b o) (by omega) hi (fun n cs y _ hcl ht => by
    obtain ⟨ys, n', hn', hD, hcl2, hyl, hf⟩ := DataW.trod_struct Tryz.underlying47 ht
    obtain ⟨a0, a1, a2, a3, a4, a5, a6, rfl⟩ := list7 hcl
    obtain ⟨y0, t0⟩ := fld hyl hf 0 rfl (c := 1) (by kernel_rfl) (ds := [a0]) rfl (t := 9) rfl
    obtain ⟨y1, t1⟩ := fld hyl hf 1 rfl (c := 6) (by kernel_rfl) (ds := [a1, a2, a3, a4, a5, a6]) rfl (t := 27) rfl
    obtain ⟨nm, hnm, _, hnz⟩ := DataW.trod_string Tryz.underlying9 t0
    simp only [List.cons.injEq, and_true] at hnm
    subst hnm
    obtain ⟨t, tl, tk, et, hft, hlt⟩ := ty_open _ _ _ t1
    simp only [tyCells, List.cons.injEq, and_true] at et
    obtain ⟨rfl, rfl, rfl, rfl, rfl, rfl⟩ := et
    refine ⟨⟨nm, t⟩, fun b o hb hc => ⟨hft, hnz, hc 0 _ rfl, ?_⟩⟩
    exact tyAt_of hb (hc 1 _ rfl) (hc 2 _ rfl) (hc 3 _ rfl) (hc 4 _ rfl) (hc 5 _ rfl) (hc 6 _ rfl) hlt)
  refine ⟨ms, fun u hu => ?_, ?_, by omega⟩
  · obtain ⟨b, o, hq⟩ := hall u hu
    exact hq.1
  · rcases hrow with rfl | ⟨b, o, rfl, hb, hrow⟩
    · exact .inl ⟨⟨a, cap, by rw [← hn]; rfl⟩, rfl⟩
    · exact .inr ⟨b, o, cap, by rw [hn], hb, fun j a hj => (hrow j a hj).2⟩

set_option maxRecDepth 100000 in
theorem dfs_open {H : Type} {enc : TypeId × Value → H} {W : World} {base : Nat} {spare : Nat → Bool} {held : Bool} {fuel : Nat} {v : Value} {x : DataW H × List MemPlace} (h : DataW.trod enc Tryz.prog W base spare held fuel 22 [v] = some x) :
    ∃ ds, (∀ d ∈ ds, Df.fine d) ∧ DfSl (fun k => k < W.heap.size) W v ds := by
  obtain ⟨a, len, cap, rfl, hl, hm, hi⟩ := slice_of Tryz.underlying22 h
  rw [defCellsOf] at hi
  obtain ⟨ds, hn, hrow, hall⟩ := rows_of (fun (d : Df) b o => d.fine ∧ DfAt (fun k => k < W.heap.size) W d b o) (by omega) hi (fun n cs y _ hcl ht => by
    obtain ⟨ys, n', hn', hD, hcl2, hyl, hf⟩ := DataW.trod_struct Tryz.underlying45 ht
    obtain ⟨a0, a1, r, rfl, hr⟩ := list14 hcl
    obtain ⟨y0, t0⟩ := fld hyl hf 0 rfl (c := 1) (by kernel_rfl) (ds := [a0]) rfl (t := 9) rfl
    obtain ⟨y1, t1⟩ := fld hyl hf 1 rfl (c := 1) (by kernel_rfl) (ds := [a1]) rfl (t := 43) rfl
    obtain ⟨y2, t2⟩ := fld hyl hf 2 rfl (c := 12) (by kernel_rfl) (ds := r) (List.take_of_length_le (by show r.length ≤ 12; omega)) (t := 30) rfl
    obtain ⟨nm, hnm, _, hnz⟩ := DataW.trod_string Tryz.underlying9 t0
    simp only [List.cons.injEq, and_true] at hnm
    subst hnm
    obtain ⟨ms, hfm, hms⟩ := pms_open t1
    obtain ⟨p, lv, av, tl, tk, kv, rfl, hfp, hlp⟩ := pr_open _ _ _ t2
    refine ⟨⟨nm, ms, p⟩, fun b o hb hc => ⟨⟨hfm, hfp⟩, hnz, hc 0 _ rfl, ⟨a1, hc 1 _ rfl, hms⟩, ?_⟩⟩
    exact prAt_of hb (hc 2 _ rfl) (hc 3 _ rfl) (hc 4 _ rfl) (hc 5 _ rfl) (hc 6 _ rfl) (hc 7 _ rfl) (hc 8 _ rfl) (hc 9 _ rfl) (hc 10 _ rfl) (hc 11 _ rfl) (hc 12 _ rfl) (hc 13 _ rfl) hlp)
  refine ⟨ds, fun u hu => ?_, ?_, by omega⟩
  · obtain ⟨b, o, hq⟩ := hall u hu
    exact hq.1
  · rcases hrow with rfl | ⟨b, o, rfl, hb, hrow⟩
    · exact .inl ⟨⟨a, cap, by rw [← hn]; rfl⟩, rfl⟩
    · exact .inr ⟨b, o, cap, by rw [hn], hb, fun j a hj => (hrow j a hj).2⟩

set_option maxRecDepth 100000 in
/-- A program that came in. -/
theorem prog_open {H : Type} {enc : TypeId × Value → H} {W : World} {base : Nat} {spare : Nat → Bool} {held : Bool} {v : Value} {d : DataW H} {p : List MemPlace} {b0 : Nat} (hv : Value.okWide Tryz.prog W .any b0 32 v) (h : DataW.Trod enc Tryz.prog W base spare held 32 v d p) :
    ∃ g, Pg.fine g ∧ GLies W v g := by
  obtain ⟨fuel, hf⟩ := h
  unfold Value.okWide at hv
  rw [Tryz.underlying32] at hv
  obtain ⟨cs, rfl, _, _⟩ := hv
  obtain ⟨ys, n', hn', hD, hcl, hyl, hf⟩ := DataW.trod_struct Tryz.underlying32 hf
  rw [programCellsOf] at hcl
  obtain ⟨cl, hcs⟩ : ∃ cl, cs = List.toArray cl := ⟨cs.toList, rfl⟩
  subst hcs
  obtain ⟨a0, r, rfl, hr⟩ := list13 hcl
  obtain ⟨y0, t0⟩ := fld hyl hf 0 rfl (c := 1) (by kernel_rfl) (ds := [a0]) rfl (t := 22) rfl
  obtain ⟨y1, t1⟩ := fld hyl hf 1 rfl (c := 12) (by kernel_rfl) (ds := r) (List.take_of_length_le (by show r.length ≤ 12; omega)) (t := 30) rfl
  obtain ⟨ds, hfd, hds⟩ := dfs_open t0
  obtain ⟨p, lv, av, tl, tk, kv, rfl, hfp, hlp⟩ := pr_open _ _ _ t1
  exact ⟨⟨ds, p⟩, ⟨hfd, hfp⟩, a0, lv, av, tl, tk, kv, rfl, hds, hlp⟩

end Go.Proofs.YtmedijheidbmhaaGreatDoor

/- Processes: the reference's measures. -/
namespace Go.Proofs.YtmedijheidbmhaaGreatDoor
open Go.RowKit

set_option maxHeartbeats 1000000 in
theorem prsize_step (B : Nat → Prop) (p : Pr) (lv av tl tk kv : Value) (hts : Pr.sizes p.ps ≤ 1000000)
    (ih : ∀ u ∈ p.ps, ∀ (v : Value) (w : World), Low B w → PrVal B w v u → Calls Tryz.prog 31 #[v] w fun e w' => e = .returned (.int .i64 u.size) ∧ Below w.heap.size w w')
    (w : World) (hB : Low B w) (hk : PrSl B w kv p.ps) :
    Calls Tryz.prog 31 #[prAgg p lv av tl tk kv] w fun e w' => e = .returned (.int .i64 ((Pr.sizes p.ps + 1 : Nat) : Int)) ∧ Below w.heap.size w w' := by
  obtain ⟨pa, len, c, rfl, hlen, hm, hget⟩ := hk.open
  have HG := Lib.hid hget
  have HIH := Lib.hid ih
  clear hget hk ih
  obtain ⟨ps, hps⟩ : ∃ ps, p.ps = ps := ⟨_, rfl⟩
  rw [hps] at HG hlen hts HIH ⊢
  clear hps
  unfold prAgg
  go_enter Tryz.func31, Tryz.ntmps31
  go_wp2_with fail
  go_loopw [3, 4] (fun a i wr => ∃ j : Nat, i = .int .i64 j ∧ j ≤ len ∧ a = .int .i64 ((Pr.sizes (ps.take j) + 1 : Nat) : Int) ∧ Below (w.heap.size + 1) (w.alloc (cell12 p lv av tl tk (.slice pa len c))) wr) (fun _ i _ => len - (intOf i).toNat)
  case atStart => exact ⟨0, rfl, by omega, by simp [Pr.sizes], Below.refl _ _⟩
  case round =>
    obtain ⟨j, rfl, hj, rfl, hb⟩ := hrel
    have c11 : wr.cell? ⟨w.heap.size, 11, none⟩ = some (.slice pa len c) := blk_cell hb 11 rfl
    have hw := blk_below hb
    by_cases hlt : j < len
    · obtain ⟨t, ht⟩ : ∃ t, ps[j]? = some t := ⟨_, List.getElem?_eq_getElem (by rw [← hlen.out]; exact hlt)⟩
      obtain ⟨kb, ko, rfl, hkb, hty⟩ := HG.out j t ht
      obtain ⟨la', ln', lc', aa', an', ac', ta', tn', tc', ua', un', uc', ka', kn', kc', ⟨d0, d1, d2, d3, d4, d5, d6, d7, d8, d9, d10, d11⟩, hval⟩ := (hty.keep (hw.keeps'.mono hB)).load'
      have hsz := Pr.sizes_take ht
      have hle := Pr.sizes_take_le ps (j + 1)
      have IH := Lib.hid (HIH.out t (List.mem_of_getElem? ht) _ wr (hB.le hw.size) hval)
      obtain ⟨a0, ha0⟩ : ∃ a0, Pr.sizes (ps.take j) + 1 = a0 := ⟨_, rfl⟩
      have HA := Lib.hid hsz
      have ha1 : a0 + t.size ≤ 1000001 := by omega
      have HA0 := Lib.hid ha0
      rw [ha0]
      unfold prAgg at IH
      clear hsz ha0 ht hval hty
      go_wp2_with (go_at_call 31; refine IH.out.mono ?_; rintro e w1 ⟨rfl, hb1⟩)
      go_roundw
      case rel => exact ⟨j + 1, by go_num, by omega, ret_val (by rw [HA.out]; have := HA0.out; omega), hb.trans (hb1.mono (by have := hb.size; simpa using this))⟩
      case measure => simp [intOf]; omega
    · obtain rfl : j = len := by omega
      go_wp2_with fail
      go_ret
      exact ⟨ret_int (by rw [List.take_of_length_le (by rw [hlen.out]; exact Nat.le_refl _)]), hw⟩

theorem prsize_any (B : Nat → Prop) : ∀ (p : Pr), p.size ≤ 1000000 → ∀ (v : Value) (w : World), Low B w → PrVal B w v p → Calls Tryz.prog 31 #[v] w fun e w' => e = .returned (.int .i64 p.size) ∧ Below w.heap.size w w' := by
  refine Pr.ind ?_
  intro k c x ls vs t ps ih hsz v w hB hv
  obtain ⟨lv, av, tl, tk, kv, rfl, _, _, _, _, hk⟩ := hv
  have h1 : Pr.sizes ps ≤ 1000000 := by rw [Pr.size_eq] at hsz; simp only [Pr.ps] at hsz; omega
  have := prsize_step B (.mk k c x ls vs t ps) lv av tl tk kv h1 (fun u hu => ih u hu (Nat.le_trans (Pr.size_mem hu) h1)) w hB hk
  rw [Pr.size_eq]; exact this

set_option maxHeartbeats 1000000 in
theorem prdepth_step (B : Nat → Prop) (p : Pr) (lv av tl tk kv : Value) (hts : Pr.depths p.ps ≤ 1000000)
    (ih : ∀ u ∈ p.ps, ∀ (v : Value) (w : World), Low B w → PrVal B w v u → Calls Tryz.prog 42 #[v] w fun e w' => e = .returned (.int .i64 u.depth) ∧ Below w.heap.size w w')
    (w : World) (hB : Low B w) (hk : PrSl B w kv p.ps) :
    Calls Tryz.prog 42 #[prAgg p lv av tl tk kv] w fun e w' => e = .returned (.int .i64 ((Pr.depths p.ps + 1 : Nat) : Int)) ∧ Below w.heap.size w w' := by
  obtain ⟨pa, len, c, rfl, hlen, hm, hget⟩ := hk.open
  have HG := Lib.hid hget
  have HIH := Lib.hid ih
  clear hget hk ih
  obtain ⟨ps, hps⟩ : ∃ ps, p.ps = ps := ⟨_, rfl⟩
  rw [hps] at HG hlen hts HIH ⊢
  clear hps
  unfold prAgg
  go_enter Tryz.func42, Tryz.ntmps42
  go_wp2_with fail
  go_loopw [3, 4] (fun a i wr => ∃ j : Nat, i = .int .i64 j ∧ j ≤ len ∧ a = .int .i64 ((Pr.depths (ps.take j) : Nat) : Int) ∧ Below (w.heap.size + 1) (w.alloc (cell12 p lv av tl tk (.slice pa len c))) wr) (fun _ i _ => len - (intOf i).toNat)
  case atStart => exact ⟨0, rfl, by omega, by simp [Pr.depths], Below.refl _ _⟩
  case round =>
    obtain ⟨j, rfl, hj, rfl, hb⟩ := hrel
    have c11 : wr.cell? ⟨w.heap.size, 11, none⟩ = some (.slice pa len c) := blk_cell hb 11 rfl
    have hw := blk_below hb
    by_cases hlt : j < len
    · obtain ⟨t, ht⟩ : ∃ t, ps[j]? = some t := ⟨_, List.getElem?_eq_getElem (by rw [← hlen.out]; exact hlt)⟩
      obtain ⟨kb, ko, rfl, hkb, hty⟩ := HG.out j t ht
      obtain ⟨la', ln', lc', aa', an', ac', ta', tn', tc', ua', un', uc', ka', kn', kc', ⟨d0, d1, d2, d3, d4, d5, d6, d7, d8, d9, d10, d11⟩, hval⟩ := (hty.keep (hw.keeps'.mono hB)).load'
      have hsz := Pr.depths_take ht
      have hle := Pr.depths_take_le ps (j + 1)
      have IH := Lib.hid (HIH.out t (List.mem_of_getElem? ht) _ wr (hB.le hw.size) hval)
      obtain ⟨a0, ha0⟩ : ∃ a0, Pr.depths (ps.take j) = a0 := ⟨_, rfl⟩
      have HA := Lib.hid hsz
      have ha1 : max a0 t.depth ≤ 1000000 := by omega
      have HA0 := Lib.hid ha0
      rw [ha0]
      unfold prAgg at IH
      clear hsz ha0 ht hval hty
      go_wp2_with (go_at_call 42; refine IH.out.mono ?_; rintro e w1 ⟨rfl, hb1⟩)
      go_roundw
      case rel => exact ⟨j + 1, by go_num, by omega, ret_val (by rw [HA.out]; have := HA0.out; omega), hb.trans (hb1.mono (by have := hb.size; simpa using this))⟩
      case measure => simp [intOf]; omega
    · obtain rfl : j = len := by omega
      have hle := Pr.depths_take_le ps j
      go_wp2_with fail
      go_ret
      exact ⟨ret_int (by rw [List.take_of_length_le (by rw [hlen.out]; exact Nat.le_refl _)]; omega), hw⟩

theorem prdepth_any (B : Nat → Prop) : ∀ (p : Pr), p.depth ≤ 1000000 → ∀ (v : Value) (w : World), Low B w → PrVal B w v p → Calls Tryz.prog 42 #[v] w fun e w' => e = .returned (.int .i64 p.depth) ∧ Below w.heap.size w w' := by
  refine Pr.ind ?_
  intro k c x ls vs t ps ih hsz v w hB hv
  obtain ⟨lv, av, tl, tk, kv, rfl, _, _, _, _, hk⟩ := hv
  have h1 : Pr.depths ps ≤ 1000000 := by rw [Pr.depth_eq] at hsz; simp only [Pr.ps] at hsz; omega
  have := prdepth_step B (.mk k c x ls vs t ps) lv av tl tk kv h1 (fun u hu => ih u hu (Nat.le_trans (Pr.depth_mem hu) h1)) w hB hk
  rw [Pr.depth_eq]; exact this

end Go.Proofs.YtmedijheidbmhaaGreatDoor

/- Processes: the reference's types, left, Few. -/
namespace Go.Proofs.YtmedijheidbmhaaGreatDoor
open Go.RowKit

mutual
/-- The nodes of the types that stand at PNew. -/
def Pr.typ : Pr → Nat
  | .mk k _ _ _ _ t ps => (if k = 6 then t.size else 0) + Pr.typs ps
def Pr.typs : List Pr → Nat
  | [] => 0
  | p :: r => p.typ + Pr.typs r
end
def Pr.typ0 (p : Pr) : Nat := if p.k = 6 then p.t.size else 0
theorem Pr.typ_eq (p : Pr) : p.typ = p.typ0 + Pr.typs p.ps := by
  cases p
  rename_i k _ _ _ _ _ _
  by_cases h : k = 6 <;> simp [Pr.typ, Pr.ps, Pr.typ0, Pr.k, Pr.t, h]
theorem Pr.typs_append (l r : List Pr) : Pr.typs (l ++ r) = Pr.typs l + Pr.typs r := by
  induction l with
  | nil => simp [Pr.typs]
  | cons t l ih => simp only [List.cons_append, Pr.typs, ih]; omega
theorem Pr.typs_take {l : List Pr} {i : Nat} {p : Pr} (h : l[i]? = some p) : Pr.typs (l.take (i + 1)) = Pr.typs (l.take i) + p.typ := by
  rw [take_snoc_get h, Pr.typs_append]; simp [Pr.typs]
theorem Pr.typs_take_le (l : List Pr) (i : Nat) : Pr.typs (l.take i) ≤ Pr.typs l := by
  have := Pr.typs_append (l.take i) (l.drop i); rw [List.take_append_drop] at this; omega
theorem Pr.typ_mem {l : List Pr} {p : Pr} (h : p ∈ l) : p.typ ≤ Pr.typs l := by
  induction l with
  | nil => cases h
  | cons u l ih =>
    simp only [Pr.typs]
    rcases List.mem_cons.1 h with rfl | h
    · omega
    · have := ih h; omega

mutual
/-- All types are small. -/
def Pr.tf : Pr → Prop
  | .mk _ _ _ _ _ t ps => t.few 300 = true ∧ Pr.tfs ps
def Pr.tfs : List Pr → Prop
  | [] => True
  | p :: r => p.tf ∧ Pr.tfs r
end
theorem Pr.tf_t {p : Pr} (h : p.tf) : p.t.few 300 = true := by cases p; exact h.1
theorem Pr.tfs_mem : ∀ {l : List Pr}, Pr.tfs l → ∀ u ∈ l, u.tf
  | [], _, _, hu => by cases hu
  | t :: r, h, u, hu => by
    rcases List.mem_cons.1 hu with rfl | hu
    · exact h.1
    · exact Pr.tfs_mem h.2 u hu
theorem Pr.tf_ps {p : Pr} (h : p.tf) : ∀ u ∈ p.ps, u.tf := by cases p; exact Pr.tfs_mem h.2
theorem Pr.tf_size {p : Pr} (h : p.tf) : p.t.size ≤ 300 := (few_size (Pr.tf_t h)).1
theorem Pr.tf_depth {p : Pr} (h : p.tf) : p.t.depth ≤ 150 := (few_size (Pr.tf_t h)).2

set_option maxHeartbeats 2000000 in
theorem prtyp_step (B : Nat → Prop) (p : Pr) (lv av tl tk kv : Value) (hts : p.typ ≤ 1000000000) (hsz : p.t.size ≤ 1000000)
    (ih : ∀ u ∈ p.ps, ∀ (v : Value) (w : World), Low B w → PrVal B w v u → Calls Tryz.prog 32 #[v] w fun e w' => e = .returned (.int .i64 u.typ) ∧ Below w.heap.size w w')
    (w : World) (hB : Low B w) (hty : TyVal B w (.agg #[.int .i64 p.t.k, .int .i64 p.t.p, .string p.t.n, .int .i64 p.t.s, tl, tk]) p.t) (hk : PrSl B w kv p.ps) :
    Calls Tryz.prog 32 #[prAgg p lv av tl tk kv] w fun e w' => e = .returned (.int .i64 (p.typ : Int)) ∧ Below w.heap.size w w' := by
  have hb0 : Below w.heap.size w (w.alloc (cell12 p lv av tl tk kv)) := (Below.refl _ _).alloc (Nat.le_refl _) _
  have HSz : Hid (p.k = 6 → Calls Tryz.prog 33 #[.agg #[.int .i64 p.t.k, .int .i64 p.t.p, .string p.t.n, .int .i64 p.t.s, tl, tk]] (w.alloc (cell12 p lv av tl tk kv)) fun e w' => e = .returned (.int .i64 ((p.typ0 : Nat) : Int)) ∧ Below (w.alloc (cell12 p lv av tl tk kv)).heap.size (w.alloc (cell12 p lv av tl tk kv)) w') := Lib.hid (fun h => by
    have e : p.typ0 = p.t.size := by unfold Pr.typ0; rw [if_pos h]
    rw [e]
    exact rsize_any B p.t hsz _ _ (hB.le hb0.size) (hty.keep (hb0.keeps'.mono hB)))
  have HZ : Hid (p.k ≠ 6 → p.typ0 = 0) := Lib.hid (fun h => by unfold Pr.typ0; rw [if_neg h])
  have hte := p.typ_eq
  obtain ⟨pa, len, c, rfl, hlen, hm, hget⟩ := hk.open
  have HG := Lib.hid hget
  have HIH := Lib.hid ih
  obtain ⟨ps, hps⟩ : ∃ ps, p.ps = ps := ⟨_, rfl⟩
  obtain ⟨z, hz⟩ : ∃ z, p.typ0 = z := ⟨_, rfl⟩
  obtain ⟨q, hq⟩ : ∃ q, p.typ = q := ⟨_, rfl⟩
  rw [hps] at HG hlen HIH hte
  rw [hz] at HSz HZ hte
  rw [hq] at hts hte ⊢
  have HTE := Lib.hid hte
  have hzz : z ≤ 1000000000 := by omega
  have hte2 : z + Pr.typs ps ≤ 1000000000 := by omega
  obtain ⟨tla, tln, tlc, htl⟩ : ∃ a n c, tl = .slice a n c := by
    obtain ⟨lv', kv', e, _, hl, hk2⟩ := hty
    simp only [Value.agg.injEq, Array.mk.injEq, List.cons.injEq, and_true, true_and] at e
    obtain ⟨rfl, rfl⟩ := e
    obtain ⟨a, n, c, e, _⟩ := hl.open
    exact ⟨a, n, c, e⟩
  obtain ⟨tka, tkn, tkc, htk⟩ : ∃ a n c, tk = .slice a n c := by
    obtain ⟨lv', kv', e, _, hl, hk2⟩ := hty
    simp only [Value.agg.injEq, Array.mk.injEq, List.cons.injEq, and_true, true_and] at e
    obtain ⟨rfl, rfl⟩ := e
    obtain ⟨a, n, c, e, _⟩ := hk2.open
    exact ⟨a, n, c, e⟩
  subst htl htk
  clear hget hk ih hps hz hq hte hty hb0
  unfold prAgg
  by_cases h6 : p.k = 6
  all_goals
    first
      | (have h6' : (p.k == 6) = true := by simpa using h6
         have HS1 := Lib.hid (HSz.out h6)
         have HZ1 : Hid (z = z) := Lib.hid rfl)
      | (have h6' : (p.k == 6) = false := by simpa using h6
         have HZ1 := Lib.hid (HZ.out h6))
    clear HSz HZ h6
    go_enter Tryz.func32, Tryz.ntmps32
    go_wp2_with (go_at_call 33; refine HS1.out.mono ?_; rintro e w1 ⟨rfl, hb1⟩)
    go_loopw [3, 4] (fun a i wr => ∃ j : Nat, i = .int .i64 j ∧ j ≤ len ∧ a = .int .i64 ((z + Pr.typs (ps.take j) : Nat) : Int) ∧ Below (w.heap.size + 1) (w.alloc (cell12 p lv av (.slice tla tln tlc) (.slice tka tkn tkc) (.slice pa len c))) wr) (fun _ i _ => len - (intOf i).toNat)
    case atStart => first | exact ⟨0, rfl, by omega, by simp [Pr.typs], by simpa using hb1⟩ | exact ⟨0, rfl, by omega, by simp [Pr.typs, HZ1.out], Below.refl _ _⟩
    case round =>
      obtain ⟨j, rfl, hj, rfl, hb⟩ := hrel
      have c11 : wr.cell? ⟨w.heap.size, 11, none⟩ = some (.slice pa len c) := blk_cell hb 11 rfl
      have hw := blk_below hb
      by_cases hlt : j < len
      · obtain ⟨t, ht⟩ : ∃ t, ps[j]? = some t := ⟨_, List.getElem?_eq_getElem (by rw [← hlen.out]; exact hlt)⟩
        obtain ⟨kb, ko, rfl, hkb, hty⟩ := HG.out j t ht
        obtain ⟨la', ln', lc', aa', an', ac', ta', tn', tc', ua', un', uc', ka', kn', kc', ⟨d0, d1, d2, d3, d4, d5, d6, d7, d8, d9, d10, d11⟩, hval⟩ := (hty.keep (hw.keeps'.mono hB)).load'
        have hsz := Pr.typs_take ht
        have hle := Pr.typs_take_le ps (j + 1)
        have IH := Lib.hid (HIH.out t (List.mem_of_getElem? ht) _ wr (hB.le hw.size) hval)
        obtain ⟨a0, ha0⟩ : ∃ a0, z + Pr.typs (ps.take j) = a0 := ⟨_, rfl⟩
        have HA := Lib.hid hsz
        have ha1 : a0 + t.typ ≤ 1000000000 := by omega
        have HA0 := Lib.hid ha0
        rw [ha0]
        unfold prAgg at IH
        clear hsz ha0 ht hval hty
        go_wp2_with (go_at_call 32; refine IH.out.mono ?_; rintro e w2 ⟨rfl, hb2⟩)
        go_roundw
        case rel => exact ⟨j + 1, by go_num, by omega, ret_val (by rw [HA.out]; have := HA0.out; omega), hb.trans (hb2.mono (by have := hb.size; simpa using this))⟩
        case measure => simp [intOf]; omega
      · obtain rfl : j = len := by omega
        go_wp2_with fail
        go_ret
        exact ⟨ret_int (by rw [List.take_of_length_le (by rw [hlen.out]; exact Nat.le_refl _), ← HTE.out]), hw⟩

theorem prtyp_any (B : Nat → Prop) : ∀ (p : Pr), p.tf → p.typ ≤ 1000000000 → ∀ (v : Value) (w : World), Low B w → PrVal B w v p → Calls Tryz.prog 32 #[v] w fun e w' => e = .returned (.int .i64 p.typ) ∧ Below w.heap.size w w' := by
  refine Pr.ind ?_
  intro k c x ls vs t ps ih htf hsz v w hB hv
  obtain ⟨lv, av, tl, tk, kv, rfl, _, _, _, hty, hk⟩ := hv
  have h1 : Pr.typs ps ≤ 1000000000 := by rw [Pr.typ_eq] at hsz; simp only [Pr.ps] at hsz; omega
  exact prtyp_step B (.mk k c x ls vs t ps) lv av tl tk kv hsz (by have := Pr.tf_size htf; omega) (fun u hu => ih u hu (Pr.tf_ps htf u hu) (Nat.le_trans (Pr.typ_mem hu) h1)) w hB hty hk

end Go.Proofs.YtmedijheidbmhaaGreatDoor

/- Processes: the reference's left and Few. -/
namespace Go.Proofs.YtmedijheidbmhaaGreatDoor
open Go.RowKit

mutual
def Pr.lft : Pr → Int → Int
  | .mk _ _ _ _ _ t ps, m => if t.few 300 then Pr.lfts ps (m - 1) else -1
def Pr.lfts : List Pr → Int → Int
  | [], m => m
  | p :: r, m => if 0 ≤ m then Pr.lfts r (p.lft m) else m
end
theorem Pr.lft_eq (p : Pr) (m : Int) : p.lft m = if p.t.few 300 then Pr.lfts p.ps (m - 1) else -1 := by
  cases p
  rename_i k c x ls vs t ps
  by_cases h : t.few 300 = true <;> simp [Pr.lft, Pr.ps, Pr.t, h]
theorem Pr.lfts_neg (ps : List Pr) (m : Int) (h : ¬ 0 ≤ m) : Pr.lfts ps m = m := by cases ps <;> simp [Pr.lfts, h]
mutual
theorem Pr.lft_range : ∀ (p : Pr) (m : Int), 0 ≤ m → -1 ≤ p.lft m ∧ p.lft m ≤ m ∧ (0 ≤ p.lft m → p.lft m = m - p.size ∧ p.tf)
  | .mk k c x ls vs t ps, m, h => by
    rw [Pr.lft_eq, Pr.size_eq]; simp only [Pr.ps, Pr.t, Pr.tf]
    by_cases hf : t.few 300 = true
    · simp only [hf, if_true, true_and]
      have := Pr.lfts_range ps (m - 1) (by omega)
      exact ⟨this.1, by omega, fun h0 => ⟨by have := (this.2.2 h0).1; omega, (this.2.2 h0).2⟩⟩
    · simp only [hf]
      exact ⟨by simp, by simp; omega, fun h0 => by simp at h0⟩
theorem Pr.lfts_range : ∀ (ps : List Pr) (m : Int), -1 ≤ m → -1 ≤ Pr.lfts ps m ∧ Pr.lfts ps m ≤ m ∧ (0 ≤ Pr.lfts ps m → Pr.lfts ps m = m - Pr.sizes ps ∧ Pr.tfs ps)
  | [], m, hm => by simp only [Pr.lfts, Pr.sizes, Pr.tfs]; exact ⟨hm, by omega, fun _ => ⟨by omega, trivial⟩⟩
  | p :: r, m, hm => by
    simp only [Pr.lfts, Pr.sizes, Pr.tfs]
    by_cases h : 0 ≤ m
    · rw [if_pos h]
      have h1 := Pr.lft_range p m h
      have h2 := Pr.lfts_range r (p.lft m) h1.1
      refine ⟨h2.1, by omega, fun h0 => ?_⟩
      have h3 := h2.2.2 h0
      have h4 := h1.2.2 (by omega)
      exact ⟨by omega, h4.2, h3.2⟩
    · rw [if_neg h]
      exact ⟨hm, by omega, fun h0 => absurd h0 h⟩
end
theorem Pr.lfts_drop {ps : List Pr} {j : Nat} {p : Pr} (h : ps[j]? = some p) (m : Int) (hm : 0 ≤ m) : Pr.lfts (ps.drop j) m = Pr.lfts (ps.drop (j + 1)) (p.lft m) := by
  have hj := (List.getElem?_eq_some_iff.1 h).1
  have e : ps.drop j = p :: ps.drop (j + 1) := by rw [List.drop_eq_getElem_cons hj]; congr 1; exact (List.getElem?_eq_some_iff.1 h).2
  rw [e, Pr.lfts, if_pos hm]

theorem slices_of {B : Nat → Prop} {w : World} {t : Ty} {k p s : Int} {n : ByteArray} {tl tk : Value} (h : TyVal B w (.agg #[.int .i64 k, .int .i64 p, .string n, .int .i64 s, tl, tk]) t) : (∃ (a : Option Addr) (n c : Nat), tl = .slice a n c) ∧ ∃ (a : Option Addr) (n c : Nat), tk = .slice a n c := by
  obtain ⟨lv', kv', e, _, hl, hk2⟩ := h
  simp only [Value.agg.injEq, Array.mk.injEq, List.cons.injEq, and_true] at e
  obtain ⟨_, _, _, _, rfl, rfl⟩ := e
  obtain ⟨a, n, c, e, _⟩ := hl.open
  obtain ⟨a', n', c', e', _⟩ := hk2.open
  exact ⟨⟨a, n, c, e⟩, a', n', c', e'⟩

set_option maxHeartbeats 2000000 in
theorem prleft_step (B : Nat → Prop) (p : Pr) (lv av tl tk kv : Value) (m : Int) (hm0 : 0 ≤ m) (hm1 : m ≤ 1000000)
    (ih : ∀ u ∈ p.ps, ∀ (m : Int), 0 ≤ m → m ≤ 1000000 → ∀ (v : Value) (w : World), Low B w → PrVal B w v u → Calls Tryz.prog 41 #[v, .int .i64 m] w fun e w' => e = .returned (.int .i64 (u.lft m)) ∧ Below w.heap.size w w')
    (w : World) (hB : Low B w) (hty : TyVal B w (.agg #[.int .i64 p.t.k, .int .i64 p.t.p, .string p.t.n, .int .i64 p.t.s, tl, tk]) p.t) (hk : PrSl B w kv p.ps) :
    Calls Tryz.prog 41 #[prAgg p lv av tl tk kv, .int .i64 m] w fun e w' => e = .returned (.int .i64 (p.lft m)) ∧ Below w.heap.size w w' := by
  have hb0 : Below w.heap.size w (w.alloc (cell12 p lv av tl tk kv)) := (Below.refl _ _).alloc (Nat.le_refl _) _
  obtain ⟨f, hf⟩ : ∃ f, p.t.few 300 = f := ⟨_, rfl⟩
  have HF : Hid (Calls Tryz.prog 22 #[.agg #[.int .i64 p.t.k, .int .i64 p.t.p, .string p.t.n, .int .i64 p.t.s, tl, tk], .int .i64 300] (w.alloc (cell12 p lv av tl tk kv)) fun e w' => e = .returned (.bool f) ∧ Below (w.alloc (cell12 p lv av tl tk kv)).heap.size (w.alloc (cell12 p lv av tl tk kv)) w') := Lib.hid (by
    rw [← hf]; exact rfew_any B p.t 300 (by omega) _ _ (hB.le hb0.size) (hty.keep (hb0.keeps'.mono hB)))
  have HL : Hid (p.lft m = if f then Pr.lfts p.ps (m - 1) else -1) := Lib.hid (by rw [Pr.lft_eq, hf])
  rw [HL.out]
  obtain ⟨pa, len, c, rfl, hlen, hm, hget⟩ := hk.open
  obtain ⟨⟨tla, tln, tlc, rfl⟩, tka, tkn, tkc, rfl⟩ := slices_of hty
  have HG := Lib.hid hget
  have HIH := Lib.hid ih
  obtain ⟨ps, hps⟩ : ∃ ps, p.ps = ps := ⟨_, rfl⟩
  rw [hps] at HG hlen HIH ⊢
  clear hget hk ih hps hf HL hty hb0
  unfold prAgg
  cases f
  · rw [if_neg (by decide)]
    go_enter Tryz.func41, Tryz.ntmps41
    go_wp2_with (go_at_call 22; refine HF.out.mono ?_; rintro e w1 ⟨rfl, hb1⟩)
    go_ret
    exact ⟨rfl, below_seq (blkBelow w _ _) hb1⟩
  · rw [if_pos rfl]
    go_enter Tryz.func41, Tryz.ntmps41
    go_wp2_with (go_at_call 22; refine HF.out.mono ?_; rintro e w1 ⟨rfl, hb1⟩)
    have hbx : Below (w.heap.size + 1) (w.alloc (cell12 p lv av (.slice tla tln tlc) (.slice tka tkn tkc) (.slice pa len c))) w1 := by simpa using hb1
    have HBX := Lib.hid hbx
    clear hb1 hbx
    go_loopw [1, 5] (fun a i wr => ∃ (j : Nat) (q : Int), i = .int .i64 j ∧ j ≤ len ∧ a = .int .i64 q ∧ -1 ≤ q ∧ q ≤ 1000000 ∧ Hid (Pr.lfts (ps.drop j) q = Pr.lfts ps (m - 1)) ∧ Below (w.heap.size + 1) (w.alloc (cell12 p lv av (.slice tla tln tlc) (.slice tka tkn tkc) (.slice pa len c))) wr) (fun _ i _ => len - (intOf i).toNat)
    case atStart => exact ⟨0, _, rfl, by omega, rfl, by omega, by omega, Lib.hid rfl, HBX.out⟩
    case round =>
      obtain ⟨j, q, rfl, hj, rfl, hq0, hq1, HQ, hb⟩ := hrel
      have c11 : wr.cell? ⟨w.heap.size, 11, none⟩ = some (.slice pa len c) := blk_cell hb 11 rfl
      have hw := blk_below hb
      by_cases hlt : j < len
      · by_cases hq : 0 ≤ q
        · obtain ⟨t, ht⟩ : ∃ t, ps[j]? = some t := ⟨_, List.getElem?_eq_getElem (by rw [← hlen.out]; exact hlt)⟩
          obtain ⟨kb, ko, rfl, hkb, hty⟩ := HG.out j t ht
          obtain ⟨la', ln', lc', aa', an', ac', ta', tn', tc', ua', un', uc', ka', kn', kc', ⟨d0, d1, d2, d3, d4, d5, d6, d7, d8, d9, d10, d11⟩, hval⟩ := (hty.keep (hw.keeps'.mono hB)).load'
          have IH := Lib.hid (HIH.out t (List.mem_of_getElem? ht) q hq hq1 _ wr (hB.le hw.size) hval)
          have HT := Lib.hid ((Pr.lfts_drop ht q hq).symm.trans HQ.out)
          have hr := t.lft_range q hq
          have hr1 := hr.1
          have hr2 := hr.2.1
          unfold prAgg at IH
          clear ht hr hval hty
          go_wp2_with (go_at_call 41; refine IH.out.mono ?_; rintro e w2 ⟨rfl, hb2⟩)
          go_roundw
          case rel => exact ⟨j + 1, _, by go_num, by omega, rfl, hr1, by omega, HT, hb.trans (hb2.mono (by have := hb.size; simpa using this))⟩
          case measure => simp [intOf]; omega
        · have hq' : decide (0 ≤ q) = false := by simpa using hq
          go_wp2_with fail
          go_ret
          exact ⟨ret_int (by rw [← HQ.out, Pr.lfts_neg _ _ (by omega)]), hw⟩
      · obtain rfl : j = len := by omega
        go_wp2_with fail
        go_ret
        exact ⟨ret_int (by rw [← HQ.out, List.drop_of_length_le (by rw [hlen.out]; exact Nat.le_refl _)]; simp [Pr.lfts]), hw⟩

theorem prleft_any (B : Nat → Prop) : ∀ (p : Pr) (m : Int), 0 ≤ m → m ≤ 1000000 → ∀ (v : Value) (w : World), Low B w → PrVal B w v p → Calls Tryz.prog 41 #[v, .int .i64 m] w fun e w' => e = .returned (.int .i64 (p.lft m)) ∧ Below w.heap.size w w' := by
  refine Pr.ind ?_
  intro k c x ls vs t ps ih m h0 h1 v w hB hv
  obtain ⟨lv, av, tl, tk, kv, rfl, _, _, _, hty, hk⟩ := hv
  exact prleft_step B (.mk k c x ls vs t ps) lv av tl tk kv m h0 h1 ih w hB hty hk

/-- Is a process small? -/
def Pr.few (p : Pr) (m : Nat) : Bool := decide (0 ≤ p.lft m) && decide (p.depth ≤ 150)
theorem Pr.few_facts {p : Pr} {m : Nat} (h : p.few m = true) : p.size ≤ m ∧ p.depth ≤ 150 ∧ p.tf := by
  have h' : 0 ≤ p.lft m ∧ p.depth ≤ 150 := by simpa [Pr.few] using h
  have h1 := p.lft_range m (by omega)
  have h2 := h1.2.2 h'.1
  exact ⟨by omega, h'.2, h2.2⟩

set_option maxHeartbeats 1000000 in
theorem prfew_any (B : Nat → Prop) (p : Pr) (m : Nat) (hm : m ≤ 1000000) (v : Value) (w : World) (hB : Low B w) (hv : PrVal B w v p) :
    Calls Tryz.prog 21 #[v, .int .i64 m] w fun e w' => e = .returned (.bool (p.few m)) ∧ Below w.heap.size w w' := by
  have hv0 := hv
  obtain ⟨lv, av, tl, tk, kv, rfl, _, hl, ha, hty, hk⟩ := hv0
  obtain ⟨pa, len, c, rfl, _⟩ := hk.open
  obtain ⟨⟨tla, tln, tlc, rfl⟩, tka, tkn, tkc, rfl⟩ := slices_of hty
  obtain ⟨la, ln, lc, rfl, _⟩ := hl.open
  obtain ⟨aa, an, ac, rfl, _⟩ := ha.open
  have hb0 : Below w.heap.size w (w.alloc (cell12 p (.slice la ln lc) (.slice aa an ac) (.slice tla tln tlc) (.slice tka tkn tkc) (.slice pa len c))) := (Below.refl _ _).alloc (Nat.le_refl _) _
  have HL := Lib.hid (fun (W : World) (hW : Below w.heap.size w W) => prleft_any B p m (by omega) (by omega) _ W (hB.le hW.size) (hv.to hB hW))
  have HD := Lib.hid (fun (h : p.depth ≤ 1000000) (W : World) (hW : Below w.heap.size w W) => prdepth_any B p h _ W (hB.le hW.size) (hv.to hB hW))
  have hrg := p.lft_range m (by omega)
  have hds := p.depth_le_size
  obtain ⟨q, hq⟩ : ∃ q, p.lft m = q := ⟨_, rfl⟩
  obtain ⟨d, hd⟩ : ∃ d, p.depth = d := ⟨_, rfl⟩
  have HFW : Hid (p.few m = (decide (0 ≤ q) && decide (d ≤ 150))) := Lib.hid (by unfold Pr.few; rw [hq, hd])
  rw [HFW.out]
  rw [hq] at HL hrg
  rw [hd] at HD hds
  have HB0 := Lib.hid hb0
  have hd2 : 0 ≤ q → d ≤ 1000000 := fun h => by have := hrg.2.2 h; omega
  clear hl ha hty hk hv hq hd HFW hrg hb0
  unfold prAgg at HL HD ⊢
  by_cases h0 : 0 ≤ q
  · have h0' : decide (0 ≤ q) = true := by simpa using h0
    have HD2 := Lib.hid (HD.out (hd2 h0))
    rw [h0', Bool.true_and]
    clear HD hd2
    by_cases h1 : d ≤ 150
    · have h1' : decide ((d : Int) ≤ 150) = true := by simp; omega
      have h1'' : (d : Int) ≤ 150 := by omega
      rw [show decide (d ≤ 150) = true by simpa using h1]
      go_enter Tryz.func21, Tryz.ntmps21
      go_wp2_with (first | (go_at_call 41; refine (HL.out _ HB0.out).mono ?_; rintro e w2 ⟨rfl, hb2⟩; obtain ⟨hcl, hfz⟩ := bcell hb2) | (go_at_call 42; refine (HD2.out _ (below_seq HB0.out hb2)).mono ?_; rintro e w3 ⟨rfl, hb3⟩))
      go_ret
      exact ⟨rfl, below_seq HB0.out (below_seq hb2 hb3)⟩
    · have h1' : decide ((d : Int) ≤ 150) = false := by simp; omega
      have h1'' : ¬ (d : Int) ≤ 150 := by omega
      rw [show decide (d ≤ 150) = false by simpa using h1]
      go_enter Tryz.func21, Tryz.ntmps21
      go_wp2_with (first | (go_at_call 41; refine (HL.out _ HB0.out).mono ?_; rintro e w2 ⟨rfl, hb2⟩; obtain ⟨hcl, hfz⟩ := bcell hb2) | (go_at_call 42; refine (HD2.out _ (below_seq HB0.out hb2)).mono ?_; rintro e w3 ⟨rfl, hb3⟩))
      go_ret
      exact ⟨rfl, below_seq HB0.out (below_seq hb2 hb3)⟩
  · have h0' : decide (0 ≤ q) = false := by simpa using h0
    rw [h0', Bool.false_and]
    clear hd2
    go_enter Tryz.func21, Tryz.ntmps21
    go_wp2_with (go_at_call 41; refine (HL.out _ HB0.out).mono ?_; rintro e w2 ⟨rfl, hb2⟩)
    go_ret
    exact ⟨rfl, below_seq HB0.out hb2⟩

end Go.Proofs.YtmedijheidbmhaaGreatDoor

/- Programs: their sizes, and the rows of what they hold. -/
namespace Go.Proofs.YtmedijheidbmhaaGreatDoor
open Go.RowKit Go.Deep Go.Shelf

def sumN : List Nat → Nat
  | [] => 0
  | x :: r => x + sumN r
theorem sumN_append (l r : List Nat) : sumN (l ++ r) = sumN l + sumN r := by
  induction l with
  | nil => simp [sumN]
  | cons x l ih => simp only [List.cons_append, sumN, ih]; omega
theorem sumN_le_of_prefix {l r : List Nat} (h : l <+: r) : sumN l ≤ sumN r := by
  obtain ⟨s, rfl⟩ := h
  rw [sumN_append]; omega

/-- What the nodes of a process add. -/
def addsL (l : List (Nat × Pr)) : List Nat := l.map fun x => x.2.adds
theorem Pr.adds_eq (p : Pr) : p.adds = 1 + p.typ0 := by
  unfold Pr.adds Pr.typ0
  by_cases h : p.k = 6
  · rw [if_pos h, if_pos h]
  · rw [if_neg h, if_neg h]
theorem sum_adds : ∀ (p : Pr) (d : Nat), sumN (addsL (preP d p)) = p.size + p.typ := by
  refine Pr.ind ?_
  intro k c x ls vs t ps ih d
  have h : ∀ (l : List Pr) (d : Nat), (∀ p ∈ l, ∀ d, sumN (addsL (preP d p)) = p.size + p.typ) → sumN (addsL (prePs d l)) = Pr.sizes l + Pr.typs l := by
    intro l
    induction l with
    | nil => intro _ _; simp [prePs, addsL, sumN, Pr.sizes, Pr.typs]
    | cons u r ihl =>
      intro d hh
      have h1 := hh u (by simp) d
      have h2 := ihl d (fun t ht => hh t (by simp [ht]))
      unfold addsL at h1 h2 ⊢
      rw [prePs, List.map_append, sumN_append, h1, h2, Pr.sizes, Pr.typs]; omega
  have h1 := h ps (d + 1) ih
  rw [preP_eq, Pr.size_eq, Pr.typ_eq]
  unfold addsL at h1 ⊢
  rw [List.map_cons, sumN]
  show (Pr.mk k c x ls vs t ps).adds + sumN (List.map (fun x => x.2.adds) (prePs (d + 1) ps)) = _
  rw [h1, Pr.adds_eq]
  simp only [Pr.ps]
  omega

def Df.pms (d : Df) : List Nat := d.ms.map fun a => a.t.size
def Pg.bodies (g : Pg) : List Pr := g.ds.map (fun d => d.b) ++ [g.m]
def bodyCnts (l : List Pr) : List Nat := l.flatMap fun p => addsL (preP 1 p)
def paramCnts (l : List Df) : List Nat := l.flatMap Df.pms
/-- The numbers that make up the size of a program, part by part. -/
def Pg.cnts (g : Pg) : List Nat := paramCnts g.ds ++ bodyCnts g.bodies
def Pg.total (g : Pg) : Nat := sumN g.cnts
def Df.all (d : Df) : Nat := d.b.size + d.b.typ + sumN d.pms
theorem Pg.total_eq (g : Pg) : g.total = g.m.size + g.m.typ + sumN (g.ds.map Df.all) := by
  have h1 : ∀ l : List Pr, sumN (bodyCnts l) = sumN (l.map fun p => p.size + p.typ) := by
    intro l
    induction l with
    | nil => rfl
    | cons p r ih =>
      unfold bodyCnts at ih ⊢
      rw [List.flatMap_cons, sumN_append, sum_adds, ih, List.map_cons, sumN]
  have h2 : ∀ l : List Df, sumN (paramCnts l) + sumN ((l.map (fun d => d.b)).map fun p => p.size + p.typ) = sumN (l.map Df.all) := by
    intro l
    induction l with
    | nil => rfl
    | cons d r ih =>
      unfold paramCnts at ih ⊢
      rw [List.flatMap_cons, sumN_append, List.map_cons, List.map_cons, sumN, List.map_cons, sumN, ← ih]
      unfold Df.all
      omega
  unfold Pg.total Pg.cnts Pg.bodies
  have := h2 g.ds
  rw [sumN_append, h1, List.map_append, sumN_append]
  simp only [List.map_cons, List.map_nil, sumN]
  omega

theorem flatMap_take {α β : Type} {l : List α} {j : Nat} {x : α} (f : α → List β) (h : l[j]? = some x) : (l.take (j + 1)).flatMap f = (l.take j).flatMap f ++ f x := by
  rw [take_snoc_get h, List.flatMap_append]; simp
theorem flatMap_prefix {α β : Type} (l : List α) (j : Nat) (f : α → List β) : (l.take j).flatMap f <+: l.flatMap f := by
  conv => rhs; rw [← List.take_append_drop j l, List.flatMap_append]
  exact List.prefix_append _ _
theorem map_take_snoc {α β : Type} {l : List α} {j : Nat} {x : α} (f : α → β) (h : l[j]? = some x) : (l.take (j + 1)).map f = (l.take j).map f ++ [f x] := by
  rw [take_snoc_get h, List.map_append]; rfl
theorem map_prefix {α β : Type} (l : List α) (j : Nat) (f : α → β) : (l.take j).map f <+: l.map f := by
  conv => rhs; rw [← List.take_append_drop j l, List.map_append]
  exact List.prefix_append _ _

/-! ### Loads -/
theorem PmAt.load' {B : Nat → Prop} {w : World} {a : Pm} {b o : Nat} (h : PmAt B w a b o) :
    ∃ (la : Option Addr) (ln lc : Nat) (ka : Option Addr) (kn kc : Nat),
      (w.cell? ⟨b, o, none⟩ = some (.string a.n) ∧ w.cell? ⟨b, o + 1, none⟩ = some (.int .i64 a.t.k) ∧ w.cell? ⟨b, o + 2, none⟩ = some (.int .i64 a.t.p) ∧ w.cell? ⟨b, o + 3, none⟩ = some (.string a.t.n) ∧ w.cell? ⟨b, o + 4, none⟩ = some (.int .i64 a.t.s) ∧ w.cell? ⟨b, o + 5, none⟩ = some (.slice la ln lc) ∧ w.cell? ⟨b, o + 6, none⟩ = some (.slice ka kn kc)) ∧
      TyVal B w (.agg #[.int .i64 a.t.k, .int .i64 a.t.p, .string a.t.n, .int .i64 a.t.s, .slice la ln lc, .slice ka kn kc]) a.t := by
  obtain ⟨_, c0, hty⟩ := h
  obtain ⟨la, ln, lc, ka, kn, kc, ⟨d0, d1, d2, d3, d4, d5⟩, hv⟩ := hty.load'
  exact ⟨la, ln, lc, ka, kn, kc, ⟨c0, d0, d1, d2, d3, d4, d5⟩, hv⟩
theorem DfAt.load' {B : Nat → Prop} {w : World} {d : Df} {b o : Nat} (h : DfAt B w d b o) :
    ∃ (ma : Option Addr) (mn mc : Nat) (la : Option Addr) (ln lc : Nat) (aa : Option Addr) (an ac : Nat) (ta : Option Addr) (tn tc : Nat) (ua : Option Addr) (un uc : Nat) (ka : Option Addr) (kn kc : Nat),
      (w.cell? ⟨b, o, none⟩ = some (.string d.n) ∧ w.cell? ⟨b, o + 1, none⟩ = some (.slice ma mn mc) ∧ w.cell? ⟨b, o + 2, none⟩ = some (.int .i64 d.b.k) ∧ w.cell? ⟨b, o + 3, none⟩ = some (.string d.b.c) ∧ w.cell? ⟨b, o + 4, none⟩ = some (.string d.b.x) ∧
       w.cell? ⟨b, o + 5, none⟩ = some (.slice la ln lc) ∧ w.cell? ⟨b, o + 6, none⟩ = some (.slice aa an ac) ∧
       w.cell? ⟨b, o + 7, none⟩ = some (.int .i64 d.b.t.k) ∧ w.cell? ⟨b, o + 8, none⟩ = some (.int .i64 d.b.t.p) ∧ w.cell? ⟨b, o + 9, none⟩ = some (.string d.b.t.n) ∧ w.cell? ⟨b, o + 10, none⟩ = some (.int .i64 d.b.t.s) ∧
       w.cell? ⟨b, o + 11, none⟩ = some (.slice ta tn tc) ∧ w.cell? ⟨b, o + 12, none⟩ = some (.slice ua un uc) ∧ w.cell? ⟨b, o + 13, none⟩ = some (.slice ka kn kc)) ∧
      PmSl B w (.slice ma mn mc) d.ms ∧ PrVal B w (prAgg d.b (.slice la ln lc) (.slice aa an ac) (.slice ta tn tc) (.slice ua un uc) (.slice ka kn kc)) d.b := by
  obtain ⟨_, c0, ⟨mv, c1, hm⟩, hp⟩ := h
  obtain ⟨ma, mn, mc, rfl, _⟩ := hm.open
  obtain ⟨la, ln, lc, aa, an, ac, ta, tn, tc, ua, un, uc, ka, kn, kc, ⟨d0, d1, d2, d3, d4, d5, d6, d7, d8, d9, d10, d11⟩, hv⟩ := hp.load'
  exact ⟨ma, mn, mc, la, ln, lc, aa, an, ac, ta, tn, tc, ua, un, uc, ka, kn, kc, ⟨c0, c1, d0, d1, d2, d3, d4, d5, d6, d7, d8, d9, d10, d11⟩, hm, hv⟩
/-- What is asked of the processes that are looked at. -/
def PGood (p : Pr) : Prop := p.fine ∧ p.tf
theorem PGood.ps {p : Pr} (h : PGood p) : ∀ u ∈ p.ps, PGood u := fun u hu => ⟨Pr.fine_ps h.1 u hu, Pr.tf_ps h.2 u hu⟩

/-- What is asked of the programs that are measured. -/
def GGood (g : Pg) : Prop := g.ds.length ≤ 1000 ∧ (∀ d ∈ g.ds, ∀ a ∈ d.ms, a.t.fine ∧ a.t.few 300 = true) ∧ ∀ p ∈ g.bodies, PGood p ∧ p.depth ≤ 1000 ∧ p.size ≤ 1000000
theorem GGood.pm {g : Pg} (h : GGood g) {d : Df} (hd : d ∈ g.ds) {a : Pm} (ha : a ∈ d.ms) : a.t.size ≤ 300 ∧ a.t.depth ≤ 150 := few_size (h.2.1 d hd a ha).2
theorem Pg.body_mem {g : Pg} {d : Df} (hd : d ∈ g.ds) : d.b ∈ g.bodies := by unfold Pg.bodies; simp only [List.mem_append, List.mem_map]; exact .inl ⟨d, hd, rfl⟩
theorem Pg.main_mem (g : Pg) : g.m ∈ g.bodies := by unfold Pg.bodies; simp

end Go.Proofs.YtmedijheidbmhaaGreatDoor

/- Programs: sameness, by the program. -/
namespace Go.Proofs.YtmedijheidbmhaaGreatDoor
open Go.RowKit Go.Deep Go.Shelf

abbrev cell13 (g : Pg) (dv lv av tl tk kv : Value) : Obj := .cells #[dv, .int .i64 g.m.k, .string g.m.c, .string g.m.x, lv, av, .int .i64 g.m.t.k, .int .i64 g.m.t.p, .string g.m.t.n, .int .i64 g.m.t.s, tl, tk, kv] 32
abbrev pgAgg (g : Pg) (dv lv av tl tk kv : Value) : Value := .agg #[dv, .int .i64 g.m.k, .string g.m.c, .string g.m.x, lv, av, .int .i64 g.m.t.k, .int .i64 g.m.t.p, .string g.m.t.n, .int .i64 g.m.t.s, tl, tk, kv]
/-- A program in a box of its own. -/
theorem boxed_pgAt {B S : Nat → Prop} {w W : World} {g : Pg} {dv lv av tl tk kv : Value} (hB : Low B w) (hd : DfSl B w dv g.ds) (hv : PrVal B w (prAgg g.m lv av tl tk kv) g.m) (hb : Below (w.heap.size + 1) (w.alloc (cell13 g dv lv av tl tk kv)) W) (hBS : ∀ k, B k → S k) (hS : S w.heap.size) : PgAt S W g w.heap.size 0 := by
  have hc : ∀ (j : Nat) (v : Value), #[dv, .int .i64 g.m.k, .string g.m.c, .string g.m.x, lv, av, .int .i64 g.m.t.k, .int .i64 g.m.t.p, .string g.m.t.n, .int .i64 g.m.t.s, tl, tk, kv][j]? = some v → W.cell? ⟨w.heap.size, j, none⟩ = some v := fun j v hj => blk_cell hb j hj
  refine ⟨hS, ⟨dv, hc 0 _ rfl, (hd.keep ((blk_below hb).keeps'.mono hB)).mono hBS⟩, prAt_of hS (hc 1 _ rfl) (hc 2 _ rfl) (hc 3 _ rfl) (hc 4 _ rfl) (hc 5 _ rfl) (hc 6 _ rfl) (hc 7 _ rfl) (hc 8 _ rfl) (hc 9 _ rfl) (hc 10 _ rfl) (hc 11 _ rfl) (hc 12 _ rfl) ?_⟩
  exact (hv.to hB (blk_below hb)).mono hBS

noncomputable def eqM (a a' : Pm) : Bool := decide (a.n = a'.n) && eqB a.t a'.t
theorem eqM_true {a a' : Pm} : eqM a a' = true ↔ a = a' := by
  unfold eqM; rw [Bool.and_eq_true, decide_eq_true_eq, eqB_true]; cases a; cases a'; simp
noncomputable def eqMs (p q : List Pm) : Bool := @decide (p = q) (Classical.propDecidable _)
theorem eqMs_true {p q : List Pm} : eqMs p q = true ↔ p = q := by unfold eqMs; simp
theorem eqMs_ne {p q : List Pm} (h : p ≠ q) : eqMs p q = false := by
  cases e : eqMs p q with
  | false => rfl
  | true => exact absurd (eqMs_true.1 e) h
noncomputable def eqD (a a' : Df) : Bool := decide (a.n = a'.n) && (eqMs a.ms a'.ms && eqP a.b a'.b)
theorem eqD_true {a a' : Df} : eqD a a' = true ↔ a = a' := by
  unfold eqD; rw [Bool.and_eq_true, Bool.and_eq_true, decide_eq_true_eq, eqMs_true, eqP_true]; cases a; cases a'; simp
noncomputable def eqDs (p q : List Df) : Bool := @decide (p = q) (Classical.propDecidable _)
theorem eqDs_true {p q : List Df} : eqDs p q = true ↔ p = q := by unfold eqDs; simp
theorem eqDs_ne {p q : List Df} (h : p ≠ q) : eqDs p q = false := by
  cases e : eqDs p q with
  | false => rfl
  | true => exact absurd (eqDs_true.1 e) h
noncomputable def eqG (a a' : Pg) : Bool := eqDs a.ds a'.ds && eqP a.m a'.m
theorem eqG_true {a a' : Pg} : eqG a a' = true ↔ a = a' := by
  unfold eqG; rw [Bool.and_eq_true, eqDs_true, eqP_true]; cases a; cases a'; simp
theorem eqG_self (g : Pg) : eqG g g = true := eqG_true.2 rfl
theorem eqM_ne {a a' : Pm} (h : a ≠ a') : eqM a a' = false := by
  cases e : eqM a a' with
  | false => rfl
  | true => exact absurd (eqM_true.1 e) h
theorem eqD_ne {a a' : Df} (h : a ≠ a') : eqD a a' = false := by
  cases e : eqD a a' with
  | false => rfl
  | true => exact absurd (eqD_true.1 e) h

end Go.Proofs.YtmedijheidbmhaaGreatDoor
