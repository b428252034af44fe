/- Types: the program's small checks. (and what follows from it) -/
import Derived.Test.YtjmnaibbljakaaaGreatDoorTyOe
import Derived.Test.YtjmnaibbljakaaaGreatDoorTyH
import Derived.Test.YtjmnaibbljakaaaGreatDoorTyY
import Derived.Test.YtjmnaibbljakaaaGreatDoorTyZa
import Derived.Test.YtjmnaibbljakaaaGreatDoorTyJ
import Derived.Test.YtjmnaibbljakaaaGreatDoorGrA
import Derived.Test.YtjmnaibbljakaaaGreatDoorPrRw
import Derived.Test.YtjmnaibbljakaaaGreatDoorPrIv
import Derived.Test.YtjmnaibbljakaaaGreatDoorTyF
import Derived.Maps.OwnSet
import Derived.Maps.OwnOps
import Derived.OwnWalk
import Derived.Lib.TrailingZeros
import Derived.RangeFuncBox
import Derived.Deep.RegionHeld3
import Derived.Deep.Cut
import Derived.Laws.Bits64b
import Derived.Laws.MakeOwn
import Derived.BigQuiet
import Derived.Laws.OwnMore
import Derived.Deep.RegionWith
import Derived.WalkSpells

/- Types: the program's small checks. -/
namespace Go.Proofs.YtjmnaibbljakaaaGreatDoor
open Go.RowKit

def numB (n : Int) (has : Bool) : Bool := if has then prioB n else n == 0
def namB (s : ByteArray) (has : Bool) : Bool := if has then nameB s else s.toList.isEmpty
end Go.Proofs.YtjmnaibbljakaaaGreatDoor

/- Types: the program's differentNames. -/
namespace Go.Proofs.YtjmnaibbljakaaaGreatDoor
open Go.RowKit

theorem boolInfo' : (Tryz.prog.info? 4).map (fun i => (i.zero, i.size, i.bytes)) = some (some (.bool false), 1, 1) := by kernel_rfl
theorem zero_bool (w : World) : (zeroValue 4).run Tryz.prog w = .ok (.bool false) w := by
  obtain ⟨i0, hi, hz0, hz1, hz2⟩ := info_parts boolInfo'
  simp [zeroValue, typeInfo, hi, hz0]
set_option maxRecDepth 100000 in
theorem plainElem_bool_inv {v : Value} {b : Bool} {ps : List MemPlace} (h : plainElem (H := Unit) Tryz.prog 4 v = some (.lit (.bool b), ps)) : v = .bool b := by
  unfold plainElem at h
  rw [Tryz.underlying4] at h
  cases v <;> simp at h
  rw [h.1]

/-- A map that tells which texts have been seen. -/
def Seen (w : World) (b j : Nat) (l : List ByteArray) : Prop := ∃ D : DataW Unit, w.ownsMap Tryz.prog 9 (plainElem Tryz.prog 4) b j D ∧ ∀ s : ByteArray, D.atKey (.string s.data.toList) (.lit (.bool false)) = .lit (.bool (memB s l))
end Go.Proofs.YtjmnaibbljakaaaGreatDoor

/- Types: the program's listsFit and fits. -/
namespace Go.Proofs.YtjmnaibbljakaaaGreatDoor
open Go.RowKit

def listsB (labels : Bool) (kids : Int) (ls : List ByteArray) (m : Nat) : Bool :=
  if labels then (!ls.isEmpty && (decide (m = ls.length) && labelsB ls)) else (ls.isEmpty && decide ((m : Int) = kids))

end Go.Proofs.YtjmnaibbljakaaaGreatDoor

/- Types: the program's fits. -/
namespace Go.Proofs.YtjmnaibbljakaaaGreatDoor
open Go.RowKit

def fitsB (a1 a2 a3 a4 : Bool) (kids : Int) (t : Ty) : Bool := numB t.p a1 && (numB t.s a3 && (namB t.n a2 && listsB a4 kids t.ls t.ts.length))

end Go.Proofs.YtjmnaibbljakaaaGreatDoor

/- A map of one's own, told by what its look-ups give; the program's rules. -/
namespace Go.Proofs.YtjmnaibbljakaaaGreatDoor
open Go.RowKit

/-- An entry reads as it is. -/
def asIs (v : Value) : Option (DataW Value × List MemPlace) := some (.held v, [])
/-- Block b is a map, of at most n entries, in which the key l has the value f l. -/
def MapIs (w : World) (k : TypeId) (b n : Nat) (f : Lit → Option Value) : Prop :=
  ∃ D : DataW Value, w.ownsMap Tryz.prog k asIs b n D ∧ ∀ l, Maps.has D l = (f l).isSome ∧ ∀ v, f l = some v → ∀ z, D.atKey l z = .held v
theorem MapIs.made (w : World) (k : TypeId) : MapIs (w.alloc (.map #[] 0)) k w.heap.size 0 (fun _ => none) :=
  ⟨.map [], World.ownsMap_made w _ _ _, fun _ => ⟨rfl, fun _ h => by cases h⟩⟩
theorem MapIs.congr {w : World} {k : TypeId} {b n : Nat} {f g : Lit → Option Value} (h : MapIs w k b n f) (e : ∀ l, f l = g l) : MapIs w k b n g := by
  obtain ⟨D, ho, hf⟩ := h
  exact ⟨D, ho, fun l => by rw [← e l]; exact hf l⟩
theorem MapIs.lt {w : World} {k : TypeId} {b n : Nat} {f : Lit → Option Value} (h : MapIs w k b n f) : b < w.heap.size := by
  obtain ⟨D, ho, _⟩ := h; exact ho.lt
theorem MapIs.kept {w w' : World} {k : TypeId} {b n : Nat} {f : Lit → Option Value} (h : MapIs w k b n f) {row : Option Nat} (hg : w.grownBy w' row) (hne : some b ≠ row) : MapIs w' k b n f := by
  obtain ⟨D, ho, hf⟩ := h; exact ⟨D, ho.kept hg hne, hf⟩
theorem MapIs.below {w w' : World} {k : TypeId} {b n m : Nat} {f : Lit → Option Value} (h : MapIs w k b n f) (hb : Below m w w') (hm : b < m) : MapIs w' k b n f := by
  obtain ⟨D, ⟨es, clock, h1, r⟩, hf⟩ := h
  exact ⟨D, ⟨es, clock, (hb.block b hm).trans h1, r⟩, hf⟩
open Classical in
theorem MapIs.put {w : World} {k : TypeId} {b n : Nat} {f : Lit → Option Value} (h : MapIs w k b n f) (K : Maps.Keyed Tryz.prog k) {t e : TypeId} (ht : Tryz.prog.underlying t = some (.map k e)) (hn : n < maxLen) {key val : Value} {kl : Lit} (hkey : keyOf Tryz.prog k key = some kl) (hkl : WideAt.IsKeyLit kl) :
    ∃ w', (Instr.mapUpdate t (.map (some b)) key val).run Tryz.prog w = .ok () w' ∧ MapIs w' k b (n + 1) (fun l => if l = kl then some val else f l) ∧ w.grownBy w' (some b) := by
  obtain ⟨D, ho, hf⟩ := h
  obtain ⟨w', hr, ho', htn⟩ := ho.store K ht hn hkey (d := .held val) (ps := []) rfl
  refine ⟨w', hr, ⟨_, ho', fun l => ?_⟩, htn.grown⟩
  by_cases e : l = kl
  · subst e
    simp only [if_true]
    exact ⟨by rw [Maps.has_put_same ho.isMap hkl]; rfl, fun v hv z => by rw [Maps.atKey_put_same ho.isMap hkl]; cases hv; rfl⟩
  · simp only [if_neg e]
    rw [Maps.has_put_other e]
    exact ⟨(hf l).1, fun v hv z => by rw [Maps.atKey_put_other e]; exact (hf l).2 v hv z⟩
set_option maxRecDepth 100000 in
theorem MapIs.look {w : World} {k : TypeId} {b n : Nat} {f : Lit → Option Value} (h : MapIs w k b n f) (K : Maps.Keyed Tryz.prog k) {t e : TypeId} (ht : Tryz.prog.underlying t = some (.map k e)) {z : Value} (hz : (zeroValue e).run Tryz.prog w = .ok z w) {key : Value} {kl : Lit} (hkey : keyOf Tryz.prog k key = some kl) :
    (Instr.lookup t (.map (some b)) key false).run Tryz.prog w = .ok ((f kl).getD z) w := by
  obtain ⟨D, ho, hf⟩ := h
  obtain ⟨v, ps, hr, hv⟩ := ho.lookup K ht hz (zd := .held z) (zp := []) rfl hkey
  rw [hr]
  obtain ⟨h1, h2⟩ := hf kl
  have hv' : DataW.held v = D.atKey kl (.held z) := by
    simp only [asIs, Option.some.injEq, Prod.mk.injEq] at hv; exact hv.1
  refine congrArg (fun x => Result.ok x w) ?_
  cases hfk : f kl with
  | none =>
    rw [hfk] at h1
    rw [Maps.atKey_of_not_has h1] at hv'
    exact DataW.held.inj hv'
  | some u =>
    rw [h2 u hfk] at hv'
    exact DataW.held.inj hv'
set_option maxRecDepth 100000 in
theorem MapIs.look_ok {w : World} {k : TypeId} {b n : Nat} {f : Lit → Option Value} (h : MapIs w k b n f) (K : Maps.Keyed Tryz.prog k) {t e : TypeId} (ht : Tryz.prog.underlying t = some (.map k e)) {z : Value} (hz : (zeroValue e).run Tryz.prog w = .ok z w) {key : Value} {kl : Lit} (hkey : keyOf Tryz.prog k key = some kl) :
    (Instr.lookup t (.map (some b)) key true).run Tryz.prog w = .ok (.tuple #[(f kl).getD z, .bool (f kl).isSome]) w := by
  obtain ⟨D, ho, hf⟩ := h
  obtain ⟨v, ps, hr, hv⟩ := ho.look_ok K ht hz (zd := .held z) (zp := []) rfl hkey
  obtain ⟨h1, h2⟩ := hf kl
  rw [hr, h1]
  have hv' : DataW.held v = D.atKey kl (.held z) := by
    simp only [asIs, Option.some.injEq, Prod.mk.injEq] at hv; exact hv.1
  have : v = (f kl).getD z := by
    cases hfk : f kl with
    | none =>
      rw [hfk] at h1
      rw [Maps.atKey_of_not_has h1] at hv'
      exact DataW.held.inj hv'
    | some u =>
      rw [h2 u hfk] at hv'
      exact DataW.held.inj hv'
  rw [this]

/-! ### The rules -/
def knK (k : Int) : Bool := decide (1 ≤ k) && decide (k ≤ 9)
def r2K (k : Int) : Bool := k == 8 || k == 9
def r3K (k : Int) : Bool := k == 9
def r4K (k : Int) : Bool := k == 6 || k == 7
def kidsK (k : Int) : Int := if k = 4 ∨ k = 5 then 2 else if k = 8 then 1 else 0
abbrev ruleVal (k : Int) : Value := .agg #[.bool (actB k), .bool (r2K k), .bool (r3K k), .bool (r4K k), .int .i64 (kidsK k), .int .i64 (paysK k)]
def ruleF : Lit → Option Value
  | .int .i64 k => if knK k then some (ruleVal k) else none
  | _ => none
def RulesAt (w : World) (b : Nat) : Prop := MapIs w 3 b 9 ruleF
abbrev rule0 : Value := .agg #[.bool false, .bool false, .bool false, .bool false, .int .i64 0, .int .i64 0]
theorem intKeyed : Maps.Keyed Tryz.prog 3 := Maps.int_keyed Tryz.underlying3
theorem wf64 {a : Int} (h1 : -9223372036854775808 ≤ a) (h2 : a ≤ 9223372036854775807) : (Lit.int .i64 a).wf = true := by
  unfold Lit.wf
  rw [Bool.and_eq_true, decide_eq_true_eq, decide_eq_true_eq]
  exact ⟨h1, h2⟩
theorem key_int {a : Int} (h1 : -9223372036854775808 ≤ a) (h2 : a ≤ 9223372036854775807) : keyOf Tryz.prog 3 (.int .i64 a) = some (.int .i64 a) := Maps.keyOf_int_mk Tryz.underlying3 (wf64 h1 h2)
theorem rule_unknown {k : Int} (h : knK k = false) : ruleVal k = rule0 := by
  have h1 : ¬ (1 ≤ k ∧ k ≤ 9) := by simpa [knK] using h
  have a1 : actB k = false := by rw [Bool.eq_false_iff]; intro e; rw [actB_iff] at e; omega
  have a2 : r2K k = false := by simp [r2K]; omega
  have a3 : r3K k = false := by simp [r3K]; omega
  have a4 : r4K k = false := by simp [r4K]; omega
  have a5 : kidsK k = 0 := by unfold kidsK; rw [if_neg (by omega), if_neg (by omega)]
  have a6 : paysK k = 0 := by unfold paysK; rw [if_neg (by omega)]
  unfold ruleVal rule0
  rw [a1, a2, a3, a4, a5, a6]
/-- What the rule of a kind says of a node is its shape. -/
theorem fits_shape (t : Ty) (h : knK t.k = true) : fitsB (actB t.k) (r2K t.k) (r3K t.k) (r4K t.k) (kidsK t.k) t = t.shape := by
  have hk : 1 ≤ t.k ∧ t.k ≤ 9 := by simpa [knK] using h
  have hcase : t.k = 1 ∨ t.k = 2 ∨ t.k = 3 ∨ t.k = 4 ∨ t.k = 5 ∨ t.k = 6 ∨ t.k = 7 ∨ t.k = 8 ∨ t.k = 9 := by omega
  unfold fitsB Ty.shape shapeC numB namB listsB
  rcases hcase with e | e | e | e | e | e | e | e | e <;> rw [e] <;> simp [actB, r2K, r3K, r4K, kidsK] <;> (try rw [Bool.eq_iff_iff]) <;> (try simp) <;> (try omega) <;> (try grind)
theorem shape_unknown (t : Ty) (h : knK t.k = false) : t.shape = false := by
  have h1 : ¬ (1 ≤ t.k ∧ t.k ≤ 9) := by simpa [knK] using h
  unfold Ty.shape shapeC
  rw [if_neg (by omega), if_neg (by omega), if_neg (by omega), if_neg (by omega), if_neg (by omega)]

end Go.Proofs.YtjmnaibbljakaaaGreatDoor

/- Processes as trees: a datatype for them, how they lie in memory, and that they go on lying so. -/
namespace Go.Proofs.YtjmnaibbljakaaaGreatDoor
open Go.RowKit

structure Vl where
  k : Int
  n : ByteArray
  x : Int
inductive Pr where
  | mk (k : Int) (c x : ByteArray) (ls : List ByteArray) (vs : List Vl) (t : Ty) (ps : List Pr)
instance : Inhabited Pr := ⟨.mk 0 ⟨#[]⟩ ⟨#[]⟩ [] [] default []⟩

namespace Pr
def k : Pr → Int | .mk k _ _ _ _ _ _ => k
def c : Pr → ByteArray | .mk _ c _ _ _ _ _ => c
def x : Pr → ByteArray | .mk _ _ x _ _ _ _ => x
def ls : Pr → List ByteArray | .mk _ _ _ ls _ _ _ => ls
def vs : Pr → List Vl | .mk _ _ _ _ vs _ _ => vs
def t : Pr → Ty | .mk _ _ _ _ _ t _ => t
def ps : Pr → List Pr | .mk _ _ _ _ _ _ ps => ps
end Pr

mutual
theorem Pr.ind {M : Pr → Prop} (h : ∀ k c x ls vs t ps, (∀ p ∈ ps, M p) → M (.mk k c x ls vs t ps)) : ∀ p, M p
  | .mk k c x ls vs t ps => h k c x ls vs t ps (Pr.inds h ps)
theorem Pr.inds {M : Pr → Prop} (h : ∀ k c x ls vs t ps, (∀ p ∈ ps, M p) → M (.mk k c x ls vs t ps)) : ∀ ps : List Pr, ∀ p ∈ ps, M p
  | [], _, hm => by cases hm
  | p :: r, u, hm => by
    rcases List.mem_cons.1 hm with e | hm
    · rw [e]; exact Pr.ind h p
    · exact Pr.inds h r u hm
end

/-! ### Measures -/
mutual
def Pr.size : Pr → Nat
  | .mk _ _ _ _ _ _ ps => Pr.sizes ps + 1
def Pr.sizes : List Pr → Nat
  | [] => 0
  | p :: r => p.size + Pr.sizes r
end
mutual
def Pr.depth : Pr → Nat
  | .mk _ _ _ _ _ _ ps => Pr.depths ps + 1
def Pr.depths : List Pr → Nat
  | [] => 0
  | p :: r => max p.depth (Pr.depths r)
end
theorem Pr.size_eq (p : Pr) : p.size = Pr.sizes p.ps + 1 := by cases p; simp [Pr.size, Pr.ps]
theorem Pr.depth_eq (p : Pr) : p.depth = Pr.depths p.ps + 1 := by cases p; simp [Pr.depth, Pr.ps]
theorem Pr.size_pos (p : Pr) : 1 ≤ p.size := by rw [Pr.size_eq]; omega
theorem Pr.depth_pos (p : Pr) : 1 ≤ p.depth := by rw [Pr.depth_eq]; omega
theorem Pr.sizes_append (l r : List Pr) : Pr.sizes (l ++ r) = Pr.sizes l + Pr.sizes r := by
  induction l with
  | nil => simp [Pr.sizes]
  | cons t l ih => simp only [List.cons_append, Pr.sizes, ih]; omega
theorem Pr.depths_append (l r : List Pr) : Pr.depths (l ++ r) = max (Pr.depths l) (Pr.depths r) := by
  induction l with
  | nil => simp [Pr.depths]
  | cons t l ih => simp only [List.cons_append, Pr.depths, ih]; omega
theorem Pr.sizes_take {l : List Pr} {i : Nat} {p : Pr} (h : l[i]? = some p) : Pr.sizes (l.take (i + 1)) = Pr.sizes (l.take i) + p.size := by
  rw [take_snoc_get h, Pr.sizes_append]; simp [Pr.sizes]
theorem Pr.depths_take {l : List Pr} {i : Nat} {p : Pr} (h : l[i]? = some p) : Pr.depths (l.take (i + 1)) = max (Pr.depths (l.take i)) p.depth := by
  rw [take_snoc_get h, Pr.depths_append]; simp [Pr.depths]
theorem Pr.sizes_take_le (l : List Pr) (i : Nat) : Pr.sizes (l.take i) ≤ Pr.sizes l := by
  have := Pr.sizes_append (l.take i) (l.drop i); rw [List.take_append_drop] at this; omega
theorem Pr.depths_take_le (l : List Pr) (i : Nat) : Pr.depths (l.take i) ≤ Pr.depths l := by
  have := Pr.depths_append (l.take i) (l.drop i); rw [List.take_append_drop] at this; omega
theorem Pr.depth_mem {l : List Pr} {p : Pr} (h : p ∈ l) : p.depth ≤ Pr.depths l := by
  induction l with
  | nil => cases h
  | cons u l ih =>
    simp only [Pr.depths]
    rcases List.mem_cons.1 h with rfl | h
    · omega
    · have := ih h; omega
theorem Pr.size_mem {l : List Pr} {p : Pr} (h : p ∈ l) : p.size ≤ Pr.sizes l := by
  induction l with
  | nil => cases h
  | cons u l ih =>
    simp only [Pr.sizes]
    rcases List.mem_cons.1 h with rfl | h
    · omega
    · have := ih h; omega
theorem Pr.length_sizes (l : List Pr) : l.length ≤ Pr.sizes l := by
  induction l with
  | nil => simp
  | cons u l ih => simp only [Pr.sizes, List.length_cons]; have := u.size_pos; omega
mutual
theorem Pr.depth_le_size : ∀ p : Pr, p.depth ≤ p.size
  | .mk k c x ls vs t ps => by have := Pr.depths_le_sizes ps; simp only [Pr.depth, Pr.size]; omega
theorem Pr.depths_le_sizes : ∀ ps : List Pr, Pr.depths ps ≤ Pr.sizes ps
  | [] => by simp [Pr.depths, Pr.sizes]
  | p :: r => by have := Pr.depth_le_size p; have := Pr.depths_le_sizes r; simp only [Pr.depths, Pr.sizes]; omega
end

/-! ### In memory -/
/-- A value that is a slice of values. -/
def VlRow (w : World) (b o : Nat) (vs : List Vl) : Prop := ∀ (j : Nat) (a : Vl), vs[j]? = some a → w.cell? ⟨b, o + j * 3, none⟩ = some (.int .i64 a.k) ∧ w.cell? ⟨b, o + j * 3 + 1, none⟩ = some (.string a.n) ∧ w.cell? ⟨b, o + j * 3 + 2, none⟩ = some (.int .i64 a.x)
def VlSl (B : Nat → Prop) (w : World) (v : Value) (vs : List Vl) : Prop :=
  (((∃ a c, v = .slice a 0 c) ∧ vs = []) ∨ ∃ b o c, v = .slice (some ⟨b, o, none⟩) vs.length c ∧ B b ∧ vs.length ≤ c ∧ VlRow w b o vs) ∧ vs.length ≤ maxLen ∧ ∀ a ∈ vs, a.n.size ≤ maxLen

mutual
/-- A process lies at cell o of block b. -/
def PrAt (B : Nat → Prop) (w : World) : Pr → Nat → Nat → Prop
  | .mk k c x ls vs t ps, b, o => B b ∧ (c.size ≤ maxLen ∧ x.size ≤ maxLen) ∧
      (w.cell? ⟨b, o, none⟩ = some (.int .i64 k) ∧ w.cell? ⟨b, o + 1, none⟩ = some (.string c) ∧ w.cell? ⟨b, o + 2, none⟩ = some (.string x)) ∧
      TyAt B w t b (o + 5) ∧
      ∃ lv av kv, w.cell? ⟨b, o + 3, none⟩ = some lv ∧ w.cell? ⟨b, o + 4, none⟩ = some av ∧ w.cell? ⟨b, o + 11, none⟩ = some kv ∧ StrSl B w lv ls ∧ VlSl B w av vs ∧
        (((∃ a c, kv = .slice a 0 c) ∧ ps = []) ∨ ∃ kb ko c, kv = .slice (some ⟨kb, ko, none⟩) ps.length c ∧ B kb ∧ PrsAt B w ps kb ko) ∧ ps.length ≤ maxLen
/-- Processes lie one behind the other from cell o of block b on. -/
def PrsAt (B : Nat → Prop) (w : World) : List Pr → Nat → Nat → Prop
  | [], _, _ => True
  | p :: r, b, o => PrAt B w p b o ∧ PrsAt B w r b (o + 12)
end
/-- A value that is a slice of processes. -/
def PrSl (B : Nat → Prop) (w : World) (kv : Value) (ps : List Pr) : Prop :=
  (((∃ a c, kv = .slice a 0 c) ∧ ps = []) ∨ ∃ kb ko c, kv = .slice (some ⟨kb, ko, none⟩) ps.length c ∧ B kb ∧ PrsAt B w ps kb ko) ∧ ps.length ≤ maxLen
/-- The twelve cells of a process. -/
abbrev prAgg (p : Pr) (lv av tl tk kv : Value) : Value := .agg #[.int .i64 p.k, .string p.c, .string p.x, lv, av, .int .i64 p.t.k, .int .i64 p.t.p, .string p.t.n, .int .i64 p.t.s, tl, tk, kv]
/-- A value that is a process. -/
def PrVal (B : Nat → Prop) (w : World) (v : Value) (p : Pr) : Prop :=
  ∃ lv av tl tk kv, v = prAgg p lv av tl tk kv ∧ (p.c.size ≤ maxLen ∧ p.x.size ≤ maxLen) ∧ StrSl B w lv p.ls ∧ VlSl B w av p.vs ∧ TyVal B w (.agg #[.int .i64 p.t.k, .int .i64 p.t.p, .string p.t.n, .int .i64 p.t.s, tl, tk]) p.t ∧ PrSl B w kv p.ps

theorem PrAt.eq {B : Nat → Prop} {w : World} {p : Pr} {b o : Nat} : PrAt B w p b o ↔ B b ∧ (p.c.size ≤ maxLen ∧ p.x.size ≤ maxLen) ∧
      (w.cell? ⟨b, o, none⟩ = some (.int .i64 p.k) ∧ w.cell? ⟨b, o + 1, none⟩ = some (.string p.c) ∧ w.cell? ⟨b, o + 2, none⟩ = some (.string p.x)) ∧
      TyAt B w p.t b (o + 5) ∧
      ∃ lv av kv, w.cell? ⟨b, o + 3, none⟩ = some lv ∧ w.cell? ⟨b, o + 4, none⟩ = some av ∧ w.cell? ⟨b, o + 11, none⟩ = some kv ∧ StrSl B w lv p.ls ∧ VlSl B w av p.vs ∧ PrSl B w kv p.ps := by
  cases p; simp only [PrAt, PrSl, Pr.k, Pr.c, Pr.x, Pr.t, Pr.ls, Pr.vs, Pr.ps]

theorem VlSl.keep {B : Nat → Prop} {w w' : World} (h : Keeps B w w') {v : Value} {vs : List Vl} (hv : VlSl B w v vs) : VlSl B w' v vs := by
  refine ⟨?_, hv.2⟩
  rcases hv.1 with h1 | ⟨b, o, c, h1, h2, hc, h3⟩
  · exact .inl h1
  · exact .inr ⟨b, o, c, h1, h2, hc, fun j a hj => ⟨h.cell h2 (h3 j a hj).1, h.cell h2 (h3 j a hj).2.1, h.cell h2 (h3 j a hj).2.2⟩⟩
theorem VlSl.mono {B C : Nat → Prop} {w : World} (h : ∀ k, B k → C k) {v : Value} {vs : List Vl} (hv : VlSl B w v vs) : VlSl C w v vs := by
  refine ⟨?_, hv.2⟩
  rcases hv.1 with h1 | ⟨b, o, c, h1, h2, hc, h3⟩
  · exact .inl h1
  · exact .inr ⟨b, o, c, h1, h _ h2, hc, h3⟩
mutual
theorem PrAt.keep {B : Nat → Prop} {w w' : World} (h : Keeps B w w') : ∀ (p : Pr) (b o : Nat), PrAt B w p b o → PrAt B w' p b o
  | .mk k c x ls vs t ps, b, o, hp => by
    simp only [PrAt] at hp ⊢
    obtain ⟨hb, hn, ⟨c0, c1, c2⟩, ht, lv, av, kv, c3, c4, c11, hl, ha, hk, hm⟩ := hp
    refine ⟨hb, hn, ⟨h.cell hb c0, h.cell hb c1, h.cell hb c2⟩, ht.keep h, lv, av, kv, h.cell hb c3, h.cell hb c4, h.cell hb c11, hl.keep h, ha.keep h, ?_, hm⟩
    rcases hk with h1 | ⟨kb, ko, c, h1, h2, h3⟩
    · exact .inl h1
    · exact .inr ⟨kb, ko, c, h1, h2, PrsAt.keep h ps kb ko h3⟩
theorem PrsAt.keep {B : Nat → Prop} {w w' : World} (h : Keeps B w w') : ∀ (ps : List Pr) (b o : Nat), PrsAt B w ps b o → PrsAt B w' ps b o
  | [], _, _, _ => by simp [PrsAt]
  | p :: r, b, o, hp => by
    simp only [PrsAt] at hp ⊢
    exact ⟨PrAt.keep h p b o hp.1, PrsAt.keep h r b (o + 12) hp.2⟩
end
theorem PrSl.keep {B : Nat → Prop} {w w' : World} (h : Keeps B w w') {v : Value} {ps : List Pr} (hv : PrSl B w v ps) : PrSl B w' v ps := by
  refine ⟨?_, hv.2⟩
  rcases hv.1 with h1 | ⟨b, o, c, h1, h2, h3⟩
  · exact .inl h1
  · exact .inr ⟨b, o, c, h1, h2, PrsAt.keep h _ _ _ h3⟩
theorem PrVal.keep {B : Nat → Prop} {w w' : World} (h : Keeps B w w') {v : Value} {p : Pr} (hv : PrVal B w v p) : PrVal B w' v p := by
  obtain ⟨lv, av, tl, tk, kv, e, hn, hl, ha, ht, hk⟩ := hv
  exact ⟨lv, av, tl, tk, kv, e, hn, hl.keep h, ha.keep h, ht.keep h, hk.keep h⟩
mutual
theorem PrAt.mono {B C : Nat → Prop} {w : World} (h : ∀ k, B k → C k) : ∀ (p : Pr) (b o : Nat), PrAt B w p b o → PrAt C w p b o
  | .mk k c x ls vs t ps, b, o, hp => by
    simp only [PrAt] at hp ⊢
    obtain ⟨hb, hn, hc, ht, lv, av, kv, c3, c4, c11, hl, ha, hk, hm⟩ := hp
    refine ⟨h _ hb, hn, hc, ht.mono h, lv, av, kv, c3, c4, c11, hl.mono h, ha.mono h, ?_, hm⟩
    rcases hk with h1 | ⟨kb, ko, c, h1, h2, h3⟩
    · exact .inl h1
    · exact .inr ⟨kb, ko, c, h1, h _ h2, PrsAt.mono h ps kb ko h3⟩
theorem PrsAt.mono {B C : Nat → Prop} {w : World} (h : ∀ k, B k → C k) : ∀ (ps : List Pr) (b o : Nat), PrsAt B w ps b o → PrsAt C w ps b o
  | [], _, _, _ => by simp [PrsAt]
  | p :: r, b, o, hp => by
    simp only [PrsAt] at hp ⊢
    exact ⟨PrAt.mono h p b o hp.1, PrsAt.mono h r b (o + 12) hp.2⟩
end
theorem PrSl.mono {B C : Nat → Prop} {w : World} (h : ∀ k, B k → C k) {v : Value} {ps : List Pr} (hv : PrSl B w v ps) : PrSl C w v ps := by
  refine ⟨?_, hv.2⟩
  rcases hv.1 with h1 | ⟨b, o, c, h1, h2, h3⟩
  · exact .inl h1
  · exact .inr ⟨b, o, c, h1, h _ h2, PrsAt.mono h _ _ _ h3⟩
theorem PrVal.mono {B C : Nat → Prop} {w : World} (h : ∀ k, B k → C k) {v : Value} {p : Pr} (hv : PrVal B w v p) : PrVal C w v p := by
  obtain ⟨lv, av, tl, tk, kv, e, hn, hl, ha, ht, hk⟩ := hv
  exact ⟨lv, av, tl, tk, kv, e, hn, hl.mono h, ha.mono h, ht.mono h, hk.mono h⟩
theorem PrVal.to {B : Nat → Prop} {C : Nat} {w w' : World} (hBC : ∀ k, B k → k < C) (hb : Below C w w') {v : Value} {p : Pr} (hv : PrVal B w v p) : PrVal B w' v p := hv.keep (hb.keeps'.mono hBC)

theorem PrsAt.get {B : Nat → Prop} {w : World} : ∀ {ps : List Pr} {b o : Nat}, PrsAt B w ps b o → ∀ {i : Nat} {p : Pr}, ps[i]? = some p → PrAt B w p b (o + i * 12)
  | [], _, _, _, i, p, hi => by simp at hi
  | u :: r, b, o, h, i, p, hi => by
    simp only [PrsAt] at h
    cases i with
    | zero => simp at hi; subst hi; simpa using h.1
    | succ i =>
      have := PrsAt.get h.2 (i := i) (p := p) (by simpa using hi)
      rw [show o + (i + 1) * 12 = o + 12 + i * 12 by omega]; exact this
theorem prsAt_of {B : Nat → Prop} {w : World} : ∀ {ps : List Pr} {b o : Nat}, (∀ i p, ps[i]? = some p → PrAt B w p b (o + i * 12)) → PrsAt B w ps b o
  | [], _, _, _ => by simp [PrsAt]
  | p :: r, b, o, h => by
    simp only [PrsAt]
    refine ⟨by simpa using h 0 p rfl, prsAt_of (fun i u hi => ?_)⟩
    have := h (i + 1) u (by simpa using hi)
    rw [show o + 12 + i * 12 = o + (i + 1) * 12 by omega]; exact this
theorem PrSl.open {B : Nat → Prop} {w : World} {kv : Value} {ps : List Pr} (h : PrSl B w kv ps) :
    ∃ pa len c, kv = .slice pa len c ∧ Hid (len = ps.length) ∧ len ≤ 9223372036854775807 ∧ ∀ i p, ps[i]? = some p → ∃ kb ko, pa = some ⟨kb, ko, none⟩ ∧ B kb ∧ PrAt B w p kb (ko + i * 12) := by
  obtain ⟨h, hm⟩ := h
  unfold maxLen at hm
  rcases h with ⟨⟨a, c, rfl⟩, rfl⟩ | ⟨kb, ko, c, rfl, hkb, hrow⟩
  · exact ⟨a, 0, c, rfl, Lib.hid rfl, by omega, fun i t hi => by simp at hi⟩
  · exact ⟨_, _, _, rfl, Lib.hid rfl, by omega, fun i t hi => ⟨kb, ko, rfl, hkb, hrow.get hi⟩⟩
theorem VlSl.open {B : Nat → Prop} {w : World} {v : Value} {vs : List Vl} (h : VlSl B w v vs) :
    ∃ pa len c, v = .slice pa len c ∧ Hid (len = vs.length) ∧ len ≤ 9223372036854775807 ∧ ∀ i a, vs[i]? = some a → a.n.size ≤ maxLen ∧ ∃ kb ko, pa = some ⟨kb, ko, none⟩ ∧ B kb ∧ w.cell? ⟨kb, ko + i * 3, none⟩ = some (.int .i64 a.k) ∧ w.cell? ⟨kb, ko + i * 3 + 1, none⟩ = some (.string a.n) ∧ w.cell? ⟨kb, ko + i * 3 + 2, none⟩ = some (.int .i64 a.x) := by
  obtain ⟨h, hm, hz⟩ := h
  unfold maxLen at hm
  rcases h with ⟨⟨a, c, rfl⟩, rfl⟩ | ⟨b, o, c, rfl, hb, _, hrow⟩
  · exact ⟨a, 0, c, rfl, Lib.hid rfl, by omega, fun i t hi => by simp at hi⟩
  · exact ⟨_, _, _, rfl, Lib.hid rfl, by omega, fun i a hi => ⟨hz _ (List.mem_of_getElem? hi), b, o, rfl, hb, hrow i a hi⟩⟩
/-- The cells of a process, all slices written out, and the value that is loaded. -/
theorem PrAt.load' {B : Nat → Prop} {w : World} {p : Pr} {b o : Nat} (h : PrAt B w p b o) :
    ∃ (la : Option Addr) (ln lc : Nat) (aa : Option Addr) (an ac : Nat) (ta : Option Addr) (tn tc : Nat) (ua : Option Addr) (un uc : Nat) (ka : Option Addr) (kn kc : Nat),
      (w.cell? ⟨b, o, none⟩ = some (.int .i64 p.k) ∧ w.cell? ⟨b, o + 1, none⟩ = some (.string p.c) ∧ w.cell? ⟨b, o + 2, none⟩ = some (.string p.x) ∧ w.cell? ⟨b, o + 3, none⟩ = some (.slice la ln lc) ∧ w.cell? ⟨b, o + 4, none⟩ = some (.slice aa an ac) ∧
       w.cell? ⟨b, o + 5, none⟩ = some (.int .i64 p.t.k) ∧ w.cell? ⟨b, o + 6, none⟩ = some (.int .i64 p.t.p) ∧ w.cell? ⟨b, o + 7, none⟩ = some (.string p.t.n) ∧ w.cell? ⟨b, o + 8, none⟩ = some (.int .i64 p.t.s) ∧
       w.cell? ⟨b, o + 9, none⟩ = some (.slice ta tn tc) ∧ w.cell? ⟨b, o + 10, none⟩ = some (.slice ua un uc) ∧ w.cell? ⟨b, o + 11, none⟩ = some (.slice ka kn kc)) ∧
      PrVal B w (prAgg p (.slice la ln lc) (.slice aa an ac) (.slice ta tn tc) (.slice ua un uc) (.slice ka kn kc)) p := by
  obtain ⟨hb, hn, ⟨c0, c1, c2⟩, ht, lv, av, kv, c3, c4, c11, hl, ha, hk⟩ := PrAt.eq.1 h
  obtain ⟨ta, tn, tc, ua, un, uc, ⟨d0, d1, d2, d3, d4, d5⟩, htv⟩ := ht.load'
  obtain ⟨la, ln, lc, rfl, _⟩ := hl.open
  obtain ⟨aa, an, ac, rfl, _⟩ := ha.open
  obtain ⟨ka, kn, kc, rfl, _⟩ := hk.open
  exact ⟨la, ln, lc, aa, an, ac, ta, tn, tc, ua, un, uc, ka, kn, kc, ⟨c0, c1, c2, c3, c4, d0, d1, d2, d3, d4, d5, c11⟩, _, _, _, _, _, rfl, hn, hl, ha, htv, hk⟩
/-- A process from its cells. -/
theorem prAt_of {B : Nat → Prop} {w : World} {p : Pr} {b o : Nat} {lv av tl tk kv : Value} (hb : B b)
    (c0 : w.cell? ⟨b, o, none⟩ = some (.int .i64 p.k)) (c1 : w.cell? ⟨b, o + 1, none⟩ = some (.string p.c)) (c2 : w.cell? ⟨b, o + 2, none⟩ = some (.string p.x)) (c3 : w.cell? ⟨b, o + 3, none⟩ = some lv) (c4 : w.cell? ⟨b, o + 4, none⟩ = some av)
    (c5 : w.cell? ⟨b, o + 5, none⟩ = some (.int .i64 p.t.k)) (c6 : w.cell? ⟨b, o + 6, none⟩ = some (.int .i64 p.t.p)) (c7 : w.cell? ⟨b, o + 7, none⟩ = some (.string p.t.n)) (c8 : w.cell? ⟨b, o + 8, none⟩ = some (.int .i64 p.t.s))
    (c9 : w.cell? ⟨b, o + 9, none⟩ = some tl) (c10 : w.cell? ⟨b, o + 10, none⟩ = some tk) (c11 : w.cell? ⟨b, o + 11, none⟩ = some kv) (hv : PrVal B w (prAgg p lv av tl tk kv) p) : PrAt B w p b o := by
  obtain ⟨lv', av', tl', tk', kv', e, hn, hl, ha, ht, hk⟩ := hv
  simp only [prAgg, Value.agg.injEq, Array.mk.injEq, List.cons.injEq, and_true, true_and] at e
  obtain ⟨rfl, rfl, rfl, rfl, rfl⟩ := e
  exact PrAt.eq.2 ⟨hb, hn, ⟨c0, c1, c2⟩, tyAt_of hb c5 c6 c7 c8 c9 c10 ht, _, _, _, c3, c4, c11, hl, ha, hk⟩

end Go.Proofs.YtjmnaibbljakaaaGreatDoor

/- Processes: the iterator over the nodes. -/
namespace Go.Proofs.YtjmnaibbljakaaaGreatDoor
open Go.RowKit Go.Deep Go.Shelf
attribute [local go_sem] Oper.semAt_some

/-- What a round is handed: the depth, the node. -/
structure Np where
  d : Nat
  b : Nat
  o : Nat
  p : Pr
abbrev npArgs (x : Np) : Array Value := #[.int .i64 x.d, .pointer (some ⟨x.b, x.o, none⟩)]
def Np.g (x : Np) : Nat × Pr := (x.d, x.p)
mutual
/-- All nodes, each before its Kids, with its depth. -/
def preP (d : Nat) : Pr → List (Nat × Pr)
  | .mk k c x ls vs t ps => (d, .mk k c x ls vs t ps) :: prePs (d + 1) ps
def prePs (d : Nat) : List Pr → List (Nat × Pr)
  | [] => []
  | p :: r => preP d p ++ prePs d r
end
theorem preP_eq (d : Nat) (p : Pr) : preP d p = (d, p) :: prePs (d + 1) p.ps := by cases p; simp [preP, Pr.ps]
theorem prePs_append (d : Nat) : ∀ (l r : List Pr), prePs d (l ++ r) = prePs d l ++ prePs d r
  | [], r => by simp [prePs]
  | p :: l, r => by simp only [List.cons_append, prePs, prePs_append d l r, List.append_assoc]
theorem prePs_take {d : Nat} {l : List Pr} {j : Nat} {p : Pr} (h : l[j]? = some p) : prePs d (l.take (j + 1)) = prePs d (l.take j) ++ preP d p := by
  rw [take_snoc_get h, prePs_append]
  simp [prePs]
theorem prePs_prefix (d : Nat) (l : List Pr) (j : Nat) : prePs d (l.take j) <+: prePs d l := by
  conv => rhs; rw [← List.take_append_drop j l, prePs_append]
  exact List.prefix_append _ _

/-- What holds in memory at a round. -/
def Pp (S : Nat → Prop) (G : Pr → Prop) (x : Np) (W : World) : Prop := PrAt S W x.p x.b x.o ∧ (1 ≤ x.d ∧ x.d ≤ 100000) ∧ G x.p
theorem Pp.kept {S : Nat → Prop} {G : Pr → Prop} {x : Np} {W W' : World} (h : CellsKept W W') (hp : Pp S G x W) : Pp S G x W' := ⟨hp.1.keep (h.keeps S), hp.2⟩
/-- What is returned by visit. -/
def PisPost (X : Nat → Prop) (J Jx : List Np → World → Prop) (pre : List Np) (d : Nat) (p : Pr) (W : World) (e : Ending) (W' : World) : Prop :=
  (e = .returned (.bool true) ∧ (∃ ys, ys.map Np.g = preP d p ∧ J (pre ++ ys) W') ∧ Kp X W W') ∨
  (e = .returned (.bool false) ∧ ∃ ys, ys.map Np.g <+: preP d p ∧ Jx (pre ++ ys) W')

end Go.Proofs.YtjmnaibbljakaaaGreatDoor

/- Processes: Size, Depth, tooLarge. -/
namespace Go.Proofs.YtjmnaibbljakaaaGreatDoor
open Go.RowKit Go.Deep Go.Shelf
attribute [local go_sem] Oper.semAt_some

theorem preP_length : ∀ (p : Pr) (d : Nat), (preP d p).length = p.size := by
  refine Pr.ind ?_
  intro k c x ls vs t ps ih d
  have h : ∀ (l : List Pr) (d : Nat), (∀ p ∈ l, ∀ d, (preP d p).length = p.size) → (prePs d l).length = Pr.sizes l := by
    intro l
    induction l with
    | nil => intro _ _; simp [prePs, Pr.sizes]
    | cons u r ihl =>
      intro d hh
      rw [prePs, List.length_append, Pr.sizes, hh u (by simp), ihl d (fun t ht => hh t (by simp [ht]))]
  rw [preP_eq, Pr.size_eq, List.length_cons]
  show (prePs (d + 1) ps).length + 1 = Pr.sizes ps + 1
  rw [h _ _ ih]
/-- The greatest depth of the nodes that have come. -/
def mdP (l : List (Nat × Pr)) : Nat := l.foldl (fun m x => max m x.1) 0
theorem mdP_snoc (l : List (Nat × Pr)) (x : Nat × Pr) : mdP (l ++ [x]) = max (mdP l) x.1 := by simp [mdP]
theorem foldl_maxP (l : List (Nat × Pr)) : ∀ m : Nat, l.foldl (fun m x => max m x.1) m = max m (mdP l) := by
  induction l with
  | nil => intro m; simp [mdP]
  | cons x l ih => intro m; simp only [mdP, List.foldl_cons]; rw [ih, ih (max 0 _)]; omega
theorem mdP_append (l r : List (Nat × Pr)) : mdP (l ++ r) = max (mdP l) (mdP r) := by
  unfold mdP; rw [List.foldl_append, foldl_maxP]; rfl
theorem mdP_le_of_prefix {l r : List (Nat × Pr)} (h : l <+: r) : mdP l ≤ mdP r := by
  obtain ⟨s, rfl⟩ := h
  rw [mdP_append]; omega
theorem mdP_preP : ∀ (p : Pr) (d : Nat), mdP (preP (d + 1) p) = d + p.depth := by
  refine Pr.ind ?_
  intro k c x ls vs t ps ih d
  have h : ∀ (l : List Pr) (d : Nat), (∀ p ∈ l, ∀ d, mdP (preP (d + 1) p) = d + p.depth) → max d (mdP (prePs (d + 1) l)) = d + Pr.depths l := by
    intro l
    induction l with
    | nil => intro d _; simp [prePs, mdP, Pr.depths]
    | cons u r ihl =>
      intro d hh
      have h1 := hh u (by simp) d
      have h2 := ihl d (fun t ht => hh t (by simp [ht]))
      have h3 := u.depth_pos
      rw [prePs, mdP_append, Pr.depths]; omega
  have h1 := h ps (d + 1) ih
  rw [preP_eq, Pr.depth_eq]
  show mdP ([_] ++ _) = _
  rw [mdP_append]
  have h2 : mdP [(d + 1, Pr.mk k c x ls vs t ps)] = d + 1 := by simp [mdP]
  rw [h2]
  show max (d + 1) (mdP (prePs (d + 1 + 1) ps)) = _
  simp only [Pr.ps]
  omega
theorem w64_succP (x : Np) (pre : List Np) : wrap64 (wrap64 ((pre.length : Nat) : Int) + 1) = wrap64 (((pre ++ [x]).length : Nat) : Int) := by
  rw [List.length_append]; simp only [List.length_cons, List.length_nil]; unfold wrap64; omega

end Go.Proofs.YtjmnaibbljakaaaGreatDoor

/- Processes: Depth, tooLarge. -/
namespace Go.Proofs.YtjmnaibbljakaaaGreatDoor
open Go.RowKit Go.Deep Go.Shelf
attribute [local go_sem] Oper.semAt_some

/-- Is a process too large? -/
def Pr.large (p : Pr) : Bool := decide (10000 < p.size ∨ 100 < p.depth)

end Go.Proofs.YtjmnaibbljakaaaGreatDoor

/- Processes: slices.Clone at the three kinds of lists. -/
namespace Go.Proofs.YtjmnaibbljakaaaGreatDoor
open Go.RowKit Go.Deep

theorem list_of {α : Type} (Q : Nat → α → Prop) : ∀ n : Nat, (∀ i, i < n → ∃ x, Q i x) → ∃ ls : List α, ls.length = n ∧ ∀ i x, ls[i]? = some x → Q i x
  | 0, _ => ⟨[], rfl, fun i x h => by simp at h⟩
  | n + 1, h => by
    obtain ⟨ls, hl, hq⟩ := list_of Q n (fun i hi => h i (by omega))
    obtain ⟨x, hx⟩ := h n (by omega)
    refine ⟨ls ++ [x], by simp [hl], fun i y hy => ?_⟩
    by_cases hi : i < ls.length
    · rw [List.getElem?_append_left hi] at hy; exact hq i y hy
    · rw [List.getElem?_append_right (by omega)] at hy
      rcases Nat.eq_zero_or_pos (i - ls.length) with h0 | h0
      · rw [h0] at hy
        simp at hy
        subst hy
        have : i = n := by omega
        subst this
        exact hx
      · rw [List.getElem?_eq_none (by simp; omega)] at hy; cases hy

theorem strInfoC : (Tryz.prog.info? 9).map (fun i => (i.zero, i.size, i.bytes)) = some (some (.string ⟨#[]⟩), 1, 16) := by kernel_rfl
/-- A row that is a copy of the cells at an address. -/
def Cloned (w : World) (e : TypeId) (size : Nat) (n : Nat) (news : List Value) (en : Ending) (w' : World) : Prop :=
  ∃ g cap, en = .returned (.slice (some ⟨g, 0, none⟩) n cap) ∧ n ≤ cap ∧ w'.ownsRow w.heap.size e size (.slice (some ⟨g, 0, none⟩) n cap) n news ∧ w.heap.size ≤ g ∧ g < w'.heap.size ∧ Below w.heap.size w w'

/-! ### What the copies are -/
theorem addr_add0 (b o j : Nat) : (⟨b, o, none⟩ : Addr).add j = ⟨b, o + j, none⟩ := by
  unfold Addr.add
  by_cases h : j = 0
  · subst h; simp
  · simp [h]
/-- A list of values in new memory is returned. -/
def VlRet (w : World) (vs : List Vl) (e : Ending) (w' : World) : Prop :=
  ∃ la ln lc, e = .returned (.slice la ln lc) ∧ VlSl (Fresh w.heap.size w'.heap.size) w' (.slice la ln lc) vs ∧ Below w.heap.size w w'
/-- The cells of a row, of n elements of size s each. -/
theorem news_of {w : World} {b o n s : Nat} (h : ∀ i, i < n → ∀ r, r < s → ∃ v, w.cell? ⟨b, o + i * s + r, none⟩ = some v ∧ v.oneCell' = true) (hs : 0 < s) :
    ∃ news : List Value, news.length = n * s ∧ (∀ j u, news[j]? = some u → w.cell? ((⟨b, o, none⟩ : Addr).add j) = some u) ∧ ∀ u ∈ news, u.oneCell' = true := by
  obtain ⟨news, hl, hn⟩ := list_of (fun j v => w.cell? ⟨b, o + j, none⟩ = some v ∧ v.oneCell' = true) (n * s) (fun j hj => by
    have h1 : j / s < n := Nat.div_lt_of_lt_mul (by rw [Nat.mul_comm]; exact hj)
    obtain ⟨v, h2, h3⟩ := h (j / s) h1 (j % s) (Nat.mod_lt _ hs)
    refine ⟨v, ?_, h3⟩
    have e : o + j / s * s + j % s = o + j := by have := Nat.div_add_mod j s; rw [Nat.mul_comm] at this; omega
    rw [e] at h2; exact h2)
  refine ⟨news, hl, fun j u hj => by rw [addr_add0]; exact (hn j u hj).1, fun u hu => ?_⟩
  obtain ⟨i, hi⟩ := List.mem_iff_getElem?.1 hu
  exact (hn i u hi).2
/-- A cell of the copy is the cell that was copied. -/
theorem cloned_cell {w w' : World} {e : TypeId} {b o n s g cap base : Nat} {news : List Value} (hl : news.length = n * s) (hn : ∀ j u, news[j]? = some u → w.cell? ((⟨b, o, none⟩ : Addr).add j) = some u) (h : w'.ownsRow base e s (.slice (some ⟨g, 0, none⟩) n cap) n news) {j : Nat} (hj : j < n * s) {v : Value} (hv : w.cell? ⟨b, o + j, none⟩ = some v) :
    w'.cell? ⟨g, j, none⟩ = some v := by
  rw [h.cellAt j hj]
  obtain ⟨u, hu⟩ : ∃ u, news[j]? = some u := ⟨_, List.getElem?_eq_getElem (by omega)⟩
  have := hn j u hu
  rw [addr_add0, hv] at this
  rw [hu, ← this]

end Go.Proofs.YtjmnaibbljakaaaGreatDoor

/- Graphs: the library's maps.Clone and TrailingZeros64 at this program; how references and nodes lie in memory. -/
namespace Go.Proofs.YtjmnaibbljakaaaGreatDoor
open Go.Shelf
end Go.Proofs.YtjmnaibbljakaaaGreatDoor

namespace Go.Proofs.YtjmnaibbljakaaaGreatDoor
open Go.RowKit Go.Deep Go.Shelf

/-! ### References -/
abbrev refCells (r : GRef) : List Value := [.int .i64 r.n, .int .i64 r.s]
/-- References lie from cell o of block b on. -/
def RefRow (w : World) (b o : Nat) (rs : List GRef) : Prop := ∀ (j : Nat) (r : GRef), rs[j]? = some r → w.cell? ⟨b, o + j * 2, none⟩ = some (.int .i64 r.n) ∧ w.cell? ⟨b, o + j * 2 + 1, none⟩ = some (.int .i64 r.s)
def RefSl (B : Nat → Prop) (w : World) (v : Value) (rs : List GRef) : Prop :=
  (((∃ a c, v = .slice a 0 c) ∧ rs = []) ∨ ∃ b o c, v = .slice (some ⟨b, o, none⟩) rs.length c ∧ B b ∧ RefRow w b o rs) ∧ rs.length ≤ maxLen
theorem RefSl.keep {B : Nat → Prop} {w w' : World} (h : Keeps B w w') {v : Value} {rs : List GRef} (hv : RefSl B w v rs) : RefSl B w' v rs := by
  refine ⟨?_, hv.2⟩
  rcases hv.1 with h1 | ⟨b, o, c, h1, h2, h3⟩
  · exact .inl h1
  · exact .inr ⟨b, o, c, h1, h2, fun j r hj => ⟨h.cell h2 (h3 j r hj).1, h.cell h2 (h3 j r hj).2⟩⟩
theorem RefSl.mono {B C : Nat → Prop} {w : World} (h : ∀ k, B k → C k) {v : Value} {rs : List GRef} (hv : RefSl B w v rs) : RefSl C w v rs := by
  refine ⟨?_, hv.2⟩
  rcases hv.1 with h1 | ⟨b, o, c, h1, h2, h3⟩
  · exact .inl h1
  · exact .inr ⟨b, o, c, h1, h _ h2, h3⟩
theorem RefSl.open {B : Nat → Prop} {w : World} {v : Value} {rs : List GRef} (h : RefSl B w v rs) :
    ∃ pa len c, v = .slice pa len c ∧ Hid (len = rs.length) ∧ len ≤ 9223372036854775807 ∧ ∀ i r, rs[i]? = some r → ∃ kb ko, pa = some ⟨kb, ko, none⟩ ∧ B kb ∧ w.cell? ⟨kb, ko + i * 2, none⟩ = some (.int .i64 r.n) ∧ w.cell? ⟨kb, ko + i * 2 + 1, none⟩ = some (.int .i64 r.s) := by
  obtain ⟨h, hm⟩ := h
  unfold maxLen at hm
  rcases h with ⟨⟨a, c, rfl⟩, rfl⟩ | ⟨kb, ko, c, rfl, hkb, hrow⟩
  · exact ⟨a, 0, c, rfl, Lib.hid rfl, by omega, fun i t hi => by simp at hi⟩
  · exact ⟨_, _, _, rfl, Lib.hid rfl, by omega, fun i t hi => ⟨kb, ko, rfl, hkb, hrow i t hi⟩⟩

/-! ### Nodes -/
def NodeAtG (B : Nat → Prop) (w : World) (n : GNode) (b o : Nat) : Prop :=
  w.cell? ⟨b, o, none⟩ = some (.int .i64 n.k) ∧ w.cell? ⟨b, o + 1, none⟩ = some (.int .i64 n.p) ∧ ∃ lv nv, w.cell? ⟨b, o + 2, none⟩ = some lv ∧ w.cell? ⟨b, o + 3, none⟩ = some nv ∧ StrSl B w lv n.ls ∧ RefSl B w nv n.nx
def NodeSl (B : Nat → Prop) (w : World) (v : Value) (ns : List GNode) : Prop :=
  (((∃ a c, v = .slice a 0 c) ∧ ns = []) ∨ ∃ b o c, v = .slice (some ⟨b, o, none⟩) ns.length c ∧ B b ∧ ∀ (j : Nat) (n : GNode), ns[j]? = some n → NodeAtG B w n b (o + j * 4)) ∧ ns.length ≤ maxLen
theorem NodeAtG.keep {B : Nat → Prop} {w w' : World} (h : Keeps B w w') {n : GNode} {b o : Nat} (hb : B b) (hv : NodeAtG B w n b o) : NodeAtG B w' n b o := by
  obtain ⟨h1, h2, lv, nv, h3, h4, h5, h6⟩ := hv
  exact ⟨h.cell hb h1, h.cell hb h2, lv, nv, h.cell hb h3, h.cell hb h4, h5.keep h, h6.keep h⟩
theorem NodeSl.keep {B : Nat → Prop} {w w' : World} (h : Keeps B w w') {v : Value} {ns : List GNode} (hv : NodeSl B w v ns) : NodeSl B w' v ns := by
  refine ⟨?_, hv.2⟩
  rcases hv.1 with h1 | ⟨b, o, c, h1, h2, h3⟩
  · exact .inl h1
  · exact .inr ⟨b, o, c, h1, h2, fun j n hj => (h3 j n hj).keep h h2⟩
theorem NodeSl.mono {B C : Nat → Prop} {w : World} (h : ∀ k, B k → C k) {v : Value} {ns : List GNode} (hv : NodeSl B w v ns) : NodeSl C w v ns := by
  refine ⟨?_, hv.2⟩
  rcases hv.1 with h1 | ⟨b, o, c, h1, h2, h3⟩
  · exact .inl h1
  · refine .inr ⟨b, o, c, h1, h _ h2, fun j n hj => ?_⟩
    obtain ⟨h1, h2, lv, nv, h3, h4, h5, h6⟩ := h3 j n hj
    exact ⟨h1, h2, lv, nv, h3, h4, h5.mono h, h6.mono h⟩
theorem NodeSl.open {B : Nat → Prop} {w : World} {v : Value} {ns : List GNode} (h : NodeSl B w v ns) :
    ∃ pa len c, v = .slice pa len c ∧ Hid (len = ns.length) ∧ len ≤ 9223372036854775807 ∧ ∀ i n, ns[i]? = some n → ∃ kb ko, pa = some ⟨kb, ko, none⟩ ∧ B kb ∧ NodeAtG B w n kb (ko + i * 4) := by
  obtain ⟨h, hm⟩ := h
  unfold maxLen at hm
  rcases h with ⟨⟨a, c, rfl⟩, rfl⟩ | ⟨kb, ko, c, rfl, hkb, hrow⟩
  · exact ⟨a, 0, c, rfl, Lib.hid rfl, by omega, fun i t hi => by simp at hi⟩
  · exact ⟨_, _, _, rfl, Lib.hid rfl, by omega, fun i t hi => ⟨kb, ko, rfl, hkb, hrow i t hi⟩⟩

/-! ### The element types -/
theorem nodeElem : ElemOf 30 61 4 := elemOf Tryz.underlying30 (z := .agg #[.int .i64 0, .int .i64 0, .slice none 0 0, .slice none 0 0]) (bytes := 64) (by kernel_rfl) (by decide) rfl (by decide)
theorem refElem : ElemOf 33 37 2 := elemOf Tryz.underlying33 (z := .agg #[.int .i64 0, .int .i64 0]) (bytes := 16) (by kernel_rfl) (by decide) rfl (by decide)
theorem rnodeElem : ElemOf 54 59 4 := elemOf Tryz.underlying54 (z := .agg #[.int .i64 0, .int .i64 0, .slice none 0 0, .slice none 0 0]) (bytes := 64) (by kernel_rfl) (by decide) rfl (by decide)
theorem rrefElem : ElemOf 55 62 2 := elemOf Tryz.underlying55 (z := .agg #[.int .i64 0, .int .i64 0]) (bytes := 16) (by kernel_rfl) (by decide) rfl (by decide)
theorem strElem : ElemOf 22 9 1 := elemOf Tryz.underlying22 (z := .string ⟨#[]⟩) (bytes := 16) (by kernel_rfl) (by decide) rfl (by decide)
theorem intElem : ElemOf 46 3 1 := elemOf Tryz.underlying46 (z := .int .i64 0) (bytes := 8) (by kernel_rfl) (by decide) rfl (by decide)

/-- A row of references is a slice of references. -/
theorem GRow.refs {el : TypeId} {base : Nat} {W : World} {v : Value} {rs : List GRef} (h : GRow el 2 base W v (rs.map refCells)) (hl : rs.length ≤ maxLen) : RefSl (fun k => base ≤ k ∧ k < W.heap.size) W v rs := by
  refine ⟨?_, hl⟩
  rcases h.parts with ⟨rfl, h0⟩ | ⟨g, cap, rfl, hg, hlt, _⟩
  · exact .inl ⟨⟨_, _, rfl⟩, by simpa using h0⟩
  · refine .inr ⟨g, 0, cap, by rw [List.length_map], ⟨hg, hlt⟩, fun j r hj => ?_⟩
    have hj' : (rs.map refCells)[j]? = some (refCells r) := by rw [List.getElem?_map, hj]; rfl
    obtain ⟨g1, c1, e1, h1⟩ := h.cell (i := 0) hj' rfl
    obtain ⟨g2, c2, e2, h2⟩ := h.cell (i := 1) hj' rfl
    simp only [Value.slice.injEq, Option.some.injEq, Addr.mk.injEq, and_true, true_and] at e1 e2
    obtain ⟨rfl, rfl⟩ := e1
    obtain ⟨rfl, rfl⟩ := e2
    rw [Nat.zero_add]
    exact ⟨h1, h2⟩
/-- A node with the slices in its cells. -/
structure NV where
  g : GNode
  lv : Value
  nv : Value
abbrev NV.cells (x : NV) : List Value := [.int .i64 x.g.k, .int .i64 x.g.p, x.lv, x.nv]
structure NV.Ok (B : Nat → Prop) (w : World) (x : NV) : Prop where
  l : StrSl B w x.lv x.g.ls
  n : RefSl B w x.nv x.g.nx
theorem NV.Ok.keep {B : Nat → Prop} {w w' : World} {x : NV} (h : x.Ok B w) (k : Keeps B w w') : x.Ok B w' := ⟨h.l.keep k, h.n.keep k⟩
theorem NV.Ok.mono {B C : Nat → Prop} {w : World} {x : NV} (h : x.Ok B w) (k : ∀ k, B k → C k) : x.Ok C w := ⟨h.l.mono k, h.n.mono k⟩
theorem NV.Ok.one {B : Nat → Prop} {w : World} {x : NV} (h : x.Ok B w) : ∀ u ∈ x.cells, u.oneCell' = true := by
  obtain ⟨la, ln, lc, h1, _⟩ := h.l.open
  obtain ⟨na, nn, nc, h2, _⟩ := h.n.open
  unfold NV.cells
  rw [h1, h2]
  intro u hu
  simp only [List.mem_cons, List.not_mem_nil, or_false] at hu
  rcases hu with rfl | rfl | rfl | rfl <;> rfl
theorem GRow.nodes {el : TypeId} {base : Nat} {B : Nat → Prop} {W : World} {v : Value} {xs : List NV} (h : GRow el 4 base W v (xs.map NV.cells)) (hok : ∀ x ∈ xs, x.Ok B W) (hl : xs.length ≤ maxLen) : NodeSl (fun k => B k ∨ (base ≤ k ∧ k < W.heap.size)) W v (xs.map NV.g) := by
  refine ⟨?_, by simpa using hl⟩
  rcases h.parts with ⟨rfl, h0⟩ | ⟨g, cap, rfl, hg, hlt, _⟩
  · exact .inl ⟨⟨_, _, rfl⟩, by simpa using h0⟩
  · refine .inr ⟨g, 0, cap, by rw [List.length_map, List.length_map], .inr ⟨hg, hlt⟩, fun j n hj => ?_⟩
    rw [List.getElem?_map] at hj
    obtain ⟨x, hx, rfl⟩ := Option.map_eq_some_iff.1 hj
    have hj' : (xs.map NV.cells)[j]? = some x.cells := by rw [List.getElem?_map, hx]; rfl
    have ox := hok x (List.mem_of_getElem? hx)
    have cell : ∀ i u, x.cells[i]? = some u → W.cell? ⟨g, 0 + j * 4 + i, none⟩ = some u := by
      intro i u hi
      obtain ⟨g1, c1, e1, h1⟩ := h.cell hj' hi
      simp only [Value.slice.injEq, Option.some.injEq, Addr.mk.injEq, and_true, true_and] at e1
      obtain ⟨rfl, rfl⟩ := e1
      rw [Nat.zero_add]; exact h1
    exact ⟨cell 0 _ rfl, cell 1 _ rfl, x.lv, x.nv, cell 2 _ rfl, cell 3 _ rfl, ox.l.mono (fun k hk => .inl hk), ox.n.mono (fun k hk => .inl hk)⟩
end Go.Proofs.YtjmnaibbljakaaaGreatDoor

/- Graphs: environments, and the builder's state. -/
namespace Go.Proofs.YtjmnaibbljakaaaGreatDoor
open Go.RowKit Go.Deep Go.Shelf

theorem intInfoG : (Tryz.prog.info? 3).map (fun i => (i.zero, i.size, i.bytes)) = some (some (.int .i64 0), 1, 8) := by kernel_rfl
theorem zero_intG (w : World) : (zeroValue 3).run Tryz.prog w = .ok (.int .i64 0) w := by
  obtain ⟨i0, hi, hz0, hz1, hz2⟩ := info_parts intInfoG
  simp [zeroValue, typeInfo, hi, hz0]
theorem strKeyedG : Maps.Keyed Tryz.prog 9 := Maps.string_keyed Tryz.underlying9
theorem lit_inj {s n : ByteArray} (h : Lit.string s.data.toList = Lit.string n.data.toList) : s = n := by
  have := Lit.string.inj h
  cases s; cases n; simp at this; congr 1

/-- Block b is a map, of at most n entries, that gives each name its number; one that is not in it, 0. -/
def EnvIs (w : World) (b n : Nat) (e : ByteArray → Nat) : Prop :=
  ∃ F : Lit → Option Value, MapIs w 9 b n F ∧ ∀ s : ByteArray, (F (.string s.data.toList)).getD (.int .i64 0) = .int .i64 (e s)
theorem EnvIs.made (w : World) : EnvIs (w.alloc (.map #[] 0)) w.heap.size 0 (fun _ => 0) := ⟨_, MapIs.made w _, fun _ => rfl⟩
theorem EnvIs.lt {w : World} {b n : Nat} {e : ByteArray → Nat} (h : EnvIs w b n e) : b < w.heap.size := by obtain ⟨F, h, _⟩ := h; exact h.lt
theorem EnvIs.same {w w' : World} {b n : Nat} {e : ByteArray → Nat} (h : EnvIs w b n e) (hb : w'.heap[b]? = w.heap[b]?) : EnvIs w' b n e := by
  obtain ⟨F, ⟨D, ⟨es, clock, h1, r⟩, hf⟩, hF⟩ := h
  exact ⟨F, ⟨D, ⟨es, clock, hb.trans h1, r⟩, hf⟩, hF⟩
theorem EnvIs.isMap {w : World} {b n : Nat} {e : ByteArray → Nat} (h : EnvIs w b n e) : ∃ es clock, w.heap[b]? = some (.map es clock) := by
  obtain ⟨F, ⟨D, ⟨es, clock, h1, r⟩, hf⟩, hF⟩ := h
  exact ⟨es, clock, h1⟩
theorem EnvIs.to {w w' : World} {b n : Nat} {e : ByteArray → Nat} (h : EnvIs w b n e) (hb : Below w.heap.size w w') : EnvIs w' b n e := h.same (hb.block b h.lt)
end Go.Proofs.YtjmnaibbljakaaaGreatDoor

/- Graphs: the builder's state, what its calls keep; the nodes of types one beside the other. -/
namespace Go.Proofs.YtjmnaibbljakaaaGreatDoor
open Go.RowKit Go.Deep Go.Shelf

/-! ### Types that can be built -/
mutual
/-- A TRec has one Kid, a TVar none; there are no other kinds than the nine; lists are not too long. -/
def Ty.okg : Ty → Prop
  | .mk k _ _ _ ls ts => k ≤ 9 ∧ (k = 8 → ts.length = 1) ∧ (k = 9 → ts = []) ∧ ls.length ≤ 400000000 ∧ Ty.okgs ts
def Ty.okgs : List Ty → Prop
  | [] => True
  | t :: r => t.okg ∧ Ty.okgs r
end
theorem Ty.okgs_mem : ∀ {ts : List Ty}, Ty.okgs ts → ∀ t ∈ ts, t.okg
  | [], _, _, h => by cases h
  | u :: r, h, t, ht => by
    simp only [Ty.okgs] at h
    rcases List.mem_cons.1 ht with rfl | ht
    · exact h.1
    · exact Ty.okgs_mem h.2 t ht
theorem Ty.okgs_of : ∀ {ts : List Ty}, (∀ t ∈ ts, t.okg) → Ty.okgs ts
  | [], _ => by simp only [Ty.okgs]
  | u :: r, h => by
    simp only [Ty.okgs]
    exact ⟨h u (by simp), Ty.okgs_of (fun t ht => h t (by simp [ht]))⟩
theorem pnod_ok : ∀ (t : Ty), t.okg → ∀ (i : Nat) (e : ByteArray → Nat), (t.pnod i e).length = t.gcnt := by
  refine Ty.ind ?_
  intro k p n s ls ts ih h i e
  simp only [Ty.okg] at h
  obtain ⟨h9, h1, h0, _, hk⟩ := h
  rw [Ty.pnod, Ty.gcnt]
  by_cases e8 : k = 8
  · subst e8
    rw [if_pos rfl, if_neg (by decide), Nat.zero_add]
    obtain ⟨u, rfl⟩ : ∃ u, ts = [u] := by
      match ts, h1 rfl with
      | [u], _ => exact ⟨u, rfl⟩
    simp only [Ty.okgs] at hk
    rw [Ty.pnod1, ih u (by simp) hk.1]
    simp [Ty.gcnts]
  · rw [if_neg e8]
    by_cases e9 : k = 9
    · subst e9
      rw [if_pos rfl, if_neg (by decide), h0 rfl]
      simp [Ty.gcnts]
    · rw [if_neg e9, if_pos (by omega)]
      have h3 : ∀ (l : List Ty) (i : Nat), (∀ t ∈ l, t ∈ ts) → (Ty.pnods i e l).length = Ty.gcnts l := by
        intro l
        induction l with
        | nil => intro i _; rw [Ty.pnods, Ty.gcnts]; rfl
        | cons t r ihl =>
          intro i hm
          rw [Ty.pnods, Ty.gcnts, List.length_append, ih t (hm t (by simp)) (Ty.okgs_mem hk t (hm t (by simp))), ihl _ (fun u hu => hm u (by simp [hu]))]
      rw [List.length_cons, h3 ts _ (fun _ h => h)]
      omega
theorem pnods_ok {e : ByteArray → Nat} : ∀ (l : List Ty) (i : Nat), Ty.okgs l → (Ty.pnods i e l).length = Ty.gcnts l
  | [], i, _ => by rw [Ty.pnods, Ty.gcnts]; rfl
  | t :: r, i, h => by
    simp only [Ty.okgs] at h
    rw [Ty.pnods, Ty.gcnts, List.length_append, pnod_ok t h.1, pnods_ok r _ h.2]
theorem prefs_snoc {e : ByteArray → Nat} (t : Ty) : ∀ (l : List Ty) (i : Nat), Ty.prefs i e (l ++ [t]) = Ty.prefs i e l ++ [t.pref (i + Ty.gcnts l) e]
  | [], i => by simp [Ty.prefs, Ty.gcnts]
  | u :: r, i => by
    rw [List.cons_append, Ty.prefs, prefs_snoc t r, Ty.prefs, Ty.gcnts, List.cons_append, Nat.add_assoc]
theorem pnods_snoc {e : ByteArray → Nat} (t : Ty) : ∀ (l : List Ty) (i : Nat), Ty.pnods i e (l ++ [t]) = Ty.pnods i e l ++ t.pnod (i + Ty.gcnts l) e
  | [], i => by simp [Ty.pnods, Ty.gcnts]
  | u :: r, i => by
    rw [List.cons_append, Ty.pnods, pnods_snoc t r, Ty.pnods, Ty.gcnts, List.append_assoc, Nat.add_assoc]
theorem prefs_len {e : ByteArray → Nat} : ∀ (l : List Ty) (i : Nat), (Ty.prefs i e l).length = l.length
  | [], _ => rfl
  | t :: r, i => by rw [Ty.prefs, List.length_cons, prefs_len r, List.length_cons]
theorem Ty.gcnts_take {l : List Ty} {i : Nat} {t : Ty} (h : l[i]? = some t) : Ty.gcnts (l.take (i + 1)) = Ty.gcnts (l.take i) + t.gcnt := by
  rw [take_snoc_get h, Ty.gcnts_append]; simp [Ty.gcnts]
theorem Ty.okgs_take {l : List Ty} (h : Ty.okgs l) (i : Nat) : Ty.okgs (l.take i) := Ty.okgs_of (fun t ht => Ty.okgs_mem h t (List.mem_of_mem_take ht))

/-! ### append in a plain region -/
theorem wpList_appG {sl el : TypeId} {sz base : Nat} {v : Value} {es : List (List Value)} {ops : Array Oper} {rest : List Oper} {o : Oper} {a : Act} {w : World} {Q : Exit → Act → World → Prop} (I : ElemOf sl el sz) (hgd : o.guard = none) (s x : Operand)
    (ho : o.op = .call { callee := .builtin .append, args := #[s, x], argTypes := #[sl, sl] })
    (hs : a.eval s = v) (h : GRow el sz base w v es) (na : Option Addr) (nn nc : Nat) (news : List (List Value)) (hx : a.eval x = .slice na nn nc) (hnn : nn = news.length) (hlen : ∀ e ∈ news, e.length = sz) (hsrc : RowSrc sz w na news) (hone : ∀ e ∈ news, ∀ u ∈ e, u.oneCell' = true) (h63 : es.length + news.length ≤ 1000000000) (hbase : base ≤ w.heap.size)
    (hk : ∀ ga gn gc w', GRow el sz base w' (.slice ga gn gc) (es ++ news) → w.grownBy w' v.ownBlock → ((Value.slice ga gn gc).ownBlock = v.ownBlock ∨ (Value.slice ga gn gc).ownBlock = some w.heap.size) → wpList Tryz.prog ops Q rest (a.put o.dst (.slice ga gn gc)) w') : wpList Tryz.prog ops Q (o :: rest) a w := by
  refine wpList_plain hgd fun K hK => ?_
  obtain ⟨ga, gn, gc, w', hr, h2, h3, h4⟩ := run_appG I o.type h na nn nc news hnn hlen hsrc hone h63 hbase
  unfold Oper.wp execOp
  simp only [ho, resolve, invoke, builtin, Sem.run_bind, Sem.run_pure, Result.andThen_ok, List.map_toArray, List.map_cons, List.map_nil, hs, hx, hr]
  exact hK _ _ (hk ga gn gc w' h2 h3 h4)
/-- A block just made is a source of one element. -/
theorem src_new {sz : Nat} (w : World) (cs : List Value) (t : TypeId) : RowSrc sz (w.alloc (.cells cs.toArray t)) (some ⟨w.heap.size, 0, none⟩) [cs] := by
  refine .inr ⟨w.heap.size, 0, rfl, fun j e i u hj hi => ?_⟩
  cases j with
  | zero =>
    simp only [List.getElem?_cons_zero, Option.some.injEq] at hj
    subst hj
    rw [show 0 + (0 * sz + i) = i by omega]
    have h := World.alloc_heap_new w (.cells cs.toArray t)
    simp only [World.cell?, h]
    simpa using hi
  | succ j => simp at hj
theorem src_at {sz : Nat} {w : World} {cs : List Value} {t : TypeId} {fr : Nat × Nat} {b : Nat} (h : w.heap[b]? = some (.cells cs.toArray t fr)) : RowSrc sz w (some ⟨b, 0, none⟩) [cs] := by
  refine .inr ⟨b, 0, rfl, fun j e i u hj hi => ?_⟩
  cases j with
  | zero =>
    simp only [List.getElem?_cons_zero, Option.some.injEq] at hj
    subst hj
    rw [show 0 + (0 * sz + i) = i by omega]
    simp only [World.cell?, h]
    simpa using hi
  | succ j => simp at hj

/-! ### What a builder's calls keep -/
/-- The block of a row. -/
theorem GRow.obj {el : TypeId} {sz base : Nat} {W : World} {v : Value} {es : List (List Value)} (h : GRow el sz base W v es) {k : Nat} (hk : v.ownBlock = some k) : ∃ cs, W.heap[k]? = some (.cells cs el (0, 0)) := by
  rcases h.own.2 with ⟨rfl, _⟩ | ⟨g, cap, cur, rfl, _, hg, _⟩
  · cases hk
  · cases hk; exact ⟨cur, hg⟩
/-- Between two worlds the builder's box and list have changed, from v to v', and nothing else that lay there. -/
structure BkG (base bx : Nat) (w : World) (v : Value) (w' : World) (v' : Value) : Prop where
  below : Below base w w'
  side : ∀ k, k < w.heap.size → k ≠ bx → some k ≠ v.ownBlock → w'.heap[k]? = w.heap[k]?
  own : v'.ownBlock = v.ownBlock ∨ ∀ k, v'.ownBlock = some k → w.heap.size ≤ k
section
variable {base bx : Nat} {a b c w w1 w' : World} {v v' v1 v2 v3 : Value} {xs : List NV}
theorem BkG.refl (base bx : Nat) (w : World) (v : Value) : BkG base bx w v w v := ⟨Below.refl _ _, fun _ _ _ _ => rfl, .inl rfl⟩
theorem BkG.trans (h : BkG base bx a v1 b v2) (k : BkG base bx b v2 c v3) : BkG base bx a v1 c v3 := by
  have hs := h.below.size
  refine ⟨h.below.trans k.below, fun i h1 h2 h3 => (k.side i (Nat.lt_of_lt_of_le h1 hs) h2 (fun e => ?_)).trans (h.side i h1 h2 h3), ?_⟩
  · rcases h.own with ho | ho
    · exact h3 (e.trans ho)
    · have := ho i e.symm; omega
  · rcases k.own with ko | ko
    · rcases h.own with ho | ho
      · exact .inl (ko.trans ho)
      · exact .inr (fun i hi => ho i (ko.symm.trans hi))
    · exact .inr (fun i hi => Nat.le_trans hs (ko i hi))
theorem BkG.of_below (h : Below w.heap.size w w') (hb : base ≤ w.heap.size) (bx : Nat) (v : Value) : BkG base bx w v w' v := ⟨h.mono hb, fun k hk _ _ => h.block k hk, .inl rfl⟩
theorem BkG.alloc (h : BkG base bx w v w1 v1) (hb : base ≤ w1.heap.size) (o : Obj) : BkG base bx w v (w1.alloc o) v1 := h.trans (BkG.of_below ((Below.refl _ _).alloc (Nat.le_refl _) _) hb bx v1)
theorem BkG.drew (h : BkG base bx w v w1 v1) : BkG base bx w v w1.drew v1 := ⟨h.below.drew, h.side, h.own⟩
/-- The list grows. -/
theorem BkG.grown {es : List (List Value)} (h : BkG base bx w v w1 v1) (hr : GRow 61 4 base w1 v1 es) (hb : base ≤ w1.heap.size) (hg : w1.grownBy w' v1.ownBlock) (hq : v2.ownBlock = v1.ownBlock ∨ v2.ownBlock = some w1.heap.size) : BkG base bx w v w' v2 := by
  refine h.trans ⟨(Below.refl base w1).grown hg hb (fun k hk => (hr.lt k hk).1), fun k h1 _ h3 => hg.block k h1 h3, ?_⟩
  rcases hq with e | e
  · exact .inl e
  · exact .inr (fun k hk => by have := Option.some.inj (e.symm.trans hk); omega)
/-- A store into the box. -/
theorem BkG.box (h : BkG base bx w v w1 v1) (hx : base ≤ bx) (i : Nat) (u : Value) : BkG base bx w v (w1.setCell ⟨bx, i, none⟩ u) v1 := by
  refine h.trans ⟨(Below.refl base w1).setCell hx u, fun k _ h2 _ => ?_, .inl rfl⟩
  show (w1.heap.modify bx _)[k]? = _
  rw [Array.getElem?_modify, if_neg (fun e => h2 e.symm)]
/-- A store into the list. -/
theorem BkG.list {g n cap : Nat} (h : BkG base bx w v w1 v1) (hv : v1 = .slice (some ⟨g, 0, none⟩) n cap) (hg : base ≤ g) (i : Nat) (u : Value) : BkG base bx w v (w1.setCell ⟨g, i, none⟩ u) v1 := by
  refine h.trans ⟨(Below.refl base w1).setCell hg u, fun k _ _ h3 => ?_, .inl rfl⟩
  show (w1.heap.modify g _)[k]? = _
  rw [Array.getElem?_modify, if_neg (fun e => h3 (by rw [hv, e]; rfl))]
/-- A row of another kind, made since then, grows. -/
theorem BkG.grownR {sz b2 : Nat} {el : TypeId} {es : List (List Value)} {r : Value} (h : BkG base bx w v w1 v1) (hr : GRow el sz b2 w1 r es) (hb2 : w.heap.size ≤ b2) (hb : base ≤ w.heap.size) (hg : w1.grownBy w' r.ownBlock) : BkG base bx w v w' v1 := by
  refine ⟨h.below.grown hg (Nat.le_trans hb h.below.size) (fun k hk => Nat.le_trans (Nat.le_trans hb hb2) (hr.lt k hk).1), fun k h1 h2 h3 => ?_, h.own⟩
  refine (hg.block k (Nat.lt_of_lt_of_le h1 h.below.size) (fun e => ?_)).trans (h.side k h1 h2 h3)
  have := (hr.lt k e.symm).1
  omega

/-- Blocks that are neither the box nor the list. -/
def Side (bx : Nat) (v : Value) (w : World) (k : Nat) : Prop := k < w.heap.size ∧ k ≠ bx ∧ some k ≠ v.ownBlock
theorem Side.to (h : BkG base bx w v w' v') : ∀ k, Side bx v w k → Side bx v' w' k := fun k ⟨h1, h2, h3⟩ => ⟨Nat.lt_of_lt_of_le h1 h.below.size, h2, fun e => by
  rcases h.own with ho | ho
  · exact h3 (e.trans ho)
  · have := ho k e.symm; omega⟩
theorem BkG.keeps (h : BkG base bx w v w' v') : Keeps (Side bx v w) w w' := fun k _ hk ho _ => (h.side k hk.1 hk.2.1 hk.2.2).trans ho
theorem NV.Ok.bk {B : Nat → Prop} {x : NV} (h : x.Ok (fun k => Side bx v w k ∧ B k) w) (k : BkG base bx w v w' v') : x.Ok (fun k => Side bx v' w' k ∧ B k) w' := (h.keep (k.keeps.mono (fun _ h => h.1))).mono (fun i hi => ⟨Side.to k i hi.1, hi.2⟩)
theorem Keeps.grown {B : Nat → Prop} {row : Option Nat} (hg : w.grownBy w' row) (hB : ∀ k, B k → some k ≠ row) : Keeps B w w' := fun k _ hk ho _ => (hg.block k (Array.getElem?_eq_some_iff.1 ho).1 (hB k hk)).trans ho
end
/-- Blocks that a builder's call has made, beside its list. -/
def New (bx : Nat) (w w' : World) (v' : Value) : Nat → Prop := fun k => Side bx v' w' k ∧ w.heap.size ≤ k
end Go.Proofs.YtjmnaibbljakaaaGreatDoor

/- Graphs: addAll, given add. -/
namespace Go.Proofs.YtjmnaibbljakaaaGreatDoor
open Go.RowKit Go.Deep Go.Shelf

end Go.Proofs.YtjmnaibbljakaaaGreatDoor

/- Graphs: addNode, given addAll. -/
namespace Go.Proofs.YtjmnaibbljakaaaGreatDoor
open Go.RowKit Go.Deep Go.Shelf

/-- A node as it is pushed: its references are not there yet. -/
abbrev newNV (t : Ty) (lv : Value) : NV := ⟨⟨t.k, t.p, t.ls, []⟩, lv, .slice none 0 0⟩
def curV (v : Value) (L : Nat → Bool) (vals : Nat → Value) : Value := if L 20 = true then vals 20 else v
theorem curV_0 {v : Value} {L : Nat → Bool} {vals : Nat → Value} (h : L 20 = false) : curV v L vals = v := by rw [curV, h]; rfl
theorem curV_1 {v : Value} {L : Nat → Bool} {vals : Nat → Value} (h : L 20 = true) : curV v L vals = vals 20 := by rw [curV, h]; rfl
theorem GRow.refsB {el : TypeId} {base : Nat} {W : World} {v : Value} {rs : List GRef} {B : Nat → Prop} (h : GRow el 2 base W v (rs.map refCells)) (hl : rs.length ≤ maxLen) (hB : ∀ k, v.ownBlock = some k → B k) : RefSl B W v rs := by
  obtain ⟨h1, h2⟩ := h.refs hl
  refine ⟨?_, h2⟩
  rcases h1 with h1 | ⟨b, o, c, rfl, _, h3⟩
  · exact .inl h1
  · exact .inr ⟨b, o, c, rfl, hB b rfl, h3⟩
end Go.Proofs.YtjmnaibbljakaaaGreatDoor

/- Graphs: add. -/
namespace Go.Proofs.YtjmnaibbljakaaaGreatDoor
open Go.RowKit Go.Deep Go.Shelf

/-- One operation that comes up alone. -/
theorem wpAnyH_one {P : Program} {md : Region.Mode} {l : List Oper} {Q : Exit → Act → World → Prop} {S : World → Prop} {fuel : Nat} {B : List Bool} {T : List Value} {ds : List Deferred} {w : World} (i : Nat) {o : Oper} (ho : l[i]? = some o) (hg : o.guard = none)
    (hr : Region.ready md l.toArray B.toArray = [i])
    (h : ∀ K : Act → World → Prop, Shut (∀ v w', S w' → (S w' → wpAnyH P md l.toArray Q S fuel (B.set i true).toArray ⟨(setD T o.dst v).toArray, ds⟩ w') → K ⟨(setD T o.dst v).toArray, ds⟩ w') → Oper.wp P o ⟨T.toArray, ds⟩ w K Q) :
    wpAnyH P md l.toArray Q S (fuel + 1) B.toArray ⟨T.toArray, ds⟩ w := by
  refine wpAnyH_all hr (by simp) (fun j hj => ?_)
  obtain rfl := List.mem_singleton.1 hj
  have ho' : l.toArray[j]? = some o := by simpa using ho
  have hw : Region.wanted o (yielded l.toArray T.toArray) = true := by simp [Region.wanted, hg]
  unfold wpOp
  simp only [ho']
  rw [if_pos hw]
  refine .inl (h _ (fun v w' h1 h2 => ?_))
  refine ⟨h1, ?_⟩
  rw [List.setIfInBounds_toArray]
  exact h2 h1

theorem pref_9 {p s : Int} {n : ByteArray} {ls : List ByteArray} {ts : List Ty} (i : Nat) (e : ByteArray → Nat) : (Ty.mk 9 p n s ls ts).pref i e = ⟨e n, s⟩ := by rw [Ty.pref, if_neg (by decide), if_pos rfl]
theorem pnod_9 {p s : Int} {n : ByteArray} {ls : List ByteArray} {ts : List Ty} (i : Nat) (e : ByteArray → Nat) : (Ty.mk 9 p n s ls ts).pnod i e = [] := by rw [Ty.pnod, if_neg (by decide), if_pos rfl]
theorem pref_8 {p s : Int} {n : ByteArray} {ls : List ByteArray} {u : Ty} (i : Nat) (e : ByteArray → Nat) : (Ty.mk 8 p n s ls [u]).pref i e = u.pref i (upE e n i) := by rw [Ty.pref, if_pos rfl, Ty.pref1]
theorem pnod_8 {p s : Int} {n : ByteArray} {ls : List ByteArray} {u : Ty} (i : Nat) (e : ByteArray → Nat) : (Ty.mk 8 p n s ls [u]).pnod i e = u.pnod i (upE e n i) := by rw [Ty.pnod, if_pos rfl, Ty.pnod1]
theorem pref_k {t : Ty} (h8 : t.k ≠ 8) (h9 : t.k ≠ 9) (i : Nat) (e : ByteArray → Nat) : t.pref i e = ⟨i, 0⟩ := by cases t; simp only [Ty.k] at h8 h9; rw [Ty.pref, if_neg h8, if_neg h9]
theorem pnod_k {t : Ty} (h8 : t.k ≠ 8) (h9 : t.k ≠ 9) (i : Nat) (e : ByteArray → Nat) : t.pnod i e = ⟨t.k, t.p, t.ls, Ty.prefs (i + 1) e t.ts⟩ :: Ty.pnods (i + 1) e t.ts := by cases t; simp only [Ty.k] at h8 h9; rw [Ty.pnod, if_neg h8, if_neg h9]; rfl

/-- A block of two cells: a reference that is to be returned. -/
abbrev refBox (a b : Value) : Obj := .cells #[a, b] 37
def Two0 (w : World) (b : Nat) (o : Obj) : Prop := w.heap[b]? = some o
theorem two_cells {w : World} {b : Nat} {a c : Value} (h : w.heap[b]? = some (refBox a c)) : w.cell? ⟨b, 0, none⟩ = some a ∧ w.cell? ⟨b, 1, none⟩ = some c ∧ w.frozen? ⟨b, 0, none⟩ = false ∧ w.frozen? ⟨b, 1, none⟩ = false := by
  refine ⟨?_, ?_, frozen_of_block h 0, frozen_of_block h 1⟩ <;> simp [World.cell?, h]
theorem two_fill {w : World} {b : Nat} {a c : Value} (h : w.heap[b]? = some (refBox a c)) (u v : Value) : ((w.setCell ⟨b, 0, none⟩ u).setCell ⟨b, 1, none⟩ v).heap[b]? = some (refBox u v) := set_block (set_block h 0 u) 1 v
theorem set_oth (w : World) {b k : Nat} (i : Nat) (v : Value) (hk : k ≠ b) : (w.setCell ⟨b, i, none⟩ v).heap[k]? = w.heap[k]? := by
  show (w.heap.modify b _)[k]? = _
  rw [Array.getElem?_modify, if_neg (fun e => hk e.symm)]
theorem two_other {w : World} {b k : Nat} (hk : k ≠ b) (u v : Value) : ((w.setCell ⟨b, 0, none⟩ u).setCell ⟨b, 1, none⟩ v).heap[k]? = w.heap[k]? := by
  exact (set_oth _ 1 v hk).trans (set_oth w 0 u hk)
theorem BkG.fill {base bx b : Nat} {w w1 : World} {v v1 : Value} (h : BkG base bx w v w1 v1) (hb : w.heap.size ≤ b) (hbase : base ≤ w.heap.size) (x y : Value) : BkG base bx w v ((w1.setCell ⟨b, 0, none⟩ x).setCell ⟨b, 1, none⟩ y) v1 :=
  ⟨(h.below.setCell (p := ⟨b, 0, none⟩) (Nat.le_trans hbase hb) x).setCell (p := ⟨b, 1, none⟩) (Nat.le_trans hbase hb) y, fun k h1 h2 h3 => (two_other (by omega) x y).trans (h.side k h1 h2 h3), h.own⟩
theorem NV.Ok.fill {bx b : Nat} {w0 w : World} {v : Value} {x : NV} (h : x.Ok (New bx w0 w v) w) (hne : ∀ k, New bx w0 w v k → k ≠ b) (u z : Value) : x.Ok (New bx w0 ((w.setCell ⟨b, 0, none⟩ u).setCell ⟨b, 1, none⟩ z) v) ((w.setCell ⟨b, 0, none⟩ u).setCell ⟨b, 1, none⟩ z) :=
  (h.keep (fun k _ hk ho _ => (two_other (hne k hk) u z).trans ho)).mono (fun k hk => ⟨⟨by simpa using hk.1.1, hk.1.2⟩, hk.2⟩)

end Go.Proofs.YtjmnaibbljakaaaGreatDoor

/- Graphs: add at a TRec; Build. -/
namespace Go.Proofs.YtjmnaibbljakaaaGreatDoor
open Go.RowKit Go.Deep Go.Shelf

end Go.Proofs.YtjmnaibbljakaaaGreatDoor

/- Graphs: Build. -/
namespace Go.Proofs.YtjmnaibbljakaaaGreatDoor
open Go.RowKit Go.Deep Go.Shelf

/-- The nodes and the references of a list of types. -/
def gNodes (ts : List Ty) : List GNode := Ty.pnods 0 (fun _ => 0) ts
def gRefs (ts : List Ty) : List GRef := Ty.prefs 0 (fun _ => 0) ts

end Go.Proofs.YtjmnaibbljakaaaGreatDoor

/- Graphs: sets of numbers as words of bits. -/
namespace Go.Proofs.YtjmnaibbljakaaaGreatDoor
open Go.RowKit Go.Deep Go.Shelf

abbrev wordV (x : Nat) : Value := .int .u64 (x : Int)
/-- Block b holds these words. -/
structure Words (W : World) (b : Nat) (ws : List Nat) : Prop where
  at_ : W.heap[b]? = some (.cells (ws.map wordV).toArray 143 (0, 0))
  lt : ∀ x ∈ ws, x < 18446744073709551616
theorem Words.cell {W : World} {b : Nat} {ws : List Nat} (h : Words W b ws) {i x : Nat} (hi : ws[i]? = some x) : W.cell? ⟨b, i, none⟩ = some (wordV x) ∧ W.frozen? ⟨b, i, none⟩ = false := by
  refine ⟨?_, frozen_of_block h.at_ i⟩
  simp only [World.cell?, h.at_]
  simp [hi]
theorem Words.same {W W' : World} {b : Nat} {ws : List Nat} (h : Words W b ws) (e : W'.heap[b]? = W.heap[b]?) : Words W' b ws := ⟨e.trans h.at_, h.lt⟩
theorem Words.set {W : World} {b : Nat} {ws : List Nat} (h : Words W b ws) (i x : Nat) (hx : x < 18446744073709551616) : Words (W.setCell ⟨b, i, none⟩ (wordV x)) b (ws.set i x) := by
  refine ⟨?_, fun y hy => ?_⟩
  · rw [set_block h.at_ i (wordV x), List.map_set, List.setIfInBounds_toArray]
  · rcases List.mem_or_eq_of_mem_set hy with hy | rfl
    · exact h.lt y hy
    · exact hx
/-- Is a number in the set? -/
def inW (ws : List Nat) (n : Nat) : Bool := (ws.getD (n / 64) 0).testBit (n % 64)
theorem inW_new (N n : Nat) : inW (List.replicate N 0) n = false := by
  unfold inW
  by_cases h : n / 64 < N
  · simp [List.getD, h]
  · simp [List.getD, h]
theorem inW_add {ws : List Nat} {n x : Nat} (hn : ws[n / 64]? = some x) (m : Nat) : inW (ws.set (n / 64) (x ||| 2 ^ (n % 64))) m = (m == n || inW ws m) := by
  unfold inW
  have hl : n / 64 < ws.length := (List.getElem?_eq_some_iff.1 hn).1
  by_cases h : m / 64 = n / 64
  · rw [h]
    have e1 : (ws.set (n / 64) (x ||| 2 ^ (n % 64))).getD (n / 64) 0 = x ||| 2 ^ (n % 64) := by simp [List.getD, hl]
    have e2 : ws.getD (n / 64) 0 = x := by simp [List.getD, hn]
    rw [e1, e2, Nat.testBit_or, Nat.testBit_two_pow]
    have e3 : decide (n % 64 = m % 64) = (m == n) := by
      rw [Bool.eq_iff_iff]; simp; omega
    rw [e3, Bool.or_comm]
  · have e1 : (ws.set (n / 64) (x ||| 2 ^ (n % 64))).getD (m / 64) 0 = ws.getD (m / 64) 0 := by
      simp [List.getD, Ne.symm h]
    have e2 : (m == n) = false := by simp; intro e; exact h (by rw [e])
    rw [e1, e2, Bool.false_or]

end Go.Proofs.YtjmnaibbljakaaaGreatDoor

/- Graphs: the numbers of a set in ascending order. -/
namespace Go.Proofs.YtjmnaibbljakaaaGreatDoor
open Go.RowKit Go.Deep Go.Shelf

/-! ### The bits of a word -/
def bitsOf (x : Nat) : List Nat := (List.range 64).filter (fun j => x.testBit j)
theorem filter_step {p q : Nat → Bool} {k : Nat} (hk : p k = true) (hlt : ∀ j, j < k → p j = false) (hq : ∀ j, q j = (p j && !(j == k))) : ∀ n, (n ≤ k → (List.range n).filter p = [] ∧ (List.range n).filter q = []) ∧ (k < n → (List.range n).filter p = k :: (List.range n).filter q)
  | 0 => ⟨fun _ => ⟨rfl, rfl⟩, fun h => by omega⟩
  | n + 1 => by
    obtain ⟨h1, h2⟩ := filter_step hk hlt hq n
    rw [List.range_succ, List.filter_append, List.filter_append]
    refine ⟨fun hn => ?_, fun hn => ?_⟩
    · obtain ⟨a, b⟩ := h1 (by omega)
      rw [a, b]
      have e1 := hlt n (by omega)
      have e2 := hq n
      rw [e1] at e2
      simp [e1, e2]
    · by_cases hkn : k < n
      · rw [h2 hkn]
        have e2 := hq n
        have e3 : (n == k) = false := by simp; omega
        rw [e3] at e2
        simp only [Bool.not_false, Bool.and_true] at e2
        simp only [List.filter_cons, e2, List.filter_nil, List.cons_append]
      · obtain rfl : k = n := by omega
        obtain ⟨a, b⟩ := h1 (Nat.le_refl _)
        rw [a, b]
        have e2 := hq k
        simp only [beq_self_eq_true, Bool.not_true, Bool.and_false] at e2
        simp [hk, e2]
theorem bits_step {y : Nat} (h0 : y ≠ 0) (h : y < 18446744073709551616) : bitsOf y = Lib.ctz 64 y :: bitsOf (y &&& (y - 1)) ∧ y &&& (y - 1) < y ∧ Lib.ctz 64 y < 64 := by
  obtain ⟨m, hm, hk⟩ := Lib.ctzFrom_spec 64 y (by omega) h
  have hz : Lib.ctz 64 y = Lib.ctzFrom 64 y := by unfold Lib.ctz; rw [if_neg h0]
  rw [hz]
  obtain ⟨k, ek⟩ : ∃ k, Lib.ctzFrom 64 y = k := ⟨_, rfl⟩
  rw [ek] at hm hk ⊢
  have hp : 0 < 2 ^ k := Nat.two_pow_pos k
  have ey : y = 2 ^ (k + 1) * m + 2 ^ k := by rw [hm, Nat.pow_succ]; simp only [Nat.mul_add, Nat.mul_one, Nat.mul_assoc]
  have ey1 : y - 1 = 2 ^ (k + 1) * m + (2 ^ k - 1) := by rw [ey]; omega
  have hb1 : 2 ^ k < 2 ^ (k + 1) := Nat.pow_lt_pow_right (by decide) (by omega)
  have t1 : ∀ j, y.testBit j = if j < k + 1 then decide (k = j) else m.testBit (j - (k + 1)) := fun j => by
    rw [ey, Nat.testBit_two_pow_mul_add m hb1 j, Nat.testBit_two_pow]
  have t2 : ∀ j, (y - 1).testBit j = if j < k + 1 then decide (j < k) else m.testBit (j - (k + 1)) := fun j => by
    rw [ey1, Nat.testBit_two_pow_mul_add m (by omega) j, Nat.testBit_two_pow_sub_one]
  have t3 : ∀ j, (y &&& (y - 1)).testBit j = (y.testBit j && !(j == k)) := fun j => by
    rw [Nat.testBit_and, t2, t1]
    by_cases hj : j < k + 1
    · rw [if_pos hj, if_pos hj]
      by_cases hjk : k = j
      · subst hjk; simp
      · simp [hjk]
    · rw [if_neg hj, if_neg hj]
      have : (j == k) = false := by simp; omega
      rw [this]; simp
  have hkt : y.testBit k = true := by rw [t1, if_pos (by omega)]; simp
  refine ⟨(filter_step (q := fun j => (y &&& (y - 1)).testBit j) hkt (fun j hj => by rw [t1, if_pos (by omega)]; simp; omega) t3 64).2 hk, ?_, hk⟩
  have hle : y &&& (y - 1) ≤ y - 1 := Nat.and_le_right
  omega
/-- All numbers of a set. -/
def allOf (ws : List Nat) : List Nat := (List.range (64 * ws.length)).filter (inW ws)
/-- .. of its first words. -/
def numsTo (ws : List Nat) (i : Nat) : List Nat := (List.range (64 * i)).filter (inW ws)
theorem numsTo_next {ws : List Nat} {i x : Nat} (h : ws[i]? = some x) : numsTo ws (i + 1) = numsTo ws i ++ (bitsOf x).map (fun j => i * 64 + j) := by
  unfold numsTo bitsOf
  rw [show 64 * (i + 1) = 64 * i + 64 by omega, List.range_add, List.filter_append]
  congr 1
  rw [List.filter_map]
  have e : (inW ws ∘ fun x => 64 * i + x) = fun j => inW ws (64 * i + j) := rfl
  rw [e]
  have e2 : (List.range 64).filter (fun j => inW ws (64 * i + j)) = (List.range 64).filter (fun j => x.testBit j) := by
    refine List.filter_congr (fun j hj => ?_)
    have hj64 := List.mem_range.1 hj
    unfold inW
    have e3 : (64 * i + j) / 64 = i := by omega
    have e4 : (64 * i + j) % 64 = j := by omega
    rw [e3, e4]
    simp [List.getD, h]
  rw [e2]
  refine List.map_congr_left (fun j _ => by omega)

abbrev intCell (n : Nat) : List Value := [.int .i64 (n : Int)]
theorem intT_plain : 3 ≠ 61 := by decide
end Go.Proofs.YtjmnaibbljakaaaGreatDoor

/- Graphs: what is reached (mathematics), an empty set, lists that are popped. -/
namespace Go.Proofs.YtjmnaibbljakaaaGreatDoor
open Go.RowKit Go.Deep Go.Shelf

/-! ### What is reached -/
def ClosedG (ns : List GNode) (C : Nat → Prop) : Prop := ∀ (n : Nat) (g : GNode), ns[n]? = some g → C n → ∀ r ∈ g.nx, C r.n
/-- The least closed set with a node in it. -/
structure Least (ns : List GNode) (a : Nat) (S : Nat → Bool) : Prop where
  start : S a = true
  closed : ClosedG ns (fun n => S n = true)
  min : ∀ C : Nat → Prop, C a → ClosedG ns C → ∀ n, S n = true → C n
theorem Least.unique {ns : List GNode} {a : Nat} {S T : Nat → Bool} (h : Least ns a S) (k : Least ns a T) : S = T := by
  funext n
  rw [Bool.eq_iff_iff]
  exact ⟨fun hn => h.min _ k.start k.closed n hn, fun hn => k.min _ h.start h.closed n hn⟩
/-- All references are to nodes of the graph. -/
def wfG (ns : List GNode) : Prop := ∀ (n : Nat) (g : GNode), ns[n]? = some g → ∀ r ∈ g.nx, r.n < ns.length
theorem Least.lt {ns : List GNode} {a : Nat} {S : Nat → Bool} (h : Least ns a S) (hw : wfG ns) (ha : a < ns.length) {n : Nat} (hn : S n = true) : n < ns.length :=
  h.min (fun n => n < ns.length) ha (fun m g hm _ r hr => hw m g hm r hr) n hn
/-- How many nodes are not in a set. -/
def cntG (ns : List GNode) (S : Nat → Bool) : Nat := ((List.range ns.length).filter fun j => !S j).length
theorem cntG_upd {ns : List GNode} {S : Nat → Bool} {k : Nat} (hk : k < ns.length) (hS : S k = false) : cntG ns (updL S k) + 1 = cntG ns S :=
  filter_upd (List.range ns.length) List.nodup_range (List.mem_range.2 hk) hS

/-- While a list of nodes is to be done. -/
structure Search (ns : List GNode) (a : Nat) (S : Nat → Bool) (T : List Nat) : Prop where
  start : S a = true
  todo : ∀ n ∈ T, S n = true
  done : ∀ (n : Nat) (g : GNode), ns[n]? = some g → S n = true → n ∈ T ∨ ∀ r ∈ g.nx, S r.n = true
  min : ∀ C : Nat → Prop, C a → ClosedG ns C → ∀ n, S n = true → C n
theorem Search.least {ns : List GNode} {a : Nat} {S : Nat → Bool} (h : Search ns a S []) : Least ns a S :=
  ⟨h.start, fun n g hn hS r hr => by
    rcases h.done n g hn hS with h | h
    · cases h
    · exact h r hr, h.min⟩
/-- While the references of a node of the list are followed. -/
structure Search1 (ns : List GNode) (a n0 : Nat) (g0 : GNode) (k : Nat) (S : Nat → Bool) (T : List Nat) : Prop where
  start : S a = true
  here : S n0 = true
  todo : ∀ n ∈ T, S n = true
  done : ∀ (n : Nat) (g : GNode), ns[n]? = some g → S n = true → n = n0 ∨ n ∈ T ∨ ∀ r ∈ g.nx, S r.n = true
  part : ∀ r ∈ g0.nx.take k, S r.n = true
  min : ∀ C : Nat → Prop, C a → ClosedG ns C → ∀ n, S n = true → C n
theorem Search.one {ns : List GNode} {a n0 : Nat} {g0 : GNode} {S : Nat → Bool} {T : List Nat} (h : Search ns a S (T ++ [n0])) : Search1 ns a n0 g0 0 S T :=
  ⟨h.start, h.todo n0 (by simp), fun n hn => h.todo n (by simp [hn]), fun n g hn hS => by
    rcases h.done n g hn hS with h | h
    · rcases List.mem_append.1 h with h | h
      · exact .inr (.inl h)
      · exact .inl (List.mem_singleton.1 h)
    · exact .inr (.inr h), fun r hr => by simp at hr, h.min⟩
theorem Search1.end {ns : List GNode} {a n0 : Nat} {g0 : GNode} {S : Nat → Bool} {T : List Nat} {k : Nat} (h : Search1 ns a n0 g0 k S T) (hg : ns[n0]? = some g0) (hk : g0.nx.length ≤ k) : Search ns a S T :=
  ⟨h.start, h.todo, fun n g hn hS => by
    rcases h.done n g hn hS with rfl | h | h'
    · obtain rfl := Option.some.inj (hg.symm.trans hn)
      have := h.part
      rw [List.take_of_length_le hk] at this
      exact .inr this
    · exact .inl h
    · exact .inr h', h.min⟩
theorem Search1.old {ns : List GNode} {a n0 : Nat} {g0 : GNode} {S : Nat → Bool} {T : List Nat} {k : Nat} {r : GRef} (h : Search1 ns a n0 g0 k S T) (hr : g0.nx[k]? = some r) (hS : S r.n = true) : Search1 ns a n0 g0 (k + 1) S T :=
  ⟨h.start, h.here, h.todo, h.done, fun x hx => by
    rw [take_snoc_get hr] at hx
    rcases List.mem_append.1 hx with hx | hx
    · exact h.part x hx
    · rw [List.mem_singleton.1 hx]; exact hS, h.min⟩
theorem Search1.new {ns : List GNode} {a n0 : Nat} {g0 : GNode} {S : Nat → Bool} {T : List Nat} {k : Nat} {r : GRef} (h : Search1 ns a n0 g0 k S T) (hg : ns[n0]? = some g0) (hr : g0.nx[k]? = some r) : Search1 ns a n0 g0 (k + 1) (updL S r.n) (T ++ [r.n]) := by
  have up : ∀ n, S n = true → updL S r.n n = true := fun n hn => by simp [updL, hn]
  refine ⟨up _ h.start, up _ h.here, fun n hn => ?_, fun n g hn hS => ?_, fun x hx => ?_, fun C hC hcl n hn => ?_⟩
  · rcases List.mem_append.1 hn with hn | hn
    · exact up _ (h.todo n hn)
    · rw [List.mem_singleton.1 hn]; simp [updL]
  · simp only [updL, Bool.or_eq_true, beq_iff_eq] at hS
    rcases hS with rfl | hS
    · exact .inr (.inl (by simp))
    · rcases h.done n g hn hS with h1 | h1 | h1
      · exact .inl h1
      · exact .inr (.inl (by simp [h1]))
      · exact .inr (.inr (fun x hx => up _ (h1 x hx)))
  · rw [take_snoc_get hr] at hx
    rcases List.mem_append.1 hx with hx | hx
    · exact up _ (h.part x hx)
    · rw [List.mem_singleton.1 hx]; simp [updL]
  · simp only [updL, Bool.or_eq_true, beq_iff_eq] at hn
    rcases hn with rfl | hn
    · exact hcl n0 g0 hg (h.min C hC hcl n0 h.here) r (List.mem_of_getElem? hr)
    · exact h.min C hC hcl n hn
theorem Search.begin (ns : List GNode) (a : Nat) : Search ns a (fun n => n == a) [a] :=
  ⟨by simp, fun n hn => by simp at hn; simp [hn], fun n g _ hS => .inl (by simpa using hS), fun C hC _ n hn => by
    have : n = a := by simpa using hn
    rw [this]; exact hC⟩

/-! ### An empty set -/
/-! ### A list that is popped -/
theorem GRow.pop {el : TypeId} {sz base : Nat} {W : World} {g n cap : Nat} {es : List (List Value)} {e : List Value} (h : GRow el sz base W (.slice (some ⟨g, 0, none⟩) (n + 1) cap) (es ++ [e])) : GRow el sz base W (.slice (some ⟨g, 0, none⟩) n cap) es := by
  have hl := gflat_len h.len
  have hl2 := gflat_len (l := es) (fun x hx => h.len x (by simp [hx]))
  refine ⟨⟨hl2, ?_⟩, fun x hx => h.len x (by simp [hx])⟩
  rcases h.own.2 with ⟨e1, _⟩ | ⟨g', cap', cur, e1, hbg, hg, hc, hcm, hcs, htk⟩
  · cases e1
  · simp only [Value.slice.injEq, Option.some.injEq, Addr.mk.injEq, and_true] at e1
    obtain ⟨rfl, hn, rfl⟩ := e1
    rw [List.length_append, List.length_singleton] at hn hc htk
    have hn' : n = es.length := by omega
    subst hn'
    refine .inr ⟨g, cap, cur, rfl, hbg, hg, by omega, hcm, hcs, ?_⟩
    have h1 : cur.toList.take (es.length * sz) = (cur.toList.take ((es.length + 1) * sz)).take (es.length * sz) := by
      rw [List.take_take, Nat.min_eq_left (Nat.mul_le_mul_right _ (by omega))]
    rw [h1, htk, List.flatten_append, List.take_append_of_le_length (by rw [hl2]; exact Nat.le_refl _), List.take_of_length_le (by rw [hl2]; exact Nat.le_refl _)]
/-- A block just made, of one element. -/
theorem GRow.single {el : TypeId} {sz base : Nat} (w : World) (cs : List Value) (hcs : cs.length = sz) (hb : base ≤ w.heap.size) : GRow el sz base (w.alloc (.cells cs.toArray el)) (.slice (some ⟨w.heap.size, 0, none⟩) 1 1) [cs] := by
  refine ⟨⟨by simp [hcs], .inr ⟨w.heap.size, 1, cs.toArray, rfl, hb, World.alloc_heap_new _ _, Nat.le_refl _, by unfold maxLen; omega, by simp [hcs], ?_⟩⟩, fun x hx => by rw [List.mem_singleton.1 hx]; exact hcs⟩
  rw [show ([cs] : List (List Value)).flatten = cs by simp, List.take_of_length_le (by simp [hcs])]
end Go.Proofs.YtjmnaibbljakaaaGreatDoor

/- Graphs: the reference's Count and its reference of a type. -/
namespace Go.Proofs.YtjmnaibbljakaaaGreatDoor
open Go.RowKit Go.Deep Go.Shelf

set_option maxHeartbeats 2000000 in
theorem gcount_step (B : Nat → Prop) (k p s : Int) (n : ByteArray) (lv kv : Value) (ts : List Ty) (hts : Ty.sizes ts ≤ 1000000)
    (ih : ∀ t ∈ ts, ∀ (v : Value) (w : World), Low B w → TyVal B w v t → Calls Tryz.prog 60 #[v] w fun e w' => e = .returned (.int .i64 (t.gcnt : Int)) ∧ Below w.heap.size w w')
    (w : World) (hB : Low B w) (hk : TySl B w kv ts) :
    Calls Tryz.prog 60 #[.agg #[.int .i64 k, .int .i64 p, .string n, .int .i64 s, lv, kv]] w fun e w' => e = .returned (.int .i64 (((if k ≤ 7 then 1 else 0) + Ty.gcnts ts : Nat) : Int)) ∧ Below w.heap.size w w' := by
  obtain ⟨pa, len, c, rfl, hlen, hm, hget⟩ := hk.open
  have HG := Lib.hid hget
  clear hget hk
  obtain ⟨d, hd, hd1⟩ : ∃ d : Nat, (if k ≤ 7 then 1 else 0) = d ∧ d ≤ 1 := ⟨_, rfl, by split <;> omega⟩
  rw [hd]
  have HDD := Lib.hid hd
  clear hd
  by_cases h7 : k ≤ 7
  all_goals (
    have hkd : decide (k ≤ 7) = _ := rfl
    simp only [h7, decide_true, decide_false] at hkd
    go_enter Tryz.func60, Tryz.ntmps60
    go_wp2_with fail
    go_loopw [3, 4] (fun a i wr => ∃ j : Nat, i = .int .i64 j ∧ j ≤ len ∧ a = .int .i64 ((d + Ty.gcnts (ts.take j) : Nat) : Int) ∧ Below (w.heap.size + 1) (w.alloc (.cells #[.int .i64 k, .int .i64 p, .string n, .int .i64 s, lv, .slice pa len c] 25)) wr) (fun _ i _ => len - (intOf i).toNat)
    case atStart => exact ⟨0, rfl, by omega, ret_val (by rw [← HDD.out]; simp only [Ty.gcnts, List.take_zero, Nat.add_zero]; split <;> omega), Below.refl _ _⟩
    case round =>
      obtain ⟨j, rfl, hj, rfl, hb⟩ := hrel
      have c5 := blk_cell hb 5 rfl
      have hw := blk_below hb
      by_cases hlt : j < len
      · obtain ⟨t, ht⟩ : ∃ t, ts[j]? = some t := ⟨_, List.getElem?_eq_getElem (by rw [← hlen.out]; exact hlt)⟩
        obtain ⟨kb, ko, rfl, hkb, hty⟩ := HG.out j t ht
        obtain ⟨lv', kv', ⟨d0, d1, d2, d3, d4, d5⟩, hval⟩ := (hty.keep (hw.keeps'.mono hB)).load
        have hsz := Ty.gcnts_take ht
        have hle : Ty.gcnts (ts.take (j + 1)) ≤ 1000000 := Nat.le_trans (Ty.gcnts_le _) (Nat.le_trans (Ty.sizes_take_le ts (j + 1)) hts)
        have IH := Lib.hid (ih t (List.mem_of_getElem? ht) _ wr (hB.le hw.size) hval)
        obtain ⟨a0, ha0⟩ : ∃ a0, d + Ty.gcnts (ts.take j) = a0 := ⟨_, rfl⟩
        have HA := Lib.hid hsz
        have ha1 : a0 + t.gcnt ≤ 1000001 := by omega
        have HA0 := Lib.hid ha0
        rw [ha0]
        clear hsz ha0 ht hle
        go_wp2_with (go_at_call 60; refine IH.out.mono ?_; rintro e w1 ⟨rfl, hb1⟩)
        go_roundw
        case rel => exact ⟨j + 1, by go_num, by omega, ret_val (by rw [HA.out]; have := HA0.out; omega), hb.trans (hb1.mono (by have := hb.size; simpa using this))⟩
        case measure => simp [intOf]; omega
      · obtain rfl : j = len := by omega
        go_wp2_with fail
        go_ret
        exact ⟨ret_int (by rw [List.take_of_length_le (by rw [hlen.out]; exact Nat.le_refl _)]), hw⟩)
theorem gcount_any (B : Nat → Prop) : ∀ (t : Ty), t.size ≤ 1000000 → ∀ (v : Value) (w : World), Low B w → TyVal B w v t → Calls Tryz.prog 60 #[v] w fun e w' => e = .returned (.int .i64 (t.gcnt : Int)) ∧ Below w.heap.size w w' := by
  refine Ty.ind ?_
  intro k p n s ls ts ih hsz v w hB hv
  obtain ⟨lv, kv, rfl, _, _, hk⟩ := hv
  have h1 : Ty.sizes ts ≤ 1000000 := by rw [Ty.size_eq] at hsz; simp only [Ty.ts] at hsz; omega
  have := gcount_step B k p s n lv kv ts h1 (fun t ht => ih t ht (Nat.le_trans (Ty.size_mem ht) h1)) w hB hk
  rw [Ty.gcnt]; exact this

/-! ### reference -/
theorem lookE_names {x : ByteArray} {env : GEnv} : ∀ i, i ≤ env.length → (∀ j, i ≤ j → j < env.length → ∀ e, env[j]? = some e → e.1 ≠ x) → lookE x env = lookE x (env.take i) := by
  intro i hi h
  have hrest : lookE x (env.drop i) = none := by
    have : ∀ l : GEnv, (∀ e ∈ l, e.1 ≠ x) → lookE x l = none := by
      intro l
      induction l with
      | nil => intro _; rfl
      | cons a l ih =>
        intro hl
        obtain ⟨y, r⟩ := a
        rw [lookE, ih (fun e he => hl e (by simp [he]))]
        simp only []
        rw [if_neg (hl (y, r) (by simp))]
    refine this _ (fun e he => ?_)
    obtain ⟨j, hj⟩ := List.getElem?_of_mem he
    rw [List.getElem?_drop] at hj
    exact h (i + j) (by omega) (List.getElem?_eq_some_iff.1 hj).1 e hj
  have happ : ∀ (a b : GEnv), lookE x b = none → lookE x (a ++ b) = lookE x a := by
    intro a b hb
    induction a with
    | nil => rw [List.nil_append, hb]; rfl
    | cons c a ih => obtain ⟨y, r⟩ := c; rw [List.cons_append, lookE, lookE, ih]
  have := happ (env.take i) (env.drop i) hrest
  rwa [List.take_append_drop] at this
theorem lookE_hit {x : ByteArray} {env : GEnv} {i : Nat} {r : GRef} (h : env[i]? = some (x, r)) (hn : ∀ j, i < j → j < env.length → ∀ e, env[j]? = some e → e.1 ≠ x) : lookE x env = some r := by
  have hl := (List.getElem?_eq_some_iff.1 h).1
  rw [lookE_names (i + 1) (by omega) (fun j hj hjl e he => hn j (by omega) hjl e he), take_snoc_get h, lookE_snoc, if_pos rfl]
theorem lookE_miss {x : ByteArray} {env : GEnv} (hn : ∀ j, j < env.length → ∀ e, env[j]? = some e → e.1 ≠ x) : lookE x env = none := by
  rw [lookE_names 0 (by omega) (fun j _ hjl e he => hn j hjl e he)]; rfl
end Go.Proofs.YtjmnaibbljakaaaGreatDoor

/- Graphs: Reach. -/
namespace Go.Proofs.YtjmnaibbljakaaaGreatDoor
open Go.RowKit Go.Deep Go.Shelf

def natOf : Value → Nat | .int _ x => x.toNat | _ => 0
/-- The words that a block holds. -/
def wordsIn (W : World) (b : Nat) : List Nat := match W.heap[b]? with | some (.cells cs _ _) => cs.toList.map natOf | _ => []
theorem Words.in_ {W : World} {b : Nat} {ws : List Nat} (h : Words W b ws) : wordsIn W b = ws := by
  unfold wordsIn
  rw [h.at_]
  simp only [List.map_map]
  have : (natOf ∘ wordV) = id := by funext x; simp [natOf]
  rw [this, List.map_id]
theorem cntG_le (ns : List GNode) (S : Nat → Bool) : cntG ns S ≤ ns.length := by unfold cntG; refine Nat.le_trans (List.length_filter_le _ _) ?_; simp
def lenOfV : Value → Nat | .slice _ n _ => n | _ => 0
/-- The two boxes of Reach. -/
structure Boxes (W : World) (b : Nat) (g : Value) (x y : Value) : Prop where
  g : W.heap[b]? = some (.cells #[g] 32 (0, 0))
  r : W.heap[b + 1]? = some (refBox x y)
theorem Boxes.same {W W' : World} {b : Nat} {g x y : Value} (h : Boxes W b g x y) (e : ∀ k, k < b + 2 → W'.heap[k]? = W.heap[k]?) : Boxes W' b g x y := ⟨(e b (by omega)).trans h.g, (e (b + 1) (by omega)).trans h.r⟩
theorem Boxes.cells {W : World} {b : Nat} {g x y : Value} (h : Boxes W b g x y) : W.cell? ⟨b, 0, none⟩ = some g ∧ W.cell? ⟨b + 1, 0, none⟩ = some x ∧ W.cell? ⟨b + 1, 1, none⟩ = some y := by
  obtain ⟨h1, h2, _⟩ := two_cells h.r
  exact ⟨by simp [World.cell?, h.g], h1, h2⟩
theorem after_add {w wr w5 : World} {sb : Nat} {ws : List Nat} {v g x y a b : Value} {es : List (List Value)} (hW : Words wr sb ws) (hB : Below w.heap.size w wr) (hg : (wr.alloc (refBox a b)).grownBy w5 (some sb)) (hsb : w.heap.size + 2 ≤ sb)
    (hR : GRow 3 1 w.heap.size wr v es) (hX : Boxes wr w.heap.size g x y) :
    GRow 3 1 w.heap.size w5 v es ∧ Boxes w5 w.heap.size g x y ∧ Below w.heap.size w w5 ∧ w5.heap[wr.heap.size]? = some (refBox a b) := by
  have hlt : sb < wr.heap.size := (Array.getElem?_eq_some_iff.1 hW.at_).1
  have hal : ∀ k, k < wr.heap.size → (wr.alloc (refBox a b)).heap[k]? = wr.heap[k]? := fun k hk => Below.heap_alloc _ _ _ hk
  have hx1 := (Array.getElem?_eq_some_iff.1 hX.r).1
  have hsz := hB.size
  refine ⟨?_, ?_, ?_, ?_⟩
  · refine hR.kept (fun k hk => ?_)
    have hkl := (hR.lt k hk).2
    refine (hg.block k (by simp; omega) (fun e => ?_)).trans (hal k hkl)
    obtain rfl := Option.some.inj e
    exact hR.ne hW.at_ (by decide) hk.symm
  · refine hX.same (fun k hk => (hg.block k (by simp; omega) (fun e => ?_)).trans (hal k (by omega)))
    have := Option.some.inj e; omega
  · exact (hB.alloc hsz _).grown hg (by simp; omega) (fun k e => by cases e; omega)
  · refine (hg.block _ (by simp) (fun e => ?_)).trans (World.alloc_heap_new _ _)
    have := Option.some.inj e; omega
theorem filter_range {S : Nat → Bool} {L M : Nat} (hLM : L ≤ M) (h : ∀ n, S n = true → n < L) : (List.range M).filter S = (List.range L).filter S := by
  obtain ⟨d, rfl⟩ : ∃ d, M = L + d := ⟨M - L, by omega⟩
  rw [List.range_add, List.filter_append]
  have : ((List.range d).map (L + ·)).filter S = [] := by
    rw [List.filter_eq_nil_iff]
    intro x hx hS
    obtain ⟨y, _, rfl⟩ := List.mem_map.1 hx
    have := h _ hS
    omega
  rw [this, List.append_nil]

end Go.Proofs.YtjmnaibbljakaaaGreatDoor

/- Processes: Copy. -/
namespace Go.Proofs.YtjmnaibbljakaaaGreatDoor
open Go.RowKit Go.Deep

mutual
/-- Processes whose lists are not too long. -/
def Pr.mod : Pr → Prop
  | .mk _ _ _ ls vs t ps => ls.length ≤ 400000000 ∧ vs.length ≤ 400000000 ∧ ps.length ≤ 65536 ∧ t.modc ∧ Pr.mods ps
def Pr.mods : List Pr → Prop
  | [] => True
  | p :: r => p.mod ∧ Pr.mods r
end
theorem Pr.mods_mem : ∀ {l : List Pr}, Pr.mods l → ∀ p ∈ l, p.mod
  | [], _, _, h => by cases h
  | u :: r, h, p, hp => by
    simp only [Pr.mods] at h
    rcases List.mem_cons.1 hp with rfl | hp
    · exact h.1
    · exact Pr.mods_mem h.2 p hp
/-- A process in new memory is returned. -/
def PrRet (w : World) (p : Pr) (e : Ending) (w' : World) : Prop :=
  ∃ la ln lc aa an ac ta tn tc ua un uc ka kn kc, e = .returned (prAgg p (.slice la ln lc) (.slice aa an ac) (.slice ta tn tc) (.slice ua un uc) (.slice ka kn kc)) ∧
    PrVal (Fresh w.heap.size w'.heap.size) w' (prAgg p (.slice la ln lc) (.slice aa an ac) (.slice ta tn tc) (.slice ua un uc) (.slice ka kn kc)) p ∧ Below w.heap.size w w'

section
variable {w w' : World} {b : Nat} {a0 a1 a2 a3 a4 a5 a6 a7 a8 a9 a10 a11 : Value}
end
/-- The cells of a process, a list. -/
def prCellsL (p : Pr) (lv av tl tk kv : Value) : List Value := [.int .i64 p.k, .string p.c, .string p.x, lv, av, .int .i64 p.t.k, .int .i64 p.t.p, .string p.t.n, .int .i64 p.t.s, tl, tk, kv]
theorem setCells12 (w : World) (g o : Nat) (a b c d e f a' b' c' d' e' f' : Value) : w.setCells g o [a, b, c, d, e, f, a', b', c', d', e', f'] =
    (((((((((((w.setCell ⟨g, o, none⟩ a).setCell ⟨g, o + 1, none⟩ b).setCell ⟨g, o + 2, none⟩ c).setCell ⟨g, o + 3, none⟩ d).setCell ⟨g, o + 4, none⟩ e).setCell ⟨g, o + 5, none⟩ f).setCell ⟨g, o + 6, none⟩ a').setCell ⟨g, o + 7, none⟩ b').setCell ⟨g, o + 8, none⟩ c').setCell ⟨g, o + 9, none⟩ d').setCell ⟨g, o + 10, none⟩ e').setCell ⟨g, o + 11, none⟩ f' := rfl
/-- Stores into one block of the call's own leave what lies in others. -/
theorem keeps_setCells {F : Nat → Prop} {w : World} {c : Nat} (h : ∀ k, F k → k ≠ c) (vs : List Value) (o : Nat) : Keeps F w (w.setCells c o vs) := fun k _ hk ho _ => (heap_setCells_other (h k hk) _ _ _).trans ho

end Go.Proofs.YtjmnaibbljakaaaGreatDoor

/- Processes: Copy, walked. -/
namespace Go.Proofs.YtjmnaibbljakaaaGreatDoor
open Go.RowKit Go.Deep

theorem ty_slices {B : Nat → Prop} {w : World} {t : Ty} {k p s : Int} {n : ByteArray} {tl tk : Value} (h : TyVal B w (.agg #[.int .i64 k, .int .i64 p, .string n, .int .i64 s, tl, tk]) t) : (∃ (a : Option Addr) (n c : Nat), tl = .slice a n c) ∧ ∃ (a : Option Addr) (n c : Nat), tk = .slice a n c := by
  obtain ⟨lv', kv', e, _, hl, hk2⟩ := h
  simp only [Value.agg.injEq, Array.mk.injEq, List.cons.injEq, and_true] at e
  obtain ⟨_, _, _, _, rfl, rfl⟩ := e
  obtain ⟨a, n, c, e, _⟩ := hl.open
  obtain ⟨a', n', c', e', _⟩ := hk2.open
  exact ⟨⟨a, n, c, e⟩, a', n', c', e'⟩
end Go.Proofs.YtjmnaibbljakaaaGreatDoor

/- Programs: a datatype for them, and how they lie in memory. -/
namespace Go.Proofs.YtjmnaibbljakaaaGreatDoor
open Go.RowKit

structure Pm where
  n : ByteArray
  t : Ty
structure Df where
  n : ByteArray
  ms : List Pm
  b : Pr
structure Pg where
  ds : List Df
  m : Pr

/-- A parameter lies at cell o of block b. -/
def PmAt (B : Nat → Prop) (w : World) (a : Pm) (b o : Nat) : Prop := a.n.size ≤ maxLen ∧ w.cell? ⟨b, o, none⟩ = some (.string a.n) ∧ TyAt B w a.t b (o + 1)
theorem PmAt.keep {B : Nat → Prop} {w w' : World} (h : Keeps B w w') {a : Pm} {b o : Nat} (hb : B b) (ha : PmAt B w a b o) : PmAt B w' a b o := ⟨ha.1, h.cell hb ha.2.1, ha.2.2.keep h⟩
theorem PmAt.mono {B C : Nat → Prop} {w : World} (h : ∀ k, B k → C k) {a : Pm} {b o : Nat} (ha : PmAt B w a b o) : PmAt C w a b o := ⟨ha.1, ha.2.1, ha.2.2.mono h⟩
/-- A value that is a slice of parameters. -/
def PmSl (B : Nat → Prop) (w : World) (v : Value) (l : List Pm) : Prop :=
  (((∃ a c, v = .slice a 0 c) ∧ l = []) ∨ ∃ b o c, v = .slice (some ⟨b, o, none⟩) l.length c ∧ B b ∧ ∀ (j : Nat) (a : Pm), l[j]? = some a → PmAt B w a b (o + j * 7)) ∧ l.length ≤ maxLen
theorem PmSl.keep {B : Nat → Prop} {w w' : World} (h : Keeps B w w') {v : Value} {l : List Pm} (hv : PmSl B w v l) : PmSl B w' v l := by
  refine ⟨?_, hv.2⟩
  rcases hv.1 with h1 | ⟨b, o, c, h1, h2, h3⟩
  · exact .inl h1
  · exact .inr ⟨b, o, c, h1, h2, fun j a hj => PmAt.keep h h2 (h3 j a hj)⟩
theorem PmSl.mono {B C : Nat → Prop} {w : World} (h : ∀ k, B k → C k) {v : Value} {l : List Pm} (hv : PmSl B w v l) : PmSl C w v l := by
  refine ⟨?_, hv.2⟩
  rcases hv.1 with h1 | ⟨b, o, c, h1, h2, h3⟩
  · exact .inl h1
  · exact .inr ⟨b, o, c, h1, h _ h2, fun j a hj => PmAt.mono h (h3 j a hj)⟩
theorem PmSl.open {B : Nat → Prop} {w : World} {v : Value} {l : List Pm} (h : PmSl B w v l) :
    ∃ pa len c, v = .slice pa len c ∧ Hid (len = l.length) ∧ len ≤ 9223372036854775807 ∧ ∀ i a, l[i]? = some a → ∃ kb ko, pa = some ⟨kb, ko, none⟩ ∧ B kb ∧ PmAt B w a kb (ko + i * 7) := by
  obtain ⟨h, hm⟩ := h
  unfold maxLen at hm
  rcases h with ⟨⟨a, c, rfl⟩, rfl⟩ | ⟨kb, ko, c, rfl, hkb, hrow⟩
  · exact ⟨a, 0, c, rfl, Lib.hid rfl, by omega, fun i t hi => by simp at hi⟩
  · exact ⟨_, _, _, rfl, Lib.hid rfl, by omega, fun i t hi => ⟨kb, ko, rfl, hkb, hrow i t hi⟩⟩

/-- A definition lies at cell o of block b. -/
def DfAt (B : Nat → Prop) (w : World) (d : Df) (b o : Nat) : Prop := d.n.size ≤ maxLen ∧ w.cell? ⟨b, o, none⟩ = some (.string d.n) ∧ (∃ mv, w.cell? ⟨b, o + 1, none⟩ = some mv ∧ PmSl B w mv d.ms) ∧ PrAt B w d.b b (o + 2)
theorem DfAt.keep {B : Nat → Prop} {w w' : World} (h : Keeps B w w') {a : Df} {b o : Nat} (hb : B b) (ha : DfAt B w a b o) : DfAt B w' a b o := by
  obtain ⟨h1, h2, ⟨mv, h3, h4⟩, h5⟩ := ha
  exact ⟨h1, h.cell hb h2, ⟨mv, h.cell hb h3, h4.keep h⟩, PrAt.keep h _ _ _ h5⟩
theorem DfAt.mono {B C : Nat → Prop} {w : World} (h : ∀ k, B k → C k) {a : Df} {b o : Nat} (ha : DfAt B w a b o) : DfAt C w a b o := by
  obtain ⟨h1, h2, ⟨mv, h3, h4⟩, h5⟩ := ha
  exact ⟨h1, h2, ⟨mv, h3, h4.mono h⟩, PrAt.mono h _ _ _ h5⟩
/-- A value that is a slice of definitions. -/
def DfSl (B : Nat → Prop) (w : World) (v : Value) (l : List Df) : Prop :=
  (((∃ a c, v = .slice a 0 c) ∧ l = []) ∨ ∃ b o c, v = .slice (some ⟨b, o, none⟩) l.length c ∧ B b ∧ ∀ (j : Nat) (a : Df), l[j]? = some a → DfAt B w a b (o + j * 14)) ∧ l.length ≤ maxLen
theorem DfSl.keep {B : Nat → Prop} {w w' : World} (h : Keeps B w w') {v : Value} {l : List Df} (hv : DfSl B w v l) : DfSl B w' v l := by
  refine ⟨?_, hv.2⟩
  rcases hv.1 with h1 | ⟨b, o, c, h1, h2, h3⟩
  · exact .inl h1
  · exact .inr ⟨b, o, c, h1, h2, fun j a hj => DfAt.keep h h2 (h3 j a hj)⟩
theorem DfSl.mono {B C : Nat → Prop} {w : World} (h : ∀ k, B k → C k) {v : Value} {l : List Df} (hv : DfSl B w v l) : DfSl C w v l := by
  refine ⟨?_, hv.2⟩
  rcases hv.1 with h1 | ⟨b, o, c, h1, h2, h3⟩
  · exact .inl h1
  · exact .inr ⟨b, o, c, h1, h _ h2, fun j a hj => DfAt.mono h (h3 j a hj)⟩
theorem DfSl.open {B : Nat → Prop} {w : World} {v : Value} {l : List Df} (h : DfSl B w v l) :
    ∃ pa len c, v = .slice pa len c ∧ Hid (len = l.length) ∧ len ≤ 9223372036854775807 ∧ ∀ i a, l[i]? = some a → ∃ kb ko, pa = some ⟨kb, ko, none⟩ ∧ B kb ∧ DfAt B w a kb (ko + i * 14) := by
  obtain ⟨h, hm⟩ := h
  unfold maxLen at hm
  rcases h with ⟨⟨a, c, rfl⟩, rfl⟩ | ⟨kb, ko, c, rfl, hkb, hrow⟩
  · exact ⟨a, 0, c, rfl, Lib.hid rfl, by omega, fun i t hi => by simp at hi⟩
  · exact ⟨_, _, _, rfl, Lib.hid rfl, by omega, fun i t hi => ⟨kb, ko, rfl, hkb, hrow i t hi⟩⟩

/-- A program lies at cell o of block b. -/
def PgAt (B : Nat → Prop) (w : World) (g : Pg) (b o : Nat) : Prop := B b ∧ (∃ dv, w.cell? ⟨b, o, none⟩ = some dv ∧ DfSl B w dv g.ds) ∧ PrAt B w g.m b (o + 1)
theorem PgAt.keep {B : Nat → Prop} {w w' : World} (h : Keeps B w w') {g : Pg} {b o : Nat} (hg : PgAt B w g b o) : PgAt B w' g b o := by
  obtain ⟨hb, ⟨dv, h1, h2⟩, h3⟩ := hg
  exact ⟨hb, ⟨dv, h.cell hb h1, h2.keep h⟩, PrAt.keep h _ _ _ h3⟩
/-- A value that is a program. -/
def PgVal (B : Nat → Prop) (w : World) (v : Value) (g : Pg) : Prop :=
  ∃ dv lv av tl tk kv, v = .agg #[dv, .int .i64 g.m.k, .string g.m.c, .string g.m.x, lv, av, .int .i64 g.m.t.k, .int .i64 g.m.t.p, .string g.m.t.n, .int .i64 g.m.t.s, tl, tk, kv] ∧ DfSl B w dv g.ds ∧ PrVal B w (prAgg g.m lv av tl tk kv) g.m
theorem PgVal.keep {B : Nat → Prop} {w w' : World} (h : Keeps B w w') {v : Value} {g : Pg} (hv : PgVal B w v g) : PgVal B w' v g := by
  obtain ⟨dv, lv, av, tl, tk, kv, e, hd, hp⟩ := hv
  exact ⟨dv, lv, av, tl, tk, kv, e, hd.keep h, hp.keep h⟩
theorem PgVal.mono {B C : Nat → Prop} {w : World} (h : ∀ k, B k → C k) {v : Value} {g : Pg} (hv : PgVal B w v g) : PgVal C w v g := by
  obtain ⟨dv, lv, av, tl, tk, kv, e, hd, hp⟩ := hv
  exact ⟨dv, lv, av, tl, tk, kv, e, hd.mono h, hp.mono h⟩
theorem PgVal.to {B : Nat → Prop} {C : Nat} {w w' : World} (hBC : ∀ k, B k → k < C) (hb : Below C w w') {v : Value} {g : Pg} (hv : PgVal B w v g) : PgVal B w' v g := hv.keep (hb.keeps'.mono hBC)

end Go.Proofs.YtjmnaibbljakaaaGreatDoor

/- Processes: lists of values compared, by the program. -/
namespace Go.Proofs.YtjmnaibbljakaaaGreatDoor
open Go.RowKit

noncomputable def eqV (vs vs' : List Vl) : Bool := @decide (vs = vs') (Classical.propDecidable _)
theorem eqV_true {t u : List Vl} : eqV t u = true ↔ t = u := by unfold eqV; simp
theorem eqV_ne {t u : List Vl} (h : t ≠ u) : eqV t u = false := by
  cases e : eqV t u with
  | false => rfl
  | true => exact absurd (eqV_true.1 e) h

end Go.Proofs.YtjmnaibbljakaaaGreatDoor

/- Types: the program's table of rules, made. -/
namespace Go.Proofs.YtjmnaibbljakaaaGreatDoor
open Go.RowKit

end Go.Proofs.YtjmnaibbljakaaaGreatDoor
