/- A map of one's own, told by what its look-ups give; the program's rules. -/
import Derived.Test.YtfmadgoieppmkaaDoorTyRd
namespace Go.Proofs.YtfmadgoieppmkaaDoor
open Go.RowKit

/-- An entry reads as it is. -/
def asIs (v : Value) : Option (DataW Value × List MemPlace) := some (.held v, [])
/-- Block b is a map, of at most n entries, in which the key l has the value f l. -/
def MapIs (w : World) (k : TypeId) (b n : Nat) (f : Lit → Option Value) : Prop :=
  ∃ D : DataW Value, w.ownsMap Tryd.prog k asIs b n D ∧ ∀ l, Maps.has D l = (f l).isSome ∧ ∀ v, f l = some v → ∀ z, D.atKey l z = .held v
theorem MapIs.made (w : World) (k : TypeId) : MapIs (w.alloc (.map #[] 0)) k w.heap.size 0 (fun _ => none) :=
  ⟨.map [], World.ownsMap_made w _ _ _, fun _ => ⟨rfl, fun _ h => by cases h⟩⟩
theorem MapIs.congr {w : World} {k : TypeId} {b n : Nat} {f g : Lit → Option Value} (h : MapIs w k b n f) (e : ∀ l, f l = g l) : MapIs w k b n g := by
  obtain ⟨D, ho, hf⟩ := h
  exact ⟨D, ho, fun l => by rw [← e l]; exact hf l⟩
theorem MapIs.lt {w : World} {k : TypeId} {b n : Nat} {f : Lit → Option Value} (h : MapIs w k b n f) : b < w.heap.size := by
  obtain ⟨D, ho, _⟩ := h; exact ho.lt
theorem MapIs.kept {w w' : World} {k : TypeId} {b n : Nat} {f : Lit → Option Value} (h : MapIs w k b n f) {row : Option Nat} (hg : w.grownBy w' row) (hne : some b ≠ row) : MapIs w' k b n f := by
  obtain ⟨D, ho, hf⟩ := h; exact ⟨D, ho.kept hg hne, hf⟩
theorem MapIs.below {w w' : World} {k : TypeId} {b n m : Nat} {f : Lit → Option Value} (h : MapIs w k b n f) (hb : Below m w w') (hm : b < m) : MapIs w' k b n f := by
  obtain ⟨D, ⟨es, clock, h1, r⟩, hf⟩ := h
  exact ⟨D, ⟨es, clock, (hb.block b hm).trans h1, r⟩, hf⟩
open Classical in
theorem MapIs.put {w : World} {k : TypeId} {b n : Nat} {f : Lit → Option Value} (h : MapIs w k b n f) (K : Maps.Keyed Tryd.prog k) {t e : TypeId} (ht : Tryd.prog.underlying t = some (.map k e)) (hn : n < maxLen) {key val : Value} {kl : Lit} (hkey : keyOf Tryd.prog k key = some kl) (hkl : WideAt.IsKeyLit kl) :
    ∃ w', (Instr.mapUpdate t (.map (some b)) key val).run Tryd.prog w = .ok () w' ∧ MapIs w' k b (n + 1) (fun l => if l = kl then some val else f l) ∧ w.grownBy w' (some b) := by
  obtain ⟨D, ho, hf⟩ := h
  obtain ⟨w', hr, ho', htn⟩ := ho.store K ht hn hkey (d := .held val) (ps := []) rfl
  refine ⟨w', hr, ⟨_, ho', fun l => ?_⟩, htn.grown⟩
  by_cases e : l = kl
  · subst e
    simp only [if_true]
    exact ⟨by rw [Maps.has_put_same ho.isMap hkl]; rfl, fun v hv z => by rw [Maps.atKey_put_same ho.isMap hkl]; cases hv; rfl⟩
  · simp only [if_neg e]
    rw [Maps.has_put_other e]
    exact ⟨(hf l).1, fun v hv z => by rw [Maps.atKey_put_other e]; exact (hf l).2 v hv z⟩
set_option maxRecDepth 100000 in
theorem MapIs.look {w : World} {k : TypeId} {b n : Nat} {f : Lit → Option Value} (h : MapIs w k b n f) (K : Maps.Keyed Tryd.prog k) {t e : TypeId} (ht : Tryd.prog.underlying t = some (.map k e)) {z : Value} (hz : (zeroValue e).run Tryd.prog w = .ok z w) {key : Value} {kl : Lit} (hkey : keyOf Tryd.prog k key = some kl) :
    (Instr.lookup t (.map (some b)) key false).run Tryd.prog w = .ok ((f kl).getD z) w := by
  obtain ⟨D, ho, hf⟩ := h
  obtain ⟨v, ps, hr, hv⟩ := ho.lookup K ht hz (zd := .held z) (zp := []) rfl hkey
  rw [hr]
  obtain ⟨h1, h2⟩ := hf kl
  have hv' : DataW.held v = D.atKey kl (.held z) := by
    simp only [asIs, Option.some.injEq, Prod.mk.injEq] at hv; exact hv.1
  refine congrArg (fun x => Result.ok x w) ?_
  cases hfk : f kl with
  | none =>
    rw [hfk] at h1
    rw [Maps.atKey_of_not_has h1] at hv'
    exact DataW.held.inj hv'
  | some u =>
    rw [h2 u hfk] at hv'
    exact DataW.held.inj hv'
set_option maxRecDepth 100000 in
theorem MapIs.look_ok {w : World} {k : TypeId} {b n : Nat} {f : Lit → Option Value} (h : MapIs w k b n f) (K : Maps.Keyed Tryd.prog k) {t e : TypeId} (ht : Tryd.prog.underlying t = some (.map k e)) {z : Value} (hz : (zeroValue e).run Tryd.prog w = .ok z w) {key : Value} {kl : Lit} (hkey : keyOf Tryd.prog k key = some kl) :
    (Instr.lookup t (.map (some b)) key true).run Tryd.prog w = .ok (.tuple #[(f kl).getD z, .bool (f kl).isSome]) w := by
  obtain ⟨D, ho, hf⟩ := h
  obtain ⟨v, ps, hr, hv⟩ := ho.look_ok K ht hz (zd := .held z) (zp := []) rfl hkey
  obtain ⟨h1, h2⟩ := hf kl
  rw [hr, h1]
  have hv' : DataW.held v = D.atKey kl (.held z) := by
    simp only [asIs, Option.some.injEq, Prod.mk.injEq] at hv; exact hv.1
  have : v = (f kl).getD z := by
    cases hfk : f kl with
    | none =>
      rw [hfk] at h1
      rw [Maps.atKey_of_not_has h1] at hv'
      exact DataW.held.inj hv'
    | some u =>
      rw [h2 u hfk] at hv'
      exact DataW.held.inj hv'
  rw [this]

/-! ### The rules -/
def knK (k : Int) : Bool := decide (1 ≤ k) && decide (k ≤ 9)
def r2K (k : Int) : Bool := k == 8 || k == 9
def r3K (k : Int) : Bool := k == 9
def r4K (k : Int) : Bool := k == 6 || k == 7
def kidsK (k : Int) : Int := if k = 4 ∨ k = 5 then 2 else if k = 8 then 1 else 0
abbrev ruleVal (k : Int) : Value := .agg #[.bool (actB k), .bool (r2K k), .bool (r3K k), .bool (r4K k), .int .i64 (kidsK k), .int .i64 (paysK k)]
def ruleF : Lit → Option Value
  | .int .i64 k => if knK k then some (ruleVal k) else none
  | _ => none
def RulesAt (w : World) (b : Nat) : Prop := MapIs w 3 b 9 ruleF
abbrev rule0 : Value := .agg #[.bool false, .bool false, .bool false, .bool false, .int .i64 0, .int .i64 0]
theorem ruleInfo : (Tryd.prog.info? 107).map (fun i => (i.zero, i.size, i.bytes)) = some (some rule0, 6, 24) := by kernel_rfl
theorem zero_rule (w : World) : (zeroValue 107).run Tryd.prog w = .ok rule0 w := by
  obtain ⟨i0, hi, hz0, hz1, hz2⟩ := info_parts ruleInfo
  simp [zeroValue, typeInfo, hi, hz0]
theorem intKeyed : Maps.Keyed Tryd.prog 3 := Maps.int_keyed Tryd.underlying3
theorem wf64 {a : Int} (h1 : -9223372036854775808 ≤ a) (h2 : a ≤ 9223372036854775807) : (Lit.int .i64 a).wf = true := by
  unfold Lit.wf
  rw [Bool.and_eq_true, decide_eq_true_eq, decide_eq_true_eq]
  exact ⟨h1, h2⟩
theorem key_int {a : Int} (h1 : -9223372036854775808 ≤ a) (h2 : a ≤ 9223372036854775807) : keyOf Tryd.prog 3 (.int .i64 a) = some (.int .i64 a) := Maps.keyOf_int_mk Tryd.underlying3 (wf64 h1 h2)
theorem rule_unknown {k : Int} (h : knK k = false) : ruleVal k = rule0 := by
  have h1 : ¬ (1 ≤ k ∧ k ≤ 9) := by simpa [knK] using h
  have a1 : actB k = false := by rw [Bool.eq_false_iff]; intro e; rw [actB_iff] at e; omega
  have a2 : r2K k = false := by simp [r2K]; omega
  have a3 : r3K k = false := by simp [r3K]; omega
  have a4 : r4K k = false := by simp [r4K]; omega
  have a5 : kidsK k = 0 := by unfold kidsK; rw [if_neg (by omega), if_neg (by omega)]
  have a6 : paysK k = 0 := by unfold paysK; rw [if_neg (by omega)]
  unfold ruleVal rule0
  rw [a1, a2, a3, a4, a5, a6]
theorem RulesAt.look {w : World} {b : Nat} (h : RulesAt w b) {k : Int} (h1 : -9223372036854775808 ≤ k) (h2 : k ≤ 9223372036854775807) : (Instr.lookup 61 (.map (some b)) (.int .i64 k) false).run Tryd.prog w = .ok (ruleVal k) w := by
  rw [MapIs.look h intKeyed Tryd.underlying61 (zero_rule w) (key_int h1 h2)]
  simp only [ruleF]
  cases hk : knK k with
  | true => rfl
  | false => rw [rule_unknown hk]; rfl
theorem RulesAt.look_ok {w : World} {b : Nat} (h : RulesAt w b) {k : Int} (h1 : -9223372036854775808 ≤ k) (h2 : k ≤ 9223372036854775807) : (Instr.lookup 61 (.map (some b)) (.int .i64 k) true).run Tryd.prog w = .ok (.tuple #[ruleVal k, .bool (knK k)]) w := by
  rw [MapIs.look_ok h intKeyed Tryd.underlying61 (zero_rule w) (key_int h1 h2)]
  simp only [ruleF]
  cases hk : knK k with
  | true => rfl
  | false => rw [rule_unknown hk]; rfl

/-- What the rule of a kind says of a node is its shape. -/
theorem fits_shape (t : Ty) (h : knK t.k = true) : fitsB (actB t.k) (r2K t.k) (r3K t.k) (r4K t.k) (kidsK t.k) t = t.shape := by
  have hk : 1 ≤ t.k ∧ t.k ≤ 9 := by simpa [knK] using h
  have hcase : t.k = 1 ∨ t.k = 2 ∨ t.k = 3 ∨ t.k = 4 ∨ t.k = 5 ∨ t.k = 6 ∨ t.k = 7 ∨ t.k = 8 ∨ t.k = 9 := by omega
  unfold fitsB Ty.shape shapeC numB namB listsB
  rcases hcase with e | e | e | e | e | e | e | e | e <;> rw [e] <;> simp [actB, r2K, r3K, r4K, kidsK] <;> (try rw [Bool.eq_iff_iff]) <;> (try simp) <;> (try omega) <;> (try grind)
theorem shape_unknown (t : Ty) (h : knK t.k = false) : t.shape = false := by
  have h1 : ¬ (1 ≤ t.k ∧ t.k ≤ 9) := by simpa [knK] using h
  unfold Ty.shape shapeC
  rw [if_neg (by omega), if_neg (by omega), if_neg (by omega), if_neg (by omega), if_neg (by omega)]

end Go.Proofs.YtfmadgoieppmkaaDoor
