/- Programs: a datatype for them, and how they lie in memory. -/
import Derived.Test.YtipjjhkgcbabnaaDoorPrM
namespace Go.Proofs.YtipjjhkgcbabnaaDoor
open Go.RowKit

structure Pm where
  n : ByteArray
  t : Ty
structure Df where
  n : ByteArray
  ms : List Pm
  b : Pr
structure Pg where
  ds : List Df
  m : Pr

/-- A parameter lies at cell o of block b. -/
def PmAt (B : Nat → Prop) (w : World) (a : Pm) (b o : Nat) : Prop := a.n.size ≤ maxLen ∧ w.cell? ⟨b, o, none⟩ = some (.string a.n) ∧ TyAt B w a.t b (o + 1)
theorem PmAt.keep {B : Nat → Prop} {w w' : World} (h : Keeps B w w') {a : Pm} {b o : Nat} (hb : B b) (ha : PmAt B w a b o) : PmAt B w' a b o := ⟨ha.1, h.cell hb ha.2.1, ha.2.2.keep h⟩
theorem PmAt.mono {B C : Nat → Prop} {w : World} (h : ∀ k, B k → C k) {a : Pm} {b o : Nat} (ha : PmAt B w a b o) : PmAt C w a b o := ⟨ha.1, ha.2.1, ha.2.2.mono h⟩
/-- A value that is a slice of parameters. -/
def PmSl (B : Nat → Prop) (w : World) (v : Value) (l : List Pm) : Prop :=
  (((∃ a c, v = .slice a 0 c) ∧ l = []) ∨ ∃ b o c, v = .slice (some ⟨b, o, none⟩) l.length c ∧ B b ∧ ∀ (j : Nat) (a : Pm), l[j]? = some a → PmAt B w a b (o + j * 7)) ∧ l.length ≤ maxLen
theorem PmSl.keep {B : Nat → Prop} {w w' : World} (h : Keeps B w w') {v : Value} {l : List Pm} (hv : PmSl B w v l) : PmSl B w' v l := by
  refine ⟨?_, hv.2⟩
  rcases hv.1 with h1 | ⟨b, o, c, h1, h2, h3⟩
  · exact .inl h1
  · exact .inr ⟨b, o, c, h1, h2, fun j a hj => PmAt.keep h h2 (h3 j a hj)⟩
theorem PmSl.mono {B C : Nat → Prop} {w : World} (h : ∀ k, B k → C k) {v : Value} {l : List Pm} (hv : PmSl B w v l) : PmSl C w v l := by
  refine ⟨?_, hv.2⟩
  rcases hv.1 with h1 | ⟨b, o, c, h1, h2, h3⟩
  · exact .inl h1
  · exact .inr ⟨b, o, c, h1, h _ h2, fun j a hj => PmAt.mono h (h3 j a hj)⟩
theorem PmSl.open {B : Nat → Prop} {w : World} {v : Value} {l : List Pm} (h : PmSl B w v l) :
    ∃ pa len c, v = .slice pa len c ∧ Hid (len = l.length) ∧ len ≤ 9223372036854775807 ∧ ∀ i a, l[i]? = some a → ∃ kb ko, pa = some ⟨kb, ko, none⟩ ∧ B kb ∧ PmAt B w a kb (ko + i * 7) := by
  obtain ⟨h, hm⟩ := h
  unfold maxLen at hm
  rcases h with ⟨⟨a, c, rfl⟩, rfl⟩ | ⟨kb, ko, c, rfl, hkb, hrow⟩
  · exact ⟨a, 0, c, rfl, Lib.hid rfl, by omega, fun i t hi => by simp at hi⟩
  · exact ⟨_, _, _, rfl, Lib.hid rfl, by omega, fun i t hi => ⟨kb, ko, rfl, hkb, hrow i t hi⟩⟩

/-- A definition lies at cell o of block b. -/
def DfAt (B : Nat → Prop) (w : World) (d : Df) (b o : Nat) : Prop := d.n.size ≤ maxLen ∧ w.cell? ⟨b, o, none⟩ = some (.string d.n) ∧ (∃ mv, w.cell? ⟨b, o + 1, none⟩ = some mv ∧ PmSl B w mv d.ms) ∧ PrAt B w d.b b (o + 2)
theorem DfAt.keep {B : Nat → Prop} {w w' : World} (h : Keeps B w w') {a : Df} {b o : Nat} (hb : B b) (ha : DfAt B w a b o) : DfAt B w' a b o := by
  obtain ⟨h1, h2, ⟨mv, h3, h4⟩, h5⟩ := ha
  exact ⟨h1, h.cell hb h2, ⟨mv, h.cell hb h3, h4.keep h⟩, PrAt.keep h _ _ _ h5⟩
theorem DfAt.mono {B C : Nat → Prop} {w : World} (h : ∀ k, B k → C k) {a : Df} {b o : Nat} (ha : DfAt B w a b o) : DfAt C w a b o := by
  obtain ⟨h1, h2, ⟨mv, h3, h4⟩, h5⟩ := ha
  exact ⟨h1, h2, ⟨mv, h3, h4.mono h⟩, PrAt.mono h _ _ _ h5⟩
/-- A value that is a slice of definitions. -/
def DfSl (B : Nat → Prop) (w : World) (v : Value) (l : List Df) : Prop :=
  (((∃ a c, v = .slice a 0 c) ∧ l = []) ∨ ∃ b o c, v = .slice (some ⟨b, o, none⟩) l.length c ∧ B b ∧ ∀ (j : Nat) (a : Df), l[j]? = some a → DfAt B w a b (o + j * 14)) ∧ l.length ≤ maxLen
theorem DfSl.keep {B : Nat → Prop} {w w' : World} (h : Keeps B w w') {v : Value} {l : List Df} (hv : DfSl B w v l) : DfSl B w' v l := by
  refine ⟨?_, hv.2⟩
  rcases hv.1 with h1 | ⟨b, o, c, h1, h2, h3⟩
  · exact .inl h1
  · exact .inr ⟨b, o, c, h1, h2, fun j a hj => DfAt.keep h h2 (h3 j a hj)⟩
theorem DfSl.mono {B C : Nat → Prop} {w : World} (h : ∀ k, B k → C k) {v : Value} {l : List Df} (hv : DfSl B w v l) : DfSl C w v l := by
  refine ⟨?_, hv.2⟩
  rcases hv.1 with h1 | ⟨b, o, c, h1, h2, h3⟩
  · exact .inl h1
  · exact .inr ⟨b, o, c, h1, h _ h2, fun j a hj => DfAt.mono h (h3 j a hj)⟩
theorem DfSl.open {B : Nat → Prop} {w : World} {v : Value} {l : List Df} (h : DfSl B w v l) :
    ∃ pa len c, v = .slice pa len c ∧ Hid (len = l.length) ∧ len ≤ 9223372036854775807 ∧ ∀ i a, l[i]? = some a → ∃ kb ko, pa = some ⟨kb, ko, none⟩ ∧ B kb ∧ DfAt B w a kb (ko + i * 14) := by
  obtain ⟨h, hm⟩ := h
  unfold maxLen at hm
  rcases h with ⟨⟨a, c, rfl⟩, rfl⟩ | ⟨kb, ko, c, rfl, hkb, hrow⟩
  · exact ⟨a, 0, c, rfl, Lib.hid rfl, by omega, fun i t hi => by simp at hi⟩
  · exact ⟨_, _, _, rfl, Lib.hid rfl, by omega, fun i t hi => ⟨kb, ko, rfl, hkb, hrow i t hi⟩⟩

/-- A program lies at cell o of block b. -/
def PgAt (B : Nat → Prop) (w : World) (g : Pg) (b o : Nat) : Prop := B b ∧ (∃ dv, w.cell? ⟨b, o, none⟩ = some dv ∧ DfSl B w dv g.ds) ∧ PrAt B w g.m b (o + 1)
theorem PgAt.keep {B : Nat → Prop} {w w' : World} (h : Keeps B w w') {g : Pg} {b o : Nat} (hg : PgAt B w g b o) : PgAt B w' g b o := by
  obtain ⟨hb, ⟨dv, h1, h2⟩, h3⟩ := hg
  exact ⟨hb, ⟨dv, h.cell hb h1, h2.keep h⟩, PrAt.keep h _ _ _ h3⟩
/-- A value that is a program. -/
def PgVal (B : Nat → Prop) (w : World) (v : Value) (g : Pg) : Prop :=
  ∃ dv lv av tl tk kv, v = .agg #[dv, .int .i64 g.m.k, .string g.m.c, .string g.m.x, lv, av, .int .i64 g.m.t.k, .int .i64 g.m.t.p, .string g.m.t.n, .int .i64 g.m.t.s, tl, tk, kv] ∧ DfSl B w dv g.ds ∧ PrVal B w (prAgg g.m lv av tl tk kv) g.m
theorem PgVal.keep {B : Nat → Prop} {w w' : World} (h : Keeps B w w') {v : Value} {g : Pg} (hv : PgVal B w v g) : PgVal B w' v g := by
  obtain ⟨dv, lv, av, tl, tk, kv, e, hd, hp⟩ := hv
  exact ⟨dv, lv, av, tl, tk, kv, e, hd.keep h, hp.keep h⟩
theorem PgVal.mono {B C : Nat → Prop} {w : World} (h : ∀ k, B k → C k) {v : Value} {g : Pg} (hv : PgVal B w v g) : PgVal C w v g := by
  obtain ⟨dv, lv, av, tl, tk, kv, e, hd, hp⟩ := hv
  exact ⟨dv, lv, av, tl, tk, kv, e, hd.mono h, hp.mono h⟩
theorem PgVal.to {B : Nat → Prop} {C : Nat} {w w' : World} (hBC : ∀ k, B k → k < C) (hb : Below C w w') {v : Value} {g : Pg} (hv : PgVal B w v g) : PgVal B w' v g := hv.keep (hb.keeps'.mono hBC)

end Go.Proofs.YtipjjhkgcbabnaaDoor
