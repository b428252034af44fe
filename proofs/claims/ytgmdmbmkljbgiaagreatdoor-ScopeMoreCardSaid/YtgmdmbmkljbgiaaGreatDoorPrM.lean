/- Processes as trees: a datatype for them, how they lie in memory, and that they go on lying so. -/
import Derived.Test.YtgmdmbmkljbgiaaGreatDoorTyH
namespace Go.Proofs.YtgmdmbmkljbgiaaGreatDoor
open Go.RowKit

structure Vl where
  k : Int
  n : ByteArray
  x : Int
inductive Pr where
  | mk (k : Int) (c x : ByteArray) (ls : List ByteArray) (vs : List Vl) (t : Ty) (ps : List Pr)
instance : Inhabited Pr := ⟨.mk 0 ⟨#[]⟩ ⟨#[]⟩ [] [] default []⟩

namespace Pr
def k : Pr → Int | .mk k _ _ _ _ _ _ => k
def c : Pr → ByteArray | .mk _ c _ _ _ _ _ => c
def x : Pr → ByteArray | .mk _ _ x _ _ _ _ => x
def ls : Pr → List ByteArray | .mk _ _ _ ls _ _ _ => ls
def vs : Pr → List Vl | .mk _ _ _ _ vs _ _ => vs
def t : Pr → Ty | .mk _ _ _ _ _ t _ => t
def ps : Pr → List Pr | .mk _ _ _ _ _ _ ps => ps
end Pr

mutual
theorem Pr.ind {M : Pr → Prop} (h : ∀ k c x ls vs t ps, (∀ p ∈ ps, M p) → M (.mk k c x ls vs t ps)) : ∀ p, M p
  | .mk k c x ls vs t ps => h k c x ls vs t ps (Pr.inds h ps)
theorem Pr.inds {M : Pr → Prop} (h : ∀ k c x ls vs t ps, (∀ p ∈ ps, M p) → M (.mk k c x ls vs t ps)) : ∀ ps : List Pr, ∀ p ∈ ps, M p
  | [], _, hm => by cases hm
  | p :: r, u, hm => by
    rcases List.mem_cons.1 hm with e | hm
    · rw [e]; exact Pr.ind h p
    · exact Pr.inds h r u hm
end

/-! ### Measures -/
mutual
def Pr.size : Pr → Nat
  | .mk _ _ _ _ _ _ ps => Pr.sizes ps + 1
def Pr.sizes : List Pr → Nat
  | [] => 0
  | p :: r => p.size + Pr.sizes r
end
mutual
def Pr.depth : Pr → Nat
  | .mk _ _ _ _ _ _ ps => Pr.depths ps + 1
def Pr.depths : List Pr → Nat
  | [] => 0
  | p :: r => max p.depth (Pr.depths r)
end
theorem Pr.size_eq (p : Pr) : p.size = Pr.sizes p.ps + 1 := by cases p; simp [Pr.size, Pr.ps]
theorem Pr.depth_eq (p : Pr) : p.depth = Pr.depths p.ps + 1 := by cases p; simp [Pr.depth, Pr.ps]
theorem Pr.size_pos (p : Pr) : 1 ≤ p.size := by rw [Pr.size_eq]; omega
theorem Pr.depth_pos (p : Pr) : 1 ≤ p.depth := by rw [Pr.depth_eq]; omega
theorem Pr.sizes_append (l r : List Pr) : Pr.sizes (l ++ r) = Pr.sizes l + Pr.sizes r := by
  induction l with
  | nil => simp [Pr.sizes]
  | cons t l ih => simp only [List.cons_append, Pr.sizes, ih]; omega
theorem Pr.depths_append (l r : List Pr) : Pr.depths (l ++ r) = max (Pr.depths l) (Pr.depths r) := by
  induction l with
  | nil => simp [Pr.depths]
  | cons t l ih => simp only [List.cons_append, Pr.depths, ih]; omega
theorem Pr.sizes_take {l : List Pr} {i : Nat} {p : Pr} (h : l[i]? = some p) : Pr.sizes (l.take (i + 1)) = Pr.sizes (l.take i) + p.size := by
  rw [take_snoc_get h, Pr.sizes_append]; simp [Pr.sizes]
theorem Pr.depths_take {l : List Pr} {i : Nat} {p : Pr} (h : l[i]? = some p) : Pr.depths (l.take (i + 1)) = max (Pr.depths (l.take i)) p.depth := by
  rw [take_snoc_get h, Pr.depths_append]; simp [Pr.depths]
theorem Pr.sizes_take_le (l : List Pr) (i : Nat) : Pr.sizes (l.take i) ≤ Pr.sizes l := by
  have := Pr.sizes_append (l.take i) (l.drop i); rw [List.take_append_drop] at this; omega
theorem Pr.depths_take_le (l : List Pr) (i : Nat) : Pr.depths (l.take i) ≤ Pr.depths l := by
  have := Pr.depths_append (l.take i) (l.drop i); rw [List.take_append_drop] at this; omega
theorem Pr.depth_mem {l : List Pr} {p : Pr} (h : p ∈ l) : p.depth ≤ Pr.depths l := by
  induction l with
  | nil => cases h
  | cons u l ih =>
    simp only [Pr.depths]
    rcases List.mem_cons.1 h with rfl | h
    · omega
    · have := ih h; omega
theorem Pr.size_mem {l : List Pr} {p : Pr} (h : p ∈ l) : p.size ≤ Pr.sizes l := by
  induction l with
  | nil => cases h
  | cons u l ih =>
    simp only [Pr.sizes]
    rcases List.mem_cons.1 h with rfl | h
    · omega
    · have := ih h; omega
theorem Pr.length_sizes (l : List Pr) : l.length ≤ Pr.sizes l := by
  induction l with
  | nil => simp
  | cons u l ih => simp only [Pr.sizes, List.length_cons]; have := u.size_pos; omega
mutual
theorem Pr.depth_le_size : ∀ p : Pr, p.depth ≤ p.size
  | .mk k c x ls vs t ps => by have := Pr.depths_le_sizes ps; simp only [Pr.depth, Pr.size]; omega
theorem Pr.depths_le_sizes : ∀ ps : List Pr, Pr.depths ps ≤ Pr.sizes ps
  | [] => by simp [Pr.depths, Pr.sizes]
  | p :: r => by have := Pr.depth_le_size p; have := Pr.depths_le_sizes r; simp only [Pr.depths, Pr.sizes]; omega
end

/-! ### In memory -/
/-- A value that is a slice of values. -/
def VlRow (w : World) (b o : Nat) (vs : List Vl) : Prop := ∀ (j : Nat) (a : Vl), vs[j]? = some a → w.cell? ⟨b, o + j * 3, none⟩ = some (.int .i64 a.k) ∧ w.cell? ⟨b, o + j * 3 + 1, none⟩ = some (.string a.n) ∧ w.cell? ⟨b, o + j * 3 + 2, none⟩ = some (.int .i64 a.x)
def VlSl (B : Nat → Prop) (w : World) (v : Value) (vs : List Vl) : Prop :=
  (((∃ a c, v = .slice a 0 c) ∧ vs = []) ∨ ∃ b o c, v = .slice (some ⟨b, o, none⟩) vs.length c ∧ B b ∧ vs.length ≤ c ∧ VlRow w b o vs) ∧ vs.length ≤ maxLen ∧ ∀ a ∈ vs, a.n.size ≤ maxLen

mutual
/-- A process lies at cell o of block b. -/
def PrAt (B : Nat → Prop) (w : World) : Pr → Nat → Nat → Prop
  | .mk k c x ls vs t ps, b, o => B b ∧ (c.size ≤ maxLen ∧ x.size ≤ maxLen) ∧
      (w.cell? ⟨b, o, none⟩ = some (.int .i64 k) ∧ w.cell? ⟨b, o + 1, none⟩ = some (.string c) ∧ w.cell? ⟨b, o + 2, none⟩ = some (.string x)) ∧
      TyAt B w t b (o + 5) ∧
      ∃ lv av kv, w.cell? ⟨b, o + 3, none⟩ = some lv ∧ w.cell? ⟨b, o + 4, none⟩ = some av ∧ w.cell? ⟨b, o + 11, none⟩ = some kv ∧ StrSl B w lv ls ∧ VlSl B w av vs ∧
        (((∃ a c, kv = .slice a 0 c) ∧ ps = []) ∨ ∃ kb ko c, kv = .slice (some ⟨kb, ko, none⟩) ps.length c ∧ B kb ∧ PrsAt B w ps kb ko) ∧ ps.length ≤ maxLen
/-- Processes lie one behind the other from cell o of block b on. -/
def PrsAt (B : Nat → Prop) (w : World) : List Pr → Nat → Nat → Prop
  | [], _, _ => True
  | p :: r, b, o => PrAt B w p b o ∧ PrsAt B w r b (o + 12)
end
/-- A value that is a slice of processes. -/
def PrSl (B : Nat → Prop) (w : World) (kv : Value) (ps : List Pr) : Prop :=
  (((∃ a c, kv = .slice a 0 c) ∧ ps = []) ∨ ∃ kb ko c, kv = .slice (some ⟨kb, ko, none⟩) ps.length c ∧ B kb ∧ PrsAt B w ps kb ko) ∧ ps.length ≤ maxLen
/-- The twelve cells of a process. -/
abbrev prAgg (p : Pr) (lv av tl tk kv : Value) : Value := .agg #[.int .i64 p.k, .string p.c, .string p.x, lv, av, .int .i64 p.t.k, .int .i64 p.t.p, .string p.t.n, .int .i64 p.t.s, tl, tk, kv]
/-- A value that is a process. -/
def PrVal (B : Nat → Prop) (w : World) (v : Value) (p : Pr) : Prop :=
  ∃ lv av tl tk kv, v = prAgg p lv av tl tk kv ∧ (p.c.size ≤ maxLen ∧ p.x.size ≤ maxLen) ∧ StrSl B w lv p.ls ∧ VlSl B w av p.vs ∧ TyVal B w (.agg #[.int .i64 p.t.k, .int .i64 p.t.p, .string p.t.n, .int .i64 p.t.s, tl, tk]) p.t ∧ PrSl B w kv p.ps

theorem PrAt.eq {B : Nat → Prop} {w : World} {p : Pr} {b o : Nat} : PrAt B w p b o ↔ B b ∧ (p.c.size ≤ maxLen ∧ p.x.size ≤ maxLen) ∧
      (w.cell? ⟨b, o, none⟩ = some (.int .i64 p.k) ∧ w.cell? ⟨b, o + 1, none⟩ = some (.string p.c) ∧ w.cell? ⟨b, o + 2, none⟩ = some (.string p.x)) ∧
      TyAt B w p.t b (o + 5) ∧
      ∃ lv av kv, w.cell? ⟨b, o + 3, none⟩ = some lv ∧ w.cell? ⟨b, o + 4, none⟩ = some av ∧ w.cell? ⟨b, o + 11, none⟩ = some kv ∧ StrSl B w lv p.ls ∧ VlSl B w av p.vs ∧ PrSl B w kv p.ps := by
  cases p; simp only [PrAt, PrSl, Pr.k, Pr.c, Pr.x, Pr.t, Pr.ls, Pr.vs, Pr.ps]

theorem VlSl.keep {B : Nat → Prop} {w w' : World} (h : Keeps B w w') {v : Value} {vs : List Vl} (hv : VlSl B w v vs) : VlSl B w' v vs := by
  refine ⟨?_, hv.2⟩
  rcases hv.1 with h1 | ⟨b, o, c, h1, h2, hc, h3⟩
  · exact .inl h1
  · exact .inr ⟨b, o, c, h1, h2, hc, fun j a hj => ⟨h.cell h2 (h3 j a hj).1, h.cell h2 (h3 j a hj).2.1, h.cell h2 (h3 j a hj).2.2⟩⟩
theorem VlSl.mono {B C : Nat → Prop} {w : World} (h : ∀ k, B k → C k) {v : Value} {vs : List Vl} (hv : VlSl B w v vs) : VlSl C w v vs := by
  refine ⟨?_, hv.2⟩
  rcases hv.1 with h1 | ⟨b, o, c, h1, h2, hc, h3⟩
  · exact .inl h1
  · exact .inr ⟨b, o, c, h1, h _ h2, hc, h3⟩
mutual
theorem PrAt.keep {B : Nat → Prop} {w w' : World} (h : Keeps B w w') : ∀ (p : Pr) (b o : Nat), PrAt B w p b o → PrAt B w' p b o
  | .mk k c x ls vs t ps, b, o, hp => by
    simp only [PrAt] at hp ⊢
    obtain ⟨hb, hn, ⟨c0, c1, c2⟩, ht, lv, av, kv, c3, c4, c11, hl, ha, hk, hm⟩ := hp
    refine ⟨hb, hn, ⟨h.cell hb c0, h.cell hb c1, h.cell hb c2⟩, ht.keep h, lv, av, kv, h.cell hb c3, h.cell hb c4, h.cell hb c11, hl.keep h, ha.keep h, ?_, hm⟩
    rcases hk with h1 | ⟨kb, ko, c, h1, h2, h3⟩
    · exact .inl h1
    · exact .inr ⟨kb, ko, c, h1, h2, PrsAt.keep h ps kb ko h3⟩
theorem PrsAt.keep {B : Nat → Prop} {w w' : World} (h : Keeps B w w') : ∀ (ps : List Pr) (b o : Nat), PrsAt B w ps b o → PrsAt B w' ps b o
  | [], _, _, _ => by simp [PrsAt]
  | p :: r, b, o, hp => by
    simp only [PrsAt] at hp ⊢
    exact ⟨PrAt.keep h p b o hp.1, PrsAt.keep h r b (o + 12) hp.2⟩
end
theorem PrSl.keep {B : Nat → Prop} {w w' : World} (h : Keeps B w w') {v : Value} {ps : List Pr} (hv : PrSl B w v ps) : PrSl B w' v ps := by
  refine ⟨?_, hv.2⟩
  rcases hv.1 with h1 | ⟨b, o, c, h1, h2, h3⟩
  · exact .inl h1
  · exact .inr ⟨b, o, c, h1, h2, PrsAt.keep h _ _ _ h3⟩
theorem PrVal.keep {B : Nat → Prop} {w w' : World} (h : Keeps B w w') {v : Value} {p : Pr} (hv : PrVal B w v p) : PrVal B w' v p := by
  obtain ⟨lv, av, tl, tk, kv, e, hn, hl, ha, ht, hk⟩ := hv
  exact ⟨lv, av, tl, tk, kv, e, hn, hl.keep h, ha.keep h, ht.keep h, hk.keep h⟩
mutual
theorem PrAt.mono {B C : Nat → Prop} {w : World} (h : ∀ k, B k → C k) : ∀ (p : Pr) (b o : Nat), PrAt B w p b o → PrAt C w p b o
  | .mk k c x ls vs t ps, b, o, hp => by
    simp only [PrAt] at hp ⊢
    obtain ⟨hb, hn, hc, ht, lv, av, kv, c3, c4, c11, hl, ha, hk, hm⟩ := hp
    refine ⟨h _ hb, hn, hc, ht.mono h, lv, av, kv, c3, c4, c11, hl.mono h, ha.mono h, ?_, hm⟩
    rcases hk with h1 | ⟨kb, ko, c, h1, h2, h3⟩
    · exact .inl h1
    · exact .inr ⟨kb, ko, c, h1, h _ h2, PrsAt.mono h ps kb ko h3⟩
theorem PrsAt.mono {B C : Nat → Prop} {w : World} (h : ∀ k, B k → C k) : ∀ (ps : List Pr) (b o : Nat), PrsAt B w ps b o → PrsAt C w ps b o
  | [], _, _, _ => by simp [PrsAt]
  | p :: r, b, o, hp => by
    simp only [PrsAt] at hp ⊢
    exact ⟨PrAt.mono h p b o hp.1, PrsAt.mono h r b (o + 12) hp.2⟩
end
theorem PrSl.mono {B C : Nat → Prop} {w : World} (h : ∀ k, B k → C k) {v : Value} {ps : List Pr} (hv : PrSl B w v ps) : PrSl C w v ps := by
  refine ⟨?_, hv.2⟩
  rcases hv.1 with h1 | ⟨b, o, c, h1, h2, h3⟩
  · exact .inl h1
  · exact .inr ⟨b, o, c, h1, h _ h2, PrsAt.mono h _ _ _ h3⟩
theorem PrVal.mono {B C : Nat → Prop} {w : World} (h : ∀ k, B k → C k) {v : Value} {p : Pr} (hv : PrVal B w v p) : PrVal C w v p := by
  obtain ⟨lv, av, tl, tk, kv, e, hn, hl, ha, ht, hk⟩ := hv
  exact ⟨lv, av, tl, tk, kv, e, hn, hl.mono h, ha.mono h, ht.mono h, hk.mono h⟩
theorem PrVal.to {B : Nat → Prop} {C : Nat} {w w' : World} (hBC : ∀ k, B k → k < C) (hb : Below C w w') {v : Value} {p : Pr} (hv : PrVal B w v p) : PrVal B w' v p := hv.keep (hb.keeps'.mono hBC)

theorem PrsAt.get {B : Nat → Prop} {w : World} : ∀ {ps : List Pr} {b o : Nat}, PrsAt B w ps b o → ∀ {i : Nat} {p : Pr}, ps[i]? = some p → PrAt B w p b (o + i * 12)
  | [], _, _, _, i, p, hi => by simp at hi
  | u :: r, b, o, h, i, p, hi => by
    simp only [PrsAt] at h
    cases i with
    | zero => simp at hi; subst hi; simpa using h.1
    | succ i =>
      have := PrsAt.get h.2 (i := i) (p := p) (by simpa using hi)
      rw [show o + (i + 1) * 12 = o + 12 + i * 12 by omega]; exact this
theorem prsAt_of {B : Nat → Prop} {w : World} : ∀ {ps : List Pr} {b o : Nat}, (∀ i p, ps[i]? = some p → PrAt B w p b (o + i * 12)) → PrsAt B w ps b o
  | [], _, _, _ => by simp [PrsAt]
  | p :: r, b, o, h => by
    simp only [PrsAt]
    refine ⟨by simpa using h 0 p rfl, prsAt_of (fun i u hi => ?_)⟩
    have := h (i + 1) u (by simpa using hi)
    rw [show o + 12 + i * 12 = o + (i + 1) * 12 by omega]; exact this
theorem PrSl.open {B : Nat → Prop} {w : World} {kv : Value} {ps : List Pr} (h : PrSl B w kv ps) :
    ∃ pa len c, kv = .slice pa len c ∧ Hid (len = ps.length) ∧ len ≤ 9223372036854775807 ∧ ∀ i p, ps[i]? = some p → ∃ kb ko, pa = some ⟨kb, ko, none⟩ ∧ B kb ∧ PrAt B w p kb (ko + i * 12) := by
  obtain ⟨h, hm⟩ := h
  unfold maxLen at hm
  rcases h with ⟨⟨a, c, rfl⟩, rfl⟩ | ⟨kb, ko, c, rfl, hkb, hrow⟩
  · exact ⟨a, 0, c, rfl, Lib.hid rfl, by omega, fun i t hi => by simp at hi⟩
  · exact ⟨_, _, _, rfl, Lib.hid rfl, by omega, fun i t hi => ⟨kb, ko, rfl, hkb, hrow.get hi⟩⟩
theorem VlSl.open {B : Nat → Prop} {w : World} {v : Value} {vs : List Vl} (h : VlSl B w v vs) :
    ∃ pa len c, v = .slice pa len c ∧ Hid (len = vs.length) ∧ len ≤ 9223372036854775807 ∧ ∀ i a, vs[i]? = some a → a.n.size ≤ maxLen ∧ ∃ kb ko, pa = some ⟨kb, ko, none⟩ ∧ B kb ∧ w.cell? ⟨kb, ko + i * 3, none⟩ = some (.int .i64 a.k) ∧ w.cell? ⟨kb, ko + i * 3 + 1, none⟩ = some (.string a.n) ∧ w.cell? ⟨kb, ko + i * 3 + 2, none⟩ = some (.int .i64 a.x) := by
  obtain ⟨h, hm, hz⟩ := h
  unfold maxLen at hm
  rcases h with ⟨⟨a, c, rfl⟩, rfl⟩ | ⟨b, o, c, rfl, hb, _, hrow⟩
  · exact ⟨a, 0, c, rfl, Lib.hid rfl, by omega, fun i t hi => by simp at hi⟩
  · exact ⟨_, _, _, rfl, Lib.hid rfl, by omega, fun i a hi => ⟨hz _ (List.mem_of_getElem? hi), b, o, rfl, hb, hrow i a hi⟩⟩
/-- The cells of a process, all slices written out, and the value that is loaded. -/
theorem PrAt.load' {B : Nat → Prop} {w : World} {p : Pr} {b o : Nat} (h : PrAt B w p b o) :
    ∃ (la : Option Addr) (ln lc : Nat) (aa : Option Addr) (an ac : Nat) (ta : Option Addr) (tn tc : Nat) (ua : Option Addr) (un uc : Nat) (ka : Option Addr) (kn kc : Nat),
      (w.cell? ⟨b, o, none⟩ = some (.int .i64 p.k) ∧ w.cell? ⟨b, o + 1, none⟩ = some (.string p.c) ∧ w.cell? ⟨b, o + 2, none⟩ = some (.string p.x) ∧ w.cell? ⟨b, o + 3, none⟩ = some (.slice la ln lc) ∧ w.cell? ⟨b, o + 4, none⟩ = some (.slice aa an ac) ∧
       w.cell? ⟨b, o + 5, none⟩ = some (.int .i64 p.t.k) ∧ w.cell? ⟨b, o + 6, none⟩ = some (.int .i64 p.t.p) ∧ w.cell? ⟨b, o + 7, none⟩ = some (.string p.t.n) ∧ w.cell? ⟨b, o + 8, none⟩ = some (.int .i64 p.t.s) ∧
       w.cell? ⟨b, o + 9, none⟩ = some (.slice ta tn tc) ∧ w.cell? ⟨b, o + 10, none⟩ = some (.slice ua un uc) ∧ w.cell? ⟨b, o + 11, none⟩ = some (.slice ka kn kc)) ∧
      PrVal B w (prAgg p (.slice la ln lc) (.slice aa an ac) (.slice ta tn tc) (.slice ua un uc) (.slice ka kn kc)) p := by
  obtain ⟨hb, hn, ⟨c0, c1, c2⟩, ht, lv, av, kv, c3, c4, c11, hl, ha, hk⟩ := PrAt.eq.1 h
  obtain ⟨ta, tn, tc, ua, un, uc, ⟨d0, d1, d2, d3, d4, d5⟩, htv⟩ := ht.load'
  obtain ⟨la, ln, lc, rfl, _⟩ := hl.open
  obtain ⟨aa, an, ac, rfl, _⟩ := ha.open
  obtain ⟨ka, kn, kc, rfl, _⟩ := hk.open
  exact ⟨la, ln, lc, aa, an, ac, ta, tn, tc, ua, un, uc, ka, kn, kc, ⟨c0, c1, c2, c3, c4, d0, d1, d2, d3, d4, d5, c11⟩, _, _, _, _, _, rfl, hn, hl, ha, htv, hk⟩
/-- A process from its cells. -/
theorem prAt_of {B : Nat → Prop} {w : World} {p : Pr} {b o : Nat} {lv av tl tk kv : Value} (hb : B b)
    (c0 : w.cell? ⟨b, o, none⟩ = some (.int .i64 p.k)) (c1 : w.cell? ⟨b, o + 1, none⟩ = some (.string p.c)) (c2 : w.cell? ⟨b, o + 2, none⟩ = some (.string p.x)) (c3 : w.cell? ⟨b, o + 3, none⟩ = some lv) (c4 : w.cell? ⟨b, o + 4, none⟩ = some av)
    (c5 : w.cell? ⟨b, o + 5, none⟩ = some (.int .i64 p.t.k)) (c6 : w.cell? ⟨b, o + 6, none⟩ = some (.int .i64 p.t.p)) (c7 : w.cell? ⟨b, o + 7, none⟩ = some (.string p.t.n)) (c8 : w.cell? ⟨b, o + 8, none⟩ = some (.int .i64 p.t.s))
    (c9 : w.cell? ⟨b, o + 9, none⟩ = some tl) (c10 : w.cell? ⟨b, o + 10, none⟩ = some tk) (c11 : w.cell? ⟨b, o + 11, none⟩ = some kv) (hv : PrVal B w (prAgg p lv av tl tk kv) p) : PrAt B w p b o := by
  obtain ⟨lv', av', tl', tk', kv', e, hn, hl, ha, ht, hk⟩ := hv
  simp only [prAgg, Value.agg.injEq, Array.mk.injEq, List.cons.injEq, and_true, true_and] at e
  obtain ⟨rfl, rfl, rfl, rfl, rfl⟩ := e
  exact PrAt.eq.2 ⟨hb, hn, ⟨c0, c1, c2⟩, tyAt_of hb c5 c6 c7 c8 c9 c10 ht, _, _, _, c3, c4, c11, hl, ha, hk⟩

end Go.Proofs.YtgmdmbmkljbgiaaGreatDoor
