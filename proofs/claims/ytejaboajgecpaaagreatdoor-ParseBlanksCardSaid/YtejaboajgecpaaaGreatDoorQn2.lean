/- Types: lemmas. -/
import Derived.Test.YtejaboajgecpaaaGreatDoorQn1
import Derived.Laws.OwnMore
import Derived.Deep.OwnRows
import Derived.Maps.AppendAt
import Derived.Lib.SliceRun
import Derived.Shelf.Abstract
set_option maxHeartbeats 16000000
set_option maxRecDepth 100000
namespace Go.Proofs.YtejaboajgecpaaaGreatDoor
open Go.RowKit
end Go.Proofs.YtejaboajgecpaaaGreatDoor
namespace Go.Proofs.YtejaboajgecpaaaGreatDoor
open Go.RowKit Go.Deep
theorem frozen_of_block {w : World} {g : Nat} {cs : Array Value} {t : TypeId} (h : w.heap[g]? = some (.cells cs t (0, 0))) (j : Nat) : w.frozen? ⟨g, j, none⟩ = false := by simp [World.frozen?, h]
theorem tyAt_of {B : Nat -> Prop} {w : World} {t : Ty} {b o : Nat} {v5 v6 : Value} (hb : B b) (c0 : w.cell? ⟨b, o, none⟩ = some (.int .i64 t.k)) (c1 : w.cell? ⟨b, o + 1, none⟩ = some (.int .i64 t.p)) (c2 : w.cell? ⟨b, o + 2, none⟩ = some (.string t.n)) (c3 : w.cell? ⟨b, o + 3, none⟩ = some (.int .i64 t.s))
 (c4 : w.cell? ⟨b, o + 4, none⟩ = some v5) (c5 : w.cell? ⟨b, o + 5, none⟩ = some v6) (h : TyVal B w (.agg #[.int .i64 t.k, .int .i64 t.p, .string t.n, .int .i64 t.s, v5, v6]) t) : TyAt B w t b o := by
 obtain ⟨lv, kv, e, hn, hl, hk⟩ := h
 simp only [Value.agg.injEq, Array.mk.injEq, List.cons.injEq, and_true, true_and] at e
 obtain ⟨rfl, rfl⟩ := e
 exact TyAt.eq.2 ⟨hb, hn, ⟨c0, c1, c2, c3⟩, _, _, c4, c5, hl, hk⟩
end Go.Proofs.YtejaboajgecpaaaGreatDoor
namespace Go.Proofs.YtejaboajgecpaaaGreatDoor
open Go.Lib (hid)
open Go.RowKit
structure Vl where
 k : Int
 n : ByteArray
 x : Int
inductive Pr where
 | mk (k : Int) (c x : ByteArray) (ls : List ByteArray) (vs : List Vl) (t : Ty) (ps : List Pr)
instance : Inhabited Pr := ⟨.mk 0 ⟨#[]⟩ ⟨#[]⟩ [] [] default []⟩
namespace Pr
def k : Pr -> Int | .mk k _ _ _ _ _ _ => k
def c : Pr -> ByteArray | .mk _ c _ _ _ _ _ => c
def x : Pr -> ByteArray | .mk _ _ x _ _ _ _ => x
def ls : Pr -> List ByteArray | .mk _ _ _ ls _ _ _ => ls
def vs : Pr -> List Vl | .mk _ _ _ _ vs _ _ => vs
def t : Pr -> Ty | .mk _ _ _ _ _ t _ => t
def ps : Pr -> List Pr | .mk _ _ _ _ _ _ ps => ps
end Pr
mutual
theorem Pr.ind {M : Pr -> Prop} (h : ∀ k c x ls vs t ps, (∀ p ∈ ps, M p) -> M (.mk k c x ls vs t ps)) : ∀ p, M p
 | .mk k c x ls vs t ps => h k c x ls vs t ps (Pr.inds h ps)
theorem Pr.inds {M : Pr -> Prop} (h : ∀ k c x ls vs t ps, (∀ p ∈ ps, M p) -> M (.mk k c x ls vs t ps)) : ∀ ps : List Pr, ∀ p ∈ ps, M p
 | [], _, hm => by cases hm
 | p :: r, u, hm => by
  rcases List.mem_cons.1 hm with e | hm
  ·rw [e]; exact Pr.ind h p
  ·exact Pr.inds h r u hm
end
mutual
def Pr.size : Pr -> Nat
 | .mk _ _ _ _ _ _ ps => Pr.sizes ps + 1
def Pr.sizes : List Pr -> Nat
 | [] => 0
 | p :: r => p.size + Pr.sizes r
end
mutual
def Pr.depth : Pr -> Nat
 | .mk _ _ _ _ _ _ ps => Pr.depths ps + 1
def Pr.depths : List Pr -> Nat
 | [] => 0
 | p :: r => max p.depth (Pr.depths r)
end
theorem Pr.size_eq (p : Pr) : p.size = Pr.sizes p.ps + 1 := by cases p; simp [Pr.size, Pr.ps]
theorem Pr.depth_eq (p : Pr) : p.depth = Pr.depths p.ps + 1 := by cases p; simp [Pr.depth, Pr.ps]
theorem Pr.depth_pos (p : Pr) : 1 <= p.depth := by rw [Pr.depth_eq]; omega
theorem Pr.depth_mem {l : List Pr} {p : Pr} (h : p ∈ l) : p.depth <= Pr.depths l := by
 induction l with
 | nil => cases h
 | cons u l ih =>
  simp only [Pr.depths]
  rcases List.mem_cons.1 h with rfl | h
  ·omega
  ·have := ih h; omega
def VlRow (w : World) (b o : Nat) (vs : List Vl) : Prop := ∀ (j : Nat) (a : Vl), vs[j]? = some a -> w.cell? ⟨b, o + j * 3, none⟩ = some (.int .i64 a.k) /\ w.cell? ⟨b, o + j * 3 + 1, none⟩ = some (.string a.n) /\ w.cell? ⟨b, o + j * 3 + 2, none⟩ = some (.int .i64 a.x)
def VlSl (B : Nat -> Prop) (w : World) (v : Value) (vs : List Vl) : Prop :=
 (((∃ a c, v = .slice a 0 c) /\ vs = []) \/ ∃ b o c, v = .slice (some ⟨b, o, none⟩) vs.length c /\ B b /\ vs.length <= c /\ VlRow w b o vs) /\ vs.length <= maxLen /\ ∀ a ∈ vs, a.n.size <= maxLen
mutual
def PrAt (B : Nat -> Prop) (w : World) : Pr -> Nat -> Nat -> Prop
 | .mk k c x ls vs t ps, b, o => B b /\ (c.size <= maxLen /\ x.size <= maxLen) /\
  (w.cell? ⟨b, o, none⟩ = some (.int .i64 k) /\ w.cell? ⟨b, o + 1, none⟩ = some (.string c) /\ w.cell? ⟨b, o + 2, none⟩ = some (.string x)) /\
  TyAt B w t b (o + 5) /\
  ∃ lv av kv, w.cell? ⟨b, o + 3, none⟩ = some lv /\ w.cell? ⟨b, o + 4, none⟩ = some av /\ w.cell? ⟨b, o + 11, none⟩ = some kv /\ StrSl B w lv ls /\ VlSl B w av vs /\
   (((∃ a c, kv = .slice a 0 c) /\ ps = []) \/ ∃ kb ko c, kv = .slice (some ⟨kb, ko, none⟩) ps.length c /\ B kb /\ PrsAt B w ps kb ko) /\ ps.length <= maxLen
def PrsAt (B : Nat -> Prop) (w : World) : List Pr -> Nat -> Nat -> Prop
 | [], _, _ => True
 | p :: r, b, o => PrAt B w p b o /\ PrsAt B w r b (o + 12)
end
def PrSl (B : Nat -> Prop) (w : World) (kv : Value) (ps : List Pr) : Prop :=
 (((∃ a c, kv = .slice a 0 c) /\ ps = []) \/ ∃ kb ko c, kv = .slice (some ⟨kb, ko, none⟩) ps.length c /\ B kb /\ PrsAt B w ps kb ko) /\ ps.length <= maxLen
abbrev prAgg (p : Pr) (lv av tl tk kv : Value) : Value := .agg #[.int .i64 p.k, .string p.c, .string p.x, lv, av, .int .i64 p.t.k, .int .i64 p.t.p, .string p.t.n, .int .i64 p.t.s, tl, tk, kv]
def PrVal (B : Nat -> Prop) (w : World) (v : Value) (p : Pr) : Prop :=
 ∃ lv av tl tk kv, v = prAgg p lv av tl tk kv /\ (p.c.size <= maxLen /\ p.x.size <= maxLen) /\ StrSl B w lv p.ls /\ VlSl B w av p.vs /\ TyVal B w (.agg #[.int .i64 p.t.k, .int .i64 p.t.p, .string p.t.n, .int .i64 p.t.s, tl, tk]) p.t /\ PrSl B w kv p.ps
theorem PrAt.eq {B : Nat -> Prop} {w : World} {p : Pr} {b o : Nat} : PrAt B w p b o ↔ B b /\ (p.c.size <= maxLen /\ p.x.size <= maxLen) /\
 (w.cell? ⟨b, o, none⟩ = some (.int .i64 p.k) /\ w.cell? ⟨b, o + 1, none⟩ = some (.string p.c) /\ w.cell? ⟨b, o + 2, none⟩ = some (.string p.x)) /\
 TyAt B w p.t b (o + 5) /\
 ∃ lv av kv, w.cell? ⟨b, o + 3, none⟩ = some lv /\ w.cell? ⟨b, o + 4, none⟩ = some av /\ w.cell? ⟨b, o + 11, none⟩ = some kv /\ StrSl B w lv p.ls /\ VlSl B w av p.vs /\ PrSl B w kv p.ps := by
 cases p; simp only [PrAt, PrSl, Pr.k, Pr.c, Pr.x, Pr.t, Pr.ls, Pr.vs, Pr.ps]
theorem VlSl.keep {B : Nat -> Prop} {w w' : World} (h : Keeps B w w') {v : Value} {vs : List Vl} (hv : VlSl B w v vs) : VlSl B w' v vs := by
 refine ⟨?_, hv.2⟩
 rcases hv.1 with h1 | ⟨b, o, c, h1, h2, hc, h3⟩
 ·exact .inl h1
 ·exact .inr ⟨b, o, c, h1, h2, hc, fun j a hj => ⟨h.cell h2 (h3 j a hj).1, h.cell h2 (h3 j a hj).2.1, h.cell h2 (h3 j a hj).2.2⟩⟩
theorem VlSl.mono {B C : Nat -> Prop} {w : World} (h : ∀ k, B k -> C k) {v : Value} {vs : List Vl} (hv : VlSl B w v vs) : VlSl C w v vs := by
 refine ⟨?_, hv.2⟩
 rcases hv.1 with h1 | ⟨b, o, c, h1, h2, hc, h3⟩
 ·exact .inl h1
 ·exact .inr ⟨b, o, c, h1, h _ h2, hc, h3⟩
mutual
theorem PrAt.keep {B : Nat -> Prop} {w w' : World} (h : Keeps B w w') : ∀ (p : Pr) (b o : Nat), PrAt B w p b o -> PrAt B w' p b o
 | .mk k c x ls vs t ps, b, o, hp => by
  simp only [PrAt] at hp |-
  obtain ⟨hb, hn, ⟨c0, c1, c2⟩, ht, lv, av, kv, c3, c4, c11, hl, ha, hk, hm⟩ := hp
  refine ⟨hb, hn, ⟨h.cell hb c0, h.cell hb c1, h.cell hb c2⟩, ht.keep h, lv, av, kv, h.cell hb c3, h.cell hb c4, h.cell hb c11, hl.keep h, ha.keep h, ?_, hm⟩
  rcases hk with h1 | ⟨kb, ko, c, h1, h2, h3⟩
  ·exact .inl h1
  ·exact .inr ⟨kb, ko, c, h1, h2, PrsAt.keep h ps kb ko h3⟩
theorem PrsAt.keep {B : Nat -> Prop} {w w' : World} (h : Keeps B w w') : ∀ (ps : List Pr) (b o : Nat), PrsAt B w ps b o -> PrsAt B w' ps b o
 | [], _, _, _ => by simp [PrsAt]
 | p :: r, b, o, hp => by
  simp only [PrsAt] at hp |-
  exact ⟨PrAt.keep h p b o hp.1, PrsAt.keep h r b (o + 12) hp.2⟩
end
theorem PrSl.keep {B : Nat -> Prop} {w w' : World} (h : Keeps B w w') {v : Value} {ps : List Pr} (hv : PrSl B w v ps) : PrSl B w' v ps := by
 refine ⟨?_, hv.2⟩
 rcases hv.1 with h1 | ⟨b, o, c, h1, h2, h3⟩
 ·exact .inl h1
 ·exact .inr ⟨b, o, c, h1, h2, PrsAt.keep h _ _ _ h3⟩
theorem PrVal.keep {B : Nat -> Prop} {w w' : World} (h : Keeps B w w') {v : Value} {p : Pr} (hv : PrVal B w v p) : PrVal B w' v p := by
 obtain ⟨lv, av, tl, tk, kv, e, hn, hl, ha, ht, hk⟩ := hv
 exact ⟨lv, av, tl, tk, kv, e, hn, hl.keep h, ha.keep h, ht.keep h, hk.keep h⟩
mutual
theorem PrAt.mono {B C : Nat -> Prop} {w : World} (h : ∀ k, B k -> C k) : ∀ (p : Pr) (b o : Nat), PrAt B w p b o -> PrAt C w p b o
 | .mk k c x ls vs t ps, b, o, hp => by
  simp only [PrAt] at hp |-
  obtain ⟨hb, hn, hc, ht, lv, av, kv, c3, c4, c11, hl, ha, hk, hm⟩ := hp
  refine ⟨h _ hb, hn, hc, ht.mono h, lv, av, kv, c3, c4, c11, hl.mono h, ha.mono h, ?_, hm⟩
  rcases hk with h1 | ⟨kb, ko, c, h1, h2, h3⟩
  ·exact .inl h1
  ·exact .inr ⟨kb, ko, c, h1, h _ h2, PrsAt.mono h ps kb ko h3⟩
theorem PrsAt.mono {B C : Nat -> Prop} {w : World} (h : ∀ k, B k -> C k) : ∀ (ps : List Pr) (b o : Nat), PrsAt B w ps b o -> PrsAt C w ps b o
 | [], _, _, _ => by simp [PrsAt]
 | p :: r, b, o, hp => by
  simp only [PrsAt] at hp |-
  exact ⟨PrAt.mono h p b o hp.1, PrsAt.mono h r b (o + 12) hp.2⟩
end
theorem PrSl.mono {B C : Nat -> Prop} {w : World} (h : ∀ k, B k -> C k) {v : Value} {ps : List Pr} (hv : PrSl B w v ps) : PrSl C w v ps := by
 refine ⟨?_, hv.2⟩
 rcases hv.1 with h1 | ⟨b, o, c, h1, h2, h3⟩
 ·exact .inl h1
 ·exact .inr ⟨b, o, c, h1, h _ h2, PrsAt.mono h _ _ _ h3⟩
theorem PrVal.mono {B C : Nat -> Prop} {w : World} (h : ∀ k, B k -> C k) {v : Value} {p : Pr} (hv : PrVal B w v p) : PrVal C w v p := by
 obtain ⟨lv, av, tl, tk, kv, e, hn, hl, ha, ht, hk⟩ := hv
 exact ⟨lv, av, tl, tk, kv, e, hn, hl.mono h, ha.mono h, ht.mono h, hk.mono h⟩
theorem PrVal.to {B : Nat -> Prop} {C : Nat} {w w' : World} (hBC : ∀ k, B k -> k < C) (hb : Below C w w') {v : Value} {p : Pr} (hv : PrVal B w v p) : PrVal B w' v p := hv.keep (hb.keeps'.mono hBC)
theorem PrsAt.get {B : Nat -> Prop} {w : World} : ∀ {ps : List Pr} {b o : Nat}, PrsAt B w ps b o -> ∀ {i : Nat} {p : Pr}, ps[i]? = some p -> PrAt B w p b (o + i * 12)
 | [], _, _, _, i, p, hi => by simp at hi
 | u :: r, b, o, h, i, p, hi => by
  simp only [PrsAt] at h
  cases i with
  | zero => simp at hi; subst hi; simpa using h.1
  | succ i =>
   have := PrsAt.get h.2 (i := i) (p := p) (by simpa using hi)
   rw [show o + (i + 1) * 12 = o + 12 + i * 12 by omega]; exact this
theorem PrSl.open {B : Nat -> Prop} {w : World} {kv : Value} {ps : List Pr} (h : PrSl B w kv ps) :
 ∃ pa len c, kv = .slice pa len c /\ Hid (len = ps.length) /\ len <= 9223372036854775807 /\ ∀ i p, ps[i]? = some p -> ∃ kb ko, pa = some ⟨kb, ko, none⟩ /\ B kb /\ PrAt B w p kb (ko + i * 12) := by
 obtain ⟨h, hm⟩ := h
 unfold maxLen at hm
 rcases h with ⟨⟨a, c, rfl⟩, rfl⟩ | ⟨kb, ko, c, rfl, hkb, hrow⟩
 ·exact ⟨a, 0, c, rfl, hid rfl, by omega, fun i t hi => by simp at hi⟩
 ·exact ⟨_, _, _, rfl, hid rfl, by omega, fun i t hi => ⟨kb, ko, rfl, hkb, hrow.get hi⟩⟩
theorem VlSl.open {B : Nat -> Prop} {w : World} {v : Value} {vs : List Vl} (h : VlSl B w v vs) :
 ∃ pa len c, v = .slice pa len c /\ Hid (len = vs.length) /\ len <= 9223372036854775807 /\ ∀ i a, vs[i]? = some a -> a.n.size <= maxLen /\ ∃ kb ko, pa = some ⟨kb, ko, none⟩ /\ B kb /\ w.cell? ⟨kb, ko + i * 3, none⟩ = some (.int .i64 a.k) /\ w.cell? ⟨kb, ko + i * 3 + 1, none⟩ = some (.string a.n) /\ w.cell? ⟨kb, ko + i * 3 + 2, none⟩ = some (.int .i64 a.x) := by
 obtain ⟨h, hm, hz⟩ := h
 unfold maxLen at hm
 rcases h with ⟨⟨a, c, rfl⟩, rfl⟩ | ⟨b, o, c, rfl, hb, _, hrow⟩
 ·exact ⟨a, 0, c, rfl, hid rfl, by omega, fun i t hi => by simp at hi⟩
 ·exact ⟨_, _, _, rfl, hid rfl, by omega, fun i a hi => ⟨hz _ (List.mem_of_getElem? hi), b, o, rfl, hb, hrow i a hi⟩⟩
theorem PrAt.load' {B : Nat -> Prop} {w : World} {p : Pr} {b o : Nat} (h : PrAt B w p b o) :
 ∃ (la : Option Addr) (ln lc : Nat) (aa : Option Addr) (an ac : Nat) (ta : Option Addr) (tn tc : Nat) (ua : Option Addr) (un uc : Nat) (ka : Option Addr) (kn kc : Nat),
  (w.cell? ⟨b, o, none⟩ = some (.int .i64 p.k) /\ w.cell? ⟨b, o + 1, none⟩ = some (.string p.c) /\ w.cell? ⟨b, o + 2, none⟩ = some (.string p.x) /\ w.cell? ⟨b, o + 3, none⟩ = some (.slice la ln lc) /\ w.cell? ⟨b, o + 4, none⟩ = some (.slice aa an ac) /\
   w.cell? ⟨b, o + 5, none⟩ = some (.int .i64 p.t.k) /\ w.cell? ⟨b, o + 6, none⟩ = some (.int .i64 p.t.p) /\ w.cell? ⟨b, o + 7, none⟩ = some (.string p.t.n) /\ w.cell? ⟨b, o + 8, none⟩ = some (.int .i64 p.t.s) /\
   w.cell? ⟨b, o + 9, none⟩ = some (.slice ta tn tc) /\ w.cell? ⟨b, o + 10, none⟩ = some (.slice ua un uc) /\ w.cell? ⟨b, o + 11, none⟩ = some (.slice ka kn kc)) /\
  PrVal B w (prAgg p (.slice la ln lc) (.slice aa an ac) (.slice ta tn tc) (.slice ua un uc) (.slice ka kn kc)) p := by
 obtain ⟨hb, hn, ⟨c0, c1, c2⟩, ht, lv, av, kv, c3, c4, c11, hl, ha, hk⟩ := PrAt.eq.1 h
 obtain ⟨ta, tn, tc, ua, un, uc, ⟨d0, d1, d2, d3, d4, d5⟩, htv⟩ := ht.load'
 obtain ⟨la, ln, lc, rfl, _⟩ := hl.open
 obtain ⟨aa, an, ac, rfl, _⟩ := ha.open
 obtain ⟨ka, kn, kc, rfl, _⟩ := hk.open
 exact ⟨la, ln, lc, aa, an, ac, ta, tn, tc, ua, un, uc, ka, kn, kc, ⟨c0, c1, c2, c3, c4, d0, d1, d2, d3, d4, d5, c11⟩, _, _, _, _, _, rfl, hn, hl, ha, htv, hk⟩
theorem prAt_of {B : Nat -> Prop} {w : World} {p : Pr} {b o : Nat} {lv av tl tk kv : Value} (hb : B b)
 (c0 : w.cell? ⟨b, o, none⟩ = some (.int .i64 p.k)) (c1 : w.cell? ⟨b, o + 1, none⟩ = some (.string p.c)) (c2 : w.cell? ⟨b, o + 2, none⟩ = some (.string p.x)) (c3 : w.cell? ⟨b, o + 3, none⟩ = some lv) (c4 : w.cell? ⟨b, o + 4, none⟩ = some av)
 (c5 : w.cell? ⟨b, o + 5, none⟩ = some (.int .i64 p.t.k)) (c6 : w.cell? ⟨b, o + 6, none⟩ = some (.int .i64 p.t.p)) (c7 : w.cell? ⟨b, o + 7, none⟩ = some (.string p.t.n)) (c8 : w.cell? ⟨b, o + 8, none⟩ = some (.int .i64 p.t.s))
 (c9 : w.cell? ⟨b, o + 9, none⟩ = some tl) (c10 : w.cell? ⟨b, o + 10, none⟩ = some tk) (c11 : w.cell? ⟨b, o + 11, none⟩ = some kv) (hv : PrVal B w (prAgg p lv av tl tk kv) p) : PrAt B w p b o := by
 obtain ⟨lv', av', tl', tk', kv', e, hn, hl, ha, ht, hk⟩ := hv
 simp only [prAgg, Value.agg.injEq, Array.mk.injEq, List.cons.injEq, and_true, true_and] at e
 obtain ⟨rfl, rfl, rfl, rfl, rfl⟩ := e
 exact PrAt.eq.2 ⟨hb, hn, ⟨c0, c1, c2⟩, tyAt_of hb c5 c6 c7 c8 c9 c10 ht, _, _, _, c3, c4, c11, hl, ha, hk⟩
structure Pm where
 n : ByteArray
 t : Ty
structure Df where
 n : ByteArray
 ms : List Pm
 b : Pr
structure Pg where
 ds : List Df
 m : Pr
def PmAt (B : Nat -> Prop) (w : World) (a : Pm) (b o : Nat) : Prop := a.n.size <= maxLen /\ w.cell? ⟨b, o, none⟩ = some (.string a.n) /\ TyAt B w a.t b (o + 1)
theorem PmAt.keep {B : Nat -> Prop} {w w' : World} (h : Keeps B w w') {a : Pm} {b o : Nat} (hb : B b) (ha : PmAt B w a b o) : PmAt B w' a b o := ⟨ha.1, h.cell hb ha.2.1, ha.2.2.keep h⟩
theorem PmAt.mono {B C : Nat -> Prop} {w : World} (h : ∀ k, B k -> C k) {a : Pm} {b o : Nat} (ha : PmAt B w a b o) : PmAt C w a b o := ⟨ha.1, ha.2.1, ha.2.2.mono h⟩
def PmSl (B : Nat -> Prop) (w : World) (v : Value) (l : List Pm) : Prop :=
 (((∃ a c, v = .slice a 0 c) /\ l = []) \/ ∃ b o c, v = .slice (some ⟨b, o, none⟩) l.length c /\ B b /\ ∀ (j : Nat) (a : Pm), l[j]? = some a -> PmAt B w a b (o + j * 7)) /\ l.length <= maxLen
theorem PmSl.keep {B : Nat -> Prop} {w w' : World} (h : Keeps B w w') {v : Value} {l : List Pm} (hv : PmSl B w v l) : PmSl B w' v l := by
 refine ⟨?_, hv.2⟩
 rcases hv.1 with h1 | ⟨b, o, c, h1, h2, h3⟩
 ·exact .inl h1
 ·exact .inr ⟨b, o, c, h1, h2, fun j a hj => PmAt.keep h h2 (h3 j a hj)⟩
theorem PmSl.mono {B C : Nat -> Prop} {w : World} (h : ∀ k, B k -> C k) {v : Value} {l : List Pm} (hv : PmSl B w v l) : PmSl C w v l := by
 refine ⟨?_, hv.2⟩
 rcases hv.1 with h1 | ⟨b, o, c, h1, h2, h3⟩
 ·exact .inl h1
 ·exact .inr ⟨b, o, c, h1, h _ h2, fun j a hj => PmAt.mono h (h3 j a hj)⟩
theorem PmSl.open {B : Nat -> Prop} {w : World} {v : Value} {l : List Pm} (h : PmSl B w v l) :
 ∃ pa len c, v = .slice pa len c /\ Hid (len = l.length) /\ len <= 9223372036854775807 /\ ∀ i a, l[i]? = some a -> ∃ kb ko, pa = some ⟨kb, ko, none⟩ /\ B kb /\ PmAt B w a kb (ko + i * 7) := by
 obtain ⟨h, hm⟩ := h
 unfold maxLen at hm
 rcases h with ⟨⟨a, c, rfl⟩, rfl⟩ | ⟨kb, ko, c, rfl, hkb, hrow⟩
 ·exact ⟨a, 0, c, rfl, hid rfl, by omega, fun i t hi => by simp at hi⟩
 ·exact ⟨_, _, _, rfl, hid rfl, by omega, fun i t hi => ⟨kb, ko, rfl, hkb, hrow i t hi⟩⟩
def DfAt (B : Nat -> Prop) (w : World) (d : Df) (b o : Nat) : Prop := d.n.size <= maxLen /\ w.cell? ⟨b, o, none⟩ = some (.string d.n) /\ (∃ mv, w.cell? ⟨b, o + 1, none⟩ = some mv /\ PmSl B w mv d.ms) /\ PrAt B w d.b b (o + 2)
theorem DfAt.keep {B : Nat -> Prop} {w w' : World} (h : Keeps B w w') {a : Df} {b o : Nat} (hb : B b) (ha : DfAt B w a b o) : DfAt B w' a b o := by
 obtain ⟨h1, h2, ⟨mv, h3, h4⟩, h5⟩ := ha
 exact ⟨h1, h.cell hb h2, ⟨mv, h.cell hb h3, h4.keep h⟩, PrAt.keep h _ _ _ h5⟩
theorem DfAt.mono {B C : Nat -> Prop} {w : World} (h : ∀ k, B k -> C k) {a : Df} {b o : Nat} (ha : DfAt B w a b o) : DfAt C w a b o := by
 obtain ⟨h1, h2, ⟨mv, h3, h4⟩, h5⟩ := ha
 exact ⟨h1, h2, ⟨mv, h3, h4.mono h⟩, PrAt.mono h _ _ _ h5⟩
def DfSl (B : Nat -> Prop) (w : World) (v : Value) (l : List Df) : Prop :=
 (((∃ a c, v = .slice a 0 c) /\ l = []) \/ ∃ b o c, v = .slice (some ⟨b, o, none⟩) l.length c /\ B b /\ ∀ (j : Nat) (a : Df), l[j]? = some a -> DfAt B w a b (o + j * 14)) /\ l.length <= maxLen
theorem DfSl.keep {B : Nat -> Prop} {w w' : World} (h : Keeps B w w') {v : Value} {l : List Df} (hv : DfSl B w v l) : DfSl B w' v l := by
 refine ⟨?_, hv.2⟩
 rcases hv.1 with h1 | ⟨b, o, c, h1, h2, h3⟩
 ·exact .inl h1
 ·exact .inr ⟨b, o, c, h1, h2, fun j a hj => DfAt.keep h h2 (h3 j a hj)⟩
theorem DfSl.mono {B C : Nat -> Prop} {w : World} (h : ∀ k, B k -> C k) {v : Value} {l : List Df} (hv : DfSl B w v l) : DfSl C w v l := by
 refine ⟨?_, hv.2⟩
 rcases hv.1 with h1 | ⟨b, o, c, h1, h2, h3⟩
 ·exact .inl h1
 ·exact .inr ⟨b, o, c, h1, h _ h2, fun j a hj => DfAt.mono h (h3 j a hj)⟩
theorem DfSl.open {B : Nat -> Prop} {w : World} {v : Value} {l : List Df} (h : DfSl B w v l) :
 ∃ pa len c, v = .slice pa len c /\ Hid (len = l.length) /\ len <= 9223372036854775807 /\ ∀ i a, l[i]? = some a -> ∃ kb ko, pa = some ⟨kb, ko, none⟩ /\ B kb /\ DfAt B w a kb (ko + i * 14) := by
 obtain ⟨h, hm⟩ := h
 unfold maxLen at hm
 rcases h with ⟨⟨a, c, rfl⟩, rfl⟩ | ⟨kb, ko, c, rfl, hkb, hrow⟩
 ·exact ⟨a, 0, c, rfl, hid rfl, by omega, fun i t hi => by simp at hi⟩
 ·exact ⟨_, _, _, rfl, hid rfl, by omega, fun i t hi => ⟨kb, ko, rfl, hkb, hrow i t hi⟩⟩
def PgAt (B : Nat -> Prop) (w : World) (g : Pg) (b o : Nat) : Prop := B b /\ (∃ dv, w.cell? ⟨b, o, none⟩ = some dv /\ DfSl B w dv g.ds) /\ PrAt B w g.m b (o + 1)
theorem PgAt.keep {B : Nat -> Prop} {w w' : World} (h : Keeps B w w') {g : Pg} {b o : Nat} (hg : PgAt B w g b o) : PgAt B w' g b o := by
 obtain ⟨hb, ⟨dv, h1, h2⟩, h3⟩ := hg
 exact ⟨hb, ⟨dv, h.cell hb h1, h2.keep h⟩, PrAt.keep h _ _ _ h3⟩
def PgVal (B : Nat -> Prop) (w : World) (v : Value) (g : Pg) : Prop :=
 ∃ dv lv av tl tk kv, v = .agg #[dv, .int .i64 g.m.k, .string g.m.c, .string g.m.x, lv, av, .int .i64 g.m.t.k, .int .i64 g.m.t.p, .string g.m.t.n, .int .i64 g.m.t.s, tl, tk, kv] /\ DfSl B w dv g.ds /\ PrVal B w (prAgg g.m lv av tl tk kv) g.m
theorem PgVal.keep {B : Nat -> Prop} {w w' : World} (h : Keeps B w w') {v : Value} {g : Pg} (hv : PgVal B w v g) : PgVal B w' v g := by
 obtain ⟨dv, lv, av, tl, tk, kv, e, hd, hp⟩ := hv
 exact ⟨dv, lv, av, tl, tk, kv, e, hd.keep h, hp.keep h⟩
theorem PgVal.mono {B C : Nat -> Prop} {w : World} (h : ∀ k, B k -> C k) {v : Value} {g : Pg} (hv : PgVal B w v g) : PgVal C w v g := by
 obtain ⟨dv, lv, av, tl, tk, kv, e, hd, hp⟩ := hv
 exact ⟨dv, lv, av, tl, tk, kv, e, hd.mono h, hp.mono h⟩
end Go.Proofs.YtejaboajgecpaaaGreatDoor
namespace Go.Proofs.YtejaboajgecpaaaGreatDoor
abbrev z6 : Array Value := #[.int .i64 0, .int .i64 0, .string ⟨#[]⟩, .int .i64 0, .slice none 0 0, .slice none 0 0]
abbrev z12 : Array Value := #[.int .i64 0, .string ⟨#[]⟩, .string ⟨#[]⟩, .slice none 0 0, .slice none 0 0, .int .i64 0, .int .i64 0, .string ⟨#[]⟩, .int .i64 0, .slice none 0 0, .slice none 0 0, .slice none 0 0]
abbrev z13 : Array Value := #[.slice none 0 0, .int .i64 0, .string ⟨#[]⟩, .string ⟨#[]⟩, .slice none 0 0, .slice none 0 0, .int .i64 0, .int .i64 0, .string ⟨#[]⟩, .int .i64 0, .slice none 0 0, .slice none 0 0, .slice none 0 0]
structure Tk where
 k : Int
 t : ByteArray
 v : Int
 a : Int
inductive PR (α : Type) where
 | ok (x : α) (r : List Tk)
 | bad (e : Int) (r : List Tk)
def PR.bind {α β : Type} (p : PR α) (f : α -> List Tk -> PR β) : PR β := match p with
 | .ok x r => f x r
 | .bad e r => .bad e r
def hd (s : ByteArray) : List Tk -> Bool
 | [] => false
 | x :: _ => x.t.toList == s.toList
def need (s : ByteArray) (ts : List Tk) : PR Unit := if hd s ts = true then .ok () ts.tail else .bad 1 ts
def pname (isN : ByteArray -> Bool) : List Tk -> PR ByteArray
 | [] => .bad 1 []
 | x :: r => if isN x.t = true then .ok x.t r else .bad 1 (x :: r)
def pnumber : List Tk -> PR Int
 | [] => .bad 1 []
 | x :: r => if x.k ≠ 2 \/ x.v < 0 then .bad 1 (x :: r) else if 1000000 < x.v then .bad 2 (x :: r) else .ok x.v r
def pprio : List Tk -> PR Int
 | [] => .ok 0 []
 | x :: r => if x.k ≠ 2 then .ok 0 (x :: r) else pnumber (x :: r)
abbrev sInt : ByteArray := ⟨#[105, 110, 116]⟩
abbrev sBool : ByteArray := ⟨#[98, 111, 111, 108]⟩
abbrev sEnd : ByteArray := ⟨#[101, 110, 100]⟩
abbrev sRec : ByteArray := ⟨#[114, 101, 99]⟩
abbrev sStop : ByteArray := ⟨#[115, 116, 111, 112]⟩
abbrev sNew : ByteArray := ⟨#[110, 101, 119]⟩
abbrev sTrue : ByteArray := ⟨#[116, 114, 117, 101]⟩
abbrev sFalse : ByteArray := ⟨#[102, 97, 108, 115, 101]⟩
abbrev sDef : ByteArray := ⟨#[100, 101, 102]⟩
abbrev sMain : ByteArray := ⟨#[109, 97, 105, 110]⟩
abbrev sBang : ByteArray := ⟨#[33]⟩
abbrev sAsk : ByteArray := ⟨#[63]⟩
abbrev sDot : ByteArray := ⟨#[46]⟩
abbrev sOpen : ByteArray := ⟨#[40]⟩
abbrev sShut : ByteArray := ⟨#[41]⟩
abbrev sBra : ByteArray := ⟨#[123]⟩
abbrev sKet : ByteArray := ⟨#[125]⟩
abbrev sLess : ByteArray := ⟨#[60]⟩
abbrev sMore : ByteArray := ⟨#[62]⟩
abbrev sComma : ByteArray := ⟨#[44]⟩
abbrev sColon : ByteArray := ⟨#[58]⟩
abbrev sSemi : ByteArray := ⟨#[59]⟩
abbrev sBar : ByteArray := ⟨#[124]⟩
abbrev sAnd : ByteArray := ⟨#[38]⟩
abbrev sEq : ByteArray := ⟨#[61]⟩
abbrev sPlus : ByteArray := ⟨#[43]⟩
section
variable (isN : ByteArray -> Bool)
def plist {α : Type} (F : List Tk -> PR α) : Nat -> List Tk -> PR (List α)
 | 0, ts => .bad 1 ts
 | g + 1, ts => (F ts).bind fun x r => if hd sComma r = true then (plist F g r.tail).bind fun l r => .ok (x :: l) r else .ok [x] r
def pcase {α : Type} (F : List Tk -> PR α) (ts : List Tk) : PR (ByteArray × α) :=
 (pname isN ts).bind fun n r => (need sColon r).bind fun _ r => (F r).bind fun x r => .ok (n, x) r
def pcases {α : Type} (F : List Tk -> PR α) (g : Nat) (ts : List Tk) : PR (List (ByteArray × α)) :=
 (need sBra ts).bind fun _ r => (plist (pcase isN F) g r).bind fun l r => (need sKet r).bind fun _ r => .ok l r
def plistUpTo {α : Type} (F : List Tk -> PR α) (s : ByteArray) (g : Nat) (ts : List Tk) : PR (List α) :=
 if hd s ts = true then .ok [] ts.tail else (plist F g ts).bind fun l r => (need s r).bind fun _ r => .ok l r
def pvar (ts : List Tk) : PR Ty :=
 (pname isN ts).bind fun n r => if hd sPlus r = true then (pnumber r.tail).bind fun s r => .ok (.mk 9 0 n s [] []) r else .ok (.mk 9 0 n 0 [] []) r
def panyS (S : List Tk -> PR Ty) (ts : List Tk) : PR Ty :=
 if hd sInt ts = true then .ok (.mk 1 0 ⟨#[]⟩ 0 [] []) ts.tail else if hd sBool ts = true then .ok (.mk 2 0 ⟨#[]⟩ 0 [] []) ts.tail else S ts
def ppayS (S : List Tk -> PR Ty) (ts : List Tk) : PR Ty :=
 if hd sBang ts = true \/ hd sAsk ts = true \/ hd sPlus ts = true \/ hd sAnd ts = true \/ hd sRec ts = true then .bad 1 ts else panyS S ts
def pexchS (S : List Tk -> PR Ty) (k : Int) (ts : List Tk) : PR Ty :=
 (pprio ts).bind fun p r => (ppayS S r).bind fun t r => (need sDot r).bind fun _ r => (S r).bind fun u r => .ok (.mk k p ⟨#[]⟩ 0 [] [t, u]) r
def pchoiceS (S : List Tk -> PR Ty) (g : Nat) (k : Int) (ts : List Tk) : PR Ty :=
 (pprio ts).bind fun p r => (pcases isN S g r).bind fun l r => .ok (.mk k p ⟨#[]⟩ 0 (l.map (·.1)) (l.map (·.2))) r
def precS (S : List Tk -> PR Ty) (ts : List Tk) : PR Ty :=
 (pname isN ts).bind fun n r => (need sDot r).bind fun _ r => (S r).bind fun t r => .ok (.mk 8 0 n 0 [] [t]) r
def psess : Nat -> List Tk -> PR Ty
 | 0, ts => .bad 1 ts
 | f + 1, ts =>
  if hd sEnd ts = true then .ok (.mk 3 0 ⟨#[]⟩ 0 [] []) ts.tail
  else if hd sBang ts = true then pexchS (psess f) 4 ts.tail
  else if hd sAsk ts = true then pexchS (psess f) 5 ts.tail
  else if hd sPlus ts = true then pchoiceS isN (psess f) f 6 ts.tail
  else if hd sAnd ts = true then pchoiceS isN (psess f) f 7 ts.tail
  else if hd sRec ts = true then precS isN (psess f) ts.tail
  else if hd sOpen ts = true then (psess f ts.tail).bind fun t r => (need sShut r).bind fun _ r => .ok t r
  else pvar isN ts
def pval : List Tk -> PR Vl
 | [] => .bad 1 []
 | x :: r => if (x.t.toList == sTrue.toList) = true then .ok ⟨3, ⟨#[]⟩, 1⟩ r else if (x.t.toList == sFalse.toList) = true then .ok ⟨3, ⟨#[]⟩, 0⟩ r else if x.k = 2 then .ok ⟨2, ⟨#[]⟩, x.v⟩ r else if isN x.t = true then .ok ⟨1, x.t, 0⟩ r else .bad 1 (x :: r)
def zT : Ty := .mk 0 0 ⟨#[]⟩ 0 [] []
def parOf : List Pr -> Pr
 | [p] => p
 | l => .mk 7 ⟨#[]⟩ ⟨#[]⟩ [] [] zT l
def prestS (S : List Tk -> PR Pr) (ts : List Tk) : PR Pr := (need sDot ts).bind fun _ r => S r
def psendS (S : List Tk -> PR Pr) (c : ByteArray) (ts : List Tk) : PR Pr :=
 (need sLess ts).bind fun _ r => (pval isN r).bind fun v r => (need sMore r).bind fun _ r => (prestS S r).bind fun p r => .ok (.mk 2 c ⟨#[]⟩ [] [v] zT [p]) r
def precvS (S : List Tk -> PR Pr) (c : ByteArray) (ts : List Tk) : PR Pr :=
 (need sOpen ts).bind fun _ r => (pname isN r).bind fun x r => (need sShut r).bind fun _ r => (prestS S r).bind fun p r => .ok (.mk 3 c x [] [] zT [p]) r
def pselS (S : List Tk -> PR Pr) (c : ByteArray) (ts : List Tk) : PR Pr :=
 (pname isN ts).bind fun l r => (prestS S r).bind fun p r => .ok (.mk 4 c ⟨#[]⟩ [l] [] zT [p]) r
def pbraS (P : List Tk -> PR Pr) (g : Nat) (c : ByteArray) (ts : List Tk) : PR Pr :=
 (pcases isN P g ts).bind fun l r => .ok (.mk 5 c ⟨#[]⟩ (l.map (·.1)) [] zT (l.map (·.2))) r
def pcallS (g : Nat) (c : ByteArray) (ts : List Tk) : PR Pr :=
 (need sLess ts).bind fun _ r => (plistUpTo (pval isN) sMore g r).bind fun l r => .ok (.mk 8 c ⟨#[]⟩ [] l zT []) r
def pnewS (T : List Tk -> PR Ty) (S : List Tk -> PR Pr) (ts : List Tk) : PR Pr :=
 (need sOpen ts).bind fun _ r => (pname isN r).bind fun a r => (need sComma r).bind fun _ r => (pname isN r).bind fun b r => (need sColon r).bind fun _ r => (T r).bind fun t r => (need sShut r).bind fun _ r => (S r).bind fun p r => .ok (.mk 6 a b [] [] t [p]) r
def pnamedS (P S : List Tk -> PR Pr) (g : Nat) (c : ByteArray) (ts : List Tk) : PR Pr :=
 if hd sBang ts = true then psendS isN S c ts.tail
 else if hd sAsk ts = true then precvS isN S c ts.tail
 else if hd sDot ts = true then pselS isN S c ts.tail
 else if hd sAnd ts = true then pbraS isN P g c ts.tail
 else pcallS isN g c ts
def pparts : Nat -> Bool -> List Tk -> PR (List Pr)
 | 0, _, ts => .bad 1 ts
 | f + 1, false, ts =>
  if hd sStop ts = true then .ok [.mk 1 ⟨#[]⟩ ⟨#[]⟩ [] [] zT []] ts.tail
  else if hd sOpen ts = true then (pparts f true ts.tail).bind fun l r => (need sShut r).bind fun _ r => .ok [parOf l] r
  else if hd sNew ts = true then (pnewS isN (psess isN f) (fun r => (pparts f false r).bind fun l r => .ok (parOf l) r) ts.tail).bind fun p r => .ok [p] r
  else (pname isN ts).bind fun c r => (pnamedS isN (fun r => (pparts f true r).bind fun l r => .ok (parOf l) r) (fun r => (pparts f false r).bind fun l r => .ok (parOf l) r) f c r).bind fun p r => .ok [p] r
 | f + 1, true, ts =>
  (if hd sOpen ts = true then (pparts f true ts.tail).bind fun l r => (need sShut r).bind fun _ r => .ok l r else pparts f false ts).bind fun l r =>
   if hd sBar r = true then (pparts f true r.tail).bind fun m r => .ok (l ++ m) r else .ok l r
def pproc (f : Nat) (ts : List Tk) : PR Pr := (pparts isN f true ts).bind fun l r => .ok (parOf l) r
def psing (f : Nat) (ts : List Tk) : PR Pr := (pparts isN f false ts).bind fun l r => .ok (parOf l) r
def pbody (f : Nat) (ts : List Tk) : PR Pr := (need sEq ts).bind fun _ r => (pproc isN f r).bind fun p r => (need sSemi r).bind fun _ r => .ok p r
def pparam (f : Nat) (ts : List Tk) : PR Pm := (pname isN ts).bind fun n r => (need sColon r).bind fun _ r => (panyS (psess isN f) r).bind fun t r => .ok ⟨n, t⟩ r
def pdef (f : Nat) (ts : List Tk) : PR Df := (pname isN ts).bind fun n r => (need sOpen r).bind fun _ r => (plistUpTo (pparam isN f) sShut f r).bind fun l r => (pbody isN f r).bind fun b r => .ok ⟨n, l, b⟩ r
def pdefs (f : Nat) : Nat -> List Tk -> PR (List Df)
 | 0, ts => .bad 1 ts
 | g + 1, ts => if hd sDef ts = true then (pdef isN f ts.tail).bind fun d r => (pdefs f g r).bind fun l r => .ok (d :: l) r else .ok [] ts
def pprog (f : Nat) (ts : List Tk) : PR Pg := (pdefs isN f f ts).bind fun l r => (need sMain r).bind fun _ r => (pbody isN f r).bind fun m r => .ok ⟨l, m⟩ r
end
end Go.Proofs.YtejaboajgecpaaaGreatDoor
namespace Go.Proofs.YtejaboajgecpaaaGreatDoor
open Go.RowKit Go.Deep
def Six (w : World) (b : Nat) (a0 a1 a2 a3 a4 a5 : Value) : Prop := w.heap[b]? = some (.cells #[a0, a1, a2, a3, a4, a5] 28 (0, 0))
theorem Six.cells {w : World} {b : Nat} {a0 a1 a2 a3 a4 a5 : Value} (h : Six w b a0 a1 a2 a3 a4 a5) :
 (w.cell? ⟨b, 0, none⟩ = some a0 /\ w.cell? ⟨b, 1, none⟩ = some a1 /\ w.cell? ⟨b, 2, none⟩ = some a2 /\ w.cell? ⟨b, 3, none⟩ = some a3 /\ w.cell? ⟨b, 4, none⟩ = some a4 /\ w.cell? ⟨b, 5, none⟩ = some a5) /\ ∀ j, w.frozen? ⟨b, j, none⟩ = false := by
 unfold Six at h
 refine ⟨⟨?_, ?_, ?_, ?_, ?_, ?_⟩, fun j => frozen_of_block h j⟩ <;> simp [World.cell?, h]
theorem Six.new (w : World) (a0 a1 a2 a3 a4 a5 : Value) : Six (w.alloc (.cells #[a0, a1, a2, a3, a4, a5] 28)) w.heap.size a0 a1 a2 a3 a4 a5 := World.alloc_heap_new w _
theorem Six.below {w w' : World} {b n : Nat} {a0 a1 a2 a3 a4 a5 : Value} (h : Six w b a0 a1 a2 a3 a4 a5) (hb : Below n w w') (hn : b < n) : Six w' b a0 a1 a2 a3 a4 a5 := (hb.block b hn).trans h
theorem Six.lt {w : World} {b : Nat} {a0 a1 a2 a3 a4 a5 : Value} (h : Six w b a0 a1 a2 a3 a4 a5) : b < w.heap.size := (Array.getElem?_eq_some_iff.1 h).1
theorem Six.to {w w' : World} {b : Nat} {a0 a1 a2 a3 a4 a5 : Value} (h : Six w b a0 a1 a2 a3 a4 a5) (hb : Below w.heap.size w w') : Six w' b a0 a1 a2 a3 a4 a5 := h.below hb h.lt
theorem set_block {W : World} {b : Nat} {cs : Array Value} {t : TypeId} {fr : Nat × Nat} (h : W.heap[b]? = some (.cells cs t fr)) (o : Nat) (v : Value) : (W.setCell ⟨b, o, none⟩ v).heap[b]? = some (.cells (cs.setIfInBounds o v) t fr) := by
 obtain ⟨hlt, hk⟩ := Array.getElem?_eq_some_iff.1 h
 show (W.heap.modify b _)[b]? = _
 rw [Array.getElem?_eq_getElem (by rw [Array.size_modify]; exact hlt), Array.getElem_modify_self, hk]
 rfl
end Go.Proofs.YtejaboajgecpaaaGreatDoor
namespace Go.Proofs.YtejaboajgecpaaaGreatDoor
open Go.RowKit Go.Deep Go.Shelf
theorem box3_below (w : World) (o o' o'' : Obj) : Below w.heap.size w (((w.alloc o).alloc o').alloc o'') := (((Below.refl _ _).alloc (Nat.le_refl _) _).alloc (by simp) _).alloc (by simp; omega) _
end Go.Proofs.YtejaboajgecpaaaGreatDoor
namespace Go.Proofs.YtejaboajgecpaaaGreatDoor
open Go.RowKit Go.Deep Go.Shelf
section
variable (nm : ByteArray) (b : Ty)
end
end Go.Proofs.YtejaboajgecpaaaGreatDoor
namespace Go.Proofs.YtejaboajgecpaaaGreatDoor
open Go.RowKit Go.Deep Go.Shelf
end Go.Proofs.YtejaboajgecpaaaGreatDoor
