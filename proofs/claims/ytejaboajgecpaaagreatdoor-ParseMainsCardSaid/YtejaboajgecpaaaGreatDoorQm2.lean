/- Types: lemmas. -/
import Derived.Test.YtejaboajgecpaaaGreatDoorQm1
import Derived.StillTailTactics
import Derived.Laws.OwnMore
import Derived.Deep.OwnRows
import Derived.Maps.AppendAt
import Derived.Lib.SliceRun
set_option maxHeartbeats 16000000
set_option maxRecDepth 100000
namespace Go.Proofs.YtejaboajgecpaaaGreatDoor
open Go.Lib (hid)
open Go.RowKit
theorem lists_eq {α : Type} {l l' : List α} {n : Nat} (h : n = l.length) (h' : n = l'.length) (ht : l.take n = l'.take n) : l = l' := by
 rw [List.take_of_length_le (by omega), List.take_of_length_le (by omega)] at ht; exact ht
theorem box2_fst {w wr : World} {cs cs' : Array Value} {t t' : TypeId} (hb : Below (w.heap.size + 2) ((w.alloc (.cells cs t)).alloc (.cells cs' t')) wr) (j : Nat) {v : Value} (h : cs[j]? = some v) : wr.cell? ⟨w.heap.size, j, none⟩ = some v := by
 refine (hb.cell (p := ⟨w.heap.size, j, none⟩) (by simp)).trans ?_
 rw [(Below.refl _ _ |>.alloc (Nat.le_refl _) (.cells cs' t') : Below (w.alloc (.cells cs t)).heap.size (w.alloc (.cells cs t)) _).cell (by simp)]
 simp [h]
theorem box2_snd {w wr : World} {cs cs' : Array Value} {t t' : TypeId} (hb : Below (w.heap.size + 2) ((w.alloc (.cells cs t)).alloc (.cells cs' t')) wr) (j : Nat) {v : Value} (h : cs'[j]? = some v) : wr.cell? ⟨w.heap.size + 1, j, none⟩ = some v := by
 refine (hb.cell (p := ⟨w.heap.size + 1, j, none⟩) (by simp)).trans ?_
 have := blk_cell (w := w.alloc (.cells cs t)) (cs := cs') (t := t') (Below.refl _ _) j h
 simpa using this
theorem box2_low {w wr : World} {o o' : Obj} (hb : Below (w.heap.size + 2) ((w.alloc o).alloc o') wr) : Below w.heap.size w wr := (box2_below w o o').trans (hb.mono (by omega))
theorem rsame_kids (B : Nat -> Prop) (k p s : Int) (n : ByteArray) (lv lv' kv kv' : Value) (ls ls' : List ByteArray) (ts ts' : List Ty) (ih : ∀ t ∈ ts, SameAt 18 B t) (w : World) (hB : Low B w)
 (hl : StrSl B w lv ls) (hl' : StrSl B w lv' ls') (hk : TySl B w kv ts) (hk' : TySl B w kv' ts') :
 Calls Tryz.prog 18 #[.agg #[.int .i64 k, .int .i64 p, .string n, .int .i64 s, lv, kv], .agg #[.int .i64 k, .int .i64 p, .string n, .int .i64 s, lv', kv']] w
  fun e w' => e = .returned (.bool (eqB (.mk k p n s ls ts) (.mk k p n s ls' ts'))) /\ Below w.heap.size w w' := by
 obtain ⟨pa, len, c, rfl, hlen, hm, hget⟩ := hk.open
 obtain ⟨pa', len', c', rfl, hlen', hm', hget'⟩ := hk'.open
 have HG := hid hget
 have HG' := hid hget'
 have hb0 := box2_below w (cell6 k p n s lv (.slice pa len c)) (cell6 k p n s lv' (.slice pa' len' c'))
 have HT := hid (rtexts_any B lv lv' ls ls' (box2 w k p n s lv (.slice pa len c) k p n s lv' (.slice pa' len' c')) (hl.keep (hb0.keeps'.mono hB)) (hl'.keep (hb0.keeps'.mono hB)))
 clear hget hget' hk hk' hl hl' hb0
 by_cases he : ls = ls'
 ·subst he
  rw [show decide (ls = ls) = true by simp] at HT
  by_cases hz : len = len'
  ·subst hz
   go_enter Tryz.func18, Tryz.ntmps18
   go_wp2_with (go_at_call 41; refine HT.out.mono ?_; rintro e w1 ⟨rfl, nq, rfl⟩)
   clear HT
   generalize hW0 : ((box2 w k p n s lv (.slice pa len c) k p n s lv' (.slice pa' len c')).drewN nq) = W0
   have hB0 : Below (w.heap.size + 2) (box2 w k p n s lv (.slice pa len c) k p n s lv' (.slice pa' len c')) W0 := by rw [<- hW0]; exact below_drewN (Below.refl _ _) _
   clear hW0
   go_loopw [5] (fun i wr => ∃ (j : Nat), i = .int .i64 j /\ j <= len /\ Hid (ts.take j = ts'.take j) /\ Below (w.heap.size + 2) (box2 w k p n s lv (.slice pa len c) k p n s lv' (.slice pa' len c')) wr) (fun i _ => len - (intOf i).toNat)
   case atStart => exact ⟨0, rfl, by omega, hid (by simp), hB0⟩
   case round =>
    obtain ⟨j, rfl, hj, HT, hb⟩ := hrel
    have c5 := box2_fst hb 5 rfl
    have d5 := box2_snd hb 5 rfl
    have hw := box2_low hb
    by_cases hlt : j < len
    ·obtain ⟨t, ht⟩ : ∃ t, ts[j]? = some t := ⟨_, List.getElem?_eq_getElem (by rw [<- hlen.out]; exact hlt)⟩
     obtain ⟨t', ht'⟩ : ∃ t', ts'[j]? = some t' := ⟨_, List.getElem?_eq_getElem (by rw [<- hlen'.out]; exact hlt)⟩
     obtain ⟨kb, ko, rfl, hkb, hty⟩ := HG.out j t ht
     obtain ⟨kb', ko', rfl, hkb', hty'⟩ := HG'.out j t' ht'
     obtain ⟨lv1, kv1, ⟨a0, a1, a2, a3, a4, a5⟩, hval⟩ := (hty.keep (hw.keeps'.mono hB)).load
     obtain ⟨lv2, kv2, ⟨b0, b1, b2, b3, b4, b5⟩, hval'⟩ := (hty'.keep (hw.keeps'.mono hB)).load
     have IH := hid (ih t (List.mem_of_getElem? ht) t' _ _ wr.drew (hB.le hw.size) (hval.to (hB.le hw.size) (Below.drew (Below.refl _ _))) (hval'.to (hB.le hw.size) (Below.drew (Below.refl _ _))))
     by_cases htt : t = t'
     ·rw [eqB_true.2 htt] at IH
      have hn : Hid (ts.take (j + 1) = ts'.take (j + 1)) := hid (by rw [take_snoc_get ht, take_snoc_get ht', HT.out, htt])
      clear ht ht' htt hty hty' hval hval'
      go_wp2_with fail
      go_still_tail 10, (by kernel_rfl)
      change wpList _ _ _ _ _ wr.drew
      generalize hw2 : wr.drew = w2 at *
      have hb2 : Below (w.heap.size + 2) (box2 w k p n s lv (.slice (some ⟨kb, ko, none⟩) len c) k p n s lv' (.slice (some ⟨kb', ko', none⟩) len c')) w2 := by rw [<- hw2]; exact hb.drew
      clear hw2
      go_wp2_with (go_at_call 18; refine IH.out.mono ?_; rintro e w3 ⟨rfl, hb3⟩)
      go_roundw
      case rel => exact ⟨j + 1, by go_num, by omega, hn, hb2.trans (hb3.mono (by have := hb2.size; simpa using this))⟩
      case measure => simp [intOf]; omega
     ·rw [eqB_ne htt] at IH
      have hne : Hid (eqB (.mk k p n s ls ts) (.mk k p n s ls ts') = false) := hid (eqB_ne (fun e => htt (by cases e; rw [ht] at ht'; exact Option.some.inj ht')))
      clear ht ht' htt hty hty' hval hval'
      go_wp2_with fail
      go_still_tail 10, (by kernel_rfl)
      change wpList _ _ _ _ _ wr.drew
      generalize hw2 : wr.drew = w2 at *
      have hb2 : Below (w.heap.size + 2) (box2 w k p n s lv (.slice (some ⟨kb, ko, none⟩) len c) k p n s lv' (.slice (some ⟨kb', ko', none⟩) len c')) w2 := by rw [<- hw2]; exact hb.drew
      clear hw2
      go_wp2_with (go_at_call 18; refine IH.out.mono ?_; rintro e w3 ⟨rfl, hb3⟩)
      go_ret
      exact ⟨ret_bool hne.out.symm, below_seq (box2_low hb2) hb3⟩
    ·obtain rfl : j = len := by omega
     have hq : Hid (eqB (.mk k p n s ls ts) (.mk k p n s ls ts') = true) := hid (eqB_true.2 (by rw [lists_eq hlen.out hlen'.out HT.out]))
     go_wp2_with fail
     go_ret
     exact ⟨ret_bool hq.out.symm, hw⟩
  ·have hz' : (len != len') = true := by simpa using hz
   have hne : Hid (eqB (.mk k p n s ls ts) (.mk k p n s ls ts') = false) := hid (eqB_ne (fun e => hz (by rw [hlen.out, hlen'.out]; cases e; rfl)))
   go_enter Tryz.func18, Tryz.ntmps18
   go_wp2_with (go_at_call 41; refine HT.out.mono ?_; rintro e w1 ⟨rfl, nq, rfl⟩)
   go_ret
   exact ⟨ret_bool hne.out.symm, below_drewN (box2_below _ _ _) _⟩
 ·rw [show decide (ls = ls') = false by simpa using he] at HT
  have hne : Hid (eqB (.mk k p n s ls ts) (.mk k p n s ls' ts') = false) := hid (eqB_ne (fun e => he (by cases e; rfl)))
  clear he
  go_enter Tryz.func18, Tryz.ntmps18
  go_wp2_with (go_at_call 41; refine HT.out.mono ?_; rintro e w1 ⟨rfl, nq, rfl⟩)
  go_ret
  exact ⟨ret_bool hne.out.symm, below_drewN (box2_below _ _ _) _⟩
theorem rsame_any (B : Nat -> Prop) : ∀ (t : Ty), SameAt 18 B t := by
 refine Ty.ind ?_
 intro k p n s ls ts ih u v v' w hB hv hv'
 obtain ⟨lv, kv, rfl, _, hl, hk⟩ := hv
 obtain ⟨k', p', n', s', ls', ts'⟩ := u
 obtain ⟨lv', kv', rfl, _, hl', hk'⟩ := hv'
 by_cases h : k = k' /\ p = p' /\ n = n' /\ s = s'
 ·obtain ⟨rfl, rfl, rfl, rfl⟩ := h
  exact rsame_kids B _ _ _ _ lv lv' kv kv' ls ls' ts ts' ih w hB hl hl' hk hk'
 ·rw [eqB_ne (fun e => h (by cases e; exact ⟨rfl, rfl, rfl, rfl⟩))]
  exact rsame_no _ _ _ _ _ _ _ _ _ _ _ _ h w
end Go.Proofs.YtejaboajgecpaaaGreatDoor
namespace Go.Proofs.YtejaboajgecpaaaGreatDoor
open Go.RowKit
end Go.Proofs.YtejaboajgecpaaaGreatDoor
namespace Go.Proofs.YtejaboajgecpaaaGreatDoor
open Go.RowKit Go.Deep
theorem frozen_of_block {w : World} {g : Nat} {cs : Array Value} {t : TypeId} (h : w.heap[g]? = some (.cells cs t (0, 0))) (j : Nat) : w.frozen? ⟨g, j, none⟩ = false := by simp [World.frozen?, h]
theorem tyAt_of {B : Nat -> Prop} {w : World} {t : Ty} {b o : Nat} {v5 v6 : Value} (hb : B b) (c0 : w.cell? ⟨b, o, none⟩ = some (.int .i64 t.k)) (c1 : w.cell? ⟨b, o + 1, none⟩ = some (.int .i64 t.p)) (c2 : w.cell? ⟨b, o + 2, none⟩ = some (.string t.n)) (c3 : w.cell? ⟨b, o + 3, none⟩ = some (.int .i64 t.s))
 (c4 : w.cell? ⟨b, o + 4, none⟩ = some v5) (c5 : w.cell? ⟨b, o + 5, none⟩ = some v6) (h : TyVal B w (.agg #[.int .i64 t.k, .int .i64 t.p, .string t.n, .int .i64 t.s, v5, v6]) t) : TyAt B w t b o := by
 obtain ⟨lv, kv, e, hn, hl, hk⟩ := h
 simp only [Value.agg.injEq, Array.mk.injEq, List.cons.injEq, and_true, true_and] at e
 obtain ⟨rfl, rfl⟩ := e
 exact TyAt.eq.2 ⟨hb, hn, ⟨c0, c1, c2, c3⟩, _, _, c4, c5, hl, hk⟩
end Go.Proofs.YtejaboajgecpaaaGreatDoor
namespace Go.Proofs.YtejaboajgecpaaaGreatDoor
open Go.Lib (hid)
open Go.RowKit
structure Vl where
 k : Int
 n : ByteArray
 x : Int
inductive Pr where
 | mk (k : Int) (c x : ByteArray) (ls : List ByteArray) (vs : List Vl) (t : Ty) (ps : List Pr)
instance : Inhabited Pr := ⟨.mk 0 ⟨#[]⟩ ⟨#[]⟩ [] [] default []⟩
namespace Pr
def k : Pr -> Int | .mk k _ _ _ _ _ _ => k
def c : Pr -> ByteArray | .mk _ c _ _ _ _ _ => c
def x : Pr -> ByteArray | .mk _ _ x _ _ _ _ => x
def ls : Pr -> List ByteArray | .mk _ _ _ ls _ _ _ => ls
def vs : Pr -> List Vl | .mk _ _ _ _ vs _ _ => vs
def t : Pr -> Ty | .mk _ _ _ _ _ t _ => t
def ps : Pr -> List Pr | .mk _ _ _ _ _ _ ps => ps
end Pr
mutual
theorem Pr.ind {M : Pr -> Prop} (h : ∀ k c x ls vs t ps, (∀ p ∈ ps, M p) -> M (.mk k c x ls vs t ps)) : ∀ p, M p
 | .mk k c x ls vs t ps => h k c x ls vs t ps (Pr.inds h ps)
theorem Pr.inds {M : Pr -> Prop} (h : ∀ k c x ls vs t ps, (∀ p ∈ ps, M p) -> M (.mk k c x ls vs t ps)) : ∀ ps : List Pr, ∀ p ∈ ps, M p
 | [], _, hm => by cases hm
 | p :: r, u, hm => by
  rcases List.mem_cons.1 hm with e | hm
  ·rw [e]; exact Pr.ind h p
  ·exact Pr.inds h r u hm
end
mutual
def Pr.size : Pr -> Nat
 | .mk _ _ _ _ _ _ ps => Pr.sizes ps + 1
def Pr.sizes : List Pr -> Nat
 | [] => 0
 | p :: r => p.size + Pr.sizes r
end
mutual
def Pr.depth : Pr -> Nat
 | .mk _ _ _ _ _ _ ps => Pr.depths ps + 1
def Pr.depths : List Pr -> Nat
 | [] => 0
 | p :: r => max p.depth (Pr.depths r)
end
theorem Pr.size_eq (p : Pr) : p.size = Pr.sizes p.ps + 1 := by cases p; simp [Pr.size, Pr.ps]
theorem Pr.depth_eq (p : Pr) : p.depth = Pr.depths p.ps + 1 := by cases p; simp [Pr.depth, Pr.ps]
theorem Pr.depth_pos (p : Pr) : 1 <= p.depth := by rw [Pr.depth_eq]; omega
theorem Pr.depth_mem {l : List Pr} {p : Pr} (h : p ∈ l) : p.depth <= Pr.depths l := by
 induction l with
 | nil => cases h
 | cons u l ih =>
  simp only [Pr.depths]
  rcases List.mem_cons.1 h with rfl | h
  ·omega
  ·have := ih h; omega
def VlRow (w : World) (b o : Nat) (vs : List Vl) : Prop := ∀ (j : Nat) (a : Vl), vs[j]? = some a -> w.cell? ⟨b, o + j * 3, none⟩ = some (.int .i64 a.k) /\ w.cell? ⟨b, o + j * 3 + 1, none⟩ = some (.string a.n) /\ w.cell? ⟨b, o + j * 3 + 2, none⟩ = some (.int .i64 a.x)
def VlSl (B : Nat -> Prop) (w : World) (v : Value) (vs : List Vl) : Prop :=
 (((∃ a c, v = .slice a 0 c) /\ vs = []) \/ ∃ b o c, v = .slice (some ⟨b, o, none⟩) vs.length c /\ B b /\ vs.length <= c /\ VlRow w b o vs) /\ vs.length <= maxLen /\ ∀ a ∈ vs, a.n.size <= maxLen
mutual
def PrAt (B : Nat -> Prop) (w : World) : Pr -> Nat -> Nat -> Prop
 | .mk k c x ls vs t ps, b, o => B b /\ (c.size <= maxLen /\ x.size <= maxLen) /\
  (w.cell? ⟨b, o, none⟩ = some (.int .i64 k) /\ w.cell? ⟨b, o + 1, none⟩ = some (.string c) /\ w.cell? ⟨b, o + 2, none⟩ = some (.string x)) /\
  TyAt B w t b (o + 5) /\
  ∃ lv av kv, w.cell? ⟨b, o + 3, none⟩ = some lv /\ w.cell? ⟨b, o + 4, none⟩ = some av /\ w.cell? ⟨b, o + 11, none⟩ = some kv /\ StrSl B w lv ls /\ VlSl B w av vs /\
   (((∃ a c, kv = .slice a 0 c) /\ ps = []) \/ ∃ kb ko c, kv = .slice (some ⟨kb, ko, none⟩) ps.length c /\ B kb /\ PrsAt B w ps kb ko) /\ ps.length <= maxLen
def PrsAt (B : Nat -> Prop) (w : World) : List Pr -> Nat -> Nat -> Prop
 | [], _, _ => True
 | p :: r, b, o => PrAt B w p b o /\ PrsAt B w r b (o + 12)
end
def PrSl (B : Nat -> Prop) (w : World) (kv : Value) (ps : List Pr) : Prop :=
 (((∃ a c, kv = .slice a 0 c) /\ ps = []) \/ ∃ kb ko c, kv = .slice (some ⟨kb, ko, none⟩) ps.length c /\ B kb /\ PrsAt B w ps kb ko) /\ ps.length <= maxLen
abbrev prAgg (p : Pr) (lv av tl tk kv : Value) : Value := .agg #[.int .i64 p.k, .string p.c, .string p.x, lv, av, .int .i64 p.t.k, .int .i64 p.t.p, .string p.t.n, .int .i64 p.t.s, tl, tk, kv]
def PrVal (B : Nat -> Prop) (w : World) (v : Value) (p : Pr) : Prop :=
 ∃ lv av tl tk kv, v = prAgg p lv av tl tk kv /\ (p.c.size <= maxLen /\ p.x.size <= maxLen) /\ StrSl B w lv p.ls /\ VlSl B w av p.vs /\ TyVal B w (.agg #[.int .i64 p.t.k, .int .i64 p.t.p, .string p.t.n, .int .i64 p.t.s, tl, tk]) p.t /\ PrSl B w kv p.ps
theorem PrAt.eq {B : Nat -> Prop} {w : World} {p : Pr} {b o : Nat} : PrAt B w p b o ↔ B b /\ (p.c.size <= maxLen /\ p.x.size <= maxLen) /\
 (w.cell? ⟨b, o, none⟩ = some (.int .i64 p.k) /\ w.cell? ⟨b, o + 1, none⟩ = some (.string p.c) /\ w.cell? ⟨b, o + 2, none⟩ = some (.string p.x)) /\
 TyAt B w p.t b (o + 5) /\
 ∃ lv av kv, w.cell? ⟨b, o + 3, none⟩ = some lv /\ w.cell? ⟨b, o + 4, none⟩ = some av /\ w.cell? ⟨b, o + 11, none⟩ = some kv /\ StrSl B w lv p.ls /\ VlSl B w av p.vs /\ PrSl B w kv p.ps := by
 cases p; simp only [PrAt, PrSl, Pr.k, Pr.c, Pr.x, Pr.t, Pr.ls, Pr.vs, Pr.ps]
theorem VlSl.keep {B : Nat -> Prop} {w w' : World} (h : Keeps B w w') {v : Value} {vs : List Vl} (hv : VlSl B w v vs) : VlSl B w' v vs := by
 refine ⟨?_, hv.2⟩
 rcases hv.1 with h1 | ⟨b, o, c, h1, h2, hc, h3⟩
 ·exact .inl h1
 ·exact .inr ⟨b, o, c, h1, h2, hc, fun j a hj => ⟨h.cell h2 (h3 j a hj).1, h.cell h2 (h3 j a hj).2.1, h.cell h2 (h3 j a hj).2.2⟩⟩
theorem VlSl.mono {B C : Nat -> Prop} {w : World} (h : ∀ k, B k -> C k) {v : Value} {vs : List Vl} (hv : VlSl B w v vs) : VlSl C w v vs := by
 refine ⟨?_, hv.2⟩
 rcases hv.1 with h1 | ⟨b, o, c, h1, h2, hc, h3⟩
 ·exact .inl h1
 ·exact .inr ⟨b, o, c, h1, h _ h2, hc, h3⟩
mutual
theorem PrAt.keep {B : Nat -> Prop} {w w' : World} (h : Keeps B w w') : ∀ (p : Pr) (b o : Nat), PrAt B w p b o -> PrAt B w' p b o
 | .mk k c x ls vs t ps, b, o, hp => by
  simp only [PrAt] at hp |-
  obtain ⟨hb, hn, ⟨c0, c1, c2⟩, ht, lv, av, kv, c3, c4, c11, hl, ha, hk, hm⟩ := hp
  refine ⟨hb, hn, ⟨h.cell hb c0, h.cell hb c1, h.cell hb c2⟩, ht.keep h, lv, av, kv, h.cell hb c3, h.cell hb c4, h.cell hb c11, hl.keep h, ha.keep h, ?_, hm⟩
  rcases hk with h1 | ⟨kb, ko, c, h1, h2, h3⟩
  ·exact .inl h1
  ·exact .inr ⟨kb, ko, c, h1, h2, PrsAt.keep h ps kb ko h3⟩
theorem PrsAt.keep {B : Nat -> Prop} {w w' : World} (h : Keeps B w w') : ∀ (ps : List Pr) (b o : Nat), PrsAt B w ps b o -> PrsAt B w' ps b o
 | [], _, _, _ => by simp [PrsAt]
 | p :: r, b, o, hp => by
  simp only [PrsAt] at hp |-
  exact ⟨PrAt.keep h p b o hp.1, PrsAt.keep h r b (o + 12) hp.2⟩
end
theorem PrSl.keep {B : Nat -> Prop} {w w' : World} (h : Keeps B w w') {v : Value} {ps : List Pr} (hv : PrSl B w v ps) : PrSl B w' v ps := by
 refine ⟨?_, hv.2⟩
 rcases hv.1 with h1 | ⟨b, o, c, h1, h2, h3⟩
 ·exact .inl h1
 ·exact .inr ⟨b, o, c, h1, h2, PrsAt.keep h _ _ _ h3⟩
theorem PrVal.keep {B : Nat -> Prop} {w w' : World} (h : Keeps B w w') {v : Value} {p : Pr} (hv : PrVal B w v p) : PrVal B w' v p := by
 obtain ⟨lv, av, tl, tk, kv, e, hn, hl, ha, ht, hk⟩ := hv
 exact ⟨lv, av, tl, tk, kv, e, hn, hl.keep h, ha.keep h, ht.keep h, hk.keep h⟩
mutual
theorem PrAt.mono {B C : Nat -> Prop} {w : World} (h : ∀ k, B k -> C k) : ∀ (p : Pr) (b o : Nat), PrAt B w p b o -> PrAt C w p b o
 | .mk k c x ls vs t ps, b, o, hp => by
  simp only [PrAt] at hp |-
  obtain ⟨hb, hn, hc, ht, lv, av, kv, c3, c4, c11, hl, ha, hk, hm⟩ := hp
  refine ⟨h _ hb, hn, hc, ht.mono h, lv, av, kv, c3, c4, c11, hl.mono h, ha.mono h, ?_, hm⟩
  rcases hk with h1 | ⟨kb, ko, c, h1, h2, h3⟩
  ·exact .inl h1
  ·exact .inr ⟨kb, ko, c, h1, h _ h2, PrsAt.mono h ps kb ko h3⟩
theorem PrsAt.mono {B C : Nat -> Prop} {w : World} (h : ∀ k, B k -> C k) : ∀ (ps : List Pr) (b o : Nat), PrsAt B w ps b o -> PrsAt C w ps b o
 | [], _, _, _ => by simp [PrsAt]
 | p :: r, b, o, hp => by
  simp only [PrsAt] at hp |-
  exact ⟨PrAt.mono h p b o hp.1, PrsAt.mono h r b (o + 12) hp.2⟩
end
theorem PrSl.mono {B C : Nat -> Prop} {w : World} (h : ∀ k, B k -> C k) {v : Value} {ps : List Pr} (hv : PrSl B w v ps) : PrSl C w v ps := by
 refine ⟨?_, hv.2⟩
 rcases hv.1 with h1 | ⟨b, o, c, h1, h2, h3⟩
 ·exact .inl h1
 ·exact .inr ⟨b, o, c, h1, h _ h2, PrsAt.mono h _ _ _ h3⟩
theorem PrVal.mono {B C : Nat -> Prop} {w : World} (h : ∀ k, B k -> C k) {v : Value} {p : Pr} (hv : PrVal B w v p) : PrVal C w v p := by
 obtain ⟨lv, av, tl, tk, kv, e, hn, hl, ha, ht, hk⟩ := hv
 exact ⟨lv, av, tl, tk, kv, e, hn, hl.mono h, ha.mono h, ht.mono h, hk.mono h⟩
theorem PrVal.to {B : Nat -> Prop} {C : Nat} {w w' : World} (hBC : ∀ k, B k -> k < C) (hb : Below C w w') {v : Value} {p : Pr} (hv : PrVal B w v p) : PrVal B w' v p := hv.keep (hb.keeps'.mono hBC)
theorem PrsAt.get {B : Nat -> Prop} {w : World} : ∀ {ps : List Pr} {b o : Nat}, PrsAt B w ps b o -> ∀ {i : Nat} {p : Pr}, ps[i]? = some p -> PrAt B w p b (o + i * 12)
 | [], _, _, _, i, p, hi => by simp at hi
 | u :: r, b, o, h, i, p, hi => by
  simp only [PrsAt] at h
  cases i with
  | zero => simp at hi; subst hi; simpa using h.1
  | succ i =>
   have := PrsAt.get h.2 (i := i) (p := p) (by simpa using hi)
   rw [show o + (i + 1) * 12 = o + 12 + i * 12 by omega]; exact this
theorem PrSl.open {B : Nat -> Prop} {w : World} {kv : Value} {ps : List Pr} (h : PrSl B w kv ps) :
 ∃ pa len c, kv = .slice pa len c /\ Hid (len = ps.length) /\ len <= 9223372036854775807 /\ ∀ i p, ps[i]? = some p -> ∃ kb ko, pa = some ⟨kb, ko, none⟩ /\ B kb /\ PrAt B w p kb (ko + i * 12) := by
 obtain ⟨h, hm⟩ := h
 unfold maxLen at hm
 rcases h with ⟨⟨a, c, rfl⟩, rfl⟩ | ⟨kb, ko, c, rfl, hkb, hrow⟩
 ·exact ⟨a, 0, c, rfl, hid rfl, by omega, fun i t hi => by simp at hi⟩
 ·exact ⟨_, _, _, rfl, hid rfl, by omega, fun i t hi => ⟨kb, ko, rfl, hkb, hrow.get hi⟩⟩
theorem VlSl.open {B : Nat -> Prop} {w : World} {v : Value} {vs : List Vl} (h : VlSl B w v vs) :
 ∃ pa len c, v = .slice pa len c /\ Hid (len = vs.length) /\ len <= 9223372036854775807 /\ ∀ i a, vs[i]? = some a -> a.n.size <= maxLen /\ ∃ kb ko, pa = some ⟨kb, ko, none⟩ /\ B kb /\ w.cell? ⟨kb, ko + i * 3, none⟩ = some (.int .i64 a.k) /\ w.cell? ⟨kb, ko + i * 3 + 1, none⟩ = some (.string a.n) /\ w.cell? ⟨kb, ko + i * 3 + 2, none⟩ = some (.int .i64 a.x) := by
 obtain ⟨h, hm, hz⟩ := h
 unfold maxLen at hm
 rcases h with ⟨⟨a, c, rfl⟩, rfl⟩ | ⟨b, o, c, rfl, hb, _, hrow⟩
 ·exact ⟨a, 0, c, rfl, hid rfl, by omega, fun i t hi => by simp at hi⟩
 ·exact ⟨_, _, _, rfl, hid rfl, by omega, fun i a hi => ⟨hz _ (List.mem_of_getElem? hi), b, o, rfl, hb, hrow i a hi⟩⟩
theorem PrAt.load' {B : Nat -> Prop} {w : World} {p : Pr} {b o : Nat} (h : PrAt B w p b o) :
 ∃ (la : Option Addr) (ln lc : Nat) (aa : Option Addr) (an ac : Nat) (ta : Option Addr) (tn tc : Nat) (ua : Option Addr) (un uc : Nat) (ka : Option Addr) (kn kc : Nat),
  (w.cell? ⟨b, o, none⟩ = some (.int .i64 p.k) /\ w.cell? ⟨b, o + 1, none⟩ = some (.string p.c) /\ w.cell? ⟨b, o + 2, none⟩ = some (.string p.x) /\ w.cell? ⟨b, o + 3, none⟩ = some (.slice la ln lc) /\ w.cell? ⟨b, o + 4, none⟩ = some (.slice aa an ac) /\
   w.cell? ⟨b, o + 5, none⟩ = some (.int .i64 p.t.k) /\ w.cell? ⟨b, o + 6, none⟩ = some (.int .i64 p.t.p) /\ w.cell? ⟨b, o + 7, none⟩ = some (.string p.t.n) /\ w.cell? ⟨b, o + 8, none⟩ = some (.int .i64 p.t.s) /\
   w.cell? ⟨b, o + 9, none⟩ = some (.slice ta tn tc) /\ w.cell? ⟨b, o + 10, none⟩ = some (.slice ua un uc) /\ w.cell? ⟨b, o + 11, none⟩ = some (.slice ka kn kc)) /\
  PrVal B w (prAgg p (.slice la ln lc) (.slice aa an ac) (.slice ta tn tc) (.slice ua un uc) (.slice ka kn kc)) p := by
 obtain ⟨hb, hn, ⟨c0, c1, c2⟩, ht, lv, av, kv, c3, c4, c11, hl, ha, hk⟩ := PrAt.eq.1 h
 obtain ⟨ta, tn, tc, ua, un, uc, ⟨d0, d1, d2, d3, d4, d5⟩, htv⟩ := ht.load'
 obtain ⟨la, ln, lc, rfl, _⟩ := hl.open
 obtain ⟨aa, an, ac, rfl, _⟩ := ha.open
 obtain ⟨ka, kn, kc, rfl, _⟩ := hk.open
 exact ⟨la, ln, lc, aa, an, ac, ta, tn, tc, ua, un, uc, ka, kn, kc, ⟨c0, c1, c2, c3, c4, d0, d1, d2, d3, d4, d5, c11⟩, _, _, _, _, _, rfl, hn, hl, ha, htv, hk⟩
theorem prAt_of {B : Nat -> Prop} {w : World} {p : Pr} {b o : Nat} {lv av tl tk kv : Value} (hb : B b)
 (c0 : w.cell? ⟨b, o, none⟩ = some (.int .i64 p.k)) (c1 : w.cell? ⟨b, o + 1, none⟩ = some (.string p.c)) (c2 : w.cell? ⟨b, o + 2, none⟩ = some (.string p.x)) (c3 : w.cell? ⟨b, o + 3, none⟩ = some lv) (c4 : w.cell? ⟨b, o + 4, none⟩ = some av)
 (c5 : w.cell? ⟨b, o + 5, none⟩ = some (.int .i64 p.t.k)) (c6 : w.cell? ⟨b, o + 6, none⟩ = some (.int .i64 p.t.p)) (c7 : w.cell? ⟨b, o + 7, none⟩ = some (.string p.t.n)) (c8 : w.cell? ⟨b, o + 8, none⟩ = some (.int .i64 p.t.s))
 (c9 : w.cell? ⟨b, o + 9, none⟩ = some tl) (c10 : w.cell? ⟨b, o + 10, none⟩ = some tk) (c11 : w.cell? ⟨b, o + 11, none⟩ = some kv) (hv : PrVal B w (prAgg p lv av tl tk kv) p) : PrAt B w p b o := by
 obtain ⟨lv', av', tl', tk', kv', e, hn, hl, ha, ht, hk⟩ := hv
 simp only [prAgg, Value.agg.injEq, Array.mk.injEq, List.cons.injEq, and_true, true_and] at e
 obtain ⟨rfl, rfl, rfl, rfl, rfl⟩ := e
 exact PrAt.eq.2 ⟨hb, hn, ⟨c0, c1, c2⟩, tyAt_of hb c5 c6 c7 c8 c9 c10 ht, _, _, _, c3, c4, c11, hl, ha, hk⟩
structure Pm where
 n : ByteArray
 t : Ty
structure Df where
 n : ByteArray
 ms : List Pm
 b : Pr
structure Pg where
 ds : List Df
 m : Pr
def PmAt (B : Nat -> Prop) (w : World) (a : Pm) (b o : Nat) : Prop := a.n.size <= maxLen /\ w.cell? ⟨b, o, none⟩ = some (.string a.n) /\ TyAt B w a.t b (o + 1)
theorem PmAt.keep {B : Nat -> Prop} {w w' : World} (h : Keeps B w w') {a : Pm} {b o : Nat} (hb : B b) (ha : PmAt B w a b o) : PmAt B w' a b o := ⟨ha.1, h.cell hb ha.2.1, ha.2.2.keep h⟩
theorem PmAt.mono {B C : Nat -> Prop} {w : World} (h : ∀ k, B k -> C k) {a : Pm} {b o : Nat} (ha : PmAt B w a b o) : PmAt C w a b o := ⟨ha.1, ha.2.1, ha.2.2.mono h⟩
def PmSl (B : Nat -> Prop) (w : World) (v : Value) (l : List Pm) : Prop :=
 (((∃ a c, v = .slice a 0 c) /\ l = []) \/ ∃ b o c, v = .slice (some ⟨b, o, none⟩) l.length c /\ B b /\ ∀ (j : Nat) (a : Pm), l[j]? = some a -> PmAt B w a b (o + j * 7)) /\ l.length <= maxLen
theorem PmSl.keep {B : Nat -> Prop} {w w' : World} (h : Keeps B w w') {v : Value} {l : List Pm} (hv : PmSl B w v l) : PmSl B w' v l := by
 refine ⟨?_, hv.2⟩
 rcases hv.1 with h1 | ⟨b, o, c, h1, h2, h3⟩
 ·exact .inl h1
 ·exact .inr ⟨b, o, c, h1, h2, fun j a hj => PmAt.keep h h2 (h3 j a hj)⟩
theorem PmSl.mono {B C : Nat -> Prop} {w : World} (h : ∀ k, B k -> C k) {v : Value} {l : List Pm} (hv : PmSl B w v l) : PmSl C w v l := by
 refine ⟨?_, hv.2⟩
 rcases hv.1 with h1 | ⟨b, o, c, h1, h2, h3⟩
 ·exact .inl h1
 ·exact .inr ⟨b, o, c, h1, h _ h2, fun j a hj => PmAt.mono h (h3 j a hj)⟩
theorem PmSl.open {B : Nat -> Prop} {w : World} {v : Value} {l : List Pm} (h : PmSl B w v l) :
 ∃ pa len c, v = .slice pa len c /\ Hid (len = l.length) /\ len <= 9223372036854775807 /\ ∀ i a, l[i]? = some a -> ∃ kb ko, pa = some ⟨kb, ko, none⟩ /\ B kb /\ PmAt B w a kb (ko + i * 7) := by
 obtain ⟨h, hm⟩ := h
 unfold maxLen at hm
 rcases h with ⟨⟨a, c, rfl⟩, rfl⟩ | ⟨kb, ko, c, rfl, hkb, hrow⟩
 ·exact ⟨a, 0, c, rfl, hid rfl, by omega, fun i t hi => by simp at hi⟩
 ·exact ⟨_, _, _, rfl, hid rfl, by omega, fun i t hi => ⟨kb, ko, rfl, hkb, hrow i t hi⟩⟩
def DfAt (B : Nat -> Prop) (w : World) (d : Df) (b o : Nat) : Prop := d.n.size <= maxLen /\ w.cell? ⟨b, o, none⟩ = some (.string d.n) /\ (∃ mv, w.cell? ⟨b, o + 1, none⟩ = some mv /\ PmSl B w mv d.ms) /\ PrAt B w d.b b (o + 2)
theorem DfAt.keep {B : Nat -> Prop} {w w' : World} (h : Keeps B w w') {a : Df} {b o : Nat} (hb : B b) (ha : DfAt B w a b o) : DfAt B w' a b o := by
 obtain ⟨h1, h2, ⟨mv, h3, h4⟩, h5⟩ := ha
 exact ⟨h1, h.cell hb h2, ⟨mv, h.cell hb h3, h4.keep h⟩, PrAt.keep h _ _ _ h5⟩
theorem DfAt.mono {B C : Nat -> Prop} {w : World} (h : ∀ k, B k -> C k) {a : Df} {b o : Nat} (ha : DfAt B w a b o) : DfAt C w a b o := by
 obtain ⟨h1, h2, ⟨mv, h3, h4⟩, h5⟩ := ha
 exact ⟨h1, h2, ⟨mv, h3, h4.mono h⟩, PrAt.mono h _ _ _ h5⟩
def DfSl (B : Nat -> Prop) (w : World) (v : Value) (l : List Df) : Prop :=
 (((∃ a c, v = .slice a 0 c) /\ l = []) \/ ∃ b o c, v = .slice (some ⟨b, o, none⟩) l.length c /\ B b /\ ∀ (j : Nat) (a : Df), l[j]? = some a -> DfAt B w a b (o + j * 14)) /\ l.length <= maxLen
theorem DfSl.keep {B : Nat -> Prop} {w w' : World} (h : Keeps B w w') {v : Value} {l : List Df} (hv : DfSl B w v l) : DfSl B w' v l := by
 refine ⟨?_, hv.2⟩
 rcases hv.1 with h1 | ⟨b, o, c, h1, h2, h3⟩
 ·exact .inl h1
 ·exact .inr ⟨b, o, c, h1, h2, fun j a hj => DfAt.keep h h2 (h3 j a hj)⟩
theorem DfSl.mono {B C : Nat -> Prop} {w : World} (h : ∀ k, B k -> C k) {v : Value} {l : List Df} (hv : DfSl B w v l) : DfSl C w v l := by
 refine ⟨?_, hv.2⟩
 rcases hv.1 with h1 | ⟨b, o, c, h1, h2, h3⟩
 ·exact .inl h1
 ·exact .inr ⟨b, o, c, h1, h _ h2, fun j a hj => DfAt.mono h (h3 j a hj)⟩
theorem DfSl.open {B : Nat -> Prop} {w : World} {v : Value} {l : List Df} (h : DfSl B w v l) :
 ∃ pa len c, v = .slice pa len c /\ Hid (len = l.length) /\ len <= 9223372036854775807 /\ ∀ i a, l[i]? = some a -> ∃ kb ko, pa = some ⟨kb, ko, none⟩ /\ B kb /\ DfAt B w a kb (ko + i * 14) := by
 obtain ⟨h, hm⟩ := h
 unfold maxLen at hm
 rcases h with ⟨⟨a, c, rfl⟩, rfl⟩ | ⟨kb, ko, c, rfl, hkb, hrow⟩
 ·exact ⟨a, 0, c, rfl, hid rfl, by omega, fun i t hi => by simp at hi⟩
 ·exact ⟨_, _, _, rfl, hid rfl, by omega, fun i t hi => ⟨kb, ko, rfl, hkb, hrow i t hi⟩⟩
def PgAt (B : Nat -> Prop) (w : World) (g : Pg) (b o : Nat) : Prop := B b /\ (∃ dv, w.cell? ⟨b, o, none⟩ = some dv /\ DfSl B w dv g.ds) /\ PrAt B w g.m b (o + 1)
theorem PgAt.keep {B : Nat -> Prop} {w w' : World} (h : Keeps B w w') {g : Pg} {b o : Nat} (hg : PgAt B w g b o) : PgAt B w' g b o := by
 obtain ⟨hb, ⟨dv, h1, h2⟩, h3⟩ := hg
 exact ⟨hb, ⟨dv, h.cell hb h1, h2.keep h⟩, PrAt.keep h _ _ _ h3⟩
def PgVal (B : Nat -> Prop) (w : World) (v : Value) (g : Pg) : Prop :=
 ∃ dv lv av tl tk kv, v = .agg #[dv, .int .i64 g.m.k, .string g.m.c, .string g.m.x, lv, av, .int .i64 g.m.t.k, .int .i64 g.m.t.p, .string g.m.t.n, .int .i64 g.m.t.s, tl, tk, kv] /\ DfSl B w dv g.ds /\ PrVal B w (prAgg g.m lv av tl tk kv) g.m
theorem PgVal.keep {B : Nat -> Prop} {w w' : World} (h : Keeps B w w') {v : Value} {g : Pg} (hv : PgVal B w v g) : PgVal B w' v g := by
 obtain ⟨dv, lv, av, tl, tk, kv, e, hd, hp⟩ := hv
 exact ⟨dv, lv, av, tl, tk, kv, e, hd.keep h, hp.keep h⟩
theorem PgVal.mono {B C : Nat -> Prop} {w : World} (h : ∀ k, B k -> C k) {v : Value} {g : Pg} (hv : PgVal B w v g) : PgVal C w v g := by
 obtain ⟨dv, lv, av, tl, tk, kv, e, hd, hp⟩ := hv
 exact ⟨dv, lv, av, tl, tk, kv, e, hd.mono h, hp.mono h⟩
end Go.Proofs.YtejaboajgecpaaaGreatDoor
