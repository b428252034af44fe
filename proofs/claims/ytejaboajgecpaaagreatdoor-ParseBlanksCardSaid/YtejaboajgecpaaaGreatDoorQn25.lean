/- Programs: lemmas. -/
import Derived.Test.YtejaboajgecpaaaGreatDoorQn24
set_option maxHeartbeats 16000000
set_option maxRecDepth 100000
namespace Go.Proofs.YtejaboajgecpaaaGreatDoor
open Go.RowKit Go.Deep Go.Shelf
def sumN : List Nat -> Nat
 | [] => 0
 | x :: r => x + sumN r
theorem sumN_append (l r : List Nat) : sumN (l ++ r) = sumN l + sumN r := by
 induction l with
 | nil => simp [sumN]
 | cons x l ih => simp only [List.cons_append, sumN, ih]; omega
def addsL (l : List (Nat × Pr)) : List Nat := l.map fun x => x.2.adds
theorem Pr.adds_eq (p : Pr) : p.adds = 1 + p.typ0 := by
 unfold Pr.adds Pr.typ0
 by_cases h : p.k = 6
 ·rw [if_pos h, if_pos h]
 ·rw [if_neg h, if_neg h]
theorem sum_adds : ∀ (p : Pr) (d : Nat), sumN (addsL (preP d p)) = p.size + p.typ := by
 refine Pr.ind ?_
 intro k c x ls vs t ps ih d
 have h : ∀ (l : List Pr) (d : Nat), (∀ p ∈ l, ∀ d, sumN (addsL (preP d p)) = p.size + p.typ) -> sumN (addsL (prePs d l)) = Pr.sizes l + Pr.typs l := by
  intro l
  induction l with
  | nil => intro _ _; simp [prePs, addsL, sumN, Pr.sizes, Pr.typs]
  | cons u r ihl =>
   intro d hh
   have h1 := hh u (by simp) d
   have h2 := ihl d (fun t ht => hh t (by simp [ht]))
   unfold addsL at h1 h2 |-
   rw [prePs, List.map_append, sumN_append, h1, h2, Pr.sizes, Pr.typs]; omega
 have h1 := h ps (d + 1) ih
 rw [preP_eq, Pr.size_eq, Pr.typ_eq]
 unfold addsL at h1 |-
 rw [List.map_cons, sumN]
 show (Pr.mk k c x ls vs t ps).adds + sumN (List.map (fun x => x.2.adds) (prePs (d + 1) ps)) = _
 rw [h1, Pr.adds_eq]
 simp only [Pr.ps]
 omega
def Df.pms (d : Df) : List Nat := d.ms.map fun a => a.t.size
def Pg.bodies (g : Pg) : List Pr := g.ds.map (fun d => d.b) ++ [g.m]
def bodyCnts (l : List Pr) : List Nat := l.flatMap fun p => addsL (preP 1 p)
def paramCnts (l : List Df) : List Nat := l.flatMap Df.pms
def Pg.cnts (g : Pg) : List Nat := paramCnts g.ds ++ bodyCnts g.bodies
def Pg.total (g : Pg) : Nat := sumN g.cnts
def Df.all (d : Df) : Nat := d.b.size + d.b.typ + sumN d.pms
theorem Pg.total_eq (g : Pg) : g.total = g.m.size + g.m.typ + sumN (g.ds.map Df.all) := by
 have h1 : ∀ l : List Pr, sumN (bodyCnts l) = sumN (l.map fun p => p.size + p.typ) := by
  intro l
  induction l with
  | nil => rfl
  | cons p r ih =>
   unfold bodyCnts at ih |-
   rw [List.flatMap_cons, sumN_append, sum_adds, ih, List.map_cons, sumN]
 have h2 : ∀ l : List Df, sumN (paramCnts l) + sumN ((l.map (fun d => d.b)).map fun p => p.size + p.typ) = sumN (l.map Df.all) := by
  intro l
  induction l with
  | nil => rfl
  | cons d r ih =>
   unfold paramCnts at ih |-
   rw [List.flatMap_cons, sumN_append, List.map_cons, List.map_cons, sumN, List.map_cons, sumN, <- ih]
   unfold Df.all
   omega
 unfold Pg.total Pg.cnts Pg.bodies
 have := h2 g.ds
 rw [sumN_append, h1, List.map_append, sumN_append]
 simp only [List.map_cons, List.map_nil, sumN]
 omega
theorem flatMap_take {α β : Type} {l : List α} {j : Nat} {x : α} (f : α -> List β) (h : l[j]? = some x) : (l.take (j + 1)).flatMap f = (l.take j).flatMap f ++ f x := by
 rw [take_snoc_get h, List.flatMap_append]; simp
theorem flatMap_prefix {α β : Type} (l : List α) (j : Nat) (f : α -> List β) : (l.take j).flatMap f <+: l.flatMap f := by
 conv => rhs; rw [<- List.take_append_drop j l, List.flatMap_append]
 exact List.prefix_append _ _
theorem PmAt.load' {B : Nat -> Prop} {w : World} {a : Pm} {b o : Nat} (h : PmAt B w a b o) :
 ∃ (la : Option Addr) (ln lc : Nat) (ka : Option Addr) (kn kc : Nat),
  (w.cell? ⟨b, o, none⟩ = some (.string a.n) /\ w.cell? ⟨b, o + 1, none⟩ = some (.int .i64 a.t.k) /\ w.cell? ⟨b, o + 2, none⟩ = some (.int .i64 a.t.p) /\ w.cell? ⟨b, o + 3, none⟩ = some (.string a.t.n) /\ w.cell? ⟨b, o + 4, none⟩ = some (.int .i64 a.t.s) /\ w.cell? ⟨b, o + 5, none⟩ = some (.slice la ln lc) /\ w.cell? ⟨b, o + 6, none⟩ = some (.slice ka kn kc)) /\
  TyVal B w (.agg #[.int .i64 a.t.k, .int .i64 a.t.p, .string a.t.n, .int .i64 a.t.s, .slice la ln lc, .slice ka kn kc]) a.t := by
 obtain ⟨_, c0, hty⟩ := h
 obtain ⟨la, ln, lc, ka, kn, kc, ⟨d0, d1, d2, d3, d4, d5⟩, hv⟩ := hty.load'
 exact ⟨la, ln, lc, ka, kn, kc, ⟨c0, d0, d1, d2, d3, d4, d5⟩, hv⟩
theorem DfAt.load' {B : Nat -> Prop} {w : World} {d : Df} {b o : Nat} (h : DfAt B w d b o) :
 ∃ (ma : Option Addr) (mn mc : Nat) (la : Option Addr) (ln lc : Nat) (aa : Option Addr) (an ac : Nat) (ta : Option Addr) (tn tc : Nat) (ua : Option Addr) (un uc : Nat) (ka : Option Addr) (kn kc : Nat),
  (w.cell? ⟨b, o, none⟩ = some (.string d.n) /\ w.cell? ⟨b, o + 1, none⟩ = some (.slice ma mn mc) /\ w.cell? ⟨b, o + 2, none⟩ = some (.int .i64 d.b.k) /\ w.cell? ⟨b, o + 3, none⟩ = some (.string d.b.c) /\ w.cell? ⟨b, o + 4, none⟩ = some (.string d.b.x) /\
   w.cell? ⟨b, o + 5, none⟩ = some (.slice la ln lc) /\ w.cell? ⟨b, o + 6, none⟩ = some (.slice aa an ac) /\
   w.cell? ⟨b, o + 7, none⟩ = some (.int .i64 d.b.t.k) /\ w.cell? ⟨b, o + 8, none⟩ = some (.int .i64 d.b.t.p) /\ w.cell? ⟨b, o + 9, none⟩ = some (.string d.b.t.n) /\ w.cell? ⟨b, o + 10, none⟩ = some (.int .i64 d.b.t.s) /\
   w.cell? ⟨b, o + 11, none⟩ = some (.slice ta tn tc) /\ w.cell? ⟨b, o + 12, none⟩ = some (.slice ua un uc) /\ w.cell? ⟨b, o + 13, none⟩ = some (.slice ka kn kc)) /\
  PmSl B w (.slice ma mn mc) d.ms /\ PrVal B w (prAgg d.b (.slice la ln lc) (.slice aa an ac) (.slice ta tn tc) (.slice ua un uc) (.slice ka kn kc)) d.b := by
 obtain ⟨_, c0, ⟨mv, c1, hm⟩, hp⟩ := h
 obtain ⟨ma, mn, mc, rfl, _⟩ := hm.open
 obtain ⟨la, ln, lc, aa, an, ac, ta, tn, tc, ua, un, uc, ka, kn, kc, ⟨d0, d1, d2, d3, d4, d5, d6, d7, d8, d9, d10, d11⟩, hv⟩ := hp.load'
 exact ⟨ma, mn, mc, la, ln, lc, aa, an, ac, ta, tn, tc, ua, un, uc, ka, kn, kc, ⟨c0, c1, d0, d1, d2, d3, d4, d5, d6, d7, d8, d9, d10, d11⟩, hm, hv⟩
def PGood (p : Pr) : Prop := p.fine /\ p.tf
theorem PGood.ps {p : Pr} (h : PGood p) : ∀ u ∈ p.ps, PGood u := fun u hu => ⟨Pr.fine_ps h.1 u hu, Pr.tf_ps h.2 u hu⟩
def GGood (g : Pg) : Prop := g.ds.length <= 100000 /\ (∀ d ∈ g.ds, ∀ a ∈ d.ms, a.t.fine /\ (a.t.size <= 100000 /\ a.t.depth <= 1000)) /\ ∀ p ∈ g.bodies, PGood p /\ p.depth <= 1000 /\ p.size <= 1000000
theorem GGood.pm {g : Pg} (h : GGood g) {d : Df} (hd : d ∈ g.ds) {a : Pm} (ha : a ∈ d.ms) : a.t.size <= 100000 /\ a.t.depth <= 1000 := (h.2.1 d hd a ha).2
end Go.Proofs.YtejaboajgecpaaaGreatDoor
namespace Go.Proofs.YtejaboajgecpaaaGreatDoor
open Go.Lib (hid)
open Go.RowKit Go.Deep Go.Shelf
def TellsType (f : Nat) (caps : Array Value) (B : Nat -> Prop) (w : World) (ts : List Ty) (pf : Ty -> Bool) : Prop := ∀ t ∈ ts, ∀ (v : Value) (W : World), Below w.heap.size w W -> TyVal B W v t -> Calls Tryz.prog f (#[v] ++ caps) W fun e w' => e = .returned (.bool (pf t)) /\ Below W.heap.size W w'
theorem indexType_any (B : Nat -> Prop) (ts : List Ty) (pf : Ty -> Bool) (f : Nat) (caps : Array Value) (eg : ∀ args w, (callFunc f args).run Tryz.prog w = .ok (.enter f args) w) (kv : Value) (w : World) (hB : Low B w) (hk : TySl B w kv ts) (hf : TellsType f caps B w ts pf) :
 Calls Tryz.prog 124 #[kv, .func (.func f) #[] caps] w fun e w' => ∃ r : Int, e = .returned (.int .i64 r) /\ ((0 <= r /\ ts.any pf = true) \/ (r = -1 /\ ts.any pf = false)) /\ Below w.heap.size w w' := by
 obtain ⟨pa, len, c, rfl, hlen, hmx, hget⟩ := hk.open
 have HG : Hid (∀ j t, ts[j]? = some t -> ∃ kb ko, pa = some ⟨kb, ko, none⟩ /\ ∃ v : Value, ∃ cs : List Value, v = .agg cs.toArray /\ cs.length = 6 /\ (∀ W, Below w.heap.size w W -> (∀ i (z : Value), cs[i]? = some z -> W.cell? ⟨kb, ko + j * 6 + i, none⟩ = some z) /\ TyVal B W v t)) := hid (fun j t hj => by
  obtain ⟨kb, ko, e, hkb, hty⟩ := hget j t hj
  have hkl := hB kb hkb
  obtain ⟨la, ln, lc, ka, kn, kc, ⟨d0, d1, d2, d3, d4, d5⟩, hval⟩ := hty.load'
  have hvv := hval
  refine ⟨kb, ko, e, .agg #[.int .i64 t.k, .int .i64 t.p, .string t.n, .int .i64 t.s, .slice la ln lc, .slice ka kn kc], [.int .i64 t.k, .int .i64 t.p, .string t.n, .int .i64 t.s, .slice la ln lc, .slice ka kn kc], rfl, rfl, fun W hW => ⟨fun i z hz => ?_, lyTy.keep (hW.keeps'.mono hB) hvv⟩⟩
  match i, hz with
  | 0, hz => obtain rfl := Option.some.inj hz; exact (hW.cell (p := ⟨kb, _, none⟩) hkl).trans d0
  | 1, hz => obtain rfl := Option.some.inj hz; exact (hW.cell (p := ⟨kb, _, none⟩) hkl).trans d1
  | 2, hz => obtain rfl := Option.some.inj hz; exact (hW.cell (p := ⟨kb, _, none⟩) hkl).trans d2
  | 3, hz => obtain rfl := Option.some.inj hz; exact (hW.cell (p := ⟨kb, _, none⟩) hkl).trans d3
  | 4, hz => obtain rfl := Option.some.inj hz; exact (hW.cell (p := ⟨kb, _, none⟩) hkl).trans d4
  | 5, hz => obtain rfl := Option.some.inj hz; exact (hW.cell (p := ⟨kb, _, none⟩) hkl).trans d5
  | i + 6, hz => simp at hz)
 have HF := hid hf
 have HL : Hid (len = ts.length) := hid hlen.out
 clear hget hf hk hlen
 go_enter Tryz.func124, Tryz.ntmps124
 go_wp2_with fail
 go_loopw [8] (fun i wr => ∃ j : Nat, i = .int .i64 j /\ j <= len /\ Hid ((ts.take j).any pf = false) /\ Hid (Below w.heap.size w wr)) (fun i _ => len - (intOf i).toNat)
 case atStart => exact ⟨0, rfl, Nat.zero_le _, hid (by simp), hid (Below.refl _ _)⟩
 case round =>
  obtain ⟨j, rfl, hj, HA, HBW⟩ := hrel
  by_cases hlt : j < len
  ·obtain ⟨t, ht⟩ : ∃ t, ts[j]? = some t := ⟨_, List.getElem?_eq_getElem (by rw [<- HL.out]; exact hlt)⟩
   obtain ⟨kb, ko, rfl, v, cs, rfl, hcs, hW⟩ := HG.out j t ht
   obtain ⟨hc, hv⟩ := hW wr HBW.out
   obtain ⟨x0, x1, x2, x3, x4, x5, rfl⟩ : ∃ x0 x1 x2 x3 x4 x5, cs = [x0, x1, x2, x3, x4, x5] := by
    match cs, hcs with
    | [x0, x1, x2, x3, x4, x5], _ => exact ⟨_, _, _, _, _, _, rfl⟩
   have d0 := hc 0 _ rfl
   have d1 := hc 1 _ rfl
   have d2 := hc 2 _ rfl
   have d3 := hc 3 _ rfl
   have d4 := hc 4 _ rfl
   have d5 := hc 5 _ rfl
   rw [Nat.add_zero] at d0
   have HC := hid (HF.out t (List.mem_of_getElem? ht) _ wr HBW.out hv)
   have HT := hid ht
   clear hW hc hv hcs ht
   cases hp : pf t with
   | true =>
    rw [hp] at HC
    go_wp2_with fail
    refine HC.out.mono ?_
    rintro e w2 ⟨rfl, hb2⟩
    go_wp2_with fail
    go_ret
    refine ⟨_, rfl, .inl ⟨by omega, List.any_eq_true.2 ⟨t, List.mem_of_getElem? HT.out, hp⟩⟩, below_seq HBW.out hb2⟩
   | false =>
    rw [hp] at HC
    have HPF := hid hp
    clear hp
    go_wp2_with fail
    refine HC.out.mono ?_
    rintro e w2 ⟨rfl, hb2⟩
    have HB2 := hid hb2
    clear hb2
    go_wp2_with fail
    go_roundw
    case rel => exact ⟨j + 1, by go_num, by omega, hid (by rw [take_snoc_get HT.out, List.any_append, HA.out]; simp [HPF.out]), hid (below_seq HBW.out HB2.out)⟩
    case measure => simp [intOf]; omega
  ·obtain rfl : j = len := by omega
   go_wp2_with fail
   go_ret
   have h := HA.out
   rw [List.take_of_length_le (by rw [HL.out]; exact Nat.le_refl _)] at h
   exact ⟨_, rfl, .inr ⟨rfl, h⟩, HBW.out⟩
theorem containsType_any (B : Nat -> Prop) (ts : List Ty) (pf : Ty -> Bool) (f : Nat) (caps : Array Value) (eg : ∀ args w, (callFunc f args).run Tryz.prog w = .ok (.enter f args) w) (kv : Value) (w : World) (hB : Low B w) (hk : TySl B w kv ts) (hf : TellsType f caps B w ts pf) :
 Calls Tryz.prog 97 #[kv, .func (.func f) #[] caps] w fun e w' => e = .returned (.bool (ts.any pf)) /\ Below w.heap.size w w' := by
 have HI := hid (indexType_any B ts pf f caps eg kv w hB hk hf)
 clear hf hk hB
 cases hany : ts.any pf with
 | true =>
  go_enter Tryz.func97, Tryz.ntmps97
  go_wp2_with (go_at_call 124; refine HI.out.mono ?_; rw [hany]; rintro e w1 ⟨r, rfl, h, hb⟩; have HB := hid hb; have hr : 0 <= r := (h.elim (fun h => h.1) (fun h => absurd h.2 (by decide))); have hd : decide (0 <= r) = true := decide_eq_true hr; clear hb h)
  go_ret
  exact ⟨rfl, HB.out⟩
 | false =>
  go_enter Tryz.func97, Tryz.ntmps97
  go_wp2_with (go_at_call 124; refine HI.out.mono ?_; rw [hany]; rintro e w1 ⟨r, rfl, h, hb⟩; have HB := hid hb; obtain rfl : r = -1 := (h.elim (fun h => absurd h.2 (by decide)) (fun h => h.1)); clear hb h)
  go_ret
  exact ⟨rfl, HB.out⟩
def TellsProc (f : Nat) (caps : Array Value) (B : Nat -> Prop) (w : World) (ts : List Pr) (pf : Pr -> Bool) : Prop := ∀ t ∈ ts, ∀ (v : Value) (W : World), Below w.heap.size w W -> PrVal B W v t -> Calls Tryz.prog f (#[v] ++ caps) W fun e w' => e = .returned (.bool (pf t)) /\ Below W.heap.size W w'
theorem indexProc_any (B : Nat -> Prop) (ts : List Pr) (pf : Pr -> Bool) (f : Nat) (caps : Array Value) (eg : ∀ args w, (callFunc f args).run Tryz.prog w = .ok (.enter f args) w) (kv : Value) (w : World) (hB : Low B w) (hk : PrSl B w kv ts) (hf : TellsProc f caps B w ts pf) :
 Calls Tryz.prog 111 #[kv, .func (.func f) #[] caps] w fun e w' => ∃ r : Int, e = .returned (.int .i64 r) /\ ((0 <= r /\ ts.any pf = true) \/ (r = -1 /\ ts.any pf = false)) /\ Below w.heap.size w w' := by
 obtain ⟨pa, len, c, rfl, hlen, hmx, hget⟩ := hk.open
 have HG : Hid (∀ j t, ts[j]? = some t -> ∃ kb ko, pa = some ⟨kb, ko, none⟩ /\ ∃ v : Value, ∃ cs : List Value, v = .agg cs.toArray /\ cs.length = 12 /\ (∀ W, Below w.heap.size w W -> (∀ i (z : Value), cs[i]? = some z -> W.cell? ⟨kb, ko + j * 12 + i, none⟩ = some z) /\ PrVal B W v t)) := hid (fun j t hj => by
  obtain ⟨kb, ko, e, hkb, hty⟩ := hget j t hj
  have hkl := hB kb hkb
  obtain ⟨la, ln, lc, aa, an, ac, ta, tn, tc, ua, un, uc, ka, kn, kc, ⟨d0, d1, d2, d3, d4, d5, d6, d7, d8, d9, d10, d11⟩, hval⟩ := hty.load'
  have hvv := hval
  refine ⟨kb, ko, e, .agg #[.int .i64 t.k, .string t.c, .string t.x, .slice la ln lc, .slice aa an ac, .int .i64 t.t.k, .int .i64 t.t.p, .string t.t.n, .int .i64 t.t.s, .slice ta tn tc, .slice ua un uc, .slice ka kn kc], [.int .i64 t.k, .string t.c, .string t.x, .slice la ln lc, .slice aa an ac, .int .i64 t.t.k, .int .i64 t.t.p, .string t.t.n, .int .i64 t.t.s, .slice ta tn tc, .slice ua un uc, .slice ka kn kc], rfl, rfl, fun W hW => ⟨fun i z hz => ?_, lyPr.keep (hW.keeps'.mono hB) hvv⟩⟩
  match i, hz with
  | 0, hz => obtain rfl := Option.some.inj hz; exact (hW.cell (p := ⟨kb, _, none⟩) hkl).trans d0
  | 1, hz => obtain rfl := Option.some.inj hz; exact (hW.cell (p := ⟨kb, _, none⟩) hkl).trans d1
  | 2, hz => obtain rfl := Option.some.inj hz; exact (hW.cell (p := ⟨kb, _, none⟩) hkl).trans d2
  | 3, hz => obtain rfl := Option.some.inj hz; exact (hW.cell (p := ⟨kb, _, none⟩) hkl).trans d3
  | 4, hz => obtain rfl := Option.some.inj hz; exact (hW.cell (p := ⟨kb, _, none⟩) hkl).trans d4
  | 5, hz => obtain rfl := Option.some.inj hz; exact (hW.cell (p := ⟨kb, _, none⟩) hkl).trans d5
  | 6, hz => obtain rfl := Option.some.inj hz; exact (hW.cell (p := ⟨kb, _, none⟩) hkl).trans d6
  | 7, hz => obtain rfl := Option.some.inj hz; exact (hW.cell (p := ⟨kb, _, none⟩) hkl).trans d7
  | 8, hz => obtain rfl := Option.some.inj hz; exact (hW.cell (p := ⟨kb, _, none⟩) hkl).trans d8
  | 9, hz => obtain rfl := Option.some.inj hz; exact (hW.cell (p := ⟨kb, _, none⟩) hkl).trans d9
  | 10, hz => obtain rfl := Option.some.inj hz; exact (hW.cell (p := ⟨kb, _, none⟩) hkl).trans d10
  | 11, hz => obtain rfl := Option.some.inj hz; exact (hW.cell (p := ⟨kb, _, none⟩) hkl).trans d11
  | i + 12, hz => simp at hz)
 have HF := hid hf
 have HL : Hid (len = ts.length) := hid hlen.out
 clear hget hf hk hlen
 go_enter Tryz.func111, Tryz.ntmps111
 go_wp2_with fail
 go_loopw [8] (fun i wr => ∃ j : Nat, i = .int .i64 j /\ j <= len /\ Hid ((ts.take j).any pf = false) /\ Hid (Below w.heap.size w wr)) (fun i _ => len - (intOf i).toNat)
 case atStart => exact ⟨0, rfl, Nat.zero_le _, hid (by simp), hid (Below.refl _ _)⟩
 case round =>
  obtain ⟨j, rfl, hj, HA, HBW⟩ := hrel
  by_cases hlt : j < len
  ·obtain ⟨t, ht⟩ : ∃ t, ts[j]? = some t := ⟨_, List.getElem?_eq_getElem (by rw [<- HL.out]; exact hlt)⟩
   obtain ⟨kb, ko, rfl, v, cs, rfl, hcs, hW⟩ := HG.out j t ht
   obtain ⟨hc, hv⟩ := hW wr HBW.out
   obtain ⟨x0, x1, x2, x3, x4, x5, x6, x7, x8, x9, x10, x11, rfl⟩ : ∃ x0 x1 x2 x3 x4 x5 x6 x7 x8 x9 x10 x11, cs = [x0, x1, x2, x3, x4, x5, x6, x7, x8, x9, x10, x11] := by
    match cs, hcs with
    | [x0, x1, x2, x3, x4, x5, x6, x7, x8, x9, x10, x11], _ => exact ⟨_, _, _, _, _, _, _, _, _, _, _, _, rfl⟩
   have d0 := hc 0 _ rfl
   have d1 := hc 1 _ rfl
   have d2 := hc 2 _ rfl
   have d3 := hc 3 _ rfl
   have d4 := hc 4 _ rfl
   have d5 := hc 5 _ rfl
   have d6 := hc 6 _ rfl
   have d7 := hc 7 _ rfl
   have d8 := hc 8 _ rfl
   have d9 := hc 9 _ rfl
   have d10 := hc 10 _ rfl
   have d11 := hc 11 _ rfl
   rw [Nat.add_zero] at d0
   have HC := hid (HF.out t (List.mem_of_getElem? ht) _ wr HBW.out hv)
   have HT := hid ht
   clear hW hc hv hcs ht
   cases hp : pf t with
   | true =>
    rw [hp] at HC
    go_wp2_with fail
    refine HC.out.mono ?_
    rintro e w2 ⟨rfl, hb2⟩
    go_wp2_with fail
    go_ret
    refine ⟨_, rfl, .inl ⟨by omega, List.any_eq_true.2 ⟨t, List.mem_of_getElem? HT.out, hp⟩⟩, below_seq HBW.out hb2⟩
   | false =>
    rw [hp] at HC
    have HPF := hid hp
    clear hp
    go_wp2_with fail
    refine HC.out.mono ?_
    rintro e w2 ⟨rfl, hb2⟩
    have HB2 := hid hb2
    clear hb2
    go_wp2_with fail
    go_roundw
    case rel => exact ⟨j + 1, by go_num, by omega, hid (by rw [take_snoc_get HT.out, List.any_append, HA.out]; simp [HPF.out]), hid (below_seq HBW.out HB2.out)⟩
    case measure => simp [intOf]; omega
  ·obtain rfl : j = len := by omega
   go_wp2_with fail
   go_ret
   have h := HA.out
   rw [List.take_of_length_le (by rw [HL.out]; exact Nat.le_refl _)] at h
   exact ⟨_, rfl, .inr ⟨rfl, h⟩, HBW.out⟩
theorem containsProc_any (B : Nat -> Prop) (ts : List Pr) (pf : Pr -> Bool) (f : Nat) (caps : Array Value) (eg : ∀ args w, (callFunc f args).run Tryz.prog w = .ok (.enter f args) w) (kv : Value) (w : World) (hB : Low B w) (hk : PrSl B w kv ts) (hf : TellsProc f caps B w ts pf) :
 Calls Tryz.prog 84 #[kv, .func (.func f) #[] caps] w fun e w' => e = .returned (.bool (ts.any pf)) /\ Below w.heap.size w w' := by
 have HI := hid (indexProc_any B ts pf f caps eg kv w hB hk hf)
 clear hf hk hB
 cases hany : ts.any pf with
 | true =>
  go_enter Tryz.func84, Tryz.ntmps84
  go_wp2_with (go_at_call 111; refine HI.out.mono ?_; rw [hany]; rintro e w1 ⟨r, rfl, h, hb⟩; have HB := hid hb; have hr : 0 <= r := (h.elim (fun h => h.1) (fun h => absurd h.2 (by decide))); have hd : decide (0 <= r) = true := decide_eq_true hr; clear hb h)
  go_ret
  exact ⟨rfl, HB.out⟩
 | false =>
  go_enter Tryz.func84, Tryz.ntmps84
  go_wp2_with (go_at_call 111; refine HI.out.mono ?_; rw [hany]; rintro e w1 ⟨r, rfl, h, hb⟩; have HB := hid hb; obtain rfl : r = -1 := (h.elim (fun h => absurd h.2 (by decide)) (fun h => h.1)); clear hb h)
  go_ret
  exact ⟨rfl, HB.out⟩
def TellsParam (f : Nat) (caps : Array Value) (B : Nat -> Prop) (w : World) (ts : List Pm) (pf : Pm -> Bool) : Prop := ∀ t ∈ ts, ∀ (v : Value) (W : World), Below w.heap.size w W -> PmVal B W v t -> Calls Tryz.prog f (#[v] ++ caps) W fun e w' => e = .returned (.bool (pf t)) /\ Below W.heap.size W w'
theorem indexParam_any (B : Nat -> Prop) (ts : List Pm) (pf : Pm -> Bool) (f : Nat) (caps : Array Value) (eg : ∀ args w, (callFunc f args).run Tryz.prog w = .ok (.enter f args) w) (kv : Value) (w : World) (hB : Low B w) (hk : PmSl B w kv ts) (hf : TellsParam f caps B w ts pf) :
 Calls Tryz.prog 110 #[kv, .func (.func f) #[] caps] w fun e w' => ∃ r : Int, e = .returned (.int .i64 r) /\ ((0 <= r /\ ts.any pf = true) \/ (r = -1 /\ ts.any pf = false)) /\ Below w.heap.size w w' := by
 obtain ⟨pa, len, c, rfl, hlen, hmx, hget⟩ := hk.open
 have HG : Hid (∀ j t, ts[j]? = some t -> ∃ kb ko, pa = some ⟨kb, ko, none⟩ /\ ∃ v : Value, ∃ cs : List Value, v = .agg cs.toArray /\ cs.length = 7 /\ (∀ W, Below w.heap.size w W -> (∀ i (z : Value), cs[i]? = some z -> W.cell? ⟨kb, ko + j * 7 + i, none⟩ = some z) /\ PmVal B W v t)) := hid (fun j t hj => by
  obtain ⟨kb, ko, e, hkb, hty⟩ := hget j t hj
  have hkl := hB kb hkb
  obtain ⟨la, ln, lc, ka, kn, kc, ⟨d0, d1, d2, d3, d4, d5, d6⟩, hvt⟩ := hty.load'
  have hvv := (show PmVal B w _ t from ⟨_, _, rfl, hty.1, hvt⟩)
  refine ⟨kb, ko, e, .agg #[.string t.n, .int .i64 t.t.k, .int .i64 t.t.p, .string t.t.n, .int .i64 t.t.s, .slice la ln lc, .slice ka kn kc], [.string t.n, .int .i64 t.t.k, .int .i64 t.t.p, .string t.t.n, .int .i64 t.t.s, .slice la ln lc, .slice ka kn kc], rfl, rfl, fun W hW => ⟨fun i z hz => ?_, lyPm.keep (hW.keeps'.mono hB) hvv⟩⟩
  match i, hz with
  | 0, hz => obtain rfl := Option.some.inj hz; exact (hW.cell (p := ⟨kb, _, none⟩) hkl).trans d0
  | 1, hz => obtain rfl := Option.some.inj hz; exact (hW.cell (p := ⟨kb, _, none⟩) hkl).trans d1
  | 2, hz => obtain rfl := Option.some.inj hz; exact (hW.cell (p := ⟨kb, _, none⟩) hkl).trans d2
  | 3, hz => obtain rfl := Option.some.inj hz; exact (hW.cell (p := ⟨kb, _, none⟩) hkl).trans d3
  | 4, hz => obtain rfl := Option.some.inj hz; exact (hW.cell (p := ⟨kb, _, none⟩) hkl).trans d4
  | 5, hz => obtain rfl := Option.some.inj hz; exact (hW.cell (p := ⟨kb, _, none⟩) hkl).trans d5
  | 6, hz => obtain rfl := Option.some.inj hz; exact (hW.cell (p := ⟨kb, _, none⟩) hkl).trans d6
  | i + 7, hz => simp at hz)
 have HF := hid hf
 have HL : Hid (len = ts.length) := hid hlen.out
 clear hget hf hk hlen
 go_enter Tryz.func110, Tryz.ntmps110
 go_wp2_with fail
 go_loopw [8] (fun i wr => ∃ j : Nat, i = .int .i64 j /\ j <= len /\ Hid ((ts.take j).any pf = false) /\ Hid (Below w.heap.size w wr)) (fun i _ => len - (intOf i).toNat)
 case atStart => exact ⟨0, rfl, Nat.zero_le _, hid (by simp), hid (Below.refl _ _)⟩
 case round =>
  obtain ⟨j, rfl, hj, HA, HBW⟩ := hrel
  by_cases hlt : j < len
  ·obtain ⟨t, ht⟩ : ∃ t, ts[j]? = some t := ⟨_, List.getElem?_eq_getElem (by rw [<- HL.out]; exact hlt)⟩
   obtain ⟨kb, ko, rfl, v, cs, rfl, hcs, hW⟩ := HG.out j t ht
   obtain ⟨hc, hv⟩ := hW wr HBW.out
   obtain ⟨x0, x1, x2, x3, x4, x5, x6, rfl⟩ : ∃ x0 x1 x2 x3 x4 x5 x6, cs = [x0, x1, x2, x3, x4, x5, x6] := by
    match cs, hcs with
    | [x0, x1, x2, x3, x4, x5, x6], _ => exact ⟨_, _, _, _, _, _, _, rfl⟩
   have d0 := hc 0 _ rfl
   have d1 := hc 1 _ rfl
   have d2 := hc 2 _ rfl
   have d3 := hc 3 _ rfl
   have d4 := hc 4 _ rfl
   have d5 := hc 5 _ rfl
   have d6 := hc 6 _ rfl
   rw [Nat.add_zero] at d0
   have HC := hid (HF.out t (List.mem_of_getElem? ht) _ wr HBW.out hv)
   have HT := hid ht
   clear hW hc hv hcs ht
   cases hp : pf t with
   | true =>
    rw [hp] at HC
    go_wp2_with fail
    refine HC.out.mono ?_
    rintro e w2 ⟨rfl, hb2⟩
    go_wp2_with fail
    go_ret
    refine ⟨_, rfl, .inl ⟨by omega, List.any_eq_true.2 ⟨t, List.mem_of_getElem? HT.out, hp⟩⟩, below_seq HBW.out hb2⟩
   | false =>
    rw [hp] at HC
    have HPF := hid hp
    clear hp
    go_wp2_with fail
    refine HC.out.mono ?_
    rintro e w2 ⟨rfl, hb2⟩
    have HB2 := hid hb2
    clear hb2
    go_wp2_with fail
    go_roundw
    case rel => exact ⟨j + 1, by go_num, by omega, hid (by rw [take_snoc_get HT.out, List.any_append, HA.out]; simp [HPF.out]), hid (below_seq HBW.out HB2.out)⟩
    case measure => simp [intOf]; omega
  ·obtain rfl : j = len := by omega
   go_wp2_with fail
   go_ret
   have h := HA.out
   rw [List.take_of_length_le (by rw [HL.out]; exact Nat.le_refl _)] at h
   exact ⟨_, rfl, .inr ⟨rfl, h⟩, HBW.out⟩
theorem containsParam_any (B : Nat -> Prop) (ts : List Pm) (pf : Pm -> Bool) (f : Nat) (caps : Array Value) (eg : ∀ args w, (callFunc f args).run Tryz.prog w = .ok (.enter f args) w) (kv : Value) (w : World) (hB : Low B w) (hk : PmSl B w kv ts) (hf : TellsParam f caps B w ts pf) :
 Calls Tryz.prog 82 #[kv, .func (.func f) #[] caps] w fun e w' => e = .returned (.bool (ts.any pf)) /\ Below w.heap.size w w' := by
 have HI := hid (indexParam_any B ts pf f caps eg kv w hB hk hf)
 clear hf hk hB
 cases hany : ts.any pf with
 | true =>
  go_enter Tryz.func82, Tryz.ntmps82
  go_wp2_with (go_at_call 110; refine HI.out.mono ?_; rw [hany]; rintro e w1 ⟨r, rfl, h, hb⟩; have HB := hid hb; have hr : 0 <= r := (h.elim (fun h => h.1) (fun h => absurd h.2 (by decide))); have hd : decide (0 <= r) = true := decide_eq_true hr; clear hb h)
  go_ret
  exact ⟨rfl, HB.out⟩
 | false =>
  go_enter Tryz.func82, Tryz.ntmps82
  go_wp2_with (go_at_call 110; refine HI.out.mono ?_; rw [hany]; rintro e w1 ⟨r, rfl, h, hb⟩; have HB := hid hb; obtain rfl : r = -1 := (h.elim (fun h => absurd h.2 (by decide)) (fun h => h.1)); clear hb h)
  go_ret
  exact ⟨rfl, HB.out⟩
def TellsDef (f : Nat) (caps : Array Value) (B : Nat -> Prop) (w : World) (ts : List Df) (pf : Df -> Bool) : Prop := ∀ t ∈ ts, ∀ (v : Value) (W : World), Below w.heap.size w W -> DfVal B W v t -> Calls Tryz.prog f (#[v] ++ caps) W fun e w' => e = .returned (.bool (pf t)) /\ Below W.heap.size W w'
theorem indexDef_any (B : Nat -> Prop) (ts : List Df) (pf : Df -> Bool) (f : Nat) (caps : Array Value) (eg : ∀ args w, (callFunc f args).run Tryz.prog w = .ok (.enter f args) w) (kv : Value) (w : World) (hB : Low B w) (hk : DfSl B w kv ts) (hf : TellsDef f caps B w ts pf) :
 Calls Tryz.prog 81 #[kv, .func (.func f) #[] caps] w fun e w' => ∃ r : Int, e = .returned (.int .i64 r) /\ ((0 <= r /\ ts.any pf = true) \/ (r = -1 /\ ts.any pf = false)) /\ Below w.heap.size w w' := by
 obtain ⟨pa, len, c, rfl, hlen, hmx, hget⟩ := hk.open
 have HG : Hid (∀ j t, ts[j]? = some t -> ∃ kb ko, pa = some ⟨kb, ko, none⟩ /\ ∃ v : Value, ∃ cs : List Value, v = .agg cs.toArray /\ cs.length = 14 /\ (∀ W, Below w.heap.size w W -> (∀ i (z : Value), cs[i]? = some z -> W.cell? ⟨kb, ko + j * 14 + i, none⟩ = some z) /\ DfVal B W v t)) := hid (fun j t hj => by
  obtain ⟨kb, ko, e, hkb, hty⟩ := hget j t hj
  have hkl := hB kb hkb
  obtain ⟨ma, mn, mc, la, ln, lc, aa, an, ac, ta, tn, tc, ua, un, uc, ka, kn, kc, ⟨d0, d1, d2, d3, d4, d5, d6, d7, d8, d9, d10, d11, d12, d13⟩, hvm, hvt⟩ := hty.load'
  have hvv := (show DfVal B w _ t from ⟨_, _, _, _, _, _, rfl, hty.1, hvm, hvt⟩)
  refine ⟨kb, ko, e, .agg #[.string t.n, .slice ma mn mc, .int .i64 t.b.k, .string t.b.c, .string t.b.x, .slice la ln lc, .slice aa an ac, .int .i64 t.b.t.k, .int .i64 t.b.t.p, .string t.b.t.n, .int .i64 t.b.t.s, .slice ta tn tc, .slice ua un uc, .slice ka kn kc], [.string t.n, .slice ma mn mc, .int .i64 t.b.k, .string t.b.c, .string t.b.x, .slice la ln lc, .slice aa an ac, .int .i64 t.b.t.k, .int .i64 t.b.t.p, .string t.b.t.n, .int .i64 t.b.t.s, .slice ta tn tc, .slice ua un uc, .slice ka kn kc], rfl, rfl, fun W hW => ⟨fun i z hz => ?_, lyDf.keep (hW.keeps'.mono hB) hvv⟩⟩
  match i, hz with
  | 0, hz => obtain rfl := Option.some.inj hz; exact (hW.cell (p := ⟨kb, _, none⟩) hkl).trans d0
  | 1, hz => obtain rfl := Option.some.inj hz; exact (hW.cell (p := ⟨kb, _, none⟩) hkl).trans d1
  | 2, hz => obtain rfl := Option.some.inj hz; exact (hW.cell (p := ⟨kb, _, none⟩) hkl).trans d2
  | 3, hz => obtain rfl := Option.some.inj hz; exact (hW.cell (p := ⟨kb, _, none⟩) hkl).trans d3
  | 4, hz => obtain rfl := Option.some.inj hz; exact (hW.cell (p := ⟨kb, _, none⟩) hkl).trans d4
  | 5, hz => obtain rfl := Option.some.inj hz; exact (hW.cell (p := ⟨kb, _, none⟩) hkl).trans d5
  | 6, hz => obtain rfl := Option.some.inj hz; exact (hW.cell (p := ⟨kb, _, none⟩) hkl).trans d6
  | 7, hz => obtain rfl := Option.some.inj hz; exact (hW.cell (p := ⟨kb, _, none⟩) hkl).trans d7
  | 8, hz => obtain rfl := Option.some.inj hz; exact (hW.cell (p := ⟨kb, _, none⟩) hkl).trans d8
  | 9, hz => obtain rfl := Option.some.inj hz; exact (hW.cell (p := ⟨kb, _, none⟩) hkl).trans d9
  | 10, hz => obtain rfl := Option.some.inj hz; exact (hW.cell (p := ⟨kb, _, none⟩) hkl).trans d10
  | 11, hz => obtain rfl := Option.some.inj hz; exact (hW.cell (p := ⟨kb, _, none⟩) hkl).trans d11
  | 12, hz => obtain rfl := Option.some.inj hz; exact (hW.cell (p := ⟨kb, _, none⟩) hkl).trans d12
  | 13, hz => obtain rfl := Option.some.inj hz; exact (hW.cell (p := ⟨kb, _, none⟩) hkl).trans d13
  | i + 14, hz => simp at hz)
 have HF := hid hf
 have HL : Hid (len = ts.length) := hid hlen.out
 clear hget hf hk hlen
 go_enter Tryz.func81, Tryz.ntmps81
 go_wp2_with fail
 go_loopw [8] (fun i wr => ∃ j : Nat, i = .int .i64 j /\ j <= len /\ Hid ((ts.take j).any pf = false) /\ Hid (Below w.heap.size w wr)) (fun i _ => len - (intOf i).toNat)
 case atStart => exact ⟨0, rfl, Nat.zero_le _, hid (by simp), hid (Below.refl _ _)⟩
 case round =>
  obtain ⟨j, rfl, hj, HA, HBW⟩ := hrel
  by_cases hlt : j < len
  ·obtain ⟨t, ht⟩ : ∃ t, ts[j]? = some t := ⟨_, List.getElem?_eq_getElem (by rw [<- HL.out]; exact hlt)⟩
   obtain ⟨kb, ko, rfl, v, cs, rfl, hcs, hW⟩ := HG.out j t ht
   obtain ⟨hc, hv⟩ := hW wr HBW.out
   obtain ⟨x0, x1, x2, x3, x4, x5, x6, x7, x8, x9, x10, x11, x12, x13, rfl⟩ : ∃ x0 x1 x2 x3 x4 x5 x6 x7 x8 x9 x10 x11 x12 x13, cs = [x0, x1, x2, x3, x4, x5, x6, x7, x8, x9, x10, x11, x12, x13] := by
    match cs, hcs with
    | [x0, x1, x2, x3, x4, x5, x6, x7, x8, x9, x10, x11, x12, x13], _ => exact ⟨_, _, _, _, _, _, _, _, _, _, _, _, _, _, rfl⟩
   have d0 := hc 0 _ rfl
   have d1 := hc 1 _ rfl
   have d2 := hc 2 _ rfl
   have d3 := hc 3 _ rfl
   have d4 := hc 4 _ rfl
   have d5 := hc 5 _ rfl
   have d6 := hc 6 _ rfl
   have d7 := hc 7 _ rfl
   have d8 := hc 8 _ rfl
   have d9 := hc 9 _ rfl
   have d10 := hc 10 _ rfl
   have d11 := hc 11 _ rfl
   have d12 := hc 12 _ rfl
   have d13 := hc 13 _ rfl
   rw [Nat.add_zero] at d0
   have HC := hid (HF.out t (List.mem_of_getElem? ht) _ wr HBW.out hv)
   have HT := hid ht
   clear hW hc hv hcs ht
   cases hp : pf t with
   | true =>
    rw [hp] at HC
    go_wp2_with fail
    refine HC.out.mono ?_
    rintro e w2 ⟨rfl, hb2⟩
    go_wp2_with fail
    go_ret
    refine ⟨_, rfl, .inl ⟨by omega, List.any_eq_true.2 ⟨t, List.mem_of_getElem? HT.out, hp⟩⟩, below_seq HBW.out hb2⟩
   | false =>
    rw [hp] at HC
    have HPF := hid hp
    clear hp
    go_wp2_with fail
    refine HC.out.mono ?_
    rintro e w2 ⟨rfl, hb2⟩
    have HB2 := hid hb2
    clear hb2
    go_wp2_with fail
    go_roundw
    case rel => exact ⟨j + 1, by go_num, by omega, hid (by rw [take_snoc_get HT.out, List.any_append, HA.out]; simp [HPF.out]), hid (below_seq HBW.out HB2.out)⟩
    case measure => simp [intOf]; omega
  ·obtain rfl : j = len := by omega
   go_wp2_with fail
   go_ret
   have h := HA.out
   rw [List.take_of_length_le (by rw [HL.out]; exact Nat.le_refl _)] at h
   exact ⟨_, rfl, .inr ⟨rfl, h⟩, HBW.out⟩
theorem containsDef_any (B : Nat -> Prop) (ts : List Df) (pf : Df -> Bool) (f : Nat) (caps : Array Value) (eg : ∀ args w, (callFunc f args).run Tryz.prog w = .ok (.enter f args) w) (kv : Value) (w : World) (hB : Low B w) (hk : DfSl B w kv ts) (hf : TellsDef f caps B w ts pf) :
 Calls Tryz.prog 54 #[kv, .func (.func f) #[] caps] w fun e w' => e = .returned (.bool (ts.any pf)) /\ Below w.heap.size w w' := by
 have HI := hid (indexDef_any B ts pf f caps eg kv w hB hk hf)
 clear hf hk hB
 cases hany : ts.any pf with
 | true =>
  go_enter Tryz.func54, Tryz.ntmps54
  go_wp2_with (go_at_call 81; refine HI.out.mono ?_; rw [hany]; rintro e w1 ⟨r, rfl, h, hb⟩; have HB := hid hb; have hr : 0 <= r := (h.elim (fun h => h.1) (fun h => absurd h.2 (by decide))); have hd : decide (0 <= r) = true := decide_eq_true hr; clear hb h)
  go_ret
  exact ⟨rfl, HB.out⟩
 | false =>
  go_enter Tryz.func54, Tryz.ntmps54
  go_wp2_with (go_at_call 81; refine HI.out.mono ?_; rw [hany]; rintro e w1 ⟨r, rfl, h, hb⟩; have HB := hid hb; obtain rfl : r = -1 := (h.elim (fun h => absurd h.2 (by decide)) (fun h => h.1)); clear hb h)
  go_ret
  exact ⟨rfl, HB.out⟩
end Go.Proofs.YtejaboajgecpaaaGreatDoor
