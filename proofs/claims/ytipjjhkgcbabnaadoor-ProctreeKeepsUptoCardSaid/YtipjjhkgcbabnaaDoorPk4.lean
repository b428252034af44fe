/- Processes: the reference's left and Few. (and what follows from it) -/
import Derived.Test.YtipjjhkgcbabnaaDoorPk3
import Derived.Test.YtipjjhkgcbabnaaDoorPrA
import Derived.OwnWalk

/- Processes: the reference's left and Few. -/
namespace Go.Proofs.YtipjjhkgcbabnaaDoor
open Go.RowKit

mutual
def Pr.lft : Pr → Int → Int
  | .mk _ _ _ _ _ t ps, m => if t.few 300 then Pr.lfts ps (m - 1) else -1
def Pr.lfts : List Pr → Int → Int
  | [], m => m
  | p :: r, m => if 0 ≤ m then Pr.lfts r (p.lft m) else m
end
theorem Pr.lft_eq (p : Pr) (m : Int) : p.lft m = if p.t.few 300 then Pr.lfts p.ps (m - 1) else -1 := by
  cases p
  rename_i k c x ls vs t ps
  by_cases h : t.few 300 = true <;> simp [Pr.lft, Pr.ps, Pr.t, h]
theorem Pr.lfts_neg (ps : List Pr) (m : Int) (h : ¬ 0 ≤ m) : Pr.lfts ps m = m := by cases ps <;> simp [Pr.lfts, h]
mutual
theorem Pr.lft_range : ∀ (p : Pr) (m : Int), 0 ≤ m → -1 ≤ p.lft m ∧ p.lft m ≤ m ∧ (0 ≤ p.lft m → p.lft m = m - p.size ∧ p.tf)
  | .mk k c x ls vs t ps, m, h => by
    rw [Pr.lft_eq, Pr.size_eq]; simp only [Pr.ps, Pr.t, Pr.tf]
    by_cases hf : t.few 300 = true
    · simp only [hf, if_true, true_and]
      have := Pr.lfts_range ps (m - 1) (by omega)
      exact ⟨this.1, by omega, fun h0 => ⟨by have := (this.2.2 h0).1; omega, (this.2.2 h0).2⟩⟩
    · simp only [hf]
      exact ⟨by simp, by simp; omega, fun h0 => by simp at h0⟩
theorem Pr.lfts_range : ∀ (ps : List Pr) (m : Int), -1 ≤ m → -1 ≤ Pr.lfts ps m ∧ Pr.lfts ps m ≤ m ∧ (0 ≤ Pr.lfts ps m → Pr.lfts ps m = m - Pr.sizes ps ∧ Pr.tfs ps)
  | [], m, hm => by simp only [Pr.lfts, Pr.sizes, Pr.tfs]; exact ⟨hm, by omega, fun _ => ⟨by omega, trivial⟩⟩
  | p :: r, m, hm => by
    simp only [Pr.lfts, Pr.sizes, Pr.tfs]
    by_cases h : 0 ≤ m
    · rw [if_pos h]
      have h1 := Pr.lft_range p m h
      have h2 := Pr.lfts_range r (p.lft m) h1.1
      refine ⟨h2.1, by omega, fun h0 => ?_⟩
      have h3 := h2.2.2 h0
      have h4 := h1.2.2 (by omega)
      exact ⟨by omega, h4.2, h3.2⟩
    · rw [if_neg h]
      exact ⟨hm, by omega, fun h0 => absurd h0 h⟩
end
theorem Pr.lfts_drop {ps : List Pr} {j : Nat} {p : Pr} (h : ps[j]? = some p) (m : Int) (hm : 0 ≤ m) : Pr.lfts (ps.drop j) m = Pr.lfts (ps.drop (j + 1)) (p.lft m) := by
  have hj := (List.getElem?_eq_some_iff.1 h).1
  have e : ps.drop j = p :: ps.drop (j + 1) := by rw [List.drop_eq_getElem_cons hj]; congr 1; exact (List.getElem?_eq_some_iff.1 h).2
  rw [e, Pr.lfts, if_pos hm]

theorem slices_of {B : Nat → Prop} {w : World} {t : Ty} {k p s : Int} {n : ByteArray} {tl tk : Value} (h : TyVal B w (.agg #[.int .i64 k, .int .i64 p, .string n, .int .i64 s, tl, tk]) t) : (∃ (a : Option Addr) (n c : Nat), tl = .slice a n c) ∧ ∃ (a : Option Addr) (n c : Nat), tk = .slice a n c := by
  obtain ⟨lv', kv', e, _, hl, hk2⟩ := h
  simp only [Value.agg.injEq, Array.mk.injEq, List.cons.injEq, and_true] at e
  obtain ⟨_, _, _, _, rfl, rfl⟩ := e
  obtain ⟨a, n, c, e, _⟩ := hl.open
  obtain ⟨a', n', c', e', _⟩ := hk2.open
  exact ⟨⟨a, n, c, e⟩, a', n', c', e'⟩

set_option maxHeartbeats 2000000 in
theorem prleft_step (B : Nat → Prop) (p : Pr) (lv av tl tk kv : Value) (m : Int) (hm0 : 0 ≤ m) (hm1 : m ≤ 1000000)
    (ih : ∀ u ∈ p.ps, ∀ (m : Int), 0 ≤ m → m ≤ 1000000 → ∀ (v : Value) (w : World), Low B w → PrVal B w v u → Calls Tryd.prog 59 #[v, .int .i64 m] w fun e w' => e = .returned (.int .i64 (u.lft m)) ∧ Below w.heap.size w w')
    (w : World) (hB : Low B w) (hty : TyVal B w (.agg #[.int .i64 p.t.k, .int .i64 p.t.p, .string p.t.n, .int .i64 p.t.s, tl, tk]) p.t) (hk : PrSl B w kv p.ps) :
    Calls Tryd.prog 59 #[prAgg p lv av tl tk kv, .int .i64 m] w fun e w' => e = .returned (.int .i64 (p.lft m)) ∧ Below w.heap.size w w' := by
  have hb0 : Below w.heap.size w (w.alloc (cell12 p lv av tl tk kv)) := (Below.refl _ _).alloc (Nat.le_refl _) _
  obtain ⟨f, hf⟩ : ∃ f, p.t.few 300 = f := ⟨_, rfl⟩
  have HF : Hid (Calls Tryd.prog 11 #[.agg #[.int .i64 p.t.k, .int .i64 p.t.p, .string p.t.n, .int .i64 p.t.s, tl, tk], .int .i64 300] (w.alloc (cell12 p lv av tl tk kv)) fun e w' => e = .returned (.bool f) ∧ Below (w.alloc (cell12 p lv av tl tk kv)).heap.size (w.alloc (cell12 p lv av tl tk kv)) w') := Lib.hid (by
    rw [← hf]; exact rfew_any B p.t 300 (by omega) _ _ (hB.le hb0.size) (hty.keep (hb0.keeps'.mono hB)))
  have HL : Hid (p.lft m = if f then Pr.lfts p.ps (m - 1) else -1) := Lib.hid (by rw [Pr.lft_eq, hf])
  rw [HL.out]
  obtain ⟨pa, len, c, rfl, hlen, hm, hget⟩ := hk.open
  obtain ⟨⟨tla, tln, tlc, rfl⟩, tka, tkn, tkc, rfl⟩ := slices_of hty
  have HG := Lib.hid hget
  have HIH := Lib.hid ih
  obtain ⟨ps, hps⟩ : ∃ ps, p.ps = ps := ⟨_, rfl⟩
  rw [hps] at HG hlen HIH ⊢
  clear hget hk ih hps hf HL hty hb0
  unfold prAgg
  cases f
  · rw [if_neg (by decide)]
    go_enter Tryd.func59, Tryd.ntmps59
    go_wp2_with (go_at_call 11; refine HF.out.mono ?_; rintro e w1 ⟨rfl, hb1⟩)
    go_ret
    exact ⟨rfl, below_seq (blkBelow w _ _) hb1⟩
  · rw [if_pos rfl]
    go_enter Tryd.func59, Tryd.ntmps59
    go_wp2_with (go_at_call 11; refine HF.out.mono ?_; rintro e w1 ⟨rfl, hb1⟩)
    have hbx : Below (w.heap.size + 1) (w.alloc (cell12 p lv av (.slice tla tln tlc) (.slice tka tkn tkc) (.slice pa len c))) w1 := by simpa using hb1
    have HBX := Lib.hid hbx
    clear hb1 hbx
    go_loopw [1, 5] (fun a i wr => ∃ (j : Nat) (q : Int), i = .int .i64 j ∧ j ≤ len ∧ a = .int .i64 q ∧ -1 ≤ q ∧ q ≤ 1000000 ∧ Hid (Pr.lfts (ps.drop j) q = Pr.lfts ps (m - 1)) ∧ Below (w.heap.size + 1) (w.alloc (cell12 p lv av (.slice tla tln tlc) (.slice tka tkn tkc) (.slice pa len c))) wr) (fun _ i _ => len - (intOf i).toNat)
    case atStart => exact ⟨0, _, rfl, by omega, rfl, by omega, by omega, Lib.hid rfl, HBX.out⟩
    case round =>
      obtain ⟨j, q, rfl, hj, rfl, hq0, hq1, HQ, hb⟩ := hrel
      have c11 : wr.cell? ⟨w.heap.size, 11, none⟩ = some (.slice pa len c) := blk_cell hb 11 rfl
      have hw := blk_below hb
      by_cases hlt : j < len
      · by_cases hq : 0 ≤ q
        · obtain ⟨t, ht⟩ : ∃ t, ps[j]? = some t := ⟨_, List.getElem?_eq_getElem (by rw [← hlen.out]; exact hlt)⟩
          obtain ⟨kb, ko, rfl, hkb, hty⟩ := HG.out j t ht
          obtain ⟨la', ln', lc', aa', an', ac', ta', tn', tc', ua', un', uc', ka', kn', kc', ⟨d0, d1, d2, d3, d4, d5, d6, d7, d8, d9, d10, d11⟩, hval⟩ := (hty.keep (hw.keeps'.mono hB)).load'
          have IH := Lib.hid (HIH.out t (List.mem_of_getElem? ht) q hq hq1 _ wr (hB.le hw.size) hval)
          have HT := Lib.hid ((Pr.lfts_drop ht q hq).symm.trans HQ.out)
          have hr := t.lft_range q hq
          have hr1 := hr.1
          have hr2 := hr.2.1
          unfold prAgg at IH
          clear ht hr hval hty
          go_wp2_with (go_at_call 59; refine IH.out.mono ?_; rintro e w2 ⟨rfl, hb2⟩)
          go_roundw
          case rel => exact ⟨j + 1, _, by go_num, by omega, rfl, hr1, by omega, HT, hb.trans (hb2.mono (by have := hb.size; simpa using this))⟩
          case measure => simp [intOf]; omega
        · have hq' : decide (0 ≤ q) = false := by simpa using hq
          go_wp2_with fail
          go_ret
          exact ⟨ret_int (by rw [← HQ.out, Pr.lfts_neg _ _ (by omega)]), hw⟩
      · obtain rfl : j = len := by omega
        go_wp2_with fail
        go_ret
        exact ⟨ret_int (by rw [← HQ.out, List.drop_of_length_le (by rw [hlen.out]; exact Nat.le_refl _)]; simp [Pr.lfts]), hw⟩

theorem prleft_any (B : Nat → Prop) : ∀ (p : Pr) (m : Int), 0 ≤ m → m ≤ 1000000 → ∀ (v : Value) (w : World), Low B w → PrVal B w v p → Calls Tryd.prog 59 #[v, .int .i64 m] w fun e w' => e = .returned (.int .i64 (p.lft m)) ∧ Below w.heap.size w w' := by
  refine Pr.ind ?_
  intro k c x ls vs t ps ih m h0 h1 v w hB hv
  obtain ⟨lv, av, tl, tk, kv, rfl, _, _, _, hty, hk⟩ := hv
  exact prleft_step B (.mk k c x ls vs t ps) lv av tl tk kv m h0 h1 ih w hB hty hk

/-- Is a process small? -/
def Pr.few (p : Pr) (m : Nat) : Bool := decide (0 ≤ p.lft m) && decide (p.depth ≤ 150)
theorem Pr.few_facts {p : Pr} {m : Nat} (h : p.few m = true) : p.size ≤ m ∧ p.depth ≤ 150 ∧ p.tf := by
  have h' : 0 ≤ p.lft m ∧ p.depth ≤ 150 := by simpa [Pr.few] using h
  have h1 := p.lft_range m (by omega)
  have h2 := h1.2.2 h'.1
  exact ⟨by omega, h'.2, h2.2⟩

set_option maxHeartbeats 1000000 in
theorem prfew_any (B : Nat → Prop) (p : Pr) (m : Nat) (hm : m ≤ 1000000) (v : Value) (w : World) (hB : Low B w) (hv : PrVal B w v p) :
    Calls Tryd.prog 23 #[v, .int .i64 m] w fun e w' => e = .returned (.bool (p.few m)) ∧ Below w.heap.size w w' := by
  have hv0 := hv
  obtain ⟨lv, av, tl, tk, kv, rfl, _, hl, ha, hty, hk⟩ := hv0
  obtain ⟨pa, len, c, rfl, _⟩ := hk.open
  obtain ⟨⟨tla, tln, tlc, rfl⟩, tka, tkn, tkc, rfl⟩ := slices_of hty
  obtain ⟨la, ln, lc, rfl, _⟩ := hl.open
  obtain ⟨aa, an, ac, rfl, _⟩ := ha.open
  have hb0 : Below w.heap.size w (w.alloc (cell12 p (.slice la ln lc) (.slice aa an ac) (.slice tla tln tlc) (.slice tka tkn tkc) (.slice pa len c))) := (Below.refl _ _).alloc (Nat.le_refl _) _
  have HL := Lib.hid (fun (W : World) (hW : Below w.heap.size w W) => prleft_any B p m (by omega) (by omega) _ W (hB.le hW.size) (hv.to hB hW))
  have HD := Lib.hid (fun (h : p.depth ≤ 1000000) (W : World) (hW : Below w.heap.size w W) => prdepth_any B p h _ W (hB.le hW.size) (hv.to hB hW))
  have hrg := p.lft_range m (by omega)
  have hds := p.depth_le_size
  obtain ⟨q, hq⟩ : ∃ q, p.lft m = q := ⟨_, rfl⟩
  obtain ⟨d, hd⟩ : ∃ d, p.depth = d := ⟨_, rfl⟩
  have HFW : Hid (p.few m = (decide (0 ≤ q) && decide (d ≤ 150))) := Lib.hid (by unfold Pr.few; rw [hq, hd])
  rw [HFW.out]
  rw [hq] at HL hrg
  rw [hd] at HD hds
  have HB0 := Lib.hid hb0
  have hd2 : 0 ≤ q → d ≤ 1000000 := fun h => by have := hrg.2.2 h; omega
  clear hl ha hty hk hv hq hd HFW hrg hb0
  unfold prAgg at HL HD ⊢
  by_cases h0 : 0 ≤ q
  · have h0' : decide (0 ≤ q) = true := by simpa using h0
    have HD2 := Lib.hid (HD.out (hd2 h0))
    rw [h0', Bool.true_and]
    clear HD hd2
    by_cases h1 : d ≤ 150
    · have h1' : decide ((d : Int) ≤ 150) = true := by simp; omega
      have h1'' : (d : Int) ≤ 150 := by omega
      rw [show decide (d ≤ 150) = true by simpa using h1]
      go_enter Tryd.func23, Tryd.ntmps23
      go_wp2_with (first | (go_at_call 59; refine (HL.out _ HB0.out).mono ?_; rintro e w2 ⟨rfl, hb2⟩; obtain ⟨hcl, hfz⟩ := bcell hb2) | (go_at_call 28; refine (HD2.out _ (below_seq HB0.out hb2)).mono ?_; rintro e w3 ⟨rfl, hb3⟩))
      go_ret
      exact ⟨rfl, below_seq HB0.out (below_seq hb2 hb3)⟩
    · have h1' : decide ((d : Int) ≤ 150) = false := by simp; omega
      have h1'' : ¬ (d : Int) ≤ 150 := by omega
      rw [show decide (d ≤ 150) = false by simpa using h1]
      go_enter Tryd.func23, Tryd.ntmps23
      go_wp2_with (first | (go_at_call 59; refine (HL.out _ HB0.out).mono ?_; rintro e w2 ⟨rfl, hb2⟩; obtain ⟨hcl, hfz⟩ := bcell hb2) | (go_at_call 28; refine (HD2.out _ (below_seq HB0.out hb2)).mono ?_; rintro e w3 ⟨rfl, hb3⟩))
      go_ret
      exact ⟨rfl, below_seq HB0.out (below_seq hb2 hb3)⟩
  · have h0' : decide (0 ≤ q) = false := by simpa using h0
    rw [h0', Bool.false_and]
    clear hd2
    go_enter Tryd.func23, Tryd.ntmps23
    go_wp2_with (go_at_call 59; refine (HL.out _ HB0.out).mono ?_; rintro e w2 ⟨rfl, hb2⟩)
    go_ret
    exact ⟨rfl, below_seq HB0.out hb2⟩

end Go.Proofs.YtipjjhkgcbabnaaDoor

/- Programs: their sizes, and the rows of what they hold. -/
namespace Go.Proofs.YtipjjhkgcbabnaaDoor
open Go.RowKit Go.Deep Go.Shelf

def sumN : List Nat → Nat
  | [] => 0
  | x :: r => x + sumN r
theorem sumN_append (l r : List Nat) : sumN (l ++ r) = sumN l + sumN r := by
  induction l with
  | nil => simp [sumN]
  | cons x l ih => simp only [List.cons_append, sumN, ih]; omega
theorem sumN_le_of_prefix {l r : List Nat} (h : l <+: r) : sumN l ≤ sumN r := by
  obtain ⟨s, rfl⟩ := h
  rw [sumN_append]; omega

/-- What the nodes of a process add. -/
def addsL (l : List (Nat × Pr)) : List Nat := l.map fun x => x.2.adds
theorem Pr.adds_eq (p : Pr) : p.adds = 1 + p.typ0 := by
  unfold Pr.adds Pr.typ0
  by_cases h : p.k = 6
  · rw [if_pos h, if_pos h]
  · rw [if_neg h, if_neg h]
theorem sum_adds : ∀ (p : Pr) (d : Nat), sumN (addsL (preP d p)) = p.size + p.typ := by
  refine Pr.ind ?_
  intro k c x ls vs t ps ih d
  have h : ∀ (l : List Pr) (d : Nat), (∀ p ∈ l, ∀ d, sumN (addsL (preP d p)) = p.size + p.typ) → sumN (addsL (prePs d l)) = Pr.sizes l + Pr.typs l := by
    intro l
    induction l with
    | nil => intro _ _; simp [prePs, addsL, sumN, Pr.sizes, Pr.typs]
    | cons u r ihl =>
      intro d hh
      have h1 := hh u (by simp) d
      have h2 := ihl d (fun t ht => hh t (by simp [ht]))
      unfold addsL at h1 h2 ⊢
      rw [prePs, List.map_append, sumN_append, h1, h2, Pr.sizes, Pr.typs]; omega
  have h1 := h ps (d + 1) ih
  rw [preP_eq, Pr.size_eq, Pr.typ_eq]
  unfold addsL at h1 ⊢
  rw [List.map_cons, sumN]
  show (Pr.mk k c x ls vs t ps).adds + sumN (List.map (fun x => x.2.adds) (prePs (d + 1) ps)) = _
  rw [h1, Pr.adds_eq]
  simp only [Pr.ps]
  omega

def Df.pms (d : Df) : List Nat := d.ms.map fun a => a.t.size
def Pg.bodies (g : Pg) : List Pr := g.ds.map (fun d => d.b) ++ [g.m]
def bodyCnts (l : List Pr) : List Nat := l.flatMap fun p => addsL (preP 1 p)
def paramCnts (l : List Df) : List Nat := l.flatMap Df.pms
/-- The numbers that make up the size of a program, part by part. -/
def Pg.cnts (g : Pg) : List Nat := paramCnts g.ds ++ bodyCnts g.bodies
def Pg.total (g : Pg) : Nat := sumN g.cnts
def Df.all (d : Df) : Nat := d.b.size + d.b.typ + sumN d.pms
theorem Pg.total_eq (g : Pg) : g.total = g.m.size + g.m.typ + sumN (g.ds.map Df.all) := by
  have h1 : ∀ l : List Pr, sumN (bodyCnts l) = sumN (l.map fun p => p.size + p.typ) := by
    intro l
    induction l with
    | nil => rfl
    | cons p r ih =>
      unfold bodyCnts at ih ⊢
      rw [List.flatMap_cons, sumN_append, sum_adds, ih, List.map_cons, sumN]
  have h2 : ∀ l : List Df, sumN (paramCnts l) + sumN ((l.map (fun d => d.b)).map fun p => p.size + p.typ) = sumN (l.map Df.all) := by
    intro l
    induction l with
    | nil => rfl
    | cons d r ih =>
      unfold paramCnts at ih ⊢
      rw [List.flatMap_cons, sumN_append, List.map_cons, List.map_cons, sumN, List.map_cons, sumN, ← ih]
      unfold Df.all
      omega
  unfold Pg.total Pg.cnts Pg.bodies
  have := h2 g.ds
  rw [sumN_append, h1, List.map_append, sumN_append]
  simp only [List.map_cons, List.map_nil, sumN]
  omega

theorem flatMap_take {α β : Type} {l : List α} {j : Nat} {x : α} (f : α → List β) (h : l[j]? = some x) : (l.take (j + 1)).flatMap f = (l.take j).flatMap f ++ f x := by
  rw [take_snoc_get h, List.flatMap_append]; simp
theorem flatMap_prefix {α β : Type} (l : List α) (j : Nat) (f : α → List β) : (l.take j).flatMap f <+: l.flatMap f := by
  conv => rhs; rw [← List.take_append_drop j l, List.flatMap_append]
  exact List.prefix_append _ _
theorem map_take_snoc {α β : Type} {l : List α} {j : Nat} {x : α} (f : α → β) (h : l[j]? = some x) : (l.take (j + 1)).map f = (l.take j).map f ++ [f x] := by
  rw [take_snoc_get h, List.map_append]; rfl
theorem map_prefix {α β : Type} (l : List α) (j : Nat) (f : α → β) : (l.take j).map f <+: l.map f := by
  conv => rhs; rw [← List.take_append_drop j l, List.map_append]
  exact List.prefix_append _ _

/-! ### Loads -/
theorem PmAt.load' {B : Nat → Prop} {w : World} {a : Pm} {b o : Nat} (h : PmAt B w a b o) :
    ∃ (la : Option Addr) (ln lc : Nat) (ka : Option Addr) (kn kc : Nat),
      (w.cell? ⟨b, o, none⟩ = some (.string a.n) ∧ w.cell? ⟨b, o + 1, none⟩ = some (.int .i64 a.t.k) ∧ w.cell? ⟨b, o + 2, none⟩ = some (.int .i64 a.t.p) ∧ w.cell? ⟨b, o + 3, none⟩ = some (.string a.t.n) ∧ w.cell? ⟨b, o + 4, none⟩ = some (.int .i64 a.t.s) ∧ w.cell? ⟨b, o + 5, none⟩ = some (.slice la ln lc) ∧ w.cell? ⟨b, o + 6, none⟩ = some (.slice ka kn kc)) ∧
      TyVal B w (.agg #[.int .i64 a.t.k, .int .i64 a.t.p, .string a.t.n, .int .i64 a.t.s, .slice la ln lc, .slice ka kn kc]) a.t := by
  obtain ⟨_, c0, hty⟩ := h
  obtain ⟨la, ln, lc, ka, kn, kc, ⟨d0, d1, d2, d3, d4, d5⟩, hv⟩ := hty.load'
  exact ⟨la, ln, lc, ka, kn, kc, ⟨c0, d0, d1, d2, d3, d4, d5⟩, hv⟩
theorem DfAt.load' {B : Nat → Prop} {w : World} {d : Df} {b o : Nat} (h : DfAt B w d b o) :
    ∃ (ma : Option Addr) (mn mc : Nat) (la : Option Addr) (ln lc : Nat) (aa : Option Addr) (an ac : Nat) (ta : Option Addr) (tn tc : Nat) (ua : Option Addr) (un uc : Nat) (ka : Option Addr) (kn kc : Nat),
      (w.cell? ⟨b, o, none⟩ = some (.string d.n) ∧ w.cell? ⟨b, o + 1, none⟩ = some (.slice ma mn mc) ∧ w.cell? ⟨b, o + 2, none⟩ = some (.int .i64 d.b.k) ∧ w.cell? ⟨b, o + 3, none⟩ = some (.string d.b.c) ∧ w.cell? ⟨b, o + 4, none⟩ = some (.string d.b.x) ∧
       w.cell? ⟨b, o + 5, none⟩ = some (.slice la ln lc) ∧ w.cell? ⟨b, o + 6, none⟩ = some (.slice aa an ac) ∧
       w.cell? ⟨b, o + 7, none⟩ = some (.int .i64 d.b.t.k) ∧ w.cell? ⟨b, o + 8, none⟩ = some (.int .i64 d.b.t.p) ∧ w.cell? ⟨b, o + 9, none⟩ = some (.string d.b.t.n) ∧ w.cell? ⟨b, o + 10, none⟩ = some (.int .i64 d.b.t.s) ∧
       w.cell? ⟨b, o + 11, none⟩ = some (.slice ta tn tc) ∧ w.cell? ⟨b, o + 12, none⟩ = some (.slice ua un uc) ∧ w.cell? ⟨b, o + 13, none⟩ = some (.slice ka kn kc)) ∧
      PmSl B w (.slice ma mn mc) d.ms ∧ PrVal B w (prAgg d.b (.slice la ln lc) (.slice aa an ac) (.slice ta tn tc) (.slice ua un uc) (.slice ka kn kc)) d.b := by
  obtain ⟨_, c0, ⟨mv, c1, hm⟩, hp⟩ := h
  obtain ⟨ma, mn, mc, rfl, _⟩ := hm.open
  obtain ⟨la, ln, lc, aa, an, ac, ta, tn, tc, ua, un, uc, ka, kn, kc, ⟨d0, d1, d2, d3, d4, d5, d6, d7, d8, d9, d10, d11⟩, hv⟩ := hp.load'
  exact ⟨ma, mn, mc, la, ln, lc, aa, an, ac, ta, tn, tc, ua, un, uc, ka, kn, kc, ⟨c0, c1, d0, d1, d2, d3, d4, d5, d6, d7, d8, d9, d10, d11⟩, hm, hv⟩
/-- What is asked of the processes that are looked at. -/
def PGood (p : Pr) : Prop := p.fine ∧ p.tf
theorem PGood.ps {p : Pr} (h : PGood p) : ∀ u ∈ p.ps, PGood u := fun u hu => ⟨Pr.fine_ps h.1 u hu, Pr.tf_ps h.2 u hu⟩

/-- What is asked of the programs that are measured. -/
def GGood (g : Pg) : Prop := g.ds.length ≤ 1000 ∧ (∀ d ∈ g.ds, ∀ a ∈ d.ms, a.t.fine ∧ a.t.few 300 = true) ∧ ∀ p ∈ g.bodies, PGood p ∧ p.depth ≤ 1000 ∧ p.size ≤ 1000000
theorem GGood.pm {g : Pg} (h : GGood g) {d : Df} (hd : d ∈ g.ds) {a : Pm} (ha : a ∈ d.ms) : a.t.size ≤ 300 ∧ a.t.depth ≤ 150 := few_size (h.2.1 d hd a ha).2
theorem Pg.body_mem {g : Pg} {d : Df} (hd : d ∈ g.ds) : d.b ∈ g.bodies := by unfold Pg.bodies; simp only [List.mem_append, List.mem_map]; exact .inl ⟨d, hd, rfl⟩
theorem Pg.main_mem (g : Pg) : g.m ∈ g.bodies := by unfold Pg.bodies; simp

end Go.Proofs.YtipjjhkgcbabnaaDoor

/- Programs: bodies. -/
namespace Go.Proofs.YtipjjhkgcbabnaaDoor
open Go.RowKit Go.Deep Go.Shelf

theorem pptrInfo : (Tryd.prog.info? 86).map (fun i => (i.zero, i.size, i.bytes)) = some (some (.pointer none), 1, 8) := by kernel_rfl
theorem news1 (W : World) (x : Value) (t : TypeId) : ∀ (j : Nat) (u : Value), [x][j]? = some u → (W.alloc (.cells #[x] t)).cell? ((⟨W.heap.size, 0, none⟩ : Addr).add j) = some u := by
  intro j u hj
  match j, hj with
  | 0, hj => simp at hj; subst hj; simp [Addr.add]
/-- The address of a definition's Body. -/
def bAd (pa : Option Addr) (i : Nat) : Value := .pointer (pa.map fun a => ⟨a.block, a.off + i * 14 + 2, none⟩)
def bAds (pa : Option Addr) (j : Nat) : List Value := (List.range j).map (bAd pa)
theorem bAds_succ (pa : Option Addr) (j : Nat) : bAds pa (j + 1) = bAds pa j ++ [bAd pa j] := by simp [bAds, List.range_succ]
theorem bAds_length (pa : Option Addr) (j : Nat) : (bAds pa j).length = j := by simp [bAds]
theorem bAds_get (pa : Option Addr) (j i : Nat) (h : i < j) : (bAds pa j)[i]? = some (bAd pa i) := by simp [bAds, h]
/-- The bodies of a program, one pointer each, lie in block r. -/
def BodyRow (S : Nat → Prop) (W : World) (r : Nat) (g : Pg) : Prop := ∀ (i : Nat) (p : Pr), g.bodies[i]? = some p → ∃ kb ko, W.cell? ⟨r, i, none⟩ = some (.pointer (some ⟨kb, ko, none⟩)) ∧ PrAt S W p kb ko

theorem hW_keep (S : Nat → Prop) {w W : World} (hS : Low S w) (h : Below w.heap.size w W) : Keeps S w W := h.keeps'.mono hS

set_option maxHeartbeats 2000000 in
set_option maxRecDepth 100000 in
theorem bodies_any (S : Nat → Prop) (g : Pg) (b o : Nat) (w : World) (hS : Low S w) (hg : PgAt S w g b o) (hn : g.ds.length ≤ 1000000) :
    Calls Tryd.prog 91 #[.pointer (some ⟨b, o, none⟩)] w fun e w' => ∃ r c, e = .returned (.slice (some ⟨r, 0, none⟩) g.bodies.length c) ∧ BodyRow S w' r g ∧ w.heap.size ≤ r ∧ r < w'.heap.size ∧ Below w.heap.size w w' := by
  obtain ⟨hSb, ⟨dv, c0, hd⟩, hm⟩ := hg
  have hbl := hS b hSb
  obtain ⟨pa, len, c, rfl, hlen, hmx, hget⟩ := hd.open
  have hln : len ≤ 1000000 := by have := hlen.out; omega
  obtain ⟨i0, hi, hz0, hz1, hz2⟩ := info_parts pptrInfo
  have HG := Lib.hid hget
  have HM := Lib.hid hm
  clear hget hm hd
  go_enter Tryd.func91, Tryd.ntmps91
  go_wp2_with fail
  go_loopw [3, 10] (fun v i wr => ∃ k : Nat, i = .int .i64 k ∧ k ≤ len ∧ wr.ownsRow w.heap.size 86 1 v k (bAds pa k) ∧ Below w.heap.size w wr) (fun _ i _ => len - (intOf i).toNat)
  case atStart => exact ⟨0, rfl, by omega, World.ownsRow_nil _ _ _ _, Below.refl _ _⟩
  case round =>
    obtain ⟨k, rfl, hk, hrow, hB⟩ := hrel
    have c1 := (hB.cell (p := ⟨b, o, none⟩) hbl).trans c0
    by_cases hlt : k < len
    · obtain ⟨d, hdk⟩ : ∃ d, g.ds[k]? = some d := ⟨_, List.getElem?_eq_getElem (by rw [← hlen.out]; exact hlt)⟩
      obtain ⟨kb, ko, rfl, hkb, hda⟩ := HG.out k d hdk
      have hsz := hB.size
      have hs3 : bAds (some ⟨kb, ko, none⟩) (k + 1) = bAds (some ⟨kb, ko, none⟩) k ++ [.pointer (some ⟨kb, ko + k * 14 + 2, none⟩)] := bAds_succ _ _
      have HS := Lib.hid hs3
      clear hdk hda hs3
      go_wp2_with (at_builtin; refine wpList_append_own _ rfl _ _ 120 rfl w.heap.size 86 i0 (.pointer none) 1 8 Tryd.underlying120 hi hz0 hz1 hz2 rfl (by decide) _ _ _ rfl (hrow.alloc _) ⟨wr.heap.size, 0, none⟩ 1 1 [.pointer (some ⟨kb, ko + k * 14 + 2, none⟩)] rfl rfl (news1 wr _ _) (fun u hu => by simp at hu; subst hu; rfl) (by unfold maxLen; omega) (by omega) (by simp; omega) ?_; intro v' w1 hown' hgrow _)
      have hbw : Below w.heap.size wr w1 := ((Below.refl w.heap.size wr).alloc hsz (.cells #[.pointer (some ⟨kb, ko + k * 14 + 2, none⟩)] 86)).grown hgrow (by simp; omega) (fun j ej => (hrow.lt j ej).1)
      have HW := Lib.hid hbw
      clear hgrow hbw
      go_wp2_with fail
      go_roundw
      case rel => exact ⟨k + 1, by go_num, by omega, by rw [HS.out]; exact hown', hB.trans HW.out⟩
      case measure => simp [intOf]; omega
    · obtain rfl : k = len := by omega
      have hsz := hB.size
      go_wp2_with (at_builtin; refine wpList_append_own _ rfl _ _ 120 rfl w.heap.size 86 i0 (.pointer none) 1 8 Tryd.underlying120 hi hz0 hz1 hz2 rfl (by decide) _ _ _ rfl (hrow.alloc _) ⟨wr.heap.size, 0, none⟩ 1 1 [.pointer (some ⟨b, o + 1, none⟩)] rfl rfl (news1 wr _ _) (fun u hu => by simp at hu; subst hu; rfl) (by unfold maxLen; omega) (by omega) (by simp; omega) ?_; intro v' w1 hown' hgrow _)
      have hbw : Below w.heap.size wr w1 := ((Below.refl w.heap.size wr).alloc hsz (.cells #[.pointer (some ⟨b, o + 1, none⟩)] 86)).grown hgrow (by simp; omega) (fun j ej => (hrow.lt j ej).1)
      have HW := Lib.hid (hB.trans hbw)
      have HO := Lib.hid hown'
      clear hgrow hbw hown'
      go_wp2_with fail
      go_ret
      have hown := HO.out
      rcases hown.2 with ⟨rfl, h0⟩ | ⟨r, cap, cur, rfl, hrb, hrest⟩
      · omega
      have hbn : g.bodies.length = k + 1 := by unfold Pg.bodies; simp; exact hlen.out.symm
      refine ⟨r, cap, by rw [hbn]; rfl, fun i p hp => ?_, hrb, (hown.lt r rfl).2, HW.out⟩
      have hki := hW_keep S hS HW.out
      have hil := (List.getElem?_eq_some_iff.1 hp).1
      rw [hbn] at hil
      have hc := hown.cellAt i (by omega)
      unfold Pg.bodies at hp
      rcases Nat.lt_or_ge i k with hik | hik
      · have hds : i < g.ds.length := by rw [← hlen.out]; exact hik
        rw [List.getElem?_append_left (by simpa using hds), List.getElem?_map] at hp
        obtain ⟨d, hd⟩ : ∃ d, g.ds[i]? = some d := ⟨_, List.getElem?_eq_getElem hds⟩
        rw [hd] at hp
        simp only [Option.map_some, Option.some.injEq] at hp
        subst hp
        obtain ⟨kb, ko, rfl, hkb, hda⟩ := HG.out i d hd
        refine ⟨kb, ko + i * 14 + 2, ?_, PrAt.keep hki _ _ _ hda.2.2.2⟩
        rw [hc, List.getElem?_append_left (by rw [bAds_length]; exact hik), bAds_get _ _ _ hik]
        rfl
      · obtain rfl : i = k := by omega
        have hme : g.m = p := by
          rw [List.getElem?_append_right (by simp; have := hlen.out; omega)] at hp
          simpa [← hlen.out] using hp
        subst hme
        refine ⟨b, o + 1, ?_, PrAt.keep hki _ _ _ HM.out⟩
        rw [hc, List.getElem?_append_right (by rw [bAds_length]; exact Nat.le_refl _), bAds_length, Nat.sub_self]
        rfl

end Go.Proofs.YtipjjhkgcbabnaaDoor

/- A range over a function whose rounds keep all that is no cells from the iterator's start on: the iterator may itself range over functions. -/
namespace Go.Proofs.YtipjjhkgcbabnaaDoor
open Go.RowKit

theorem AbidesAll.below {β : Type} {B : Nat} {J : β → World → Prop} (h : AbidesAll B J) {s : β} {W W' : World} (hs : J s W) (hb : Below W.heap.size W W') : J s W' :=
  h s W W' none hs ⟨hb.os, hb.tape, hb.output, hb.size, fun k hk _ => hb.block k hk⟩ (fun r e => by cases e)
theorem AbidesAll.drew {β : Type} {B : Nat} {J : β → World → Prop} (h : AbidesAll B J) {s : β} {W : World} (hs : J s W) : J s W.drew := h.below hs (Below.refl _ _).drew
theorem _root_.Go.KeepsFrom.le {B B' : Nat} {A C : World} (h : KeepsFrom B A C) (hB : B ≤ B') : KeepsFrom B' A C := ⟨h.size, fun k o hk hc hx => h.same k o (Nat.le_trans hB hk) hc hx⟩
theorem _root_.Go.KeepsFrom.put {B l : Nat} {W : World} (hl : l < B) (o : Obj) : KeepsFrom B W (W.putObj l o) := ⟨by simp, fun k o' hk hx _ => (World.putObj_heap_other (by omega)).trans hx⟩

/-- What an iterator does, where each round keeps all that is no cells from the iterator's start on. -/
def Tells2 {α : Type} (F : Fence) (n : Nat) (P : Program) (g : Nat) (lb : Array Value) (encs : α → Array Value) (Px : α → World → Prop) (Kp : World → World → Prop) (S Sp : List α → Prop) (w : World) : Prop :=
  ∀ (l : Nat) (J Jx : List α → World → Prop) (W : World), Below w.heap.size w W → AbidesAll W.heap.size J → AbidesAll W.heap.size Jx →
    (∀ pre x W1, J pre W1 → Px x W1 → YieldAt F (n - 1) P l (encs x) W1 fun e W' =>
      ((e = .returned (.bool true) ∧ J (pre ++ [x]) W' ∧ Kp W1 W') ∨ (e = .returned (.bool false) ∧ Jx (pre ++ [x]) W')) ∧ KeepsFrom W.heap.size W1 W') →
    J [] W →
    CallsIn F n P g (#[.func (.yield l) #[] #[]] ++ lb) W fun e W' => (∃ v, e = .returned v) ∧ ((∃ xs, S xs ∧ J xs W') ∨ (∃ pre, Sp pre ∧ Jx pre W'))

variable {F : Fence} {n : Nat} {P : Program}

theorem wpIn_range_told2 {α : Type} {g : Operand} {ps : Array Tmp} {assign body : Code} {Q : Exit → Act → World → Prop} {a : Act} {w : World}
    (hro : F.round = none) (h1 : 1 ≤ n) {gf : Nat} {lb : Array Value} (hg : a.eval g = .func (.func gf) #[] lb) (hFg : F.fn gf) (eg : ∀ args w, (callFunc gf args).run P w = .ok (.enter gf args) w)
    {encs : α → Array Value} {Px : α → World → Prop} {Kp : World → World → Prop} {S Sp : List α → Prop} {w0 : World} (hseq : Tells2 F (n - 1) P gf lb encs Px Kp S Sp w0)
    (hKt : ∀ {A B C : World}, Kp A B → Kp B C → Kp A C) (hKb : ∀ (W : World) (l : Nat) (o o' : Obj), w.heap.size ≤ l → W.heap[l]? = some o → o.isCells = false → o.isWalk = false → Kp W (W.putObj l o'))
    (hPx : ∀ x A B, CellsKept A B → Px x A → Px x B) (hb0 : Below w0.heap.size w0 w) (hps : ∀ x, (encs x).size = ps.size)
    (I : List α → World → Prop) (Ix : Code → List α → World → Prop) (hI : AbidesAll w.heap.size I) (hIx : ∀ c, AbidesAll w.heap.size (Ix c)) (h0 : I [] w) (Ax : α → Act → World → Prop) (hAx : ∀ x a' A B, CellsKept A B → Ax x a' A → Ax x a' B)
    (hassign : ∀ (l : Nat) (pre : List α) (x : α) (W : World) (K : Act → World → Prop), I pre W → Px x W → (∀ a' W', KeepsFrom w.heap.size W W' → Kp W W' → I pre W' → Px x W' → Ax x a' W' → K a' W') →
      assign.wpIn (F.inRound l) (n - 1 - 1) P (Exit.then K (fun _ _ _ => False)) { tmps := (ps.zip (encs x)).foldl (fun t (p, v) => t.setIfInBounds p v) a.tmps, defers := [] } W)
    (hbody : ∀ (l : Nat) (pre : List α) (x : α) (a' : Act) (W : World), w.heap.size ≤ l → (∃ r, W.heap[l]? = some (.loop r)) → I pre W → Px x W → Ax x a' W → body.wpIn (F.inRound l) (n - 1 - 1) P (ownPostG w.heap.size Kp I Ix (pre ++ [x]) W) a' W)
    (hdone : ∀ (D : Nat) (xs : List α) (W : World), w.heap.size ≤ D → S xs → I xs W → W.heap[D]? = some (.deferred (some [])) → Q .normal { a with defers := { target := .collected D, args := #[] } :: a.defers } W)
    (hstop : ∀ (D : Nat) (c : Code) (pre : List α) (W : World), w.heap.size ≤ D → Sp pre → Ix c pre W → W.heap[D]? = some (.deferred (some [])) → c.wpIn F n P Q { a with defers := { target := .collected D, args := #[] } :: a.defers } W) :
    (Code.rangeFunc g ps assign body).wpIn F n P Q a w := by
  refine wpIn_rangeFunc ?_
  intro fn hfn
  rw [hro]
  generalize hL : w.heap.size + 1 = L
  have hLw : w.heap.size < L := by omega
  let rec_ (st : LoopState) (pe : Option Code) : Loop := { state := st, pending := pe, fn, tmps := a.tmps, params := ps, assign, body, defers := w.heap.size }
  obtain ⟨W1, hW1⟩ : ∃ W1, (w.alloc (.deferred (some []))).alloc (.loop (rec_ .ready none)) = W1 := ⟨_, rfl⟩
  have hs1 : W1.heap.size = L + 1 := by rw [← hW1]; simp; omega
  have hL1 : W1.heap[L]? = some (.loop (rec_ .ready none)) := by
    have h := World.alloc_heap_new (w.alloc (.deferred (some []))) (.loop (rec_ .ready none))
    rw [World.size_alloc, hL, hW1] at h; exact h
  have hK1 : W1.heap[w.heap.size]? = some (.deferred (some [])) := by
    rw [← hW1]; exact (Below.heap_alloc _ _ _ (by simp)).trans (World.alloc_heap_new w _)
  have hI1 : I [] W1 := by rw [← hW1]; exact hI.alloc _ (hI.alloc _ h0)
  have hb1 : Below w0.heap.size w0 W1 := by
    rw [← hW1]; exact hb0.trans ((((Below.refl _ w).alloc (Nat.le_refl _) _).alloc (by simp) _).mono hb0.size)
  refine ⟨L, [{ target := .collected w.heap.size, args := #[] }], W1, { target := .fn (.func gf) lb, args := #[.func (.yield L) #[] #[]] }, W1, gf, #[.func (.yield L) #[] #[]] ++ lb, W1, ?_, ?_, ?_, ?_, fun _ => h1, ?_⟩
  · rw [← hW1, ← hL]; exact run_enterLoop_outer _ _ _ _ _
  · simp only [resolve, hg]
    simp [go_sem]
  · intro f' hf'; simp [Target.leads] at hf'; subst hf'; exact hFg
  · simp [invoke, go_sem, eg]
  refine (hseq L (fun pre W => I pre W ∧ W.heap[L]? = some (.loop (rec_ .ready none)) ∧ W.heap[w.heap.size]? = some (.deferred (some [])))
    (fun pre W => ∃ c, Ix c pre W ∧ W.heap[L]? = some (.loop (rec_ .done (some c))) ∧ W.heap[w.heap.size]? = some (.deferred (some []))) W1 hb1
    ((hI.mono (by omega)).and ((abidesAll_block (by omega)).and (abidesAll_block (by omega)))) ?_ ?_ ⟨hI1, hL1, hK1⟩).mono ?_
  · rintro s A B row ⟨c, hc⟩ hg' hr
    exact ⟨c, ((hIx c).mono (by omega)).and ((abidesAll_block (by omega)).and (abidesAll_block (by omega))) s A B row hc hg' hr⟩
  · -- one round
    rintro pre x W ⟨hi, hl, hk⟩ hpx
    have hy := run_yield (P := P) (args := encs x) hl (hps x)
    refine ⟨fn, _, assign, body, hy, roundIn_of_wpIn hfn (hassign _ pre x W _ hi hpx ?_)⟩
    clear hy
    intro a' V hkf hkp hiV hpV hax
    have hlV := hkf.same _ _ (by omega) hl rfl
    have hkV := hkf.same _ _ (Nat.le_refl _) hk rfl
    refine ⟨_, run_beginRound hlV rfl, ?_⟩
    have hl2 : (V.putObj L (.loop (rec_ .busy none))).heap[L]? = some (.loop (rec_ .busy none)) := World.putObj_heap_same (Array.getElem?_eq_some_iff.1 hlV).1
    have hk2 : (V.putObj L (.loop (rec_ .busy none))).heap[w.heap.size]? = some (.deferred (some [])) := (World.putObj_heap_other (by omega)).trans hkV
    have hp2 : Kp V (V.putObj L (.loop (rec_ .busy none))) := hKb _ _ _ _ (by omega) hlV rfl rfl
    refine wpIn_mono (hbody _ pre x a' _ (by omega) ⟨_, hl2⟩ (hI.put _ hiV (by omega)) (hPx x _ _ (cellsKept_put hlV rfl) hpV) (hAx x a' _ _ (cellsKept_put hlV rfl) hax)) ?_
    have fin : ∀ (jump : Option Code) (X : World), KeepsFrom w.heap.size (V.putObj L (.loop (rec_ .busy none))) X →
        (Instr.endRound L jump).run P X = .ok (.bool jump.isNone) (X.putObj L (.loop (rec_ (if jump.isNone then .ready else .done) jump))) ∧ X.heap[L]? = some (.loop (rec_ .busy none)) ∧
        (X.putObj L (.loop (rec_ (if jump.isNone then .ready else .done) jump))).heap[L]? = some (.loop (rec_ (if jump.isNone then .ready else .done) jump)) ∧
        (X.putObj L (.loop (rec_ (if jump.isNone then .ready else .done) jump))).heap[w.heap.size]? = some (.deferred (some [])) := fun jump X hX => by
      have h3 := hX.same _ _ (by omega) hl2 rfl
      exact ⟨run_endRound (P := P) jump h3, h3, World.putObj_heap_same (Array.getElem?_eq_some_iff.1 h3).1, (World.putObj_heap_other (by omega)).trans (hX.same _ _ (Nat.le_refl _) hk2 rfl)⟩
    have all : ∀ (o : Obj) (X : World), KeepsFrom w.heap.size (V.putObj L (.loop (rec_ .busy none))) X → KeepsFrom W1.heap.size W (X.putObj L o) := fun o X hX =>
      ((hkf.le (by omega)).trans (Go.KeepsFrom.put (by omega) _)).trans ((hX.le (by omega)).trans (Go.KeepsFrom.put (by omega) _))
    rintro e a3 X hp
    cases e with
    | normal =>
      obtain ⟨hX, hkp3, hi3⟩ := hp
      obtain ⟨hr, hl3, hl4, hk4⟩ := fin none X hX
      exact ⟨_, _, hr, .inl ⟨rfl, ⟨hI.put _ hi3 (by omega), hl4, hk4⟩, hKt hkp (hKt (hKt hp2 hkp3) (hKb _ _ _ _ (by omega) hl3 rfl rfl))⟩, all _ X hX⟩
    | ret =>
      obtain ⟨hX, hi3⟩ := hp
      obtain ⟨hr, hl3, hl4, hk4⟩ := fin (some .ret) X hX
      exact ⟨_, _, hr, .inr ⟨rfl, .ret, (hIx _).put _ hi3 (by omega), hl4, hk4⟩, all _ X hX⟩
    | exit id =>
      obtain ⟨hX, hi3⟩ := hp
      obtain ⟨hr, hl3, hl4, hk4⟩ := fin (some (.exit id)) X hX
      exact ⟨_, _, hr, .inr ⟨rfl, .exit id, (hIx _).put _ hi3 (by omega), hl4, hk4⟩, all _ X hX⟩
    | goto t =>
      obtain ⟨hX, hi3⟩ := hp
      obtain ⟨hr, hl3, hl4, hk4⟩ := fin (some (.goto t)) X hX
      exact ⟨_, _, hr, .inr ⟨rfl, .goto t, (hIx _).put _ hi3 (by omega), hl4, hk4⟩, all _ X hX⟩
    | panic ch => exact hp.elim
    | outgrown => exact hp.elim
  · -- behind the iterator
    rintro e W2 ⟨⟨v, rfl⟩, (⟨xs, hS, hi, hl, hk⟩ | ⟨pre, hSp, c, hi, hl, hk⟩)⟩
    · exact ⟨none, _, run_endLoop (P := P) hl (by simp [rec_]), hdone _ xs _ (Nat.le_refl _) hS (hI.put _ hi (by omega)) ((World.putObj_heap_other (by omega)).trans hk)⟩
    · exact ⟨some c, _, run_endLoop (P := P) hl (by simp [rec_]), hstop _ c pre _ (Nat.le_refl _) hSp ((hIx c).put _ hi (by omega)) ((World.putObj_heap_other (by omega)).trans hk)⟩

end Go.Proofs.YtipjjhkgcbabnaaDoor

/- Programs: counts. -/
namespace Go.Proofs.YtipjjhkgcbabnaaDoor
open Go.RowKit Go.Deep Go.Shelf
attribute [local go_sem] Oper.semAt_some

set_option maxHeartbeats 1000000 in
theorem counts_any (a : Option Addr) (w : World) :
    Calls Tryd.prog 61 #[.pointer a] w fun e w' => e = .returned (.func (.func 95) #[] #[.pointer (some ⟨w.heap.size, 0, none⟩)]) ∧ w' = w.alloc (.cells #[.pointer a] 90) := by
  go_enter Tryd.func61, Tryd.ntmps61
  go_wp2
  go_ret
  exact ⟨rfl, rfl⟩

/-- The marks of the loops that have ended. -/
def marks (Ds : List Nat) : List Deferred := Ds.map fun D => { target := .collected D, args := #[] }
def Marked (lo : Nat) (Ds : List Nat) (W : World) : Prop := Ds.Nodup ∧ ∀ D ∈ Ds, lo ≤ D ∧ W.heap[D]? = some (.deferred (some []))
theorem Marked.nil (lo : Nat) (W : World) : Marked lo [] W := ⟨List.nodup_nil, fun D h => by cases h⟩
theorem Marked.keeps {lo : Nat} {Ds : List Nat} {A B : World} (h : Marked lo Ds A) (hk : KeepsFrom lo A B) : Marked lo Ds B := ⟨h.1, fun D hD => ⟨(h.2 D hD).1, hk.same D _ (h.2 D hD).1 (h.2 D hD).2 rfl⟩⟩
theorem Marked.cons {lo D : Nat} {Ds : List Nat} {W : World} (h : Marked lo Ds W) (hne : D ∉ Ds) (hlo : lo ≤ D) (hD : W.heap[D]? = some (.deferred (some []))) : Marked lo (D :: Ds) W :=
  ⟨List.nodup_cons.2 ⟨hne, h.1⟩, fun E hE => by
    rcases List.mem_cons.1 hE with rfl | hE
    · exact ⟨hlo, hD⟩
    · exact h.2 E hE⟩
theorem leaves_marked {F : Fence} {n lo : Nat} {P : Program} {fn : Func} {tmps : Array Value} {R : Ending → World → Prop} {J : World → Prop} (hJ : ∀ (W : World) (D : Nat) (o : Obj), J W → lo ≤ D → J (W.putObj D o)) (hR : ∀ W, J W → LeavesIn F n P fn tmps R [] .returning W) :
    ∀ (Ds : List Nat) (W : World), J W → Marked lo Ds W → LeavesInM F n P fn tmps R (marks Ds) .returning W
  | [], W, hj, _ => hR W hj
  | D :: Ds, W, hj, hm => by
    have hD := hm.2 D (by simp)
    refine ⟨by simp, .inl ⟨_, _, rfl, run_takeDeferred hD.2, ?_⟩⟩
    refine leaves_marked hJ hR Ds _ (hJ _ _ _ hj hD.1) ⟨(List.nodup_cons.1 hm.1).2, fun E hE => ⟨(hm.2 E (by simp [hE])).1, ?_⟩⟩
    have hne : E ≠ D := fun e => (List.nodup_cons.1 hm.1).1 (e ▸ hE)
    exact (World.putObj_heap_other hne).trans (hm.2 E (by simp [hE])).2

/-- The same, and no panic. -/
def noP (Q : Exit → Act → World → Prop) : Exit → Act → World → Prop
  | .panic _, _, _ => False
  | e, a, w => Q e a w
theorem noP_imp {Q : Exit → Act → World → Prop} : ∀ e a w, noP Q e a w → Q e a w := fun e a w h => by
  cases e <;> first | exact h | exact h.elim
abbrev cnArgs (x : Nat) : Array Value := #[.int .i64 (x : Int)]
/-- What a round of the caller of counts does. -/
def CnY (l : Nat) (lo : Nat) (X : Nat → Prop) (J Jx : List Nat → World → Prop) : Prop :=
  ∀ m pre x W1, x ≤ 1000 → J pre W1 → YieldAt Fence.wide m Tryd.prog l (cnArgs x) W1 fun e W' => ∃ r, e = .returned (.bool r) ∧ ((r = true ∧ J (pre ++ [x]) W' ∧ Kp X W1 W') ∨ (r = false ∧ Jx (pre ++ [x]) W')) ∧ KeepsFrom lo W1 W'
theorem grown_box {X : Nat → Prop} (W : World) (o : Obj) : Kp X W (W.alloc o) := KV.of_cells (by simp) (cellsKept_alloc W o)

theorem abides_of {α β : Type} {B B' : Nat} {J : β → World → Prop} (h : AbidesAll B J) (hB : B ≤ B') (f : α → β) : AbidesAll B' (fun s W => J (f s) W) := fun s A C row hs hg hr => h (f s) A C row hs hg (fun r e => Nat.le_trans hB (hr r e))
theorem abides_kp {β : Type} (X : Nat → Prop) (A : World) : AbidesAll A.heap.size (fun (_ : β) W => Kp X A W) := fun _ W C row hs hg hr => ⟨Nat.le_trans hs.size hg.size, fun k o hk hc hx ha => by
  have hW := hs.keep k o hk hc hx ha
  exact (hg.block k (Array.getElem?_eq_some_iff.1 hW).1 (fun e => by have := hr k e.symm; have := (Array.getElem?_eq_some_iff.1 hk).1; omega)).trans hW⟩
theorem abides_from {β : Type} (lo : Nat) (A : World) : AbidesAll A.heap.size (fun (_ : β) W => KeepsFrom lo A W) := fun _ W C row hs hg hr => ⟨Nat.le_trans hs.size hg.size, fun k o hlo hk hc => by
  have hW := hs.same k o hlo hk hc
  exact (hg.block k (Array.getElem?_eq_some_iff.1 hW).1 (fun e => by have := hr k e.symm; have := (Array.getElem?_eq_some_iff.1 hk).1; omega)).trans hW⟩
theorem addsL_snoc (l : List Np) (x : Np) : addsL ((l ++ [x]).map Np.g) = addsL (l.map Np.g) ++ [x.p.adds] := by simp [addsL, Np.g]
theorem addsL_prefix {l r : List (Nat × Pr)} (h : l <+: r) : addsL l <+: addsL r := by
  obtain ⟨s, rfl⟩ := h
  unfold addsL; rw [List.map_append]; exact List.prefix_append _ _

set_option maxRecDepth 100000 in
set_option maxHeartbeats 8000000 in
/-- The iterator that counts returns tells the numbers that make up the size of a program. -/
theorem counts_tells (n : Nat) (hn : 1 ≤ n) (Bt b o : Nat) (g : Pg) (S X : Nat → Prop) (w : World) (hX : ∀ k, X k → ¬ S k ∧ k ≠ Bt ∧ k < w.heap.size) (hS : Low S w) (hBt : Bt < w.heap.size) (hc : w.cell? ⟨Bt, 0, none⟩ = some (.pointer (some ⟨b, o, none⟩))) (hg : PgAt S w g b o) (hgood : GGood g) :
    Tells2 Fence.wide n Tryd.prog 95 #[.pointer (some ⟨Bt, 0, none⟩)] cnArgs (fun x _ => x ≤ 1000) (Kp X) (fun ys => ys = g.cnts) (fun pre => pre <+: g.cnts) w := by
  intro l J Jx W hW hJ hJx hY h0
  have HY : Hid (CnY l W.heap.size X J Jx) := Lib.hid (fun m pre x W1 hx hj => (yield_any rfl m (hY pre x W1 hj hx)).mono fun e W' h => by
    rcases h with ⟨⟨h1, h2, h3⟩ | ⟨h1, h2⟩, hk⟩
    · exact ⟨true, h1, .inl ⟨rfl, h2, h3⟩, hk⟩
    · exact ⟨false, h1, .inr ⟨rfl, h2⟩, hk⟩)
  clear hY
  have hWs := hW.size
  have hc' : W.cell? ⟨Bt, 0, none⟩ = some (.pointer (some ⟨b, o, none⟩)) := (hW.cell (p := ⟨Bt, 0, none⟩) hBt).trans hc
  have hgW := hg.keep (hW.keeps'.mono hS)
  obtain ⟨hSb, ⟨dv, e0, hd⟩, hm⟩ := hgW
  obtain ⟨pa, len, c, rfl, hlen, hmx, hget⟩ := hd.open
  have hbl := hS b hSb
  have HJ := Lib.hid hJ
  have HJX := Lib.hid hJx
  have hkb := grown_box (X := X) W (.cells #[.func (.yield l) #[] #[]] 94)
  have HJ1 := Lib.hid (hJ.alloc (.cells #[.func (.yield l) #[] #[]] 94) h0)
  have y0 : (W.alloc (.cells #[.func (.yield l) #[] #[]] 94)).cell? ⟨W.heap.size, 0, none⟩ = some (.func (.yield l) #[] #[]) := blk_cell (Below.refl _ _) 0 rfl
  have hs1 : (W.alloc (.cells #[.func (.yield l) #[] #[]] 94)).heap.size = W.heap.size + 1 := by simp
  obtain ⟨W1, hW1⟩ : ∃ W1, W.alloc (.cells #[.func (.yield l) #[] #[]] 94) = W1 := ⟨_, rfl⟩
  rw [hW1] at hkb HJ1 y0 hs1
  -- what holds in every world that keeps the cells of W1
  have hSX : ∀ {A : World}, Kp X W1 A → Keeps S W1 A := fun h => h.keeps (fun k hk => ⟨fun hx => (hX k hx).1 hk, by simp [Value.ownBlock]⟩)
  have hS1 : Keeps S W W1 := hkb.keeps (fun k hk => ⟨fun hx => (hX k hx).1 hk, by simp [Value.ownBlock]⟩)
  have HD : Hid (∀ (j : Nat) (d : Df), g.ds[j]? = some d → ∃ kb ko, pa = some ⟨kb, ko, none⟩ ∧ S kb ∧ kb < w.heap.size ∧ (∀ A, Kp X W1 A → DfAt S A d kb (ko + j * 14)) ∧ (∀ a ∈ d.ms, a.t.size ≤ 300 ∧ a.t.depth ≤ 150)) := Lib.hid (fun j d hj => by
    obtain ⟨kb, ko, e, hkb, hda⟩ := hget j d hj
    exact ⟨kb, ko, e, hkb, hS kb hkb, fun A hA => (hda.keep hS1 hkb).keep (hSX hA) hkb, fun a ha => hgood.pm (List.mem_of_getElem? hj) ha⟩)
  have hgW1 : PgAt S W1 g b o := (hg.keep (hW.keeps'.mono hS)).keep hS1
  have e0' : W1.cell? ⟨b, o, none⟩ = some (.slice pa len c) := hS1.cell hSb e0
  have HG : Hid (∀ A, Kp X W1 A → PgAt S A g b o ∧ A.cell? ⟨b, o, none⟩ = some (.slice pa len c)) := Lib.hid (fun A hA => ⟨hgW1.keep (hSX hA), (hSX hA).cell hSb e0'⟩)
  have HC : Hid (∀ A, Kp X W1 A → A.cell? ⟨Bt, 0, none⟩ = some (.pointer (some ⟨b, o, none⟩)) ∧ A.cell? ⟨W.heap.size, 0, none⟩ = some (.func (.yield l) #[] #[])) := Lib.hid (fun A hA => by
    have h1 : Keeps (fun k => k = Bt) W A := (hkb.trans hA).keeps (fun k hk => ⟨fun hx => (hX k hx).2.1 hk, by simp [Value.ownBlock]⟩)
    have h2 : Keeps (fun k => k = W.heap.size) W1 A := hA.keeps (fun k hk => ⟨fun hx => by have := (hX k hx).2.2; omega, by simp [Value.ownBlock]⟩)
    exact ⟨h1.cell rfl hc', h2.cell rfl y0⟩)
  have HGood := Lib.hid hgood
  have HKS : Hid (∀ A B : World, Kp X A B → Keeps S A B) := Lib.hid (fun A B h => h.keeps (fun k hk => ⟨fun hx => (hX k hx).1 hk, by simp [Value.ownBlock]⟩))
  have HSL : Hid (∀ k, S k → k < w.heap.size) := Lib.hid hS
  have HX := Lib.hid hX
  clear hget hd hm hgW1 hJ hJx h0 hg hgood hc hX hS hS1 hSX hkb y0 hW hBt e0 e0' hc'
  obtain ⟨b0, b1⟩ := HC.out W1 (KV.refl _ _ _)
  have b2 := (HG.out W1 (KV.refl _ _ _)).2
  refine callsIn_of_wp_marks Tryd.func95 rfl trivial (wpIn_mono (Q := noP _) ?_ noP_imp) rfl
  simp only [Tryd.ntmps95, List.size_toArray, List.length_cons, List.length_nil, Nat.reduceAdd, Nat.reduceSub, Array.replicate_succ, Array.replicate_zero, List.push_toArray, List.append_toArray, List.nil_append, List.cons_append]
  gi_wp2_with fail
  clear b0 b1 b2 hW1
  gi_loopw [16] (fun i wr => ∃ (j : Nat), i = .int .i64 (j : Int) ∧ j ≤ len ∧ Hid (J (paramCnts (g.ds.take j)) wr) ∧ Hid (Kp X W1 wr) ∧ Hid (KeepsFrom W.heap.size W1 wr)) (fun i _ => len - (intOf i).toNat)
  case atStart => exact ⟨0, rfl, by omega, Lib.hid (by simpa [paramCnts] using HJ1.out), Lib.hid (KV.refl _ _ _), Lib.hid (KeepsFrom.refl _ _)⟩
  case round =>
    obtain ⟨j, rfl, hj, HJJ, HKV, HKF⟩ := hrel
    obtain ⟨wo, hwo⟩ : ∃ wo, wo = wr := ⟨_, rfl⟩
    subst hwo
    obtain ⟨b0, b1⟩ := HC.out wo HKV.out
    by_cases hlt : j < len
    · obtain ⟨d, hdj⟩ : ∃ d, g.ds[j]? = some d := ⟨_, List.getElem?_eq_getElem (by rw [← hlen.out]; exact hlt)⟩
      obtain ⟨kb, ko, rfl, hkS, hkw, hda, hpm⟩ := HD.out j d hdj
      obtain ⟨ma, mn, mc, la', ln', lc', aa', an', ac', ta', tn', tc', ua', un', uc', ka', kn', kc', ⟨d0, d1, d2, d3, d4, d5, d6, d7, d8, d9, d10, d11, d12, d13⟩, hms, hval⟩ := (hda wo HKV.out).load'
      obtain ⟨_, _, _, hpe, hmlen, hmmx, hmget⟩ := hms.open
      simp only [Value.slice.injEq] at hpe
      obtain ⟨rfl, rfl, rfl⟩ := hpe
      have hk2 := grown_box (X := X) wo (.cells #[.string d.n, .slice ma mn mc, .int .i64 d.b.k, .string d.b.c, .string d.b.x, .slice la' ln' lc', .slice aa' an' ac', .int .i64 d.b.t.k, .int .i64 d.b.t.p, .string d.b.t.n, .int .i64 d.b.t.s, .slice ta' tn' tc', .slice ua' un' uc', .slice ka' kn' kc'] 80)
      gi_wp2_with fail
      have hwr : W.heap.size + 1 ≤ wo.heap.size := by have := HKV.out.size; omega
      have HPM : Hid (∀ (k : Nat) (a : Pm), d.ms[k]? = some a → ∃ pb po, ma = some ⟨pb, po, none⟩ ∧ S pb ∧ pb < w.heap.size ∧ (∀ A, Kp X wo A → PmAt S A a pb (po + k * 7)) ∧ a.t.size ≤ 300 ∧ a.t.depth ≤ 150) := Lib.hid (fun k a hk => by
        obtain ⟨pb, po, e, hpb, hpa⟩ := hmget k a hk
        have := hpm a (List.mem_of_getElem? hk)
        exact ⟨pb, po, e, hpb, HSL.out pb hpb, fun A hA => hpa.keep (HKS.out wo A hA) hpb, this.1, this.2⟩)
      have HML := Lib.hid hmlen.out
      have HPJ : Hid (paramCnts (g.ds.take (j + 1)) = paramCnts (g.ds.take j) ++ d.pms) := Lib.hid (flatMap_take Df.pms hdj)
      have HPX : Hid (paramCnts (g.ds.take j) ++ d.pms <+: g.cnts) := Lib.hid (by
        rw [← HPJ.out]; exact (flatMap_prefix g.ds (j + 1) Df.pms).trans (List.prefix_append _ _))
      have HK2 := Lib.hid hk2
      have HJ2 := Lib.hid (HJ.out.alloc (.cells #[.string d.n, .slice ma mn mc, .int .i64 d.b.k, .string d.b.c, .string d.b.x, .slice la' ln' lc', .slice aa' an' ac', .int .i64 d.b.t.k, .int .i64 d.b.t.p, .string d.b.t.n, .int .i64 d.b.t.s, .slice ta' tn' tc', .slice ua' un' uc', .slice ka' kn' kc'] 80) HJJ.out)
      have HKF2 : Hid (KeepsFrom W.heap.size wo (wo.alloc (.cells #[.string d.n, .slice ma mn mc, .int .i64 d.b.k, .string d.b.c, .string d.b.x, .slice la' ln' lc', .slice aa' an' ac', .int .i64 d.b.t.k, .int .i64 d.b.t.p, .string d.b.t.n, .int .i64 d.b.t.s, .slice ta' tn' tc', .slice ua' un' uc', .slice ka' kn' kc'] 80))) := Lib.hid ((KeepsOthers.alloc _ _).from _)
      clear d0 d1 d2 d3 d4 d5 d6 d7 d8 d9 d10 d11 d12 d13 hms hval hmget hmlen hdj hda hpm hk2 b0 b1
      gi_loopw [23] (fun i wr => ∃ (k : Nat), i = .int .i64 (k : Int) ∧ k ≤ mn ∧ Hid (J (paramCnts (g.ds.take j) ++ d.pms.take k) wr) ∧ Hid (Kp X wo wr) ∧ Hid (KeepsFrom W.heap.size wo wr)) (fun i _ => mn - (intOf i).toNat)
      case atStart => exact ⟨0, rfl, by omega, Lib.hid (by simpa using HJ2.out), HK2, HKF2⟩
      case round =>
        obtain ⟨k, rfl, hk, HJ3, HK3, HKF3⟩ := hrel
        by_cases hlt2 : k < mn
        · obtain ⟨a, hak⟩ : ∃ a, d.ms[k]? = some a := ⟨_, List.getElem?_eq_getElem (by rw [← HML.out]; exact hlt2)⟩
          obtain ⟨pb, po, rfl, hpbS, hpbw, hpa, has, had⟩ := HPM.out k a hak
          obtain ⟨la3, ln3, lc3, ka3, kn3, kc3, ⟨q0, q1, q2, q3, q4, q5, q6⟩, htv⟩ := (hpa wr HK3.out).load'
          have hwr2 : wo.heap.size ≤ wr.heap.size := HK3.out.size
          have hyl : W.heap.size < wr.heap.size := by omega
          have hbx := blkBelow wr #[.string a.n, .int .i64 a.t.k, .int .i64 a.t.p, .string a.t.n, .int .i64 a.t.s, .slice la3 ln3 lc3, .slice ka3 kn3 kc3] 82
          have hlow2 : Low S wr := fun k hk => by have := HSL.out k hk; omega
          have HSz := Lib.hid (tsize_any S a.t (by omega) (by omega) _ _ (hlow2.le hbx.drew.size) (htv.to hlow2 hbx.drew))
          have HJ4 := Lib.hid (HJ.out.drew (HJ.out.alloc (.cells #[.string a.n, .int .i64 a.t.k, .int .i64 a.t.p, .string a.t.n, .int .i64 a.t.s, .slice la3 ln3 lc3, .slice ka3 kn3 kc3] 82) HJ3.out))
          have HBX := Lib.hid hbx.drew
          have HTK : Hid (d.pms.take (k + 1) = d.pms.take k ++ [a.t.size]) := Lib.hid (take_snoc_get (by unfold Df.pms; rw [List.getElem?_map, hak]; rfl))
          obtain ⟨_, yw⟩ := HC.out wr (HKV.out.trans HK3.out)
          obtain ⟨sz, hsz⟩ : ∃ sz, a.t.size = sz := ⟨_, rfl⟩
          rw [hsz] at HSz HTK has
          clear hpa htv hak hbx hsz had
          gi_wp2_with fail
          gi_region_with (first | (refine ⟨trivial, ?_⟩; gi_at_call 14; refine (callsIn_wide.2 HSz.out).mono ?_; rintro e w5 ⟨rfl, hb5⟩; obtain ⟨fn, tmps, assign, body, hy, hR⟩ := HY.out (n - 1) _ sz w5 (by omega) (HJ.out.below HJ4.out hb5); simp only [cnArgs] at hy; replace hR := Lib.hid hR; obtain ⟨hcl, hfz⟩ := bcell hb5; replace hb5 := Lib.hid hb5) | (refine ⟨fun h => (by cases h), ?_⟩; refine hR.out.mono ?_; rintro e w6 ⟨r, rfl, hcase, hkf⟩) | (refine hR.out.mono ?_; rintro e w6 ⟨r, rfl, hcase, hkf⟩))
          all_goals
            have hb35 := below_seq HBX.out hb5.out
            rcases hcase with ⟨rfl, hj6, hk6⟩ | ⟨rfl, hx6⟩
            · have HJ6 : Hid (J (paramCnts (g.ds.take j) ++ d.pms.take (k + 1)) w6) := Lib.hid (by rw [HTK.out, ← List.append_assoc]; exact hj6)
              have HK6 : Hid (Kp X wo w6) := Lib.hid ((HK3.out.trans (KV.of_below hb35)).trans hk6)
              have HKF6 : Hid (KeepsFrom W.heap.size wo w6) := Lib.hid (HKF3.out.trans (((keepsOthers_below hb35).from _).trans hkf))
              clear hj6 hk6 hkf hb35 hy hcl hfz
              gi_wp2_with fail
              exact ⟨⟨k + 1, by go_num, by omega, HJ6, HK6, HKF6⟩, by simp [intOf]; omega⟩
            · have HX6 : Hid (∃ pre, pre <+: g.cnts ∧ Jx pre w6) := Lib.hid ⟨_, (by
                rw [List.append_assoc, ← HTK.out]
                exact ((List.prefix_append_right_inj _).2 (List.take_prefix _ _)).trans HPX.out), hx6⟩
              clear hx6 hkf hb35 hy hcl hfz
              gi_wp2_with fail
              exact ⟨_, results_none rfl _ _ _, ⟨_, rfl⟩, .inr HX6.out⟩
        · obtain rfl : k = mn := by omega
          have HJ6 : Hid (J (paramCnts (g.ds.take (j + 1))) wr) := Lib.hid (by
            rw [HPJ.out]
            have h := HJ3.out
            have e : d.pms.take k = d.pms := List.take_of_length_le (by unfold Df.pms; rw [List.length_map, HML.out]; exact Nat.le_refl _)
            rwa [e] at h)
          have HK6 : Hid (Kp X W1 wr) := Lib.hid (HKV.out.trans HK3.out)
          have HKF6 : Hid (KeepsFrom W.heap.size W1 wr) := Lib.hid (HKF.out.trans HKF3.out)
          gi_wp2_with fail
          exact ⟨⟨j + 1, by go_num, by omega, HJ6, HK6, HKF6⟩, by simp [intOf]; omega⟩
    · obtain rfl : j = len := by omega
      have HJ7 : Hid (J (paramCnts g.ds) wo) := Lib.hid (by have h := HJJ.out; rwa [List.take_of_length_le (by rw [hlen.out]; exact Nat.le_refl _)] at h)
      have hwo : W.heap.size + 1 ≤ wo.heap.size := by have := HKV.out.size; omega
      have hlowo : Low S wo := fun k hk => by have := HSL.out k hk; omega
      have HBo := Lib.hid (bodies_any S g b o wo hlowo (HG.out wo HKV.out).1 (by have := HGood.out.1; omega))
      clear hlowo
      gi_wp2_with (refine ⟨trivial, ?_⟩; gi_at_call 91; refine (callsIn_wide.2 HBo.out).mono ?_; rintro e w5 ⟨r, cp, rfl, hrow, hr1, hr2, hb5⟩; replace hrow := Lib.hid hrow; replace hb5 := Lib.hid hb5)
      obtain ⟨nb, hnb⟩ : ∃ nb, g.bodies.length = nb := ⟨_, rfl⟩
      rw [hnb]
      have HNB := Lib.hid hnb
      have hnbb : nb ≤ 1001 := by rw [← hnb]; unfold Pg.bodies; have := HGood.out.1; simp; omega
      have hz5 := hb5.out.size
      have HJ8 : Hid (J (paramCnts g.ds) w5) := Lib.hid (HJ.out.below HJ7.out hb5.out)
      have HK8 : Hid (Kp X W1 w5) := Lib.hid (HKV.out.trans (KV.of_below hb5.out))
      have HF8 : Hid (KeepsFrom W.heap.size W1 w5) := Lib.hid (HKF.out.trans ((keepsOthers_below hb5.out).from _))
      have HBOD : Hid (∀ (i : Nat) (p : Pr) (A : World), g.bodies[i]? = some p → Kp X w5 A → ∃ kb ko, A.cell? ⟨r, i, none⟩ = some (.pointer (some ⟨kb, ko, none⟩)) ∧ PrAt S A p kb ko ∧ PGood p ∧ p.depth ≤ 99999) := Lib.hid (fun i p A hp hA => by
        obtain ⟨kb, ko, h1, h2⟩ := hrow.out i p hp
        have hr : Keeps (fun k => k = r) w5 A := hA.keeps (fun k hk => ⟨fun hx => by have := (HX.out k hx).2.2; omega, by simp [Value.ownBlock]⟩)
        have hgd := HGood.out.2.2 p (List.mem_of_getElem? hp)
        exact ⟨kb, ko, hr.cell rfl h1, PrAt.keep (HKS.out w5 A hA) _ _ _ h2, hgd.1, by have := hgd.2.1; omega⟩)
      clear hnb HBo hrow
      refine wpIn_loop (fun a' wr => ∃ (i : Nat) (Ds : List Nat) (v8 v39 v40 v41 v42 v43 v51 : Value), a' = { tmps := #[.func (.yield l) #[] #[], .pointer (some ⟨Bt, 0, none⟩), .pointer (some ⟨W.heap.size, 0, none⟩), undef, u4, undef, u6, undef, v8, undef, undef, .pointer (some ⟨b, o, none⟩), .pointer (some ⟨b, o, none⟩), .pointer (some ⟨b, o, none⟩), .slice pa j c, .int .i64 (j : Int), .int .i64 (j : Int), .bool false, u18, u19, u20, u21, u22, u23, u24, u25, u26, u27, u28, u29, u30, u31, u32, u33, u34, .pointer (some ⟨b, o, none⟩), .slice (some ⟨r, 0, none⟩) nb cp, .int .i64 (nb : Int), .int .i64 (i : Int), v39, v40, v41, v42, v43, undef, undef, undef, undef, undef, undef, undef, v51], defers := marks Ds } ∧ i ≤ nb ∧
          Hid (J (paramCnts g.ds ++ bodyCnts (g.bodies.take i)) wr) ∧ Hid (Kp X w5 wr) ∧ Hid (KeepsFrom W.heap.size w5 wr) ∧ Hid (Marked W.heap.size Ds wr)) (fun a' _ => nb - (intOf (a'.tmps.getD 38 undef)).toNat) ?_ ?_
      · exact ⟨0, [], undef, undef, undef, undef, undef, undef, undef, rfl, by omega, Lib.hid (by simpa [bodyCnts] using HJ8.out), Lib.hid (KV.refl _ _ _), Lib.hid (KeepsFrom.refl _ _), Lib.hid (Marked.nil _ _)⟩
      · rintro a' wr ⟨i, Ds, v8, v39, v40, v41, v42, v43, v51, rfl, hi, HJ9, HK9, HF9, HM9⟩
        by_cases hlt3 : i < nb
        · obtain ⟨p, hp⟩ : ∃ p, g.bodies[i]? = some p := ⟨_, List.getElem?_eq_getElem (by rw [HNB.out]; exact hlt3)⟩
          obtain ⟨kb, ko, hcell, hpr, hpg, hpd⟩ := HBOD.out i p wr hp HK9.out
          have hwr5 := HK9.out.size
          have HBT : Hid (bodyCnts (g.bodies.take (i + 1)) = bodyCnts (g.bodies.take i) ++ addsL (preP 1 p)) := Lib.hid (flatMap_take _ hp)
          have HPX : Hid (paramCnts g.ds ++ bodyCnts (g.bodies.take i) ++ addsL (preP 1 p) <+: g.cnts) := Lib.hid (by
            rw [List.append_assoc, ← HBT.out]; exact (List.prefix_append_right_inj _).2 (flatMap_prefix _ _ _))
          have hSwr : Low S wr := fun k hk => by have := HSL.out k hk; omega
          have hprx := hpr.keep ((blkBelow wr #[.pointer (some ⟨kb, ko, none⟩)] 86).keeps'.mono hSwr)
          have hcx : (wr.alloc (.cells #[.pointer (some ⟨kb, ko, none⟩)] 86)).cell? ⟨wr.heap.size, 0, none⟩ = some (.pointer (some ⟨kb, ko, none⟩)) := blk_cell (Below.refl _ _) 0 rfl
          have hJx := HJ.out.alloc (.cells #[.pointer (some ⟨kb, ko, none⟩)] 86) HJ9.out
          have hKx := HK9.out.trans (grown_box (X := X) wr (.cells #[.pointer (some ⟨kb, ko, none⟩)] 86))
          have hFx := HF9.out.trans ((KeepsOthers.alloc wr (.cells #[.pointer (some ⟨kb, ko, none⟩)] 86)).from W.heap.size)
          have hMx := HM9.out.keeps ((KeepsOthers.alloc wr (.cells #[.pointer (some ⟨kb, ko, none⟩)] 86)).from W.heap.size)
          have hs8 : (wr.alloc (.cells #[.pointer (some ⟨kb, ko, none⟩)] 86)).heap.size = wr.heap.size + 1 := by simp
          clear hp hpr
          gi_wp2_with (refine ⟨trivial, ?_⟩; gi_at_call 60; refine (callsIn_wide.2 (pnodes_any _ _)).mono ?_; rintro e w' ⟨rfl, rfl⟩)
          obtain ⟨W8, hW8⟩ : ∃ W8, wr.alloc (.cells #[.pointer (some ⟨kb, ko, none⟩)] 86) = W8 := ⟨_, rfl⟩
          rw [hW8] at hprx hcx hJx hKx hFx hMx hs8 ⊢
          clear hW8 hcell
          refine wpIn_range_told rfl hn (gf := 93) (lb := #[.pointer (some ⟨wr.heap.size, 0, none⟩)]) rfl trivial (enters_of Tryd.func93 (by kernel_rfl) rfl)
            (pnodes_tells PGood (fun _ h => h.ps) (n - 1) wr.heap.size kb ko p S X W8 (fun k hk => (HX.out k hk).1) (fun k hk => by have := HSL.out k hk; omega) (by omega) hcx hprx hpd hpg) (fun h g => KV.trans h g) (fun W l o o' _ h ho _ => KV.of_cells (by simp) (cellsKept_put h ho)) (fun x A B h hp => Pp.kept h hp) (Below.refl _ _) (fun _ => rfl)
            (fun pre V => J (paramCnts g.ds ++ bodyCnts (g.bodies.take i) ++ addsL (pre.map Np.g)) V ∧ (Kp X W8 V ∧ KeepsFrom W.heap.size W8 V))
            (fun c pre V => c = .ret ∧ (Jx (paramCnts g.ds ++ bodyCnts (g.bodies.take i) ++ addsL (pre.map Np.g)) V ∧ KeepsFrom W.heap.size W8 V))
            ((abides_of HJ.out (by omega) _).and ((abides_kp _ _).and (abides_from _ _))) (fun c => (abidesAll_pure _ _).and ((abides_of HJX.out (by omega) _).and (abides_from _ _)))
            ⟨by simpa [addsL] using hJx, KV.refl _ _ _, KeepsFrom.refl _ _⟩
            (fun x a' _ => a' = { tmps := #[.func (.yield l) #[] #[], .pointer (some ⟨Bt, 0, none⟩), .pointer (some ⟨W.heap.size, 0, none⟩), undef, u4, undef, u6, undef, .pointer (some ⟨kb, ko, none⟩), undef, .pointer (some ⟨x.b, x.o, none⟩), .pointer (some ⟨b, o, none⟩), .pointer (some ⟨b, o, none⟩), .pointer (some ⟨b, o, none⟩), .slice pa j c, .int .i64 (j : Int), .int .i64 (j : Int), .bool false, u18, u19, u20, u21, u22, u23, u24, u25, u26, u27, u28, u29, u30, u31, u32, u33, u34, .pointer (some ⟨b, o, none⟩), .slice (some ⟨r, 0, none⟩) nb cp, .int .i64 (nb : Int), .int .i64 (i : Int), .bool true, .pointer (some ⟨r, i, none⟩), .pointer (some ⟨kb, ko, none⟩), .pointer (some ⟨kb, ko, none⟩), .func (.func 93) #[] #[.pointer (some ⟨wr.heap.size, 0, none⟩)], .int .i64 (x.d : Int), .pointer (some ⟨x.b, x.o, none⟩), undef, undef, undef, undef, undef, v51], defers := [] })
            (fun _ _ _ _ _ h => h) ?assign ?body ?done ?stop
          case assign =>
            intro l' pre x V K hi' hp' hK
            simp only [npArgs]
            gi_wp2
            exact hK _ _ (KeepsFrom.refl _ _) (KV.refl _ _ _) hi' hp' (by simp)
          case body =>
            rintro l' pre x a' V hl' _ ⟨hJv, hKv, hFv⟩ hpx rfl
            have hKV1 : Kp X W1 V := HK8.out.trans (hKx.trans hKv)
            obtain ⟨_, yv⟩ := HC.out V hKV1
            have hVs : W8.heap.size ≤ V.heap.size := hKv.size
            have hlowV : Low S V := fun k hk => by have := HSL.out k hk; omega
            have hyl : W.heap.size < V.heap.size := by omega
            have HNA := Lib.hid (nodesAt_any S x.p x.b x.o V.drew hlowV (by have := Pr.tf_size hpx.2.2.2; omega) (by have := Pr.tf_depth hpx.2.2.2; omega) (hpx.1.keep ((Below.refl V.heap.size V).drew.keeps'.mono hlowV)))
            have HJV := Lib.hid (HJ.out.drew hJv)
            have HAS : Hid (addsL ((pre ++ [x]).map Np.g) = addsL (pre.map Np.g) ++ [x.p.adds]) := Lib.hid (addsL_snoc pre x)
            have hszl : x.p.adds ≤ 1000 := by
              have := Pr.tf_size hpx.2.2.2
              rw [Pr.adds_eq]; unfold Pr.typ0; split <;> omega
            obtain ⟨sz, hsz⟩ : ∃ sz, x.p.adds = sz := ⟨_, rfl⟩
            rw [hsz] at HNA HAS hszl
            have HKVV := Lib.hid hKv
            have HFVV := Lib.hid hFv
            clear hsz hJv hKv hFv hpx hKV1 hprx hcx hJx hKx hFx hMx hlowV
            gi_wp2_with fail
            gi_region_with (first | (refine ⟨trivial, ⟨fun h => (by cases h), ?_⟩⟩; refine (CallsIn.inRound l' (callsIn_wide.2 HNA.out)).mono ?_; rintro e w6 ⟨rfl, hb6⟩; obtain ⟨fn, tmps, assign, body, hy, hR⟩ := HY.out (n - 1 - 1 - 1) _ sz w6 hszl (HJ.out.below HJV.out hb6); simp only [cnArgs] at hy; replace hR := Lib.hid hR; have yv6 : w6.cell? ⟨W.heap.size, 0, none⟩ = some (.func (.yield l) #[] #[]) := (hb6.cell (p := ⟨W.heap.size, 0, none⟩) hyl).trans yv; replace hb6 := Lib.hid hb6) | (refine ⟨fun h => (by cases h), ?_⟩; refine hR.out.mono ?_; rintro e w7 ⟨rr, rfl, hcase, hkf⟩) | (refine hR.out.mono ?_; rintro e w7 ⟨rr, rfl, hcase, hkf⟩))
            all_goals
              have hbV6 : Below V.heap.size V w6 := ((Below.refl V.heap.size V).drew).trans hb6.out
              have hkf6 := ((keepsOthers_below hbV6).from W.heap.size).trans hkf
              rcases hcase with ⟨rfl, hj7, hk7⟩ | ⟨rfl, hx7⟩
              · have hkp7 : Kp X V w7 := (KV.of_below hbV6).trans hk7
                have HX7 := Lib.hid (And.intro hj7 (And.intro hkp7 hkf6))
                clear hj7 hk7 hkp7 hkf6 hkf hbV6 hy yv6 yv
                gi_wp2_with fail
                obtain ⟨h1, h2, h3⟩ := HX7.out
                refine ⟨h3.le (by omega), h2, by rw [HAS.out, ← List.append_assoc]; exact h1, HKVV.out.trans h2, HFVV.out.trans h3⟩
              · have HX7 := Lib.hid (And.intro hx7 hkf6)
                clear hx7 hkf6 hkf hbV6 hy yv6 yv
                gi_wp2_with fail
                obtain ⟨h1, h3⟩ := HX7.out
                refine ⟨h3.le (by omega), rfl, by rw [HAS.out, ← List.append_assoc]; exact h1, HFVV.out.trans h3⟩
          case done =>
            rintro D xs V hD hxs ⟨hJv, hKv, hFv⟩ hK
            have HJV : Hid (J (paramCnts g.ds ++ bodyCnts (g.bodies.take (i + 1))) V) := Lib.hid (by rw [HBT.out, ← List.append_assoc, ← hxs]; exact hJv)
            have HKV9 : Hid (Kp X w5 V) := Lib.hid (hKx.trans hKv)
            have HFV9 : Hid (KeepsFrom W.heap.size w5 V) := Lib.hid (hFx.trans hFv)
            have HMV9 : Hid (Marked W.heap.size (D :: Ds) V) := Lib.hid ((hMx.keeps hFv).cons (fun hDs => by
              have := (Array.getElem?_eq_some_iff.1 (hMx.2 D hDs).2).1; omega) (by omega) hK)
            clear hJv hKv hFv hxs hK hprx hcx hJx hKx hFx hMx
            gi_wp2_with fail
            have hcast : ((i + 1 : Nat) : Int) = (i : Int) + 1 := by omega
            exact ⟨⟨i + 1, D :: Ds, _, _, _, _, _, _, _, by rw [hcast]; rfl, by omega, HJV, HKV9, HFV9, HMV9⟩, by simp [intOf]; omega⟩
          case stop =>
            rintro D cc pre V hD hpre ⟨rfl, hJv, hFv⟩ hK
            have HMV9 : Hid (Marked W.heap.size (D :: Ds) V) := Lib.hid ((hMx.keeps hFv).cons (fun hDs => by
              have := (Array.getElem?_eq_some_iff.1 (hMx.2 D hDs).2).1; omega) (by omega) hK)
            have HPP : Hid (paramCnts g.ds ++ bodyCnts (g.bodies.take i) ++ addsL (pre.map Np.g) <+: g.cnts) := Lib.hid (((List.prefix_append_right_inj _).2 (addsL_prefix hpre)).trans HPX.out)
            have HJV := Lib.hid hJv
            clear hJv hFv hpre hK hprx hcx hJx hKx hFx hMx
            gi_wp2_with fail
            refine leaves_marked (lo := W.heap.size) (J := fun A => Jx (paramCnts g.ds ++ bodyCnts (g.bodies.take i) ++ addsL (pre.map Np.g)) A) (fun A D o h hD => HJX.out.put o h hD) (fun A h => ⟨_, results_none rfl _ _ _, ⟨_, rfl⟩, .inr ⟨_, HPP.out, h⟩⟩) (D :: Ds) V HJV.out HMV9.out
        · obtain rfl : i = nb := by omega
          have HJV : Hid (J g.cnts wr) := Lib.hid (by
            have h := HJ9.out
            have e : g.bodies.take i = g.bodies := List.take_of_length_le (by rw [HNB.out]; exact Nat.le_refl _)
            rwa [e] at h)
          gi_wp2_with fail
          refine leaves_marked (lo := W.heap.size) (J := fun A => J g.cnts A) (fun A D o h hD => HJ.out.put o h hD) (fun A h => ⟨_, results_none rfl _ _ _, ⟨_, rfl⟩, .inl ⟨_, rfl, h⟩⟩) Ds wr HJV.out HM9.out

end Go.Proofs.YtipjjhkgcbabnaaDoor

/- Programs: sameness, by the program. -/
namespace Go.Proofs.YtipjjhkgcbabnaaDoor
open Go.RowKit Go.Deep Go.Shelf

abbrev cell13 (g : Pg) (dv lv av tl tk kv : Value) : Obj := .cells #[dv, .int .i64 g.m.k, .string g.m.c, .string g.m.x, lv, av, .int .i64 g.m.t.k, .int .i64 g.m.t.p, .string g.m.t.n, .int .i64 g.m.t.s, tl, tk, kv] 39
abbrev pgAgg (g : Pg) (dv lv av tl tk kv : Value) : Value := .agg #[dv, .int .i64 g.m.k, .string g.m.c, .string g.m.x, lv, av, .int .i64 g.m.t.k, .int .i64 g.m.t.p, .string g.m.t.n, .int .i64 g.m.t.s, tl, tk, kv]
/-- A program in a box of its own. -/
theorem boxed_pgAt {B S : Nat → Prop} {w W : World} {g : Pg} {dv lv av tl tk kv : Value} (hB : Low B w) (hd : DfSl B w dv g.ds) (hv : PrVal B w (prAgg g.m lv av tl tk kv) g.m) (hb : Below (w.heap.size + 1) (w.alloc (cell13 g dv lv av tl tk kv)) W) (hBS : ∀ k, B k → S k) (hS : S w.heap.size) : PgAt S W g w.heap.size 0 := by
  have hc : ∀ (j : Nat) (v : Value), #[dv, .int .i64 g.m.k, .string g.m.c, .string g.m.x, lv, av, .int .i64 g.m.t.k, .int .i64 g.m.t.p, .string g.m.t.n, .int .i64 g.m.t.s, tl, tk, kv][j]? = some v → W.cell? ⟨w.heap.size, j, none⟩ = some v := fun j v hj => blk_cell hb j hj
  refine ⟨hS, ⟨dv, hc 0 _ rfl, (hd.keep ((blk_below hb).keeps'.mono hB)).mono hBS⟩, prAt_of hS (hc 1 _ rfl) (hc 2 _ rfl) (hc 3 _ rfl) (hc 4 _ rfl) (hc 5 _ rfl) (hc 6 _ rfl) (hc 7 _ rfl) (hc 8 _ rfl) (hc 9 _ rfl) (hc 10 _ rfl) (hc 11 _ rfl) (hc 12 _ rfl) ?_⟩
  exact (hv.to hB (blk_below hb)).mono hBS

noncomputable def eqM (a a' : Pm) : Bool := decide (a.n = a'.n) && eqB a.t a'.t
theorem eqM_true {a a' : Pm} : eqM a a' = true ↔ a = a' := by
  unfold eqM; rw [Bool.and_eq_true, decide_eq_true_eq, eqB_true]; cases a; cases a'; simp
noncomputable def eqMs (p q : List Pm) : Bool := @decide (p = q) (Classical.propDecidable _)
theorem eqMs_true {p q : List Pm} : eqMs p q = true ↔ p = q := by unfold eqMs; simp
theorem eqMs_ne {p q : List Pm} (h : p ≠ q) : eqMs p q = false := by
  cases e : eqMs p q with
  | false => rfl
  | true => exact absurd (eqMs_true.1 e) h
noncomputable def eqD (a a' : Df) : Bool := decide (a.n = a'.n) && (eqMs a.ms a'.ms && eqP a.b a'.b)
theorem eqD_true {a a' : Df} : eqD a a' = true ↔ a = a' := by
  unfold eqD; rw [Bool.and_eq_true, Bool.and_eq_true, decide_eq_true_eq, eqMs_true, eqP_true]; cases a; cases a'; simp
noncomputable def eqDs (p q : List Df) : Bool := @decide (p = q) (Classical.propDecidable _)
theorem eqDs_true {p q : List Df} : eqDs p q = true ↔ p = q := by unfold eqDs; simp
theorem eqDs_ne {p q : List Df} (h : p ≠ q) : eqDs p q = false := by
  cases e : eqDs p q with
  | false => rfl
  | true => exact absurd (eqDs_true.1 e) h
noncomputable def eqG (a a' : Pg) : Bool := eqDs a.ds a'.ds && eqP a.m a'.m
theorem eqG_true {a a' : Pg} : eqG a a' = true ↔ a = a' := by
  unfold eqG; rw [Bool.and_eq_true, eqDs_true, eqP_true]; cases a; cases a'; simp
theorem eqG_self (g : Pg) : eqG g g = true := eqG_true.2 rfl
theorem eqM_ne {a a' : Pm} (h : a ≠ a') : eqM a a' = false := by
  cases e : eqM a a' with
  | false => rfl
  | true => exact absurd (eqM_true.1 e) h
theorem eqD_ne {a a' : Df} (h : a ≠ a') : eqD a a' = false := by
  cases e : eqD a a' with
  | false => rfl
  | true => exact absurd (eqD_true.1 e) h

set_option maxHeartbeats 2000000 in
set_option maxRecDepth 100000 in
theorem sameParam_any (B : Nat → Prop) (a a' : Pm) (b o b' o' : Nat) (w : World) (hB : Low B w) (hbB : B b) (hbB' : B b') (h : PmAt B w a b o) (h' : PmAt B w a' b' o') :
    Calls Tryd.prog 100 #[.pointer (some ⟨b, o, none⟩), .pointer (some ⟨b', o', none⟩)] w fun e w' => e = .returned (.bool (eqM a a')) ∧ Below w.heap.size w w' := by
  obtain ⟨_, c0, hty⟩ := h
  obtain ⟨_, c0', hty'⟩ := h'
  obtain ⟨la, ln, lc, ka, kn, kc, ⟨d0, d1, d2, d3, d4, d5⟩, hv⟩ := hty.load'
  obtain ⟨la', ln', lc', ka', kn', kc', ⟨d0', d1', d2', d3', d4', d5'⟩, hv'⟩ := hty'.load'
  have hb := hB b hbB
  have hb' := hB b' hbB'
  have lift : ∀ {v : Value} {x : Nat}, w.cell? ⟨b, x, none⟩ = some v → ∀ W, Below w.heap.size w W → W.cell? ⟨b, x, none⟩ = some v := fun h W hW => (hW.cell (p := ⟨b, _, none⟩) hb).trans h
  have lift' : ∀ {v : Value} {x : Nat}, w.cell? ⟨b', x, none⟩ = some v → ∀ W, Below w.heap.size w W → W.cell? ⟨b', x, none⟩ = some v := fun h W hW => (hW.cell (p := ⟨b', _, none⟩) hb').trans h
  obtain ⟨bt, hbt⟩ : ∃ x, eqB a.t a'.t = x := ⟨_, rfl⟩
  have HY : Hid (∀ W, Below w.heap.size w W → Calls Tryd.prog 18 #[.agg #[.int .i64 a.t.k, .int .i64 a.t.p, .string a.t.n, .int .i64 a.t.s, .slice la ln lc, .slice ka kn kc], .agg #[.int .i64 a'.t.k, .int .i64 a'.t.p, .string a'.t.n, .int .i64 a'.t.s, .slice la' ln' lc', .slice ka' kn' kc']] W fun e w' => e = .returned (.bool bt) ∧ Below W.heap.size W w') := Lib.hid (fun W hW => by
    rw [← hbt]; exact tsame_any B a.t a'.t _ _ W (hB.le hW.size) (hv.keep (hW.keeps'.mono hB)) (hv'.keep (hW.keeps'.mono hB)))
  have HEQ : Hid (eqM a a' = (decide (a.n = a'.n) && bt)) := Lib.hid (by unfold eqM; rw [hbt])
  rw [HEQ.out]
  obtain ⟨n, hn⟩ : ∃ n, a.n = n := ⟨_, rfl⟩
  obtain ⟨n', hn'⟩ : ∃ n, a'.n = n := ⟨_, rfl⟩
  rw [hn] at c0
  rw [hn'] at c0'
  rw [hn, hn']
  have e0 := fun q : Later w.heap.size w => lift c0 q.1 q.2
  have e0' := fun q : Later w.heap.size w => lift' c0' q.1 q.2
  have e1 : ∀ q : Later w.heap.size w, q.1.cell? ⟨b, o + 1, none⟩ = some (.int .i64 a.t.k) := fun q => lift d0 q.1 q.2
  have e1' : ∀ q : Later w.heap.size w, q.1.cell? ⟨b', o' + 1, none⟩ = some (.int .i64 a'.t.k) := fun q => lift' d0' q.1 q.2
  have e2 : ∀ q : Later w.heap.size w, q.1.cell? ⟨b, o + 2, none⟩ = some (.int .i64 a.t.p) := fun q => lift d1 q.1 q.2
  have e2' : ∀ q : Later w.heap.size w, q.1.cell? ⟨b', o' + 2, none⟩ = some (.int .i64 a'.t.p) := fun q => lift' d1' q.1 q.2
  have e3 : ∀ q : Later w.heap.size w, q.1.cell? ⟨b, o + 3, none⟩ = some (.string a.t.n) := fun q => lift d2 q.1 q.2
  have e3' : ∀ q : Later w.heap.size w, q.1.cell? ⟨b', o' + 3, none⟩ = some (.string a'.t.n) := fun q => lift' d2' q.1 q.2
  have e4 : ∀ q : Later w.heap.size w, q.1.cell? ⟨b, o + 4, none⟩ = some (.int .i64 a.t.s) := fun q => lift d3 q.1 q.2
  have e4' : ∀ q : Later w.heap.size w, q.1.cell? ⟨b', o' + 4, none⟩ = some (.int .i64 a'.t.s) := fun q => lift' d3' q.1 q.2
  have e5 : ∀ q : Later w.heap.size w, q.1.cell? ⟨b, o + 5, none⟩ = some (.slice la ln lc) := fun q => lift d4 q.1 q.2
  have e5' : ∀ q : Later w.heap.size w, q.1.cell? ⟨b', o' + 5, none⟩ = some (.slice la' ln' lc') := fun q => lift' d4' q.1 q.2
  have e6 : ∀ q : Later w.heap.size w, q.1.cell? ⟨b, o + 6, none⟩ = some (.slice ka kn kc) := fun q => lift d5 q.1 q.2
  have e6' : ∀ q : Later w.heap.size w, q.1.cell? ⟨b', o' + 6, none⟩ = some (.slice ka' kn' kc') := fun q => lift' d5' q.1 q.2
  clear hn hn' HEQ hbt hv hv' hty hty' lift lift' c0 c0' d0 d0' d1 d1' d2 d2' d3 d3' d4 d4' d5 d5'
  by_cases h1 : n = n'
  · subst h1
    rw [show decide (n = n) = true by simp, Bool.true_and]
    go_enter Tryd.func100, Tryd.ntmps100
    go_wp2_with fail
    refine wp_region_later w.heap.size w (by kernel_rfl) (by kernel_rfl) (Below.refl _ _) ?_
    repeat (go_big_quiet_step ((go_at_call 18; exact later_call _ (Nat.le_refl _) (HY.out _ (Subtype.property _)))))
    refine wpQuiet_nil ?_
    rintro _ ⟨⟨w5, hb5⟩, rfl⟩
    clear e0 e0' e1 e1' e2 e2' e3 e3' e4 e4' e5 e5' e6 e6'
    go_wp2_with fail
    go_ret
    exact ⟨rfl, hb5⟩
  · have h1' := str_ne h1
    have h1e : (n.toList == n'.toList) = false := by simpa using h1'
    rw [show decide (n = n') = false by simpa using h1, Bool.false_and]
    clear h1
    go_enter Tryd.func100, Tryd.ntmps100
    go_wp2_with fail
    refine wp_region_later w.heap.size w (by kernel_rfl) (by kernel_rfl) (Below.refl _ _) ?_
    repeat (go_big_quiet_step ((go_at_call 18; exact later_call _ (Nat.le_refl _) (HY.out _ (Subtype.property _)))))
    refine wpQuiet_nil ?_
    rintro _ ⟨⟨w5, hb5⟩, rfl⟩
    clear e0 e0' e1 e1' e2 e2' e3 e3' e4 e4' e5 e5' e6 e6'
    go_wp2_with fail
    go_ret
    exact ⟨rfl, hb5⟩

set_option maxHeartbeats 2000000 in
set_option maxRecDepth 100000 in
/-- sameLists, at other lists. -/
theorem psameMs_any (B : Nat → Prop) (kv kv' : Value) (ps ps' : List Pm) (w : World) (hB : Low B w) (hk : PmSl B w kv ps) (hk' : PmSl B w kv' ps') :
    Calls Tryd.prog 99 #[kv, kv', .func (.func 100) #[] #[]] w fun e w' => e = .returned (.bool (eqMs ps ps')) ∧ Below w.heap.size w w' := by
  obtain ⟨pa, len, c, rfl, hlen, hm, hget⟩ := hk.open
  obtain ⟨pa', len', c', rfl, hlen', hm', hget'⟩ := hk'.open
  have HG := Lib.hid hget
  have HG' := Lib.hid hget'
  clear hget hget' hk hk'
  by_cases hl : len = len'
  · subst hl
    go_enter Tryd.func99, Tryd.ntmps99
    go_wp2_with fail
    go_loopw [15] (fun i wr => ∃ (j : Nat), i = .int .i64 j ∧ j ≤ len ∧ Hid (ps.take j = ps'.take j) ∧ Below w.heap.size w wr) (fun i _ => len - (intOf i).toNat)
    case atStart => exact ⟨0, rfl, by omega, Lib.hid (by simp), Below.refl _ _⟩
    case round =>
      obtain ⟨j, rfl, hj, HT, hw⟩ := hrel
      by_cases hlt : j < len
      · obtain ⟨t, ht⟩ : ∃ t, ps[j]? = some t := ⟨_, List.getElem?_eq_getElem (by rw [← hlen.out]; exact hlt)⟩
        obtain ⟨t', ht'⟩ : ∃ t', ps'[j]? = some t' := ⟨_, List.getElem?_eq_getElem (by rw [← hlen'.out]; exact hlt)⟩
        obtain ⟨kb, ko, rfl, hkb, hty⟩ := HG.out j t ht
        obtain ⟨kb', ko', rfl, hkb', hty'⟩ := HG'.out j t' ht'
        have IH : Hid (∀ W, Below w.heap.size w W → Calls Tryd.prog 100 #[.pointer (some ⟨kb, ko + j * 7, none⟩), .pointer (some ⟨kb', ko' + j * 7, none⟩)] W fun e w' => e = .returned (.bool (eqM t t')) ∧ Below W.heap.size W w') :=
          Lib.hid (fun W hW => sameParam_any B t t' _ _ _ _ W (hB.le hW.size) hkb hkb' (PmAt.keep (hW.keeps'.mono hB) hkb hty) (PmAt.keep (hW.keeps'.mono hB) hkb' hty'))
        by_cases htt : t = t'
        · rw [eqM_true.2 htt] at IH
          have hn : Hid (ps.take (j + 1) = ps'.take (j + 1)) := Lib.hid (by rw [take_snoc_get ht, take_snoc_get ht', HT.out, htt])
          clear ht ht' htt hty hty'
          go_wp2_with fail
          refine wp_region_later wr.heap.size wr (by kernel_rfl) (by kernel_rfl) (Below.refl _ _) ?_
          repeat (go_big_quiet_step ((go_at_call 100; exact later_call _ (Nat.le_refl _) (IH.out _ (hw.trans (Below.mono (Subtype.property _) hw.size))))))
          refine wpQuiet_nil ?_
          rintro _ ⟨⟨w5, hb5⟩, rfl⟩
          go_wp2_with fail
          go_roundw
          case rel => exact ⟨j + 1, by go_num, by omega, hn, below_seq hw hb5⟩
          case measure => simp [intOf]; omega
        · rw [eqM_ne htt] at IH
          have hne : Hid (ps ≠ ps') := Lib.hid (fun e => htt (by rw [e, ht'] at ht; exact (Option.some.inj ht).symm))
          clear ht ht' htt hty hty'
          go_wp2_with fail
          refine wp_region_later wr.heap.size wr (by kernel_rfl) (by kernel_rfl) (Below.refl _ _) ?_
          repeat (go_big_quiet_step ((go_at_call 100; exact later_call _ (Nat.le_refl _) (IH.out _ (hw.trans (Below.mono (Subtype.property _) hw.size))))))
          refine wpQuiet_nil ?_
          rintro _ ⟨⟨w5, hb5⟩, rfl⟩
          go_wp2_with fail
          go_ret
          exact ⟨ret_bool (eqMs_ne hne.out).symm, below_seq hw hb5⟩
      · obtain rfl : j = len := by omega
        go_wp2_with fail
        go_ret
        refine ⟨ret_bool ?_, hw⟩
        rw [eqMs_true.2 (lists_eq hlen.out hlen'.out HT.out)]
  · have hl' : (len != len') = true := by simpa using hl
    have hne : ps ≠ ps' := fun e => hl (by rw [hlen.out, hlen'.out, e])
    have HN := Lib.hid hne
    clear hne
    go_enter Tryd.func99, Tryd.ntmps99
    go_wp2_with fail
    go_ret
    exact ⟨ret_bool (eqMs_ne HN.out).symm, Below.refl _ _⟩



set_option maxHeartbeats 2000000 in
set_option maxRecDepth 100000 in
theorem sameDef_any (B : Nat → Prop) (a a' : Df) (b o b' o' : Nat) (w : World) (hB : Low B w) (hbB : B b) (hbB' : B b') (h : DfAt B w a b o) (h' : DfAt B w a' b' o') :
    Calls Tryd.prog 65 #[.pointer (some ⟨b, o, none⟩), .pointer (some ⟨b', o', none⟩)] w fun e w' => e = .returned (.bool (eqD a a')) ∧ Below w.heap.size w w' := by
  obtain ⟨_, c0, ⟨mv, c1, hm⟩, hp⟩ := h
  obtain ⟨_, c0', ⟨mv', c1', hm'⟩, hp'⟩ := h'
  obtain ⟨ma, mn, mc, rfl, _⟩ := hm.open
  obtain ⟨ma', mn', mc', rfl, _⟩ := hm'.open
  have hb := hB b hbB
  have hb' := hB b' hbB'
  have lift : ∀ {v : Value} {x : Nat}, w.cell? ⟨b, x, none⟩ = some v → ∀ W, Below w.heap.size w W → W.cell? ⟨b, x, none⟩ = some v := fun h W hW => (hW.cell (p := ⟨b, _, none⟩) hb).trans h
  have lift' : ∀ {v : Value} {x : Nat}, w.cell? ⟨b', x, none⟩ = some v → ∀ W, Below w.heap.size w W → W.cell? ⟨b', x, none⟩ = some v := fun h W hW => (hW.cell (p := ⟨b', _, none⟩) hb').trans h
  obtain ⟨b1, hb1⟩ : ∃ x, eqMs a.ms a'.ms = x := ⟨_, rfl⟩
  obtain ⟨b2, hb2⟩ : ∃ x, eqP a.b a'.b = x := ⟨_, rfl⟩
  have HM : Hid (∀ W, Below w.heap.size w W → Calls Tryd.prog 99 #[.slice ma mn mc, .slice ma' mn' mc', .func (.func 100) #[] #[]] W fun e w' => e = .returned (.bool b1) ∧ Below W.heap.size W w') := Lib.hid (fun W hW => by
    rw [← hb1]; exact psameMs_any B _ _ a.ms a'.ms W (hB.le hW.size) (hm.keep (hW.keeps'.mono hB)) (hm'.keep (hW.keeps'.mono hB)))
  have HP : Hid (∀ W, Below w.heap.size w W → Calls Tryd.prog 63 #[.pointer (some ⟨b, o + 2, none⟩), .pointer (some ⟨b', o' + 2, none⟩)] W fun e w' => e = .returned (.bool b2) ∧ Below W.heap.size W w') := Lib.hid (fun W hW => by
    rw [← hb2]; exact psameP_any B a.b a'.b _ _ _ _ W (hB.le hW.size) (PrAt.keep (hW.keeps'.mono hB) _ _ _ hp) (PrAt.keep (hW.keeps'.mono hB) _ _ _ hp'))
  have HEQ : Hid (eqD a a' = (decide (a.n = a'.n) && (b1 && b2))) := Lib.hid (by unfold eqD; rw [hb1, hb2])
  rw [HEQ.out]
  obtain ⟨n, hn⟩ : ∃ n, a.n = n := ⟨_, rfl⟩
  obtain ⟨n', hn'⟩ : ∃ n, a'.n = n := ⟨_, rfl⟩
  rw [hn] at c0
  rw [hn'] at c0'
  rw [hn, hn']
  have e0 := fun q : Later w.heap.size w => lift c0 q.1 q.2
  have e0' := fun q : Later w.heap.size w => lift' c0' q.1 q.2
  have e1 := fun q : Later w.heap.size w => lift c1 q.1 q.2
  have e1' := fun q : Later w.heap.size w => lift' c1' q.1 q.2
  clear hn hn' HEQ hb1 hb2 hm hm' hp hp' lift lift' c0 c0' c1 c1'
  by_cases h1 : n = n'
  · subst h1
    rw [show decide (n = n) = true by simp, Bool.true_and]
    cases b1
    all_goals
      (try rw [Bool.false_and]); (try rw [Bool.true_and])
      go_enter Tryd.func65, Tryd.ntmps65
      go_wp2_with fail
      refine wp_region_later w.heap.size w (by kernel_rfl) (by kernel_rfl) (Below.refl _ _) ?_
      repeat (go_big_quiet_step (first | (go_at_call 99; exact later_call _ (Nat.le_refl _) (HM.out _ (Subtype.property _))) | (go_at_call 63; exact later_call _ (Nat.le_refl _) (HP.out _ (Subtype.property _)))))
      refine wpQuiet_nil ?_
      rintro _ ⟨⟨w5, hb5⟩, rfl⟩
      clear e0 e0' e1 e1'
      go_wp2_with fail
      go_ret
      exact ⟨rfl, hb5⟩
  · have h1' := str_ne h1
    have h1e : (n.toList == n'.toList) = false := by simpa using h1'
    rw [show decide (n = n') = false by simpa using h1, Bool.false_and]
    clear h1
    go_enter Tryd.func65, Tryd.ntmps65
    go_wp2_with fail
    refine wp_region_later w.heap.size w (by kernel_rfl) (by kernel_rfl) (Below.refl _ _) ?_
    repeat (go_big_quiet_step (first | (go_at_call 99; exact later_call _ (Nat.le_refl _) (HM.out _ (Subtype.property _))) | (go_at_call 63; exact later_call _ (Nat.le_refl _) (HP.out _ (Subtype.property _)))))
    refine wpQuiet_nil ?_
    rintro _ ⟨⟨w5, hb5⟩, rfl⟩
    clear e0 e0' e1 e1'
    go_wp2_with fail
    go_ret
    exact ⟨rfl, hb5⟩

set_option maxHeartbeats 2000000 in
set_option maxRecDepth 100000 in
/-- sameLists, at other lists. -/
theorem psameDs_any (B : Nat → Prop) (kv kv' : Value) (ps ps' : List Df) (w : World) (hB : Low B w) (hk : DfSl B w kv ps) (hk' : DfSl B w kv' ps') :
    Calls Tryd.prog 64 #[kv, kv', .func (.func 65) #[] #[]] w fun e w' => e = .returned (.bool (eqDs ps ps')) ∧ Below w.heap.size w w' := by
  obtain ⟨pa, len, c, rfl, hlen, hm, hget⟩ := hk.open
  obtain ⟨pa', len', c', rfl, hlen', hm', hget'⟩ := hk'.open
  have HG := Lib.hid hget
  have HG' := Lib.hid hget'
  clear hget hget' hk hk'
  by_cases hl : len = len'
  · subst hl
    go_enter Tryd.func64, Tryd.ntmps64
    go_wp2_with fail
    go_loopw [15] (fun i wr => ∃ (j : Nat), i = .int .i64 j ∧ j ≤ len ∧ Hid (ps.take j = ps'.take j) ∧ Below w.heap.size w wr) (fun i _ => len - (intOf i).toNat)
    case atStart => exact ⟨0, rfl, by omega, Lib.hid (by simp), Below.refl _ _⟩
    case round =>
      obtain ⟨j, rfl, hj, HT, hw⟩ := hrel
      by_cases hlt : j < len
      · obtain ⟨t, ht⟩ : ∃ t, ps[j]? = some t := ⟨_, List.getElem?_eq_getElem (by rw [← hlen.out]; exact hlt)⟩
        obtain ⟨t', ht'⟩ : ∃ t', ps'[j]? = some t' := ⟨_, List.getElem?_eq_getElem (by rw [← hlen'.out]; exact hlt)⟩
        obtain ⟨kb, ko, rfl, hkb, hty⟩ := HG.out j t ht
        obtain ⟨kb', ko', rfl, hkb', hty'⟩ := HG'.out j t' ht'
        have IH : Hid (∀ W, Below w.heap.size w W → Calls Tryd.prog 65 #[.pointer (some ⟨kb, ko + j * 14, none⟩), .pointer (some ⟨kb', ko' + j * 14, none⟩)] W fun e w' => e = .returned (.bool (eqD t t')) ∧ Below W.heap.size W w') :=
          Lib.hid (fun W hW => sameDef_any B t t' _ _ _ _ W (hB.le hW.size) hkb hkb' (DfAt.keep (hW.keeps'.mono hB) hkb hty) (DfAt.keep (hW.keeps'.mono hB) hkb' hty'))
        by_cases htt : t = t'
        · rw [eqD_true.2 htt] at IH
          have hn : Hid (ps.take (j + 1) = ps'.take (j + 1)) := Lib.hid (by rw [take_snoc_get ht, take_snoc_get ht', HT.out, htt])
          clear ht ht' htt hty hty'
          go_wp2_with fail
          refine wp_region_later wr.heap.size wr (by kernel_rfl) (by kernel_rfl) (Below.refl _ _) ?_
          repeat (go_big_quiet_step ((go_at_call 65; exact later_call _ (Nat.le_refl _) (IH.out _ (hw.trans (Below.mono (Subtype.property _) hw.size))))))
          refine wpQuiet_nil ?_
          rintro _ ⟨⟨w5, hb5⟩, rfl⟩
          go_wp2_with fail
          go_roundw
          case rel => exact ⟨j + 1, by go_num, by omega, hn, below_seq hw hb5⟩
          case measure => simp [intOf]; omega
        · rw [eqD_ne htt] at IH
          have hne : Hid (ps ≠ ps') := Lib.hid (fun e => htt (by rw [e, ht'] at ht; exact (Option.some.inj ht).symm))
          clear ht ht' htt hty hty'
          go_wp2_with fail
          refine wp_region_later wr.heap.size wr (by kernel_rfl) (by kernel_rfl) (Below.refl _ _) ?_
          repeat (go_big_quiet_step ((go_at_call 65; exact later_call _ (Nat.le_refl _) (IH.out _ (hw.trans (Below.mono (Subtype.property _) hw.size))))))
          refine wpQuiet_nil ?_
          rintro _ ⟨⟨w5, hb5⟩, rfl⟩
          go_wp2_with fail
          go_ret
          exact ⟨ret_bool (eqDs_ne hne.out).symm, below_seq hw hb5⟩
      · obtain rfl : j = len := by omega
        go_wp2_with fail
        go_ret
        refine ⟨ret_bool ?_, hw⟩
        rw [eqDs_true.2 (lists_eq hlen.out hlen'.out HT.out)]
  · have hl' : (len != len') = true := by simpa using hl
    have hne : ps ≠ ps' := fun e => hl (by rw [hlen.out, hlen'.out, e])
    have HN := Lib.hid hne
    clear hne
    go_enter Tryd.func64, Tryd.ntmps64
    go_wp2_with fail
    go_ret
    exact ⟨ret_bool (eqDs_ne HN.out).symm, Below.refl _ _⟩



set_option maxHeartbeats 1000000 in
theorem psameProgram_any (B : Nat → Prop) (p q : Pg) (v v' : Value) (w : World) (hB : Low B w) (hv : PgVal B w v p) (hv' : PgVal B w v' q) :
    Calls Tryd.prog 33 #[v, v'] w fun e w' => e = .returned (.bool (eqG p q)) ∧ Below w.heap.size w w' := by
  obtain ⟨dv, lv, av, tl, tk, kv, rfl, hd, hp⟩ := hv
  obtain ⟨dv', lv', av', tl', tk', kv', rfl, hd', hp'⟩ := hv'
  have hb1 : Below w.heap.size w (w.alloc (cell13 p dv lv av tl tk kv)) := blkBelow w _ _
  have hb2 : Below (w.heap.size + 1) (w.alloc (cell13 p dv lv av tl tk kv)) ((w.alloc (cell13 p dv lv av tl tk kv)).alloc (cell13 q dv' lv' av' tl' tk' kv')) := (Below.refl _ _).alloc (by simp) _
  have hp1 := boxed_pgAt (S := fun k => B k ∨ k = w.heap.size ∨ k = w.heap.size + 1) hB hd hp hb2 (fun _ h => .inl h) (.inr (.inl rfl))
  have hB1 : Low B (w.alloc (cell13 p dv lv av tl tk kv)) := hB.le hb1.size
  have hp2 := boxed_pgAt (S := fun k => B k ∨ k = w.heap.size ∨ k = w.heap.size + 1) hB1 (hd'.keep (hb1.keeps'.mono hB)) (hp'.to hB hb1) (Below.refl _ ((w.alloc (cell13 p dv lv av tl tk kv)).alloc (cell13 q dv' lv' av' tl' tk' kv'))) (fun _ h => .inl h) (.inr (.inr (by simp)))
  rw [World.size_alloc] at hp2
  have hS : Low (fun k => B k ∨ k = w.heap.size ∨ k = w.heap.size + 1) ((w.alloc (cell13 p dv lv av tl tk kv)).alloc (cell13 q dv' lv' av' tl' tk' kv')) := by
    intro k h
    have hs : ((w.alloc (cell13 p dv lv av tl tk kv)).alloc (cell13 q dv' lv' av' tl' tk' kv')).heap.size = w.heap.size + 2 := by simp
    rw [hs]
    rcases h with h | h | h
    · have := hB k h; omega
    · omega
    · omega
  obtain ⟨_, ⟨dd, hdd, hds⟩, hm1⟩ := hp1
  obtain ⟨_, ⟨dd', hdd', hds'⟩, hm2⟩ := hp2
  have hq : dd = dv := by
    have := blk_cell hb2 0 (v := dv) rfl
    rw [this] at hdd; exact (Option.some.inj hdd).symm
  have hq' : dd' = dv' := by
    have h := blk_cell (w := w.alloc (cell13 p dv lv av tl tk kv)) (Below.refl _ ((w.alloc (cell13 p dv lv av tl tk kv)).alloc (cell13 q dv' lv' av' tl' tk' kv'))) 0 (v := dv') rfl
    rw [World.size_alloc] at h
    rw [h] at hdd'; exact (Option.some.inj hdd').symm
  subst hq hq'
  obtain ⟨b1, hbb1⟩ : ∃ x, eqDs p.ds q.ds = x := ⟨_, rfl⟩
  obtain ⟨b2, hbb2⟩ : ∃ x, eqP p.m q.m = x := ⟨_, rfl⟩
  have HD : Hid (Calls Tryd.prog 64 #[dd, dd', .func (.func 65) #[] #[]] ((w.alloc (cell13 p dd lv av tl tk kv)).alloc (cell13 q dd' lv' av' tl' tk' kv')) fun e w' => e = .returned (.bool b1) ∧ Below ((w.alloc (cell13 p dd lv av tl tk kv)).alloc (cell13 q dd' lv' av' tl' tk' kv')).heap.size ((w.alloc (cell13 p dd lv av tl tk kv)).alloc (cell13 q dd' lv' av' tl' tk' kv')) w') := Lib.hid (by
    rw [← hbb1]; exact psameDs_any _ _ _ p.ds q.ds _ hS hds hds')
  have HP : Hid (∀ W, Below ((w.alloc (cell13 p dd lv av tl tk kv)).alloc (cell13 q dd' lv' av' tl' tk' kv')).heap.size ((w.alloc (cell13 p dd lv av tl tk kv)).alloc (cell13 q dd' lv' av' tl' tk' kv')) W → Calls Tryd.prog 63 #[.pointer (some ⟨w.heap.size, 1, none⟩), .pointer (some ⟨w.heap.size + 1, 1, none⟩)] W fun e w' => e = .returned (.bool b2) ∧ Below W.heap.size W w') := Lib.hid (fun W hW => by
    rw [← hbb2]; exact psameP_any _ p.m q.m _ _ _ _ W (hS.le hW.size) (PrAt.keep (hW.keeps'.mono hS) _ _ _ hm1) (PrAt.keep (hW.keeps'.mono hS) _ _ _ hm2))
  have HEQ : Hid (eqG p q = (b1 && b2)) := Lib.hid (by unfold eqG; rw [hbb1, hbb2])
  rw [HEQ.out]
  have HB := Lib.hid (hb1.trans (hb2.mono (by omega)))
  obtain ⟨da, dn, dc, rfl, _⟩ := hd.open
  obtain ⟨da', dn', dc', rfl, _⟩ := hd'.open
  clear hm1 hm2 hds hds' hdd hdd' hS hB1 hb1 hb2 hp hp' hd hd' hbb1 hbb2 HEQ
  cases b1
  all_goals
    (try rw [Bool.false_and]); (try rw [Bool.true_and])
    go_enter Tryd.func33, Tryd.ntmps33
    go_wp2_with (first | (go_at_call 64; refine HD.out.mono ?_; rintro e w2 ⟨rfl, hb3⟩) | (go_at_call 63; refine (HP.out _ hb3).mono ?_; rintro e w4 ⟨rfl, hb4⟩))
    go_ret
    first
      | exact ⟨rfl, below_seq HB.out (below_seq hb3 hb4)⟩
      | exact ⟨rfl, below_seq HB.out hb3⟩

end Go.Proofs.YtipjjhkgcbabnaaDoor
