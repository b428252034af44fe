/- Processes: the law about measures, given that the fixed examples come out right. (and what follows from it) -/
import Derived.Test.YtliijbcgkkiekaaDoorPb32
import Derived.Test.YtliijbcgkkiekaaDoorPb33
import Derived.Test.YtliijbcgkkiekaaDoorPb34
import Derived.Test.YtliijbcgkkiekaaDoorPb35
import Derived.Test.YtliijbcgkkiekaaDoorPb30

/- Processes: the law about measures, given that the fixed examples come out right. -/
namespace Go.Proofs.YtliijbcgkkiekaaDoor
open Go.RowKit Go.Deep Go.Shelf

def Thirteen (w : World) (b : Nat) (a0 a1 a2 a3 a4 a5 a6 a7 a8 a9 a10 a11 a12 : Value) : Prop := w.heap[b]? = some (.cells #[a0, a1, a2, a3, a4, a5, a6, a7, a8, a9, a10, a11, a12] 39 (0, 0))
section
variable {w w' : World} {b : Nat} {a0 a1 a2 a3 a4 a5 a6 a7 a8 a9 a10 a11 a12 : Value}
theorem Thirteen.cells (h : Thirteen w b a0 a1 a2 a3 a4 a5 a6 a7 a8 a9 a10 a11 a12) :
    w.cell? ⟨b, 0, none⟩ = some a0 ∧ w.cell? ⟨b, 1, none⟩ = some a1 ∧ w.cell? ⟨b, 2, none⟩ = some a2 ∧ w.cell? ⟨b, 3, none⟩ = some a3 ∧ w.cell? ⟨b, 4, none⟩ = some a4 ∧ w.cell? ⟨b, 5, none⟩ = some a5 ∧ w.cell? ⟨b, 6, none⟩ = some a6 ∧ w.cell? ⟨b, 7, none⟩ = some a7 ∧ w.cell? ⟨b, 8, none⟩ = some a8 ∧ w.cell? ⟨b, 9, none⟩ = some a9 ∧ w.cell? ⟨b, 10, none⟩ = some a10 ∧ w.cell? ⟨b, 11, none⟩ = some a11 ∧ w.cell? ⟨b, 12, none⟩ = some a12 := by
  unfold Thirteen at h
  refine ⟨?_, ?_, ?_, ?_, ?_, ?_, ?_, ?_, ?_, ?_, ?_, ?_, ?_⟩ <;> simp [World.cell?, h]
theorem Thirteen.lt (h : Thirteen w b a0 a1 a2 a3 a4 a5 a6 a7 a8 a9 a10 a11 a12) : b < w.heap.size := (Array.getElem?_eq_some_iff.1 h).1
theorem Thirteen.to (h : Thirteen w b a0 a1 a2 a3 a4 a5 a6 a7 a8 a9 a10 a11 a12) (hb : Below w.heap.size w w') : Thirteen w' b a0 a1 a2 a3 a4 a5 a6 a7 a8 a9 a10 a11 a12 := (hb.block b h.lt).trans h
end
theorem calls_at {P : Program} {f : FuncId} {vs : Array Value} {Q : Ending → World → Prop} {W W0 : World} (h : W = W0) (k : Calls P f vs W0 Q) : Calls P f vs W Q := by rw [h]; exact k
set_option maxHeartbeats 1000000 in
/-- The four boxes of the law about measures. -/
theorem made_four (w W : World) (a b : Pr) (p q : Pg) {la1 : Option Addr} {ln1 lc1 : Nat} {aa1 : Option Addr} {an1 ac1 : Nat} {ta1 : Option Addr} {tn1 tc1 : Nat} {ua1 : Option Addr} {un1 uc1 : Nat} {ka1 : Option Addr} {kn1 kc1 : Nat} {la2 : Option Addr} {ln2 lc2 : Nat} {aa2 : Option Addr} {an2 ac2 : Nat} {ta2 : Option Addr} {tn2 tc2 : Nat} {ua2 : Option Addr} {un2 uc2 : Nat} {ka2 : Option Addr} {kn2 kc2 : Nat} {la3 : Option Addr} {ln3 lc3 : Nat} {aa3 : Option Addr} {an3 ac3 : Nat} {ta3 : Option Addr} {tn3 tc3 : Nat} {ua3 : Option Addr} {un3 uc3 : Nat} {ka3 : Option Addr} {kn3 kc3 : Nat} {la4 : Option Addr} {ln4 lc4 : Nat} {aa4 : Option Addr} {an4 ac4 : Nat} {ta4 : Option Addr} {tn4 tc4 : Nat} {ua4 : Option Addr} {un4 uc4 : Nat} {ka4 : Option Addr} {kn4 kc4 : Nat} {pa qa : Option Addr} {plen pc qlen qc : Nat} (hW : ((((w.alloc (.cells #[.int .i64 a.k, .string a.c, .string a.x, .slice la1 ln1 lc1, .slice aa1 an1 ac1, .int .i64 a.t.k, .int .i64 a.t.p, .string a.t.n, .int .i64 a.t.s, .slice ta1 tn1 tc1, .slice ua1 un1 uc1, .slice ka1 kn1 kc1] 36)).alloc (.cells #[.int .i64 b.k, .string b.c, .string b.x, .slice la2 ln2 lc2, .slice aa2 an2 ac2, .int .i64 b.t.k, .int .i64 b.t.p, .string b.t.n, .int .i64 b.t.s, .slice ta2 tn2 tc2, .slice ua2 un2 uc2, .slice ka2 kn2 kc2] 36)).alloc (.cells #[.slice pa plen pc, .int .i64 p.m.k, .string p.m.c, .string p.m.x, .slice la3 ln3 lc3, .slice aa3 an3 ac3, .int .i64 p.m.t.k, .int .i64 p.m.t.p, .string p.m.t.n, .int .i64 p.m.t.s, .slice ta3 tn3 tc3, .slice ua3 un3 uc3, .slice ka3 kn3 kc3] 39)).alloc (.cells #[.slice qa qlen qc, .int .i64 q.m.k, .string q.m.c, .string q.m.x, .slice la4 ln4 lc4, .slice aa4 an4 ac4, .int .i64 q.m.t.k, .int .i64 q.m.t.p, .string q.m.t.n, .int .i64 q.m.t.s, .slice ta4 tn4 tc4, .slice ua4 un4 uc4, .slice ka4 kn4 kc4] 39)) = W) :
    Twelve W w.heap.size (.int .i64 a.k) (.string a.c) (.string a.x) (.slice la1 ln1 lc1) (.slice aa1 an1 ac1) (.int .i64 a.t.k) (.int .i64 a.t.p) (.string a.t.n) (.int .i64 a.t.s) (.slice ta1 tn1 tc1) (.slice ua1 un1 uc1) (.slice ka1 kn1 kc1) ∧ Twelve W (w.heap.size + 1) (.int .i64 b.k) (.string b.c) (.string b.x) (.slice la2 ln2 lc2) (.slice aa2 an2 ac2) (.int .i64 b.t.k) (.int .i64 b.t.p) (.string b.t.n) (.int .i64 b.t.s) (.slice ta2 tn2 tc2) (.slice ua2 un2 uc2) (.slice ka2 kn2 kc2) ∧ Thirteen W (w.heap.size + 1 + 1) (.slice pa plen pc) (.int .i64 p.m.k) (.string p.m.c) (.string p.m.x) (.slice la3 ln3 lc3) (.slice aa3 an3 ac3) (.int .i64 p.m.t.k) (.int .i64 p.m.t.p) (.string p.m.t.n) (.int .i64 p.m.t.s) (.slice ta3 tn3 tc3) (.slice ua3 un3 uc3) (.slice ka3 kn3 kc3) ∧ Thirteen W (w.heap.size + 1 + 1 + 1) (.slice qa qlen qc) (.int .i64 q.m.k) (.string q.m.c) (.string q.m.x) (.slice la4 ln4 lc4) (.slice aa4 an4 ac4) (.int .i64 q.m.t.k) (.int .i64 q.m.t.p) (.string q.m.t.n) (.int .i64 q.m.t.s) (.slice ta4 tn4 tc4) (.slice ua4 un4 uc4) (.slice ka4 kn4 kc4) ∧ Below w.heap.size w W := by
  have hb : Below w.heap.size w W := by rw [← hW]; exact ((((Below.refl _ _).alloc (Nat.le_refl _) _).alloc (by simp) _).alloc (by simp; omega) _).alloc (by simp; omega) _
  refine ⟨?_, ?_, ?_, ?_, hb⟩ <;> (first | unfold Twelve | unfold Thirteen) <;> rw [← hW] <;> simp only [heap_push, Array.getElem?_push, Array.size_push] <;> simp <;> (first | (rw [if_neg (by omega), if_neg (by omega)]; done) | (rw [if_neg (by omega)]; done))

theorem plittle_l {W : World} {v : Value} {g : Pg} {m : Nat} {b : Bool} (h : GLies W v g) (hm : m ≤ 1000000) (hb : g.little m = b) : Calls Tryd.prog 24 #[v, .int .i64 m] W fun e w' => e = .returned (.bool b) ∧ Below W.heap.size W w' := by
  rw [← hb]; exact rlittle_any _ g m hm v W (plow W) h
theorem prsize_l {W : World} {v : Value} {p : Pr} {c : Int} (h : PLies W v p) (hs : p.size ≤ 1000000) (hc : (p.size : Int) = c) : Calls Tryd.prog 26 #[v] W fun e w' => e = .returned (.int .i64 c) ∧ Below W.heap.size W w' := by
  rw [← hc]; exact prsize_any _ p hs v W (plow W) h
theorem prdepth_l {W : World} {v : Value} {p : Pr} {c : Int} (h : PLies W v p) (hs : p.depth ≤ 1000000) (hc : (p.depth : Int) = c) : Calls Tryd.prog 28 #[v] W fun e w' => e = .returned (.int .i64 c) ∧ Below W.heap.size W w' := by
  rw [← hc]; exact prdepth_any _ p hs v W (plow W) h
theorem prtotal_l {W : World} {v : Value} {g : Pg} {c : Int} (h : GLies W v g) (hg : GGood g) (hs : g.total ≤ 1000000000) (hc : (g.total : Int) = c) : Calls Tryd.prog 30 #[v] W fun e w' => e = .returned (.int .i64 c) ∧ Below W.heap.size W w' := by
  rw [← hc]; exact rptotal_any _ g hg hs v W (plow W) h
theorem psameG_l {W : World} {v v' : Value} {p q : Pg} {b : Bool} (h : GLies W v p) (h' : GLies W v' q) (hb : eqG p q = b) : Calls Tryd.prog 33 #[v, v'] W fun e w' => e = .returned (.bool b) ∧ Below W.heap.size W w' := by
  rw [← hb]; exact psameProgram_any _ p q v v' W (plow W) h h'
theorem rpsameG_l {W : World} {v v' : Value} {p q : Pg} {b : Bool} (h : GLies W v p) (h' : GLies W v' q) (hb : eqG p q = b) : Calls Tryd.prog 34 #[v, v'] W fun e w' => e = .returned (.bool b) ∧ Below W.heap.size W w' := by
  rw [← hb]; exact rsameProgram_any _ p q v v' W (plow W) h h'

theorem sumN_bound {α : Type} (l : List α) (f : α → Nat) (K : Nat) (h : ∀ x ∈ l, f x ≤ K) : sumN (l.map f) ≤ l.length * K := by
  induction l with
  | nil => simp [sumN]
  | cons x r ih =>
    have h1 := h x (by simp)
    have h2 := ih (fun y hy => h y (by simp [hy]))
    rw [List.map_cons, sumN, List.length_cons, Nat.succ_mul]; omega
theorem little_good {g : Pg} {m : Nat} (hm : m ≤ 100000) (hf : Pg.fine g) (h : g.little m = true) : GGood g ∧ g.total ≤ 1000000000 := by
  obtain ⟨h1, h2, h3⟩ := Pg.little_facts h
  have hmn := Pr.few_facts h2
  have hds : ∀ d ∈ g.ds, d.b.few m = true ∧ d.ms.length ≤ 20 ∧ ∀ a ∈ d.ms, a.t.few 300 = true := fun d hd => Df.little_facts (h3 d hd)
  refine ⟨⟨by omega, fun d hd a ha => ⟨(hf.1 d hd).1 a ha, (hds d hd).2.2 a ha⟩, fun u hu => ?_⟩, ?_⟩
  · unfold Pg.bodies at hu
    simp only [List.mem_append, List.mem_map, List.mem_singleton] at hu
    rcases hu with ⟨d, hd, rfl⟩ | rfl
    · have := Pr.few_facts (hds d hd).1
      exact ⟨⟨(hf.1 d hd).2, this.2.2⟩, by omega, by omega⟩
    · exact ⟨⟨hf.2, hmn.2.2⟩, by omega, by omega⟩
  · rw [Pg.total_eq]
    have hall : ∀ d ∈ g.ds, d.all ≤ 30200000 := fun d hd => by
      have hb := Pr.few_facts (hds d hd).1
      have ht := Pr.typ_le d.b hb.2.2
      have hp : sumN d.pms ≤ d.ms.length * 300 := sumN_bound d.ms (fun a => a.t.size) 300 (fun a ha => (few_size ((hds d hd).2.2 a ha)).1)
      have hl := (hds d hd).2.1
      unfold Df.all; omega
    have hs := sumN_bound g.ds Df.all 30200000 hall
    have ht := Pr.typ_le g.m hmn.2.2
    have : g.ds.length * 30200000 ≤ 20 * 30200000 := Nat.mul_le_mul_right _ h1
    omega

set_option maxHeartbeats 16000000 in
set_option maxRecDepth 100000 in
theorem ProctreeMeasures_no (haw : ∀ (E : Nat) (w : World), Env E w → Calls Tryd.prog 22 #[] w fun e w' => e = .returned (.bool true) ∧ Below w.heap.size w w')
    (a b : Pr) (p q : Pg) (v0 v1 v2 v3 : Value) (hpf : Pg.fine p) (hqf : Pg.fine q) (E : Nat) (w : World) (he : Env E w) (h0 : PLies w v0 a) (h1 : PLies w v1 b) (h2 : GLies w v2 p) (h3 : GLies w v3 q) (hno : ¬ (a.few 1000 = true ∧ b.few 1000 = true ∧ p.little 1000 = true ∧ q.little 1000 = true)) :
    Calls Tryd.prog 5 #[v0, v1, v2, v3] w fun e w' => e = .returned (.bool true) ∧ Below w.heap.size w w' := by
  have g0 := h0
  have g1 := h1
  have g2 := h2
  have g3 := h3
  obtain ⟨lv1, av1, tl1, tk1, kv1, rfl, _⟩ := g0
  obtain ⟨lv2, av2, tl2, tk2, kv2, rfl, _⟩ := g1
  obtain ⟨dv3, lv3, av3, tl3, tk3, kv3, rfl, hd3, hp3⟩ := g2
  obtain ⟨dv4, lv4, av4, tl4, tk4, kv4, rfl, hd4, hp4⟩ := g3
  obtain ⟨⟨la1, ln1, lc1, rfl⟩, ⟨aa1, an1, ac1, rfl⟩, ⟨ta1, tn1, tc1, rfl⟩, ⟨ua1, un1, uc1, rfl⟩, ka1, kn1, kc1, rfl⟩ := pr_slices h0
  obtain ⟨⟨la2, ln2, lc2, rfl⟩, ⟨aa2, an2, ac2, rfl⟩, ⟨ta2, tn2, tc2, rfl⟩, ⟨ua2, un2, uc2, rfl⟩, ka2, kn2, kc2, rfl⟩ := pr_slices h1
  obtain ⟨⟨la3, ln3, lc3, rfl⟩, ⟨aa3, an3, ac3, rfl⟩, ⟨ta3, tn3, tc3, rfl⟩, ⟨ua3, un3, uc3, rfl⟩, ka3, kn3, kc3, rfl⟩ := pr_slices hp3
  obtain ⟨⟨la4, ln4, lc4, rfl⟩, ⟨aa4, an4, ac4, rfl⟩, ⟨ta4, tn4, tc4, rfl⟩, ⟨ua4, un4, uc4, rfl⟩, ka4, kn4, kc4, rfl⟩ := pr_slices hp4
  obtain ⟨pa, plen, pc, rfl, _⟩ := hd3.open
  obtain ⟨qa, qlen, qc, rfl, _⟩ := hd4.open
  obtain ⟨W0, hW0⟩ : ∃ W0, ((((w.alloc (.cells #[.int .i64 a.k, .string a.c, .string a.x, .slice la1 ln1 lc1, .slice aa1 an1 ac1, .int .i64 a.t.k, .int .i64 a.t.p, .string a.t.n, .int .i64 a.t.s, .slice ta1 tn1 tc1, .slice ua1 un1 uc1, .slice ka1 kn1 kc1] 36)).alloc (.cells #[.int .i64 b.k, .string b.c, .string b.x, .slice la2 ln2 lc2, .slice aa2 an2 ac2, .int .i64 b.t.k, .int .i64 b.t.p, .string b.t.n, .int .i64 b.t.s, .slice ta2 tn2 tc2, .slice ua2 un2 uc2, .slice ka2 kn2 kc2] 36)).alloc (.cells #[.slice pa plen pc, .int .i64 p.m.k, .string p.m.c, .string p.m.x, .slice la3 ln3 lc3, .slice aa3 an3 ac3, .int .i64 p.m.t.k, .int .i64 p.m.t.p, .string p.m.t.n, .int .i64 p.m.t.s, .slice ta3 tn3 tc3, .slice ua3 un3 uc3, .slice ka3 kn3 kc3] 39)).alloc (.cells #[.slice qa qlen qc, .int .i64 q.m.k, .string q.m.c, .string q.m.x, .slice la4 ln4 lc4, .slice aa4 an4 ac4, .int .i64 q.m.t.k, .int .i64 q.m.t.p, .string q.m.t.n, .int .i64 q.m.t.s, .slice ta4 tn4 tc4, .slice ua4 un4 uc4, .slice ka4 kn4 kc4] 39)) = W0 := ⟨_, rfl⟩
  obtain ⟨t0, t1, t2, t3, hb0⟩ := made_four w W0 a b p q hW0
  have L0 : Hid (PLies W0 (.agg #[.int .i64 a.k, .string a.c, .string a.x, .slice la1 ln1 lc1, .slice aa1 an1 ac1, .int .i64 a.t.k, .int .i64 a.t.p, .string a.t.n, .int .i64 a.t.s, .slice ta1 tn1 tc1, .slice ua1 un1 uc1, .slice ka1 kn1 kc1]) a) := Lib.hid (h0.to hb0)
  have L1 : Hid (PLies W0 (.agg #[.int .i64 b.k, .string b.c, .string b.x, .slice la2 ln2 lc2, .slice aa2 an2 ac2, .int .i64 b.t.k, .int .i64 b.t.p, .string b.t.n, .int .i64 b.t.s, .slice ta2 tn2 tc2, .slice ua2 un2 uc2, .slice ka2 kn2 kc2]) b) := Lib.hid (h1.to hb0)
  have L2 : Hid (GLies W0 (.agg #[.slice pa plen pc, .int .i64 p.m.k, .string p.m.c, .string p.m.x, .slice la3 ln3 lc3, .slice aa3 an3 ac3, .int .i64 p.m.t.k, .int .i64 p.m.t.p, .string p.m.t.n, .int .i64 p.m.t.s, .slice ta3 tn3 tc3, .slice ua3 un3 uc3, .slice ka3 kn3 kc3]) p) := Lib.hid (h2.to hb0)
  have L3 : Hid (GLies W0 (.agg #[.slice qa qlen qc, .int .i64 q.m.k, .string q.m.c, .string q.m.x, .slice la4 ln4 lc4, .slice aa4 an4 ac4, .int .i64 q.m.t.k, .int .i64 q.m.t.p, .string q.m.t.n, .int .i64 q.m.t.s, .slice ta4 tn4 tc4, .slice ua4 un4 uc4, .slice ka4 kn4 kc4]) q) := Lib.hid (h3.to hb0)
  have T0 := Lib.hid t0
  have T1 := Lib.hid t1
  have T2 := Lib.hid t2
  have T3 := Lib.hid t3
  have HB0 := Lib.hid hb0
  have HE := Lib.hid (he.to hb0)
  have HAW := Lib.hid haw
  have HW0 := Lib.hid hW0
  have HPF := Lib.hid (And.intro hpf hqf)
  obtain ⟨f0, hf0⟩ : ∃ x, a.few 1000 = x := ⟨_, rfl⟩
  obtain ⟨f1, hf1⟩ : ∃ x, b.few 1000 = x := ⟨_, rfl⟩
  obtain ⟨f2, hf2⟩ : ∃ x, p.little 1000 = x := ⟨_, rfl⟩
  obtain ⟨f3, hf3⟩ : ∃ x, q.little 1000 = x := ⟨_, rfl⟩
  have F0 := Lib.hid hf0
  have F1 := Lib.hid hf1
  have F2 := Lib.hid hf2
  have F3 := Lib.hid hf3
  rw [hf0, hf1, hf2, hf3] at hno
  clear h0 h1 h2 h3 hd3 hp3 hd4 hp4 t0 t1 t2 t3 hb0 he hpf hqf haw hW0 hf0 hf1 hf2 hf3
  cases f0
  · go_enter Tryd.func5, Tryd.ntmps5
    go_wp2_with fail
    refine calls_at HW0.out ?_
    refine (HAW.out _ _ HE.out).mono ?_
    rintro e w1 ⟨rfl, hb1⟩
    obtain ⟨⟨c0, c1, c2, c3, c4, c5, c6, c7, c8, c9, c10, c11⟩, _⟩ := (T0.out.to hb1).cells
    go_wp2_with fail
    clear c0 c1 c2 c3 c4 c5 c6 c7 c8 c9 c10 c11
    refine (pfew_l (m := 1000) (L0.out.to hb1) (by omega) F0.out).mono ?_
    rintro e w2 ⟨rfl, hb2⟩
    have hz2 := below_seq hb1 hb2
    go_wp2_with fail
    refine (HAW.out _ _ (HE.out.to hz2)).mono ?_
    rintro e w9 ⟨rfl, hb9⟩
    go_wp2_with fail
    go_ret
    exact ⟨rfl, below_seq HB0.out (below_seq hz2 hb9)⟩
  · skip
    cases f1
    · go_enter Tryd.func5, Tryd.ntmps5
      go_wp2_with fail
      refine calls_at HW0.out ?_
      refine (HAW.out _ _ HE.out).mono ?_
      rintro e w1 ⟨rfl, hb1⟩
      obtain ⟨⟨c0, c1, c2, c3, c4, c5, c6, c7, c8, c9, c10, c11⟩, _⟩ := (T0.out.to hb1).cells
      go_wp2_with fail
      clear c0 c1 c2 c3 c4 c5 c6 c7 c8 c9 c10 c11
      refine (pfew_l (m := 1000) (L0.out.to hb1) (by omega) F0.out).mono ?_
      rintro e w2 ⟨rfl, hb2⟩
      have hz2 := below_seq hb1 hb2
      obtain ⟨⟨c0, c1, c2, c3, c4, c5, c6, c7, c8, c9, c10, c11⟩, _⟩ := (T1.out.to hz2).cells
      go_wp2_with fail
      clear c0 c1 c2 c3 c4 c5 c6 c7 c8 c9 c10 c11
      refine (pfew_l (m := 1000) (L1.out.to hz2) (by omega) F1.out).mono ?_
      rintro e w3 ⟨rfl, hb3⟩
      have hz3 := below_seq hz2 hb3
      go_wp2_with fail
      refine (HAW.out _ _ (HE.out.to hz3)).mono ?_
      rintro e w9 ⟨rfl, hb9⟩
      go_wp2_with fail
      go_ret
      exact ⟨rfl, below_seq HB0.out (below_seq hz3 hb9)⟩
    · skip
      cases f2
      · go_enter Tryd.func5, Tryd.ntmps5
        go_wp2_with fail
        refine calls_at HW0.out ?_
        refine (HAW.out _ _ HE.out).mono ?_
        rintro e w1 ⟨rfl, hb1⟩
        obtain ⟨⟨c0, c1, c2, c3, c4, c5, c6, c7, c8, c9, c10, c11⟩, _⟩ := (T0.out.to hb1).cells
        go_wp2_with fail
        clear c0 c1 c2 c3 c4 c5 c6 c7 c8 c9 c10 c11
        refine (pfew_l (m := 1000) (L0.out.to hb1) (by omega) F0.out).mono ?_
        rintro e w2 ⟨rfl, hb2⟩
        have hz2 := below_seq hb1 hb2
        obtain ⟨⟨c0, c1, c2, c3, c4, c5, c6, c7, c8, c9, c10, c11⟩, _⟩ := (T1.out.to hz2).cells
        go_wp2_with fail
        clear c0 c1 c2 c3 c4 c5 c6 c7 c8 c9 c10 c11
        refine (pfew_l (m := 1000) (L1.out.to hz2) (by omega) F1.out).mono ?_
        rintro e w3 ⟨rfl, hb3⟩
        have hz3 := below_seq hz2 hb3
        obtain ⟨c0, c1, c2, c3, c4, c5, c6, c7, c8, c9, c10, c11, c12⟩ := (T2.out.to hz3).cells
        go_wp2_with fail
        clear c0 c1 c2 c3 c4 c5 c6 c7 c8 c9 c10 c11 c12
        refine (plittle_l (m := 1000) (L2.out.to hz3) (by omega) F2.out).mono ?_
        rintro e w4 ⟨rfl, hb4⟩
        have hz4 := below_seq hz3 hb4
        go_wp2_with fail
        refine (HAW.out _ _ (HE.out.to hz4)).mono ?_
        rintro e w9 ⟨rfl, hb9⟩
        go_wp2_with fail
        go_ret
        exact ⟨rfl, below_seq HB0.out (below_seq hz4 hb9)⟩
      · skip
        cases f3
        · go_enter Tryd.func5, Tryd.ntmps5
          go_wp2_with fail
          refine calls_at HW0.out ?_
          refine (HAW.out _ _ HE.out).mono ?_
          rintro e w1 ⟨rfl, hb1⟩
          obtain ⟨⟨c0, c1, c2, c3, c4, c5, c6, c7, c8, c9, c10, c11⟩, _⟩ := (T0.out.to hb1).cells
          go_wp2_with fail
          clear c0 c1 c2 c3 c4 c5 c6 c7 c8 c9 c10 c11
          refine (pfew_l (m := 1000) (L0.out.to hb1) (by omega) F0.out).mono ?_
          rintro e w2 ⟨rfl, hb2⟩
          have hz2 := below_seq hb1 hb2
          obtain ⟨⟨c0, c1, c2, c3, c4, c5, c6, c7, c8, c9, c10, c11⟩, _⟩ := (T1.out.to hz2).cells
          go_wp2_with fail
          clear c0 c1 c2 c3 c4 c5 c6 c7 c8 c9 c10 c11
          refine (pfew_l (m := 1000) (L1.out.to hz2) (by omega) F1.out).mono ?_
          rintro e w3 ⟨rfl, hb3⟩
          have hz3 := below_seq hz2 hb3
          obtain ⟨c0, c1, c2, c3, c4, c5, c6, c7, c8, c9, c10, c11, c12⟩ := (T2.out.to hz3).cells
          go_wp2_with fail
          clear c0 c1 c2 c3 c4 c5 c6 c7 c8 c9 c10 c11 c12
          refine (plittle_l (m := 1000) (L2.out.to hz3) (by omega) F2.out).mono ?_
          rintro e w4 ⟨rfl, hb4⟩
          have hz4 := below_seq hz3 hb4
          obtain ⟨c0, c1, c2, c3, c4, c5, c6, c7, c8, c9, c10, c11, c12⟩ := (T3.out.to hz4).cells
          go_wp2_with fail
          clear c0 c1 c2 c3 c4 c5 c6 c7 c8 c9 c10 c11 c12
          refine (plittle_l (m := 1000) (L3.out.to hz4) (by omega) F3.out).mono ?_
          rintro e w5 ⟨rfl, hb5⟩
          have hz5 := below_seq hz4 hb5
          go_wp2_with fail
          refine (HAW.out _ _ (HE.out.to hz5)).mono ?_
          rintro e w9 ⟨rfl, hb9⟩
          go_wp2_with fail
          go_ret
          exact ⟨rfl, below_seq HB0.out (below_seq hz5 hb9)⟩
        · exact absurd ⟨rfl, rfl, rfl, rfl⟩ hno

set_option maxHeartbeats 16000000 in
set_option maxRecDepth 100000 in
theorem ProctreeMeasures_k1 (haw : ∀ (E : Nat) (w : World), Env E w → Calls Tryd.prog 22 #[] w fun e w' => e = .returned (.bool true) ∧ Below w.heap.size w w')
    (a b : Pr) (p q : Pg) (v0 v1 v2 v3 : Value) (hpf : Pg.fine p) (hqf : Pg.fine q) (E : Nat) (w : World) (he : Env E w) (h0 : PLies w v0 a) (h1 : PLies w v1 b) (h2 : GLies w v2 p) (h3 : GLies w v3 q) (hf0 : a.few 1000 = true) (hf1 : b.few 1000 = true) (hf2 : p.little 1000 = true) (hf3 : q.little 1000 = true) (k2 : 2 ≤ a.k) (k5 : a.k ≤ 5) :
    Calls Tryd.prog 5 #[v0, v1, v2, v3] w fun e w' => e = .returned (.bool true) ∧ Below w.heap.size w w' := by
  have g0 := h0
  have g1 := h1
  have g2 := h2
  have g3 := h3
  obtain ⟨lv1, av1, tl1, tk1, kv1, rfl, _⟩ := g0
  obtain ⟨lv2, av2, tl2, tk2, kv2, rfl, _⟩ := g1
  obtain ⟨dv3, lv3, av3, tl3, tk3, kv3, rfl, hd3, hp3⟩ := g2
  obtain ⟨dv4, lv4, av4, tl4, tk4, kv4, rfl, hd4, hp4⟩ := g3
  obtain ⟨⟨la1, ln1, lc1, rfl⟩, ⟨aa1, an1, ac1, rfl⟩, ⟨ta1, tn1, tc1, rfl⟩, ⟨ua1, un1, uc1, rfl⟩, ka1, kn1, kc1, rfl⟩ := pr_slices h0
  obtain ⟨⟨la2, ln2, lc2, rfl⟩, ⟨aa2, an2, ac2, rfl⟩, ⟨ta2, tn2, tc2, rfl⟩, ⟨ua2, un2, uc2, rfl⟩, ka2, kn2, kc2, rfl⟩ := pr_slices h1
  obtain ⟨⟨la3, ln3, lc3, rfl⟩, ⟨aa3, an3, ac3, rfl⟩, ⟨ta3, tn3, tc3, rfl⟩, ⟨ua3, un3, uc3, rfl⟩, ka3, kn3, kc3, rfl⟩ := pr_slices hp3
  obtain ⟨⟨la4, ln4, lc4, rfl⟩, ⟨aa4, an4, ac4, rfl⟩, ⟨ta4, tn4, tc4, rfl⟩, ⟨ua4, un4, uc4, rfl⟩, ka4, kn4, kc4, rfl⟩ := pr_slices hp4
  obtain ⟨pa, plen, pc, rfl, _⟩ := hd3.open
  obtain ⟨qa, qlen, qc, rfl, _⟩ := hd4.open
  obtain ⟨W0, hW0⟩ : ∃ W0, ((((w.alloc (.cells #[.int .i64 a.k, .string a.c, .string a.x, .slice la1 ln1 lc1, .slice aa1 an1 ac1, .int .i64 a.t.k, .int .i64 a.t.p, .string a.t.n, .int .i64 a.t.s, .slice ta1 tn1 tc1, .slice ua1 un1 uc1, .slice ka1 kn1 kc1] 36)).alloc (.cells #[.int .i64 b.k, .string b.c, .string b.x, .slice la2 ln2 lc2, .slice aa2 an2 ac2, .int .i64 b.t.k, .int .i64 b.t.p, .string b.t.n, .int .i64 b.t.s, .slice ta2 tn2 tc2, .slice ua2 un2 uc2, .slice ka2 kn2 kc2] 36)).alloc (.cells #[.slice pa plen pc, .int .i64 p.m.k, .string p.m.c, .string p.m.x, .slice la3 ln3 lc3, .slice aa3 an3 ac3, .int .i64 p.m.t.k, .int .i64 p.m.t.p, .string p.m.t.n, .int .i64 p.m.t.s, .slice ta3 tn3 tc3, .slice ua3 un3 uc3, .slice ka3 kn3 kc3] 39)).alloc (.cells #[.slice qa qlen qc, .int .i64 q.m.k, .string q.m.c, .string q.m.x, .slice la4 ln4 lc4, .slice aa4 an4 ac4, .int .i64 q.m.t.k, .int .i64 q.m.t.p, .string q.m.t.n, .int .i64 q.m.t.s, .slice ta4 tn4 tc4, .slice ua4 un4 uc4, .slice ka4 kn4 kc4] 39)) = W0 := ⟨_, rfl⟩
  obtain ⟨t0, t1, t2, t3, hb0⟩ := made_four w W0 a b p q hW0
  have L0 : Hid (PLies W0 (.agg #[.int .i64 a.k, .string a.c, .string a.x, .slice la1 ln1 lc1, .slice aa1 an1 ac1, .int .i64 a.t.k, .int .i64 a.t.p, .string a.t.n, .int .i64 a.t.s, .slice ta1 tn1 tc1, .slice ua1 un1 uc1, .slice ka1 kn1 kc1]) a) := Lib.hid (h0.to hb0)
  have L1 : Hid (PLies W0 (.agg #[.int .i64 b.k, .string b.c, .string b.x, .slice la2 ln2 lc2, .slice aa2 an2 ac2, .int .i64 b.t.k, .int .i64 b.t.p, .string b.t.n, .int .i64 b.t.s, .slice ta2 tn2 tc2, .slice ua2 un2 uc2, .slice ka2 kn2 kc2]) b) := Lib.hid (h1.to hb0)
  have L2 : Hid (GLies W0 (.agg #[.slice pa plen pc, .int .i64 p.m.k, .string p.m.c, .string p.m.x, .slice la3 ln3 lc3, .slice aa3 an3 ac3, .int .i64 p.m.t.k, .int .i64 p.m.t.p, .string p.m.t.n, .int .i64 p.m.t.s, .slice ta3 tn3 tc3, .slice ua3 un3 uc3, .slice ka3 kn3 kc3]) p) := Lib.hid (h2.to hb0)
  have L3 : Hid (GLies W0 (.agg #[.slice qa qlen qc, .int .i64 q.m.k, .string q.m.c, .string q.m.x, .slice la4 ln4 lc4, .slice aa4 an4 ac4, .int .i64 q.m.t.k, .int .i64 q.m.t.p, .string q.m.t.n, .int .i64 q.m.t.s, .slice ta4 tn4 tc4, .slice ua4 un4 uc4, .slice ka4 kn4 kc4]) q) := Lib.hid (h3.to hb0)
  have T0 := Lib.hid t0
  have T1 := Lib.hid t1
  have T2 := Lib.hid t2
  have T3 := Lib.hid t3
  have HB0 := Lib.hid hb0
  have HE := Lib.hid (he.to hb0)
  have HAW := Lib.hid haw
  have HW0 := Lib.hid hW0
  have HPF := Lib.hid (And.intro hpf hqf)
  have F0 := Lib.hid hf0
  have F1 := Lib.hid hf1
  have F2 := Lib.hid hf2
  have F3 := Lib.hid hf3
  clear h0 h1 h2 h3 hd3 hp3 hd4 hp4 t0 t1 t2 t3 hb0 he hpf hqf haw hW0 hf0 hf1 hf2 hf3
  go_enter Tryd.func5, Tryd.ntmps5
  go_wp2_with fail
  refine calls_at HW0.out ?_
  refine (HAW.out _ _ HE.out).mono ?_
  rintro e w1 ⟨rfl, hb1⟩
  obtain ⟨⟨c0, c1, c2, c3, c4, c5, c6, c7, c8, c9, c10, c11⟩, _⟩ := (T0.out.to hb1).cells
  go_wp2_with fail
  clear c0 c1 c2 c3 c4 c5 c6 c7 c8 c9 c10 c11
  refine (pfew_l (m := 1000) (L0.out.to hb1) (by omega) F0.out).mono ?_
  rintro e w2 ⟨rfl, hb2⟩
  have hz2 := below_seq hb1 hb2
  obtain ⟨⟨c0, c1, c2, c3, c4, c5, c6, c7, c8, c9, c10, c11⟩, _⟩ := (T1.out.to hz2).cells
  go_wp2_with fail
  clear c0 c1 c2 c3 c4 c5 c6 c7 c8 c9 c10 c11
  refine (pfew_l (m := 1000) (L1.out.to hz2) (by omega) F1.out).mono ?_
  rintro e w3 ⟨rfl, hb3⟩
  have hz3 := below_seq hz2 hb3
  obtain ⟨c0, c1, c2, c3, c4, c5, c6, c7, c8, c9, c10, c11, c12⟩ := (T2.out.to hz3).cells
  go_wp2_with fail
  clear c0 c1 c2 c3 c4 c5 c6 c7 c8 c9 c10 c11 c12
  refine (plittle_l (m := 1000) (L2.out.to hz3) (by omega) F2.out).mono ?_
  rintro e w4 ⟨rfl, hb4⟩
  have hz4 := below_seq hz3 hb4
  obtain ⟨c0, c1, c2, c3, c4, c5, c6, c7, c8, c9, c10, c11, c12⟩ := (T3.out.to hz4).cells
  go_wp2_with fail
  clear c0 c1 c2 c3 c4 c5 c6 c7 c8 c9 c10 c11 c12
  refine (plittle_l (m := 1000) (L3.out.to hz4) (by omega) F3.out).mono ?_
  rintro e w5 ⟨rfl, hb5⟩
  have hz5 := below_seq hz4 hb5
  have HZ := Lib.hid hz5
  clear hb1 hb2 hb3 hb4 hb5 hz2 hz3 hz4 hz5
  obtain ⟨-, hg2⟩ := And.intro trivial (little_good (by omega) HPF.out.1 F2.out)
  have hg3 := little_good (by omega) HPF.out.2 F3.out
  have fa := Pr.few_facts F0.out
  have fb := Pr.few_facts F1.out
  have M0 : Hid (∀ y : Later w5.heap.size w5, PLies y.1 (.agg #[.int .i64 a.k, .string a.c, .string a.x, .slice la1 ln1 lc1, .slice aa1 an1 ac1, .int .i64 a.t.k, .int .i64 a.t.p, .string a.t.n, .int .i64 a.t.s, .slice ta1 tn1 tc1, .slice ua1 un1 uc1, .slice ka1 kn1 kc1]) a) := Lib.hid (fun y => (L0.out.to HZ.out).to y.2)
  have M1 : Hid (∀ y : Later w5.heap.size w5, PLies y.1 (.agg #[.int .i64 b.k, .string b.c, .string b.x, .slice la2 ln2 lc2, .slice aa2 an2 ac2, .int .i64 b.t.k, .int .i64 b.t.p, .string b.t.n, .int .i64 b.t.s, .slice ta2 tn2 tc2, .slice ua2 un2 uc2, .slice ka2 kn2 kc2]) b) := Lib.hid (fun y => (L1.out.to HZ.out).to y.2)
  have M2 : Hid (∀ y : Later w5.heap.size w5, GLies y.1 (.agg #[.slice pa plen pc, .int .i64 p.m.k, .string p.m.c, .string p.m.x, .slice la3 ln3 lc3, .slice aa3 an3 ac3, .int .i64 p.m.t.k, .int .i64 p.m.t.p, .string p.m.t.n, .int .i64 p.m.t.s, .slice ta3 tn3 tc3, .slice ua3 un3 uc3, .slice ka3 kn3 kc3]) p) := Lib.hid (fun y => (L2.out.to HZ.out).to y.2)
  have M3 : Hid (∀ y : Later w5.heap.size w5, GLies y.1 (.agg #[.slice qa qlen qc, .int .i64 q.m.k, .string q.m.c, .string q.m.x, .slice la4 ln4 lc4, .slice aa4 an4 ac4, .int .i64 q.m.t.k, .int .i64 q.m.t.p, .string q.m.t.n, .int .i64 q.m.t.s, .slice ta4 tn4 tc4, .slice ua4 un4 uc4, .slice ka4 kn4 kc4]) q) := Lib.hid (fun y => (L3.out.to HZ.out).to y.2)
  obtain ⟨z0, hz0⟩ : ∃ z : Int, (a.size : Int) = z := ⟨_, rfl⟩
  obtain ⟨z1, hz1⟩ : ∃ z : Int, (a.depth : Int) = z := ⟨_, rfl⟩
  obtain ⟨z2, hz2⟩ : ∃ z : Int, (p.total : Int) = z := ⟨_, rfl⟩
  obtain ⟨e0, he0⟩ : ∃ z, eqP a b = z := ⟨_, rfl⟩
  obtain ⟨e1, he1⟩ : ∃ z, eqG p q = z := ⟨_, rfl⟩
  obtain ⟨e2, he2⟩ : ∃ z, prefixB a.k = z := ⟨_, rfl⟩
  have X0 : Hid (∀ y : Later w5.heap.size w5, _) := Lib.hid (fun y => psize_l (M0.out y) (by omega) (by omega) hz0)
  have X1 : Hid (∀ y : Later w5.heap.size w5, _) := Lib.hid (fun y => prsize_l (M0.out y) (by omega) hz0)
  have X2 : Hid (∀ y : Later w5.heap.size w5, _) := Lib.hid (fun y => pdepth_l (M0.out y) (by omega) hz1)
  have X3 : Hid (∀ y : Later w5.heap.size w5, _) := Lib.hid (fun y => prdepth_l (M0.out y) (by omega) hz1)
  have X4 : Hid (∀ y : Later w5.heap.size w5, _) := Lib.hid (fun y => ptotal_l (M2.out y) hg2.1 hg2.2 hz2)
  have X5 : Hid (∀ y : Later w5.heap.size w5, _) := Lib.hid (fun y => prtotal_l (M2.out y) hg2.1 hg2.2 hz2)
  have X6 : Hid (∀ y : Later w5.heap.size w5, _) := Lib.hid (fun y => psame_l (M0.out y) (M1.out y) he0)
  have X7 : Hid (∀ y : Later w5.heap.size w5, _) := Lib.hid (fun y => rpsame_l (M0.out y) (M1.out y) he0)
  have X8 : Hid (∀ y : Later w5.heap.size w5, _) := Lib.hid (fun y => psame_l (M0.out y) (M0.out y) (eqP_self a))
  have X9 : Hid (∀ y : Later w5.heap.size w5, _) := Lib.hid (fun y => psameG_l (M2.out y) (M3.out y) he1)
  have Xa : Hid (∀ y : Later w5.heap.size w5, _) := Lib.hid (fun y => rpsameG_l (M2.out y) (M3.out y) he1)
  have Xb : Hid (∀ y : Later w5.heap.size w5, _) := Lib.hid (fun y => psameG_l (M2.out y) (M2.out y) (eqG_self p))
  have Xc : Hid (∀ y : Later w5.heap.size w5, _) := Lib.hid (fun y => pprefix_l (M0.out y) he2)
  have ca := fun y : Later w5.heap.size w5 => ((T0.out.to HZ.out).to y.2).cells.1
  have cb := fun y : Later w5.heap.size w5 => ((T1.out.to HZ.out).to y.2).cells.1
  have cp := fun y : Later w5.heap.size w5 => ((T2.out.to HZ.out).to y.2).cells
  have cq := fun y : Later w5.heap.size w5 => ((T3.out.to HZ.out).to y.2).cells
  simp only [forall_and] at ca cb cp cq
  obtain ⟨ca0, ca1, ca2, ca3, ca4, ca5, ca6, ca7, ca8, ca9, ca10, ca11⟩ := ca
  obtain ⟨cb0, cb1, cb2, cb3, cb4, cb5, cb6, cb7, cb8, cb9, cb10, cb11⟩ := cb
  obtain ⟨cp0, cp1, cp2, cp3, cp4, cp5, cp6, cp7, cp8, cp9, cp10, cp11, cp12⟩ := cp
  obtain ⟨cq0, cq1, cq2, cq3, cq4, cq5, cq6, cq7, cq8, cq9, cq10, cq11, cq12⟩ := cq
  have hk2 : prefixB a.k = (decide (2 ≤ a.k) && decide (a.k ≤ 5)) := prefixB_eq a.k
  rw [he2] at hk2
  clear hz0 hz1 hz2 he0 he1 he2 hg2 hg3 fa fb
  have HBB := Lib.hid (below_seq HB0.out HZ.out)
  clear HB0 HE HAW HW0 HPF F0 F1 F2 F3 L0 L1 L2 L3 T0 T1 T2 T3 M0 M1 M2 M3 HZ
  have k2' : decide (2 ≤ a.k) = true := by simpa using k2
  have k5' : decide (a.k ≤ 5) = true := by simpa using k5
  obtain rfl : e2 = true := by rw [hk2, k2', k5']; rfl
  clear hk2 k2 k5
  go_wp2_with fail
  refine wp_region_later w5.heap.size w5 (by kernel_rfl) (by kernel_rfl) (Below.refl _ _) ?_
  repeat (go_big_quiet_step (first
    | (go_at_call 25; with_reducible exact later_call _ (Nat.le_refl _) (X0.out _))
    | (go_at_call 26; with_reducible exact later_call _ (Nat.le_refl _) (X1.out _))
    | (go_at_call 27; with_reducible exact later_call _ (Nat.le_refl _) (X2.out _))
    | (go_at_call 28; with_reducible exact later_call _ (Nat.le_refl _) (X3.out _))
    | (go_at_call 29; with_reducible exact later_call _ (Nat.le_refl _) (X4.out _))
    | (go_at_call 30; with_reducible exact later_call _ (Nat.le_refl _) (X5.out _))
    | (go_at_call 31; first | with_reducible exact later_call _ (Nat.le_refl _) (X8.out _) | with_reducible exact later_call _ (Nat.le_refl _) (X6.out _))
    | (go_at_call 32; with_reducible exact later_call _ (Nat.le_refl _) (X7.out _))
    | (go_at_call 33; first | with_reducible exact later_call _ (Nat.le_refl _) (Xb.out _) | with_reducible exact later_call _ (Nat.le_refl _) (X9.out _))
    | (go_at_call 34; with_reducible exact later_call _ (Nat.le_refl _) (Xa.out _))
    | (go_at_call 35; with_reducible exact later_call _ (Nat.le_refl _) (Xc.out _))))
  refine wpQuiet_nil ?_
  rintro _ ⟨⟨w6, hb6⟩, rfl⟩
  clear ca0 ca1 ca2 ca3 ca4 ca5 ca6 ca7 ca8 ca9 ca10 ca11 cb0 cb1 cb2 cb3 cb4 cb5 cb6 cb7 cb8 cb9 cb10 cb11 cp0 cp1 cp2 cp3 cp4 cp5 cp6 cp7 cp8 cp9 cp10 cp11 cp12 cq0 cq1 cq2 cq3 cq4 cq5 cq6 cq7 cq8 cq9 cq10 cq11 cq12
  go_wp2_with fail
  all_goals
    go_ret
    exact ⟨rfl, below_seq HBB.out hb6⟩

set_option maxHeartbeats 16000000 in
set_option maxRecDepth 100000 in
theorem ProctreeMeasures_k2 (haw : ∀ (E : Nat) (w : World), Env E w → Calls Tryd.prog 22 #[] w fun e w' => e = .returned (.bool true) ∧ Below w.heap.size w w')
    (a b : Pr) (p q : Pg) (v0 v1 v2 v3 : Value) (hpf : Pg.fine p) (hqf : Pg.fine q) (E : Nat) (w : World) (he : Env E w) (h0 : PLies w v0 a) (h1 : PLies w v1 b) (h2 : GLies w v2 p) (h3 : GLies w v3 q) (hf0 : a.few 1000 = true) (hf1 : b.few 1000 = true) (hf2 : p.little 1000 = true) (hf3 : q.little 1000 = true) (k2 : 2 ≤ a.k) (k5 : ¬ a.k ≤ 5) :
    Calls Tryd.prog 5 #[v0, v1, v2, v3] w fun e w' => e = .returned (.bool true) ∧ Below w.heap.size w w' := by
  have g0 := h0
  have g1 := h1
  have g2 := h2
  have g3 := h3
  obtain ⟨lv1, av1, tl1, tk1, kv1, rfl, _⟩ := g0
  obtain ⟨lv2, av2, tl2, tk2, kv2, rfl, _⟩ := g1
  obtain ⟨dv3, lv3, av3, tl3, tk3, kv3, rfl, hd3, hp3⟩ := g2
  obtain ⟨dv4, lv4, av4, tl4, tk4, kv4, rfl, hd4, hp4⟩ := g3
  obtain ⟨⟨la1, ln1, lc1, rfl⟩, ⟨aa1, an1, ac1, rfl⟩, ⟨ta1, tn1, tc1, rfl⟩, ⟨ua1, un1, uc1, rfl⟩, ka1, kn1, kc1, rfl⟩ := pr_slices h0
  obtain ⟨⟨la2, ln2, lc2, rfl⟩, ⟨aa2, an2, ac2, rfl⟩, ⟨ta2, tn2, tc2, rfl⟩, ⟨ua2, un2, uc2, rfl⟩, ka2, kn2, kc2, rfl⟩ := pr_slices h1
  obtain ⟨⟨la3, ln3, lc3, rfl⟩, ⟨aa3, an3, ac3, rfl⟩, ⟨ta3, tn3, tc3, rfl⟩, ⟨ua3, un3, uc3, rfl⟩, ka3, kn3, kc3, rfl⟩ := pr_slices hp3
  obtain ⟨⟨la4, ln4, lc4, rfl⟩, ⟨aa4, an4, ac4, rfl⟩, ⟨ta4, tn4, tc4, rfl⟩, ⟨ua4, un4, uc4, rfl⟩, ka4, kn4, kc4, rfl⟩ := pr_slices hp4
  obtain ⟨pa, plen, pc, rfl, _⟩ := hd3.open
  obtain ⟨qa, qlen, qc, rfl, _⟩ := hd4.open
  obtain ⟨W0, hW0⟩ : ∃ W0, ((((w.alloc (.cells #[.int .i64 a.k, .string a.c, .string a.x, .slice la1 ln1 lc1, .slice aa1 an1 ac1, .int .i64 a.t.k, .int .i64 a.t.p, .string a.t.n, .int .i64 a.t.s, .slice ta1 tn1 tc1, .slice ua1 un1 uc1, .slice ka1 kn1 kc1] 36)).alloc (.cells #[.int .i64 b.k, .string b.c, .string b.x, .slice la2 ln2 lc2, .slice aa2 an2 ac2, .int .i64 b.t.k, .int .i64 b.t.p, .string b.t.n, .int .i64 b.t.s, .slice ta2 tn2 tc2, .slice ua2 un2 uc2, .slice ka2 kn2 kc2] 36)).alloc (.cells #[.slice pa plen pc, .int .i64 p.m.k, .string p.m.c, .string p.m.x, .slice la3 ln3 lc3, .slice aa3 an3 ac3, .int .i64 p.m.t.k, .int .i64 p.m.t.p, .string p.m.t.n, .int .i64 p.m.t.s, .slice ta3 tn3 tc3, .slice ua3 un3 uc3, .slice ka3 kn3 kc3] 39)).alloc (.cells #[.slice qa qlen qc, .int .i64 q.m.k, .string q.m.c, .string q.m.x, .slice la4 ln4 lc4, .slice aa4 an4 ac4, .int .i64 q.m.t.k, .int .i64 q.m.t.p, .string q.m.t.n, .int .i64 q.m.t.s, .slice ta4 tn4 tc4, .slice ua4 un4 uc4, .slice ka4 kn4 kc4] 39)) = W0 := ⟨_, rfl⟩
  obtain ⟨t0, t1, t2, t3, hb0⟩ := made_four w W0 a b p q hW0
  have L0 : Hid (PLies W0 (.agg #[.int .i64 a.k, .string a.c, .string a.x, .slice la1 ln1 lc1, .slice aa1 an1 ac1, .int .i64 a.t.k, .int .i64 a.t.p, .string a.t.n, .int .i64 a.t.s, .slice ta1 tn1 tc1, .slice ua1 un1 uc1, .slice ka1 kn1 kc1]) a) := Lib.hid (h0.to hb0)
  have L1 : Hid (PLies W0 (.agg #[.int .i64 b.k, .string b.c, .string b.x, .slice la2 ln2 lc2, .slice aa2 an2 ac2, .int .i64 b.t.k, .int .i64 b.t.p, .string b.t.n, .int .i64 b.t.s, .slice ta2 tn2 tc2, .slice ua2 un2 uc2, .slice ka2 kn2 kc2]) b) := Lib.hid (h1.to hb0)
  have L2 : Hid (GLies W0 (.agg #[.slice pa plen pc, .int .i64 p.m.k, .string p.m.c, .string p.m.x, .slice la3 ln3 lc3, .slice aa3 an3 ac3, .int .i64 p.m.t.k, .int .i64 p.m.t.p, .string p.m.t.n, .int .i64 p.m.t.s, .slice ta3 tn3 tc3, .slice ua3 un3 uc3, .slice ka3 kn3 kc3]) p) := Lib.hid (h2.to hb0)
  have L3 : Hid (GLies W0 (.agg #[.slice qa qlen qc, .int .i64 q.m.k, .string q.m.c, .string q.m.x, .slice la4 ln4 lc4, .slice aa4 an4 ac4, .int .i64 q.m.t.k, .int .i64 q.m.t.p, .string q.m.t.n, .int .i64 q.m.t.s, .slice ta4 tn4 tc4, .slice ua4 un4 uc4, .slice ka4 kn4 kc4]) q) := Lib.hid (h3.to hb0)
  have T0 := Lib.hid t0
  have T1 := Lib.hid t1
  have T2 := Lib.hid t2
  have T3 := Lib.hid t3
  have HB0 := Lib.hid hb0
  have HE := Lib.hid (he.to hb0)
  have HAW := Lib.hid haw
  have HW0 := Lib.hid hW0
  have HPF := Lib.hid (And.intro hpf hqf)
  have F0 := Lib.hid hf0
  have F1 := Lib.hid hf1
  have F2 := Lib.hid hf2
  have F3 := Lib.hid hf3
  clear h0 h1 h2 h3 hd3 hp3 hd4 hp4 t0 t1 t2 t3 hb0 he hpf hqf haw hW0 hf0 hf1 hf2 hf3
  go_enter Tryd.func5, Tryd.ntmps5
  go_wp2_with fail
  refine calls_at HW0.out ?_
  refine (HAW.out _ _ HE.out).mono ?_
  rintro e w1 ⟨rfl, hb1⟩
  obtain ⟨⟨c0, c1, c2, c3, c4, c5, c6, c7, c8, c9, c10, c11⟩, _⟩ := (T0.out.to hb1).cells
  go_wp2_with fail
  clear c0 c1 c2 c3 c4 c5 c6 c7 c8 c9 c10 c11
  refine (pfew_l (m := 1000) (L0.out.to hb1) (by omega) F0.out).mono ?_
  rintro e w2 ⟨rfl, hb2⟩
  have hz2 := below_seq hb1 hb2
  obtain ⟨⟨c0, c1, c2, c3, c4, c5, c6, c7, c8, c9, c10, c11⟩, _⟩ := (T1.out.to hz2).cells
  go_wp2_with fail
  clear c0 c1 c2 c3 c4 c5 c6 c7 c8 c9 c10 c11
  refine (pfew_l (m := 1000) (L1.out.to hz2) (by omega) F1.out).mono ?_
  rintro e w3 ⟨rfl, hb3⟩
  have hz3 := below_seq hz2 hb3
  obtain ⟨c0, c1, c2, c3, c4, c5, c6, c7, c8, c9, c10, c11, c12⟩ := (T2.out.to hz3).cells
  go_wp2_with fail
  clear c0 c1 c2 c3 c4 c5 c6 c7 c8 c9 c10 c11 c12
  refine (plittle_l (m := 1000) (L2.out.to hz3) (by omega) F2.out).mono ?_
  rintro e w4 ⟨rfl, hb4⟩
  have hz4 := below_seq hz3 hb4
  obtain ⟨c0, c1, c2, c3, c4, c5, c6, c7, c8, c9, c10, c11, c12⟩ := (T3.out.to hz4).cells
  go_wp2_with fail
  clear c0 c1 c2 c3 c4 c5 c6 c7 c8 c9 c10 c11 c12
  refine (plittle_l (m := 1000) (L3.out.to hz4) (by omega) F3.out).mono ?_
  rintro e w5 ⟨rfl, hb5⟩
  have hz5 := below_seq hz4 hb5
  have HZ := Lib.hid hz5
  clear hb1 hb2 hb3 hb4 hb5 hz2 hz3 hz4 hz5
  obtain ⟨-, hg2⟩ := And.intro trivial (little_good (by omega) HPF.out.1 F2.out)
  have hg3 := little_good (by omega) HPF.out.2 F3.out
  have fa := Pr.few_facts F0.out
  have fb := Pr.few_facts F1.out
  have M0 : Hid (∀ y : Later w5.heap.size w5, PLies y.1 (.agg #[.int .i64 a.k, .string a.c, .string a.x, .slice la1 ln1 lc1, .slice aa1 an1 ac1, .int .i64 a.t.k, .int .i64 a.t.p, .string a.t.n, .int .i64 a.t.s, .slice ta1 tn1 tc1, .slice ua1 un1 uc1, .slice ka1 kn1 kc1]) a) := Lib.hid (fun y => (L0.out.to HZ.out).to y.2)
  have M1 : Hid (∀ y : Later w5.heap.size w5, PLies y.1 (.agg #[.int .i64 b.k, .string b.c, .string b.x, .slice la2 ln2 lc2, .slice aa2 an2 ac2, .int .i64 b.t.k, .int .i64 b.t.p, .string b.t.n, .int .i64 b.t.s, .slice ta2 tn2 tc2, .slice ua2 un2 uc2, .slice ka2 kn2 kc2]) b) := Lib.hid (fun y => (L1.out.to HZ.out).to y.2)
  have M2 : Hid (∀ y : Later w5.heap.size w5, GLies y.1 (.agg #[.slice pa plen pc, .int .i64 p.m.k, .string p.m.c, .string p.m.x, .slice la3 ln3 lc3, .slice aa3 an3 ac3, .int .i64 p.m.t.k, .int .i64 p.m.t.p, .string p.m.t.n, .int .i64 p.m.t.s, .slice ta3 tn3 tc3, .slice ua3 un3 uc3, .slice ka3 kn3 kc3]) p) := Lib.hid (fun y => (L2.out.to HZ.out).to y.2)
  have M3 : Hid (∀ y : Later w5.heap.size w5, GLies y.1 (.agg #[.slice qa qlen qc, .int .i64 q.m.k, .string q.m.c, .string q.m.x, .slice la4 ln4 lc4, .slice aa4 an4 ac4, .int .i64 q.m.t.k, .int .i64 q.m.t.p, .string q.m.t.n, .int .i64 q.m.t.s, .slice ta4 tn4 tc4, .slice ua4 un4 uc4, .slice ka4 kn4 kc4]) q) := Lib.hid (fun y => (L3.out.to HZ.out).to y.2)
  obtain ⟨z0, hz0⟩ : ∃ z : Int, (a.size : Int) = z := ⟨_, rfl⟩
  obtain ⟨z1, hz1⟩ : ∃ z : Int, (a.depth : Int) = z := ⟨_, rfl⟩
  obtain ⟨z2, hz2⟩ : ∃ z : Int, (p.total : Int) = z := ⟨_, rfl⟩
  obtain ⟨e0, he0⟩ : ∃ z, eqP a b = z := ⟨_, rfl⟩
  obtain ⟨e1, he1⟩ : ∃ z, eqG p q = z := ⟨_, rfl⟩
  obtain ⟨e2, he2⟩ : ∃ z, prefixB a.k = z := ⟨_, rfl⟩
  have X0 : Hid (∀ y : Later w5.heap.size w5, _) := Lib.hid (fun y => psize_l (M0.out y) (by omega) (by omega) hz0)
  have X1 : Hid (∀ y : Later w5.heap.size w5, _) := Lib.hid (fun y => prsize_l (M0.out y) (by omega) hz0)
  have X2 : Hid (∀ y : Later w5.heap.size w5, _) := Lib.hid (fun y => pdepth_l (M0.out y) (by omega) hz1)
  have X3 : Hid (∀ y : Later w5.heap.size w5, _) := Lib.hid (fun y => prdepth_l (M0.out y) (by omega) hz1)
  have X4 : Hid (∀ y : Later w5.heap.size w5, _) := Lib.hid (fun y => ptotal_l (M2.out y) hg2.1 hg2.2 hz2)
  have X5 : Hid (∀ y : Later w5.heap.size w5, _) := Lib.hid (fun y => prtotal_l (M2.out y) hg2.1 hg2.2 hz2)
  have X6 : Hid (∀ y : Later w5.heap.size w5, _) := Lib.hid (fun y => psame_l (M0.out y) (M1.out y) he0)
  have X7 : Hid (∀ y : Later w5.heap.size w5, _) := Lib.hid (fun y => rpsame_l (M0.out y) (M1.out y) he0)
  have X8 : Hid (∀ y : Later w5.heap.size w5, _) := Lib.hid (fun y => psame_l (M0.out y) (M0.out y) (eqP_self a))
  have X9 : Hid (∀ y : Later w5.heap.size w5, _) := Lib.hid (fun y => psameG_l (M2.out y) (M3.out y) he1)
  have Xa : Hid (∀ y : Later w5.heap.size w5, _) := Lib.hid (fun y => rpsameG_l (M2.out y) (M3.out y) he1)
  have Xb : Hid (∀ y : Later w5.heap.size w5, _) := Lib.hid (fun y => psameG_l (M2.out y) (M2.out y) (eqG_self p))
  have Xc : Hid (∀ y : Later w5.heap.size w5, _) := Lib.hid (fun y => pprefix_l (M0.out y) he2)
  have ca := fun y : Later w5.heap.size w5 => ((T0.out.to HZ.out).to y.2).cells.1
  have cb := fun y : Later w5.heap.size w5 => ((T1.out.to HZ.out).to y.2).cells.1
  have cp := fun y : Later w5.heap.size w5 => ((T2.out.to HZ.out).to y.2).cells
  have cq := fun y : Later w5.heap.size w5 => ((T3.out.to HZ.out).to y.2).cells
  simp only [forall_and] at ca cb cp cq
  obtain ⟨ca0, ca1, ca2, ca3, ca4, ca5, ca6, ca7, ca8, ca9, ca10, ca11⟩ := ca
  obtain ⟨cb0, cb1, cb2, cb3, cb4, cb5, cb6, cb7, cb8, cb9, cb10, cb11⟩ := cb
  obtain ⟨cp0, cp1, cp2, cp3, cp4, cp5, cp6, cp7, cp8, cp9, cp10, cp11, cp12⟩ := cp
  obtain ⟨cq0, cq1, cq2, cq3, cq4, cq5, cq6, cq7, cq8, cq9, cq10, cq11, cq12⟩ := cq
  have hk2 : prefixB a.k = (decide (2 ≤ a.k) && decide (a.k ≤ 5)) := prefixB_eq a.k
  rw [he2] at hk2
  clear hz0 hz1 hz2 he0 he1 he2 hg2 hg3 fa fb
  have HBB := Lib.hid (below_seq HB0.out HZ.out)
  clear HB0 HE HAW HW0 HPF F0 F1 F2 F3 L0 L1 L2 L3 T0 T1 T2 T3 M0 M1 M2 M3 HZ
  have k2' : decide (2 ≤ a.k) = true := by simpa using k2
  have k5' : decide (a.k ≤ 5) = false := by simpa using k5
  obtain rfl : e2 = false := by rw [hk2, k2', k5']; rfl
  clear hk2 k2 k5
  go_wp2_with fail
  refine wp_region_later w5.heap.size w5 (by kernel_rfl) (by kernel_rfl) (Below.refl _ _) ?_
  repeat (go_big_quiet_step (first
    | (go_at_call 25; with_reducible exact later_call _ (Nat.le_refl _) (X0.out _))
    | (go_at_call 26; with_reducible exact later_call _ (Nat.le_refl _) (X1.out _))
    | (go_at_call 27; with_reducible exact later_call _ (Nat.le_refl _) (X2.out _))
    | (go_at_call 28; with_reducible exact later_call _ (Nat.le_refl _) (X3.out _))
    | (go_at_call 29; with_reducible exact later_call _ (Nat.le_refl _) (X4.out _))
    | (go_at_call 30; with_reducible exact later_call _ (Nat.le_refl _) (X5.out _))
    | (go_at_call 31; first | with_reducible exact later_call _ (Nat.le_refl _) (X8.out _) | with_reducible exact later_call _ (Nat.le_refl _) (X6.out _))
    | (go_at_call 32; with_reducible exact later_call _ (Nat.le_refl _) (X7.out _))
    | (go_at_call 33; first | with_reducible exact later_call _ (Nat.le_refl _) (Xb.out _) | with_reducible exact later_call _ (Nat.le_refl _) (X9.out _))
    | (go_at_call 34; with_reducible exact later_call _ (Nat.le_refl _) (Xa.out _))
    | (go_at_call 35; with_reducible exact later_call _ (Nat.le_refl _) (Xc.out _))))
  refine wpQuiet_nil ?_
  rintro _ ⟨⟨w6, hb6⟩, rfl⟩
  clear ca0 ca1 ca2 ca3 ca4 ca5 ca6 ca7 ca8 ca9 ca10 ca11 cb0 cb1 cb2 cb3 cb4 cb5 cb6 cb7 cb8 cb9 cb10 cb11 cp0 cp1 cp2 cp3 cp4 cp5 cp6 cp7 cp8 cp9 cp10 cp11 cp12 cq0 cq1 cq2 cq3 cq4 cq5 cq6 cq7 cq8 cq9 cq10 cq11 cq12
  go_wp2_with fail
  all_goals
    go_ret
    exact ⟨rfl, below_seq HBB.out hb6⟩

set_option maxHeartbeats 16000000 in
set_option maxRecDepth 100000 in
theorem ProctreeMeasures_k3 (haw : ∀ (E : Nat) (w : World), Env E w → Calls Tryd.prog 22 #[] w fun e w' => e = .returned (.bool true) ∧ Below w.heap.size w w')
    (a b : Pr) (p q : Pg) (v0 v1 v2 v3 : Value) (hpf : Pg.fine p) (hqf : Pg.fine q) (E : Nat) (w : World) (he : Env E w) (h0 : PLies w v0 a) (h1 : PLies w v1 b) (h2 : GLies w v2 p) (h3 : GLies w v3 q) (hf0 : a.few 1000 = true) (hf1 : b.few 1000 = true) (hf2 : p.little 1000 = true) (hf3 : q.little 1000 = true) (k2 : ¬ 2 ≤ a.k) :
    Calls Tryd.prog 5 #[v0, v1, v2, v3] w fun e w' => e = .returned (.bool true) ∧ Below w.heap.size w w' := by
  have g0 := h0
  have g1 := h1
  have g2 := h2
  have g3 := h3
  obtain ⟨lv1, av1, tl1, tk1, kv1, rfl, _⟩ := g0
  obtain ⟨lv2, av2, tl2, tk2, kv2, rfl, _⟩ := g1
  obtain ⟨dv3, lv3, av3, tl3, tk3, kv3, rfl, hd3, hp3⟩ := g2
  obtain ⟨dv4, lv4, av4, tl4, tk4, kv4, rfl, hd4, hp4⟩ := g3
  obtain ⟨⟨la1, ln1, lc1, rfl⟩, ⟨aa1, an1, ac1, rfl⟩, ⟨ta1, tn1, tc1, rfl⟩, ⟨ua1, un1, uc1, rfl⟩, ka1, kn1, kc1, rfl⟩ := pr_slices h0
  obtain ⟨⟨la2, ln2, lc2, rfl⟩, ⟨aa2, an2, ac2, rfl⟩, ⟨ta2, tn2, tc2, rfl⟩, ⟨ua2, un2, uc2, rfl⟩, ka2, kn2, kc2, rfl⟩ := pr_slices h1
  obtain ⟨⟨la3, ln3, lc3, rfl⟩, ⟨aa3, an3, ac3, rfl⟩, ⟨ta3, tn3, tc3, rfl⟩, ⟨ua3, un3, uc3, rfl⟩, ka3, kn3, kc3, rfl⟩ := pr_slices hp3
  obtain ⟨⟨la4, ln4, lc4, rfl⟩, ⟨aa4, an4, ac4, rfl⟩, ⟨ta4, tn4, tc4, rfl⟩, ⟨ua4, un4, uc4, rfl⟩, ka4, kn4, kc4, rfl⟩ := pr_slices hp4
  obtain ⟨pa, plen, pc, rfl, _⟩ := hd3.open
  obtain ⟨qa, qlen, qc, rfl, _⟩ := hd4.open
  obtain ⟨W0, hW0⟩ : ∃ W0, ((((w.alloc (.cells #[.int .i64 a.k, .string a.c, .string a.x, .slice la1 ln1 lc1, .slice aa1 an1 ac1, .int .i64 a.t.k, .int .i64 a.t.p, .string a.t.n, .int .i64 a.t.s, .slice ta1 tn1 tc1, .slice ua1 un1 uc1, .slice ka1 kn1 kc1] 36)).alloc (.cells #[.int .i64 b.k, .string b.c, .string b.x, .slice la2 ln2 lc2, .slice aa2 an2 ac2, .int .i64 b.t.k, .int .i64 b.t.p, .string b.t.n, .int .i64 b.t.s, .slice ta2 tn2 tc2, .slice ua2 un2 uc2, .slice ka2 kn2 kc2] 36)).alloc (.cells #[.slice pa plen pc, .int .i64 p.m.k, .string p.m.c, .string p.m.x, .slice la3 ln3 lc3, .slice aa3 an3 ac3, .int .i64 p.m.t.k, .int .i64 p.m.t.p, .string p.m.t.n, .int .i64 p.m.t.s, .slice ta3 tn3 tc3, .slice ua3 un3 uc3, .slice ka3 kn3 kc3] 39)).alloc (.cells #[.slice qa qlen qc, .int .i64 q.m.k, .string q.m.c, .string q.m.x, .slice la4 ln4 lc4, .slice aa4 an4 ac4, .int .i64 q.m.t.k, .int .i64 q.m.t.p, .string q.m.t.n, .int .i64 q.m.t.s, .slice ta4 tn4 tc4, .slice ua4 un4 uc4, .slice ka4 kn4 kc4] 39)) = W0 := ⟨_, rfl⟩
  obtain ⟨t0, t1, t2, t3, hb0⟩ := made_four w W0 a b p q hW0
  have L0 : Hid (PLies W0 (.agg #[.int .i64 a.k, .string a.c, .string a.x, .slice la1 ln1 lc1, .slice aa1 an1 ac1, .int .i64 a.t.k, .int .i64 a.t.p, .string a.t.n, .int .i64 a.t.s, .slice ta1 tn1 tc1, .slice ua1 un1 uc1, .slice ka1 kn1 kc1]) a) := Lib.hid (h0.to hb0)
  have L1 : Hid (PLies W0 (.agg #[.int .i64 b.k, .string b.c, .string b.x, .slice la2 ln2 lc2, .slice aa2 an2 ac2, .int .i64 b.t.k, .int .i64 b.t.p, .string b.t.n, .int .i64 b.t.s, .slice ta2 tn2 tc2, .slice ua2 un2 uc2, .slice ka2 kn2 kc2]) b) := Lib.hid (h1.to hb0)
  have L2 : Hid (GLies W0 (.agg #[.slice pa plen pc, .int .i64 p.m.k, .string p.m.c, .string p.m.x, .slice la3 ln3 lc3, .slice aa3 an3 ac3, .int .i64 p.m.t.k, .int .i64 p.m.t.p, .string p.m.t.n, .int .i64 p.m.t.s, .slice ta3 tn3 tc3, .slice ua3 un3 uc3, .slice ka3 kn3 kc3]) p) := Lib.hid (h2.to hb0)
  have L3 : Hid (GLies W0 (.agg #[.slice qa qlen qc, .int .i64 q.m.k, .string q.m.c, .string q.m.x, .slice la4 ln4 lc4, .slice aa4 an4 ac4, .int .i64 q.m.t.k, .int .i64 q.m.t.p, .string q.m.t.n, .int .i64 q.m.t.s, .slice ta4 tn4 tc4, .slice ua4 un4 uc4, .slice ka4 kn4 kc4]) q) := Lib.hid (h3.to hb0)
  have T0 := Lib.hid t0
  have T1 := Lib.hid t1
  have T2 := Lib.hid t2
  have T3 := Lib.hid t3
  have HB0 := Lib.hid hb0
  have HE := Lib.hid (he.to hb0)
  have HAW := Lib.hid haw
  have HW0 := Lib.hid hW0
  have HPF := Lib.hid (And.intro hpf hqf)
  have F0 := Lib.hid hf0
  have F1 := Lib.hid hf1
  have F2 := Lib.hid hf2
  have F3 := Lib.hid hf3
  clear h0 h1 h2 h3 hd3 hp3 hd4 hp4 t0 t1 t2 t3 hb0 he hpf hqf haw hW0 hf0 hf1 hf2 hf3
  go_enter Tryd.func5, Tryd.ntmps5
  go_wp2_with fail
  refine calls_at HW0.out ?_
  refine (HAW.out _ _ HE.out).mono ?_
  rintro e w1 ⟨rfl, hb1⟩
  obtain ⟨⟨c0, c1, c2, c3, c4, c5, c6, c7, c8, c9, c10, c11⟩, _⟩ := (T0.out.to hb1).cells
  go_wp2_with fail
  clear c0 c1 c2 c3 c4 c5 c6 c7 c8 c9 c10 c11
  refine (pfew_l (m := 1000) (L0.out.to hb1) (by omega) F0.out).mono ?_
  rintro e w2 ⟨rfl, hb2⟩
  have hz2 := below_seq hb1 hb2
  obtain ⟨⟨c0, c1, c2, c3, c4, c5, c6, c7, c8, c9, c10, c11⟩, _⟩ := (T1.out.to hz2).cells
  go_wp2_with fail
  clear c0 c1 c2 c3 c4 c5 c6 c7 c8 c9 c10 c11
  refine (pfew_l (m := 1000) (L1.out.to hz2) (by omega) F1.out).mono ?_
  rintro e w3 ⟨rfl, hb3⟩
  have hz3 := below_seq hz2 hb3
  obtain ⟨c0, c1, c2, c3, c4, c5, c6, c7, c8, c9, c10, c11, c12⟩ := (T2.out.to hz3).cells
  go_wp2_with fail
  clear c0 c1 c2 c3 c4 c5 c6 c7 c8 c9 c10 c11 c12
  refine (plittle_l (m := 1000) (L2.out.to hz3) (by omega) F2.out).mono ?_
  rintro e w4 ⟨rfl, hb4⟩
  have hz4 := below_seq hz3 hb4
  obtain ⟨c0, c1, c2, c3, c4, c5, c6, c7, c8, c9, c10, c11, c12⟩ := (T3.out.to hz4).cells
  go_wp2_with fail
  clear c0 c1 c2 c3 c4 c5 c6 c7 c8 c9 c10 c11 c12
  refine (plittle_l (m := 1000) (L3.out.to hz4) (by omega) F3.out).mono ?_
  rintro e w5 ⟨rfl, hb5⟩
  have hz5 := below_seq hz4 hb5
  have HZ := Lib.hid hz5
  clear hb1 hb2 hb3 hb4 hb5 hz2 hz3 hz4 hz5
  obtain ⟨-, hg2⟩ := And.intro trivial (little_good (by omega) HPF.out.1 F2.out)
  have hg3 := little_good (by omega) HPF.out.2 F3.out
  have fa := Pr.few_facts F0.out
  have fb := Pr.few_facts F1.out
  have M0 : Hid (∀ y : Later w5.heap.size w5, PLies y.1 (.agg #[.int .i64 a.k, .string a.c, .string a.x, .slice la1 ln1 lc1, .slice aa1 an1 ac1, .int .i64 a.t.k, .int .i64 a.t.p, .string a.t.n, .int .i64 a.t.s, .slice ta1 tn1 tc1, .slice ua1 un1 uc1, .slice ka1 kn1 kc1]) a) := Lib.hid (fun y => (L0.out.to HZ.out).to y.2)
  have M1 : Hid (∀ y : Later w5.heap.size w5, PLies y.1 (.agg #[.int .i64 b.k, .string b.c, .string b.x, .slice la2 ln2 lc2, .slice aa2 an2 ac2, .int .i64 b.t.k, .int .i64 b.t.p, .string b.t.n, .int .i64 b.t.s, .slice ta2 tn2 tc2, .slice ua2 un2 uc2, .slice ka2 kn2 kc2]) b) := Lib.hid (fun y => (L1.out.to HZ.out).to y.2)
  have M2 : Hid (∀ y : Later w5.heap.size w5, GLies y.1 (.agg #[.slice pa plen pc, .int .i64 p.m.k, .string p.m.c, .string p.m.x, .slice la3 ln3 lc3, .slice aa3 an3 ac3, .int .i64 p.m.t.k, .int .i64 p.m.t.p, .string p.m.t.n, .int .i64 p.m.t.s, .slice ta3 tn3 tc3, .slice ua3 un3 uc3, .slice ka3 kn3 kc3]) p) := Lib.hid (fun y => (L2.out.to HZ.out).to y.2)
  have M3 : Hid (∀ y : Later w5.heap.size w5, GLies y.1 (.agg #[.slice qa qlen qc, .int .i64 q.m.k, .string q.m.c, .string q.m.x, .slice la4 ln4 lc4, .slice aa4 an4 ac4, .int .i64 q.m.t.k, .int .i64 q.m.t.p, .string q.m.t.n, .int .i64 q.m.t.s, .slice ta4 tn4 tc4, .slice ua4 un4 uc4, .slice ka4 kn4 kc4]) q) := Lib.hid (fun y => (L3.out.to HZ.out).to y.2)
  obtain ⟨z0, hz0⟩ : ∃ z : Int, (a.size : Int) = z := ⟨_, rfl⟩
  obtain ⟨z1, hz1⟩ : ∃ z : Int, (a.depth : Int) = z := ⟨_, rfl⟩
  obtain ⟨z2, hz2⟩ : ∃ z : Int, (p.total : Int) = z := ⟨_, rfl⟩
  obtain ⟨e0, he0⟩ : ∃ z, eqP a b = z := ⟨_, rfl⟩
  obtain ⟨e1, he1⟩ : ∃ z, eqG p q = z := ⟨_, rfl⟩
  obtain ⟨e2, he2⟩ : ∃ z, prefixB a.k = z := ⟨_, rfl⟩
  have X0 : Hid (∀ y : Later w5.heap.size w5, _) := Lib.hid (fun y => psize_l (M0.out y) (by omega) (by omega) hz0)
  have X1 : Hid (∀ y : Later w5.heap.size w5, _) := Lib.hid (fun y => prsize_l (M0.out y) (by omega) hz0)
  have X2 : Hid (∀ y : Later w5.heap.size w5, _) := Lib.hid (fun y => pdepth_l (M0.out y) (by omega) hz1)
  have X3 : Hid (∀ y : Later w5.heap.size w5, _) := Lib.hid (fun y => prdepth_l (M0.out y) (by omega) hz1)
  have X4 : Hid (∀ y : Later w5.heap.size w5, _) := Lib.hid (fun y => ptotal_l (M2.out y) hg2.1 hg2.2 hz2)
  have X5 : Hid (∀ y : Later w5.heap.size w5, _) := Lib.hid (fun y => prtotal_l (M2.out y) hg2.1 hg2.2 hz2)
  have X6 : Hid (∀ y : Later w5.heap.size w5, _) := Lib.hid (fun y => psame_l (M0.out y) (M1.out y) he0)
  have X7 : Hid (∀ y : Later w5.heap.size w5, _) := Lib.hid (fun y => rpsame_l (M0.out y) (M1.out y) he0)
  have X8 : Hid (∀ y : Later w5.heap.size w5, _) := Lib.hid (fun y => psame_l (M0.out y) (M0.out y) (eqP_self a))
  have X9 : Hid (∀ y : Later w5.heap.size w5, _) := Lib.hid (fun y => psameG_l (M2.out y) (M3.out y) he1)
  have Xa : Hid (∀ y : Later w5.heap.size w5, _) := Lib.hid (fun y => rpsameG_l (M2.out y) (M3.out y) he1)
  have Xb : Hid (∀ y : Later w5.heap.size w5, _) := Lib.hid (fun y => psameG_l (M2.out y) (M2.out y) (eqG_self p))
  have Xc : Hid (∀ y : Later w5.heap.size w5, _) := Lib.hid (fun y => pprefix_l (M0.out y) he2)
  have ca := fun y : Later w5.heap.size w5 => ((T0.out.to HZ.out).to y.2).cells.1
  have cb := fun y : Later w5.heap.size w5 => ((T1.out.to HZ.out).to y.2).cells.1
  have cp := fun y : Later w5.heap.size w5 => ((T2.out.to HZ.out).to y.2).cells
  have cq := fun y : Later w5.heap.size w5 => ((T3.out.to HZ.out).to y.2).cells
  simp only [forall_and] at ca cb cp cq
  obtain ⟨ca0, ca1, ca2, ca3, ca4, ca5, ca6, ca7, ca8, ca9, ca10, ca11⟩ := ca
  obtain ⟨cb0, cb1, cb2, cb3, cb4, cb5, cb6, cb7, cb8, cb9, cb10, cb11⟩ := cb
  obtain ⟨cp0, cp1, cp2, cp3, cp4, cp5, cp6, cp7, cp8, cp9, cp10, cp11, cp12⟩ := cp
  obtain ⟨cq0, cq1, cq2, cq3, cq4, cq5, cq6, cq7, cq8, cq9, cq10, cq11, cq12⟩ := cq
  have hk2 : prefixB a.k = (decide (2 ≤ a.k) && decide (a.k ≤ 5)) := prefixB_eq a.k
  rw [he2] at hk2
  clear hz0 hz1 hz2 he0 he1 he2 hg2 hg3 fa fb
  have HBB := Lib.hid (below_seq HB0.out HZ.out)
  clear HB0 HE HAW HW0 HPF F0 F1 F2 F3 L0 L1 L2 L3 T0 T1 T2 T3 M0 M1 M2 M3 HZ
  have k2' : decide (2 ≤ a.k) = false := by simpa using k2
  obtain rfl : e2 = false := by rw [hk2, k2']; rfl
  clear hk2 k2
  go_wp2_with fail
  refine wp_region_later w5.heap.size w5 (by kernel_rfl) (by kernel_rfl) (Below.refl _ _) ?_
  repeat (go_big_quiet_step (first
    | (go_at_call 25; with_reducible exact later_call _ (Nat.le_refl _) (X0.out _))
    | (go_at_call 26; with_reducible exact later_call _ (Nat.le_refl _) (X1.out _))
    | (go_at_call 27; with_reducible exact later_call _ (Nat.le_refl _) (X2.out _))
    | (go_at_call 28; with_reducible exact later_call _ (Nat.le_refl _) (X3.out _))
    | (go_at_call 29; with_reducible exact later_call _ (Nat.le_refl _) (X4.out _))
    | (go_at_call 30; with_reducible exact later_call _ (Nat.le_refl _) (X5.out _))
    | (go_at_call 31; first | with_reducible exact later_call _ (Nat.le_refl _) (X8.out _) | with_reducible exact later_call _ (Nat.le_refl _) (X6.out _))
    | (go_at_call 32; with_reducible exact later_call _ (Nat.le_refl _) (X7.out _))
    | (go_at_call 33; first | with_reducible exact later_call _ (Nat.le_refl _) (Xb.out _) | with_reducible exact later_call _ (Nat.le_refl _) (X9.out _))
    | (go_at_call 34; with_reducible exact later_call _ (Nat.le_refl _) (Xa.out _))
    | (go_at_call 35; with_reducible exact later_call _ (Nat.le_refl _) (Xc.out _))))
  refine wpQuiet_nil ?_
  rintro _ ⟨⟨w6, hb6⟩, rfl⟩
  clear ca0 ca1 ca2 ca3 ca4 ca5 ca6 ca7 ca8 ca9 ca10 ca11 cb0 cb1 cb2 cb3 cb4 cb5 cb6 cb7 cb8 cb9 cb10 cb11 cp0 cp1 cp2 cp3 cp4 cp5 cp6 cp7 cp8 cp9 cp10 cp11 cp12 cq0 cq1 cq2 cq3 cq4 cq5 cq6 cq7 cq8 cq9 cq10 cq11 cq12
  go_wp2_with fail
  all_goals
    go_ret
    exact ⟨rfl, below_seq HBB.out hb6⟩

set_option maxHeartbeats 16000000 in
set_option maxRecDepth 100000 in
theorem ProctreeMeasures_of (haw : ∀ (E : Nat) (w : World), Env E w → Calls Tryd.prog 22 #[] w fun e w' => e = .returned (.bool true) ∧ Below w.heap.size w w')
    (a b : Pr) (p q : Pg) (v0 v1 v2 v3 : Value) (hpf : Pg.fine p) (hqf : Pg.fine q) (E : Nat) (w : World) (he : Env E w) (h0 : PLies w v0 a) (h1 : PLies w v1 b) (h2 : GLies w v2 p) (h3 : GLies w v3 q) :
    Calls Tryd.prog 5 #[v0, v1, v2, v3] w fun e w' => e = .returned (.bool true) ∧ Below w.heap.size w w' := by
  by_cases hall : a.few 1000 = true ∧ b.few 1000 = true ∧ p.little 1000 = true ∧ q.little 1000 = true
  · obtain ⟨hf0, hf1, hf2, hf3⟩ := hall
    by_cases k2 : 2 ≤ a.k
    · by_cases k5 : a.k ≤ 5
      · exact ProctreeMeasures_k1 haw a b p q v0 v1 v2 v3 hpf hqf E w he h0 h1 h2 h3 hf0 hf1 hf2 hf3 k2 k5
      · exact ProctreeMeasures_k2 haw a b p q v0 v1 v2 v3 hpf hqf E w he h0 h1 h2 h3 hf0 hf1 hf2 hf3 k2 k5
    · exact ProctreeMeasures_k3 haw a b p q v0 v1 v2 v3 hpf hqf E w he h0 h1 h2 h3 hf0 hf1 hf2 hf3 k2
  · exact ProctreeMeasures_no haw a b p q v0 v1 v2 v3 hpf hqf E w he h0 h1 h2 h3 hall

end Go.Proofs.YtliijbcgkkiekaaDoor
