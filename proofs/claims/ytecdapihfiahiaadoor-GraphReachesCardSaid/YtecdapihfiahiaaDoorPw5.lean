/- Graphs: Reach. (and what follows from it) -/
import Derived.Test.YtecdapihfiahiaaDoorPw3

/- Graphs: Reach. -/
namespace Go.Proofs.YtecdapihfiahiaaDoor
open Go.RowKit Go.Deep Go.Shelf

def natOf : Value → Nat | .int _ x => x.toNat | _ => 0
/-- The words that a block holds. -/
def wordsIn (W : World) (b : Nat) : List Nat := match W.heap[b]? with | some (.cells cs _ _) => cs.toList.map natOf | _ => []
theorem Words.in_ {W : World} {b : Nat} {ws : List Nat} (h : Words W b ws) : wordsIn W b = ws := by
  unfold wordsIn
  rw [h.at_]
  simp only [List.map_map]
  have : (natOf ∘ wordV) = id := by funext x; simp [natOf]
  rw [this, List.map_id]
theorem cntG_le (ns : List GNode) (S : Nat → Bool) : cntG ns S ≤ ns.length := by unfold cntG; refine Nat.le_trans (List.length_filter_le _ _) ?_; simp
def lenOfV : Value → Nat | .slice _ n _ => n | _ => 0
/-- The two boxes of Reach. -/
structure Boxes (W : World) (b : Nat) (g : Value) (x y : Value) : Prop where
  g : W.heap[b]? = some (.cells #[g] 27 (0, 0))
  r : W.heap[b + 1]? = some (refBox x y)
theorem Boxes.same {W W' : World} {b : Nat} {g x y : Value} (h : Boxes W b g x y) (e : ∀ k, k < b + 2 → W'.heap[k]? = W.heap[k]?) : Boxes W' b g x y := ⟨(e b (by omega)).trans h.g, (e (b + 1) (by omega)).trans h.r⟩
theorem Boxes.cells {W : World} {b : Nat} {g x y : Value} (h : Boxes W b g x y) : W.cell? ⟨b, 0, none⟩ = some g ∧ W.cell? ⟨b + 1, 0, none⟩ = some x ∧ W.cell? ⟨b + 1, 1, none⟩ = some y := by
  obtain ⟨h1, h2, _⟩ := two_cells h.r
  exact ⟨by simp [World.cell?, h.g], h1, h2⟩
theorem after_add {w wr w5 : World} {sb : Nat} {ws : List Nat} {v g x y a b : Value} {es : List (List Value)} (hW : Words wr sb ws) (hB : Below w.heap.size w wr) (hg : (wr.alloc (refBox a b)).grownBy w5 (some sb)) (hsb : w.heap.size + 2 ≤ sb)
    (hR : GRow 3 1 w.heap.size wr v es) (hX : Boxes wr w.heap.size g x y) :
    GRow 3 1 w.heap.size w5 v es ∧ Boxes w5 w.heap.size g x y ∧ Below w.heap.size w w5 ∧ w5.heap[wr.heap.size]? = some (refBox a b) := by
  have hlt : sb < wr.heap.size := (Array.getElem?_eq_some_iff.1 hW.at_).1
  have hal : ∀ k, k < wr.heap.size → (wr.alloc (refBox a b)).heap[k]? = wr.heap[k]? := fun k hk => Below.heap_alloc _ _ _ hk
  have hx1 := (Array.getElem?_eq_some_iff.1 hX.r).1
  have hsz := hB.size
  refine ⟨?_, ?_, ?_, ?_⟩
  · refine hR.kept (fun k hk => ?_)
    have hkl := (hR.lt k hk).2
    refine (hg.block k (by simp; omega) (fun e => ?_)).trans (hal k hkl)
    obtain rfl := Option.some.inj e
    exact hR.ne hW.at_ (by decide) hk.symm
  · refine hX.same (fun k hk => (hg.block k (by simp; omega) (fun e => ?_)).trans (hal k (by omega)))
    have := Option.some.inj e; omega
  · exact (hB.alloc hsz _).grown hg (by simp; omega) (fun k e => by cases e; omega)
  · refine (hg.block _ (by simp) (fun e => ?_)).trans (World.alloc_heap_new _ _)
    have := Option.some.inj e; omega
theorem filter_range {S : Nat → Bool} {L M : Nat} (hLM : L ≤ M) (h : ∀ n, S n = true → n < L) : (List.range M).filter S = (List.range L).filter S := by
  obtain ⟨d, rfl⟩ : ∃ d, M = L + d := ⟨M - L, by omega⟩
  rw [List.range_add, List.filter_append]
  have : ((List.range d).map (L + ·)).filter S = [] := by
    rw [List.filter_eq_nil_iff]
    intro x hx hS
    obtain ⟨y, _, rfl⟩ := List.mem_map.1 hx
    have := h _ hS
    omega
  rw [this, List.append_nil]

set_option maxHeartbeats 8000000 in
set_option maxRecDepth 100000 in
theorem reach_any (ns : List GNode) (na : Option Addr) (nn nc : Nat) (a : Nat) (s : Int) (E : Nat) (w : World) (he : GEnvW E w) (hns : NodeSl (fun k => k < w.heap.size) w (.slice na nn nc) ns) (hw : wfG ns) (ha : a < ns.length) (hl : ns.length ≤ 1000000) :
    Calls Tryd.prog 13 #[.agg #[.slice na nn nc], .agg #[.int .i64 (a : Int), .int .i64 s]] w fun e w' => ∃ (S : Nat → Bool) (ra : Option Addr) (rn rc : Nat), Least ns a S ∧ e = .returned (.slice ra rn rc) ∧ GRow 3 1 w.heap.size w' (.slice ra rn rc) (((List.range ns.length).filter S).map intCell) ∧ Below w.heap.size w w' := by
  obtain ⟨pa, len, c, e0, hlen, hmx, hget⟩ := hns.open
  simp only [Value.slice.injEq] at e0
  obtain ⟨rfl, rfl, rfl⟩ := e0
  have hnn : nn ≤ 1000000 := by have := hlen.out; omega
  obtain ⟨W2, hW2⟩ : ∃ W2, (w.alloc (.cells #[.slice na nn nc] 27)).alloc (refBox (.int .i64 (a : Int)) (.int .i64 s)) = W2 := ⟨_, rfl⟩
  have hs2 : W2.heap.size = w.heap.size + 2 := by rw [← hW2]; simp
  have hb2 : Below w.heap.size w W2 := by rw [← hW2]; exact ((Below.refl _ _).alloc (Nat.le_refl _) _).alloc (by simp) _
  have hx2 : Boxes W2 w.heap.size (.slice na nn nc) (.int .i64 (a : Int)) (.int .i64 s) := by
    rw [← hW2]
    refine ⟨by rw [(Below.heap_alloc _ _ _ (by simp))]; exact World.alloc_heap_new _ _, ?_⟩
    have := World.alloc_heap_new (w.alloc (.cells #[.slice na nn nc] 27)) (refBox (.int .i64 (a : Int)) (.int .i64 s))
    rwa [World.size_alloc] at this
  have HW2 := Lib.hid hW2
  have HB2 := Lib.hid hb2
  have HX2 := Lib.hid hx2
  have HE := Lib.hid he
  have HW := Lib.hid hw
  have HA := Lib.hid ha
  have HES := Lib.hid (emptySet_any nn hnn W2)
  have HG : Hid (∀ (W : World), Below w.heap.size w W → ∀ (j : Nat) (g : GNode), ns[j]? = some g → ∃ kb ko xa xn xc, na = some ⟨kb, ko, none⟩ ∧ W.cell? ⟨kb, ko + j * 4 + 3, none⟩ = some (.slice xa xn xc) ∧ Hid (xn = g.nx.length) ∧ xn ≤ 9223372036854775807 ∧ ∀ k r, g.nx[k]? = some r → ∃ qb qo, xa = some ⟨qb, qo, none⟩ ∧ ∀ W, Below w.heap.size w W → W.cell? ⟨qb, qo + k * 2, none⟩ = some (.int .i64 r.n) ∧ W.cell? ⟨qb, qo + k * 2 + 1, none⟩ = some (.int .i64 r.s)) := Lib.hid (fun W hW j g hj => by
    obtain ⟨kb, ko, e1, hkb, _, _, lv, nv, _, h3, _, h6⟩ := hget j g hj
    obtain ⟨xa, xn, xc, rfl, hxl, hxm, hxg⟩ := h6.open
    refine ⟨kb, ko, xa, xn, xc, e1, (hW.cell (p := ⟨kb, _, none⟩) hkb).trans h3, hxl, hxm, fun k r hk => ?_⟩
    obtain ⟨qb, qo, e2, hqb, h7, h8⟩ := hxg k r hk
    exact ⟨qb, qo, e2, fun W hW => ⟨(hW.cell (p := ⟨qb, _, none⟩) hqb).trans h7, (hW.cell (p := ⟨qb, _, none⟩) hqb).trans h8⟩⟩)
  obtain ⟨q0, q1, q2⟩ := hx2.cells
  clear hns hw hget hW2 hb2 hx2 he
  go_enter Tryd.func13, Tryd.ntmps13
  go_upto_region 1 with fail
  rw [show (w.alloc (.cells #[.slice na nn nc] 27)).alloc (.cells #[.int .i64 (a : Int), .int .i64 s] 37) = W2 from HW2.out]
  go_upto_region 2 with (go_at_call 24; go_loud (refine HES.out.mono ?_; rintro en w3 ⟨N, sb, hN, rfl, hsb, hw3, hb3⟩; have HNN := Lib.hid hN; clear hN))
  have hwl : (List.replicate N 0).length = N := List.length_replicate
  have hx0 : (List.replicate N 0)[a / 64]? = some 0 := by
    have := hlen.out
    have := HNN.out
    rw [List.getElem?_replicate, if_pos (by omega)]
  have hx3 : Boxes w3 w.heap.size (.slice na nn nc) (.int .i64 (a : Int)) (.int .i64 s) := HX2.out.same (fun k hk => hb3.block k (by omega))
  have HB3 := Lib.hid (HB2.out.trans (hb3.mono (by omega)))
  have HX3 := Lib.hid hx3
  have HAD := add_bit sb (List.replicate N 0) a N 0 w3 hw3 hx0 (by omega)
  rw [hwl] at HAD
  have HAD1 := Lib.hid HAD
  obtain ⟨q0, q1, q2⟩ := hx3.cells
  clear HAD hx3 hb3 hwl hx0 hw3
  go_upto_region 3 with (go_at_call 25; go_loud (refine HAD1.out.mono ?_; rintro en w4 ⟨rfl, hw4, hg4⟩; have HW4 := Lib.hid hw4; have HG4 := Lib.hid hg4; clear hw4 hg4))
  have hsb2 : w.heap.size + 2 ≤ sb := by rw [← hs2]; exact hsb
  have hx4 : Boxes w4 w.heap.size (.slice na nn nc) (.int .i64 (a : Int)) (.int .i64 s) := HX3.out.same (fun k hk => HG4.out.block k (by
    have h1 := (Array.getElem?_eq_some_iff.1 HX3.out.r).1
    omega) (fun e => by have := Option.some.inj e; omega))
  have hb4 : Below w.heap.size w w4 := HB3.out.grown HG4.out HB3.out.size (fun k e => by cases e; omega)
  obtain ⟨ws0, hws0⟩ : ∃ ws0, (List.replicate N 0).set (a / 64) (0 ||| 2 ^ (a % 64)) = ws0 := ⟨_, rfl⟩
  have hin0 : inW ws0 = fun n => n == a := by
    funext m
    rw [← hws0, inW_add (x := 0) (by have := hlen.out; have := HNN.out; rw [List.getElem?_replicate, if_pos (by omega)]) m, inW_new, Bool.or_false]
  have hl0 : ws0.length = N := by rw [← hws0]; simp
  have hw4 := HW4.out
  rw [hws0] at hw4
  have HW4' := Lib.hid hw4
  have HL0 := Lib.hid hl0
  have HI0 := Lib.hid hin0
  have HB4 := Lib.hid hb4
  have HX4 := Lib.hid hx4
  obtain ⟨q0', q1', q2'⟩ := hx4.cells
  have hsz4 : w.heap.size ≤ w4.heap.size := hb4.size
  clear q0 q1 q2 hw4 hl0 hin0 hb4 hx4 hws0 HW4 HG4 HAD1 HES HW2 HX2 HB2 HX3 HB3
  go_upto_region 4 with fail
  go_loopw [6] (fun v wr => ∃ (ws : List Nat) (T : List Nat) (ta : Option Addr) (tn tc : Nat), v = .slice ta tn tc ∧ Hid (Words wr sb ws) ∧ Hid (ws.length = N) ∧ Hid (GRow 3 1 w.heap.size wr (.slice ta tn tc) (T.map intCell)) ∧ Hid (Search ns a (inW ws) T) ∧ Hid (Boxes wr w.heap.size (.slice na nn nc) (.int .i64 (a : Int)) (.int .i64 s)) ∧ Hid (Below w.heap.size w wr) ∧ Hid (2 * cntG ns (inW ws) + T.length ≤ 2000001)) (fun v wr => 2 * cntG ns (inW (wordsIn wr sb)) + lenOfV v)
  case atStart =>
    have hal : ∀ k, k < w4.heap.size → (w4.alloc (.cells #[.int .i64 (a : Int)] 3)).heap[k]? = w4.heap[k]? := fun k hk => Below.heap_alloc _ _ _ hk
    refine ⟨ws0, [a], _, _, _, rfl, Lib.hid (HW4'.out.same (hal sb (Array.getElem?_eq_some_iff.1 HW4'.out.at_).1)), HL0, Lib.hid (GRow.single w4 (intCell a) rfl hsz4), Lib.hid (by rw [HI0.out]; exact Search.begin ns a), Lib.hid (HX4.out.same (fun k hk => hal k ?_)), Lib.hid (HB4.out.alloc hsz4 _), Lib.hid (by have := cntG_le ns (inW ws0); simp; omega)⟩
    have h1 := (Array.getElem?_eq_some_iff.1 HX4.out.r).1
    omega
  case round =>
    obtain ⟨ws, T, ta, tn, tc, rfl, HWs, HLs, HR, HS, HX, HB, HMO⟩ := hrel
    obtain ⟨wo, hwo⟩ : ∃ wo, wo = wr := ⟨_, rfl⟩
    subst hwo
    have hszo : w.heap.size ≤ wo.heap.size := HB.out.size
    have hsbo : sb < wo.heap.size := (Array.getElem?_eq_some_iff.1 HWs.out.at_).1
    have hlt : ∀ n, inW ws n = true → n < ns.length := fun n hn => HS.out.min (fun n => n < ns.length) HA.out (fun m g hm _ r hr => HW.out m g hm r hr) n hn
    have HLT := Lib.hid hlt
    have hwin : wordsIn wo sb = ws := HWs.out.in_
    have HWIN := Lib.hid hwin
    clear hlt hwin
    rcases List.eq_nil_or_concat T with rfl | ⟨T', n0, rfl⟩
    · obtain ⟨hn0⟩ : Nonempty (tn = 0) := ⟨by
        have h := HR.out.parts
        rcases h with ⟨e, _⟩ | ⟨g, cap, e, _⟩
        · simp only [Value.slice.injEq] at e; exact e.2.1
        · simp only [Value.slice.injEq] at e; simpa using e.2.1⟩
      subst hn0
      have HNB := Lib.hid (numbers_any sb N ws E wo (HE.out.to (HB.out.mono HE.out.le)) HWs.out (by have := HLs.out; have := HNN.out; omega))
      rw [HLs.out] at HNB
      go_wp2_with (go_at_call 26; go_loud (refine HNB.out.mono ?_; rintro en w9 ⟨ra, rn, rc, rfl, hr9, hb9⟩; have HR9 := Lib.hid hr9; have HB9 := Lib.hid hb9; clear hr9 hb9))
      go_ret
      have e1 : allOf ws = (List.range ns.length).filter (inW ws) := by
        unfold allOf
        exact filter_range (by have := HLs.out; have := HNN.out; have := hlen.out; omega) HLT.out
      have h9 := HR9.out
      rw [e1] at h9
      exact ⟨inW ws, ra, rn, rc, HS.out.least, rfl, h9.mono hszo, HB.out.trans (HB9.out.mono hszo)⟩
    · obtain ⟨q, hq⟩ : ∃ q, T'.length = q := ⟨_, rfl⟩
      have HS' : Hid (Search ns a (inW ws) (T' ++ [n0])) := Lib.hid (by have h := HS.out; simpa using h)
      have HR' : Hid (GRow 3 1 w.heap.size wo (.slice ta tn tc) (T'.map intCell ++ [intCell n0])) := Lib.hid (by have h := HR.out; simpa using h)
      clear HS HR
      obtain ⟨g, hv, hgb, hqc, z0⟩ : ∃ g, Value.slice ta tn tc = .slice (some ⟨g, 0, none⟩) (q + 1) tc ∧ w.heap.size ≤ g ∧ q ≤ tc ∧ wo.cell? ⟨g, q, none⟩ = some (.int .i64 (n0 : Int)) := by
        have hj : (T'.map intCell ++ [intCell n0])[q]? = some (intCell n0) := by rw [List.getElem?_append_right (by simp [hq])]; simp [hq]
        obtain ⟨g1, c1, e1, h1⟩ := HR'.out.cell (i := 0) hj rfl
        rcases HR'.out.parts with ⟨_, h0⟩ | ⟨g, cap, e, hg, _, hcp, _⟩
        · simp at h0
        · rw [e] at e1
          simp only [Value.slice.injEq, Option.some.injEq, Addr.mk.injEq, and_true, true_and] at e1
          obtain ⟨rfl, rfl⟩ := e1
          have e2 : (T'.map intCell ++ [intCell n0]).length = q + 1 := by simp [hq]
          rw [e2] at e hcp
          simp only [Value.slice.injEq] at e
          obtain ⟨rfl, rfl, rfl⟩ := e
          exact ⟨g, rfl, hg, by omega, by simpa using h1⟩
      simp only [Value.slice.injEq, and_true] at hv
      obtain ⟨rfl, rfl⟩ := hv
      have hn0l : n0 < ns.length := HLT.out n0 (HS'.out.todo n0 (by simp))
      obtain ⟨g0, hg0⟩ : ∃ g0, ns[n0]? = some g0 := ⟨_, List.getElem?_eq_getElem hn0l⟩
      obtain ⟨kb, ko, xa, xn, xc, rfl, z1, hxl, hxm, hxg⟩ := HG.out wo HB.out n0 g0 hg0
      have hn0n : n0 < nn := by have := hlen.out; omega
      have HXG := Lib.hid hxg
      have HG0 := Lib.hid hg0
      have HPOP := Lib.hid HR'.out.pop
      have HONE : Hid (Search1 ns a n0 g0 0 (inW ws) T') := Lib.hid HS'.out.one
      have HQ := Lib.hid hq
      obtain ⟨M, hM⟩ : ∃ M, 2 * cntG ns (inW ws) + q = M := ⟨_, rfl⟩
      have HM := Lib.hid hM
      obtain ⟨z2, _, _⟩ := HX.out.cells
      have hqb : q ≤ 2000000 := by have h := HMO.out; simp at h; omega
      clear hxg hg0 hn0l hM hq
      go_wp2_with fail
      go_loopw [6, 42] (fun v i wr => ∃ (k : Nat) (ws : List Nat) (T : List Nat) (ta : Option Addr) (tn tc : Nat), i = .int .i64 k ∧ k ≤ xn ∧ v = .slice ta tn tc ∧ Hid (Words wr sb ws) ∧ Hid (ws.length = N) ∧ Hid (GRow 3 1 w.heap.size wr (.slice ta tn tc) (T.map intCell)) ∧ Hid (Search1 ns a n0 g0 k (inW ws) T) ∧ Hid (Boxes wr w.heap.size (.slice (some ⟨kb, ko, none⟩) nn nc) (.int .i64 (a : Int)) (.int .i64 s)) ∧ Hid (Below w.heap.size w wr) ∧ Hid (2 * cntG ns (inW ws) + T.length ≤ M)) (fun _ i _ => xn - (intOf i).toNat)
      case atStart => exact ⟨0, ws, T', _, _, _, rfl, by omega, rfl, HWs, HLs, HPOP, HONE, HX, HB, Lib.hid (by rw [HQ.out]; exact Nat.le_of_eq HM.out)⟩
      case round =>
        obtain ⟨k, ws1, T1, ta1, tn1, tc1, rfl, hk, rfl, HW1, HL1, HR1, HS1, HX1, HB1, HM1⟩ := hrel
        by_cases hkl : k < xn
        · obtain ⟨r, hr⟩ : ∃ r, g0.nx[k]? = some r := ⟨_, List.getElem?_eq_getElem (by rw [← hxl.out]; exact hkl)⟩
          obtain ⟨qb, qo, rfl, hrc⟩ := HXG.out k r hr
          obtain ⟨y0, y1⟩ := hrc wr HB1.out
          have hrl : r.n < ns.length := HW.out n0 g0 HG0.out r (List.mem_of_getElem? hr)
          have hsb1 : sb < wr.heap.size := (Array.getElem?_eq_some_iff.1 HW1.out.at_).1
          have hs1 : w.heap.size ≤ wr.heap.size := HB1.out.size
          obtain ⟨x, hx⟩ : ∃ x, ws1[r.n / 64]? = some x := ⟨_, List.getElem?_eq_getElem (by have := HL1.out; have := HNN.out; have := hlen.out; omega)⟩
          obtain ⟨ws2, hws2⟩ : ∃ ws2, ws1.set (r.n / 64) (x ||| 2 ^ (r.n % 64)) = ws2 := ⟨_, rfl⟩
          have HI2 : Hid (inW ws2 = updL (inW ws1) r.n) := Lib.hid (by funext m; rw [← hws2, inW_add hx m]; rfl)
          have HL2 : Hid (ws2.length = N) := Lib.hid (by rw [← hws2, List.length_set]; exact HL1.out)
          have HADD : Hid (∀ W, Words W sb ws1 → Calls Tryd.prog 25 #[.slice (some ⟨sb, 0, none⟩) N N, .int .i64 (r.n : Int)] W fun e w' => e = .returned (.bool (!inW ws1 r.n)) ∧ Words w' sb ws2 ∧ W.grownBy w' (some sb)) := Lib.hid (fun W hW => by
            have h := add_bit sb ws1 r.n N x W hW hx (by omega)
            rw [HL1.out, hws2] at h; exact h)
          have HR1r := Lib.hid hr
          have HRL := Lib.hid hrl
          clear hr hrc hx hws2 hrl
          cases hS : inW ws1 r.n
          · rw [hS] at HADD
            have HSS := Lib.hid hS
            have HTL : Hid (T1.length ≤ 2000001) := Lib.hid (by have h1 := HM1.out; have h2 := HM.out; have h3 := HMO.out; have h4 := HQ.out; simp at h3; omega)
            clear hS
            go_wp2_with (first | (go_at_call 25; go_loud (refine (HADD.out _ (HW1.out.same (Below.heap_alloc _ _ _ hsb1))).mono ?_; rintro en w5 ⟨rfl, hw5, hg5⟩; obtain ⟨hr5, hx5, hb5, ht5⟩ := after_add HW1.out HB1.out hg5 hsb2 HR1.out HX1.out; obtain ⟨z9, _, _, _⟩ := two_cells ht5; have HW5 := Lib.hid hw5; have HR5 := Lib.hid hr5; have HX5 := Lib.hid hx5; have HB5 := Lib.hid hb5; have hs5 : w.heap.size ≤ w5.heap.size := hb5.size; clear hw5 hg5 hr5 hx5 hb5 ht5)) | (at_builtin; go_loud (refine wpList_appG intElem rfl _ _ rfl rfl (HR5.out.alloc _) (some ⟨w5.heap.size, 0, none⟩) 1 1 [intCell r.n] rfl rfl (fun e he => by rw [List.mem_singleton.1 he]; rfl) (src_new w5 (intCell r.n) _) (fun e he u hu => by rw [List.mem_singleton.1 he] at hu; simp only [intCell, List.mem_cons, List.not_mem_nil, or_false] at hu; subst hu; rfl) (by have := HTL.out; simp only [List.length_map, List.length_singleton]; omega) (by simp; omega) ?_; intro ga gn gc w6 hr6 hg6 hq6; have HR6 := Lib.hid hr6; have HG6 := Lib.hid hg6; clear hr6 hg6 hq6)))
            go_roundw
            case rel =>
              have hal : ∀ k, k < w5.heap.size → (w5.alloc (.cells (intCell r.n).toArray 3)).heap[k]? = w5.heap[k]? := fun k hk => Below.heap_alloc _ _ _ hk
              have hsb5 := (Array.getElem?_eq_some_iff.1 HW5.out.at_).1
              have hx5 := (Array.getElem?_eq_some_iff.1 HX5.out.r).1
              have hown : ∀ k, (Value.slice ta1 tn1 tc1).ownBlock = some k → ∃ cs, w5.heap[k]? = some (.cells cs 3 (0, 0)) := fun k hk => HR5.out.obj hk
              refine ⟨k + 1, ws2, T1 ++ [r.n], ga, gn, gc, by go_num, by omega, rfl, Lib.hid (HW5.out.same ((HG6.out.block sb (by simp; omega) (fun e => ?_)).trans (hal sb hsb5))), HL2, Lib.hid (by rw [List.map_append]; exact HR6.out), Lib.hid (by rw [HI2.out]; exact HS1.out.new HG0.out HR1r.out), Lib.hid (HX5.out.same (fun j hj => (HG6.out.block j (by simp; omega) (fun e => ?_)).trans (hal j (by omega)))), Lib.hid ((HB5.out.alloc hs5 _).grown HG6.out (by simp; omega) (fun k hk => (HR5.out.lt k hk).1)), Lib.hid ?_⟩
              · obtain ⟨cs, hc⟩ := hown sb e.symm
                have := hc.symm.trans HW5.out.at_
                simp at this
              · obtain ⟨cs, hc⟩ := hown j e.symm
                rcases Nat.lt_or_ge j w.heap.size with h | h
                · have := (HR5.out.lt j e.symm).1; omega
                · rcases Nat.lt_or_ge j (w.heap.size + 1) with h2 | h2
                  · obtain rfl : j = w.heap.size := by omega
                    have := hc.symm.trans HX5.out.g
                    simp at this
                  · obtain rfl : j = w.heap.size + 1 := by omega
                    have := hc.symm.trans HX5.out.r
                    simp at this
              · have h1 := cntG_upd (S := inW ws1) HRL.out HSS.out
                have h2 := HM1.out
                rw [HI2.out, List.length_append, List.length_singleton]
                omega
            case measure => simp [intOf]; omega
          · rw [hS] at HADD
            have HSS := Lib.hid hS
            clear hS
            go_wp2_with (go_at_call 25; go_loud (refine (HADD.out _ (HW1.out.same (Below.heap_alloc _ _ _ hsb1))).mono ?_; rintro en w5 ⟨rfl, hw5, hg5⟩; obtain ⟨hr5, hx5, hb5, ht5⟩ := after_add HW1.out HB1.out hg5 hsb2 HR1.out HX1.out; obtain ⟨z9, _, _, _⟩ := two_cells ht5; have HW5 := Lib.hid hw5; have HR5 := Lib.hid hr5; have HX5 := Lib.hid hx5; have HB5 := Lib.hid hb5; have hs5 : w.heap.size ≤ w5.heap.size := hb5.size; clear hw5 hg5 hr5 hx5 hb5 ht5))
            go_roundw
            case rel =>
              have e2 : inW ws2 = inW ws1 := by
                rw [HI2.out]; funext m
                by_cases h : m = r.n
                · subst h; simp [updL, HSS.out]
                · simp [updL, h]
              refine ⟨k + 1, ws2, T1, _, _, _, by go_num, by omega, rfl, HW5, HL2, HR5, Lib.hid (by rw [e2]; exact HS1.out.old HR1r.out HSS.out), HX5, HB5, Lib.hid (by rw [e2]; exact HM1.out)⟩
            case measure => simp [intOf]; omega
        · obtain rfl : k = xn := by omega
          go_wp2_with fail
          go_roundw
          case rel => exact ⟨ws1, T1, _, _, _, rfl, HW1, HL1, HR1, Lib.hid (HS1.out.end HG0.out (Nat.le_of_eq hxl.out.symm)), HX1, HB1, Lib.hid (by have h1 := HM1.out; have h2 := HM.out; have h3 := HMO.out; simp at h3; have h4 := HQ.out; omega)⟩
          case measure =>
            have h1 := HM1.out
            have h2 := HM.out
            have h3 : tn1 = T1.length := by
              rcases HR1.out.parts with ⟨e, h0⟩ | ⟨g, cap, e, _⟩
              · simp only [Value.slice.injEq] at e
                have h0' : T1 = [] := by simpa using h0
                rw [h0']; exact e.2.1
              · simp only [Value.slice.injEq] at e; simpa using e.2.1
            rw [HWIN.out, HW1.out.in_]
            simp only [lenOfV]
            omega
end Go.Proofs.YtecdapihfiahiaaDoor
