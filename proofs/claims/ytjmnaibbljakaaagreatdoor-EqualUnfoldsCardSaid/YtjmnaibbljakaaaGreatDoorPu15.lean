/- Equality, walks: refined. (and what follows from it) -/
import Derived.Test.YtjmnaibbljakaaaGreatDoorPu14
import Derived.Test.YtjmnaibbljakaaaGreatDoorPu12
import Derived.Test.YtjmnaibbljakaaaGreatDoorPu11
import Derived.Test.YtjmnaibbljakaaaGreatDoorPu1
import Derived.Shelf.Strconv.Itoa3
import Derived.Shelf.Strings.OnBuilder

/- Equality, walks: refined. -/
namespace Go.Proofs.YtjmnaibbljakaaaGreatDoor
open Go.RowKit Go.Deep Go.Shelf

theorem pr2Elem : ElemOf 101 103 2 := elemOf Tryz.underlying101 (z := .agg #[.int .i64 0, .int .i64 0]) (bytes := 16) (by kernel_rfl) (by decide) rfl (by decide)
/-- The steps of a node, with classes instead of nodes. -/
def seqA (cl : List Nat) (l : List GRef) : List (Int × Int) := l.map (fun r => (r.s, ((cl.getD r.n 0 : Nat) : Int)))
def keyA (cl : List Nat) (st : List (List GRef)) (m : Nat) : Nat × List (Int × Int) := (cl.getD m 0, seqA cl (st.getD m []))
/-- Classes, refined once. -/
def refE (cl : List Nat) (st : List (List GRef)) : List Nat := fList ((List.range cl.length).map (keyA cl st))
theorem refE_of {cl : List Nat} {st : List (List GRef)} {keys : List (Int × Int)} {F : K3 → Option Nat} {n : Nat} (hT : Tri F n) (hl : keys.length = cl.length)
    (hk : ∀ i, i < cl.length → ∃ x : Nat, keys[i]? = some ((cl.getD i 0 : Int), (x : Int)) ∧ walkT F 0 (seqA cl (st.getD i [])) = some x) : fList keys = refE cl st := by
  refine fList_congr (by simp [hl]) (fun i j a b c d ha hb hc hd => ?_)
  have hi : i < cl.length := by rw [← hl]; exact (List.getElem?_eq_some_iff.1 ha).1
  have hj : j < cl.length := by rw [← hl]; exact (List.getElem?_eq_some_iff.1 hb).1
  obtain ⟨x, h1, h2⟩ := hk i hi
  obtain ⟨y, h3, h4⟩ := hk j hj
  obtain rfl := Option.some.inj (h1.symm.trans ha)
  obtain rfl := Option.some.inj (h3.symm.trans hb)
  rw [List.getElem?_map, List.getElem?_range hi] at hc
  rw [List.getElem?_map, List.getElem?_range hj] at hd
  obtain rfl := Option.some.inj hc
  obtain rfl := Option.some.inj hd
  unfold keyA
  simp only [Prod.mk.injEq]
  constructor
  · rintro ⟨e1, e2⟩
    have e3 : x = y := by omega
    subst e3
    exact ⟨by omega, walk_inj hT _ _ _ _ rfl h2 h4⟩
  · rintro ⟨e1, e2⟩
    rw [e2] at h2
    have e3 := Option.some.inj (h2.symm.trans h4)
    exact ⟨by rw [e1], by rw [e3]⟩
theorem cell_sameS {w w' : World} {b : Nat} (h : w'.heap[b]? = w.heap[b]?) (o : Nat) : w'.cell? ⟨b, o, none⟩ = w.cell? ⟨b, o, none⟩ := by
  simp only [World.cell?, h]
abbrev ar3 (a b c : Int) : Obj := .cells #[.int .i64 a, .int .i64 b, .int .i64 c] 102
theorem ar3_cells {w : World} {b : Nat} {x y z : Int} (h : w.heap[b]? = some (ar3 x y z)) : (w.cell? ⟨b, 0, none⟩ = some (.int .i64 x) ∧ w.cell? ⟨b, 1, none⟩ = some (.int .i64 y) ∧ w.cell? ⟨b, 2, none⟩ = some (.int .i64 z)) ∧ w.frozen? ⟨b, 0, none⟩ = false ∧ w.frozen? ⟨b, 1, none⟩ = false ∧ w.frozen? ⟨b, 2, none⟩ = false := by
  refine ⟨⟨?_, ?_, ?_⟩, frozen_of_block h 0, frozen_of_block h 1, frozen_of_block h 2⟩ <;> simp [World.cell?, h]
theorem ar3_fill {w : World} {b : Nat} {x y z : Int} (h : w.heap[b]? = some (ar3 x y z)) (u v t : Int) : (((w.setCell ⟨b, 0, none⟩ (.int .i64 u)).setCell ⟨b, 1, none⟩ (.int .i64 v)).setCell ⟨b, 2, none⟩ (.int .i64 t)).heap[b]? = some (ar3 u v t) := set_block (set_block (set_block h 0 (.int .i64 u)) 1 (.int .i64 v)) 2 (.int .i64 t)

set_option maxHeartbeats 8000000 in
set_option maxRecDepth 100000 in
theorem refined_any (cl : List Nat) (st : List (List GRef)) (v u : Value) (base bS : Nat) (w : World) (hv : GRow 3 1 base w v (cl.map natC)) (hu : StSl w bS u st) (hN : cl.length = st.length) (hl : cl.length ≤ 10000) (hst : ∀ l ∈ st, l.length ≤ 1000 ∧ ∀ r ∈ l, r.n < cl.length) :
    Calls Tryz.prog 34 #[v, u] w fun e w' => ∃ a m c, e = .returned (.slice a m c) ∧ GRow 3 1 w.heap.size w' (.slice a m c) ((refE cl st).map natC) ∧ Below w.heap.size w w' := by
  obtain ⟨va, N, vc, rfl, hNl, _⟩ := hv.src
  rw [List.length_map] at hNl
  obtain ⟨vs, hvr, hvl, hve⟩ := hu.row
  obtain ⟨ua, uN, uc, rfl, hul, _⟩ := hvr.src
  rw [List.length_map, hvl, ← hN, ← hNl] at hul
  have hul2 := hul.symm
  subst hul2
  have hN1 : N ≤ 10000 := by rw [hNl]; exact hl
  have HCL : Hid (∀ (i x : Nat), cl[i]? = some x → ∃ g, va = some ⟨g, 0, none⟩ ∧ g < w.heap.size ∧ w.cell? ⟨g, i, none⟩ = some (.int .i64 (x : Int))) := Lib.hid (fun i x hi => by
    obtain ⟨g, cap, e, h0⟩ := hv.cell (j := i) (i := 0) (e := natC x) (u := .int .i64 (x : Int)) (by rw [List.getElem?_map, hi]; rfl) rfl
    simp only [Value.slice.injEq] at e
    exact ⟨g, e.1, (hv.lt g (by rw [e.1]; rfl)).2, by simpa using h0⟩)
  have HST : Hid (∀ (i : Nat) (l : List GRef), st[i]? = some l → ∃ g u0, ua = some ⟨g, 0, none⟩ ∧ g < w.heap.size ∧ w.cell? ⟨g, i, none⟩ = some u0 ∧ GRow 37 2 bS w u0 (l.map refCells)) := Lib.hid (fun i l hi => by
    obtain ⟨u0, h1, h2⟩ := hve i l hi
    obtain ⟨g, cap, e, h0⟩ := hvr.cell (j := i) (i := 0) (e := slC u0) (u := u0) (by rw [List.getElem?_map, h1]; rfl) rfl
    simp only [Value.slice.injEq] at e
    exact ⟨g, u0, e.1, (hvr.lt g (by rw [e.1]; rfl)).2, by simpa using h0, h2⟩)
  have HNL := Lib.hid (And.intro hNl hN)
  have HSL := Lib.hid hst
  obtain ⟨W1, hW1⟩ : ∃ W1, w.alloc (.map #[] 0) = W1 := ⟨_, rfl⟩
  have hb1 : Below w.heap.size w W1 := by rw [← hW1]; exact (Below.refl _ _).alloc (Nat.le_refl _) _
  have hmk : (Instr.makeMap 100 none).run Tryz.prog w = .ok (.map (some w.heap.size)) W1 := by rw [run_makeMap, hW1]
  have HT1 : Hid (TrIs W1 w.heap.size 0 (fun _ => none)) := Lib.hid (by rw [← hW1]; exact TrIs.made _)
  have HS1 : Hid (W1.heap.size = w.heap.size + 1) := Lib.hid (by rw [← hW1]; simp)
  have HB1 := Lib.hid hb1
  clear hv hu hvr hvl hve hNl hN hl hst hW1 hb1
  go_enter Tryz.func34, Tryz.ntmps34
  go_wp2_with fail
  clear hmk
  go_loopw [16, 6] (fun i v wr => ∃ (j : Nat) (a : Option Addr) (m c : Nat) (keys : List (Int × Int)) (n : Nat) (F : K3 → Option Nat), i = .int .i64 j ∧ j ≤ N ∧ v = .slice a m c ∧ Hid (GRow 103 2 (w.heap.size + 1) wr (.slice a m c) (keys.map p2C)) ∧ Hid (keys.length = j ∧ n ≤ j * 1000) ∧ Hid (Tri F n) ∧ Hid (TrIs wr w.heap.size n F) ∧ Hid (∀ i, i < j → ∃ x : Nat, keys[i]? = some ((cl.getD i 0 : Int), (x : Int)) ∧ walkT F 0 (seqA cl (st.getD i [])) = some x) ∧ Hid (Below w.heap.size w wr)) (fun i _ _ => N - (intOf i).toNat)
  case atStart => exact ⟨0, _, _, _, [], 0, _, rfl, by omega, rfl, Lib.hid (GRow.nil _ _ _ _), Lib.hid ⟨rfl, by omega⟩, Lib.hid Tri.start, HT1, Lib.hid (fun i h => by omega), HB1⟩
  case round =>
    rename World => V0
    obtain ⟨j, a, m, c, keys, n, F, rfl, hj, rfl, HR, HK, HT, HTI, HW, HB⟩ := hrel
    by_cases hlt : j < N
    · obtain ⟨cj, hcj⟩ : ∃ cj, cl[j]? = some cj := ⟨_, List.getElem?_eq_getElem (by rw [← HNL.out.1]; exact hlt)⟩
      obtain ⟨l, hlj⟩ : ∃ l, st[j]? = some l := ⟨_, List.getElem?_eq_getElem (by rw [← HNL.out.2, ← HNL.out.1]; exact hlt)⟩
      obtain ⟨ga, rfl, hga, hc0⟩ := HCL.out j cj hcj
      obtain ⟨gu, u0, rfl, hgu, hu0, hur⟩ := HST.out j l hlj
      obtain ⟨la, ln, lc, rfl, hlnl, _⟩ := hur.src
      rw [List.length_map] at hlnl
      obtain ⟨hl1, hl2⟩ := HSL.out l (List.mem_of_getElem? hlj)
      have hln1 : ln ≤ 1000 := by rw [hlnl]; exact hl1
      have e0 := (HB.out.cell (p := ⟨ga, j, none⟩) hga).trans hc0
      have e1 := (HB.out.cell (p := ⟨gu, j, none⟩) hgu).trans hu0
      have HLR : Hid (∀ (k : Nat) (r : GRef), l[k]? = some r → ∃ g, la = some ⟨g, 0, none⟩ ∧ g < w.heap.size ∧ w.cell? ⟨g, k * 2, none⟩ = some (.int .i64 (r.n : Int)) ∧ w.cell? ⟨g, k * 2 + 1, none⟩ = some (.int .i64 r.s)) := Lib.hid (fun k r hk => by
        obtain ⟨g, cap, e, h0⟩ := hur.cell (j := k) (i := 0) (e := refCells r) (u := .int .i64 (r.n : Int)) (by rw [List.getElem?_map, hk]; rfl) rfl
        obtain ⟨g', cap', e', h1⟩ := hur.cell (j := k) (i := 1) (e := refCells r) (u := .int .i64 r.s) (by rw [List.getElem?_map, hk]; rfl) rfl
        rw [e] at e'
        simp only [Value.slice.injEq, Option.some.injEq, Addr.mk.injEq, and_true] at e e'
        obtain ⟨rfl, -⟩ := e'
        obtain ⟨rfl, -⟩ := e
        exact ⟨g, rfl, (hur.lt g rfl).2, by simpa using h0, h1⟩)
      have HGA := Lib.hid hga
      have HLL := Lib.hid (And.intro hlnl hl2)
      have HCJ := Lib.hid hcj
      have HLJ := Lib.hid hlj
      clear hcj hlj hc0 hga hu0 hgu hur hlnl hl1 hl2
      go_wp2_with fail
      clear e0 e1
      go_loopw [26, 9] (fun i xv wr => ∃ (k x n2 : Nat) (F2 : K3 → Option Nat), i = .int .i64 k ∧ k ≤ ln ∧ xv = .int .i64 (x : Int) ∧ n2 ≤ 20000000 ∧ Hid (n2 ≤ j * 1000 + k) ∧ Hid (Tri F2 n2) ∧ Hid (TrIs wr w.heap.size n2 F2) ∧ Hid (ExtT F F2) ∧ Hid (walkT F2 0 ((seqA cl l).take k) = some x) ∧ Hid (Out2 w.heap.size none V0 wr)) (fun i _ _ => ln - (intOf i).toNat)
      case atStart => exact ⟨0, 0, n, F, rfl, by omega, rfl, by have := HK.out.2; omega, Lib.hid (by have := HK.out.2; omega), HT, HTI, Lib.hid (ExtT.refl _), Lib.hid (by simp [walkT]), Lib.hid (Out2.refl _ _ _)⟩
      case round =>
        obtain ⟨k, x, n2, F2, rfl, hk, rfl, hn2, HN2, HT2, HTI2, HX2, HW2, HO2⟩ := hrel
        by_cases hkl : k < ln
        · obtain ⟨r, hr⟩ : ∃ r, l[k]? = some r := ⟨_, List.getElem?_eq_getElem (by rw [← HLL.out.1]; exact hkl)⟩
          obtain ⟨gl, rfl, hgl, hr0, hr1⟩ := HLR.out k r hr
          have hrn := HLL.out.2 r (List.mem_of_getElem? hr)
          obtain ⟨cr, hcr⟩ : ∃ cr, cl[r.n]? = some cr := ⟨_, List.getElem?_eq_getElem hrn⟩
          obtain ⟨ga', ea, hga', hcr0⟩ := HCL.out r.n cr hcr
          simp only [Option.some.injEq, Addr.mk.injEq, and_true] at ea
          subst ea
          have hrN : (r.n : Int) < (N : Int) := by rw [HNL.out.1]; omega
          have hsv : ∀ b, b < w.heap.size → wr.heap[b]? = w.heap[b]? := fun b hb => (HO2.out.block b (by have := HB.out.size; omega) (by omega) (by simp)).trans (HB.out.block b hb)
          have e0 : wr.cell? ⟨gl, k * 2, none⟩ = some (.int .i64 (r.n : Int)) := (cell_sameS (hsv gl hgl) _).trans hr0
          have e1 : wr.cell? ⟨gl, k * 2 + 1, none⟩ = some (.int .i64 r.s) := (cell_sameS (hsv gl hgl) _).trans hr1
          have HCC : Hid (∀ W, Below wr.heap.size wr W → W.cell? ⟨ga, r.n, none⟩ = some (.int .i64 (cr : Int))) := Lib.hid (fun W hW => (hW.cell (p := ⟨ga, r.n, none⟩) (Nat.lt_of_lt_of_le hga' (Nat.le_trans HB.out.size HO2.out.size))).trans ((cell_sameS (hsv ga hga') _).trans hcr0))
          have HSQ : Hid ((seqA cl l).take (k + 1) = (seqA cl l).take k ++ [(r.s, (cr : Int))]) := Lib.hid (take_snoc_get (by
            unfold seqA
            rw [List.getElem?_map, hr]
            simp [List.getD, hcr]))
          clear hr hgl hr0 hr1 hrn hcr hga' hcr0 hsv
          go_upto_region 10 with fail
          obtain ⟨V5, hV5⟩ : ∃ V5, wr.alloc (refO (.int .i64 (r.n : Int)) (.int .i64 r.s)) = V5 := ⟨_, rfl⟩
          have hb5 : Below wr.heap.size wr V5 := by rw [← hV5]; exact blkBelow wr _ _
          have x5 : V5.heap[wr.heap.size]? = some (refO (.int .i64 (r.n : Int)) (.int .i64 r.s)) := by rw [← hV5]; exact World.alloc_heap_new _ _
          have hs5 : V5.heap.size = wr.heap.size + 1 := by rw [← hV5]; simp
          rw [show wr.alloc (.cells #[.int .i64 (r.n : Int), .int .i64 r.s] 37) = V5 from hV5]
          have HSX : Hid (∀ W, Below V5.heap.size V5 W → (W.cell? ⟨wr.heap.size, 0, none⟩ = some (.int .i64 (r.n : Int)) ∧ W.cell? ⟨wr.heap.size, 1, none⟩ = some (.int .i64 r.s)) ∧ W.cell? ⟨ga, r.n, none⟩ = some (.int .i64 (cr : Int))) := Lib.hid (fun W hW => by
            have a1 := refO_cells ((hW.block _ (by omega)).trans x5)
            exact ⟨⟨a1.1, a1.2.1⟩, HCC.out W (below_seq hb5 hW)⟩)
          have HB5 := Lib.hid hb5
          have HS5 := Lib.hid hs5
          clear hV5 hb5 x5 hs5 e0 e1
          refine wp_region_held_drew (S := fun W => (W.cell? ⟨wr.heap.size, 0, none⟩ = some (.int .i64 (r.n : Int)) ∧ W.cell? ⟨wr.heap.size, 1, none⟩ = some (.int .i64 r.s)) ∧ W.cell? ⟨ga, r.n, none⟩ = some (.int .i64 (cr : Int))) (by kernel_rfl) (HSX.out V5 (Below.refl _ _)) (fun hHeld => ?_)
          refine wpAnyH_take_l 0 (v := ?vb0) rfl rfl (by kernel_rfl) (by kernel_rfl) (by kernel_rfl) (fun _ _ _ h => h) ?hb0 (by assumption) ?rb0
          case hb0 => (intro w hSw; (try dsimp only at hSw); go_simp; try rfl)
          case' rb0 => simp only [setD, List.set_cons_succ, List.set_cons_zero]
          refine wpAnyH_take_l 1 (v := ?vb1) rfl rfl (by kernel_rfl) (by kernel_rfl) (by kernel_rfl) (fun _ _ _ h => h) ?hb1 (by assumption) ?rb1
          case hb1 => (intro w hSw; (try dsimp only at hSw); go_simp; try rfl)
          case' rb1 => simp only [setD, List.set_cons_succ, List.set_cons_zero]
          refine wpAnyH_take_l 2 (v := ?vb2) rfl rfl (by kernel_rfl) (by kernel_rfl) (by kernel_rfl) (fun _ _ _ h => h) ?hb2 (by assumption) ?rb2
          case hb2 => (intro w hSw; (try dsimp only at hSw); go_simp; try rfl)
          case' rb2 => simp only [setD, List.set_cons_succ, List.set_cons_zero]
          refine wpAnyH_take_l 3 (v := ?vb3) rfl rfl (by kernel_rfl) (by kernel_rfl) (by kernel_rfl) (fun _ _ _ h => h) ?hb3 (by assumption) ?rb3
          case hb3 => (intro w hSw; (try dsimp only at hSw); go_simp; try rfl)
          case' rb3 => simp only [setD, List.set_cons_succ, List.set_cons_zero]
          refine wpAnyH_take_l 4 (v := ?vb4) rfl rfl (by kernel_rfl) (by kernel_rfl) (by kernel_rfl) (fun _ _ _ h => h) ?hb4 (by assumption) ?rb4
          case hb4 => (intro w hSw; (try dsimp only at hSw); go_simp; try rfl)
          case' rb4 => simp only [setD, List.set_cons_succ, List.set_cons_zero]
          refine wpAnyH_take_l 5 (v := ?vb5) rfl rfl (by kernel_rfl) (by kernel_rfl) (by kernel_rfl) (fun _ _ _ h => h) ?hb5 (by assumption) ?rb5
          case hb5 => (intro w hSw; (try dsimp only at hSw); go_simp; try rfl)
          case' rb5 => simp only [setD, List.set_cons_succ, List.set_cons_zero]
          refine wpAnyH_take_l 6 (v := ?vb6) rfl rfl (by kernel_rfl) (by kernel_rfl) (by kernel_rfl) (fun _ _ _ h => h) ?hb6 (by assumption) ?rb6
          case hb6 => (intro w hSw; (try dsimp only at hSw); go_simp; try rfl)
          case' rb6 => simp only [setD, List.set_cons_succ, List.set_cons_zero]
          refine wpAnyH_take_l 7 (v := ?vb7) rfl rfl (by kernel_rfl) (by kernel_rfl) (by kernel_rfl) (fun _ _ _ h => h) ?hb7 (by assumption) ?rb7
          case hb7 => (intro w hSw; (try dsimp only at hSw); go_simp; try rfl)
          case' rb7 => simp only [setD, List.set_cons_succ, List.set_cons_zero]
          refine wpAnyH_take_l 8 (v := ?vb8) rfl rfl (by kernel_rfl) (by kernel_rfl) (by kernel_rfl) (fun _ _ _ h => h) ?hb8 (by assumption) ?rb8
          case hb8 => (intro w hSw; (try dsimp only at hSw); go_simp; try rfl)
          case' rb8 => simp only [setD, List.set_cons_succ, List.set_cons_zero]
          refine wpAnyH_one 9 rfl rfl (by kernel_rfl) (fun K hK => ?_)
          have hK2 := hK.out
          clear hK
          simp only [setD, List.set_cons_succ, List.set_cons_zero] at hK2 ⊢
          go_simp
          have hbz : Below V5.heap.size V5 (V5.drew.alloc (ar3 0 0 0)) := ((Below.refl _ _).drew).alloc (Nat.le_refl _) _
          have hz : (V5.drew.alloc (ar3 0 0 0)).heap[V5.heap.size]? = some (ar3 0 0 0) := World.alloc_heap_new V5.drew (ar3 0 0 0)
          refine hK2 _ _ (HSX.out _ hbz) (fun _ => ?_)
          clear hK2 K
          obtain ⟨⟨z0, z1, z2⟩, z3, z4, z5⟩ := ar3_cells hz
          refine wpAnyH_one 10 rfl rfl (by kernel_rfl) (fun K hK => ?_)
          have hK2 := hK.out
          clear hK
          simp only [setD] at hK2 ⊢
          go_simp
          clear z0 z1 z2 z3 z4 z5
          obtain ⟨W9, hW9⟩ : ∃ W9, (V5.alloc (ar3 x r.s cr)).drew = W9 := ⟨_, rfl⟩
          have hb9 : Below V5.heap.size V5 W9 := by rw [← hW9]; exact (blkBelow V5 _ _).drew
          have hx9 : W9.heap[V5.heap.size]? = some (ar3 x r.s cr) := by rw [← hW9]; exact World.alloc_heap_new V5 (ar3 x r.s cr)
          rw [show (V5.alloc (.cells #[.int .i64 (x : Int), .int .i64 r.s, .int .i64 (cr : Int)] 102)).drew = W9 from hW9]
          refine hK2 undef W9 (HSX.out _ hb9) (fun _ => ?_)
          clear hK2 K hbz hz hW9
          refine wpAnyH_done (by kernel_rfl) ?_ _
          clear hHeld
          have hti9 : TrIs W9 w.heap.size n2 F2 := HTI2.out.same ((hb9.block _ (by have := HTI2.out.lt; have := HS5.out; omega)).trans (HB5.out.block _ HTI2.out.lt))
          have hlk := hti9.look x r.s cr
          have HO9 : Hid (Out2 w.heap.size none V0 W9) := Lib.hid ((HO2.out.to HB5.out).to hb9)
          have HX9 := Lib.hid hx9
          have HTI9 := Lib.hid hti9
          obtain ⟨⟨y0, y1, y2⟩, _⟩ := ar3_cells hx9
          clear hb9 hx9
          cases hF : F2 ((x : Int), r.s, (cr : Int)) with
          | none =>
            rw [hF] at hlk
            simp only [Option.getD_none, Int.natCast_zero] at hlk
            obtain ⟨w10, hup, hti10, hg10⟩ := hti9.put x r.s cr hF (n2 + 1)
            have hlen := hti9.len 3
            obtain ⟨ht10, hx10⟩ := HT2.out.put hF
            have hlk2 := hti10.look x r.s cr
            rw [show putT F2 ((x : Int), r.s, (cr : Int)) (n2 + 1) ((x : Int), r.s, (cr : Int)) = some (n2 + 1) from by unfold putT; rw [if_pos rfl]] at hlk2
            simp only [Option.getD_some] at hlk2
            have hwr : IntKind.i64.wrap ((n2 : Int) + 1) = ((n2 + 1 : Nat) : Int) := by rw [IntKind.wrap_i64]; omega
            have HW10 : Hid (walkT (putT F2 ((x : Int), r.s, (cr : Int)) (n2 + 1)) 0 ((seqA cl l).take (k + 1)) = some (n2 + 1)) := Lib.hid (by
              rw [HSQ.out, walk_snoc, walk_ext hx10 _ _ _ HW2.out]
              simp only [Option.bind_some]
              unfold putT
              rw [if_pos rfl])
            have HX10 : Hid (w10.heap[V5.heap.size]? = some (ar3 x r.s cr)) := Lib.hid ((hg10.block _ (Array.getElem?_eq_some_iff.1 HX9.out).1 (fun e => by have := Option.some.inj e; have := HTI2.out.lt; have := HS5.out; omega)).trans HX9.out)
            have HO10 : Hid (Out2 w.heap.size none V0 w10) := Lib.hid (HO9.out.grown' hg10)
            have HT10 := Lib.hid ht10
            have HE10 := Lib.hid (HX2.out.trans hx10)
            have HTI10 := Lib.hid hti10
            push_cast at hup hlk2 hwr
            clear hF ht10 hx10 hti10 hg10 hti9
            go_upto_region 13 with fail
            clear y0 y1 y2 hlk hlen hup
            obtain ⟨⟨y0, y1, y2⟩, _⟩ := ar3_cells HX10.out
            go_wp2_with fail
            go_roundw
            case rel => exact ⟨k + 1, n2 + 1, n2 + 1, _, by go_num, by omega, by go_num, by have := HN2.out; omega, Lib.hid (by have := HN2.out; omega), HT10, HTI10, HE10, HW10, HO10⟩
            case measure => simp [intOf]; omega
          | some q =>
            rw [hF] at hlk
            simp only [Option.getD_some] at hlk
            have hq1 := (HT2.out.rng _ _ hF).1
            have hq0 : ((q : Int) == 0) = false := by simp; omega
            have HW10 : Hid (walkT F2 0 ((seqA cl l).take (k + 1)) = some q) := Lib.hid (by
              rw [HSQ.out, walk_snoc, HW2.out]
              exact hF)
            clear hF hti9 hq1
            go_wp2_with fail
            go_roundw
            case rel => exact ⟨k + 1, q, n2, F2, by go_num, by omega, rfl, by omega, Lib.hid (by have := HN2.out; omega), HT2, HTI9, HX2, HW10, HO9⟩
            case measure => simp [intOf]; omega
        · obtain rfl : ln = k := by omega
          have HWF : Hid (walkT F2 0 (seqA cl l) = some x) := Lib.hid (by
            have h := HW2.out
            rw [List.take_of_length_le (by unfold seqA; rw [List.length_map, HLL.out.1]; exact Nat.le_refl _)] at h
            exact h)
          have HRW : Hid (GRow 103 2 (w.heap.size + 1) wr (.slice a m c) (keys.map p2C)) := Lib.hid (HR.out.kept (fun b hb => HO2.out.block b (HR.out.lt b hb).2 (by have := (HR.out.lt b hb).1; omega) (by simp)))
          have HBW : Hid (Below w.heap.size w wr) := Lib.hid (HB.out.trans ⟨HO2.out.os, HO2.out.tape, HO2.out.output, HO2.out.size, fun b hb => HO2.out.block b (by have := HB.out.size; omega) (by omega) (by simp)⟩)
          go_wp2_with (at_builtin; refine wpList_appG pr2Elem rfl _ _ rfl rfl (HRW.out.alloc _) (some ⟨wr.heap.size, 0, none⟩) 1 1 [p2C ((cj : Int), (x : Int))] rfl rfl (by intro e' he'; rw [List.mem_singleton.1 he']; rfl) (src_new wr (p2C ((cj : Int), (x : Int))) _) (fun e he u hu => by rw [List.mem_singleton.1 he] at hu; simp only [p2C, List.mem_cons, List.not_mem_nil, or_false] at hu; rcases hu with rfl | rfl <;> rfl) ?_ ?_ ?_)
          · have := HK.out.1
            simp only [List.length_map, List.length_singleton]; omega
          · have := HBW.out.size
            have := HTI2.out.lt
            simp; omega
          · intro ga' gn gc w7 hrow hgrow _
            have hb : Below w.heap.size w w7 := (HBW.out.alloc HBW.out.size _).grown hgrow (by have := HBW.out.size; simp; omega) (fun k hk => by have := (HRW.out.lt k hk).1; omega)
            have hti : TrIs w7 w.heap.size n2 F2 := HTI2.out.same ((hgrow.block _ (by rw [World.size_alloc]; have := HTI2.out.lt; omega) (fun e => by have := (HRW.out.lt _ e.symm).1; omega)).trans (Below.heap_alloc _ _ _ HTI2.out.lt))
            have hall2 : ∀ i, i < j + 1 → ∃ y : Nat, (keys ++ [((cj : Int), (x : Int))])[i]? = some ((cl.getD i 0 : Int), (y : Int)) ∧ walkT F2 0 (seqA cl (st.getD i [])) = some y := fun i hi => by
              by_cases hij : i < j
              · obtain ⟨y, h1, h2⟩ := HW.out i hij
                exact ⟨y, by rw [List.getElem?_append_left (by rw [HK.out.1]; exact hij)]; exact h1, walk_ext HX2.out _ _ _ h2⟩
              · obtain rfl : i = j := by omega
                refine ⟨x, ?_, ?_⟩
                · rw [List.getElem?_append_right (by rw [HK.out.1]; exact Nat.le_refl _), HK.out.1, Nat.sub_self]
                  simp [List.getD, HCJ.out]
                · rw [List.getD, HLJ.out]
                  exact HWF.out
            have HRN := Lib.hid hrow
            have HBN := Lib.hid hb
            have HTN := Lib.hid hti
            have HAN := Lib.hid hall2
            clear hrow hb hgrow hti hall2
            go_wp2_with fail
            go_roundw
            case rel => exact ⟨j + 1, _, _, _, keys ++ [((cj : Int), (x : Int))], n2, F2, by go_num, by omega, rfl, Lib.hid (by rw [List.map_append]; exact HRN.out), Lib.hid ⟨by rw [List.length_append, HK.out.1]; rfl, by have := HN2.out; omega⟩, HT2, HTN, HAN, HBN⟩
            case measure => simp [intOf]; omega
    · obtain rfl : N = j := by omega
      have HFP := Lib.hid (firstsP_any keys (.slice a m c) (w.heap.size + 1) V0 HR.out (by rw [HK.out.1]; omega))
      have HFR : Hid (fList keys = refE cl st) := Lib.hid (refE_of HT.out (by rw [HK.out.1, HNL.out.1]) (fun i hi => HW.out i (by rw [HNL.out.1]; exact hi)))
      rw [HFR.out] at HFP
      go_wp2_with (go_at_call 57; go_loud (refine HFP.out.mono ?_; rintro en w9 ⟨qa, qn, qc, rfl, hq9, hb9⟩; have HQ9 := Lib.hid hq9; have HB9 := Lib.hid hb9; clear hq9 hb9))
      go_ret
      exact ⟨_, _, _, rfl, HQ9.out.mono (by have := HB.out.size; omega), below_seq HB.out HB9.out⟩
end Go.Proofs.YtjmnaibbljakaaaGreatDoor

/- Equality, walks: slices.Equal of numbers. -/
namespace Go.Proofs.YtjmnaibbljakaaaGreatDoor
open Go.RowKit Go.Deep Go.Shelf

set_option maxHeartbeats 2000000 in
set_option maxRecDepth 100000 in
theorem eqInt_any (ls ms : List Nat) (v u : Value) (b1 b2 : Nat) (w : World) (hv : GRow 3 1 b1 w v (ls.map natC)) (hu : GRow 3 1 b2 w u (ms.map natC)) (hl : ls.length ≤ 1000000) :
    Calls Tryz.prog 35 #[v, u] w fun e w' => e = .returned (.bool (decide (ls = ms))) ∧ Below w.heap.size w w' := by
  obtain ⟨pa, len, c, rfl, hlen, _⟩ := hv.src
  obtain ⟨qa, qn, qc, rfl, hqn, _⟩ := hu.src
  rw [List.length_map] at hlen hqn
  have HG : Hid (∀ (i x : Nat), ls[i]? = some x → ∃ g, pa = some ⟨g, 0, none⟩ ∧ g < w.heap.size ∧ w.cell? ⟨g, i, none⟩ = some (.int .i64 (x : Int))) := Lib.hid (fun i x hi => by
    obtain ⟨g, cap, e, h0⟩ := hv.cell (j := i) (i := 0) (e := natC x) (u := .int .i64 (x : Int)) (by rw [List.getElem?_map, hi]; rfl) rfl
    simp only [Value.slice.injEq] at e
    exact ⟨g, e.1, (hv.lt g (by rw [e.1]; rfl)).2, by simpa using h0⟩)
  have HQ : Hid (∀ (i x : Nat), ms[i]? = some x → ∃ g, qa = some ⟨g, 0, none⟩ ∧ g < w.heap.size ∧ w.cell? ⟨g, i, none⟩ = some (.int .i64 (x : Int))) := Lib.hid (fun i x hi => by
    obtain ⟨g, cap, e, h0⟩ := hu.cell (j := i) (i := 0) (e := natC x) (u := .int .i64 (x : Int)) (by rw [List.getElem?_map, hi]; rfl) rfl
    simp only [Value.slice.injEq] at e
    exact ⟨g, e.1, (hu.lt g (by rw [e.1]; rfl)).2, by simpa using h0⟩)
  have hl1 : len ≤ 1000000 := by rw [hlen]; exact hl
  have HL := Lib.hid hlen
  have HN := Lib.hid hqn
  obtain ⟨z, hz⟩ : ∃ z, decide (ls = ms) = z := ⟨_, rfl⟩
  rw [hz]
  have HZ := Lib.hid hz
  clear hlen hqn hv hu hz
  by_cases hln : len = qn
  · subst hln
    go_enter Tryz.func35, Tryz.ntmps35
    go_wp2_with fail
    go_loopw [13] (fun i wr => ∃ j : Nat, i = .int .i64 j ∧ j ≤ len ∧ Hid (ls.take j = ms.take j) ∧ Hid (Below w.heap.size w wr)) (fun i _ => len - (intOf i).toNat)
    case atStart => exact ⟨0, rfl, by omega, Lib.hid (by simp), Lib.hid (Below.refl _ _)⟩
    case round =>
      obtain ⟨j, rfl, hj, HT, HB⟩ := hrel
      by_cases hlt : j < len
      · obtain ⟨y, hy⟩ : ∃ y, ls[j]? = some y := ⟨_, List.getElem?_eq_getElem (by rw [← HL.out]; exact hlt)⟩
        obtain ⟨x, hx⟩ : ∃ x, ms[j]? = some x := ⟨_, List.getElem?_eq_getElem (by rw [← HN.out]; exact hlt)⟩
        obtain ⟨kb, rfl, hkb, hc⟩ := HG.out j y hy
        obtain ⟨lb, rfl, hlb, hd⟩ := HQ.out j x hx
        have y0 := (HB.out.cell (p := ⟨kb, j, none⟩) hkb).trans hc
        have x0 := (HB.out.cell (p := ⟨lb, j, none⟩) hlb).trans hd
        clear hc hd
        by_cases he : y = x
        · subst he
          have HT2 := Lib.hid (take_eq HT.out hy hx)
          clear hy hx
          go_upto_region 6 with fail
          go_quiet (fail)
          go_wp2_with fail
          go_roundw
          case rel => exact ⟨j + 1, by go_num, by omega, HT2, Lib.hid (below_drewN HB.out _)⟩
          case measure => simp [intOf]; omega
        · have HV : Hid (false = z) := Lib.hid (by rw [← HZ.out]; simpa using take_ne hy hx he)
          have he1 : ¬ ((y : Int) = (x : Int)) := by omega
          have h2 : ((y : Int) == (x : Int)) = false := by simpa using he1
          have h3 : ((y : Int) != (x : Int)) = true := by simpa using he1
          clear hy hx he he1
          go_upto_region 6 with fail
          go_quiet (fail)
          go_wp2_with fail
          go_ret
          exact ⟨by rw [← HV.out]; rfl, below_drewN HB.out _⟩
      · obtain rfl : len = j := by omega
        have HV : Hid (true = z) := Lib.hid (by
          rw [← HZ.out]
          have h := HT.out
          rw [List.take_of_length_le (by rw [HL.out]; exact Nat.le_refl _), List.take_of_length_le (by rw [HN.out]; exact Nat.le_refl _)] at h
          simpa using h)
        go_wp2_with fail
        go_ret
        exact ⟨by rw [← HV.out]; rfl, HB.out⟩
  · have HV : Hid (false = z) := Lib.hid (by
      rw [← HZ.out]
      have : ls ≠ ms := fun e => hln (by rw [HL.out, HN.out, e])
      simpa using this)
    have h1 : ((len : Int) == (qn : Int)) = false := by simp; omega
    have h2 : ((len : Int) != (qn : Int)) = true := by simp; omega
    go_enter Tryz.func35, Tryz.ntmps35
    go_wp2_with fail
    go_ret
    exact ⟨by rw [← HV.out]; rfl, Below.refl _ _⟩
end Go.Proofs.YtjmnaibbljakaaaGreatDoor

/- Equality, walks: splitByPrio. -/
namespace Go.Proofs.YtjmnaibbljakaaaGreatDoor
open Go.RowKit Go.Deep Go.Shelf

def splK (ns : List GNode) (cl : List Nat) (m : Nat) : Int × Int := (((cl.getD m 0 : Nat) : Int), prR ns ⟨m, 0⟩)
/-- Classes, split by priorities. -/
def splE (ns : List GNode) (cl : List Nat) : List Nat := fList ((List.range cl.length).map (splK ns cl))
set_option maxHeartbeats 8000000 in
set_option maxRecDepth 100000 in
theorem splitP_any (ns : List GNode) (na : Option Addr) (nn nc : Nat) (cl : List Nat) (v : Value) (base : Nat) (w : World) (hG : EqG ns) (hns : NodeSl (fun k => k < w.heap.size) w (.slice na nn nc) ns) (hv : GRow 3 1 base w v (cl.map natC)) (hN : cl.length = ns.length) :
    Calls Tryz.prog 36 #[grV na nn nc, v] w fun e w' => ∃ a m c, e = .returned (.slice a m c) ∧ GRow 3 1 w.heap.size w' (.slice a m c) ((splE ns cl).map natC) ∧ Below w.heap.size w w' := by
  obtain ⟨va, N, vc, rfl, hNl, _⟩ := hv.src
  rw [List.length_map] at hNl
  have hN1 : N ≤ 1000000 := by rw [hNl, hN]; exact hG.len
  have HCL : Hid (∀ (i x : Nat), cl[i]? = some x → ∃ g, va = some ⟨g, 0, none⟩ ∧ g < w.heap.size ∧ w.cell? ⟨g, i, none⟩ = some (.int .i64 (x : Int))) := Lib.hid (fun i x hi => by
    obtain ⟨g, cap, e, h0⟩ := hv.cell (j := i) (i := 0) (e := natC x) (u := .int .i64 (x : Int)) (by rw [List.getElem?_map, hi]; rfl) rfl
    simp only [Value.slice.injEq] at e
    exact ⟨g, e.1, (hv.lt g (by rw [e.1]; rfl)).2, by simpa using h0⟩)
  obtain ⟨W1, hW1⟩ : ∃ W1, w.alloc (grO na nn nc) = W1 := ⟨_, rfl⟩
  have hb1 : Below w.heap.size w W1 := by rw [← hW1]; exact blkBelow w _ _
  have hs1 : W1.heap.size = w.heap.size + 1 := by rw [← hW1]; simp
  have x1 : W1.heap[w.heap.size]? = some (grO na nn nc) := by rw [← hW1]; exact World.alloc_heap_new _ _
  have HC : Hid (∀ W, Below W1.heap.size W1 W → W.cell? ⟨w.heap.size, 0, none⟩ = some (.slice na nn nc)) := Lib.hid (fun W hW => by
    have h0 : W.heap[w.heap.size]? = some (grO na nn nc) := (hW.block _ (by omega)).trans x1
    simp [World.cell?, h0])
  have HNS : Hid (∀ W, Below W1.heap.size W1 W → NodeSl (fun k => k < W.heap.size) W (.slice na nn nc) ns) := Lib.hid (fun W hW => hns.to (below_seq hb1 hW))
  have HNL := Lib.hid (And.intro hNl hN)
  have HG := Lib.hid hG
  have HW1 := Lib.hid hW1
  have HB1 := Lib.hid hb1
  have HS1 := Lib.hid hs1
  clear hv hG hns hNl hN hW1 hb1 hs1 x1
  go_enter Tryz.func36, Tryz.ntmps36
  go_upto_region 1 with fail
  rw [show w.alloc (.cells #[.slice na nn nc] 32) = W1 from HW1.out]
  go_wp2_with fail
  go_loopw [10, 5] (fun i v wr => ∃ (j : Nat) (a : Option Addr) (m c : Nat), i = .int .i64 j ∧ j ≤ N ∧ v = .slice a m c ∧ Hid (GRow 103 2 W1.heap.size wr (.slice a m c) (((List.range j).map (splK ns cl)).map p2C)) ∧ Hid (Below W1.heap.size W1 wr)) (fun i _ _ => N - (intOf i).toNat)
  case atStart => exact ⟨0, _, _, _, rfl, by omega, rfl, Lib.hid (GRow.nil _ _ _ _), Lib.hid (Below.refl _ _)⟩
  case round =>
    obtain ⟨j, a, m, c, rfl, hj, rfl, HR, HB⟩ := hrel
    by_cases hlt : j < N
    · obtain ⟨cj, hcj⟩ : ∃ cj, cl[j]? = some cj := ⟨_, List.getElem?_eq_getElem (by rw [← HNL.out.1]; exact hlt)⟩
      obtain ⟨g, hg⟩ : ∃ g, ns[j]? = some g := ⟨_, List.getElem?_eq_getElem (by rw [← HNL.out.2, ← HNL.out.1]; exact hlt)⟩
      obtain ⟨ga, rfl, hga, hc0⟩ := HCL.out j cj hcj
      have hbw : Below w.heap.size w wr := below_seq HB1.out HB.out
      have e0 := (hbw.cell (p := ⟨ga, j, none⟩) hga).trans hc0
      have g0 := HC.out wr HB.out
      obtain ⟨pj, hpj⟩ : ∃ pj, prE g 0 = pj := ⟨_, rfl⟩
      have HPR := Lib.hid (eprio_any ns na nn nc j 0 g wr (HNS.out wr HB.out) hg HG.out.len ((HG.out.sm g (List.mem_of_getElem? hg)).1) (by omega))
      rw [hpj] at HPR
      have HK : Hid (splK ns cl j = ((cj : Int), pj)) := Lib.hid (by
        unfold splK
        rw [show prR ns ⟨j, 0⟩ = pj from by rw [prR_at (r := ⟨j, 0⟩) hg]; exact hpj]
        simp [List.getD, hcj])
      clear hcj hg hc0 hbw hpj
      go_wp2_with (first | (go_at_call 27; go_loud (refine HPR.out.mono ?_; rintro en w5 ⟨rfl, hb5⟩; have HB5 := Lib.hid (below_seq HB.out hb5); have HR5 := Lib.hid (HR.out.to hb5); clear hb5)) | (at_builtin; refine wpList_appG pr2Elem rfl _ _ rfl rfl (HR5.out.alloc _) (some ⟨w5.heap.size, 0, none⟩) 1 1 [p2C ((cj : Int), pj)] rfl rfl (by intro e' he'; rw [List.mem_singleton.1 he']; rfl) (src_new w5 (p2C ((cj : Int), pj)) _) (fun e he u hu => by rw [List.mem_singleton.1 he] at hu; simp only [p2C, List.mem_cons, List.not_mem_nil, or_false] at hu; rcases hu with rfl | rfl <;> rfl) ?_ ?_ ?_))
      · simp only [List.length_map, List.length_range, List.length_singleton]; omega
      · have := HB5.out.size
        simp; omega
      · intro ga' gn gc w7 hrow hgrow _
        have hb : Below W1.heap.size W1 w7 := (HB5.out.alloc HB5.out.size _).grown hgrow (by have := HB5.out.size; simp; omega) (fun k hk => (HR5.out.lt k hk).1)
        have HRN := Lib.hid hrow
        have HBN := Lib.hid hb
        clear hrow hb hgrow
        go_wp2_with fail
        go_roundw
        case rel => exact ⟨j + 1, _, _, _, by go_num, by omega, rfl, Lib.hid (by rw [List.range_succ, List.map_append, List.map_append, List.map_cons, List.map_nil, HK.out, List.map_map]; exact HRN.out), HBN⟩
        case measure => simp [intOf]; omega
    · obtain rfl : N = j := by omega
      have HFP := Lib.hid (firstsP_any ((List.range N).map (splK ns cl)) (.slice a m c) W1.heap.size wr HR.out (by rw [List.length_map, List.length_range]; exact hN1))
      have HFR : Hid (fList ((List.range N).map (splK ns cl)) = splE ns cl) := Lib.hid (by unfold splE; rw [HNL.out.1])
      rw [HFR.out] at HFP
      go_wp2_with (go_at_call 57; go_loud (refine HFP.out.mono ?_; rintro en w9 ⟨qa, qn, qc, rfl, hq9, hb9⟩; have HQ9 := Lib.hid hq9; have HB9 := Lib.hid hb9; clear hq9 hb9))
      go_ret
      exact ⟨_, _, _, rfl, HQ9.out.mono (by have := HB.out.size; have := HS1.out; omega), below_seq HB1.out (below_seq HB.out HB9.out)⟩
end Go.Proofs.YtjmnaibbljakaaaGreatDoor

/- Equality, walks: strings.Join and strconv.Itoa by the library's contracts. -/
namespace Go.Proofs.YtjmnaibbljakaaaGreatDoor
open Go.Shelf
def layJn_ren : Go.Shelf.Ren := ⟨fun | 156 => 55 | 165 => 70 | 166 => 71 | 169 => 72 | 240 => 84 | 241 => 85 | 276 => 98 | 277 => 99 | n => n, fun | 31 => 22 | 9 => 9 | 3 => 3 | 4 => 4 | 0 => 0 | 20 => 20 | 72 => 119 | 76 => 123 | 70 => 116 | 37 => 117 | 75 => 122 | 127 => 135 | 164 => 148 | 5 => 5 | 80 => 125 | n => n, fun | n => n⟩
theorem layJn : Go.Proofs.Lays.n156 Tryz.prog layJn_ren := {
  mixed := by kernel_rfl
  f156 := Tryz.func55.trans (congrArg some (by kernel_rfl))
  f165 := Tryz.func70.trans (congrArg some (by kernel_rfl))
  f166 := Tryz.func71.trans (congrArg some (by kernel_rfl))
  f169 := Tryz.func72.trans (congrArg some (by kernel_rfl))
  f240 := Tryz.func84.trans (congrArg some (by kernel_rfl))
  f241 := Tryz.func85.trans (congrArg some (by kernel_rfl))
  f276 := Tryz.func98.trans (congrArg some (by kernel_rfl))
  f277 := Tryz.func99.trans (congrArg some (by kernel_rfl))
  t0 := Tryz.underlying0
  a0 := Tryz.isAgg0
  z0 := Tryz.sizeOf0
  v0 := Tryz.zeroValue0
  t3 := Tryz.underlying3
  a3 := Tryz.isAgg3
  z3 := Tryz.sizeOf3
  v3 := Tryz.zeroValue3
  t4 := Tryz.underlying4
  a4 := Tryz.isAgg4
  z4 := Tryz.sizeOf4
  v4 := Tryz.zeroValue4
  t9 := Tryz.underlying9
  a9 := Tryz.isAgg9
  z9 := Tryz.sizeOf9
  v9 := Tryz.zeroValue9
  t20 := Tryz.underlying20
  a20 := Tryz.isAgg20
  z20 := Tryz.sizeOf20
  v20 := Tryz.zeroValue20
  t31 := Tryz.underlying22
  a31 := Tryz.isAgg22
  z31 := Tryz.sizeOf22
  v31 := Tryz.zeroValue22
  t37 := Tryz.underlying117
  a37 := Tryz.isAgg117
  z37 := Tryz.sizeOf117
  v37 := Tryz.zeroValue117
  t70 := Tryz.underlying116
  a70 := Tryz.isAgg116
  z70 := Tryz.sizeOf116
  v70 := Tryz.zeroValue116
  t72 := Tryz.underlying119
  a72 := Tryz.isAgg119
  z72 := Tryz.sizeOf119
  v72 := Tryz.zeroValue119
  t75 := Tryz.underlying122
  a75 := Tryz.isAgg122
  z75 := Tryz.sizeOf122
  v75 := Tryz.zeroValue122
  t76 := Tryz.underlying123
  a76 := Tryz.isAgg123
  z76 := Tryz.sizeOf123
  v76 := Tryz.zeroValue123
  t127 := Tryz.underlying135
  a127 := Tryz.isAgg135
  z127 := Tryz.sizeOf135
  v127 := Tryz.zeroValue135
  t164 := Tryz.underlying148
  a164 := Tryz.isAgg148
  z164 := Tryz.sizeOf148
  v164 := Tryz.zeroValue148 }
theorem xtrJn : Go.Proofs.Builder.Extra Tryz.prog layJn_ren := {
  sizeBuilder := by kernel_rfl
  liesBuilder := by kernel_rfl
  t5 := Tryz.underlying5
  a5 := Tryz.isAgg5
  z5 := Tryz.sizeOf5
  v5 := Tryz.zeroValue5
  infoByte := by kernel_rfl
  cellsByte := by kernel_rfl
  sizeByte := by kernel_rfl
  neB5 := by decide }
def layIt_ren : Go.Shelf.Ren := ⟨fun | 171 => 54 | 243 => 69 | 246 => 83 | 283 => 94 | 284 => 95 | 285 => 96 | 286 => 97 | 129 => 113 | 317 => 122 | 318 => 123 | 319 => 124 | 320 => 125 | 337 => 134 | 338 => 135 | n => n, fun | 3 => 3 | 9 => 9 | 2 => 2 | 4 => 4 | 171 => 142 | 0 => 0 | 53 => 143 | 37 => 117 | 5 => 5 | 173 => 146 | 212 => 168 | 51 => 161 | 20 => 20 | 213 => 169 | 46 => 140 | 232 => 182 | 233 => 183 | n => n, fun | 17 => 0 | 18 => 2 | 19 => 3 | n => n⟩
theorem layIt : Go.Proofs.Lays.n171 Tryz.prog layIt_ren := {
  mixed := by kernel_rfl
  f129 := Tryz.func113.trans (congrArg some (by kernel_rfl))
  f171 := Tryz.func54.trans (congrArg some (by kernel_rfl))
  f243 := Tryz.func69.trans (congrArg some (by kernel_rfl))
  f246 := Tryz.func83.trans (congrArg some (by kernel_rfl))
  f283 := Tryz.func94.trans (congrArg some (by kernel_rfl))
  f284 := Tryz.func95.trans (congrArg some (by kernel_rfl))
  f285 := Tryz.func96.trans (congrArg some (by kernel_rfl))
  f286 := Tryz.func97.trans (congrArg some (by kernel_rfl))
  f317 := Tryz.func122.trans (congrArg some (by kernel_rfl))
  f318 := Tryz.func123.trans (congrArg some (by kernel_rfl))
  f319 := Tryz.func124.trans (congrArg some (by kernel_rfl))
  f320 := Tryz.func125.trans (congrArg some (by kernel_rfl))
  f337 := Tryz.func134.trans (congrArg some (by kernel_rfl))
  f338 := Tryz.func135.trans (congrArg some (by kernel_rfl))
  t0 := Tryz.underlying0
  a0 := Tryz.isAgg0
  z0 := Tryz.sizeOf0
  v0 := Tryz.zeroValue0
  t2 := Tryz.underlying2
  a2 := Tryz.isAgg2
  z2 := Tryz.sizeOf2
  v2 := Tryz.zeroValue2
  t3 := Tryz.underlying3
  a3 := Tryz.isAgg3
  z3 := Tryz.sizeOf3
  v3 := Tryz.zeroValue3
  t4 := Tryz.underlying4
  a4 := Tryz.isAgg4
  z4 := Tryz.sizeOf4
  v4 := Tryz.zeroValue4
  t5 := Tryz.underlying5
  a5 := Tryz.isAgg5
  z5 := Tryz.sizeOf5
  v5 := Tryz.zeroValue5
  t9 := Tryz.underlying9
  a9 := Tryz.isAgg9
  z9 := Tryz.sizeOf9
  v9 := Tryz.zeroValue9
  t20 := Tryz.underlying20
  a20 := Tryz.isAgg20
  z20 := Tryz.sizeOf20
  v20 := Tryz.zeroValue20
  t37 := Tryz.underlying117
  a37 := Tryz.isAgg117
  z37 := Tryz.sizeOf117
  v37 := Tryz.zeroValue117
  t46 := Tryz.underlying140
  a46 := Tryz.isAgg140
  z46 := Tryz.sizeOf140
  v46 := Tryz.zeroValue140
  t51 := Tryz.underlying161
  a51 := Tryz.isAgg161
  z51 := Tryz.sizeOf161
  v51 := Tryz.zeroValue161
  t53 := Tryz.underlying143
  a53 := Tryz.isAgg143
  z53 := Tryz.sizeOf143
  v53 := Tryz.zeroValue143
  t171 := Tryz.underlying142
  a171 := Tryz.isAgg142
  z171 := Tryz.sizeOf142
  v171 := Tryz.zeroValue142
  t173 := Tryz.underlying146
  a173 := Tryz.isAgg146
  z173 := Tryz.sizeOf146
  v173 := Tryz.zeroValue146
  t212 := Tryz.underlying168
  a212 := Tryz.isAgg168
  z212 := Tryz.sizeOf168
  v212 := Tryz.zeroValue168
  t213 := Tryz.underlying169
  a213 := Tryz.isAgg169
  z213 := Tryz.sizeOf169
  t232 := Tryz.underlying182
  a232 := Tryz.isAgg182
  z232 := Tryz.sizeOf182
  v232 := Tryz.zeroValue182
  t233 := Tryz.underlying183
  a233 := Tryz.isAgg183
  z233 := Tryz.sizeOf183
  v233 := Tryz.zeroValue183
  g17 := by kernel_rfl
  g18 := by kernel_rfl
  g19 := by kernel_rfl }
open Go.RowKit in
/-- No element: the empty string; the world is as it was. (Whatever the slice's address and capacity: a nil slice too.) (LAID: no walk: one application.) -/
theorem jnNone_l (a : Option Addr) (c : Nat) (sep : ByteArray) (w : World) :
    Calls Tryz.prog 55 #[.slice a 0 c, .string sep] w fun e w' => e = .returned (.string ⟨#[]⟩) ∧ w' = w := Any.strings_Join_none layJn xtrJn a c sep w
open Go.RowKit in
/-- strings.Join: "Join concatenates the elements of its first argument to create a single string. The separator string sep is placed between elements in the resulting string.": HOWEVER MANY ELEMENTS. Below the heap's end the world is as it was. (LAID: no walk: one application.) -/
theorem jn_l (bk o c : Nat) (xs : List ByteArray) (sep : ByteArray) (w : World) (hcells : ∀ (j : Nat) x, xs[j]? = some x → w.cell? ⟨bk, o + j, none⟩ = some (.string x)) (hbk : bk < w.heap.size) (hN : xs.length ≤ 140737488355328) (hcap : xs.length ≤ c) (hlen : (Lib.join (xs.map (·.data.toList)) sep.data.toList).length ≤ 140737488355328) :
    Calls Tryz.prog 55 #[.slice (some ⟨bk, o, none⟩) xs.length c, .string sep] w fun e w' => e = .returned (.string ⟨(Lib.join (xs.map (·.data.toList)) sep.data.toList).toArray⟩) ∧ Below w.heap.size w w' := Any.strings_Join layJn xtrJn bk o c xs sep w hcells hbk hN hcap hlen
open Go.RowKit Go.Sort Go.Lib in
/-- THE ROAD WITHOUT THE TABLE: 0 <= i < 100: NO PREMISE ON THE WORLD, AND THE WORLD IS AS IT WAS: a row that keeps its argument in that range need list no table ('laid = []'). (LAID: no walk: one application.) -/
theorem itoa_l (i : Nat) (hi : i < 100) (w : World) :
    Calls Tryz.prog 54 #[.int .i64 i] w fun e w' => e = .returned (.string ⟨(Lib.decDigits i).toArray⟩) ∧ w' = w := Any.strconv_Itoa_small layIt i hi w
end Go.Proofs.YtjmnaibbljakaaaGreatDoor

/- Equality: texts of kinds and labels are equal exactly if these are (mathematics). -/
namespace Go.Proofs.YtjmnaibbljakaaaGreatDoor
open Go.RowKit Go.Deep Go.Shelf

theorem app_sp : ∀ (x y a b : List UInt8), (32 : UInt8) ∉ x → (32 : UInt8) ∉ y → (a = [] ∨ a.head? = some 32) → (b = [] ∨ b.head? = some 32) → x ++ a = y ++ b → x = y ∧ a = b
  | [], [], _, _, _, _, _, _, h => ⟨rfl, h⟩
  | [], c :: y, a, b, _, hy, ha, _, h => by
    rw [List.nil_append, List.cons_append] at h
    rcases ha with rfl | ha
    · cases h
    · rw [h] at ha
      have := Option.some.inj ha
      subst this
      exact absurd (by simp) hy
  | c :: x, [], a, b, hx, _, _, hb, h => by
    rw [List.nil_append, List.cons_append] at h
    rcases hb with rfl | hb
    · cases h
    · rw [← h] at hb
      have := Option.some.inj hb
      subst this
      exact absurd (by simp) hx
  | c :: x, d :: y, a, b, hx, hy, ha, hb, h => by
    rw [List.cons_append, List.cons_append] at h
    obtain ⟨h1, h2⟩ := List.cons.inj h
    obtain ⟨h3, h4⟩ := app_sp x y a b (fun e => hx (by simp [e])) (fun e => hy (by simp [e])) ha hb h2
    exact ⟨by rw [h1, h3], h4⟩
theorem tail_sp (r : List (List UInt8)) : Lib.joinTail [32] r = [] ∨ (Lib.joinTail [32] r).head? = some 32 := by
  cases r with
  | nil => exact .inl rfl
  | cons y r => right; simp [Lib.joinTail]
theorem tail_inj : ∀ (r q : List (List UInt8)), (∀ x ∈ r, (32 : UInt8) ∉ x) → (∀ x ∈ q, (32 : UInt8) ∉ x) → Lib.joinTail [32] r = Lib.joinTail [32] q → r = q
  | [], [], _, _, _ => rfl
  | [], y :: q, _, _, h => by simp [Lib.joinTail] at h
  | x :: r, [], _, _, h => by simp [Lib.joinTail] at h
  | x :: r, y :: q, hx, hy, h => by
    have e : ∀ (z : List UInt8) (t : List (List UInt8)), Lib.joinTail [32] (z :: t) = 32 :: (z ++ Lib.joinTail [32] t) := fun z t => by simp [Lib.joinTail]
    rw [e, e] at h
    obtain ⟨h1, h2⟩ := app_sp _ _ _ _ (hx x (by simp)) (hy y (by simp)) (tail_sp r) (tail_sp q) (List.cons.inj h).2
    rw [h1, tail_inj r q (fun z hz => hx z (by simp [hz])) (fun z hz => hy z (by simp [hz])) h2]
theorem join_inj (r q : List (List UInt8)) (hr : ∀ x ∈ r, x ≠ [] ∧ (32 : UInt8) ∉ x) (hq : ∀ x ∈ q, x ≠ [] ∧ (32 : UInt8) ∉ x) (h : Lib.join r [32] = Lib.join q [32]) : r = q := by
  cases r with
  | nil =>
    cases q with
    | nil => rfl
    | cons y q =>
      rw [Lib.join_nil, Lib.join_cons] at h
      exact absurd (List.append_eq_nil_iff.1 h.symm).1 (hq y (by simp)).1
  | cons x r =>
    cases q with
    | nil =>
      rw [Lib.join_nil, Lib.join_cons] at h
      exact absurd (List.append_eq_nil_iff.1 h).1 (hr x (by simp)).1
    | cons y q =>
      rw [Lib.join_cons, Lib.join_cons] at h
      obtain ⟨h1, h2⟩ := app_sp _ _ _ _ (hr x (by simp)).2 (hq y (by simp)).2 (tail_sp r) (tail_sp q) h
      rw [h1, tail_inj r q (fun z hz => (hr z (by simp [hz])).2) (fun z hz => (hq z (by simp [hz])).2) h2]
theorem dig_inj : ∀ a b : Fin 10, Lib.decDigits a.val = Lib.decDigits b.val → a = b := by decide +kernel
theorem dig_sp : ∀ a : Fin 10, (32 : UInt8) ∉ Lib.decDigits a.val := by decide +kernel
/-- The labels have no spaces, and are not too long. -/
structure LabOk (ns : List GNode) : Prop where
  lab : ∀ g ∈ ns, ∀ l ∈ g.ls, l.data.toList ≠ [] ∧ (32 : UInt8) ∉ l.data.toList ∧ l.size ≤ 1048576
theorem map_toL_inj : ∀ (l m : List ByteArray), l.map (fun s => s.data.toList) = m.map (fun s => s.data.toList) → l = m
  | [], [], _ => rfl
  | [], _ :: _, h => by simp at h
  | _ :: _, [], h => by simp at h
  | a :: l, b :: m, h => by
    rw [List.map_cons, List.map_cons] at h
    obtain ⟨h1, h2⟩ := List.cons.inj h
    rw [toL_inj h1, map_toL_inj l m h2]
theorem tail_len : ∀ (r : List (List UInt8)) (M : Nat), (∀ x ∈ r, x.length ≤ M) → (Lib.joinTail [32] r).length ≤ r.length * (M + 1)
  | [], _, _ => by simp [Lib.joinTail]
  | x :: r, M, h => by
    have e : Lib.joinTail [32] (x :: r) = 32 :: (x ++ Lib.joinTail [32] r) := by simp [Lib.joinTail]
    rw [e, List.length_cons, List.length_append, List.length_cons, Nat.succ_mul]
    have h1 := tail_len r M (fun y hy => h y (by simp [hy]))
    have h2 := h x (by simp)
    omega
theorem join_len (r : List (List UInt8)) (M : Nat) (h : ∀ x ∈ r, x.length ≤ M) : (Lib.join r [32]).length ≤ r.length * (M + 1) := by
  cases r with
  | nil => rw [Lib.join_nil]; simp
  | cons x r =>
    rw [Lib.join_cons, List.length_append, List.length_cons, Nat.succ_mul]
    have h1 := tail_len r M (fun y hy => h y (by simp [hy]))
    have h2 := h x (by simp)
    omega
theorem dig_len : ∀ a : Fin 10, (Lib.decDigits a.val).length ≤ 2 := by decide +kernel
/-- The text of a kind and labels. -/
def keyL (k : Nat) (ls : List ByteArray) : List UInt8 := Lib.decDigits k ++ (32 :: Lib.join (ls.map (fun s => s.data.toList)) [32])
theorem keyL_inj {k j : Nat} {ls ms : List ByteArray} (hk : k < 10) (hj : j < 10) (hl : ∀ l ∈ ls, l.data.toList ≠ [] ∧ (32 : UInt8) ∉ l.data.toList) (hm : ∀ l ∈ ms, l.data.toList ≠ [] ∧ (32 : UInt8) ∉ l.data.toList) (h : keyL k ls = keyL j ms) : k = j ∧ ls = ms := by
  unfold keyL at h
  obtain ⟨h1, h2⟩ := app_sp _ _ _ _ (dig_sp ⟨k, hk⟩) (dig_sp ⟨j, hj⟩) (.inr rfl) (.inr rfl) h
  have h3 := dig_inj ⟨k, hk⟩ ⟨j, hj⟩ h1
  have h4 := join_inj _ _ (fun x hx => by obtain ⟨l, hl', rfl⟩ := List.mem_map.1 hx; exact hl l hl') (fun x hx => by obtain ⟨l, hl', rfl⟩ := List.mem_map.1 hx; exact hm l hl') (List.cons.inj h2).2
  refine ⟨by simpa using h3, ?_⟩
  exact map_toL_inj ls ms h4
end Go.Proofs.YtjmnaibbljakaaaGreatDoor

/- Equality: classes of nodes by refinement. -/
namespace Go.Proofs.YtjmnaibbljakaaaGreatDoor

section
variable {L : LG} {N : Nat}
/-- The steps of two nodes that are raised to the priority 0 have the same priorities, and lead to nodes of one class. -/
def StepsOk (L : LG) (P : Nat → Nat → Prop) (m k : Nat) : Prop := ∀ (i : Nat) (a b : GRef), (L.beh (L.nrm m))[i]? = some a → (L.beh (L.nrm k))[i]? = some b → L.rp a = L.rp b ∧ P a.n b.n
theorem beh_lt (hw : ∀ m, m < N → ∀ a ∈ L.ch m, a.n < N) {m : Nat} (hm : m < N) {x : GRef} (hx : x.n = m) {i : Nat} {a : GRef} (ha : (L.beh x)[i]? = some a) : a.n < N := by
  unfold LG.beh at ha
  rw [List.getElem?_map] at ha
  obtain ⟨c, hc, rfl⟩ := Option.map_eq_some_iff.1 ha
  exact hw m hm c (by rw [← hx]; exact List.mem_of_getElem? hc)
/-- The first classes: the same Kind and labels. -/
theorem first_classes (ok : L.Ok) (m k : Nat) : (L.kind m = L.kind k ∧ L.labs m = L.labs k) ↔ L.eqN false 1 (L.nrm m) (L.nrm k) := by
  constructor
  · rintro ⟨h1, h2⟩
    refine ⟨⟨⟨h1, .inr ?_⟩, h2⟩, fun _ _ _ _ _ => trivial⟩
    have ha := ok.act m k h1
    unfold LG.rp LG.nrm
    cases hm : L.prio m with
    | none =>
      cases hk : L.prio k with
      | none => rfl
      | some q => rw [hm, hk] at ha; simp at ha
    | some p =>
      cases hk : L.prio k with
      | none => rw [hm, hk] at ha; simp at ha
      | some q =>
        simp only [Option.map_some, Option.getD_some, Option.some.injEq]
        omega
  · rintro ⟨⟨⟨h1, _⟩, h2⟩, _⟩
    exact ⟨h1, h2⟩
/-- Classes are refined once. -/
theorem refine_step (ok : L.Ok) (hw : ∀ m, m < N → ∀ a ∈ L.ch m, a.n < N) {P : Nat → Nat → Prop} {j : Nat} (hP : ∀ m k, m < N → k < N → (P m k ↔ L.eqN false (j + 1) (L.nrm m) (L.nrm k))) (m k : Nat) (hm : m < N) (hk : k < N) :
    (P m k ∧ StepsOk L P m k) ↔ L.eqN false (j + 2) (L.nrm m) (L.nrm k) := by
  constructor
  · rintro ⟨h1, h2⟩
    have h3 := (hP m k hm hk).1 h1
    refine ⟨h3.1, fun i a b ha hb => ?_⟩
    obtain ⟨h4, h5⟩ := h2 i a b ha hb
    have h6 := (hP _ _ (beh_lt hw hm rfl ha) (beh_lt hw hk rfl hb)).1 h5
    exact nodes_lift ok ⟨h6.1.1.1, .inr h4⟩ h6
  · intro h
    refine ⟨(hP m k hm hk).2 (eqN_less _ _ _ h), fun i a b ha hb => ?_⟩
    have h1 := h.2 i a b ha hb
    exact ⟨h1.1.1.2.resolve_left (by decide), (hP _ _ (beh_lt hw hm rfl ha) (beh_lt hw hk rfl hb)).2 (nodes_lower ok h1.1.1 h1)⟩
/-- Classes that refinement keeps are those of equal nodes. -/
theorem stable_classes (ok : L.Ok) (hw : ∀ m, m < N → ∀ a ∈ L.ch m, a.n < N) {P : Nat → Nat → Prop} {j : Nat} (hP : ∀ m k, m < N → k < N → (P m k ↔ L.eqN false (j + 1) (L.nrm m) (L.nrm k))) (hst : ∀ m k, m < N → k < N → P m k → StepsOk L P m k) (m k : Nat) (hm : m < N) (hk : k < N) :
    P m k ↔ L.Eqv false (L.nrm m) (L.nrm k) := by
  have key : ∀ n m k, m < N → k < N → P m k → L.eqN false n (L.nrm m) (L.nrm k) := by
    intro n
    induction n with
    | zero => intro _ _ _ _ _; trivial
    | succ n ih =>
      intro m k hm hk h
      have h1 := (hP m k hm hk).1 h
      refine ⟨h1.1, fun i a b ha hb => ?_⟩
      obtain ⟨h2, h3⟩ := hst m k hm hk h i a b ha hb
      have ha' := beh_lt hw hm rfl ha
      have hb' := beh_lt hw hk rfl hb
      exact nodes_lift ok ⟨((hP _ _ ha' hb').1 h3).1.1.1, .inr h2⟩ (ih _ _ ha' hb' h3)
  exact ⟨fun h n => key n m k hm hk h, fun h => (hP m k hm hk).2 (h _)⟩
/-- Nodes of one class with the same priority are equal. -/
theorem prio_classes (ok : L.Ok) (m k : Nat) : (L.Eqv false (L.nrm m) (L.nrm k) ∧ (L.prio m).getD 0 = (L.prio k).getD 0) ↔ L.Eqv false ⟨m, 0⟩ ⟨k, 0⟩ := by
  have up0 : ∀ o : Option Int, o.map (· + 0) = o := by
    intro o
    cases o <;> simp
  constructor
  · rintro ⟨h1, h2⟩ n
    have hk : L.kind m = L.kind k := h1.comp.1.1
    have ha := ok.act m k hk
    have hp : L.prio m = L.prio k := by
      cases hm : L.prio m with
      | none =>
        cases hk : L.prio k with
        | none => rfl
        | some q => rw [hm, hk] at ha; simp at ha
      | some p =>
        cases hk : L.prio k with
        | none => rw [hm, hk] at ha; simp at ha
        | some q => rw [hm, hk] at h2; simpa using h2
    exact nodes_lift ok (x := ⟨m, 0⟩) (y := ⟨k, 0⟩) ⟨hk, .inr (by unfold LG.rp; simp only [hp])⟩ (h1 n)
  · intro h
    have h1 := h.comp.1
    have h2 : L.rp ⟨m, 0⟩ = L.rp ⟨k, 0⟩ := h1.2.resolve_left (by decide)
    have h3 : L.prio m = L.prio k := by
      unfold LG.rp at h2
      simp only [up0] at h2
      exact h2
    exact ⟨fun n => nodes_lower ok (x := ⟨m, 0⟩) (y := ⟨k, 0⟩) h1 (h n), by rw [h3]⟩
end
end Go.Proofs.YtjmnaibbljakaaaGreatDoor

/- Equality: the program's classes are those of equal nodes (mathematics). -/
namespace Go.Proofs.YtjmnaibbljakaaaGreatDoor
open Go.RowKit Go.Deep Go.Shelf

section
variable {κ : Type} [DecidableEq κ]
theorem fList_len (l : List κ) : (fList l).length = l.length := by simp [fList]
theorem fList_at {l : List κ} {m : Nat} {a : κ} (h : l[m]? = some a) : (fList l).getD m 0 = fIdx l a := by
  simp [fList, List.getD, h]
theorem fList_eq {l : List κ} {m k : Nat} {a b : κ} (ha : l[m]? = some a) (hb : l[k]? = some b) : (fList l).getD m 0 = (fList l).getD k 0 ↔ a = b := by
  rw [fList_at ha, fList_at hb]
  exact fIdx_inj (List.mem_of_getElem? ha) (List.mem_of_getElem? hb)
theorem fIdx_le {l : List κ} {a : κ} {j : Nat} (h : l[j]? = some a) : fIdx l a ≤ j := by
  refine Classical.byContradiction fun hgt => ?_
  have := List.not_of_lt_findIdx (p := fun x => decide (x = a)) (xs := l) (i := j) (by unfold fIdx at hgt; omega)
  obtain ⟨hjl, hje⟩ := List.getElem?_eq_some_iff.1 h
  simp [hje] at this
end
/-- How many classes there are: those that are their own first elements. -/
def rootsN (cl : List Nat) : Nat := (List.range cl.length).countP (fun i => decide (cl.getD i 0 = i))
theorem rootsN_le (cl : List Nat) : rootsN cl ≤ cl.length := by
  have := List.countP_le_length (p := fun i => decide (cl.getD i 0 = i)) (l := List.range cl.length)
  simpa [rootsN] using this
theorem countP_lt {p q : Nat → Bool} : ∀ (l : List Nat), (∀ i ∈ l, p i = true → q i = true) → (∃ i ∈ l, p i = false ∧ q i = true) → l.countP p < l.countP q
  | [], _, h => by obtain ⟨_, h, _⟩ := h; cases h
  | x :: r, h1, h2 => by
    rw [List.countP_cons, List.countP_cons]
    have hle : r.countP p ≤ r.countP q := List.countP_mono_left (fun i hi => h1 i (by simp [hi]))
    by_cases hx : p x = false ∧ q x = true
    · rw [hx.1, hx.2]; simp; omega
    · have hr : ∃ i ∈ r, p i = false ∧ q i = true := by
        obtain ⟨i, hi, hpq⟩ := h2
        rcases List.mem_cons.1 hi with rfl | hi
        · exact absurd hpq hx
        · exact ⟨i, hi, hpq⟩
      have ih := countP_lt r (fun i hi => h1 i (by simp [hi])) hr
      have hxx := h1 x (by simp)
      cases hp : p x
      · cases q x <;> simp <;> omega
      · rw [hxx hp]; omega
/-- Finer lists of first indices that differ have more classes. -/
theorem roots_more {κ μ : Type} [DecidableEq κ] [DecidableEq μ] {l : List κ} {r : List μ} (hl : l.length = r.length) (hf : ∀ (i j : Nat) (a b : κ) (c d : μ), l[i]? = some a → l[j]? = some b → r[i]? = some c → r[j]? = some d → c = d → a = b) (hne : fList r ≠ fList l) : rootsN (fList l) < rootsN (fList r) := by
  unfold rootsN
  rw [fList_len, fList_len, ← hl]
  have at1 : ∀ i, i < l.length → ∃ a c, l[i]? = some a ∧ r[i]? = some c := fun i hi => ⟨l[i], r[i]'(by omega), List.getElem?_eq_getElem hi, List.getElem?_eq_getElem (by omega)⟩
  refine countP_lt _ (fun i hi h => ?_) ?_
  · obtain ⟨a, c, ha, hc⟩ := at1 i (by simpa using hi)
    simp only [decide_eq_true_eq] at h ⊢
    rw [fList_at ha] at h
    rw [fList_at hc]
    refine Nat.le_antisymm (fIdx_le hc) ?_
    have h1 := fIdx_at (List.mem_of_getElem? hc)
    obtain ⟨b, d, hb, hd⟩ := at1 (fIdx r c) (by have := fIdx_lt (List.mem_of_getElem? hc); omega)
    have e := Option.some.inj (hd.symm.trans h1)
    have e2 := hf _ _ _ _ _ _ hb ha hd hc e
    rw [e2] at hb
    have := fIdx_le hb
    omega
  · refine Classical.byContradiction fun hno => hne ?_
    have hsame : ∀ i, i < l.length → (fList r).getD i 0 = i → (fList l).getD i 0 = i := fun i hi h => Classical.byContradiction fun h2 => hno ⟨i, by simpa using hi, by simpa using h2, by simpa using h⟩
    apply List.ext_getElem?
    intro m
    by_cases hm : m < l.length
    · obtain ⟨a, c, ha, hc⟩ := at1 m hm
      have hc1 := fIdx_at (List.mem_of_getElem? hc)
      have hc2 := fIdx_lt (List.mem_of_getElem? hc)
      obtain ⟨b, d, hb, hd⟩ := at1 (fIdx r c) (by omega)
      obtain rfl := Option.some.inj (hd.symm.trans hc1)
      have hab := hf _ _ _ _ _ _ hb ha hd hc rfl
      subst hab
      have h1 := hsame (fIdx r d) (by omega) (by rw [fList_at hd])
      rw [fList_at hb] at h1
      simp only [fList, List.getElem?_map, ha, hc, Option.map_some]
      rw [h1]
    · rw [List.getElem?_eq_none (by rw [fList_len]; omega), List.getElem?_eq_none (by rw [fList_len]; omega)]

/-! ### The rounds -/
/-- The first classes. -/
def fstE (ns : List GNode) : List Nat := fList (ns.map (fun g => (g.k, srtL g.ls)))
def stE (ns : List GNode) : List (List GRef) := ns.map (stN ns)
section
variable {ns : List GNode}
theorem lgN_ch (hG : EqG ns) : ∀ m, m < ns.length → ∀ a ∈ (lgN ns).ch m, a.n < ns.length := fun m hm a ha => by
  obtain ⟨g, hg⟩ : ∃ g, ns[m]? = some g := ⟨_, List.getElem?_eq_getElem hm⟩
  have hgm := List.mem_of_getElem? hg
  have : (lgN ns).ch m = chE srtL g := by simp [lgN, lgOf, hg]
  rw [this, ch_ord g (hG.nd g hgm) ((hG.ok g hgm).lens)] at ha
  obtain ⟨i, _, hi⟩ := List.mem_filterMap.1 ha
  exact hG.wf g hgm a (List.mem_of_getElem? hi)
theorem nrm_beh (hG : EqG ns) {m : Nat} {g : GNode} (hg : ns[m]? = some g) : (lgN ns).beh ((lgN ns).nrm m) = behE g (-(prE g 0)) := by
  have hp : ((lgN ns).prio m).getD 0 = prE g 0 := by
    rw [show (lgN ns).prio m = if actI g.k = true then some g.p else none from by simp [lgN, lgOf, hg]]
    unfold prE
    split <;> simp
  have h := lgN_beh (r := (lgN ns).nrm m) hG hg
  rw [h]
  unfold LG.nrm
  rw [hp]
theorem prR_rp {r : GRef} {g : GNode} (hg : ns[r.n]? = some g) : prR ns r = ((lgN ns).rp r).getD 0 := by
  rw [prR_at hg]
  unfold LG.rp prE
  rw [lgN_prio hg]
  split <;> simp
/-- The classes are those of nodes that are equal in less than j + 2 steps. -/
def ClsOk (ns : List GNode) (cl : List Nat) (j : Nat) : Prop := cl.length = ns.length ∧ ∀ m k, m < ns.length → k < ns.length → (cl.getD m 0 = cl.getD k 0 ↔ (lgN ns).eqN false (j + 1) ((lgN ns).nrm m) ((lgN ns).nrm k))
theorem fst_ok (hG : EqG ns) : ClsOk ns (fstE ns) 0 := by
  refine ⟨by simp [fstE, fList_len], fun m k hm hk => ?_⟩
  obtain ⟨g, hg⟩ : ∃ g, ns[m]? = some g := ⟨_, List.getElem?_eq_getElem hm⟩
  obtain ⟨h, hh⟩ : ∃ h, ns[k]? = some h := ⟨_, List.getElem?_eq_getElem hk⟩
  unfold fstE
  rw [fList_eq (a := (g.k, srtL g.ls)) (b := (h.k, srtL h.ls)) (by rw [List.getElem?_map, hg]; rfl) (by rw [List.getElem?_map, hh]; rfl), ← first_classes (lgN_ok hG)]
  simp only [Prod.mk.injEq]
  rw [show (lgN ns).kind m = g.k from lgN_kind (r := ⟨m, 0⟩) hg, show (lgN ns).kind k = h.k from lgN_kind (r := ⟨k, 0⟩) hh, show (lgN ns).labs m = srtL g.ls from lgN_labs (r := ⟨m, 0⟩) hg, show (lgN ns).labs k = srtL h.ls from lgN_labs (r := ⟨k, 0⟩) hh]
theorem seq_steps (hG : EqG ns) {cl : List Nat} {j : Nat} (hc : ClsOk ns cl j) {m k : Nat} (hm : m < ns.length) (hk : k < ns.length) (hp : cl.getD m 0 = cl.getD k 0) :
    seqA cl ((stE ns).getD m []) = seqA cl ((stE ns).getD k []) ↔ StepsOk (lgN ns) (fun a b => cl.getD a 0 = cl.getD b 0) m k := by
  obtain ⟨g, hg⟩ : ∃ g, ns[m]? = some g := ⟨_, List.getElem?_eq_getElem hm⟩
  obtain ⟨h, hh⟩ : ∃ h, ns[k]? = some h := ⟨_, List.getElem?_eq_getElem hk⟩
  have e1 : (stE ns).getD m [] = stN ns g := by simp [stE, List.getD, hg]
  have e2 : (stE ns).getD k [] = stN ns h := by simp [stE, List.getD, hh]
  have hcomp := ((hc.2 m k hm hk).1 hp).1
  have hlen := comp_len (lgN_ok hG) hcomp
  rw [nrm_beh hG hg, nrm_beh hG hh] at hlen
  unfold StepsOk
  rw [e1, e2, nrm_beh hG hg, nrm_beh hG hh]
  obtain ⟨A, hA⟩ : ∃ A, behE g (-(prE g 0)) = A := ⟨_, rfl⟩
  obtain ⟨B, hB⟩ : ∃ B, behE h (-(prE h 0)) = B := ⟨_, rfl⟩
  have hAn : ∀ a ∈ A, a.n < ns.length := fun a ha => (beh_bound hG (List.mem_of_getElem? hg) (by rw [hA]; exact ha)).1
  have hBn : ∀ a ∈ B, a.n < ns.length := fun a ha => (beh_bound hG (List.mem_of_getElem? hh) (by rw [hB]; exact ha)).1
  unfold stN seqA
  rw [hA, hB] at hlen
  rw [hA, hB]
  rw [List.map_map, List.map_map]
  constructor
  · intro he i a b ha hb
    have hi := congrArg (fun l => l[i]?) he
    simp only [List.getElem?_map, ha, hb, Option.map_some, Function.comp, Option.some.injEq, Prod.mk.injEq] at hi
    have hcl : cl.getD a.n 0 = cl.getD b.n 0 := by omega
    refine ⟨?_, hcl⟩
    have ha' := hAn a (List.mem_of_getElem? ha)
    have hb' := hBn b (List.mem_of_getElem? hb)
    have hkk := ((hc.2 _ _ ha' hb').1 hcl).1.1.1
    have hact := (lgN_ok hG).act _ _ hkk
    have h1 := hi.1
    obtain ⟨ga, hga⟩ : ∃ ga, ns[a.n]? = some ga := ⟨_, List.getElem?_eq_getElem ha'⟩
    obtain ⟨gb, hgb⟩ : ∃ gb, ns[b.n]? = some gb := ⟨_, List.getElem?_eq_getElem hb'⟩
    rw [prR_rp hga, prR_rp hgb] at h1
    unfold LG.rp at h1 ⊢
    unfold LG.nrm at hact
    simp only at hact
    cases hx : (lgN ns).prio a.n with
    | none =>
      cases hy : (lgN ns).prio b.n with
      | none => rfl
      | some q => rw [hx, hy] at hact; simp at hact
    | some p =>
      cases hy : (lgN ns).prio b.n with
      | none => rw [hx, hy] at hact; simp at hact
      | some q => rw [hx, hy] at h1; simpa using h1
  · intro hs
    apply List.ext_getElem?
    intro i
    by_cases hi : i < A.length
    · obtain ⟨a, ha⟩ : ∃ a, A[i]? = some a := ⟨_, List.getElem?_eq_getElem hi⟩
      obtain ⟨b, hb⟩ : ∃ b, B[i]? = some b := ⟨_, List.getElem?_eq_getElem (by omega)⟩
      obtain ⟨h1, h2⟩ := hs i a b ha hb
      have ha' := hAn a (List.mem_of_getElem? ha)
      have hb' := hBn b (List.mem_of_getElem? hb)
      obtain ⟨ga, hga⟩ : ∃ ga, ns[a.n]? = some ga := ⟨_, List.getElem?_eq_getElem ha'⟩
      obtain ⟨gb, hgb⟩ : ∃ gb, ns[b.n]? = some gb := ⟨_, List.getElem?_eq_getElem hb'⟩
      simp only [List.getElem?_map, ha, hb, Option.map_some, Function.comp, Option.some.injEq, Prod.mk.injEq]
      exact ⟨by rw [prR_rp hga, prR_rp hgb, h1], by rw [h2]⟩
    · rw [List.getElem?_eq_none (by rw [List.length_map]; omega), List.getElem?_eq_none (by rw [List.length_map]; omega)]
theorem key_at (cl : List Nat) (st : List (List GRef)) {m : Nat} (hm : m < cl.length) : ((List.range cl.length).map (keyA cl st))[m]? = some (keyA cl st m) := by
  rw [List.getElem?_map, List.getElem?_range hm]
  rfl
theorem ref_eq {cl : List Nat} {st : List (List GRef)} {m k : Nat} (hm : m < cl.length) (hk : k < cl.length) : (refE cl st).getD m 0 = (refE cl st).getD k 0 ↔ cl.getD m 0 = cl.getD k 0 ∧ seqA cl (st.getD m []) = seqA cl (st.getD k []) := by
  unfold refE
  rw [fList_eq (key_at cl st hm) (key_at cl st hk)]
  unfold keyA
  simp only [Prod.mk.injEq]
theorem ref_ok (hG : EqG ns) {cl : List Nat} {j : Nat} (hc : ClsOk ns cl j) : ClsOk ns (refE cl (stE ns)) (j + 1) := by
  refine ⟨by simp [refE, fList_len, hc.1], fun m k hm hk => ?_⟩
  rw [ref_eq (by rw [hc.1]; exact hm) (by rw [hc.1]; exact hk)]
  refine Iff.trans ?_ (refine_step (lgN_ok hG) (lgN_ch hG) hc.2 m k hm hk)
  exact and_congr_right fun hp => seq_steps hG hc hm hk hp
theorem ref_stable (hG : EqG ns) {cl : List Nat} {j : Nat} (hc : ClsOk ns cl j) (hs : refE cl (stE ns) = cl) (m k : Nat) (hm : m < ns.length) (hk : k < ns.length) : cl.getD m 0 = cl.getD k 0 ↔ (lgN ns).Eqv false ((lgN ns).nrm m) ((lgN ns).nrm k) := by
  refine stable_classes (lgN_ok hG) (lgN_ch hG) hc.2 (fun a b ha hb hp => ?_) m k hm hk
  have h : (refE cl (stE ns)).getD a 0 = (refE cl (stE ns)).getD b 0 := by rw [hs]; exact hp
  exact (seq_steps hG hc ha hb hp).1 ((ref_eq (by rw [hc.1]; exact ha) (by rw [hc.1]; exact hb)).1 h).2
theorem spl_at (cl : List Nat) {m : Nat} (hm : m < cl.length) : ((List.range cl.length).map (splK ns cl))[m]? = some (splK ns cl m) := by
  rw [List.getElem?_map, List.getElem?_range hm]
  rfl
/-- The classes of the program. -/
theorem spl_ok (hG : EqG ns) {cl : List Nat} {j : Nat} (hc : ClsOk ns cl j) (hs : refE cl (stE ns) = cl) (m k : Nat) (hm : m < ns.length) (hk : k < ns.length) : (splE ns cl).getD m 0 = (splE ns cl).getD k 0 ↔ (lgN ns).Eqv false ⟨m, 0⟩ ⟨k, 0⟩ := by
  obtain ⟨g, hg⟩ : ∃ g, ns[m]? = some g := ⟨_, List.getElem?_eq_getElem hm⟩
  obtain ⟨h, hh⟩ : ∃ h, ns[k]? = some h := ⟨_, List.getElem?_eq_getElem hk⟩
  unfold splE
  rw [fList_eq (spl_at cl (by rw [hc.1]; exact hm)) (spl_at cl (by rw [hc.1]; exact hk)), ← prio_classes (lgN_ok hG), ← ref_stable hG hc hs m k hm hk]
  unfold splK
  simp only [Prod.mk.injEq]
  rw [prR_rp (r := ⟨m, 0⟩) hg, prR_rp (r := ⟨k, 0⟩) hh]
  unfold LG.rp
  simp only
  have up0 : ∀ o : Option Int, o.map (· + 0) = o := by
    intro o
    cases o <;> simp
  rw [up0, up0]
  exact and_congr_left fun _ => by omega
/-- The class of a node is the least one that is equal. -/
theorem spl_least (cl : List Nat) {m : Nat} (hm : m < cl.length) : (splE ns cl).getD m 0 ≤ m ∧ (splE ns cl).getD ((splE ns cl).getD m 0) 0 = (splE ns cl).getD m 0 ∧ ∀ k, k < cl.length → (splE ns cl).getD k 0 = (splE ns cl).getD m 0 → (splE ns cl).getD m 0 ≤ k := by
  have h1 := spl_at (ns := ns) cl hm
  unfold splE
  rw [fList_at h1]
  refine ⟨fIdx_le h1, ?_, fun k hk h => ?_⟩
  · rw [fList_at (fIdx_at (List.mem_of_getElem? h1))]
  · have h2 := spl_at (ns := ns) cl hk
    rw [fList_at h2] at h
    rw [← h]
    exact fIdx_le h2
end
end Go.Proofs.YtjmnaibbljakaaaGreatDoor

/- Equality, walks: Classes. -/
namespace Go.Proofs.YtjmnaibbljakaaaGreatDoor
open Go.RowKit Go.Deep Go.Shelf

theorem fList_twice {κ : Type} [DecidableEq κ] (l : List κ) : fList (fList l) = fList l := by
  refine fList_congr (by simp [fList]) (fun i j a b c d ha hb hc hd => ?_)
  have h := fList_eq hc hd
  have e1 : (fList l).getD i 0 = a := by simp [List.getD, ha]
  have e2 : (fList l).getD j 0 = b := by simp [List.getD, hb]
  rw [e1, e2] at h
  exact h
/-- The numbers of a row in memory. -/
def rowN (w : World) : Value → List Nat
  | .slice (some a) n _ => (List.range n).map (fun i => match w.cell? ⟨a.block, i, none⟩ with | some (.int _ z) => z.toNat | _ => 0)
  | _ => []
theorem rowN_of {base : Nat} {w : World} {v : Value} {xs : List Nat} (h : GRow 3 1 base w v (xs.map natC)) : rowN w v = xs := by
  rcases h.parts with ⟨rfl, h0⟩ | ⟨g, cap, rfl, _, _, _, _⟩
  · obtain rfl : xs = [] := by simpa using h0
    rfl
  · unfold rowN
    rw [List.length_map]
    apply List.ext_getElem (by simp)
    intro i h1 h2
    have hi : xs[i]? = some xs[i] := List.getElem?_eq_getElem h2
    obtain ⟨g', c', e, h0⟩ := h.cell (j := i) (i := 0) (e := natC xs[i]) (u := .int .i64 (xs[i] : Int)) (by rw [List.getElem?_map, hi]; rfl) rfl
    simp only [Value.slice.injEq, Option.some.injEq, Addr.mk.injEq, and_true] at e
    obtain ⟨rfl, -⟩ := e
    have h3 : w.cell? ⟨g, i, none⟩ = some (.int .i64 (xs[i] : Int)) := by simpa using h0
    simp [h3]
/-- What Classes answers. -/
structure ClsRet (ns : List GNode) (R : List Nat) : Prop where
  len : R.length = ns.length
  eqv : ∀ m k, m < ns.length → k < ns.length → (R.getD m 0 = R.getD k 0 ↔ (lgN ns).Eqv false ⟨m, 0⟩ ⟨k, 0⟩)
  least : ∀ m, m < ns.length → R.getD m 0 ≤ m ∧ R.getD (R.getD m 0) 0 = R.getD m 0 ∧ ∀ k, k < ns.length → R.getD k 0 = R.getD m 0 → R.getD m 0 ≤ k
theorem cls_ret {ns : List GNode} (hG : EqG ns) {cl : List Nat} {j : Nat} (hc : ClsOk ns cl j) (hs : refE cl (stE ns) = cl) : ClsRet ns (splE ns cl) :=
  ⟨by simp [splE, fList_len, hc.1], spl_ok hG hc hs, fun m hm => by
    have h := spl_least (ns := ns) cl (m := m) (by rw [hc.1]; exact hm)
    exact ⟨h.1, h.2.1, fun k hk => h.2.2 k (by rw [hc.1]; exact hk)⟩⟩
theorem ref_more {_ns : List GNode} {cl : List Nat} {st : List (List GRef)} (hf : fList cl = cl) (hne : refE cl st ≠ cl) : rootsN cl < rootsN (refE cl st) := by
  have h := roots_more (l := cl) (r := (List.range cl.length).map (keyA cl st)) (by simp) (fun i j a b c d ha hb hc hd hcd => ?_) (by rw [hf]; exact hne)
  · rw [hf] at h; exact h
  · have hi := (List.getElem?_eq_some_iff.1 ha).1
    have hj := (List.getElem?_eq_some_iff.1 hb).1
    rw [key_at cl st hi] at hc
    rw [key_at cl st hj] at hd
    obtain rfl := Option.some.inj hc
    obtain rfl := Option.some.inj hd
    have h1 := congrArg Prod.fst hcd
    unfold keyA at h1
    simp only [List.getD, ha, hb, Option.getD_some] at h1
    exact h1
theorem stE_ok {ns : List GNode} (hG : EqG ns) : ∀ l ∈ stE ns, l.length ≤ 1000 ∧ ∀ r ∈ l, r.n < ns.length := fun l hl => by
  obtain ⟨g, hg, rfl⟩ := List.mem_map.1 hl
  unfold stN
  refine ⟨by rw [List.length_map]; exact beh_length hG hg _, fun r hr => ?_⟩
  obtain ⟨q, hq, rfl⟩ := List.mem_map.1 hr
  exact (beh_bound hG hg hq).1

set_option maxHeartbeats 8000000 in
set_option maxRecDepth 100000 in
theorem classes_of (ns : List GNode) (na : Option Addr) (nn nc : Nat) (w : World) (hG : EqG ns) (hN : ns.length ≤ 10000) (hns : NodeSl (fun k => k < w.heap.size) w (.slice na nn nc) ns)
    (hfc : ∀ W : World, NodeSl (fun k => k < W.heap.size) W (.slice na nn nc) ns → Calls Tryz.prog 33 #[grV na nn nc] W fun e w' => ∃ a m c, e = .returned (.slice a m c) ∧ GRow 3 1 W.heap.size w' (.slice a m c) ((fstE ns).map natC) ∧ Below W.heap.size W w') :
    Calls Tryz.prog 17 #[grV na nn nc] w fun e w' => ∃ a m c R, e = .returned (.slice a m c) ∧ GRow 3 1 w.heap.size w' (.slice a m c) (R.map natC) ∧ ClsRet ns R ∧ Below w.heap.size w w' := by
  obtain ⟨W1, hW1⟩ : ∃ W1, w.alloc (grO na nn nc) = W1 := ⟨_, rfl⟩
  have hb1 : Below w.heap.size w W1 := by rw [← hW1]; exact blkBelow w _ _
  have hs1 : W1.heap.size = w.heap.size + 1 := by rw [← hW1]; simp
  have x1 : W1.heap[w.heap.size]? = some (grO na nn nc) := by rw [← hW1]; exact World.alloc_heap_new _ _
  have HC : Hid (∀ W, Below W1.heap.size W1 W → W.cell? ⟨w.heap.size, 0, none⟩ = some (.slice na nn nc)) := Lib.hid (fun W hW => by
    have h0 : W.heap[w.heap.size]? = some (grO na nn nc) := (hW.block _ (by omega)).trans x1
    simp [World.cell?, h0])
  have HNS : Hid (∀ W, Below W1.heap.size W1 W → NodeSl (fun k => k < W.heap.size) W (.slice na nn nc) ns) := Lib.hid (fun W hW => hns.to (below_seq hb1 hW))
  have HG := Lib.hid hG
  have HFC := Lib.hid hfc
  have HW1 := Lib.hid hW1
  have HB1 := Lib.hid hb1
  have HS1 := Lib.hid hs1
  have HNN := Lib.hid hN
  have g0 := HC.out W1 (Below.refl _ _)
  have HAS := Lib.hid (allSteps_any ns na nn nc W1 hG (HNS.out W1 (Below.refl _ _)))
  clear hns hG hW1 hb1 hs1 x1 hfc hN
  go_enter Tryz.func17, Tryz.ntmps17
  go_upto_region 1 with fail
  rw [show w.alloc (.cells #[.slice na nn nc] 32) = W1 from HW1.out]
  go_upto_region 2 with (go_at_call 32; go_loud (refine HAS.out.mono ?_; rintro en w2 ⟨sa, sm, sc, rfl, hs2, hb2⟩; have HST := Lib.hid hs2; have HB2 := Lib.hid hb2; clear hs2 hb2))
  clear g0
  have g0 := HC.out w2 HB2.out
  have HFC2 := Lib.hid (HFC.out w2 (HNS.out w2 HB2.out))
  go_wp2_with (go_at_call 33; go_loud (refine HFC2.out.mono ?_; rintro en w3 ⟨ca, cm, cc, rfl, hr3, hb3⟩; have HR3 := Lib.hid hr3; have HB3 := Lib.hid (below_seq HB2.out hb3); have HST3 := Lib.hid (HST.out.to hb3); have HS23 := Lib.hid HB2.out.size; clear hr3 hb3))
  clear g0
  go_loopw [4] (fun v wr => ∃ (a : Option Addr) (m c : Nat) (cl : List Nat) (j : Nat), v = .slice a m c ∧ Hid (GRow 3 1 W1.heap.size wr (.slice a m c) (cl.map natC)) ∧ Hid (ClsOk ns cl j ∧ fList cl = cl) ∧ Hid (Below W1.heap.size W1 wr) ∧ Hid (StSl wr W1.heap.size (.slice sa sm sc) (stE ns))) (fun v wr => ns.length - rootsN (rowN wr v))
  case atStart => exact ⟨_, _, _, fstE ns, 0, rfl, Lib.hid (HR3.out.mono HS23.out), Lib.hid ⟨fst_ok HG.out, fList_twice _⟩, HB3, HST3⟩
  case round =>
    obtain ⟨a, m, c, cl, j, rfl, HR, HCL, HB, HS⟩ := hrel
    have HRF := Lib.hid (refined_any cl (stE ns) (.slice a m c) (.slice sa sm sc) W1.heap.size W1.heap.size wr HR.out HS.out (by rw [HCL.out.1.1]; simp [stE]) (by rw [HCL.out.1.1]; exact HNN.out) (fun l hl => by rw [HCL.out.1.1]; exact stE_ok HG.out l hl))
    go_upto_region 4 with (go_at_call 34; go_loud (refine HRF.out.mono ?_; rintro en w5 ⟨fa, fm, fc, rfl, hr5, hb5⟩; have HR5 := Lib.hid hr5; have HB5 := Lib.hid hb5; clear hr5 hb5))
    have HRO := Lib.hid (HR.out.to HB5.out)
    have HE := eqInt_any (refE cl (stE ns)) cl (.slice fa fm fc) (.slice a m c) wr.heap.size W1.heap.size w5 HR5.out HRO.out (by simp only [refE, fList_len, List.length_map, List.length_range]; rw [HCL.out.1.1]; have := HNN.out; omega)
    obtain ⟨q, hq⟩ : ∃ q, decide (refE cl (stE ns) = cl) = q := ⟨_, rfl⟩
    rw [hq] at HE
    have HEQ := Lib.hid HE
    have HQ := Lib.hid hq
    have HB15 : Hid (Below W1.heap.size W1 w5) := Lib.hid (below_seq HB.out HB5.out)
    clear HE hq
    cases q
    · have HNE : Hid (refE cl (stE ns) ≠ cl) := Lib.hid (by simpa using HQ.out)
      go_wp2_with (go_at_call 35; go_loud (refine HEQ.out.mono ?_; rintro en w6 ⟨rfl, hb6⟩; have HB6 := Lib.hid hb6; clear hb6))
      go_roundw
      case rel => exact ⟨_, _, _, refE cl (stE ns), j + 1, rfl, Lib.hid ((HR5.out.to HB6.out).mono HB.out.size), Lib.hid ⟨ref_ok HG.out HCL.out.1, fList_twice _⟩, Lib.hid (below_seq HB15.out HB6.out), Lib.hid ((HS.out.to HB5.out).to HB6.out)⟩
      case measure =>
        rw [rowN_of (HR5.out.to HB6.out), rowN_of HR.out]
        have h1 := ref_more (_ns := ns) HCL.out.2 HNE.out
        have h2 := rootsN_le (refE cl (stE ns))
        have h3 := (ref_ok HG.out HCL.out.1).1
        omega
    · have HEE : Hid (refE cl (stE ns) = cl) := Lib.hid (by simpa using HQ.out)
      go_upto_region 5 with (go_at_call 35; go_loud (refine HEQ.out.mono ?_; rintro en w6 ⟨rfl, hb6⟩; have HB6 := Lib.hid hb6; clear hb6))
      have HB16 : Hid (Below W1.heap.size W1 w6) := Lib.hid (below_seq HB15.out HB6.out)
      have g0 := HC.out w6 HB16.out
      have HSP := Lib.hid (splitP_any ns na nn nc cl (.slice a m c) W1.heap.size w6 HG.out (HNS.out w6 HB16.out) (HRO.out.to HB6.out) HCL.out.1.1)
      go_wp2_with (go_at_call 36; go_loud (refine HSP.out.mono ?_; rintro en w7 ⟨ra, rm, rc, rfl, hr7, hb7⟩; have HR7 := Lib.hid hr7; have HB7 := Lib.hid hb7; clear hr7 hb7))
      go_ret
      exact ⟨_, _, _, _, rfl, HR7.out.mono (by have := HB16.out.size; have := HS1.out; omega), cls_ret HG.out HCL.out.1 HEE.out, below_seq HB1.out (below_seq HB16.out HB7.out)⟩
end Go.Proofs.YtjmnaibbljakaaaGreatDoor

/- Equality, walks: firstClasses. -/
namespace Go.Proofs.YtjmnaibbljakaaaGreatDoor
open Go.RowKit Go.Deep Go.Shelf

/-- The text of a node. -/
def keyN (g : GNode) : ByteArray := ⟨(keyL g.k.toNat (srtL g.ls)).toArray⟩
theorem keyN_inj {ns : List GNode} (hG : EqG ns) (hL : LabOk ns) {g h : GNode} (hg : g ∈ ns) (hh : h ∈ ns) : keyN g = keyN h ↔ (g.k, srtL g.ls) = (h.k, srtL h.ls) := by
  have k1 := (hG.ok g hg).kind
  have k2 := (hG.ok h hh).kind
  constructor
  · intro e
    have e2 : keyL g.k.toNat (srtL g.ls) = keyL h.k.toNat (srtL h.ls) := by
      have := congrArg (fun b : ByteArray => b.data.toList) e
      simpa [keyN] using this
    obtain ⟨h1, h2⟩ := keyL_inj (by omega) (by omega) (fun l hl => by have := hL.lab g hg l ((srtL_mem _ _).1 hl); exact ⟨this.1, this.2.1⟩) (fun l hl => by have := hL.lab h hh l ((srtL_mem _ _).1 hl); exact ⟨this.1, this.2.1⟩) e2
    rw [h2]
    have : g.k = h.k := by omega
    rw [this]
  · intro e
    simp only [Prod.mk.injEq] at e
    unfold keyN
    rw [e.1, e.2]
theorem keyN_len {ns : List GNode} (hG : EqG ns) (hL : LabOk ns) {g : GNode} (hg : g ∈ ns) : (Lib.join ((srtL g.ls).map (fun s => s.data.toList)) [32]).length ≤ 1048577000 := by
  have h := join_len ((srtL g.ls).map (fun s => s.data.toList)) 1048576 (fun x hx => by
    obtain ⟨l, hl, rfl⟩ := List.mem_map.1 hx
    have := (hL.lab g hg l ((srtL_mem _ _).1 hl)).2.2
    rw [Array.length_toList]
    exact this)
  rw [List.length_map, srtL_length] at h
  have := (hG.ok g hg).labs_le (hG.nx g hg)
  have h2 : g.ls.length * (1048576 + 1) ≤ 1000 * (1048576 + 1) := Nat.mul_le_mul_right _ this
  omega
theorem keys_fst {ns : List GNode} (hG : EqG ns) (hL : LabOk ns) : fList (ns.map keyN) = fstE ns := by
  refine fList_congr (by simp) (fun i j a b c d ha hb hc hd => ?_)
  rw [List.getElem?_map] at ha hb hc hd
  obtain ⟨g, hg, rfl⟩ := Option.map_eq_some_iff.1 ha
  obtain ⟨h, hh, rfl⟩ := Option.map_eq_some_iff.1 hb
  rw [hg] at hc
  rw [hh] at hd
  obtain rfl := Option.some.inj hc
  obtain rfl := Option.some.inj hd
  exact keyN_inj hG hL (List.mem_of_getElem? hg) (List.mem_of_getElem? hh)

set_option maxHeartbeats 8000000 in
set_option maxRecDepth 100000 in
theorem firstC_any (ns : List GNode) (na : Option Addr) (nn nc : Nat) (w : World) (hG : EqG ns) (hL : LabOk ns) (hns : NodeSl (fun k => k < w.heap.size) w (.slice na nn nc) ns) :
    Calls Tryz.prog 33 #[grV na nn nc] w fun e w' => ∃ a m c, e = .returned (.slice a m c) ∧ GRow 3 1 w.heap.size w' (.slice a m c) ((fstE ns).map natC) ∧ Below w.heap.size w w' := by
  obtain ⟨_, _, _, e0, hln, _, _⟩ := hns.open
  simp only [Value.slice.injEq] at e0
  obtain ⟨rfl, rfl, rfl⟩ := e0
  have hlen := hG.len
  obtain ⟨W1, hW1⟩ : ∃ W1, w.alloc (grO na nn nc) = W1 := ⟨_, rfl⟩
  have hb1 : Below w.heap.size w W1 := by rw [← hW1]; exact blkBelow w _ _
  have hs1 : W1.heap.size = w.heap.size + 1 := by rw [← hW1]; simp
  have x1 : W1.heap[w.heap.size]? = some (grO na nn nc) := by rw [← hW1]; exact World.alloc_heap_new _ _
  have HC : Hid (∀ W, Below W1.heap.size W1 W → W.cell? ⟨w.heap.size, 0, none⟩ = some (.slice na nn nc)) := Lib.hid (fun W hW => by
    have h0 : W.heap[w.heap.size]? = some (grO na nn nc) := (hW.block _ (by omega)).trans x1
    simp [World.cell?, h0])
  have HNS : Hid (∀ W, Below W1.heap.size W1 W → NodeSl (fun k => k < W.heap.size) W (.slice na nn nc) ns) := Lib.hid (fun W hW => hns.to (below_seq hb1 hW))
  have HLN : Hid (nn = ns.length) := hln
  have hnn : nn ≤ 1000000 := by rw [hln.out]; exact hlen
  have HG := Lib.hid hG
  have HLB := Lib.hid hL
  have HW1 := Lib.hid hW1
  have HB1 := Lib.hid hb1
  have HS1 := Lib.hid hs1
  have g0 := HC.out W1 (Below.refl _ _)
  clear hns hG hL hW1 hb1 hs1 x1 hln hlen
  go_enter Tryz.func33, Tryz.ntmps33
  go_upto_region 1 with fail
  rw [show w.alloc (.cells #[.slice na nn nc] 32) = W1 from HW1.out]
  go_wp2_with fail
  clear g0
  go_loopw [9, 3] (fun i v wr => ∃ (j : Nat) (a : Option Addr) (m c : Nat), i = .int .i64 j ∧ j ≤ nn ∧ v = .slice a m c ∧ Hid (GRow 9 1 W1.heap.size wr (.slice a m c) (((ns.take j).map keyN).map strCells)) ∧ Hid (Below W1.heap.size W1 wr)) (fun i _ _ => nn - (intOf i).toNat)
  case atStart => exact ⟨0, _, _, _, rfl, by omega, rfl, Lib.hid (GRow.nil _ _ _ _), Lib.hid (Below.refl _ _)⟩
  case round =>
    obtain ⟨j, a, m, c, rfl, hj, rfl, HR, HB⟩ := hrel
    by_cases hlt : j < nn
    · obtain ⟨g, hg⟩ : ∃ g, ns[j]? = some g := ⟨_, List.getElem?_eq_getElem (by rw [← HLN.out]; exact hlt)⟩
      have hgm := List.mem_of_getElem? hg
      have hkd := (HG.out.ok g hgm).kind
      obtain ⟨kk, hkk⟩ : ∃ kk : Nat, g.k = (kk : Int) := ⟨g.k.toNat, by omega⟩
      have hk7 : kk ≤ 7 := by omega
      go_upto_region 6 with fail
      obtain ⟨W4, hW4⟩ : ∃ W4, wr.alloc (refO (.int .i64 (j : Int)) (.int .i64 0)) = W4 := ⟨_, rfl⟩
      have hb4 : Below wr.heap.size wr W4 := by rw [← hW4]; exact blkBelow wr _ _
      have x4 : W4.heap[wr.heap.size]? = some (refO (.int .i64 (j : Int)) (.int .i64 0)) := by rw [← hW4]; exact World.alloc_heap_new _ _
      have hs4 : W4.heap.size = wr.heap.size + 1 := by rw [← hW4]; simp
      rw [show wr.alloc (.cells #[.int .i64 (j : Int), .int .i64 0] 37) = W4 from hW4]
      have HB4 : Hid (Below W1.heap.size W1 W4) := Lib.hid (below_seq HB.out hb4)
      have HC4 : Hid (∀ W, Below W4.heap.size W4 W → W.cell? ⟨w.heap.size, 0, none⟩ = some (.slice na nn nc) ∧ W.cell? ⟨wr.heap.size, 0, none⟩ = some (.int .i64 (j : Int)) ∧ W.cell? ⟨wr.heap.size, 1, none⟩ = some (.int .i64 0)) := Lib.hid (fun W hW => by
        have h1 := refO_cells ((hW.block _ (by omega)).trans x4)
        exact ⟨HC.out W (below_seq HB4.out hW), h1.1, h1.2.1⟩)
      have HKD : Hid (∀ W, Below W4.heap.size W4 W → Calls Tryz.prog 44 #[grV na nn nc, rfV j 0] W fun e w' => e = .returned (.int .i64 (kk : Int)) ∧ Below W.heap.size W w') := Lib.hid (fun W hW => by
        rw [← hkk]
        exact kind_any ns na nn nc j 0 g W (HNS.out W (below_seq HB4.out hW)) hg HG.out.len)
      have HIT : Hid (∀ W, Calls Tryz.prog 54 #[.int .i64 (kk : Int)] W fun e w' => e = .returned (.string ⟨(Lib.decDigits kk).toArray⟩) ∧ w' = W) := Lib.hid (fun W => itoa_l kk (by omega) W)
      have HLA : Hid (∀ W, Below W4.heap.size W4 W → Calls Tryz.prog 47 #[grV na nn nc, rfV j 0] W fun e w' => ∃ sa sn sc, e = .returned (.slice sa sn sc) ∧ StrSl (fun k => k < w'.heap.size) w' (.slice sa sn sc) (srtL g.ls) ∧ Below W.heap.size W w') := Lib.hid (fun W hW => labelsL_any ns na nn nc j 0 g W (HNS.out W (below_seq HB4.out hW)) hg HG.out.len (by have h2 := (HG.out.ok g hgm).labs_le (HG.out.nx g hgm); omega))
      have hjl := keyN_len HG.out HLB.out hgm
      have hll : (srtL g.ls).length ≤ 1000 := by rw [srtL_length]; exact (HG.out.ok g hgm).labs_le (HG.out.nx g hgm)
      have HJN : Hid (∀ (sa : Option Addr) (sn sc : Nat) (W : World), StrSl (fun k => k < W.heap.size) W (.slice sa sn sc) (srtL g.ls) → Calls Tryz.prog 55 #[.slice sa sn sc, .string ⟨#[32]⟩] W fun e w' => e = .returned (.string ⟨(Lib.join ((srtL g.ls).map (fun s => s.data.toList)) [32]).toArray⟩) ∧ Below W.heap.size W w') := Lib.hid (fun sa sn sc W hst => by
        rcases hst.1 with ⟨⟨a', c', e⟩, hnil⟩ | ⟨b, o, c', e, hb, hc', hrow⟩
        · simp only [Value.slice.injEq] at e
          obtain ⟨rfl, rfl, rfl⟩ := e
          rw [hnil]
          exact (jnNone_l _ _ _ W).mono fun e w' ⟨h1, h2⟩ => ⟨h1, h2 ▸ Below.refl _ _⟩
        · simp only [Value.slice.injEq] at e
          obtain ⟨rfl, rfl, rfl⟩ := e
          exact jn_l b o _ (srtL g.ls) ⟨#[32]⟩ W hrow hb (by omega) hc' (by simpa using (by omega : (Lib.join ((srtL g.ls).map (fun s => s.data.toList)) [32]).length ≤ 140737488355328)))
      obtain ⟨d, hd⟩ : ∃ d : ByteArray, (⟨(Lib.decDigits kk).toArray⟩ : ByteArray) = d := ⟨_, rfl⟩
      obtain ⟨q, hq⟩ : ∃ q : ByteArray, (⟨(Lib.join ((srtL g.ls).map (fun s => s.data.toList)) [32]).toArray⟩ : ByteArray) = q := ⟨_, rfl⟩
      have hds : d.size ≤ 2 := by rw [← hd]; simpa [ByteArray.size] using dig_len ⟨kk, by omega⟩
      have hqs : q.size ≤ 1048577000 := by rw [← hq]; simpa [ByteArray.size] using hjl
      have HKN : Hid (keyN g = d ++ ⟨#[32]⟩ ++ q) := Lib.hid (by
        rw [← hd, ← hq]
        apply toL_inj
        unfold keyN keyL
        rw [show g.k.toNat = kk from by omega]
        simp)
      have hz1 : ¬ (9223372036854775807 < d.size + 1) := by omega
      have hz2 : ¬ (9223372036854775807 < d.size + 1 + q.size) := by omega
      rw [hd] at HIT
      rw [hq] at HJN
      have HTK : Hid (ns.take (j + 1) = ns.take j ++ [g]) := Lib.hid (take_snoc_get hg)
      have HR4 := Lib.hid (HR.out.to hb4)
      have HOWN : Hid (∀ k, (Value.slice a m c).ownBlock = some k → k < wr.heap.size) := Lib.hid (fun k hk => (HR.out.lt k hk).2)
      have HS4 := Lib.hid hs4
      clear hg hgm hkd hkk hk7 hjl hll hd hq hW4 hb4 x4 hs4 HR
      refine wp_region_held_drew (S := fun W => W.cell? ⟨w.heap.size, 0, none⟩ = some (.slice na nn nc) ∧ W.cell? ⟨wr.heap.size, 0, none⟩ = some (.int .i64 (j : Int)) ∧ W.cell? ⟨wr.heap.size, 1, none⟩ = some (.int .i64 0)) (by kernel_rfl) (HC4.out W4 (Below.refl _ _)) (fun hHeld => ?_)
      refine wpAnyH_take_l 0 (v := ?vb0) rfl rfl (by kernel_rfl) (by kernel_rfl) (by kernel_rfl) (fun _ _ _ h => h) ?hb0 (by assumption) ?rb0
      case hb0 => (intro w hSw; (try dsimp only at hSw); go_simp; try rfl)
      case' rb0 => simp only [setD, List.set_cons_succ, List.set_cons_zero]
      refine wpAnyH_take_l 1 (v := ?vb1) rfl rfl (by kernel_rfl) (by kernel_rfl) (by kernel_rfl) (fun _ _ _ h => h) ?hb1 (by assumption) ?rb1
      case hb1 => (intro w hSw; (try dsimp only at hSw); go_simp; try rfl)
      case' rb1 => simp only [setD, List.set_cons_succ, List.set_cons_zero]
      refine wpAnyH_take_l 2 (v := ?vb2) rfl rfl (by kernel_rfl) (by kernel_rfl) (by kernel_rfl) (fun _ _ _ h => h) ?hb2 (by assumption) ?rb2
      case hb2 => (intro w hSw; (try dsimp only at hSw); go_simp; try rfl)
      case' rb2 => simp only [setD, List.set_cons_succ, List.set_cons_zero]
      refine wpAnyH_take_l 6 (v := ?vb6) rfl rfl (by kernel_rfl) (by kernel_rfl) (by kernel_rfl) (fun _ _ _ h => h) ?hb6 (by assumption) ?rb6
      case hb6 => (intro w hSw; (try dsimp only at hSw); go_simp; try rfl)
      case' rb6 => simp only [setD, List.set_cons_succ, List.set_cons_zero]
      refine wpAnyH_take_l 7 (v := ?vb7) rfl rfl (by kernel_rfl) (by kernel_rfl) (by kernel_rfl) (fun _ _ _ h => h) ?hb7 (by assumption) ?rb7
      case hb7 => (intro w hSw; (try dsimp only at hSw); go_simp; try rfl)
      case' rb7 => simp only [setD, List.set_cons_succ, List.set_cons_zero]
      refine wpAnyH_one 3 rfl rfl (by kernel_rfl) (fun K hK => ?_)
      have hK2 := hK.out
      clear hK
      simp only [setD, List.set_cons_succ, List.set_cons_zero] at hK2 ⊢
      go_simp
      have hbd : Below W4.heap.size W4 W4.drew := (Below.refl _ _).drew
      refine (HKD.out _ hbd).mono ?_
      rintro en wa ⟨rfl, hba⟩
      dsimp only
      have hbwa : Below W4.heap.size W4 wa := below_seq hbd hba
      refine hK2 _ _ (HC4.out wa hbwa) (fun _ => ?_)
      clear hK2 K hbd hba
      refine wpAnyH_one 4 rfl rfl (by kernel_rfl) (fun K hK => ?_)
      have hK2 := hK.out
      clear hK
      simp only [setD, List.set_cons_succ, List.set_cons_zero] at hK2 ⊢
      go_simp
      refine (HIT.out _).mono ?_
      rintro en wz ⟨rfl, hwz⟩
      obtain rfl : wa = wz := hwz.symm
      dsimp only
      refine hK2 _ _ (HC4.out wa hbwa) (fun _ => ?_)
      clear hK2 K
      refine wpAnyH_take_l 5 (v := ?vb5) rfl rfl (by kernel_rfl) (by kernel_rfl) (by kernel_rfl) (fun _ _ _ h => h) ?hb5 (by assumption) ?rb5
      case hb5 => (intro w hSw; (try dsimp only at hSw); go_simp; try rfl)
      case' rb5 => simp only [setD, List.set_cons_succ, List.set_cons_zero]
      refine wpAnyH_one 8 rfl rfl (by kernel_rfl) (fun K hK => ?_)
      have hK2 := hK.out
      clear hK
      simp only [setD, List.set_cons_succ, List.set_cons_zero] at hK2 ⊢
      go_simp
      refine (HLA.out _ hbwa).mono ?_
      rintro en wb ⟨sa, sn, sc, rfl, hst, hbb⟩
      dsimp only
      have hbwb : Below W4.heap.size W4 wb := below_seq hbwa hbb
      refine hK2 _ _ (HC4.out wb hbwb) (fun _ => ?_)
      clear hK2 K hbb
      refine wpAnyH_one 9 rfl rfl (by kernel_rfl) (fun K hK => ?_)
      have hK2 := hK.out
      clear hK
      simp only [setD, List.set_cons_succ, List.set_cons_zero] at hK2 ⊢
      go_simp
      refine (HJN.out _ _ _ _ hst).mono ?_
      rintro en wc ⟨rfl, hbc⟩
      dsimp only
      have hbwc : Below W4.heap.size W4 wc := below_seq hbwb hbc
      refine hK2 _ _ (HC4.out wc hbwc) (fun _ => ?_)
      clear hK2 K hbc hst hbwb hbwa
      refine wpAnyH_take_l 10 (v := ?vb10) rfl rfl (by kernel_rfl) (by kernel_rfl) (by kernel_rfl) (fun _ _ _ h => h) ?hb10 (by assumption) ?rb10
      case hb10 => (intro w hSw; (try dsimp only at hSw); go_simp; try rfl)
      case' rb10 => simp only [setD, List.set_cons_succ, List.set_cons_zero]
      refine wpAnyH_one 11 rfl rfl (by kernel_rfl) (fun K hK => ?_)
      have hK2 := hK.out
      clear hK
      simp only [setD, List.set_cons_succ, List.set_cons_zero] at hK2 ⊢
      go_simp
      obtain ⟨kn, hkn⟩ : ∃ kn : ByteArray, d ++ ⟨#[32]⟩ ++ q = kn := ⟨_, rfl⟩
      have hba : ∀ o, Below W4.heap.size W4 (wc.alloc o) := fun o => hbwc.alloc hbwc.size o
      refine hK2 _ _ (HC4.out _ (hba _)) (fun _ => ?_)
      clear hK2 K
      have HRC := Lib.hid (HR4.out.to hbwc)
      refine wpAnyH_one 12 rfl rfl (by kernel_rfl) (fun K hK => ?_)
      have hK2 := hK.out
      clear hK
      simp only [setD, List.set_cons_succ, List.set_cons_zero] at hK2 ⊢
      refine wp_wanted (ops := #[]) rfl (step_appG gstrElem (by rfl) _ _ (by rfl) (by rfl) (HRC.out.alloc _) (some ⟨wc.heap.size, 0, none⟩) 1 1 [strCells (d ++ ⟨#[32]⟩ ++ q)] (by rfl) rfl (fun e he => by rw [List.mem_singleton.1 he]; rfl) (src_new wc (strCells (d ++ ⟨#[32]⟩ ++ q)) _) (fun e he u hu => by
        rw [List.mem_singleton.1 he] at hu
        simp only [strCells, List.mem_cons, List.not_mem_nil, or_false] at hu
        subst hu; rfl) (by have := HLN.out; simp only [List.length_map, List.length_take, List.length_singleton]; omega) (by have := hbwc.size; have := HB4.out.size; rw [World.size_alloc]; omega) _ rfl ?_)
      intro ga gn gc w8 hr8 hg8 hq8
      have hb8 : Below W1.heap.size W1 w8 := ((HB4.out.trans (hbwc.mono HB4.out.size)).alloc (Nat.le_trans HB4.out.size hbwc.size) _).grown hg8 (by have := hbwc.size; have := HB4.out.size; rw [World.size_alloc]; omega) (fun k hk => (HRC.out.lt k hk).1)
      have hs8 : w8.cell? ⟨w.heap.size, 0, none⟩ = some (.slice na nn nc) ∧ w8.cell? ⟨wr.heap.size, 0, none⟩ = some (.int .i64 (j : Int)) ∧ w8.cell? ⟨wr.heap.size, 1, none⟩ = some (.int .i64 0) := by
        have hcw := HC4.out wc hbwc
        have hne : ∀ b, b < wc.heap.size → (∀ k, (Value.slice a m c).ownBlock = some k → k ≠ b) → w8.heap[b]? = wc.heap[b]? := fun b hb hk => (hg8.block b (by rw [World.size_alloc]; omega) (fun e => hk b e.symm rfl)).trans (Below.heap_alloc _ _ _ hb)
        have hl1 : w.heap.size < wc.heap.size := by have := hbwc.size; have := HB4.out.size; have := HS1.out; omega
        have hl2 : wr.heap.size < wc.heap.size := by have := hbwc.size; have := HS4.out; omega
        have h1 := hne w.heap.size hl1 (fun k hk => by have := (HR4.out.lt k hk).1; have := HS1.out; omega)
        have h2 := hne wr.heap.size hl2 (fun k hk e => by have := HOWN.out k hk; omega)
        simp only [World.cell?, h1, h2] at hcw ⊢
        exact hcw
      refine hK2 _ _ hs8 (fun _ => ?_)
      clear hK2 K hg8 hq8 hba hs8
      have HB8 := Lib.hid hb8
      have HR8 := Lib.hid hr8
      clear hb8 hr8 hbwc
      refine wpAnyH_take_l 13 (v := ?vb13) rfl rfl (by kernel_rfl) (by kernel_rfl) (by kernel_rfl) (fun _ _ _ h => h) ?hb13 (by assumption) ?rb13
      case hb13 => (intro w hSw; (try dsimp only at hSw); go_simp; try rfl)
      case' rb13 => simp only [setD, List.set_cons_succ, List.set_cons_zero]
      refine wpAnyH_done (by kernel_rfl) ?_ _
      clear hHeld
      go_wp2_with fail
      go_roundw
      case rel => exact ⟨j + 1, _, _, _, by go_num, by omega, rfl, Lib.hid (by have h := HR8.out; simp only [HTK.out, List.map_append, List.map_cons, List.map_nil, HKN.out]; exact h), HB8⟩
      case measure => simp [intOf]; omega
    · obtain rfl : nn = j := by omega
      have hrow : GRow 9 1 W1.heap.size wr (.slice a m c) ((ns.map keyN).map strCells) := by
        have h := HR.out
        rw [List.take_of_length_le (by rw [HLN.out]; exact Nat.le_refl _)] at h
        exact h
      have hst : StrSl (fun k => k < wr.heap.size) wr (.slice a m c) (ns.map keyN) := strsB hrow (by rw [List.length_map, ← HLN.out]; unfold maxLen; omega) (fun s hs => by
        obtain ⟨g, hg, rfl⟩ := List.mem_map.1 hs
        have h1 := keyN_len HG.out HLB.out hg
        have hk := (HG.out.ok g hg).kind
        have h2 := dig_len ⟨g.k.toNat, by omega⟩
        have h3 : (keyN g).size = (keyL g.k.toNat (srtL g.ls)).length := by simp [keyN, ByteArray.size]
        rw [h3]
        unfold keyL maxLen
        simp only [List.length_append, List.length_cons]
        simp only at h2
        omega) (fun k hk => (hrow.lt k hk).2)
      have HFS := Lib.hid (firstsS_any (ns.map keyN) (.slice a m c) wr hst (by rw [List.length_map, ← HLN.out]; exact hnn))
      have HKF := Lib.hid (keys_fst HG.out HLB.out)
      rw [HKF.out] at HFS
      clear hrow hst
      go_wp2_with (go_at_call 56; go_loud (refine HFS.out.mono ?_; rintro en w9 ⟨qa, qn, qc, rfl, hq9, hb9⟩; have HQ9 := Lib.hid hq9; have HB9 := Lib.hid hb9; clear hq9 hb9))
      go_ret
      exact ⟨_, _, _, rfl, HQ9.out.mono (by have := HB.out.size; have := HS1.out; omega), below_seq HB1.out (below_seq HB.out HB9.out)⟩
theorem classes_any (ns : List GNode) (na : Option Addr) (nn nc : Nat) (w : World) (hG : EqG ns) (hL : LabOk ns) (hN : ns.length ≤ 10000) (hns : NodeSl (fun k => k < w.heap.size) w (.slice na nn nc) ns) :
    Calls Tryz.prog 17 #[grV na nn nc] w fun e w' => ∃ a m c R, e = .returned (.slice a m c) ∧ GRow 3 1 w.heap.size w' (.slice a m c) (R.map natC) ∧ ClsRet ns R ∧ Below w.heap.size w w' :=
  classes_of ns na nn nc w hG hN hns (fun W hW => firstC_any ns na nn nc W hG hL hW)
end Go.Proofs.YtjmnaibbljakaaaGreatDoor
