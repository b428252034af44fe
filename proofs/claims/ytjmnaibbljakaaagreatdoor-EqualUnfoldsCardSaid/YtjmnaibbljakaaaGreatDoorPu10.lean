/- Heads: the law's Graph, the reference's graph as a graph. (and what follows from it) -/
import Derived.Test.YtjmnaibbljakaaaGreatDoorPu8
import Derived.Deep.RegionHeld

/- Heads: the law's Graph, the reference's graph as a graph. -/
namespace Go.Proofs.YtjmnaibbljakaaaGreatDoor
open Go.RowKit Go.Deep Go.Shelf

theorem grefElem : ElemOf 33 37 2 := elemOf Tryz.underlying33 (z := .agg #[.int .i64 0, .int .i64 0]) (bytes := 16) (by kernel_rfl) (by decide) rfl (by decide)
theorem gnodeElem : ElemOf 30 61 4 := elemOf Tryz.underlying30 (z := .agg #[.int .i64 0, .int .i64 0, .slice none 0 0, .slice none 0 0]) (bytes := 64) (by kernel_rfl) (by decide) rfl (by decide)
theorem gstrElem : ElemOf 22 9 1 := elemOf Tryz.underlying22 (z := .string ⟨#[]⟩) (bytes := 16) (by kernel_rfl) (by decide) rfl (by decide)

/-- A new node with its labels. -/
structure G7 (k p : Int) (ls : List ByteArray) (V : World) (L : Nat → Bool) (vals : Nat → Value) (w : World) : Prop where
  dn : (L 16 = true → L 10 = true) ∧ (L 17 = true → L 16 = true) ∧ (L 19 = true → L 17 = true ∧ L 18 = true)
  below : Below V.heap.size V w
  s10 : L 10 = true → L 16 = false → ∃ b, vals 10 = .slice (some ⟨b, 0, none⟩) 0 0 ∧ GRow 9 1 V.heap.size w (.slice (some ⟨b, 0, none⟩) 0 0) []
  s16 : L 16 = true → ∃ a n c, vals 16 = .slice a n c ∧ GRow 9 1 V.heap.size w (.slice a n c) (ls.map strCells)
  s17 : L 17 = true → vals 17 = .agg #[.int .i64 k, .int .i64 p, vals 16, .slice none 0 0]
  s18 : L 18 = true → L 19 = false → ∃ X, vals 18 = .pointer (some ⟨X, 0, none⟩) ∧ V.heap.size ≤ X ∧ w.heap[X]? = some (.cells #[.int .i64 0, .int .i64 0, .slice none 0 0, .slice none 0 0] 61 (0, 0))
  s19 : L 19 = true → ∃ X, vals 18 = .pointer (some ⟨X, 0, none⟩) ∧ V.heap.size ≤ X ∧ w.heap[X]? = some (.cells #[.int .i64 k, .int .i64 p, vals 16, .slice none 0 0] 61 (0, 0))
theorem strsB {base : Nat} {W : World} {v : Value} {ls : List ByteArray} {B : Nat → Prop} (h : GRow 9 1 base W v (ls.map strCells)) (hl : ls.length ≤ maxLen) (hz : ∀ s ∈ ls, s.size ≤ maxLen) (hB : ∀ k, v.ownBlock = some k → B k) : StrSl B W v ls := by
  obtain ⟨h1, h2, h3⟩ := h.strs hl hz
  refine ⟨?_, h2, h3⟩
  rcases h1 with h1 | ⟨b, o, c, rfl, _, h3⟩
  · exact .inl h1
  · exact .inr ⟨b, o, c, rfl, hB b rfl, h3⟩
theorem gcell4 {w : World} {X : Nat} {a b c d : Value} (h : w.heap[X]? = some (.cells #[a, b, c, d] 61 (0, 0))) : w.cell? ⟨X, 0, none⟩ = some a ∧ w.cell? ⟨X, 1, none⟩ = some b ∧ w.cell? ⟨X, 2, none⟩ = some c ∧ w.cell? ⟨X, 3, none⟩ = some d ∧ w.frozen? ⟨X, 0, none⟩ = false ∧ w.frozen? ⟨X, 1, none⟩ = false ∧ w.frozen? ⟨X, 2, none⟩ = false ∧ w.frozen? ⟨X, 3, none⟩ = false := by
  refine ⟨?_, ?_, ?_, ?_, frozen_of_block h 0, frozen_of_block h 1, frozen_of_block h 2, frozen_of_block h 3⟩ <;> simp [World.cell?, h]
/-- The region that appends a reference to the new node's list. -/
structure G11 (X base : Nat) (c0 c1 c2 : Value) (pa : Option Addr) (pn pc : Nat) (es : List (List Value)) (r : GRef) (V : World) (L : Nat → Bool) (vals : Nat → Value) (w : World) : Prop where
  dn : (L 22 = true → L 21 = true ∧ L 1 = true) ∧ (L 24 = true → L 22 = true ∧ L 23 = true)
  out : Out2 X (Value.slice pa pn pc).ownBlock V w
  v1 : L 1 = true → vals 1 = .slice pa pn pc
  v23 : L 23 = true → vals 23 = .pointer (some ⟨X, 3, none⟩)
  v21 : L 21 = true → L 22 = false → ∃ B, vals 21 = .slice (some ⟨B, 0, none⟩) 1 1 ∧ B < w.heap.size ∧ V.heap.size ≤ B ∧ w.heap[B]? = some (.cells (refCells r).toArray 37 (0, 0))
  p0 : L 22 = false → GRow 37 2 base w (.slice pa pn pc) es
  p1 : L 22 = true → ∃ qa qn qc, vals 22 = .slice qa qn qc ∧ GRow 37 2 base w (.slice qa qn qc) (es ++ [refCells r]) ∧ ((Value.slice qa qn qc).ownBlock = (Value.slice pa pn pc).ownBlock ∨ ∀ k, (Value.slice qa qn qc).ownBlock = some k → V.heap.size ≤ k)
  nx : w.heap[X]? = some (.cells #[c0, c1, c2, if L 24 = true then vals 22 else .slice pa pn pc] 61 (0, 0))

set_option maxHeartbeats 16000000 in
set_option maxRecDepth 100000 in
theorem graph_any (ts : List Ty) (v : Value) (w : World) (hts : TySl (fun k => k < w.heap.size) w v ts) (hs : Ty.sizes ts ≤ 2000) (hd : ∀ t ∈ ts, t.depth ≤ 800) (hok : ∀ t ∈ ts, nodeR [] 0 false t = 0) (hnl : (gNodes ts).length ≤ 2000) (hnx : ∀ g ∈ gNodes ts, g.nx.length ≤ 1000000 ∧ g.ls.length ≤ 400000000) (hrl : (gRefs ts).length ≤ 1000) :
    Calls Tryz.prog 10 #[v] w fun en w' => ∃ (na : Option Addr) (nn nc : Nat) (ra : Option Addr) (rn rc : Nat), en = .returned (.tuple #[grV na nn nc, .slice ra rn rc]) ∧ NodeSl (fun k => k < w'.heap.size) w' (.slice na nn nc) (gNodes ts) ∧ RefSl (fun k => k < w'.heap.size) w' (.slice ra rn rc) (gRefs ts) ∧ Below w.heap.size w w' := by
  have hbl := blkBelow w #[.slice none 0 0] 32
  obtain ⟨W1, hW1⟩ : ∃ W1, w.alloc (grO none 0 0) = W1 := ⟨_, rfl⟩
  have hb1 : Below w.heap.size w W1 := by rw [← hW1]; exact blkBelow w _ _
  have hs1 : W1.heap.size = w.heap.size + 1 := by rw [← hW1]; simp
  have x1 : W1.heap[w.heap.size]? = some (grO none 0 0) := by rw [← hW1]; exact World.alloc_heap_new _ _
  have HRB := Lib.hid (rbuild_any ts v W1 ((hts.keep (hb1.keeps'.mono (fun k hk => hk))).mono (fun k hk => Nat.lt_of_lt_of_le hk hb1.size)) (by omega) hd hok)
  obtain ⟨ns, hns⟩ : ∃ ns, gNodes ts = ns := ⟨_, rfl⟩
  obtain ⟨rs, hrs⟩ : ∃ rs, gRefs ts = rs := ⟨_, rfl⟩
  rw [hns, hrs] at HRB
  rw [hns] at hnl hnx ⊢
  rw [hrs] at hrl ⊢
  have HW1 := Lib.hid hW1
  have HB1 := Lib.hid hb1
  have HS1 := Lib.hid hs1
  have HX1 := Lib.hid x1
  have HNX := Lib.hid hnx
  clear hts hs hd hok hns hrs hnx hW1 hb1 hs1 x1 hbl
  go_enter Tryz.func10, Tryz.ntmps10
  go_upto_region 1 with fail
  rw [show w.alloc (.cells #[.slice none 0 0] 32) = W1 from HW1.out]
  go_upto_region 2 with (go_at_call 24; go_loud (refine HRB.out.mono ?_; rintro en w2 ⟨ma, mn, mc, sa, sn, sc, rfl, hn2, hr2, hb2⟩; have HN2 := Lib.hid hn2; have HR2 := Lib.hid hr2; have HB2 := Lib.hid hb2; clear hn2 hr2 hb2))
  go_upto_region 3 with fail
  obtain ⟨W3, hW3⟩ : ∃ W3, w2.alloc (grO none 0 0) = W3 := ⟨_, rfl⟩
  have hb3 : Below w2.heap.size w2 W3 := by rw [← hW3]; exact blkBelow w2 _ _
  have hs3 : W3.heap.size = w2.heap.size + 1 := by rw [← hW3]; simp
  have x3 : W3.heap[w2.heap.size]? = some (grO none 0 0) := by rw [← hW3]; exact World.alloc_heap_new _ _
  rw [show w2.alloc (.cells #[.slice none 0 0] 32) = W3 from hW3]
  obtain ⟨_, _, _, e, hlm, _, hg2⟩ := HN2.out.open
  simp only [Value.slice.injEq] at e
  obtain ⟨rfl, rfl, rfl⟩ := e
  obtain ⟨_, _, _, e, hls, _, hgr⟩ := HR2.out.open
  simp only [Value.slice.injEq] at e
  obtain ⟨rfl, rfl, rfl⟩ := e
  have hmn : mn ≤ 2000 := by rw [hlm.out]; exact hnl
  have hsn : sn ≤ 1000 := by rw [hls.out]; exact hrl
  have hw2 : w.heap.size < w2.heap.size := by have := HS1.out; have := HB2.out.size; omega
  have HSRC : Hid (∀ (j : Nat) (g : GNode), ns[j]? = some g → ∃ kb ko la ln lc xa xc, ma = some ⟨kb, ko, none⟩ ∧ (∀ W, Below w2.heap.size w2 W → (W.cell? ⟨kb, ko + j * 4, none⟩ = some (.int .i64 g.k) ∧ W.cell? ⟨kb, ko + j * 4 + 1, none⟩ = some (.int .i64 g.p) ∧ W.cell? ⟨kb, ko + j * 4 + 2, none⟩ = some (.slice la ln lc) ∧ W.cell? ⟨kb, ko + j * 4 + 3, none⟩ = some (.slice xa g.nx.length xc)) ∧ StrSl (fun k => k < w2.heap.size) W (.slice la ln lc) g.ls) ∧ ∀ (q : Nat) (r : GRef), g.nx[q]? = some r → ∃ rb ro, xa = some ⟨rb, ro, none⟩ ∧ ∀ W, Below w2.heap.size w2 W → W.cell? ⟨rb, ro + q * 2, none⟩ = some (.int .i64 r.n) ∧ W.cell? ⟨rb, ro + q * 2 + 1, none⟩ = some (.int .i64 r.s)) := Lib.hid (fun j g hj => by
    obtain ⟨kb, ko, e1, hkb, n0, n1, lv, nv, n2, n3, n4, n5⟩ := hg2 j g hj
    obtain ⟨la, ln, lc, rfl, _⟩ := n4.open
    obtain ⟨xa, xn, xc, rfl, hxn, _, hgx⟩ := n5.open
    rw [hxn.out] at n3
    refine ⟨kb, ko, la, ln, lc, xa, xc, e1, fun W hW => ⟨⟨(hW.cell (p := ⟨kb, _, none⟩) hkb).trans n0, (hW.cell (p := ⟨kb, _, none⟩) hkb).trans n1, (hW.cell (p := ⟨kb, _, none⟩) hkb).trans n2, (hW.cell (p := ⟨kb, _, none⟩) hkb).trans n3⟩, n4.keep (hW.keeps'.mono (fun k hk => hk))⟩, fun q r hr => ?_⟩
    obtain ⟨rb, ro, f1, hrb, r0, r1⟩ := hgx q r hr
    exact ⟨rb, ro, f1, fun W hW => ⟨(hW.cell (p := ⟨rb, _, none⟩) hrb).trans r0, (hW.cell (p := ⟨rb, _, none⟩) hrb).trans r1⟩⟩)
  have HSRR : Hid (∀ (j : Nat) (r : GRef), rs[j]? = some r → ∃ rb ro, sa = some ⟨rb, ro, none⟩ ∧ ∀ W, Below w2.heap.size w2 W → W.cell? ⟨rb, ro + j * 2, none⟩ = some (.int .i64 r.n) ∧ W.cell? ⟨rb, ro + j * 2 + 1, none⟩ = some (.int .i64 r.s)) := Lib.hid (fun j r hr => by
    obtain ⟨rb, ro, f1, hrb, r0, r1⟩ := hgr j r hr
    exact ⟨rb, ro, f1, fun W hW => ⟨(hW.cell (p := ⟨rb, _, none⟩) hrb).trans r0, (hW.cell (p := ⟨rb, _, none⟩) hrb).trans r1⟩⟩)
  have HNL : Hid (mn = ns.length) := hlm
  have HSL : Hid (sn = rs.length) := hls
  have HX1w : Hid (∀ W, Below w2.heap.size w2 W → W.heap[w.heap.size]? = some (grO none 0 0)) := Lib.hid (fun W hW => (hW.block _ hw2).trans ((HB2.out.block _ (by have := HS1.out; omega)).trans HX1.out))
  have HB3 := Lib.hid hb3
  have HX3 := Lib.hid x3
  have HS3 := Lib.hid hs3
  clear hb3 hs3 x3 hW3 hlm hls hg2 hgr HRB hnl hrl
  go_wp2_with fail
  go_loopw [8] (fun iv wr => ∃ (j : Nat) (oa : Option Addr) (on oc : Nat) (xs : List NV), iv = .int .i64 j ∧ j ≤ mn ∧ Hid (wr.heap[w2.heap.size]? = some (grO oa on oc)) ∧ Hid (GRow 61 4 W3.heap.size wr (.slice oa on oc) (xs.map NV.cells)) ∧ Hid (∀ x ∈ xs, x.Ok (fun k => W3.heap.size ≤ k ∧ k < wr.heap.size ∧ some k ≠ (Value.slice oa on oc).ownBlock) wr) ∧ Hid (xs.map NV.g = ns.take j) ∧ Hid (Below w2.heap.size w2 wr) ∧ W3.heap.size ≤ wr.heap.size) (fun iv _ => mn - (intOf iv).toNat)
  case atStart => exact ⟨0, _, _, _, [], rfl, by omega, HX3, Lib.hid (by simpa using GRow.nil _ _ _ _), Lib.hid (fun x hx => by cases hx), Lib.hid (by simp), HB3, Nat.le_refl _⟩
  case round =>
    rename World => V
    obtain ⟨j, oa, on, oc, xs, rfl, hj, HGB, HG, HO, HM, HBV, hszV⟩ := hrel
    by_cases hlt : j < mn
    · obtain ⟨g, hg⟩ : ∃ g, ns[j]? = some g := ⟨_, List.getElem?_eq_getElem (by rw [← HNL.out]; exact hlt)⟩
      obtain ⟨kb, ko, la, ln, lc, xa, xc, rfl, hcl, hrf⟩ := HSRC.out j g hg
      obtain ⟨hgl, hll⟩ := HNX.out g (List.mem_of_getElem? hg)
      obtain ⟨M, hM⟩ : ∃ M, g.nx.length = M := ⟨_, rfl⟩
      rw [hM] at hcl hgl
      have HCL := Lib.hid hcl
      have HRF := Lib.hid hrf
      have HM' := Lib.hid hM
      have HGG := Lib.hid hg
      clear hg hcl hrf hM
      have hsz2 : w2.heap.size < V.heap.size := (Array.getElem?_eq_some_iff.1 HGB.out).1
      go_upto_region 7 with fail
      have HS : Hid (∀ W, Below V.heap.size V W → W.cell? ⟨kb, ko + j * 4, none⟩ = some (.int .i64 g.k) ∧ W.cell? ⟨kb, ko + j * 4 + 1, none⟩ = some (.int .i64 g.p) ∧ W.cell? ⟨kb, ko + j * 4 + 2, none⟩ = some (.slice la ln lc)) := Lib.hid (fun W hW => by
        have h := (HCL.out W (below_seq HBV.out hW)).1
        exact ⟨h.1, h.2.1, h.2.2.1⟩)
      refine wp_region_held_drew (S := fun W => W.cell? ⟨kb, ko + j * 4, none⟩ = some (.int .i64 g.k) ∧ W.cell? ⟨kb, ko + j * 4 + 1, none⟩ = some (.int .i64 g.p) ∧ W.cell? ⟨kb, ko + j * 4 + 2, none⟩ = some (.slice la ln lc)) (by kernel_rfl) (HS.out V (Below.refl _ _)) (fun hHeld => ?_)
      refine wpAnyH_take_l 0 (v := ?v0) rfl rfl (by kernel_rfl) (by kernel_rfl) (by kernel_rfl) (fun _ _ _ h => h) ?h0 (by assumption) ?r0
      case h0 => (intro w hSw; (try dsimp only at hSw); go_simp; try rfl)
      case' r0 => simp only [setD, List.set_cons_succ, List.set_cons_zero]
      refine wpAnyH_take_l 1 (v := ?v1) rfl rfl (by kernel_rfl) (by kernel_rfl) (by kernel_rfl) (fun _ _ _ h => h) ?h1 (by assumption) ?r1
      case h1 => (intro w hSw; (try dsimp only at hSw); go_simp; try rfl)
      case' r1 => simp only [setD, List.set_cons_succ, List.set_cons_zero]
      refine wpAnyH_take_l 2 (v := ?v2) rfl rfl (by kernel_rfl) (by kernel_rfl) (by kernel_rfl) (fun _ _ _ h => h) ?h2 (by assumption) ?r2
      case h2 => (intro w hSw; (try dsimp only at hSw); go_simp; try rfl)
      case' r2 => simp only [setD, List.set_cons_succ, List.set_cons_zero]
      refine wpAnyH_take_l 3 (v := ?v3) rfl rfl (by kernel_rfl) (by kernel_rfl) (by kernel_rfl) (fun _ _ _ h => h) ?h3 (by assumption) ?r3
      case h3 => (intro w hSw; (try dsimp only at hSw); go_simp; try rfl)
      case' r3 => simp only [setD, List.set_cons_succ, List.set_cons_zero]
      refine wpAnyH_take_l 4 (v := ?v4) rfl rfl (by kernel_rfl) (by kernel_rfl) (by kernel_rfl) (fun _ _ _ h => h) ?h4 (by assumption) ?r4
      case h4 => (intro w hSw; (try dsimp only at hSw); go_simp; try rfl)
      case' r4 => simp only [setD, List.set_cons_succ, List.set_cons_zero]
      refine wpAnyH_take_l 5 (v := ?v5) rfl rfl (by kernel_rfl) (by kernel_rfl) (by kernel_rfl) (fun _ _ _ h => h) ?h5 (by assumption) ?r5
      case h5 => (intro w hSw; (try dsimp only at hSw); go_simp; try rfl)
      case' r5 => simp only [setD, List.set_cons_succ, List.set_cons_zero]
      refine wpAnyH_take_l 6 (v := ?v6) rfl rfl (by kernel_rfl) (by kernel_rfl) (by kernel_rfl) (fun _ _ _ h => h) ?h6 (by assumption) ?r6
      case h6 => (intro w hSw; (try dsimp only at hSw); go_simp; try rfl)
      case' r6 => simp only [setD, List.set_cons_succ, List.set_cons_zero]
      refine wpAnyH_take_l 7 (v := ?v7) rfl rfl (by kernel_rfl) (by kernel_rfl) (by kernel_rfl) (fun _ _ _ h => h) ?h7 (by assumption) ?r7
      case h7 => (intro w hSw; (try dsimp only at hSw); go_simp; try rfl)
      case' r7 => simp only [setD, List.set_cons_succ, List.set_cons_zero]
      refine wpAnyH_take_l 8 (v := ?v8) rfl rfl (by kernel_rfl) (by kernel_rfl) (by kernel_rfl) (fun _ _ _ h => h) ?h8 (by assumption) ?r8
      case h8 => (intro w hSw; (try dsimp only at hSw); go_simp; try rfl)
      case' r8 => simp only [setD, List.set_cons_succ, List.set_cons_zero]
      refine wpAnyH_take_l 9 (v := ?v9) rfl rfl (by kernel_rfl) (by kernel_rfl) (by kernel_rfl) (fun _ _ _ h => h) ?h9 (by assumption) ?r9
      case h9 => (intro w hSw; (try dsimp only at hSw); go_simp; try rfl)
      case' r9 => simp only [setD, List.set_cons_succ, List.set_cons_zero]
      refine wpAnyH_take_l 11 (v := ?v11) rfl rfl (by kernel_rfl) (by kernel_rfl) (by kernel_rfl) (fun _ _ _ h => h) ?h11 (by assumption) ?r11
      case h11 => (intro w hSw; (try dsimp only at hSw); go_simp; try rfl)
      case' r11 => simp only [setD, List.set_cons_succ, List.set_cons_zero]
      refine wpAnyH_take_l 12 (v := ?v12) rfl rfl (by kernel_rfl) (by kernel_rfl) (by kernel_rfl) (fun _ _ _ h => h) ?h12 (by assumption) ?r12
      case h12 => (intro w hSw; (try dsimp only at hSw); go_simp; try rfl)
      case' r12 => simp only [setD, List.set_cons_succ, List.set_cons_zero]
      refine wpAnyH_take_l 13 (v := ?v13) rfl rfl (by kernel_rfl) (by kernel_rfl) (by kernel_rfl) (fun _ _ _ h => h) ?h13 (by assumption) ?r13
      case h13 => (intro w hSw; (try dsimp only at hSw); go_simp; try rfl)
      case' r13 => simp only [setD, List.set_cons_succ, List.set_cons_zero]
      refine wpAnyH_take_l 14 (v := ?v14) rfl rfl (by kernel_rfl) (by kernel_rfl) (by kernel_rfl) (fun _ _ _ h => h) ?h14 (by assumption) ?r14
      case h14 => (intro w hSw; (try dsimp only at hSw); go_simp; try rfl)
      case' r14 => simp only [setD, List.set_cons_succ, List.set_cons_zero]
      refine wpAnyH_take_l 15 (v := ?v15) rfl rfl (by kernel_rfl) (by kernel_rfl) (by kernel_rfl) (fun _ _ _ h => h) ?h15 (by assumption) ?r15
      case h15 => (intro w hSw; (try dsimp only at hSw); go_simp; try rfl)
      case' r15 => simp only [setD, List.set_cons_succ, List.set_cons_zero]
      refine wpAnyH_start [10, 16, 17, 18, 19] (G7 g.k g.p g.ls V) (by kernel_rfl) (by kernel_rfl) (fun L vals W hR => HS.out _ hR.below) ?start ?steps ?stop
      case start => exact ⟨⟨fun h => (Bool.false_ne_true h).elim, fun h => (Bool.false_ne_true h).elim, fun h => (Bool.false_ne_true h).elim⟩, (Below.refl _ _).drew, fun h => (Bool.false_ne_true h).elim, fun h => (Bool.false_ne_true h).elim, fun h => (Bool.false_ne_true h).elim, fun h => (Bool.false_ne_true h).elim, fun h => (Bool.false_ne_true h).elim⟩
      case steps =>
        refine List.forall_mem_cons.2 ⟨?_, List.forall_mem_cons.2 ⟨?_, List.forall_mem_cons.2 ⟨?_, List.forall_mem_cons.2 ⟨?_, List.forall_mem_cons.2 ⟨?_, fun _ h => by cases h⟩⟩⟩⟩⟩
        · refine InvStep.list (k := 10) rfl rfl [] (by kernel_rfl) [(10, some 33), (16, some 39), (17, some 40), (18, some 9), (19, none)] (by kernel_rfl) (by decide) (fun L vals olds wx hLk hdeps hR K hK => ?_)
          have hK2 := hK.out
          clear hK
          simp only [fillL, setD, List.set_cons_succ, List.set_cons_zero] at hK2 ⊢
          clear hdeps
          have f16 : L 16 = false := by
            cases e : L 16 with
            | false => rfl
            | true => rw [hR.dn.1 e] at hLk; cases hLk
          have f17 : L 17 = false := by
            cases e : L 17 with
            | false => rfl
            | true => rw [hR.dn.2.1 e] at f16; cases f16
          have f19 : L 19 = false := by
            cases e : L 19 with
            | false => rfl
            | true => rw [(hR.dn.2.2 e).1] at f17; cases f17
          go_simp
          obtain ⟨rD, rB, r10, r16, r17, r18, r19⟩ := hR
          exact hK2 _ _ ⟨⟨fun _ => rfl, rD.2.1, rD.2.2⟩, rB.alloc rB.size _, fun _ _ => ⟨_, rfl, GRow.empty _ _ _ _ _ rfl rB.size⟩, fun h => absurd (f16.symm.trans h) (by decide), fun h => absurd (f17.symm.trans h) (by decide), (fun h h' => by obtain ⟨X, e1, e2, e3⟩ := r18 h h'; exact ⟨X, e1, e2, (Below.heap_alloc _ _ _ (Array.getElem?_eq_some_iff.1 e3).1).trans e3⟩), fun h => absurd (f19.symm.trans h) (by decide)⟩
        · refine InvStep.list (k := 16) rfl rfl [10] (by kernel_rfl) [(10, some 33), (16, some 39), (17, some 40), (18, some 9), (19, none)] (by kernel_rfl) (by decide) (fun L vals olds wx hLk hdeps hR K hK => ?_)
          have hK2 := hK.out
          clear hK
          simp only [fillL, setD, List.set_cons_succ, List.set_cons_zero] at hK2 ⊢
          simp only [List.all_cons, List.all_nil, Bool.and_true] at hdeps
          have f17 : L 17 = false := by
            cases e : L 17 with
            | false => rfl
            | true => rw [hR.dn.2.1 e] at hLk; cases hLk
          have f19 : L 19 = false := by
            cases e : L 19 with
            | false => rfl
            | true => rw [(hR.dn.2.2 e).1] at f17; cases f17
          obtain ⟨b, e0, hrow⟩ := hR.s10 hdeps hLk
          obtain ⟨hnn, hsrc⟩ := src_strs (HCL.out wx (below_seq HBV.out hR.below)).2
          refine wp_wanted (ops := #[]) rfl (step_appG gstrElem (by rfl) _ _ (by rfl) (by exact (slotO_done hdeps).trans e0) hrow la ln lc (g.ls.map strCells) (by rfl) hnn (fun e he => by obtain ⟨x, _, rfl⟩ := List.mem_map.1 he; rfl) hsrc (fun e he u hu => by
            obtain ⟨x, _, rfl⟩ := List.mem_map.1 he
            rw [List.mem_singleton.1 hu]; rfl) (by simp; omega) hR.below.size (g.ls.map strCells) rfl ?_)
          intro ga gn gc w' hrow' hgrow _
          obtain ⟨rD, rB, r10, r16, r17, r18, r19⟩ := hR
          exact hK2 _ _ ⟨⟨fun _ => hdeps, fun _ => rfl, rD.2.2⟩, rB.grown hgrow rB.size (fun k e => (hrow.lt k e).1), fun _ h => (Bool.false_ne_true h.symm).elim, fun _ => ⟨ga, gn, gc, rfl, hrow'⟩, fun h => absurd (f17.symm.trans h) (by decide), (fun h h' => by obtain ⟨X, e1, e2, e3⟩ := r18 h h'; exact ⟨X, e1, e2, (hgrow.block X (Array.getElem?_eq_some_iff.1 e3).1 (hrow.ne e3 (by decide))).trans e3⟩), fun h => absurd (f19.symm.trans h) (by decide)⟩
        · refine InvStep.list (k := 17) rfl rfl [16] (by kernel_rfl) [(10, some 33), (16, some 39), (17, some 40), (18, some 9), (19, none)] (by kernel_rfl) (by decide) (fun L vals olds wx hLk hdeps hR K hK => ?_)
          have hK2 := hK.out
          clear hK
          simp only [fillL, setD, List.set_cons_succ, List.set_cons_zero] at hK2 ⊢
          simp only [List.all_cons, List.all_nil, Bool.and_true] at hdeps
          have f19 : L 19 = false := by
            cases e : L 19 with
            | false => rfl
            | true => rw [(hR.dn.2.2 e).1] at hLk; cases hLk
          obtain ⟨ga, gn, gc, e16, hrow⟩ := hR.s16 hdeps
          have es := (slotO_done (vals := vals) (olds := olds) hdeps).trans e16
          simp only [es] at hK2 ⊢
          clear es hrow
          have E16 := Lib.hid e16
          clear e16
          go_simp
          obtain ⟨rD, rB, r10, r16, r17, r18, r19⟩ := hR
          refine hK2 _ _ ⟨⟨rD.1, fun _ => hdeps, fun h => absurd (f19.symm.trans h) (by decide)⟩, rB, r10, r16, fun _ => ?_, r18, fun h => absurd (f19.symm.trans h) (by decide)⟩
          show _ = Value.agg #[_, _, vals 16, _]
          rw [E16.out]; rfl
        · refine InvStep.list (k := 18) rfl rfl [] (by kernel_rfl) [(10, some 33), (16, some 39), (17, some 40), (18, some 9), (19, none)] (by kernel_rfl) (by decide) (fun L vals olds wx hLk hdeps hR K hK => ?_)
          have hK2 := hK.out
          clear hK
          simp only [fillL, setD, List.set_cons_succ, List.set_cons_zero] at hK2 ⊢
          clear hdeps
          have f19 : L 19 = false := by
            cases e : L 19 with
            | false => rfl
            | true => rw [(hR.dn.2.2 e).2] at hLk; cases hLk
          go_simp
          obtain ⟨rD, rB, r10, r16, r17, r18, r19⟩ := hR
          refine hK2 _ _ ⟨⟨rD.1, rD.2.1, fun h => absurd (f19.symm.trans h) (by decide)⟩, rB.alloc rB.size _, (fun h h' => by obtain ⟨b, e, hr⟩ := r10 h h'; exact ⟨b, e, hr.alloc _⟩), ?_, r17, fun _ _ => ⟨_, rfl, rB.size, World.alloc_heap_new _ _⟩, fun h => absurd (f19.symm.trans h) (by decide)⟩
          intro h
          obtain ⟨a, n, c, e, hr⟩ := r16 h
          exact ⟨a, n, c, e, hr.alloc _⟩
        · refine InvStep.list (k := 19) rfl rfl [17, 18] (by kernel_rfl) [(10, some 33), (16, some 39), (17, some 40), (18, some 9), (19, none)] (by kernel_rfl) (by decide) (fun L vals olds wx hLk hdeps hR K hK => ?_)
          have hK2 := hK.out
          clear hK
          simp only [fillL, setD, List.set_cons_succ, List.set_cons_zero] at hK2 ⊢
          simp only [List.all_cons, List.all_nil, Bool.and_true, Bool.and_eq_true] at hdeps
          have h16 := hR.dn.2.1 hdeps.1
          obtain ⟨ga, gn, gc, e16, hrow⟩ := hR.s16 h16
          obtain ⟨X, e18, hX1, hX2⟩ := hR.s18 hdeps.2 hLk
          have es18 := (slotO_done (vals := vals) (olds := olds) hdeps.2).trans e18
          have es17 := (slotO_done (vals := vals) (olds := olds) hdeps.1).trans (hR.s17 hdeps.1)
          rw [e16] at es17
          simp only [es17, es18] at hK2 ⊢
          obtain ⟨q0, q1, q2, q3, p0, p1, p2, p3⟩ := gcell4 hX2
          have E16 := Lib.hid e16
          have E18 := Lib.hid e18
          have HROW := Lib.hid hrow
          clear e16 e18 es17 es18 hrow
          go_simp
          clear q0 q1 q2 q3 p0 p1 p2 p3
          obtain ⟨rD, rB, r10, r16, r17, r18, r19⟩ := hR
          refine hK2 undef _ ⟨⟨rD.1, rD.2.1, fun _ => hdeps⟩, (((rB.setCell (p := ⟨X, 0, none⟩) hX1 _).setCell (p := ⟨X, 1, none⟩) hX1 _).setCell (p := ⟨X, 2, none⟩) hX1 _).setCell (p := ⟨X, 3, none⟩) hX1 _, fun _ h => absurd (h16.symm.trans h) (by decide), fun _ => ⟨ga, gn, gc, E16.out, HROW.out.kept (fun k hk => ?_)⟩, r17, fun _ h => (Bool.false_ne_true h.symm).elim, fun _ => ⟨X, E18.out, hX1, ?_⟩⟩
          · have hne : k ≠ X := fun e => HROW.out.ne hX2 (by decide) (by rw [← e]; exact hk.symm)
            exact (set_oth _ _ _ hne).trans ((set_oth _ _ _ hne).trans ((set_oth _ _ _ hne).trans (set_oth _ _ _ hne)))
          · show _ = some (Obj.cells #[_, _, vals 16, _] _ _)
            rw [E16.out]
            exact set_block (set_block (set_block (set_block hX2 0 _) 1 _) 2 _) 3 _
      case stop =>
        refine end_plain [(10, some 33), (16, some 39), (17, some 40), (18, some 9), (19, none)] (by kernel_rfl) (by decide) (fun L vals olds w5 hall hR => ?_)
        simp only [List.all_cons, List.all_nil, Bool.and_true, Bool.and_eq_true] at hall
        obtain ⟨h10, h16, h17, h18, h19⟩ := hall
        obtain ⟨ya, yn, yc, e16, hrow⟩ := hR.s16 h16
        obtain ⟨X, e18, hX1, hX2⟩ := hR.s19 h19
        rw [e16] at hX2
        simp only [fillL, List.set_cons_succ, List.set_cons_zero, slotO_done h18, e18]
        have hb5 := hR.below
        clear hR h10 h16 h17 h18 h19 e16 e18
        have HROW := Lib.hid hrow
        have HX2 := Lib.hid hX2
        have HB5 := Lib.hid hb5
        have hXl : X < w5.heap.size := (Array.getElem?_eq_some_iff.1 hX2).1
        clear hrow hX2 hb5
        go_wp2_with fail
        go_loopw [10] (fun kv wr => ∃ (q : Nat) (pa : Option Addr) (pn pc : Nat), kv = .int .i64 q ∧ q ≤ M ∧ Hid (wr.heap[X]? = some (.cells #[.int .i64 g.k, .int .i64 g.p, .slice ya yn yc, .slice pa pn pc] 61 (0, 0))) ∧ Hid (GRow 37 2 w5.heap.size wr (.slice pa pn pc) ((g.nx.take q).map refCells)) ∧ Hid (Out2 X none w5 wr)) (fun kv _ => M - (intOf kv).toNat)
        case atStart => exact ⟨0, _, _, _, rfl, by omega, HX2, Lib.hid (by simpa using GRow.nil _ _ _ _), Lib.hid (Out2.refl _ _ _)⟩
        case round =>
          obtain ⟨q, pa, pn, pc, rfl, hq, HPX, HPR, HOU⟩ := hrel
          have h5r := HOU.out.size
          have h5V := HB5.out.size
          have hb2r : Below w2.heap.size w2 wr := HBV.out.trans ((HB5.out.mono (by omega)).trans (HOU.out.below (by omega) (fun k hk => by cases hk) (by omega)))
          have HB2R := Lib.hid hb2r
          clear hb2r
          by_cases hlq : q < M
          · obtain ⟨r, hr⟩ : ∃ r, g.nx[q]? = some r := ⟨_, List.getElem?_eq_getElem (by rw [HM'.out]; exact hlq)⟩
            obtain ⟨rb, ro, rfl, hrr⟩ := HRF.out q r hr
            have HRR := Lib.hid hrr
            have HTK := Lib.hid (take_snoc_get hr)
            have n3 := (HCL.out wr HB2R.out).1.2.2.2
            have howp : ∀ k, (Value.slice pa pn pc).ownBlock = some k → w5.heap.size ≤ k := fun k hk => (HPR.out.lt k hk).1
            have HS11 : Hid (∀ W, Out2 X (Value.slice pa pn pc).ownBlock wr W → W.cell? ⟨kb, ko + j * 4 + 3, none⟩ = some (.slice (some ⟨rb, ro, none⟩) M xc) ∧ W.cell? ⟨rb, ro + q * 2, none⟩ = some (.int .i64 r.n) ∧ W.cell? ⟨rb, ro + q * 2 + 1, none⟩ = some (.int .i64 r.s)) := Lib.hid (fun W hW => by
              have h : Below w2.heap.size w2 W := HB2R.out.trans (hW.below (by omega) (fun k hk => by have := howp k hk; omega) (by omega))
              exact ⟨(HCL.out W h).1.2.2.2, HRR.out W h⟩)
            clear hr hrr
            go_upto_region 11 with fail
            clear n3
            refine wp_region_held_drew (S := fun W => W.cell? ⟨kb, ko + j * 4 + 3, none⟩ = some (.slice (some ⟨rb, ro, none⟩) M xc) ∧ W.cell? ⟨rb, ro + q * 2, none⟩ = some (.int .i64 r.n) ∧ W.cell? ⟨rb, ro + q * 2 + 1, none⟩ = some (.int .i64 r.s)) (by kernel_rfl) (HS11.out wr (Out2.refl _ _ _)) (fun hHeld2 => ?_)
            refine wpAnyH_take_l 0 (v := ?vb0) rfl rfl (by kernel_rfl) (by kernel_rfl) (by kernel_rfl) (fun _ _ _ h => h) ?hb0 (by assumption) ?rb0
            case hb0 => (intro w hSw; (try dsimp only at hSw); go_simp; try rfl)
            case' rb0 => simp only [setD, List.set_cons_succ, List.set_cons_zero]
            refine wpAnyH_take_l 2 (v := ?vb2) rfl rfl (by kernel_rfl) (by kernel_rfl) (by kernel_rfl) (fun _ _ _ h => h) ?hb2 (by assumption) ?rb2
            case hb2 => (intro w hSw; (try dsimp only at hSw); go_simp; try rfl)
            case' rb2 => simp only [setD, List.set_cons_succ, List.set_cons_zero]
            refine wpAnyH_take_l 3 (v := ?vb3) rfl rfl (by kernel_rfl) (by kernel_rfl) (by kernel_rfl) (fun _ _ _ h => h) ?hb3 (by assumption) ?rb3
            case hb3 => (intro w hSw; (try dsimp only at hSw); go_simp; try rfl)
            case' rb3 => simp only [setD, List.set_cons_succ, List.set_cons_zero]
            refine wpAnyH_take_l 4 (v := ?vb4) rfl rfl (by kernel_rfl) (by kernel_rfl) (by kernel_rfl) (fun _ _ _ h => h) ?hb4 (by assumption) ?rb4
            case hb4 => (intro w hSw; (try dsimp only at hSw); go_simp; try rfl)
            case' rb4 => simp only [setD, List.set_cons_succ, List.set_cons_zero]
            refine wpAnyH_take_l 5 (v := ?vb5) rfl rfl (by kernel_rfl) (by kernel_rfl) (by kernel_rfl) (fun _ _ _ h => h) ?hb5 (by assumption) ?rb5
            case hb5 => (intro w hSw; (try dsimp only at hSw); go_simp; try rfl)
            case' rb5 => simp only [setD, List.set_cons_succ, List.set_cons_zero]
            refine wpAnyH_take_l 6 (v := ?vb6) rfl rfl (by kernel_rfl) (by kernel_rfl) (by kernel_rfl) (fun _ _ _ h => h) ?hb6 (by assumption) ?rb6
            case hb6 => (intro w hSw; (try dsimp only at hSw); go_simp; try rfl)
            case' rb6 => simp only [setD, List.set_cons_succ, List.set_cons_zero]
            refine wpAnyH_take_l 7 (v := ?vb7) rfl rfl (by kernel_rfl) (by kernel_rfl) (by kernel_rfl) (fun _ _ _ h => h) ?hb7 (by assumption) ?rb7
            case hb7 => (intro w hSw; (try dsimp only at hSw); go_simp; try rfl)
            case' rb7 => simp only [setD, List.set_cons_succ, List.set_cons_zero]
            refine wpAnyH_take_l 8 (v := ?vb8) rfl rfl (by kernel_rfl) (by kernel_rfl) (by kernel_rfl) (fun _ _ _ h => h) ?hb8 (by assumption) ?rb8
            case hb8 => (intro w hSw; (try dsimp only at hSw); go_simp; try rfl)
            case' rb8 => simp only [setD, List.set_cons_succ, List.set_cons_zero]
            refine wpAnyH_take_l 9 (v := ?vb9) rfl rfl (by kernel_rfl) (by kernel_rfl) (by kernel_rfl) (fun _ _ _ h => h) ?hb9 (by assumption) ?rb9
            case hb9 => (intro w hSw; (try dsimp only at hSw); go_simp; try rfl)
            case' rb9 => simp only [setD, List.set_cons_succ, List.set_cons_zero]
            refine wpAnyH_take_l 10 (v := ?vb10) rfl rfl (by kernel_rfl) (by kernel_rfl) (by kernel_rfl) (fun _ _ _ h => h) ?hb10 (by assumption) ?rb10
            case hb10 => (intro w hSw; (try dsimp only at hSw); go_simp; try rfl)
            case' rb10 => simp only [setD, List.set_cons_succ, List.set_cons_zero]
            refine wpAnyH_take_l 11 (v := ?vb11) rfl rfl (by kernel_rfl) (by kernel_rfl) (by kernel_rfl) (fun _ _ _ h => h) ?hb11 (by assumption) ?rb11
            case hb11 => (intro w hSw; (try dsimp only at hSw); go_simp; try rfl)
            case' rb11 => simp only [setD, List.set_cons_succ, List.set_cons_zero]
            refine wpAnyH_take_l 12 (v := ?vb12) rfl rfl (by kernel_rfl) (by kernel_rfl) (by kernel_rfl) (fun _ _ _ h => h) ?hb12 (by assumption) ?rb12
            case hb12 => (intro w hSw; (try dsimp only at hSw); go_simp; try rfl)
            case' rb12 => simp only [setD, List.set_cons_succ, List.set_cons_zero]
            refine wpAnyH_take_l 13 (v := ?vb13) rfl rfl (by kernel_rfl) (by kernel_rfl) (by kernel_rfl) (fun _ _ _ h => h) ?hb13 (by assumption) ?rb13
            case hb13 => (intro w hSw; (try dsimp only at hSw); go_simp; try rfl)
            case' rb13 => simp only [setD, List.set_cons_succ, List.set_cons_zero]
            refine wpAnyH_take_l 14 (v := ?vb14) rfl rfl (by kernel_rfl) (by kernel_rfl) (by kernel_rfl) (fun _ _ _ h => h) ?hb14 (by assumption) ?rb14
            case hb14 => (intro w hSw; (try dsimp only at hSw); go_simp; try rfl)
            case' rb14 => simp only [setD, List.set_cons_succ, List.set_cons_zero]
            refine wpAnyH_take_l 15 (v := ?vb15) rfl rfl (by kernel_rfl) (by kernel_rfl) (by kernel_rfl) (fun _ _ _ h => h) ?hb15 (by assumption) ?rb15
            case hb15 => (intro w hSw; (try dsimp only at hSw); go_simp; try rfl)
            case' rb15 => simp only [setD, List.set_cons_succ, List.set_cons_zero]
            refine wpAnyH_take_l 16 (v := ?vb16) rfl rfl (by kernel_rfl) (by kernel_rfl) (by kernel_rfl) (fun _ _ _ h => h) ?hb16 (by assumption) ?rb16
            case hb16 => (intro w hSw; (try dsimp only at hSw); go_simp; try rfl)
            case' rb16 => simp only [setD, List.set_cons_succ, List.set_cons_zero]
            refine wpAnyH_take_l 17 (v := ?vb17) rfl rfl (by kernel_rfl) (by kernel_rfl) (by kernel_rfl) (fun _ _ _ h => h) ?hb17 (by assumption) ?rb17
            case hb17 => (intro w hSw; (try dsimp only at hSw); go_simp; try rfl)
            case' rb17 => simp only [setD, List.set_cons_succ, List.set_cons_zero]
            refine wpAnyH_take_l 18 (v := ?vb18) rfl rfl (by kernel_rfl) (by kernel_rfl) (by kernel_rfl) (fun _ _ _ h => h) ?hb18 (by assumption) ?rb18
            case hb18 => (intro w hSw; (try dsimp only at hSw); go_simp; try rfl)
            case' rb18 => simp only [setD, List.set_cons_succ, List.set_cons_zero]
            refine wpAnyH_take_l 19 (v := ?vb19) rfl rfl (by kernel_rfl) (by kernel_rfl) (by kernel_rfl) (fun _ _ _ h => h) ?hb19 (by assumption) ?rb19
            case hb19 => (intro w hSw; (try dsimp only at hSw); go_simp; try rfl)
            case' rb19 => simp only [setD, List.set_cons_succ, List.set_cons_zero]
            refine wpAnyH_take_l 20 (v := ?vb20) rfl rfl (by kernel_rfl) (by kernel_rfl) (by kernel_rfl) (fun _ _ _ h => h) ?hb20 (by assumption) ?rb20
            case hb20 => (intro w hSw; (try dsimp only at hSw); go_simp; try rfl)
            case' rb20 => simp only [setD, List.set_cons_succ, List.set_cons_zero]
            refine wpAnyH_start [1, 21, 22, 23, 24] (G11 X w5.heap.size (.int .i64 g.k) (.int .i64 g.p) (.slice ya yn yc) pa pn pc ((g.nx.take q).map refCells) r wr) (by kernel_rfl) (by kernel_rfl) (fun L vals W hR => HS11.out _ hR.out) ?startb ?stepsb ?stopb
            case startb => exact ⟨⟨fun h => (Bool.false_ne_true h).elim, fun h => (Bool.false_ne_true h).elim⟩, (Out2.refl _ _ _).drew, fun h => (Bool.false_ne_true h).elim, fun h => (Bool.false_ne_true h).elim, fun h => (Bool.false_ne_true h).elim, fun _ => HPR.out.drew, fun h => (Bool.false_ne_true h).elim, HPX.out⟩
            case stepsb =>
              refine List.forall_mem_cons.2 ⟨?_, List.forall_mem_cons.2 ⟨?_, List.forall_mem_cons.2 ⟨?_, List.forall_mem_cons.2 ⟨?_, List.forall_mem_cons.2 ⟨?_, fun _ h => by cases h⟩⟩⟩⟩⟩
              · refine InvStep.list (k := 1) rfl rfl [] (by kernel_rfl) [(1, some 52), (21, some 72), (22, some 73), (23, some 74), (24, none)] (by kernel_rfl) (by decide) (fun L vals olds wx hLk hdeps hR K hK => ?_)
                have hK2 := hK.out
                clear hK
                simp only [fillL, setD, List.set_cons_succ, List.set_cons_zero] at hK2 ⊢
                clear hdeps
                have f22 : L 22 = false := by
                  cases e : L 22 with
                  | false => rfl
                  | true => rw [(hR.dn.1 e).2] at hLk; cases hLk
                have f24 : L 24 = false := by
                  cases e : L 24 with
                  | false => rfl
                  | true => rw [(hR.dn.2 e).1] at f22; cases f22
                have hnb := hR.nx
                rw [f24] at hnb
                have hnl : X < wx.heap.size := (Array.getElem?_eq_some_iff.1 hnb).1
                have qc : wx.cell? ⟨X, 3, none⟩ = some (.slice pa pn pc) := by simp [World.cell?, hnb]
                go_simp
                clear qc
                obtain ⟨rD, rO, r1, r23, r21, rP, rQ, rX⟩ := hR
                exact hK2 _ _ ⟨⟨fun h => ⟨(rD.1 h).1, rfl⟩, rD.2⟩, rO, fun _ => rfl, r23, r21, rP, rQ, rX⟩
              · refine InvStep.list (k := 21) rfl rfl [] (by kernel_rfl) [(1, some 52), (21, some 72), (22, some 73), (23, some 74), (24, none)] (by kernel_rfl) (by decide) (fun L vals olds wx hLk hdeps hR K hK => ?_)
                have hK2 := hK.out
                clear hK
                simp only [fillL, setD, List.set_cons_succ, List.set_cons_zero] at hK2 ⊢
                clear hdeps
                have f22 : L 22 = false := by
                  cases e : L 22 with
                  | false => rfl
                  | true => rw [(hR.dn.1 e).1] at hLk; cases hLk
                have f24 : L 24 = false := by
                  cases e : L 24 with
                  | false => rfl
                  | true => rw [(hR.dn.2 e).1] at f22; cases f22
                have hnb := hR.nx
                rw [f24] at hnb
                have hnl : X < wx.heap.size := (Array.getElem?_eq_some_iff.1 hnb).1
                go_simp
                obtain ⟨rD, rO, r1, r23, r21, rP, rQ, rX⟩ := hR
                exact hK2 _ _ ⟨⟨fun h => absurd (f22.symm.trans h) (by decide), rD.2⟩, rO.to (blkBelow wx _ _), r1, r23, fun _ _ => ⟨_, rfl, by simp, rO.size, World.alloc_heap_new _ _⟩, fun _ => (rP f22).to (blkBelow wx _ _), fun h => absurd (f22.symm.trans h) (by decide), (Below.heap_alloc _ _ _ hnl).trans rX⟩
              · refine InvStep.list (k := 22) rfl rfl [21, 1] (by kernel_rfl) [(1, some 52), (21, some 72), (22, some 73), (23, some 74), (24, none)] (by kernel_rfl) (by decide) (fun L vals olds wx hLk hdeps hR K hK => ?_)
                have hK2 := hK.out
                clear hK
                simp only [fillL, setD, List.set_cons_succ, List.set_cons_zero] at hK2 ⊢
                simp only [List.all_cons, List.all_nil, Bool.and_true, Bool.and_eq_true] at hdeps
                have f24 : L 24 = false := by
                  cases e : L 24 with
                  | false => rfl
                  | true => rw [(hR.dn.2 e).1] at hLk; cases hLk
                have hnb := hR.nx
                rw [f24] at hnb
                have hnl : X < wx.heap.size := (Array.getElem?_eq_some_iff.1 hnb).1
                have e1 := hR.v1 hdeps.2
                obtain ⟨B, e11, hBl, hBV, hBB⟩ := hR.v21 hdeps.1 hLk
                have hrow := hR.p0 hLk
                refine wp_wanted (ops := #[]) rfl (step_appG grefElem (by rfl) _ _ (by rfl) (by exact (slotO_done hdeps.2).trans e1) hrow (some ⟨B, 0, none⟩) 1 1 [refCells r] (by exact (slotO_done hdeps.1).trans e11) rfl (fun e he => by rw [List.mem_singleton.1 he]; rfl) (src_at hBB) (fun e he u hu => by
                  rw [List.mem_singleton.1 he] at hu
                  simp only [refCells, List.mem_cons, List.not_mem_nil, or_false] at hu
                  rcases hu with rfl | rfl <;> rfl) (by have : (g.nx.take q).length ≤ q := by rw [List.length_take]; omega
                                                        simp only [List.length_map, List.length_singleton]; omega) (Nat.le_trans h5r hR.out.size) _ rfl ?_)
                intro ga gn gc w' hrow' hgrow hq2
                have hnr : some X ≠ (Value.slice pa pn pc).ownBlock := fun e => by have := howp _ e.symm; omega
                obtain ⟨rD, rO, r1, r23, r21, rP, rQ, rX⟩ := hR
                refine hK2 _ _ ⟨⟨fun _ => hdeps, fun h => absurd (f24.symm.trans h) (by decide)⟩, rO.grown hgrow (.inl rfl), r1, r23, fun _ h => (Bool.false_ne_true h.symm).elim, fun h => (Bool.false_ne_true h.symm).elim, fun _ => ⟨ga, gn, gc, rfl, hrow', ?_⟩, ?_⟩
                · rcases hq2 with h | h
                  · exact .inl h
                  · exact .inr (fun k hk => by rw [h] at hk; have := Option.some.inj hk; have := rO.size; omega)
                · have h24 : updL L 22 24 = false := f24
                  rw [h24]
                  rw [if_neg (by decide)]
                  exact (hgrow.block _ hnl hnr).trans hnb
              · refine InvStep.list (k := 23) rfl rfl [] (by kernel_rfl) [(1, some 52), (21, some 72), (22, some 73), (23, some 74), (24, none)] (by kernel_rfl) (by decide) (fun L vals olds wx hLk hdeps hR K hK => ?_)
                have hK2 := hK.out
                clear hK
                simp only [fillL, setD, List.set_cons_succ, List.set_cons_zero] at hK2 ⊢
                clear hdeps
                have f24 : L 24 = false := by
                  cases e : L 24 with
                  | false => rfl
                  | true => rw [(hR.dn.2 e).2] at hLk; cases hLk
                go_simp
                obtain ⟨rD, rO, r1, r23, r21, rP, rQ, rX⟩ := hR
                exact hK2 _ _ ⟨⟨rD.1, fun h => absurd (f24.symm.trans h) (by decide)⟩, rO, r1, fun _ => rfl, r21, rP, rQ, rX⟩
              · refine InvStep.list (k := 24) rfl rfl [22, 23] (by kernel_rfl) [(1, some 52), (21, some 72), (22, some 73), (23, some 74), (24, none)] (by kernel_rfl) (by decide) (fun L vals olds wx hLk hdeps hR K hK => ?_)
                have hK2 := hK.out
                clear hK
                simp only [fillL, setD, List.set_cons_succ, List.set_cons_zero] at hK2 ⊢
                simp only [List.all_cons, List.all_nil, Bool.and_true, Bool.and_eq_true] at hdeps
                have f24 : L 24 = false := by
                  cases e : L 24 with
                  | false => rfl
                  | true => rw [e] at hLk; cases hLk
                have hnb := hR.nx
                rw [f24] at hnb
                have hnl : X < wx.heap.size := (Array.getElem?_eq_some_iff.1 hnb).1
                obtain ⟨qa, qn, qc, e12, hrow, hq2⟩ := hR.p1 hdeps.1
                have es := (slotO_done (vals := vals) (olds := olds) hdeps.1).trans e12
                have es13 := (slotO_done (vals := vals) (olds := olds) hdeps.2).trans (hR.v23 hdeps.2)
                simp only [es, es13] at hK2 ⊢
                clear es es13
                have q1 : wx.cell? ⟨X, 3, none⟩ = some (.slice pa pn pc) := by simp [World.cell?, hnb]
                have q2 : wx.frozen? ⟨X, 3, none⟩ = false := frozen_of_block hnb 3
                have E12 := Lib.hid e12
                have HRW := Lib.hid hrow
                clear e12 hrow
                go_simp
                clear q1 q2
                obtain ⟨rD, rO, r1, r23, r21, rP, rQ, rX⟩ := hR
                refine hK2 undef _ ⟨⟨rD.1, fun _ => hdeps⟩, rO.store 3 _, r1, r23, fun h h' => absurd (hdeps.1.symm.trans h') (by decide), fun h => absurd (hdeps.1.symm.trans h) (by decide), fun _ => ⟨qa, qn, qc, E12.out, HRW.out.kept (fun k hk => set_oth _ _ _ (by have := (HRW.out.lt k hk).1; omega)), hq2⟩, ?_⟩
                show _ = some (Obj.cells #[_, _, _, vals 22] _ _)
                rw [E12.out]
                exact set_block hnb 3 (.slice qa qn qc)
            case stopb =>
              refine end_plain [(1, some 52), (21, some 72), (22, some 73), (23, some 74), (24, none)] (by kernel_rfl) (by decide) (fun L vals olds w6 hall hR => ?_)
              simp only [List.all_cons, List.all_nil, Bool.and_true, Bool.and_eq_true] at hall
              obtain ⟨h1, h21, h22, h23, h24⟩ := hall
              obtain ⟨qa, qn, qc, e22, hrow, _⟩ := hR.p1 h22
              have hnb := hR.nx
              rw [h24, if_pos rfl, e22] at hnb
              have hO6 := hR.out
              simp only [fillL, List.set_cons_succ, List.set_cons_zero]
              clear hR h1 h21 h22 h23 h24 e22
              have HNB6 := Lib.hid hnb
              have HRW6 := Lib.hid hrow
              have HOU6 : Hid (Out2 X none w5 w6) := Lib.hid ⟨hO6.os.trans HOU.out.os, hO6.tape.trans HOU.out.tape, hO6.output.trans HOU.out.output, Nat.le_trans h5r hO6.size, fun k hk hn _ => (hO6.block k (by omega) hn (fun e => by have := howp k e.symm; omega)).trans (HOU.out.block k hk hn (by simp))⟩
              clear hnb hrow hO6
              go_wp2_with fail
              go_roundw
              case rel => exact ⟨q + 1, qa, qn, qc, by go_num, by omega, HNB6, Lib.hid (by rw [HTK.out]; simpa using HRW6.out), HOU6⟩
              case measure => simp [intOf]; omega
          · obtain rfl : q = M := by omega
            have n3 := (HCL.out wr HB2R.out).1.2.2.2
            obtain ⟨m0, m1, m2, m3, _, _, _, _⟩ := gcell4 HPX.out
            have hgb : wr.heap[w2.heap.size]? = some (grO oa on oc) := (HOU.out.block _ (by omega) (by omega) (by simp)).trans ((HB5.out.block _ hsz2).trans HGB.out)
            have g0 : wr.cell? ⟨w2.heap.size, 0, none⟩ = some (.slice oa on oc) := by simp [World.cell?, hgb]
            have hoo : ∀ k, (Value.slice oa on oc).ownBlock = some k → W3.heap.size ≤ k ∧ k < V.heap.size := fun k hk => HG.out.lt k hk
            have hkeepr : ∀ k, k < V.heap.size → wr.heap[k]? = V.heap[k]? := fun k hk => (HOU.out.block k (by omega) (by omega) (by simp)).trans (HB5.out.block k hk)
            have HGR : Hid (GRow 61 4 W3.heap.size wr (.slice oa on oc) (xs.map NV.cells)) := Lib.hid (HG.out.kept (fun k hk => hkeepr k (hoo k hk).2))
            have hxl : xs.length ≤ 2000 := by
              have h := congrArg List.length HM.out
              rw [List.length_map, List.length_take] at h
              omega
            have HGB' := Lib.hid hgb
            have HKR := Lib.hid hkeepr
            clear hgb hkeepr
            go_upto_region 12 with fail
            clear n3
            have hw23 : w2.heap.size < W3.heap.size := by have := HS3.out; omega
            go_wp2_with (at_builtin; refine wpList_appG gnodeElem rfl _ _ rfl rfl (HGR.out.alloc _) (some ⟨wr.heap.size, 0, none⟩) 1 1 [NV.cells ⟨⟨g.k, g.p, g.ls, g.nx⟩, .slice ya yn yc, .slice pa pn pc⟩] rfl rfl ?_ ?_ ?_ ?_ ?_ ?_)
            · intro e he; rw [List.mem_singleton.1 he]; rfl
            · exact src_new wr (NV.cells ⟨⟨g.k, g.p, g.ls, g.nx⟩, .slice ya yn yc, .slice pa pn pc⟩) _
            · intro e he u hu
              rw [List.mem_singleton.1 he] at hu
              simp only [NV.cells, List.mem_cons, List.not_mem_nil, or_false] at hu
              rcases hu with rfl | rfl | rfl | rfl <;> rfl
            · simp only [List.length_map, List.length_singleton]; omega
            · rw [World.size_alloc]; omega
            intro ga gn gc w7 hr7 hg7 hq7
            clear g0 m0 m1 m2 m3
            have h7s := hg7.size
            rw [World.size_alloc] at h7s
            have hk7 : ∀ k, k < wr.heap.size → some k ≠ (Value.slice oa on oc).ownBlock → w7.heap[k]? = wr.heap[k]? := fun k hk hn => (hg7.block k (by rw [World.size_alloc]; omega) hn).trans (Below.heap_alloc _ _ _ hk)
            have hgb7 : w7.heap[w2.heap.size]? = some (grO oa on oc) := (hk7 _ (by omega) (fun e => by have := hoo _ e.symm; omega)).trans HGB'.out
            have g7 : w7.cell? ⟨w2.heap.size, 0, none⟩ = some (.slice oa on oc) := by simp [World.cell?, hgb7]
            have f7 : w7.frozen? ⟨w2.heap.size, 0, none⟩ = false := frozen_of_block hgb7 0
            have HR7 := Lib.hid hr7
            have HQ7 := Lib.hid hq7
            have HK7 := Lib.hid hk7
            have HGB7 := Lib.hid hgb7
            have HG7 := Lib.hid hg7
            clear hr7 hq7 hk7 hgb7 hg7
            go_wp2_with fail
            go_roundw
            case rel =>
              have hst : ∀ k, k ≠ w2.heap.size → (w7.setCell ⟨w2.heap.size, 0, none⟩ (.slice ga gn gc)).heap[k]? = w7.heap[k]? := fun k hk => set_oth _ _ _ hk
              have hsz : (w7.setCell ⟨w2.heap.size, 0, none⟩ (.slice ga gn gc)).heap.size = w7.heap.size := by simp [World.setCell]
              have hgo : ∀ k, k < wr.heap.size → some k ≠ (Value.slice oa on oc).ownBlock → some k ≠ (Value.slice ga gn gc).ownBlock := fun k hk hne e => by
                rcases HQ7.out with h | h
                · exact hne (e.trans h)
                · have := Option.some.inj (e.trans h); omega
              refine ⟨j + 1, ga, gn, gc, xs ++ [⟨⟨g.k, g.p, g.ls, g.nx⟩, .slice ya yn yc, .slice pa pn pc⟩], by go_num, by omega, Lib.hid (set_block HGB7.out 0 _), Lib.hid ?_, Lib.hid (fun x hx => ?_), Lib.hid ?_, Lib.hid ?_, by rw [hsz]; omega⟩
              · have h := HR7.out.kept (W' := w7.setCell ⟨w2.heap.size, 0, none⟩ (.slice ga gn gc)) (fun k hk => hst k (by have := (HR7.out.lt k hk).1; omega))
                rw [List.map_append]; exact h
              · rcases List.mem_append.1 hx with hx | hx
                · refine ((HO.out x hx).keep (fun k _ hk ho _ => ?_)).mono (fun k hk => ⟨hk.1, by rw [hsz]; omega, hgo k (by omega) hk.2.2⟩)
                  exact (hst k (by omega)).trans ((HK7.out k (by omega) hk.2.2).trans ((HKR.out k hk.2.1).trans ho))
                · rw [List.mem_singleton.1 hx]
                  have hyk : ∀ k, (Value.slice ya yn yc).ownBlock = some k → V.heap.size ≤ k ∧ k < w5.heap.size := fun k hk => HROW.out.lt k hk
                  have hpk : ∀ k, (Value.slice pa pn pc).ownBlock = some k → w5.heap.size ≤ k ∧ k < wr.heap.size := fun k hk => HPR.out.lt k hk
                  have hyX : ∀ k, (Value.slice ya yn yc).ownBlock = some k → k ≠ X := fun k hk e => by
                    have h := HROW.out.ne HX2.out (by decide)
                    rw [← e] at h
                    exact h hk.symm
                  have hyr := HROW.out.kept (W' := w7.setCell ⟨w2.heap.size, 0, none⟩ (.slice ga gn gc)) (fun k hk => by
                    have h1 := hyk k hk
                    exact (hst k (by omega)).trans ((HK7.out k (by omega) (fun e => by have := hoo k e.symm; omega)).trans (HOU.out.block k (by omega) (hyX k hk) (by simp))))
                  have hpr := HPR.out.kept (W' := w7.setCell ⟨w2.heap.size, 0, none⟩ (.slice ga gn gc)) (fun k hk => by
                    have h1 := hpk k hk
                    exact (hst k (by omega)).trans (HK7.out k (by omega) (fun e => by have := hoo k e.symm; omega)))
                  have htk : g.nx.take q = g.nx := List.take_of_length_le (by rw [HM'.out]; exact Nat.le_refl _)
                  rw [htk] at hpr
                  refine ⟨strsB hyr (by simp only [maxLen]; omega) (HCL.out wr HB2R.out).2.2.2 (fun k hk => ?_), hpr.refsB (by rw [HM'.out]; simp only [maxLen]; omega) (fun k hk => ?_)⟩
                  · have h1 := hyk k hk
                    exact ⟨by omega, by rw [hsz]; omega, hgo k (by omega) (fun e => by have := hoo k e.symm; omega)⟩
                  · have h1 := hpk k hk
                    exact ⟨by omega, by rw [hsz]; omega, hgo k (by omega) (fun e => by have := hoo k e.symm; omega)⟩
              · rw [List.map_append, HM.out, take_snoc_get HGG.out]; rfl
              · exact ((HB2R.out.alloc (by omega) _).grown HG7.out (by rw [World.size_alloc]; omega) (fun k hk => by have := hoo k hk; omega)).setCell (p := ⟨w2.heap.size, 0, none⟩) (Nat.le_refl _) _
            case measure => simp [intOf]; omega
    · obtain rfl : j = mn := by omega
      have HMA : Hid (xs.map NV.g = ns) := Lib.hid (by rw [HM.out]; exact List.take_of_length_le (by rw [HNL.out]; exact Nat.le_refl _))
      clear HM
      go_wp2_with fail
      go_loopw [7, 11] (fun ov iv wr => ∃ (q : Nat) (ra : Option Addr) (rn rc : Nat), ov = .slice ra rn rc ∧ iv = .int .i64 q ∧ q ≤ sn ∧ Hid (GRow 37 2 V.heap.size wr (.slice ra rn rc) ((rs.take q).map refCells)) ∧ Hid (Below V.heap.size V wr)) (fun _ iv _ => sn - (intOf iv).toNat)
      case atStart => exact ⟨0, _, _, _, rfl, rfl, by omega, Lib.hid (by simpa using GRow.nil _ _ _ _), Lib.hid (Below.refl _ _)⟩
      case round =>
        obtain ⟨q, ra, rn, rc, rfl, rfl, hq, HR, HBR⟩ := hrel
        have hVr := HBR.out.size
        have h2V : w2.heap.size ≤ V.heap.size := by have := HS3.out; omega
        by_cases hlq : q < sn
        · obtain ⟨r, hr⟩ : ∃ r, rs[q]? = some r := ⟨_, List.getElem?_eq_getElem (by rw [← HSL.out]; exact hlq)⟩
          obtain ⟨rb, ro, rfl, hrr⟩ := HSRR.out q r hr
          have HSX : Hid (∀ W, Below V.heap.size V W → W.cell? ⟨rb, ro + q * 2, none⟩ = some (.int .i64 r.n) ∧ W.cell? ⟨rb, ro + q * 2 + 1, none⟩ = some (.int .i64 r.s)) := Lib.hid (fun W hW => hrr W (HBV.out.trans (hW.mono h2V)))
          have HTK := Lib.hid (take_snoc_get hr)
          clear hr hrr
          go_upto_region 16 with fail
          refine wp_region_held_drew (S := fun W => W.cell? ⟨rb, ro + q * 2, none⟩ = some (.int .i64 r.n) ∧ W.cell? ⟨rb, ro + q * 2 + 1, none⟩ = some (.int .i64 r.s)) (by kernel_rfl) (HSX.out wr HBR.out) (fun hHeld3 => ?_)
          refine wpAnyH_take_l 0 (v := ?vc0) rfl rfl (by kernel_rfl) (by kernel_rfl) (by kernel_rfl) (fun _ _ _ h => h) ?hc0 (by assumption) ?rc0
          case hc0 => (intro w hSw; (try dsimp only at hSw); go_simp; try rfl)
          case' rc0 => simp only [setD, List.set_cons_succ, List.set_cons_zero]
          refine wpAnyH_take_l 1 (v := ?vc1) rfl rfl (by kernel_rfl) (by kernel_rfl) (by kernel_rfl) (fun _ _ _ h => h) ?hc1 (by assumption) ?rc1
          case hc1 => (intro w hSw; (try dsimp only at hSw); go_simp; try rfl)
          case' rc1 => simp only [setD, List.set_cons_succ, List.set_cons_zero]
          refine wpAnyH_take_l 2 (v := ?vc2) rfl rfl (by kernel_rfl) (by kernel_rfl) (by kernel_rfl) (fun _ _ _ h => h) ?hc2 (by assumption) ?rc2
          case hc2 => (intro w hSw; (try dsimp only at hSw); go_simp; try rfl)
          case' rc2 => simp only [setD, List.set_cons_succ, List.set_cons_zero]
          refine wpAnyH_take_l 3 (v := ?vc3) rfl rfl (by kernel_rfl) (by kernel_rfl) (by kernel_rfl) (fun _ _ _ h => h) ?hc3 (by assumption) ?rc3
          case hc3 => (intro w hSw; (try dsimp only at hSw); go_simp; try rfl)
          case' rc3 => simp only [setD, List.set_cons_succ, List.set_cons_zero]
          refine wpAnyH_take_l 4 (v := ?vc4) rfl rfl (by kernel_rfl) (by kernel_rfl) (by kernel_rfl) (fun _ _ _ h => h) ?hc4 (by assumption) ?rc4
          case hc4 => (intro w hSw; (try dsimp only at hSw); go_simp; try rfl)
          case' rc4 => simp only [setD, List.set_cons_succ, List.set_cons_zero]
          refine wpAnyH_take_l 5 (v := ?vc5) rfl rfl (by kernel_rfl) (by kernel_rfl) (by kernel_rfl) (fun _ _ _ h => h) ?hc5 (by assumption) ?rc5
          case hc5 => (intro w hSw; (try dsimp only at hSw); go_simp; try rfl)
          case' rc5 => simp only [setD, List.set_cons_succ, List.set_cons_zero]
          refine wpAnyH_take_l 6 (v := ?vc6) rfl rfl (by kernel_rfl) (by kernel_rfl) (by kernel_rfl) (fun _ _ _ h => h) ?hc6 (by assumption) ?rc6
          case hc6 => (intro w hSw; (try dsimp only at hSw); go_simp; try rfl)
          case' rc6 => simp only [setD, List.set_cons_succ, List.set_cons_zero]
          refine wpAnyH_take_l 7 (v := ?vc7) rfl rfl (by kernel_rfl) (by kernel_rfl) (by kernel_rfl) (fun _ _ _ h => h) ?hc7 (by assumption) ?rc7
          case hc7 => (intro w hSw; (try dsimp only at hSw); go_simp; try rfl)
          case' rc7 => simp only [setD, List.set_cons_succ, List.set_cons_zero]
          refine wpAnyH_take_l 8 (v := ?vc8) rfl rfl (by kernel_rfl) (by kernel_rfl) (by kernel_rfl) (fun _ _ _ h => h) ?hc8 (by assumption) ?rc8
          case hc8 => (intro w hSw; (try dsimp only at hSw); go_simp; try rfl)
          case' rc8 => simp only [setD, List.set_cons_succ, List.set_cons_zero]
          refine wpAnyH_take_l 9 (v := ?vc9) rfl rfl (by kernel_rfl) (by kernel_rfl) (by kernel_rfl) (fun _ _ _ h => h) ?hc9 (by assumption) ?rc9
          case hc9 => (intro w hSw; (try dsimp only at hSw); go_simp; try rfl)
          case' rc9 => simp only [setD, List.set_cons_succ, List.set_cons_zero]
          refine wpAnyH_take_l 10 (v := ?vc10) rfl rfl (by kernel_rfl) (by kernel_rfl) (by kernel_rfl) (fun _ _ _ h => h) ?hc10 (by assumption) ?rc10
          case hc10 => (intro w hSw; (try dsimp only at hSw); go_simp; try rfl)
          case' rc10 => simp only [setD, List.set_cons_succ, List.set_cons_zero]
          refine wpAnyH_take_l 11 (v := ?vc11) rfl rfl (by kernel_rfl) (by kernel_rfl) (by kernel_rfl) (fun _ _ _ h => h) ?hc11 (by assumption) ?rc11
          case hc11 => (intro w hSw; (try dsimp only at hSw); go_simp; try rfl)
          case' rc11 => simp only [setD, List.set_cons_succ, List.set_cons_zero]
          refine wpAnyH_one 12 rfl rfl (by kernel_rfl) (fun K hK => ?_)
          have hK2 := hK.out
          clear hK
          simp only [setD, List.set_cons_succ, List.set_cons_zero] at hK2 ⊢
          go_simp
          have hba : ∀ o, Below V.heap.size V (wr.drew.alloc o) := fun o => HBR.out.drew.alloc (by show V.heap.size ≤ wr.heap.size; omega) o
          refine hK2 _ _ (HSX.out _ (hba _)) (fun _ => ?_)
          clear hK2 K
          refine wpAnyH_one 13 rfl rfl (by kernel_rfl) (fun K hK => ?_)
          have hK2 := hK.out
          clear hK
          simp only [setD, List.set_cons_succ, List.set_cons_zero] at hK2 ⊢
          refine wp_wanted (ops := #[]) rfl (step_appG grefElem (by rfl) _ _ (by rfl) (by rfl) (HR.out.drew.alloc _) (some ⟨wr.heap.size, 0, none⟩) 1 1 [refCells r] (by rfl) rfl (fun e he => by rw [List.mem_singleton.1 he]; rfl) (src_new wr.drew (refCells r) _) (fun e he u hu => by
            rw [List.mem_singleton.1 he] at hu
            simp only [refCells, List.mem_cons, List.not_mem_nil, or_false] at hu
            rcases hu with rfl | rfl <;> rfl) (by have : (rs.take q).length ≤ q := by rw [List.length_take]; omega
                                                  simp only [List.length_map, List.length_singleton]; omega) (by show V.heap.size ≤ (wr.alloc _).heap.size; rw [World.size_alloc]; omega) _ rfl ?_)
          intro ga gn gc w6 hr6 hg6 hq6
          have hb6 : Below V.heap.size V w6 := (hba _).grown hg6 (by show V.heap.size ≤ (wr.alloc _).heap.size; rw [World.size_alloc]; omega) (fun k hk => (HR.out.lt k hk).1)
          refine hK2 _ _ (HSX.out _ hb6) (fun _ => ?_)
          clear hK2 K hg6 hq6 hba
          have HB6 := Lib.hid hb6
          have HR6 := Lib.hid hr6
          clear hb6 hr6
          refine wpAnyH_take_l 14 (v := ?vc14) rfl rfl (by kernel_rfl) (by kernel_rfl) (by kernel_rfl) (fun _ _ _ h => h) ?hc14 (by assumption) ?rc14
          case hc14 => (intro w hSw; (try dsimp only at hSw); go_simp; try rfl)
          case' rc14 => simp only [setD, List.set_cons_succ, List.set_cons_zero]
          refine wpAnyH_done (by kernel_rfl) ?_ _
          clear hHeld3
          go_wp2_with fail
          go_roundw
          case rel => exact ⟨q + 1, ga, gn, gc, rfl, by go_num, by omega, Lib.hid (by rw [HTK.out]; simpa using HR6.out), HB6⟩
          case measure => simp [intOf]; omega
        · obtain rfl : q = sn := by omega
          have hgb : wr.heap[w2.heap.size]? = some (grO oa on oc) := (HBR.out.block _ (by have := HS3.out; omega)).trans HGB.out
          have hb2r : Below w2.heap.size w2 wr := HBV.out.trans (HBR.out.mono h2V)
          have hxw := HX1w.out wr hb2r
          have g0 : wr.cell? ⟨w2.heap.size, 0, none⟩ = some (.slice oa on oc) := by simp [World.cell?, hgb]
          have x0 : wr.cell? ⟨w.heap.size, 0, none⟩ = some (.slice none 0 0) := by simp [World.cell?, hxw]
          have x1 : wr.frozen? ⟨w.heap.size, 0, none⟩ = false := frozen_of_block hxw 0
          have HB2R := Lib.hid hb2r
          have HXW := Lib.hid hxw
          clear hgb hb2r hxw
          go_wp2_with fail
          clear g0 x0 x1
          obtain ⟨W9, hW9⟩ : ∃ W9, wr.setCell ⟨w.heap.size, 0, none⟩ (.slice oa on oc) = W9 := ⟨_, rfl⟩
          have hx9 : W9.heap[w.heap.size]? = some (grO oa on oc) := by rw [← hW9]; exact set_block HXW.out 0 _
          have hk9 : ∀ k, k ≠ w.heap.size → W9.heap[k]? = wr.heap[k]? := fun k hk => by rw [← hW9]; exact set_oth _ _ _ hk
          have hs9 : W9.heap.size = wr.heap.size := by rw [← hW9]; simp [World.setCell]
          have hbe : Below w.heap.size w W9 := by
            rw [← hW9]
            exact ((HB1.out.trans (HB2.out.mono (by have := HS1.out; omega))).trans (HB2R.out.mono (by omega))).setCell (p := ⟨w.heap.size, 0, none⟩) (Nat.le_refl _) _
          rw [hW9]
          clear hW9
          have c9 : W9.cell? ⟨w.heap.size, 0, none⟩ = some (.slice oa on oc) := by simp [World.cell?, hx9]
          refine bodyPost_ret (v := .tuple #[grV oa on oc, .slice ra rn rc]) (by simp [results, Tryz.results10, go_sem, c9, grV]) rfl ?_
          have h3 := HS3.out
          refine ⟨oa, on, oc, ra, rn, rc, rfl, ?_, ?_, hbe⟩
          · have hrow := HG.out.kept (W' := W9) (fun k hk => by
              have h1 := HG.out.lt k hk
              exact (hk9 k (by omega)).trans (HBR.out.block k h1.2))
            have hxl : xs.length ≤ maxLen := by
              have h := congrArg List.length HMA.out
              rw [List.length_map] at h
              have := HNL.out
              simp only [maxLen]; omega
            have h := hrow.nodes (fun x hx => (HO.out x hx).keep (fun k _ hk ho _ => (hk9 k (by omega)).trans ((HBR.out.block k hk.2.1).trans ho))) hxl
            rw [HMA.out] at h
            exact h.mono (fun k hk => by
              rcases hk with hk | hk
              · have := hk.2.1; omega
              · exact hk.2)
          · have ht : rs.take q = rs := List.take_of_length_le (by rw [HSL.out]; exact Nat.le_refl _)
            have hR9 := HR.out
            rw [ht] at hR9
            have hrow := hR9.kept (W' := W9) (fun k hk => hk9 k (by have := (hR9.lt k hk).1; omega))
            exact hrow.refsB (by rw [← HSL.out]; simp only [maxLen]; omega) (fun k hk => (hrow.lt k hk).2)
end Go.Proofs.YtjmnaibbljakaaaGreatDoor
