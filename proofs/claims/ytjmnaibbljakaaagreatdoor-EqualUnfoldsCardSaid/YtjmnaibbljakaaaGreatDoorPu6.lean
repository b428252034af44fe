/- Graphs: the reference's nodes of a TRec. (and what follows from it) -/
import Derived.Test.YtjmnaibbljakaaaGreatDoorPu5
import Derived.Deep.RegionHeld

/- Graphs: the reference's nodes of a TRec. -/
namespace Go.Proofs.YtjmnaibbljakaaaGreatDoor
open Go.RowKit Go.Deep Go.Shelf

/-- The nodes that a call answers: a list of its own. -/
def NodRes (b0 base : Nat) (gs : List GNode) (w : World) (v : Value) : Prop := ∃ (ra : Option Addr) (rn rc : Nat) (xs : List NV), v = .slice ra rn rc ∧ GRow 59 4 base w (.slice ra rn rc) (xs.map NV.cells) ∧ (∀ x ∈ xs, x.Ok (fun k => k < b0 ∨ (base ≤ k ∧ k < w.heap.size ∧ some k ≠ (Value.slice ra rn rc).ownBlock)) w) ∧ xs.map NV.g = gs
theorem NodRes.mono {b0 base base' : Nat} {gs : List GNode} {w : World} {v : Value} (h : NodRes b0 base gs w v) (hb : base' ≤ base) : NodRes b0 base' gs w v := by
  obtain ⟨ra, rn, rc, xs, e, h1, h2, h3⟩ := h
  exact ⟨ra, rn, rc, xs, e, h1.mono hb, fun x hx => (h2 x hx).mono (fun k hk => by
    rcases hk with hk | hk
    · exact .inl hk
    · exact .inr ⟨Nat.le_trans hb hk.1, hk.2⟩), h3⟩
/-- What nodes answers. -/
def RNodAt (t : Ty) : Prop := ∀ (b0 i : Nat) (env : GEnv) (v nv rv : Value) (w : World), b0 ≤ w.heap.size → i + t.size ≤ 1000000 → env.length + t.depth ≤ 900 → TyVal (fun k => k < b0) w v t → StrSl (fun k => k < w.heap.size) w nv (env.map (·.1)) → RefSl (fun k => k < w.heap.size) w rv (env.map (·.2)) → (∀ r ∈ env, -1000000 * (env.length : Int) ≤ r.2.s ∧ r.2.s ≤ 1000000 * (env.length : Int)) →
  Calls Tryz.prog 42 #[v, .int .i64 (i : Int), nv, rv] w fun e w' => ∃ v', e = .returned v' ∧ NodRes b0 w.heap.size (t.gnod i env) w' v' ∧ Below w.heap.size w w'
theorem gref_bound {B : Int} (hB : 0 ≤ B) (env : GEnv) (he : ∀ r ∈ env, -B ≤ r.2.s ∧ r.2.s ≤ B) (i : Nat) : ∀ t : Ty, t.sok → -(B + 1000000) ≤ (t.gref i env).s ∧ (t.gref i env).s ≤ B + 1000000 := by
  refine Ty.ind ?_
  intro k p n s ls ts ih h
  simp only [Ty.sok] at h
  rw [Ty.gref]
  by_cases h8 : k = 8
  · rw [if_pos h8]
    obtain ⟨u, rfl⟩ : ∃ u, ts = [u] := by
      match ts, h.2.1 h8 with
      | [u], _ => exact ⟨u, rfl⟩
    simp only [Ty.soks] at h
    rw [Ty.gref1]
    exact ih u (by simp) h.2.2.1
  · rw [if_neg h8]
    by_cases h9 : k = 9
    · rw [if_pos h9]
      have hlook : ∀ (l : GEnv) (r : GRef), lookE n l = some r → ∃ x, (x, r) ∈ l := by
        intro l
        induction l with
        | nil => intro r hr; cases hr
        | cons a l ih2 =>
          intro r hr
          obtain ⟨y, q⟩ := a
          rw [lookE] at hr
          cases hl : lookE n l with
          | some q' =>
            rw [hl] at hr
            obtain rfl := Option.some.inj hr
            obtain ⟨x, hx⟩ := ih2 _ hl
            exact ⟨x, by simp [hx]⟩
          | none =>
            rw [hl] at hr
            simp only at hr
            split at hr
            · obtain rfl := Option.some.inj hr
              exact ⟨y, by simp⟩
            · cases hr
      cases hl : lookE n env with
      | none => show -(B + 1000000) ≤ (0 : Int) ∧ (0 : Int) ≤ B + 1000000; omega
      | some r =>
        obtain ⟨x, hx⟩ := hlook env r hl
        have := he _ hx
        have := h.1
        show -(B + 1000000) ≤ r.s + s ∧ r.s + s ≤ B + 1000000
        simp only at *
        omega
    · rw [if_neg h9]
      show -(B + 1000000) ≤ (0 : Int) ∧ (0 : Int) ≤ B + 1000000
      omega

/-- The region that calls nodes for the Kid of a TRec. -/
structure R3 (b0 base : Nat) (w4 : World) (n : ByteArray) (names : List ByteArray) (r : GRef) (refs : List GRef) (gs : List GNode) (L : Nat → Bool) (vals : Nat → Value) (w : World) : Prop where
  below : Below base w4 w
  size : base ≤ w.heap.size
  dn : L 18 = true → L 5 = true ∧ L 7 = true ∧ L 10 = true ∧ L 11 = true ∧ L 12 = true ∧ L 14 = true ∧ L 16 = true ∧ L 17 = true
  de : L 19 = true → L 18 = true
  a : L 18 = false → Chain 9 1 base (strCells n) (names.map strCells) 5 7 10 11 L vals w
  b : L 18 = false → Chain 62 2 base (refCells r) (refs.map refCells) 12 14 16 17 L vals w
  c : L 18 = true → NodRes b0 base gs w (vals 18)
  e : L 19 = true → vals 19 = vals 18
section
variable {b0 base : Nat} {w4 : World} {n : ByteArray} {names : List ByteArray} {r : GRef} {refs : List GRef} {gs : List GNode} {L : Nat → Bool} {vals : Nat → Value} {w w' : World}
theorem R3.off (h : R3 b0 base w4 n names r refs gs L vals w) (hk : L 5 = false ∨ L 7 = false ∨ L 10 = false ∨ L 11 = false ∨ L 12 = false ∨ L 14 = false ∨ L 16 = false ∨ L 17 = false) : L 18 = false := by
  cases e : L 18 with
  | false => rfl
  | true =>
    obtain ⟨a, b, c, d, f, g, i, j⟩ := h.dn e
    rcases hk with h | h | h | h | h | h | h | h
    · rw [h] at a; cases a
    · rw [h] at b; cases b
    · rw [h] at c; cases c
    · rw [h] at d; cases d
    · rw [h] at f; cases f
    · rw [h] at g; cases g
    · rw [h] at i; cases i
    · rw [h] at j; cases j
theorem R3.put {k : Nat} {v : Value} (h : R3 b0 base w4 n names r refs gs L vals w) (k18 : 18 ≠ k) (k19 : 19 ≠ k) (f18 : L 18 = false) (hb : Below base w4 w') (hs : base ≤ w'.heap.size)
    (ha : Chain 9 1 base (strCells n) (names.map strCells) 5 7 10 11 (updL L k) (updV vals k v) w') (hc : Chain 62 2 base (refCells r) (refs.map refCells) 12 14 16 17 (updL L k) (updV vals k v) w') : R3 b0 base w4 n names r refs gs (updL L k) (updV vals k v) w' := by
  have e18 := (upd_off (L := L) (vals := vals) (v := v) k18).1
  have e19 := (upd_off (L := L) (vals := vals) (v := v) k19).1
  have f19 : L 19 = false := by
    cases e : L 19 with
    | false => rfl
    | true => rw [h.de e] at f18; cases f18
  rw [f18] at e18
  rw [f19] at e19
  refine ⟨hb, hs, ?_, ?_, fun _ => ha, fun _ => hc, ?_, ?_⟩
  · rw [e18]; intro a; cases a
  · rw [e19]; intro a; cases a
  · rw [e18]; intro a; cases a
  · rw [e19]; intro a; cases a
end

set_option maxHeartbeats 16000000 in
set_option maxRecDepth 100000 in
theorem rnod_8 (p s : Int) (n : ByteArray) (ls : List ByteArray) (u : Ty) (hsok : (Ty.mk 8 p n s ls [u]).sok) (ih : RNodAt u) : RNodAt (.mk 8 p n s ls [u]) := by
  intro b0 i env v nv rv w hb0 hi hd hv hn hr hb
  have hlies : Lies w v (.mk 8 p n s ls [u]) := TyVal.mono (C := fun k => k < w.heap.size) (fun k hk => Nat.lt_of_lt_of_le hk hb0) hv
  have g0 := hv
  obtain ⟨lv, kv, rfl, hnz, hl0, hk0⟩ := g0
  obtain ⟨la, ln, lc, rfl, _⟩ := hl0.open
  obtain ⟨ka, kn, kc, rfl, hkl, _, hkg⟩ := hk0.open
  obtain rfl : kn = 1 := hkl.out
  obtain ⟨na, nn, nc, rfl, hnl, _, _⟩ := hn.open
  obtain ⟨ra, rn, rc, rfl, hrl, _, _⟩ := hr.open
  dsimp only [Ty.k, Ty.p, Ty.n, Ty.s] at hnz ⊢
  have hdl : env.length + (u.depth + 1) ≤ 900 := by
    have h := hd
    rw [Ty.depth_eq] at h
    simp only [Ty.ts, Ty.depths] at h
    omega
  have hsl : i + (u.size + 1) ≤ 1000000 := by
    have h := hi
    rw [Ty.size_eq] at h
    simp only [Ty.ts, Ty.sizes] at h
    omega
  obtain ⟨W1, hW1⟩ : ∃ W1, w.alloc (.cells #[.int .i64 8, .int .i64 p, .string n, .int .i64 s, .slice la ln lc, .slice ka 1 kc] 25) = W1 := ⟨_, rfl⟩
  have hb1 : Below w.heap.size w W1 := by rw [← hW1]; exact blkBelow w _ _
  have hs1 : W1.heap.size = w.heap.size + 1 := by rw [← hW1]; simp
  have x1 : W1.heap[w.heap.size]? = some (.cells #[.int .i64 8, .int .i64 p, .string n, .int .i64 s, .slice la ln lc, .slice ka 1 kc] 25 (0, 0)) := by rw [← hW1]; exact World.alloc_heap_new _ _
  have HX1 := Lib.hid (fun (W : World) (hW : Below W1.heap.size W1 W) => six_cells ((hW.block _ (by omega)).trans x1))
  obtain ⟨kb, ko, rfl, hkb, hty⟩ := hkg 0 u rfl
  obtain ⟨la1, ln1, lc1, ka1, kn1, kc1, ⟨d0, d1, d2, d3, d4, d5⟩, hval⟩ := hty.load'
  simp only [Nat.zero_mul, Nat.add_zero] at d0 d1 d2 d3 d4 d5
  replace hkb : kb < w.heap.size := Nat.lt_of_lt_of_le hkb hb0
  have HCL := Lib.hid (fun (W : World) (hW : Below w.heap.size w W) => show W.cell? ⟨kb, ko, none⟩ = some (.int .i64 u.k) ∧ W.cell? ⟨kb, ko + 1, none⟩ = some (.int .i64 u.p) ∧ W.cell? ⟨kb, ko + 2, none⟩ = some (.string u.n) ∧ W.cell? ⟨kb, ko + 3, none⟩ = some (.int .i64 u.s) ∧ W.cell? ⟨kb, ko + 4, none⟩ = some (.slice la1 ln1 lc1) ∧ W.cell? ⟨kb, ko + 5, none⟩ = some (.slice ka1 kn1 kc1) from ⟨(hW.cell (p := ⟨kb, _, none⟩) hkb).trans d0, (hW.cell (p := ⟨kb, _, none⟩) hkb).trans d1, (hW.cell (p := ⟨kb, _, none⟩) hkb).trans d2, (hW.cell (p := ⟨kb, _, none⟩) hkb).trans d3, (hW.cell (p := ⟨kb, _, none⟩) hkb).trans d4, (hW.cell (p := ⟨kb, _, none⟩) hkb).trans d5⟩)
  have HVAL := Lib.hid (fun (W : World) (hW : Below w.heap.size w W) => (hval.keep (hW.keeps'.mono (fun k hk => Nat.lt_of_lt_of_le hk hb0))))
  have HN := Lib.hid (fun (W : World) (hW : Below w.heap.size w W) => (hn.keep (hW.keeps'.mono (fun k hk => hk))).mono (C := fun k => k < W.heap.size) (fun k hk => Nat.lt_of_lt_of_le hk hW.size))
  have HR := Lib.hid (fun (W : World) (hW : Below w.heap.size w W) => (hr.keep (hW.keeps'.mono (fun k hk => hk))).mono (C := fun k => k < W.heap.size) (fun k hk => Nat.lt_of_lt_of_le hk hW.size))
  have HB := Lib.hid hb
  have hb9 : ∀ r ∈ env, -1000000000 ≤ r.2.s ∧ r.2.s ≤ 1000000000 := fun r hr => by
    have := hb r hr
    have : (env.length : Int) ≤ 900 := by omega
    constructor <;> omega
  have HREF := Lib.hid (rref_any (Ty.mk 8 p n s ls [u]) hsok i env (.agg #[.int .i64 8, .int .i64 p, .string n, .int .i64 s, .slice la ln lc, .slice (some ⟨kb, ko, none⟩) 1 kc]) (.slice na nn nc) (.slice ra rn rc) W1 (by omega) (hlies.to hb1) (HN.out W1 hb1) (HR.out W1 hb1) hb9)
  obtain ⟨r, hrr⟩ : ∃ r, (Ty.mk 8 p n s ls [u]).gref i env = r := ⟨_, rfl⟩
  have hgb := gref_bound (B := 1000000 * (env.length : Int)) (by omega) env (fun r hr => by have := hb r hr; omega) i _ hsok
  rw [hrr] at hgb
  have HGB := Lib.hid hgb
  have HGN : Hid (u.gnod i (env ++ [(n, r)]) = (Ty.mk 8 p n s ls [u]).gnod i env) := Lib.hid (by
    rw [gref_8] at hrr
    conv => rhs; rw [Ty.gnod, if_pos rfl, Ty.gnod1, Ty.gref1, hrr])
  rw [hrr] at HREF
  have HB1 := Lib.hid hb1
  have HB0 := Lib.hid hb0
  have HW1 := Lib.hid hW1
  have HS1 := Lib.hid hs1
  have HNZ := Lib.hid hnz
  have HSOK := Lib.hid hsok
  have HIH := Lib.hid ih
  have HDL := Lib.hid hdl
  have HSL := Lib.hid hsl
  have HNL : Hid (nn = env.length) := Lib.hid (hnl.out.trans (by rw [List.length_map]))
  have HRL : Hid (rn = env.length) := Lib.hid (hrl.out.trans (by rw [List.length_map]))
  clear hlies hb0 hn hr hl0 hk0 hkl hkg hv hval hty x1 hb1 hW1 hrr hb hgb hnz hsok ih hdl hsl hi hd hnl hrl d0 d1 d2 d3 d4 d5
  obtain ⟨c0, c1, c2, c3, c4, c5⟩ := HX1.out W1 (Below.refl _ _)
  go_enter Tryz.func42, Tryz.ntmps42
  go_upto_region 1 with fail
  rw [show w.alloc (.cells #[.int .i64 8, .int .i64 p, .string n, .int .i64 s, .slice la ln lc, .slice (some ⟨kb, ko, none⟩) 1 kc] 25) = W1 from HW1.out]
  go_upto_region 3 with (go_at_call 41; go_loud (refine HREF.out.mono ?_; rintro en w3 ⟨rfl, hb3⟩; have HB3 := Lib.hid hb3; clear hb3))
  clear c0 c1 c2 c3 c4 c5
  obtain ⟨W4, hW4⟩ : ∃ W4, w3.alloc (.cells #[.int .i64 (r.n : Int), .int .i64 r.s] 62) = W4 := ⟨_, rfl⟩
  have hb4 : Below w3.heap.size w3 W4 := by rw [← hW4]; exact blkBelow w3 _ _
  have hs4 : W4.heap.size = w3.heap.size + 1 := by rw [← hW4]; simp
  have x4 : W4.heap[w3.heap.size]? = some (.cells #[.int .i64 (r.n : Int), .int .i64 r.s] 62 (0, 0)) := by rw [← hW4]; exact World.alloc_heap_new _ _
  have HB4 : Hid (Below W1.heap.size W1 W4) := Lib.hid (below_seq HB3.out hb4)
  have HBW : Hid (Below w.heap.size w W4) := Lib.hid (below_seq HB1.out HB4.out)
  have HS : Hid (∀ W, Below W4.heap.size W4 W → W.cell? ⟨w.heap.size, 5, none⟩ = some (.slice (some ⟨kb, ko, none⟩) 1 kc) ∧ W.cell? ⟨w.heap.size, 2, none⟩ = some (.string n) ∧ W.cell? ⟨kb, ko, none⟩ = some (.int .i64 u.k) ∧ W.cell? ⟨kb, ko + 1, none⟩ = some (.int .i64 u.p) ∧ W.cell? ⟨kb, ko + 2, none⟩ = some (.string u.n) ∧ W.cell? ⟨kb, ko + 3, none⟩ = some (.int .i64 u.s) ∧ W.cell? ⟨kb, ko + 4, none⟩ = some (.slice la1 ln1 lc1) ∧ W.cell? ⟨kb, ko + 5, none⟩ = some (.slice ka1 kn1 kc1) ∧ W.cell? ⟨w3.heap.size, 0, none⟩ = some (.int .i64 (r.n : Int)) ∧ W.cell? ⟨w3.heap.size, 1, none⟩ = some (.int .i64 r.s)) := Lib.hid (fun W hW => by
    obtain ⟨_, _, c2, _, _, c5⟩ := HX1.out W (below_seq HB4.out hW)
    obtain ⟨d0, d1, d2, d3, d4, d5⟩ := HCL.out W (below_seq HBW.out hW)
    obtain ⟨e0, e1, _, _⟩ := rbox_cells ((hW.block _ (by omega)).trans x4)
    exact ⟨c5, c2, d0, d1, d2, d3, d4, d5, e0, e1⟩)
  rw [hW4]
  clear hb4 hs4 x4 hW4
  have hone1 : ∀ e ∈ ([strCells n] : List (List Value)), ∀ u ∈ e, u.oneCell' = true := fun e he u hu => by
    rw [List.mem_singleton.1 he] at hu
    rw [List.mem_singleton.1 hu]; rfl
  have honeS : ∀ e ∈ (env.map (·.1)).map strCells, ∀ u ∈ e, u.oneCell' = true := fun e he u hu => by
    obtain ⟨x, _, rfl⟩ := List.mem_map.1 he
    rw [List.mem_singleton.1 hu]; rfl
  have honeR : ∀ e ∈ (env.map (·.2)).map refCells, ∀ u ∈ e, u.oneCell' = true := fun e he u hu => by
    obtain ⟨x, _, rfl⟩ := List.mem_map.1 he
    simp only [refCells, List.mem_cons, List.not_mem_nil, or_false] at hu
    rcases hu with rfl | rfl <;> rfl
  have hone2 : ∀ e ∈ ([refCells r] : List (List Value)), ∀ u ∈ e, u.oneCell' = true := fun e he u hu => by
    rw [List.mem_singleton.1 he] at hu
    simp only [refCells, List.mem_cons, List.not_mem_nil, or_false] at hu
    rcases hu with rfl | rfl <;> rfl
  have HONE := Lib.hid (And.intro hone1 (And.intro honeS (And.intro honeR hone2)))
  clear hone1 honeS honeR hone2
  refine wp_region_held_drew (S := fun W => W.cell? ⟨w.heap.size, 5, none⟩ = some (.slice (some ⟨kb, ko, none⟩) 1 kc) ∧ W.cell? ⟨w.heap.size, 2, none⟩ = some (.string n) ∧ W.cell? ⟨kb, ko, none⟩ = some (.int .i64 u.k) ∧ W.cell? ⟨kb, ko + 1, none⟩ = some (.int .i64 u.p) ∧ W.cell? ⟨kb, ko + 2, none⟩ = some (.string u.n) ∧ W.cell? ⟨kb, ko + 3, none⟩ = some (.int .i64 u.s) ∧ W.cell? ⟨kb, ko + 4, none⟩ = some (.slice la1 ln1 lc1) ∧ W.cell? ⟨kb, ko + 5, none⟩ = some (.slice ka1 kn1 kc1) ∧ W.cell? ⟨w3.heap.size, 0, none⟩ = some (.int .i64 (r.n : Int)) ∧ W.cell? ⟨w3.heap.size, 1, none⟩ = some (.int .i64 r.s)) (by kernel_rfl) (HS.out _ (Below.refl _ _).drew) (fun hHeld => ?_)
  refine wpAnyH_take_l 0 (v := ?v0) rfl rfl (by kernel_rfl) (by kernel_rfl) (by kernel_rfl) (fun _ _ _ h => h) ?h0 (by assumption) ?r0
  case h0 => (intro w hSw; (try dsimp only at hSw); go_simp; try rfl)
  case' r0 => simp only [setD, List.set_cons_succ, List.set_cons_zero]
  refine wpAnyH_take_l 1 (v := ?v1) rfl rfl (by kernel_rfl) (by kernel_rfl) (by kernel_rfl) (fun _ _ _ h => h) ?h1 (by assumption) ?r1
  case h1 => (intro w hSw; (try dsimp only at hSw); go_simp; try rfl)
  case' r1 => simp only [setD, List.set_cons_succ, List.set_cons_zero]
  refine wpAnyH_take_l 2 (v := ?v2) rfl rfl (by kernel_rfl) (by kernel_rfl) (by kernel_rfl) (fun _ _ _ h => h) ?h2 (by assumption) ?r2
  case h2 => (intro w hSw; (try dsimp only at hSw); go_simp; try rfl)
  case' r2 => simp only [setD, List.set_cons_succ, List.set_cons_zero]
  refine wpAnyH_take_l 3 (v := ?v3) rfl rfl (by kernel_rfl) (by kernel_rfl) (by kernel_rfl) (fun _ _ _ h => h) ?h3 (by assumption) ?r3
  case h3 => (intro w hSw; (try dsimp only at hSw); go_simp; try rfl)
  case' r3 => simp only [setD, List.set_cons_succ, List.set_cons_zero]
  refine wpAnyH_take_l 4 (v := ?v4) rfl rfl (by kernel_rfl) (by kernel_rfl) (by kernel_rfl) (fun _ _ _ h => h) ?h4 (by assumption) ?r4
  case h4 => (intro w hSw; (try dsimp only at hSw); go_simp; try rfl)
  case' r4 => simp only [setD, List.set_cons_succ, List.set_cons_zero]
  refine wpAnyH_take_l 6 (v := ?v6) rfl rfl (by kernel_rfl) (by kernel_rfl) (by kernel_rfl) (fun _ _ _ h => h) ?h6 (by assumption) ?r6
  case h6 => (intro w hSw; (try dsimp only at hSw); go_simp; try rfl)
  case' r6 => simp only [setD, List.set_cons_succ, List.set_cons_zero]
  refine wpAnyH_take_l 8 (v := ?v8) rfl rfl (by kernel_rfl) (by kernel_rfl) (by kernel_rfl) (fun _ _ _ h => h) ?h8 (by assumption) ?r8
  case h8 => (intro w hSw; (try dsimp only at hSw); go_simp; try rfl)
  case' r8 => simp only [setD, List.set_cons_succ, List.set_cons_zero]
  refine wpAnyH_take_l 9 (v := ?v9) rfl rfl (by kernel_rfl) (by kernel_rfl) (by kernel_rfl) (fun _ _ _ h => h) ?h9 (by assumption) ?r9
  case h9 => (intro w hSw; (try dsimp only at hSw); go_simp; try rfl)
  case' r9 => simp only [setD, List.set_cons_succ, List.set_cons_zero]
  refine wpAnyH_take_l 13 (v := ?v13) rfl rfl (by kernel_rfl) (by kernel_rfl) (by kernel_rfl) (fun _ _ _ h => h) ?h13 (by assumption) ?r13
  case h13 => (intro w hSw; (try dsimp only at hSw); go_simp; try rfl)
  case' r13 => simp only [setD, List.set_cons_succ, List.set_cons_zero]
  refine wpAnyH_take_l 15 (v := ?v15) rfl rfl (by kernel_rfl) (by kernel_rfl) (by kernel_rfl) (fun _ _ _ h => h) ?h15 (by assumption) ?r15
  case h15 => (intro w hSw; (try dsimp only at hSw); go_simp; try rfl)
  case' r15 => simp only [setD, List.set_cons_succ, List.set_cons_zero]
  refine wpAnyH_start [5, 7, 10, 11, 12, 14, 16, 17, 18, 19] (R3 b0 W4.heap.size W4 n (env.map (·.1)) r (env.map (·.2)) ((Ty.mk 8 p n s ls [u]).gnod i env)) (by kernel_rfl) (by kernel_rfl) (fun L vals W hR => HS.out _ hR.below) ?start ?steps ?stop
  case start => exact ⟨(Below.refl _ _).drew, Nat.le_refl _, fun h => (Bool.false_ne_true h).elim, fun h => (Bool.false_ne_true h).elim, fun _ => Chain.start _ _ _ _ _ _ _ _ _ _ _, fun _ => Chain.start _ _ _ _ _ _ _ _ _ _ _, fun h => (Bool.false_ne_true h).elim, fun h => (Bool.false_ne_true h).elim⟩
  case stop =>
    refine end_plain [(5, some 27), (7, some 29), (10, some 32), (11, some 33), (12, some 34), (14, some 36), (16, some 38), (17, some 39), (18, some 40), (19, some 8)] (by kernel_rfl) (by decide) (fun L vals olds wx hall hR => ?_)
    simp only [List.all_cons, List.all_nil, Bool.and_true, Bool.and_eq_true] at hall
    obtain ⟨h5, h7, h10, h11, h12, h14, h16, h17, h18, h19⟩ := hall
    have hc := hR.c h18
    have e19 := hR.e h19
    simp only [fillL, List.set_cons_succ, List.set_cons_zero, slotO_done h19, e19]
    have HRB := Lib.hid hR.below
    have HC := Lib.hid hc
    clear hR h5 h7 h10 h11 h12 h14 h16 h17 h18 h19 e19 hc
    go_wp2_with fail
    go_ret
    exact ⟨_, rfl, HC.out.mono HBW.out.size, below_seq HBW.out HRB.out⟩
  case steps =>
    refine List.forall_mem_cons.2 ⟨?_, List.forall_mem_cons.2 ⟨?_, List.forall_mem_cons.2 ⟨?_, List.forall_mem_cons.2 ⟨?_, List.forall_mem_cons.2 ⟨?_, List.forall_mem_cons.2 ⟨?_, List.forall_mem_cons.2 ⟨?_, List.forall_mem_cons.2 ⟨?_, List.forall_mem_cons.2 ⟨?_, List.forall_mem_cons.2 ⟨?_, fun _ h => by cases h⟩⟩⟩⟩⟩⟩⟩⟩⟩⟩
    · refine InvStep.list (k := 5) rfl rfl [] (by kernel_rfl) [(5, some 27), (7, some 29), (10, some 32), (11, some 33), (12, some 34), (14, some 36), (16, some 38), (17, some 39), (18, some 40), (19, some 8)] (by kernel_rfl) (by decide) (fun L vals olds wx hLk hdeps hR K hK => ?_)
      have hK2 := hK.out
      clear hK
      simp only [fillL, setD, List.set_cons_succ, List.set_cons_zero] at hK2 ⊢
      clear hdeps
      go_simp
      have f18 := hR.off (.inl hLk)
      have hw : ∀ (o : Obj) (t : TypeId) (B : Nat) (cs : Array Value), wx.heap[B]? = some (.cells cs t (0, 0)) → (wx.alloc o).heap[B]? = wx.heap[B]? := fun o t B cs hB => Below.heap_alloc _ _ _ (Array.getElem?_eq_some_iff.1 hB).1
      exact hK2 _ _ (hR.put (by decide) (by decide) f18 (hR.below.alloc hR.size _) (by simp; exact Nat.le_succ_of_le hR.size) ((hR.a f18).op0 (by decide) hLk hR.size) ((hR.b f18).frame 5 _ (by decide) (by simp) (hw _ _)))
    · refine InvStep.list (k := 7) rfl rfl [5] (by kernel_rfl) [(5, some 27), (7, some 29), (10, some 32), (11, some 33), (12, some 34), (14, some 36), (16, some 38), (17, some 39), (18, some 40), (19, some 8)] (by kernel_rfl) (by decide) (fun L vals olds wx hLk hdeps hR K hK => ?_)
      have hK2 := hK.out
      clear hK
      simp only [fillL, setD, List.set_cons_succ, List.set_cons_zero] at hK2 ⊢
      simp only [List.all_cons, List.all_nil, Bool.and_true] at hdeps
      have f18 := hR.off (.inr (.inl hLk))
      obtain ⟨b, e0, hrow, _⟩ := (hR.a f18).s0 hdeps hLk
      obtain ⟨hnn, hsrc⟩ := src_strs (HN.out wx (below_seq HBW.out hR.below))
      refine wp_wanted (ops := #[]) rfl (step_appG strElem (by rfl) _ _ (by rfl) (by exact (slotO_done hdeps).trans e0) hrow na nn nc ((env.map (·.1)).map strCells) (by rfl) hnn (fun e he => by obtain ⟨x, _, rfl⟩ := List.mem_map.1 he; rfl) hsrc HONE.out.2.1 (by have := HDL.out; simp; omega) hR.size ((env.map (·.1)).map strCells) rfl ?_)
      intro ga gn gc w' hrow' hgrow _
      exact hK2 _ _ (hR.put (by decide) (by decide) f18 (hR.below.grown hgrow hR.size (fun k e => (hrow.lt k e).1)) (Nat.le_trans hR.size hgrow.size) ((hR.a f18).op1 (by decide) hdeps hLk e0 hrow' hgrow) ((hR.b f18).frame 7 _ (by decide) hgrow.size (grown_other hrow hgrow (by decide))))
    · refine InvStep.list (k := 10) rfl rfl [] (by kernel_rfl) [(5, some 27), (7, some 29), (10, some 32), (11, some 33), (12, some 34), (14, some 36), (16, some 38), (17, some 39), (18, some 40), (19, some 8)] (by kernel_rfl) (by decide) (fun L vals olds wx hLk hdeps hR K hK => ?_)
      have hK2 := hK.out
      clear hK
      simp only [fillL, setD, List.set_cons_succ, List.set_cons_zero] at hK2 ⊢
      clear hdeps
      go_simp
      have f18 := hR.off (.inr (.inr (.inl hLk)))
      have hw : ∀ (o : Obj) (t : TypeId) (B : Nat) (cs : Array Value), wx.heap[B]? = some (.cells cs t (0, 0)) → (wx.alloc o).heap[B]? = wx.heap[B]? := fun o t B cs hB => Below.heap_alloc _ _ _ (Array.getElem?_eq_some_iff.1 hB).1
      exact hK2 _ _ (hR.put (by decide) (by decide) f18 (hR.below.alloc hR.size _) (by simp; exact Nat.le_succ_of_le hR.size) ((hR.a f18).op2 (by decide) hLk) ((hR.b f18).frame 10 _ (by decide) (by simp) (hw _ _)))
    · refine InvStep.list (k := 11) rfl rfl [7, 10] (by kernel_rfl) [(5, some 27), (7, some 29), (10, some 32), (11, some 33), (12, some 34), (14, some 36), (16, some 38), (17, some 39), (18, some 40), (19, some 8)] (by kernel_rfl) (by decide) (fun L vals olds wx hLk hdeps hR K hK => ?_)
      have hK2 := hK.out
      clear hK
      simp only [fillL, setD, List.set_cons_succ, List.set_cons_zero] at hK2 ⊢
      simp only [List.all_cons, List.all_nil, Bool.and_true, Bool.and_eq_true] at hdeps
      have f18 := hR.off (.inr (.inr (.inr (.inl hLk))))
      obtain ⟨xa, xn, xc, e1, hrow⟩ := (hR.a f18).s1 hdeps.1 hLk
      obtain ⟨B, e2, _, hBB⟩ := (hR.a f18).s2 hdeps.2 hLk
      refine wp_wanted (ops := #[]) rfl (step_appG strElem (by rfl) _ _ (by rfl) (by exact (slotO_done hdeps.1).trans e1) hrow (some ⟨B, 0, none⟩) 1 1 [strCells n] (by exact (slotO_done hdeps.2).trans e2) rfl (fun e he => by rw [List.mem_singleton.1 he]; rfl) (src_at hBB) HONE.out.1 (by have := HDL.out; simp; omega) hR.size ((env.map (·.1)).map strCells ++ [strCells n]) rfl ?_)
      intro ga gn gc w' hrow' hgrow _
      exact hK2 _ _ (hR.put (by decide) (by decide) f18 (hR.below.grown hgrow hR.size (fun k e => (hrow.lt k e).1)) (Nat.le_trans hR.size hgrow.size) ((hR.a f18).op3 (by decide) hdeps.1 hdeps.2 hrow') ((hR.b f18).frame 11 _ (by decide) hgrow.size (grown_other hrow hgrow (by decide))))
    · refine InvStep.list (k := 12) rfl rfl [] (by kernel_rfl) [(5, some 27), (7, some 29), (10, some 32), (11, some 33), (12, some 34), (14, some 36), (16, some 38), (17, some 39), (18, some 40), (19, some 8)] (by kernel_rfl) (by decide) (fun L vals olds wx hLk hdeps hR K hK => ?_)
      have hK2 := hK.out
      clear hK
      simp only [fillL, setD, List.set_cons_succ, List.set_cons_zero] at hK2 ⊢
      clear hdeps
      go_simp
      have f18 := hR.off (.inr (.inr (.inr (.inr (.inl hLk)))))
      have hw : ∀ (o : Obj) (t : TypeId) (B : Nat) (cs : Array Value), wx.heap[B]? = some (.cells cs t (0, 0)) → (wx.alloc o).heap[B]? = wx.heap[B]? := fun o t B cs hB => Below.heap_alloc _ _ _ (Array.getElem?_eq_some_iff.1 hB).1
      exact hK2 _ _ (hR.put (by decide) (by decide) f18 (hR.below.alloc hR.size _) (by simp; exact Nat.le_succ_of_le hR.size) ((hR.a f18).frame 12 _ (by decide) (by simp) (hw _ _)) ((hR.b f18).op0 (by decide) hLk hR.size))
    · refine InvStep.list (k := 14) rfl rfl [12] (by kernel_rfl) [(5, some 27), (7, some 29), (10, some 32), (11, some 33), (12, some 34), (14, some 36), (16, some 38), (17, some 39), (18, some 40), (19, some 8)] (by kernel_rfl) (by decide) (fun L vals olds wx hLk hdeps hR K hK => ?_)
      have hK2 := hK.out
      clear hK
      simp only [fillL, setD, List.set_cons_succ, List.set_cons_zero] at hK2 ⊢
      simp only [List.all_cons, List.all_nil, Bool.and_true] at hdeps
      have f18 := hR.off (.inr (.inr (.inr (.inr (.inr (.inl hLk))))))
      obtain ⟨b, e0, hrow, _⟩ := (hR.b f18).s0 hdeps hLk
      obtain ⟨hnn, hsrc⟩ := src_refs (HR.out wx (below_seq HBW.out hR.below))
      refine wp_wanted (ops := #[]) rfl (step_appG rrefElem (by rfl) _ _ (by rfl) (by exact (slotO_done hdeps).trans e0) hrow ra rn rc ((env.map (·.2)).map refCells) (by rfl) hnn (fun e he => by obtain ⟨x, _, rfl⟩ := List.mem_map.1 he; rfl) hsrc HONE.out.2.2.1 (by have := HDL.out; simp; omega) hR.size ((env.map (·.2)).map refCells) rfl ?_)
      intro ga gn gc w' hrow' hgrow _
      exact hK2 _ _ (hR.put (by decide) (by decide) f18 (hR.below.grown hgrow hR.size (fun k e => (hrow.lt k e).1)) (Nat.le_trans hR.size hgrow.size) ((hR.a f18).frame 14 _ (by decide) hgrow.size (grown_other hrow hgrow (by decide))) ((hR.b f18).op1 (by decide) hdeps hLk e0 hrow' hgrow))
    · refine InvStep.list (k := 16) rfl rfl [] (by kernel_rfl) [(5, some 27), (7, some 29), (10, some 32), (11, some 33), (12, some 34), (14, some 36), (16, some 38), (17, some 39), (18, some 40), (19, some 8)] (by kernel_rfl) (by decide) (fun L vals olds wx hLk hdeps hR K hK => ?_)
      have hK2 := hK.out
      clear hK
      simp only [fillL, setD, List.set_cons_succ, List.set_cons_zero] at hK2 ⊢
      clear hdeps
      go_simp
      have f18 := hR.off (.inr (.inr (.inr (.inr (.inr (.inr (.inl hLk)))))))
      have hw : ∀ (o : Obj) (t : TypeId) (B : Nat) (cs : Array Value), wx.heap[B]? = some (.cells cs t (0, 0)) → (wx.alloc o).heap[B]? = wx.heap[B]? := fun o t B cs hB => Below.heap_alloc _ _ _ (Array.getElem?_eq_some_iff.1 hB).1
      exact hK2 _ _ (hR.put (by decide) (by decide) f18 (hR.below.alloc hR.size _) (by simp; exact Nat.le_succ_of_le hR.size) ((hR.a f18).frame 16 _ (by decide) (by simp) (hw _ _)) ((hR.b f18).op2 (by decide) hLk))
    · refine InvStep.list (k := 17) rfl rfl [14, 16] (by kernel_rfl) [(5, some 27), (7, some 29), (10, some 32), (11, some 33), (12, some 34), (14, some 36), (16, some 38), (17, some 39), (18, some 40), (19, some 8)] (by kernel_rfl) (by decide) (fun L vals olds wx hLk hdeps hR K hK => ?_)
      have hK2 := hK.out
      clear hK
      simp only [fillL, setD, List.set_cons_succ, List.set_cons_zero] at hK2 ⊢
      simp only [List.all_cons, List.all_nil, Bool.and_true, Bool.and_eq_true] at hdeps
      have f18 := hR.off (.inr (.inr (.inr (.inr (.inr (.inr (.inr (hLk))))))))
      obtain ⟨xa, xn, xc, e1, hrow⟩ := (hR.b f18).s1 hdeps.1 hLk
      obtain ⟨B, e2, _, hBB⟩ := (hR.b f18).s2 hdeps.2 hLk
      refine wp_wanted (ops := #[]) rfl (step_appG rrefElem (by rfl) _ _ (by rfl) (by exact (slotO_done hdeps.1).trans e1) hrow (some ⟨B, 0, none⟩) 1 1 [refCells r] (by exact (slotO_done hdeps.2).trans e2) rfl (fun e he => by rw [List.mem_singleton.1 he]; rfl) (src_at hBB) HONE.out.2.2.2 (by have := HDL.out; simp; omega) hR.size ((env.map (·.2)).map refCells ++ [refCells r]) rfl ?_)
      intro ga gn gc w' hrow' hgrow _
      exact hK2 _ _ (hR.put (by decide) (by decide) f18 (hR.below.grown hgrow hR.size (fun k e => (hrow.lt k e).1)) (Nat.le_trans hR.size hgrow.size) ((hR.a f18).frame 17 _ (by decide) hgrow.size (grown_other hrow hgrow (by decide))) ((hR.b f18).op3 (by decide) hdeps.1 hdeps.2 hrow'))
    · refine InvStep.list (k := 18) rfl rfl [11, 17] (by kernel_rfl) [(5, some 27), (7, some 29), (10, some 32), (11, some 33), (12, some 34), (14, some 36), (16, some 38), (17, some 39), (18, some 40), (19, some 8)] (by kernel_rfl) (by decide) (fun L vals olds wx hLk hdeps hR K hK => ?_)
      have hK2 := hK.out
      clear hK
      simp only [fillL, setD, List.set_cons_succ, List.set_cons_zero] at hK2 ⊢
      simp only [List.all_cons, List.all_nil, Bool.and_true, Bool.and_eq_true] at hdeps
      have ca := hR.a hLk
      have cb := hR.b hLk
      obtain ⟨xa, xn, xc, e11, hrowA⟩ := ca.s3 hdeps.1
      obtain ⟨ya, yn, yc, e17, hrowB⟩ := cb.s3 hdeps.2
      have hdn : L 5 = true ∧ L 7 = true ∧ L 10 = true ∧ L 11 = true ∧ L 12 = true ∧ L 14 = true ∧ L 16 = true ∧ L 17 = true := ⟨ca.d1 (ca.d3 hdeps.1).1, (ca.d3 hdeps.1).1, (ca.d3 hdeps.1).2, hdeps.1, cb.d1 (cb.d3 hdeps.2).1, (cb.d3 hdeps.2).1, (cb.d3 hdeps.2).2, hdeps.2⟩
      have es11 := (slotO_done (vals := vals) (olds := olds) hdeps.1).trans e11
      have es17 := (slotO_done (vals := vals) (olds := olds) hdeps.2).trans e17
      simp only [es11, es17] at hK2 ⊢
      have hwx : Below w.heap.size w wx := below_seq HBW.out hR.below
      have hsA : StrSl (fun k => k < wx.heap.size) wx (.slice xa xn xc) ((env ++ [(n, r)]).map (·.1)) := by
        have h : GRow 9 1 W4.heap.size wx (.slice xa xn xc) (((env ++ [(n, r)]).map (·.1)).map strCells) := by simpa using hrowA
        refine (h.strs (by have := HDL.out; simp [maxLen]; omega) (fun s hs => ?_)).mono (fun k hk => hk.2)
        rw [List.map_append] at hs
        rcases List.mem_append.1 hs with hs | hs
        · exact (HN.out wx hwx).2.2 s hs
        · have : s = n := by simpa using hs
          rw [this]; exact HNZ.out
      have hsB : RefSl (fun k => k < wx.heap.size) wx (.slice ya yn yc) ((env ++ [(n, r)]).map (·.2)) := by
        have h : GRow 62 2 W4.heap.size wx (.slice ya yn yc) (((env ++ [(n, r)]).map (·.2)).map refCells) := by simpa using hrowB
        exact (h.refs (by have := HDL.out; simp [maxLen]; omega)).mono (fun k hk => hk.2)
      have HCALL := Lib.hid (HIH.out b0 i (env ++ [(n, r)]) _ (.slice xa xn xc) (.slice ya yn yc) wx (Nat.le_trans HB0.out hwx.size) (by have := HSL.out; omega) (by have := HDL.out; simp; omega) (HVAL.out wx hwx) hsA hsB (fun q hq => by
        have hlen : ((env ++ [(n, r)]).length : Int) = (env.length : Int) + 1 := by simp
        rw [hlen]
        rcases List.mem_append.1 hq with hq | hq
        · have := HB.out q hq; constructor <;> omega
        · have e : q = (n, r) := by simpa using hq
          have := HGB.out
          rw [e]
          constructor <;> (simp only; omega)))
      rw [HGN.out] at HCALL
      clear hsA hsB hrowA hrowB e11 e17 es11 es17 ca cb
      go_simp
      refine HCALL.out.mono ?_
      rintro en w7 ⟨v7, rfl, hres, hb7⟩
      dsimp only
      have f19 : L 19 = false := by
        cases e : L 19 with
        | false => rfl
        | true => rw [hR.de e] at hLk; cases hLk
      refine hK2 _ _ ⟨hR.below.trans (hb7.mono hR.size), Nat.le_trans hR.size hb7.size, fun _ => hdn, ?_, fun h => ?_, fun h => ?_, fun _ => ?_, fun h => ?_⟩
      · intro h
        exact updL_same _ _
      · rw [updL_same] at h; cases h
      · rw [updL_same] at h; cases h
      · rw [updV_same]; exact hres.mono hR.size
      · rw [(upd_off (L := L) (vals := vals) (v := v7) (show (19 : Nat) ≠ 18 by decide)).1, f19] at h; cases h
    · refine InvStep.list (k := 19) rfl rfl [18] (by kernel_rfl) [(5, some 27), (7, some 29), (10, some 32), (11, some 33), (12, some 34), (14, some 36), (16, some 38), (17, some 39), (18, some 40), (19, some 8)] (by kernel_rfl) (by decide) (fun L vals olds wx hLk hdeps hR K hK => ?_)
      have hK2 := hK.out
      clear hK
      simp only [fillL, setD, List.set_cons_succ, List.set_cons_zero] at hK2 ⊢
      simp only [List.all_cons, List.all_nil, Bool.and_true] at hdeps
      obtain ⟨xa, xn, xc, xs, e18, hrow, hok, hmap⟩ := hR.c hdeps
      have es := (slotO_done (vals := vals) (olds := olds) hdeps).trans e18
      simp only [es] at hK2 ⊢
      clear es
      have E18 := Lib.hid e18
      clear e18 hrow hok hmap
      go_simp
      obtain ⟨rB, rZ, rD, rE, rA, rC, rR, rF⟩ := hR
      have e1 := (upd_off (L := L) (vals := vals) (v := .slice xa xn xc) (show (18 : Nat) ≠ 19 by decide))
      refine hK2 _ _ ⟨rB, rZ, fun _ => rD hdeps, fun _ => ?_, fun h => ?_, fun h => ?_, fun _ => ?_, fun _ => ?_⟩
      · rw [e1.1]; exact hdeps
      · rw [e1.1, hdeps] at h; cases h
      · rw [e1.1, hdeps] at h; cases h
      · rw [(upd_off (L := L) (vals := vals) (v := .slice xa xn xc) (show (18 : Nat) ≠ 19 by decide)).2]; exact rR hdeps
      · rw [updV_same, (upd_off (L := L) (vals := vals) (v := .slice xa xn xc) (show (18 : Nat) ≠ 19 by decide)).2, E18.out]
end Go.Proofs.YtjmnaibbljakaaaGreatDoor
