/- Graphs: the reference's nodes of a type with Kids, and of any type. (and what follows from it) -/
import Derived.Test.YtjmnaibbljakaaaGreatDoorPu6

/- Graphs: the reference's nodes of a type with Kids, and of any type. -/
namespace Go.Proofs.YtjmnaibbljakaaaGreatDoor
open Go.RowKit Go.Deep Go.Shelf

/-- What a stretch of the program leaves alone: all blocks but one and a list's own. -/
structure Out2 (nb : Nat) (row : Option Nat) (V w : World) : Prop where
  os : w.os = V.os
  tape : w.tape = V.tape
  output : w.output = V.output
  size : V.heap.size ≤ w.heap.size
  block : ∀ k, k < V.heap.size → k ≠ nb → some k ≠ row → w.heap[k]? = V.heap[k]?
section
variable {nb : Nat} {row : Option Nat} {V w w' : World}
theorem Out2.refl (nb : Nat) (row : Option Nat) (V : World) : Out2 nb row V V := ⟨rfl, rfl, rfl, Nat.le_refl _, fun _ _ _ _ => rfl⟩
theorem Out2.drew (h : Out2 nb row V w) : Out2 nb row V w.drew := ⟨h.os, h.tape, h.output, h.size, h.block⟩
theorem Out2.to (h : Out2 nb row V w) (hb : Below w.heap.size w w') : Out2 nb row V w' := ⟨hb.os.trans h.os, hb.tape.trans h.tape, hb.output.trans h.output, Nat.le_trans h.size hb.size, fun k hk hn hr => (hb.block k (Nat.lt_of_lt_of_le hk h.size)).trans (h.block k hk hn hr)⟩
theorem Out2.grown {row' : Option Nat} (h : Out2 nb row V w) (hg : w.grownBy w' row') (hr : row' = row ∨ ∀ k, row' = some k → V.heap.size ≤ k) : Out2 nb row V w' := ⟨hg.os.trans h.os, hg.tape.trans h.tape, hg.output.trans h.output, Nat.le_trans h.size hg.size, fun k hk hn hr' => (hg.block k (Nat.lt_of_lt_of_le hk h.size) (fun e => by
  rcases hr with hr | hr
  · exact hr' (e.trans hr)
  · have := hr k e.symm; omega)).trans (h.block k hk hn hr')⟩
theorem Out2.store (h : Out2 nb row V w) (i : Nat) (v : Value) : Out2 nb row V (w.setCell ⟨nb, i, none⟩ v) := ⟨h.os, h.tape, h.output, by simpa [World.setCell] using h.size, fun k hk hn hr => (set_oth w i v hn).trans (h.block k hk hn hr)⟩
theorem Out2.below {B : Nat} (h : Out2 nb row V w) (hn : B ≤ nb) (hr : ∀ k, row = some k → B ≤ k) (hB : B ≤ V.heap.size) : Below B V w := ⟨h.os, h.tape, h.output, h.size, fun k hk => h.block k (by omega) (by omega) (fun e => by have := hr k e.symm; omega)⟩
theorem Out2.keeps {B : Nat → Prop} (h : Out2 nb row V w) (hB : ∀ k, B k → k < V.heap.size ∧ k ≠ nb ∧ some k ≠ row) : Keeps B V w := fun k _ hk ho _ => (h.block k (hB k hk).1 (hB k hk).2.1 (hB k hk).2.2).trans ho
end

/-- The region that appends a reference to the node's list. -/
structure R12 (nb base : Nat) (c0 c1 c2 : Value) (pa : Option Addr) (pn pc : Nat) (es : List (List Value)) (r : GRef) (V : World) (L : Nat → Bool) (vals : Nat → Value) (w : World) : Prop where
  dn : (L 11 = true → L 10 = true) ∧ (L 12 = true → L 11 = true ∧ L 1 = true) ∧ (L 14 = true → L 12 = true ∧ L 13 = true)
  out : Out2 nb (Value.slice pa pn pc).ownBlock V w
  v1 : L 1 = true → vals 1 = .slice pa pn pc
  v10 : L 10 = true → vals 10 = .agg #[.int .i64 (r.n : Int), .int .i64 r.s]
  v13 : L 13 = true → vals 13 = .pointer (some ⟨nb, 3, none⟩)
  v11 : L 11 = true → L 12 = false → ∃ B, vals 11 = .slice (some ⟨B, 0, none⟩) 1 1 ∧ B < w.heap.size ∧ V.heap.size ≤ B ∧ w.heap[B]? = some (.cells (refCells r).toArray 62 (0, 0))
  p0 : L 12 = false → GRow 62 2 base w (.slice pa pn pc) es
  p1 : L 12 = true → ∃ qa qn qc, vals 12 = .slice qa qn qc ∧ GRow 62 2 base w (.slice qa qn qc) (es ++ [refCells r]) ∧ ((Value.slice qa qn qc).ownBlock = (Value.slice pa pn pc).ownBlock ∨ ∀ k, (Value.slice qa qn qc).ownBlock = some k → V.heap.size ≤ k)
  nx : w.heap[nb]? = some (.cells #[c0, c1, c2, if L 14 = true then vals 12 else .slice pa pn pc] 59 (0, 0))
theorem gnods_snoc (env : GEnv) {t : Ty} : ∀ (ts : List Ty) (i j : Nat), ts[j]? = some t → Ty.gnods i env (ts.take (j + 1)) = Ty.gnods i env (ts.take j) ++ t.gnod (i + Ty.gcnts (ts.take j)) env
  | [], _, _, h => by cases h
  | u :: r, i, 0, h => by
    obtain rfl : u = t := by simpa using h
    simp [Ty.gnods, Ty.gcnts]
  | u :: r, i, j + 1, h => by
    rw [List.take_succ_cons, List.take_succ_cons, Ty.gnods, Ty.gnods, Ty.gcnts, gnods_snoc env r (i + u.gcnt) j (by simpa using h), List.append_assoc, Nat.add_assoc]
theorem grefs_snoc (env : GEnv) {t : Ty} : ∀ (ts : List Ty) (i j : Nat), ts[j]? = some t → Ty.grefs i env (ts.take (j + 1)) = Ty.grefs i env (ts.take j) ++ [t.gref (i + Ty.gcnts (ts.take j)) env]
  | [], _, _, h => by cases h
  | u :: r, i, 0, h => by
    obtain rfl : u = t := by simpa using h
    simp [Ty.grefs, Ty.gcnts]
  | u :: r, i, j + 1, h => by
    rw [List.take_succ_cons, List.take_succ_cons, Ty.grefs, Ty.grefs, Ty.gcnts, grefs_snoc env r (i + u.gcnt) j (by simpa using h), List.cons_append, Nat.add_assoc]
theorem grefs_len (env : GEnv) : ∀ (l : List Ty) (i : Nat), (Ty.grefs i env l).length = l.length
  | [], _ => rfl
  | t :: l, i => by rw [Ty.grefs, List.length_cons, List.length_cons, grefs_len env l]
theorem gnod_len : ∀ (t : Ty) (i : Nat) (env : GEnv), (t.gnod i env).length ≤ t.size := by
  refine Ty.ind ?_
  intro k p n s ls ts ih i env
  have h3 : ∀ (l : List Ty) (i : Nat) (env : GEnv), (∀ t ∈ l, t ∈ ts) → (Ty.gnods i env l).length ≤ Ty.sizes l := by
    intro l
    induction l with
    | nil => intro i env _; simp [Ty.gnods]
    | cons t r ihl =>
      intro i env hm
      rw [Ty.gnods, List.length_append, Ty.sizes]
      have := ih t (hm t (by simp)) i env
      have := ihl (i + t.gcnt) env (fun u hu => hm u (by simp [hu]))
      omega
  rw [Ty.gnod, Ty.size]
  split
  · have h1 : ∀ env, (Ty.gnod1 i env ts).length ≤ Ty.sizes ts := by
      intro env
      match ts, ih with
      | [], _ => simp [Ty.gnod1]
      | u :: r, ih =>
        rw [Ty.gnod1, Ty.sizes]
        have := ih u (by simp) i env
        omega
    have := h1 (env ++ [(n, Ty.gref1 i env ts)])
    omega
  · split
    · simp
    · rw [List.length_cons]
      have := h3 ts (i + 1) env (fun _ h => h)
      omega

set_option maxHeartbeats 4000000 in
set_option maxRecDepth 100000 in
theorem rnod_9 (p s : Int) (n : ByteArray) (ls : List ByteArray) (ts : List Ty) : RNodAt (.mk 9 p n s ls ts) := by
  intro b0 i env v nv rv w hb0 hi hd hv hn hr hb
  obtain ⟨lv, kv, rfl, _, _, _⟩ := hv
  have hg : (Ty.mk 9 p n s ls ts).gnod i env = [] := by rw [Ty.gnod, if_neg (by decide), if_pos rfl]
  rw [hg]
  dsimp only [Ty.k, Ty.p, Ty.n, Ty.s]
  obtain ⟨W1, hW1⟩ : ∃ W1, w.alloc (.cells #[.int .i64 9, .int .i64 p, .string n, .int .i64 s, lv, kv] 25) = W1 := ⟨_, rfl⟩
  have hb1 : Below w.heap.size w W1 := by rw [← hW1]; exact blkBelow w _ _
  have x1 : W1.heap[w.heap.size]? = some (.cells #[.int .i64 9, .int .i64 p, .string n, .int .i64 s, lv, kv] 25 (0, 0)) := by rw [← hW1]; exact World.alloc_heap_new _ _
  obtain ⟨c0, _, _, _, _, _⟩ := six_cells x1
  have HB1 := Lib.hid hb1
  have HW1 := Lib.hid hW1
  clear hn hr hb x1 hb1 hW1 hg
  go_enter Tryz.func42, Tryz.ntmps42
  go_upto_region 1 with fail
  rw [show w.alloc (.cells #[.int .i64 9, .int .i64 p, .string n, .int .i64 s, lv, kv] 25) = W1 from HW1.out]
  go_wp2_with fail
  go_ret
  exact ⟨_, rfl, ⟨none, 0, 0, [], rfl, GRow.nil _ _ _ _, (fun x hx => by cases hx), rfl⟩, HB1.out⟩

set_option maxHeartbeats 16000000 in
set_option maxRecDepth 100000 in
theorem rnod_k (t : Ty) (hsok : t.sok) (h8 : t.k ≠ 8) (h9 : t.k ≠ 9) (ih : ∀ u ∈ t.ts, RNodAt u) : RNodAt t := by
  intro b0 i env v nv rv w hb0 hi hd hv hn hr hb
  obtain ⟨lv, kv, rfl, _, hl0, hk0⟩ := hv
  have hl1 := hl0
  obtain ⟨la, ln, lc, rfl, _⟩ := hl1.open
  obtain ⟨ka, kn, kc, rfl, hkl, hkm, hkg⟩ := hk0.open
  have hgn : t.gnod i env = ⟨t.k, t.p, t.ls, Ty.grefs (i + 1) env t.ts⟩ :: Ty.gnods (i + 1) env t.ts := by
    cases t
    simp only [Ty.k] at h8 h9
    rw [Ty.gnod, if_neg h8, if_neg h9]
    rfl
  have hdl : env.length + (Ty.depths t.ts + 1) ≤ 900 := by
    have h := hd
    rw [Ty.depth_eq] at h
    omega
  have hsl : i + (Ty.sizes t.ts + 1) ≤ 1000000 := by
    have h := hi
    rw [Ty.size_eq] at h
    omega
  have hsoks : Ty.soks t.ts := by
    cases t
    simp only [Ty.sok] at hsok
    exact hsok.2.2
  obtain ⟨W1, hW1⟩ : ∃ W1, w.alloc (.cells #[.int .i64 t.k, .int .i64 t.p, .string t.n, .int .i64 t.s, .slice la ln lc, .slice ka kn kc] 25) = W1 := ⟨_, rfl⟩
  have hb1 : Below w.heap.size w W1 := by rw [← hW1]; exact blkBelow w _ _
  have hs1 : W1.heap.size = w.heap.size + 1 := by rw [← hW1]; simp
  have x1 : W1.heap[w.heap.size]? = some (.cells #[.int .i64 t.k, .int .i64 t.p, .string t.n, .int .i64 t.s, .slice la ln lc, .slice ka kn kc] 25 (0, 0)) := by rw [← hW1]; exact World.alloc_heap_new _ _
  obtain ⟨W2, hW2⟩ : ∃ W2, W1.alloc (.cells #[.int .i64 t.k, .int .i64 t.p, .slice la ln lc, .slice none 0 0] 59) = W2 := ⟨_, rfl⟩
  have hb2 : Below W1.heap.size W1 W2 := by rw [← hW2]; exact blkBelow W1 _ _
  have hs2 : W2.heap.size = w.heap.size + 2 := by rw [← hW2]; simp [hs1]
  have x2 : W2.heap[w.heap.size + 1]? = some (.cells #[.int .i64 t.k, .int .i64 t.p, .slice la ln lc, .slice none 0 0] 59 (0, 0)) := by rw [← hW2, ← hs1]; exact World.alloc_heap_new _ _
  have hb12 : Below (w.heap.size + 1) W1 W2 := by rw [← hs1]; exact hb2
  have hbw : Below w.heap.size w W2 := below_seq hb1 hb2
  have hall : ∀ W, Below (w.heap.size + 1) W2 W → Below w.heap.size w W := fun W hW => hbw.trans (hW.mono (by omega))
  have HX1 := Lib.hid (fun (W : World) (hW : Below (w.heap.size + 1) W2 W) => six_cells ((hW.block _ (by omega)).trans ((hb12.block _ (by omega)).trans x1)))
  have HKG : Hid (∀ W, Below (w.heap.size + 1) W2 W → ∀ j u, t.ts[j]? = some u → ∃ kb ko lv' kv', ka = some ⟨kb, ko, none⟩ ∧ (W.cell? ⟨kb, ko + j * 6, none⟩ = some (.int .i64 u.k) ∧ W.cell? ⟨kb, ko + j * 6 + 1, none⟩ = some (.int .i64 u.p) ∧ W.cell? ⟨kb, ko + j * 6 + 2, none⟩ = some (.string u.n) ∧ W.cell? ⟨kb, ko + j * 6 + 3, none⟩ = some (.int .i64 u.s) ∧ W.cell? ⟨kb, ko + j * 6 + 4, none⟩ = some lv' ∧ W.cell? ⟨kb, ko + j * 6 + 5, none⟩ = some kv') ∧ ∀ W', Below (w.heap.size + 1) W2 W' → (W'.cell? ⟨kb, ko + j * 6, none⟩ = some (.int .i64 u.k) ∧ W'.cell? ⟨kb, ko + j * 6 + 1, none⟩ = some (.int .i64 u.p) ∧ W'.cell? ⟨kb, ko + j * 6 + 2, none⟩ = some (.string u.n) ∧ W'.cell? ⟨kb, ko + j * 6 + 3, none⟩ = some (.int .i64 u.s) ∧ W'.cell? ⟨kb, ko + j * 6 + 4, none⟩ = some lv' ∧ W'.cell? ⟨kb, ko + j * 6 + 5, none⟩ = some kv') ∧ TyVal (fun k => k < b0) W' (.agg #[.int .i64 u.k, .int .i64 u.p, .string u.n, .int .i64 u.s, lv', kv']) u) := Lib.hid (fun W hW j u hj => by
    obtain ⟨kb, ko, e, hkb, hty⟩ := hkg j u hj
    obtain ⟨la1, ln1, lc1, ka1, kn1, kc1, ⟨d0, d1, d2, d3, d4, d5⟩, hval⟩ := hty.load'
    have hkb' : kb < w.heap.size := Nat.lt_of_lt_of_le hkb hb0
    have hcl : ∀ W, Below w.heap.size w W → _ := fun (W : World) (hW : Below w.heap.size w W) => And.intro ((hW.cell (p := ⟨kb, _, none⟩) hkb').trans d0) (And.intro ((hW.cell (p := ⟨kb, _, none⟩) hkb').trans d1) (And.intro ((hW.cell (p := ⟨kb, _, none⟩) hkb').trans d2) (And.intro ((hW.cell (p := ⟨kb, _, none⟩) hkb').trans d3) (And.intro ((hW.cell (p := ⟨kb, _, none⟩) hkb').trans d4) ((hW.cell (p := ⟨kb, _, none⟩) hkb').trans d5)))))
    exact ⟨kb, ko, _, _, e, hcl W (hall W hW), fun W' hW' => ⟨hcl W' (hall W' hW'), hval.keep ((hall W' hW').keeps'.mono (fun k hk => Nat.lt_of_lt_of_le hk hb0))⟩⟩)
  have HN := Lib.hid (fun (W : World) (hW : Below (w.heap.size + 1) W2 W) => (hn.keep ((hall W hW).keeps'.mono (fun k hk => hk))).mono (C := fun k => k < W.heap.size) (fun k hk => Nat.lt_of_lt_of_le hk (hall W hW).size))
  have HR := Lib.hid (fun (W : World) (hW : Below (w.heap.size + 1) W2 W) => (hr.keep ((hall W hW).keeps'.mono (fun k hk => hk))).mono (C := fun k => k < W.heap.size) (fun k hk => Nat.lt_of_lt_of_le hk (hall W hW).size))
  have HLS := Lib.hid (fun (W : World) (hW : Below (w.heap.size + 1) W2 W) => hl0.keep ((hall W hW).keeps'.mono (fun k hk => Nat.lt_of_lt_of_le hk hb0)))
  have hb9 : ∀ r ∈ env, -1000000000 ≤ r.2.s ∧ r.2.s ≤ 1000000000 := fun r hr => by
    have := hb r hr
    have : (env.length : Int) ≤ 900 := by omega
    constructor <;> omega
  have HB := Lib.hid hb
  have HB9 := Lib.hid hb9
  have HALL := Lib.hid hall
  have HW1 := Lib.hid hW1
  have HW2 := Lib.hid hW2
  have HX2 := Lib.hid x2
  have HGN := Lib.hid hgn
  have HIH := Lib.hid ih
  have HDL := Lib.hid hdl
  have HSL := Lib.hid hsl
  have HSK := Lib.hid hsoks
  have HTZ : Hid (t.size ≤ 1000000) := Lib.hid (by omega)
  have HS2 := Lib.hid hs2
  have HS1 := Lib.hid hs1
  have HB0 := Lib.hid hb0
  have HKL : Hid (kn = t.ts.length) := Lib.hid hkl.out
  have hkn : kn ≤ 1000000 := by have := Ty.length_sizes t.ts; have := hkl.out; omega
  have hsi : i ≤ 1000000 := by omega
  have hk8 : (t.k == 8) = false := by simpa using h8
  have hk9 : (t.k == 9) = false := by simpa using h9
  have hsz2 : w.heap.size + 2 ≤ W2.heap.size := by omega
  obtain ⟨c0, c1, _, _, c4, _⟩ := six_cells x1
  clear hn hr hl0 hl1 hk0 hkl hkg hb x1 x2 hb1 hb2 hb12 hbw hall hb9 hW1 hW2 hgn ih hdl hsl hsoks hs1 hs2 hb0 hsok hi hd h8 h9
  go_enter Tryz.func42, Tryz.ntmps42
  go_upto_region 1 with fail
  rw [show w.alloc (.cells #[.int .i64 t.k, .int .i64 t.p, .string t.n, .int .i64 t.s, .slice la ln lc, .slice ka kn kc] 25) = W1 from HW1.out]
  go_upto_region 7 with fail
  clear c0 c1 c4
  rw [show W1.alloc (.cells #[.int .i64 t.k, .int .i64 t.p, .slice la ln lc, .slice none 0 0] 59) = W2 from HW2.out, HS1.out]
  go_wp2_with fail
  go_loopw [11, 12, 13] (fun bl fr iv wr => ∃ (j : Nat) (ba : Option Addr) (bn bc : Nat) (pa : Option Addr) (pn pc : Nat) (xs : List NV), bl = .slice ba bn bc ∧ fr = .int .i64 ((i + 1 + Ty.gcnts (t.ts.take j) : Nat) : Int) ∧ iv = .int .i64 j ∧ j ≤ kn ∧ Hid (wr.heap[w.heap.size + 1]? = some (.cells #[.int .i64 t.k, .int .i64 t.p, .slice la ln lc, .slice pa pn pc] 59 (0, 0))) ∧ Hid (GRow 62 2 W2.heap.size wr (.slice pa pn pc) ((Ty.grefs (i + 1) env (t.ts.take j)).map refCells)) ∧ Hid (GRow 59 4 W2.heap.size wr (.slice ba bn bc) (xs.map NV.cells)) ∧ Hid (∀ x ∈ xs, x.Ok (fun k => k < b0 ∨ (W2.heap.size ≤ k ∧ k < wr.heap.size ∧ some k ≠ (Value.slice ba bn bc).ownBlock ∧ some k ≠ (Value.slice pa pn pc).ownBlock)) wr) ∧ Hid (xs.map NV.g = Ty.gnods (i + 1) env (t.ts.take j)) ∧ Hid (Below (w.heap.size + 1) W2 wr)) (fun _ _ iv _ => kn - (intOf iv).toNat)
  case atStart => exact ⟨0, _, _, _, _, _, _, [], rfl, by simp [Ty.gcnts], rfl, by omega, HX2, Lib.hid (by simpa [Ty.grefs] using GRow.nil _ _ _ _), Lib.hid (by simpa using GRow.nil _ _ _ _), Lib.hid (fun x hx => by cases hx), Lib.hid (by simp [Ty.gnods]), Lib.hid (Below.refl _ _)⟩
  case round =>
    rename World => V
    obtain ⟨j, ba, bn, bc, pa, pn, pc, xs, rfl, rfl, rfl, hj, HNX, HP, HG, HO, HM, HBV⟩ := hrel
    obtain ⟨_, _, _, _, _, c5⟩ := HX1.out V HBV.out
    have hszV : W2.heap.size ≤ V.heap.size := HBV.out.size
    by_cases hlt : j < kn
    · obtain ⟨u, hu⟩ : ∃ u, t.ts[j]? = some u := ⟨_, List.getElem?_eq_getElem (by rw [← HKL.out]; exact hlt)⟩
      have hum := List.mem_of_getElem? hu
      obtain ⟨kb, ko, lv', kv', rfl, ⟨d0, d1, d2, d3, d4, d5⟩, hkid⟩ := HKG.out V HBV.out j u hu
      obtain ⟨fr, hfr⟩ : ∃ fr, i + 1 + Ty.gcnts (t.ts.take j) = fr := ⟨_, rfl⟩
      have hfn : fr + u.gcnt = i + 1 + Ty.gcnts (t.ts.take (j + 1)) := by rw [← hfr, Ty.gcnts_take hu]; omega
      have hfb : fr + u.size ≤ 1000000 := by
        have h1 := Ty.gcnts_le (t.ts.take j)
        have h2 := Ty.sizes_take hu
        have h3 := Ty.sizes_take_le t.ts (j + 1)
        have := HSL.out
        omega
      have hug := u.gcnt_le
      have hul : Ty.sizes t.ts ≤ 1000000 := by have := HSL.out; omega
      have husz : u.size ≤ 1000000 := by have := Ty.size_mem hum; omega
      have hud := Ty.depth_mem hum
      rw [hfr]
      have hgr := grefs_snoc env t.ts (i + 1) j hu
      have hgs := gnods_snoc env t.ts (i + 1) j hu
      rw [hfr] at hgr hgs
      obtain ⟨r, hrr⟩ : ∃ r, u.gref fr env = r := ⟨_, rfl⟩
      rw [hrr] at hgr
      have HGR := Lib.hid hgr
      have HGS := Lib.hid hgs
      have HFN := Lib.hid hfn
      have HKID := Lib.hid hkid
      have hbase : W2.heap.size ≤ V.heap.size := hszV
      have howp : ∀ k, (Value.slice pa pn pc).ownBlock = some k → W2.heap.size ≤ k := fun k hk => (HP.out.lt k hk).1
      have HOB : Hid (∀ W, Out2 (w.heap.size + 1) (Value.slice pa pn pc).ownBlock V W → Below (w.heap.size + 1) W2 W) := Lib.hid (fun W hW => HBV.out.trans (hW.below (Nat.le_refl _) (fun k hk => by have := howp k hk; omega) (by omega)))
      have HRC : Hid (∀ W, Out2 (w.heap.size + 1) (Value.slice pa pn pc).ownBlock V W → Calls Tryz.prog 41 #[.agg #[.int .i64 u.k, .int .i64 u.p, .string u.n, .int .i64 u.s, lv', kv'], .int .i64 (fr : Int), nv, rv] W fun e w' => e = .returned (.agg #[.int .i64 (r.n : Int), .int .i64 r.s]) ∧ Below W.heap.size W w') := Lib.hid (fun W hW => by
        have hw := HOB.out W hW
        rw [← hrr]
        exact rref_any u (Ty.soks_mem HSK.out u hum) fr env _ nv rv W (by omega) (TyVal.mono (C := fun k => k < W.heap.size) (fun k hk => Nat.lt_of_lt_of_le hk (Nat.le_trans HB0.out (HALL.out W hw).size)) (HKID.out W hw).2) (HN.out W hw) (HR.out W hw) HB9.out)
      have HNC : Hid (∀ W, Below (w.heap.size + 1) W2 W → Calls Tryz.prog 42 #[.agg #[.int .i64 u.k, .int .i64 u.p, .string u.n, .int .i64 u.s, lv', kv'], .int .i64 (fr : Int), nv, rv] W fun e w' => ∃ v', e = .returned v' ∧ NodRes b0 W.heap.size (u.gnod fr env) w' v' ∧ Below W.heap.size W w') := Lib.hid (fun W hw => HIH.out u hum b0 fr env _ nv rv W (Nat.le_trans HB0.out (HALL.out W hw).size) hfb (by have := HDL.out; omega) (HKID.out W hw).2 (HN.out W hw) (HR.out W hw) HB.out)
      have HCN : Hid (∀ W, Below (w.heap.size + 1) W2 W → Calls Tryz.prog 60 #[.agg #[.int .i64 u.k, .int .i64 u.p, .string u.n, .int .i64 u.s, lv', kv']] W fun e w' => e = .returned (.int .i64 (u.gcnt : Int)) ∧ Below W.heap.size W w') := Lib.hid (fun W hw => gcount_any (fun k => k < b0) u husz _ W (fun k hk => Nat.lt_of_lt_of_le hk (Nat.le_trans HB0.out (HALL.out W hw).size)) (HKID.out W hw).2)
      have HPL : Hid ((Ty.grefs (i + 1) env (t.ts.take j)).length ≤ 1000000) := Lib.hid (by rw [grefs_len, List.length_take]; omega)
      have hxl : xs.length ≤ 1000000 := by
        have h := congrArg List.length HM.out
        rw [List.length_map] at h
        rw [h]
        have : ∀ (l : List Ty) (i : Nat), (Ty.gnods i env l).length ≤ Ty.sizes l := by
          intro l
          induction l with
          | nil => intro i; simp [Ty.gnods]
          | cons t r ihl =>
            intro i
            rw [Ty.gnods, List.length_append, Ty.sizes]
            have := gnod_len t i env
            have := ihl (i + t.gcnt)
            omega
        have h1 := this (t.ts.take j) (i + 1)
        have h2 := Ty.sizes_take_le t.ts j
        have := HSL.out
        omega
      have HXL := Lib.hid hxl
      have HUG := Lib.hid (gnod_len u fr env)
      clear hu hum hkid hgr hgs hrr hfr hxl hud hfn
      go_upto_region 12 with fail
      have HS : Hid (∀ W, Out2 (w.heap.size + 1) (Value.slice pa pn pc).ownBlock V W → W.cell? ⟨w.heap.size, 5, none⟩ = some (.slice (some ⟨kb, ko, none⟩) kn kc) ∧ W.cell? ⟨kb, ko + j * 6, none⟩ = some (.int .i64 u.k) ∧ W.cell? ⟨kb, ko + j * 6 + 1, none⟩ = some (.int .i64 u.p) ∧ W.cell? ⟨kb, ko + j * 6 + 2, none⟩ = some (.string u.n) ∧ W.cell? ⟨kb, ko + j * 6 + 3, none⟩ = some (.int .i64 u.s) ∧ W.cell? ⟨kb, ko + j * 6 + 4, none⟩ = some lv' ∧ W.cell? ⟨kb, ko + j * 6 + 5, none⟩ = some kv') := Lib.hid (fun W hW => by
        have hw := HOB.out W hW
        obtain ⟨_, _, _, _, _, c5⟩ := HX1.out W hw
        exact ⟨c5, (HKID.out W hw).1⟩)
      clear c5 d0 d1 d2 d3 d4 d5
      refine wp_region_held_drew (S := fun W => W.cell? ⟨w.heap.size, 5, none⟩ = some (.slice (some ⟨kb, ko, none⟩) kn kc) ∧ W.cell? ⟨kb, ko + j * 6, none⟩ = some (.int .i64 u.k) ∧ W.cell? ⟨kb, ko + j * 6 + 1, none⟩ = some (.int .i64 u.p) ∧ W.cell? ⟨kb, ko + j * 6 + 2, none⟩ = some (.string u.n) ∧ W.cell? ⟨kb, ko + j * 6 + 3, none⟩ = some (.int .i64 u.s) ∧ W.cell? ⟨kb, ko + j * 6 + 4, none⟩ = some lv' ∧ W.cell? ⟨kb, ko + j * 6 + 5, none⟩ = some kv') (by kernel_rfl) (HS.out _ (Out2.refl _ _ _).drew) (fun hHeld => ?_)
      refine wpAnyH_take_l 0 (v := ?v0) rfl rfl (by kernel_rfl) (by kernel_rfl) (by kernel_rfl) (fun _ _ _ h => h) ?h0 (by assumption) ?r0
      case h0 => (intro w hSw; (try dsimp only at hSw); go_simp; try rfl)
      case' r0 => simp only [setD, List.set_cons_succ, List.set_cons_zero]
      refine wpAnyH_take_l 2 (v := ?v2) rfl rfl (by kernel_rfl) (by kernel_rfl) (by kernel_rfl) (fun _ _ _ h => h) ?h2 (by assumption) ?r2
      case h2 => (intro w hSw; (try dsimp only at hSw); go_simp; try rfl)
      case' r2 => simp only [setD, List.set_cons_succ, List.set_cons_zero]
      refine wpAnyH_take_l 3 (v := ?v3) rfl rfl (by kernel_rfl) (by kernel_rfl) (by kernel_rfl) (fun _ _ _ h => h) ?h3 (by assumption) ?r3
      case h3 => (intro w hSw; (try dsimp only at hSw); go_simp; try rfl)
      case' r3 => simp only [setD, List.set_cons_succ, List.set_cons_zero]
      refine wpAnyH_take_l 4 (v := ?v4) rfl rfl (by kernel_rfl) (by kernel_rfl) (by kernel_rfl) (fun _ _ _ h => h) ?h4 (by assumption) ?r4
      case h4 => (intro w hSw; (try dsimp only at hSw); go_simp; try rfl)
      case' r4 => simp only [setD, List.set_cons_succ, List.set_cons_zero]
      refine wpAnyH_take_l 5 (v := ?v5) rfl rfl (by kernel_rfl) (by kernel_rfl) (by kernel_rfl) (fun _ _ _ h => h) ?h5 (by assumption) ?r5
      case h5 => (intro w hSw; (try dsimp only at hSw); go_simp; try rfl)
      case' r5 => simp only [setD, List.set_cons_succ, List.set_cons_zero]
      refine wpAnyH_take_l 6 (v := ?v6) rfl rfl (by kernel_rfl) (by kernel_rfl) (by kernel_rfl) (fun _ _ _ h => h) ?h6 (by assumption) ?r6
      case h6 => (intro w hSw; (try dsimp only at hSw); go_simp; try rfl)
      case' r6 => simp only [setD, List.set_cons_succ, List.set_cons_zero]
      refine wpAnyH_take_l 7 (v := ?v7) rfl rfl (by kernel_rfl) (by kernel_rfl) (by kernel_rfl) (fun _ _ _ h => h) ?h7 (by assumption) ?r7
      case h7 => (intro w hSw; (try dsimp only at hSw); go_simp; try rfl)
      case' r7 => simp only [setD, List.set_cons_succ, List.set_cons_zero]
      refine wpAnyH_take_l 8 (v := ?v8) rfl rfl (by kernel_rfl) (by kernel_rfl) (by kernel_rfl) (fun _ _ _ h => h) ?h8 (by assumption) ?r8
      case h8 => (intro w hSw; (try dsimp only at hSw); go_simp; try rfl)
      case' r8 => simp only [setD, List.set_cons_succ, List.set_cons_zero]
      refine wpAnyH_take_l 9 (v := ?v9) rfl rfl (by kernel_rfl) (by kernel_rfl) (by kernel_rfl) (fun _ _ _ h => h) ?h9 (by assumption) ?r9
      case h9 => (intro w hSw; (try dsimp only at hSw); go_simp; try rfl)
      case' r9 => simp only [setD, List.set_cons_succ, List.set_cons_zero]
      refine wpAnyH_start [1, 10, 11, 12, 13, 14] (R12 (w.heap.size + 1) W2.heap.size (.int .i64 t.k) (.int .i64 t.p) (.slice la ln lc) pa pn pc ((Ty.grefs (i + 1) env (t.ts.take j)).map refCells) r V) (by kernel_rfl) (by kernel_rfl) (fun L vals W hR => HS.out _ hR.out) ?start ?steps ?stop
      case start => exact ⟨⟨fun h => (Bool.false_ne_true h).elim, fun h => (Bool.false_ne_true h).elim, fun h => (Bool.false_ne_true h).elim⟩, (Out2.refl _ _ _).drew, fun h => (Bool.false_ne_true h).elim, fun h => (Bool.false_ne_true h).elim, fun h => (Bool.false_ne_true h).elim, fun h => (Bool.false_ne_true h).elim, fun _ => HP.out.drew, fun h => (Bool.false_ne_true h).elim, HNX.out⟩
      case steps =>
        refine List.forall_mem_cons.2 ⟨?_, List.forall_mem_cons.2 ⟨?_, List.forall_mem_cons.2 ⟨?_, List.forall_mem_cons.2 ⟨?_, List.forall_mem_cons.2 ⟨?_, List.forall_mem_cons.2 ⟨?_, fun _ h => by cases h⟩⟩⟩⟩⟩⟩
        · refine InvStep.list (k := 1) rfl rfl [] (by kernel_rfl) [(1, some 61), (10, some 70), (11, some 71), (12, some 72), (13, some 73), (14, none)] (by kernel_rfl) (by decide) (fun L vals olds wx hLk hdeps hR K hK => ?_)
          have hK2 := hK.out
          clear hK
          simp only [fillL, setD, List.set_cons_succ, List.set_cons_zero] at hK2 ⊢
          clear hdeps
          have f12 : L 12 = false := by
            cases e : L 12 with
            | false => rfl
            | true => rw [(hR.dn.2.1 e).2] at hLk; cases hLk
          have f14 : L 14 = false := by
            cases e : L 14 with
            | false => rfl
            | true => rw [(hR.dn.2.2 e).1] at f12; cases f12
          have hnb := hR.nx
          rw [f14] at hnb
          have hnl : w.heap.size + 1 < wx.heap.size := (Array.getElem?_eq_some_iff.1 hnb).1
          have q : wx.cell? ⟨w.heap.size + 1, 3, none⟩ = some (.slice pa pn pc) := by simp [World.cell?, hnb]
          go_simp
          clear q
          obtain ⟨rD, rO, r1, r10, r13, r11, rP, rQ, rX⟩ := hR
          exact hK2 _ _ ⟨⟨rD.1, fun h => ⟨(rD.2.1 h).1, rfl⟩, rD.2.2⟩, rO, fun _ => rfl, r10, r13, r11, rP, rQ, rX⟩
        · refine InvStep.list (k := 10) rfl rfl [] (by kernel_rfl) [(1, some 61), (10, some 70), (11, some 71), (12, some 72), (13, some 73), (14, none)] (by kernel_rfl) (by decide) (fun L vals olds wx hLk hdeps hR K hK => ?_)
          have hK2 := hK.out
          clear hK
          simp only [fillL, setD, List.set_cons_succ, List.set_cons_zero] at hK2 ⊢
          clear hdeps
          have f11 : L 11 = false := by
            cases e : L 11 with
            | false => rfl
            | true => rw [hR.dn.1 e] at hLk; cases hLk
          have f12 : L 12 = false := by
            cases e : L 12 with
            | false => rfl
            | true => rw [(hR.dn.2.1 e).1] at f11; cases f11
          have f14 : L 14 = false := by
            cases e : L 14 with
            | false => rfl
            | true => rw [(hR.dn.2.2 e).1] at f12; cases f12
          have hnb := hR.nx
          rw [f14] at hnb
          have hnl : w.heap.size + 1 < wx.heap.size := (Array.getElem?_eq_some_iff.1 hnb).1
          have HCX := Lib.hid (HRC.out wx hR.out)
          go_simp
          refine HCX.out.mono ?_
          rintro en w5 ⟨rfl, hb5⟩
          dsimp only
          obtain ⟨rD, rO, r1, r10, r13, r11, rP, rQ, rX⟩ := hR
          exact hK2 _ _ ⟨⟨fun _ => rfl, rD.2.1, rD.2.2⟩, rO.to hb5, r1, fun _ => rfl, r13, fun h => absurd (f11.symm.trans h) (by decide), fun _ => (rP f12).to hb5, fun h => absurd (f12.symm.trans h) (by decide), (hb5.block _ hnl).trans rX⟩
        · refine InvStep.list (k := 11) rfl rfl [10] (by kernel_rfl) [(1, some 61), (10, some 70), (11, some 71), (12, some 72), (13, some 73), (14, none)] (by kernel_rfl) (by decide) (fun L vals olds wx hLk hdeps hR K hK => ?_)
          have hK2 := hK.out
          clear hK
          simp only [fillL, setD, List.set_cons_succ, List.set_cons_zero] at hK2 ⊢
          simp only [List.all_cons, List.all_nil, Bool.and_true] at hdeps
          have f12 : L 12 = false := by
            cases e : L 12 with
            | false => rfl
            | true => rw [(hR.dn.2.1 e).1] at hLk; cases hLk
          have f14 : L 14 = false := by
            cases e : L 14 with
            | false => rfl
            | true => rw [(hR.dn.2.2 e).1] at f12; cases f12
          have hnb := hR.nx
          rw [f14] at hnb
          have hnl : w.heap.size + 1 < wx.heap.size := (Array.getElem?_eq_some_iff.1 hnb).1
          have es := (slotO_done (vals := vals) (olds := olds) hdeps).trans (hR.v10 hdeps)
          simp only [es] at hK2 ⊢
          clear es
          go_simp
          obtain ⟨rD, rO, r1, r10, r13, r11, rP, rQ, rX⟩ := hR
          exact hK2 _ _ ⟨⟨fun _ => hdeps, fun h => absurd (f12.symm.trans h) (by decide), rD.2.2⟩, rO.to (blkBelow wx _ _), r1, r10, r13, fun _ _ => ⟨_, rfl, by simp, rO.size, World.alloc_heap_new _ _⟩, fun _ => (rP f12).to (blkBelow wx _ _), fun h => absurd (f12.symm.trans h) (by decide), (Below.heap_alloc _ _ _ hnl).trans rX⟩
        · refine InvStep.list (k := 12) rfl rfl [11, 1] (by kernel_rfl) [(1, some 61), (10, some 70), (11, some 71), (12, some 72), (13, some 73), (14, none)] (by kernel_rfl) (by decide) (fun L vals olds wx hLk hdeps hR K hK => ?_)
          have hK2 := hK.out
          clear hK
          simp only [fillL, setD, List.set_cons_succ, List.set_cons_zero] at hK2 ⊢
          simp only [List.all_cons, List.all_nil, Bool.and_true, Bool.and_eq_true] at hdeps
          have f14 : L 14 = false := by
            cases e : L 14 with
            | false => rfl
            | true => rw [(hR.dn.2.2 e).1] at hLk; cases hLk
          have hnb := hR.nx
          rw [f14] at hnb
          have hnl : w.heap.size + 1 < wx.heap.size := (Array.getElem?_eq_some_iff.1 hnb).1
          have e1 := hR.v1 hdeps.2
          obtain ⟨B, e11, hBl, hBV, hBB⟩ := hR.v11 hdeps.1 hLk
          have hrow := hR.p0 hLk
          refine wp_wanted (ops := #[]) rfl (step_appG rrefElem (by rfl) _ _ (by rfl) (by exact (slotO_done hdeps.2).trans e1) hrow (some ⟨B, 0, none⟩) 1 1 [refCells r] (by exact (slotO_done hdeps.1).trans e11) rfl (fun e he => by rw [List.mem_singleton.1 he]; rfl) (src_at hBB) (fun e he u hu => by
            rw [List.mem_singleton.1 he] at hu
            simp only [refCells, List.mem_cons, List.not_mem_nil, or_false] at hu
            rcases hu with rfl | rfl <;> rfl) (by have := HPL.out; simp; omega) (Nat.le_trans hszV hR.out.size) _ rfl ?_)
          intro ga gn gc w' hrow' hgrow hq
          have hnr : some (w.heap.size + 1) ≠ (Value.slice pa pn pc).ownBlock := fun e => by have := howp _ e.symm; omega
          obtain ⟨rD, rO, r1, r10, r13, r11, rP, rQ, rX⟩ := hR
          refine hK2 _ _ ⟨⟨rD.1, fun _ => hdeps, fun h => absurd (f14.symm.trans h) (by decide)⟩, rO.grown hgrow (.inl rfl), r1, r10, r13, fun _ h => (Bool.false_ne_true h.symm).elim, fun h => (Bool.false_ne_true h.symm).elim, fun _ => ⟨ga, gn, gc, rfl, hrow', ?_⟩, ?_⟩
          · rcases hq with h | h
            · exact .inl h
            · exact .inr (fun k hk => by rw [h] at hk; have := Option.some.inj hk; have := rO.size; omega)
          · have h14 : updL L 12 14 = false := f14
            rw [h14]
            rw [if_neg (by decide)]
            exact (hgrow.block _ hnl hnr).trans hnb
        · refine InvStep.list (k := 13) rfl rfl [] (by kernel_rfl) [(1, some 61), (10, some 70), (11, some 71), (12, some 72), (13, some 73), (14, none)] (by kernel_rfl) (by decide) (fun L vals olds wx hLk hdeps hR K hK => ?_)
          have hK2 := hK.out
          clear hK
          simp only [fillL, setD, List.set_cons_succ, List.set_cons_zero] at hK2 ⊢
          clear hdeps
          have f14 : L 14 = false := by
            cases e : L 14 with
            | false => rfl
            | true => rw [(hR.dn.2.2 e).2] at hLk; cases hLk
          go_simp
          obtain ⟨rD, rO, r1, r10, r13, r11, rP, rQ, rX⟩ := hR
          exact hK2 _ _ ⟨⟨rD.1, rD.2.1, fun h => absurd (f14.symm.trans h) (by decide)⟩, rO, r1, r10, fun _ => rfl, r11, rP, rQ, rX⟩
        · refine InvStep.list (k := 14) rfl rfl [12, 13] (by kernel_rfl) [(1, some 61), (10, some 70), (11, some 71), (12, some 72), (13, some 73), (14, none)] (by kernel_rfl) (by decide) (fun L vals olds wx hLk hdeps hR K hK => ?_)
          have hK2 := hK.out
          clear hK
          simp only [fillL, setD, List.set_cons_succ, List.set_cons_zero] at hK2 ⊢
          simp only [List.all_cons, List.all_nil, Bool.and_true, Bool.and_eq_true] at hdeps
          have f14 : L 14 = false := by
            cases e : L 14 with
            | false => rfl
            | true => rw [e] at hLk; cases hLk
          have hnb := hR.nx
          rw [f14] at hnb
          have hnl : w.heap.size + 1 < wx.heap.size := (Array.getElem?_eq_some_iff.1 hnb).1
          obtain ⟨qa, qn, qc, e12, hrow, hq⟩ := hR.p1 hdeps.1
          have es := (slotO_done (vals := vals) (olds := olds) hdeps.1).trans e12
          have es13 := (slotO_done (vals := vals) (olds := olds) hdeps.2).trans (hR.v13 hdeps.2)
          simp only [es, es13] at hK2 ⊢
          clear es es13
          have q1 : wx.cell? ⟨w.heap.size + 1, 3, none⟩ = some (.slice pa pn pc) := by simp [World.cell?, hnb]
          have q2 : wx.frozen? ⟨w.heap.size + 1, 3, none⟩ = false := frozen_of_block hnb 3
          have E12 := Lib.hid e12
          have HRW := Lib.hid hrow
          clear e12 hrow
          go_simp
          clear q1 q2
          obtain ⟨rD, rO, r1, r10, r13, r11, rP, rQ, rX⟩ := hR
          refine hK2 undef _ ⟨⟨rD.1, rD.2.1, fun _ => hdeps⟩, rO.store 3 _, r1, r10, r13, fun h h' => absurd (hdeps.1.symm.trans h') (by decide), fun h => absurd (hdeps.1.symm.trans h) (by decide), fun _ => ⟨qa, qn, qc, E12.out, HRW.out.kept (fun k hk => set_oth _ _ _ (by have := (HRW.out.lt k hk).1; omega)), hq⟩, ?_⟩
          show _ = some (Obj.cells #[_, _, _, vals 12] _ _)
          rw [E12.out]
          exact set_block hnb 3 (.slice qa qn qc)
      case stop =>
        refine end_plain [(1, some 61), (10, some 70), (11, some 71), (12, some 72), (13, some 73), (14, none)] (by kernel_rfl) (by decide) (fun L vals olds w5 hall hR => ?_)
        simp only [List.all_cons, List.all_nil, Bool.and_true, Bool.and_eq_true] at hall
        obtain ⟨h1, h10, h11, h12, h13, h14⟩ := hall
        obtain ⟨qa, qn, qc, e12, hrow, hq⟩ := hR.p1 h12
        have hnb := hR.nx
        rw [h14, if_pos rfl, e12] at hnb
        have hO5 := hR.out
        simp only [fillL, List.set_cons_succ, List.set_cons_zero]
        clear hR h1 h10 h11 h12 h13 h14 e12
        have hb5 := HOB.out w5 hO5
        have hVs := hO5.size
        have hownb : ∀ k, (Value.slice ba bn bc).ownBlock = some k → W2.heap.size ≤ k ∧ k < V.heap.size := fun k hk => HG.out.lt k hk
        have hbp : ∀ k, (Value.slice ba bn bc).ownBlock = some k → some k ≠ (Value.slice pa pn pc).ownBlock := fun k hk => by
          obtain ⟨cs, hc⟩ := HG.out.obj hk
          exact HP.out.ne hc (by decide)
        have HG5 : Hid (GRow 59 4 W2.heap.size w5 (.slice ba bn bc) (xs.map NV.cells)) := Lib.hid (HG.out.kept (fun k hk => hO5.block k (hownb k hk).2 (by have := (hownb k hk).1; omega) (hbp k hk)))
        have HO5x : Hid (∀ x ∈ xs, x.Ok (fun k => k < b0 ∨ (W2.heap.size ≤ k ∧ k < w5.heap.size ∧ some k ≠ (Value.slice ba bn bc).ownBlock ∧ some k ≠ (Value.slice qa qn qc).ownBlock)) w5) := Lib.hid (fun x hx => ((HO.out x hx).keep (hO5.keeps (fun k hk => by
          have := HB0.out
          rcases hk with hk | hk
          · exact ⟨by omega, by omega, fun e => by have := howp k e.symm; omega⟩
          · exact ⟨hk.2.1, by omega, hk.2.2.2⟩))).mono (fun k hk => by
          rcases hk with hk | hk
          · exact .inl hk
          · refine .inr ⟨hk.1, by omega, hk.2.2.1, fun e => ?_⟩
            rcases hq with h | h
            · exact hk.2.2.2 (e.trans h)
            · have := h k e.symm; omega))
        have HNB5 := Lib.hid hnb
        have HP5 := Lib.hid hrow
        have HB5 := Lib.hid hb5
        have HNC5 := Lib.hid (HNC.out w5 hb5)
        have hsz5 : W2.heap.size ≤ w5.heap.size := hb5.size
        obtain ⟨⟨d0, d1, d2, d3, d4, d5⟩, _⟩ := HKID.out w5 hb5
        obtain ⟨_, _, _, _, _, c5⟩ := HX1.out w5 hb5
        have hnbl : w.heap.size + 1 < w5.heap.size := (Array.getElem?_eq_some_iff.1 hnb).1
        clear hnb hrow hb5 hO5 hq
        go_wp2_with (first | (go_at_call 42; go_loud (refine HNC5.out.mono ?_; rintro en w6 ⟨v6, rfl, ⟨za, zn, zc, zs, rfl, hrow6, hok6, hmap6⟩, hb6⟩; have HB6 := Lib.hid hb6; have HZ6 := Lib.hid hrow6; have HZO := Lib.hid hok6; have HZM := Lib.hid hmap6; have HG6 := Lib.hid (HG5.out.to hb6); clear hb6 hrow6 hok6 hmap6)) | (at_builtin; refine wpList_appG rnodeElem rfl _ _ rfl rfl HG6.out za zn zc (zs.map NV.cells) rfl ?_ ?_ ?_ ?_ ?_ ?_ ?_))
        · obtain ⟨_, _, _, e, hnn, _⟩ := HZ6.out.src
          simp only [Value.slice.injEq] at e
          rw [e.2.1]; exact hnn
        · intro e he
          obtain ⟨x, _, rfl⟩ := List.mem_map.1 he; rfl
        · obtain ⟨_, _, _, e, _, hsrc⟩ := HZ6.out.src
          simp only [Value.slice.injEq] at e
          rw [e.1]; exact hsrc
        · intro e he u hu
          obtain ⟨x, hx, rfl⟩ := List.mem_map.1 he
          exact (HZO.out x hx).one u hu
        · have h := congrArg List.length HZM.out
          rw [List.length_map] at h
          have := HUG.out
          have := HXL.out
          simp only [List.length_map]
          omega
        · have := HB6.out.size; omega
        intro ga gn gc w7 hr7 hg7 hq7
        clear d0 d1 d2 d3 d4 d5 c5
        have h56 := HB6.out.size
        have h67 := hg7.size
        have hownb5 : ∀ k, (Value.slice ba bn bc).ownBlock = some k → W2.heap.size ≤ k ∧ k < V.heap.size := hownb
        have hB7 : Below (w.heap.size + 1) W2 w7 := ((HB5.out.trans (HB6.out.mono (by omega))).grown hg7 (by omega) (fun k hk => by have := hownb k hk; omega))
        have hnb7 : w7.heap[w.heap.size + 1]? = some (.cells #[.int .i64 t.k, .int .i64 t.p, .slice la ln lc, .slice qa qn qc] 59 (0, 0)) := (hg7.block _ (by omega) (fun e => by have := hownb _ e.symm; omega)).trans ((HB6.out.block _ hnbl).trans HNB5.out)
        have hP7 : GRow 62 2 W2.heap.size w7 (.slice qa qn qc) ((Ty.grefs (i + 1) env (t.ts.take (j + 1))).map refCells) := by
          have h := (HP5.out.to HB6.out).kept (W' := w7) (fun k hk => by
            obtain ⟨cs, hc⟩ := (HP5.out.to HB6.out).obj hk
            exact hg7.block k (Array.getElem?_eq_some_iff.1 hc).1 (HG6.out.ne hc (by decide)))
          rw [HGR.out]
          simpa using h
        have hX7 : ∀ x ∈ xs ++ zs, x.Ok (fun k => k < b0 ∨ (W2.heap.size ≤ k ∧ k < w7.heap.size ∧ some k ≠ (Value.slice ga gn gc).ownBlock ∧ some k ≠ (Value.slice qa qn qc).ownBlock)) w7 := by
          have hqn : ∀ k, k < w6.heap.size → some k ≠ (Value.slice ba bn bc).ownBlock → some k ≠ (Value.slice ga gn gc).ownBlock := fun k hk hne e => by
            rcases hq7 with h | h
            · exact hne (e.trans h)
            · have := Option.some.inj (e.trans h); omega
          have hqq : ∀ k, (Value.slice qa qn qc).ownBlock = some k → k < w5.heap.size := fun k hk => (HP5.out.lt k hk).2
          have := HB0.out
          intro x hx
          rcases List.mem_append.1 hx with hx | hx
          · have h1 := (HO5x.out x hx).keep (HB6.out.keeps'.mono (fun k hk => by rcases hk with hk | hk <;> omega))
            refine (h1.keep (Keeps.grown hg7 (fun k hk => ?_))).mono (fun k hk => ?_)
            · rcases hk with hk | hk
              · exact fun e => by have := hownb k e.symm; omega
              · exact hk.2.2.1
            · rcases hk with hk | hk
              · exact .inl hk
              · exact .inr ⟨hk.1, by omega, hqn k (by omega) hk.2.2.1, hk.2.2.2⟩
          · have h1 := HZO.out x hx
            refine (h1.keep (Keeps.grown hg7 (fun k hk => ?_))).mono (fun k hk => ?_)
            · rcases hk with hk | hk
              · exact fun e => by have := hownb k e.symm; omega
              · exact fun e => by have := hownb k e.symm; omega
            · rcases hk with hk | hk
              · exact .inl hk
              · exact .inr ⟨by omega, by omega, hqn k hk.2.1 (fun e => by have := hownb k e.symm; omega), fun e => by have := hqq k e.symm; omega⟩
        have hM7 : (xs ++ zs).map NV.g = Ty.gnods (i + 1) env (t.ts.take (j + 1)) := by rw [List.map_append, HM.out, HZM.out, HGS.out]
        have HR7 : Hid (GRow 59 4 W2.heap.size w7 (.slice ga gn gc) ((xs ++ zs).map NV.cells)) := Lib.hid (by rw [List.map_append]; exact hr7)
        have HB7 := Lib.hid hB7
        have HNB7 := Lib.hid hnb7
        have HP7 := Lib.hid hP7
        have HX7 := Lib.hid hX7
        have HM7 := Lib.hid hM7
        obtain ⟨⟨d0, d1, d2, d3, d4, d5⟩, _⟩ := HKID.out w7 hB7
        obtain ⟨_, _, _, _, _, c5⟩ := HX1.out w7 hB7
        have HCN7 := Lib.hid (HCN.out w7 hB7)
        have hnb7l : w.heap.size + 1 < w7.heap.size := (Array.getElem?_eq_some_iff.1 hnb7).1
        clear hr7 hg7 hq7 hB7 hnb7 hP7 hX7 hM7 hownb5
        go_wp2_with (go_at_call 60; go_loud (refine HCN7.out.mono ?_; rintro en w8 ⟨rfl, hb8⟩; have HB8 := Lib.hid hb8; clear hb8))
        go_roundw
        case rel =>
          refine ⟨j + 1, ga, gn, gc, qa, qn, qc, xs ++ zs, rfl, ret_val ?_, by go_num, by omega, Lib.hid ((HB8.out.block _ hnb7l).trans HNB7.out), Lib.hid (HP7.out.to HB8.out), Lib.hid (HR7.out.to HB8.out), Lib.hid (fun x hx => ?_), HM7, Lib.hid (HB7.out.trans (HB8.out.mono (by omega)))⟩
          · rw [← HFN.out]; omega
          · have := HB0.out
            have := HB8.out.size
            exact ((HX7.out x hx).keep (HB8.out.keeps'.mono (fun k hk => by rcases hk with hk | hk <;> omega))).mono (fun k hk => by
              rcases hk with hk | hk
              · exact .inl hk
              · exact .inr ⟨hk.1, by omega, hk.2.2⟩)
        case measure => simp [intOf]; omega
    · obtain rfl : j = kn := by omega
      have HLN : Hid (t.ts.take j = t.ts) := Lib.hid (List.take_of_length_le (by rw [HKL.out]; exact Nat.le_refl _))
      have hxl : xs.length ≤ 1000000 := by
        have h := congrArg List.length HM.out
        rw [List.length_map, HLN.out] at h
        have h2 := gnod_len t i env
        rw [HGN.out, List.length_cons] at h2
        have := HTZ.out
        omega
      obtain ⟨n0, n1, n2, n3⟩ : V.cell? ⟨w.heap.size + 1, 0, none⟩ = some (.int .i64 t.k) ∧ V.cell? ⟨w.heap.size + 1, 1, none⟩ = some (.int .i64 t.p) ∧ V.cell? ⟨w.heap.size + 1, 2, none⟩ = some (.slice la ln lc) ∧ V.cell? ⟨w.heap.size + 1, 3, none⟩ = some (.slice pa pn pc) := by
        have h := HNX.out
        refine ⟨?_, ?_, ?_, ?_⟩ <;> simp [World.cell?, h]
      go_upto_region 15 with fail
      clear c5
      go_wp2_with (at_builtin; refine wpList_appG rnodeElem rfl _ _ rfl rfl (GRow.single (base := w.heap.size) V (NV.cells ⟨⟨t.k, t.p, t.ls, Ty.grefs (i + 1) env t.ts⟩, .slice la ln lc, .slice pa pn pc⟩) rfl (by omega)) ba bn bc (xs.map NV.cells) rfl ?_ ?_ ?_ ?_ ?_ ?_ ?_)
      · obtain ⟨_, _, _, e, hnn, _⟩ := HG.out.src
        simp only [Value.slice.injEq] at e
        rw [e.2.1]; exact hnn
      · intro e he
        obtain ⟨x, _, rfl⟩ := List.mem_map.1 he; rfl
      · obtain ⟨_, _, _, e, _, hsrc⟩ := (HG.out.alloc _).src
        simp only [Value.slice.injEq] at e
        rw [e.1]; exact hsrc
      · intro e he u hu
        obtain ⟨x, hx, rfl⟩ := List.mem_map.1 he
        exact (HO.out x hx).one u hu
      · simp only [List.length_map, List.length_singleton]; omega
      · rw [World.size_alloc]; omega
      intro ga gn gc w7 hr7 hg7 hq7
      clear n0 n1 n2 n3
      have hgs := hg7.size
      rw [World.size_alloc] at hgs
      have hgk : ∀ k, (Value.slice ga gn gc).ownBlock = some k → V.heap.size ≤ k := fun k hk => by
        rcases hq7 with h | h
        · rw [h] at hk; cases hk; exact Nat.le_refl _
        · rw [h] at hk; cases hk; omega
      have hkeep : ∀ k, k < V.heap.size → w7.heap[k]? = V.heap[k]? := fun k hk => (hg7.block k (by rw [World.size_alloc]; omega) (fun e => by have e' : k = V.heap.size := Option.some.inj e; omega)).trans (Below.heap_alloc _ _ _ hk)
      have hB7 : Below (w.heap.size + 1) W2 w7 := (HBV.out.alloc (by omega) _).grown hg7 (by rw [World.size_alloc]; omega) (fun k hk => by have e' : V.heap.size = k := Option.some.inj hk; omega)
      have hP7 : RefSl (fun k => k < b0 ∨ (w.heap.size ≤ k ∧ k < w7.heap.size ∧ some k ≠ (Value.slice ga gn gc).ownBlock)) w7 (.slice pa pn pc) (Ty.grefs (i + 1) env t.ts) := by
        have h := HP.out.kept (W' := w7) (fun k hk => hkeep k (HP.out.lt k hk).2)
        rw [HLN.out] at h
        have hm : t.ts.length ≤ 1000000 := by rw [← HKL.out]; exact hkn
        exact h.refsB (by rw [grefs_len]; simp only [maxLen]; omega) (fun k hk => .inr ⟨by have := (HP.out.lt k hk).1; omega, by have := (HP.out.lt k hk).2; omega, fun e => by have := hgk k e.symm; have := (HP.out.lt k hk).2; omega⟩)
      have hX7 : ∀ x ∈ xs, x.Ok (fun k => k < b0 ∨ (w.heap.size ≤ k ∧ k < w7.heap.size ∧ some k ≠ (Value.slice ga gn gc).ownBlock)) w7 := fun x hx => by
        have := HB0.out
        have h1 : x.Ok _ w7 := (HO.out x hx).keep (fun k _ hk ho _ => (hkeep k (by rcases hk with hk | hk <;> omega)).trans ho)
        exact h1.mono (fun k hk => by
          rcases hk with hk | hk
          · exact .inl hk
          · exact .inr ⟨by omega, by omega, fun e => by have := hgk k e.symm; omega⟩)
      have HR7 := Lib.hid hr7
      have HB7 := Lib.hid hB7
      have HP7 := Lib.hid hP7
      have HX7 := Lib.hid hX7
      clear hr7 hg7 hq7 hgk hkeep hB7 hP7 hX7
      go_wp2_with fail
      go_ret
      refine ⟨_, rfl, ⟨ga, gn, gc, ⟨⟨t.k, t.p, t.ls, Ty.grefs (i + 1) env t.ts⟩, .slice la ln lc, .slice pa pn pc⟩ :: xs, rfl, HR7.out, fun x hx => ?_, ?_⟩, HALL.out _ HB7.out⟩
      · rcases List.mem_cons.1 hx with rfl | hx
        · exact ⟨(HLS.out _ HB7.out).mono (fun k hk => .inl hk), HP7.out⟩
        · exact HX7.out x hx
      · rw [HGN.out, List.map_cons, HM.out, HLN.out]
theorem rnod_any : ∀ (t : Ty), t.sok → RNodAt t := by
  refine Ty.ind ?_
  intro k p n s ls ts ih h
  have h' := h
  simp only [Ty.sok] at h
  by_cases h8 : k = 8
  · subst h8
    obtain ⟨u, rfl⟩ : ∃ u, ts = [u] := by
      match ts, h.2.1 rfl with
      | [u], _ => exact ⟨u, rfl⟩
    exact rnod_8 p s n ls u h' (ih u (by simp) (Ty.soks_mem h.2.2 u (by simp)))
  · by_cases h9 : k = 9
    · subst h9
      exact rnod_9 p s n ls ts
    · exact rnod_k _ h' h8 h9 (fun u hu => ih u hu (Ty.soks_mem h.2.2 u hu))
end Go.Proofs.YtjmnaibbljakaaaGreatDoor
