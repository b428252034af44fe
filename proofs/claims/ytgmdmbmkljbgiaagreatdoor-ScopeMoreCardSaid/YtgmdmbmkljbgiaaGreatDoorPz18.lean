/- Scopes: the law about one more definition. (and what follows from it) -/
import Derived.Test.YtgmdmbmkljbgiaaGreatDoorPz17
import Derived.Deep.RegionHeld3
import Derived.Deep.Cut

/- Scopes: the law about one more definition. -/
namespace Go.Proofs.YtgmdmbmkljbgiaaGreatDoor
open Go.RowKit Go.Deep Go.Shelf

theorem heap_new' (V : World) (o : Obj) (b : Nat) (h : b = V.heap.size) : (V.alloc o).heap[b]? = some o := by subst h; exact World.alloc_heap_new _ _
theorem ne_own {a b n c : Nat} (h : a ≠ b) : some a ≠ (Value.slice (some ⟨b, 0, none⟩) n c).ownBlock := fun e => h (Option.some.inj e)
theorem heap_drew (W : World) (b : Nat) : W.drew.heap[b]? = W.heap[b]? := rfl
theorem cell_of_heap {W : World} {b i : Nat} {l : List Value} {t : TypeId} {u : Value} (h : W.heap[b]? = some (.cells l.toArray t)) (hi : l[i]? = some u) : W.cell? ⟨b, i, none⟩ = some u := by
  simp [World.cell?, h]; exact hi

def callsTo (ds : List Df) (j : Nat) : List ByteArray := ((ds.take j).map fun d => d.b.gath selC).flatten
theorem callsTo_next {ds : List Df} {j : Nat} {d : Df} (h : ds[j]? = some d) : callsTo ds (j + 1) = callsTo ds j ++ d.b.gath selC := by
  unfold callsTo; rw [take_snoc_get h, List.map_append, List.flatten_append]; simp
theorem callsTo_all {g : Pg} {len : Nat} (h : g.ds.length = len) : g.m.gath selC ++ callsTo g.ds len = g.calls := by
  subst h; unfold callsTo Pg.calls; rw [List.take_length]
theorem callsTo_len {ds : List Df} {j : Nat} (h : ∀ d ∈ ds, d.b.size ≤ 1000000) : (callsTo ds j).length ≤ j * 2000000 := by
  induction j with
  | zero => exact Nat.zero_le _
  | succ j ih =>
    cases hd : ds[j]? with
    | none =>
      have : callsTo ds (j + 1) = callsTo ds j := by
        have hl := List.getElem?_eq_none_iff.1 hd
        unfold callsTo; rw [List.take_of_length_le (by omega), List.take_of_length_le hl]
      rw [this]; exact Nat.le_trans ih (Nat.mul_le_mul_right _ (Nat.le_succ _))
    | some d =>
      rw [callsTo_next hd, List.length_append]
      have h1 := Pr.gath_len selC_len d.b
      have h2 := h d (List.mem_of_getElem? hd)
      rw [Nat.succ_mul]; omega
theorem fdI_none {ds : List Df} {s : ByteArray} (h : fdI ds s = none) : s ∉ ds.map Df.n := by
  intro hm
  obtain ⟨d, hd, e⟩ := List.mem_map.1 hm
  obtain ⟨i, hi⟩ := List.getElem?_of_mem hd
  have := List.find?_eq_none.1 h i (List.mem_range.2 (List.getElem?_eq_some_iff.1 hi).1)
  rw [nameAt_some hi] at this; simp [e] at this

theorem Below.setCellsG {m : Nat} {a : World} {b : Nat} (hb : m ≤ b) : ∀ (vs : List Value) (i : Nat) (w : World), Below m a w → Below m a (w.setCells b i vs)
  | [], _, _, h => h
  | v :: r, i, _, h => Below.setCellsG hb r (i + 1) _ (h.setCell hb v)
theorem Below.cells13 {m : Nat} {a w : World} {b : Nat} (h : Below m a w) (hb : m ≤ b) (vs : List Value) : Below m a (w.setCells b 0 vs) := Below.setCellsG hb vs 0 w h
/-- What the region that builds the new program has done: from base on, the row of definitions, the new definition's own block, the box. -/
structure More3 (base : Nat) (w4 : World) (es : List DV) (dn : DV) (agg : Value → Array Value) (L : Nat → Bool) (vals : Nat → Value) (w : World) : Prop where
  below : Below base w4 w
  size : base ≤ w.heap.size
  down : (L 3 = true → L 0 = true) ∧ (L 8 = true → L 3 = true ∧ L 7 = true) ∧ (L 11 = true → L 8 = true) ∧ (L 13 = true → L 11 = true ∧ L 12 = true)
  s0 : L 0 = true → L 3 = false → ∃ b, vals 0 = .slice (some ⟨b, 0, none⟩) 0 0 ∧ DRow base w (vals 0) [] ∧ b < w.heap.size ∧ (L 7 = true → ∃ B, vals 7 = .slice (some ⟨B, 0, none⟩) 1 1 ∧ B ≠ b)
  s3 : L 3 = true → L 8 = false → (∃ a n c, vals 3 = .slice a n c) ∧ DRow base w (vals 3) es
  s7 : L 7 = true → L 8 = false → ∃ B, vals 7 = .slice (some ⟨B, 0, none⟩) 1 1 ∧ base ≤ B ∧ B < w.heap.size ∧ w.heap[B]? = some (.cells dn.cells.toArray 45 (0, 0))
  s8 : L 8 = true → (∃ a n c, vals 8 = .slice a n c) ∧ DRow base w (vals 8) (es ++ [dn])
  s11 : L 11 = true → vals 11 = .agg (agg (vals 8))
  s12 : L 12 = true → L 13 = false → ∃ X, vals 12 = .pointer (some ⟨X, 0, none⟩) ∧ base ≤ X ∧ w.heap[X]? = some (.cells #[.slice none 0 0, .int .i64 0, .string ⟨#[]⟩, .string ⟨#[]⟩, .slice none 0 0, .slice none 0 0, .int .i64 0, .int .i64 0, .string ⟨#[]⟩, .int .i64 0, .slice none 0 0, .slice none 0 0, .slice none 0 0] 32 (0, 0))
  s13 : L 13 = true → ∃ X, vals 12 = .pointer (some ⟨X, 0, none⟩) ∧ base ≤ X ∧ w.heap[X]? = some (.cells (agg (vals 8)) 32 (0, 0))

set_option maxHeartbeats 32000000 in
set_option maxRecDepth 100000 in
theorem ScopeMore_any (t0 : Pg) (hf0 : Pg.fine t0) (v0 : Value) (t1 : ByteArray) (hn1 : t1.size ≤ maxLen) (E : Nat) (w : World) (he : Env E w) (h0 : GLies w v0 t0) :
    Calls Tryz.prog 5 #[v0, .string t1] w fun e w' => e = .returned (.bool true) ∧ Below w.heap.size w w' := by
  have g0 := h0
  obtain ⟨dv, lv, av, tl, tk, kv, rfl, hd, hp⟩ := g0
  have hp0 := hp
  obtain ⟨⟨la, ln, lc, rfl⟩, ⟨aa, an, ac, rfl⟩, ⟨ta, tn, tc, rfl⟩, ⟨ua, un, uc, rfl⟩, ka, kn, kc, rfl⟩ := pr_slices hp
  obtain ⟨pa, len, c, rfl, hlen, hmx, hget⟩ := hd.open
  obtain ⟨es, hes, hesl, hok, hcells⟩ := dfs_dv hd
  obtain ⟨W0, hW0⟩ : ∃ W0, w.alloc (cell13 t0 (.slice pa len c) (.slice la ln lc) (.slice aa an ac) (.slice ta tn tc) (.slice ua un uc) (.slice ka kn kc)) = W0 := ⟨_, rfl⟩
  have hb0 : Below w.heap.size w W0 := by rw [← hW0]; exact blkBelow w _ _
  have hs0 : W0.heap.size = w.heap.size + 1 := by rw [← hW0]; simp
  have t1' : T13 W0 w.heap.size (cell13 t0 (.slice pa len c) (.slice la ln lc) (.slice aa an ac) (.slice ta tn tc) (.slice ua un uc) (.slice ka kn kc)) := by rw [← hW0]; exact World.alloc_heap_new _ _
  have HT := Lib.hid t1'
  have HG : Hid (GLies W0 (.agg #[.slice pa len c, .int .i64 t0.m.k, .string t0.m.c, .string t0.m.x, .slice la ln lc, .slice aa an ac, .int .i64 t0.m.t.k, .int .i64 t0.m.t.p, .string t0.m.t.n, .int .i64 t0.m.t.s, .slice ta tn tc, .slice ua un uc, .slice ka kn kc]) t0) := Lib.hid (h0.to hb0)
  have HM : Hid (∀ W, Below w.heap.size w W → PrVal (fun k => k < w.heap.size) W (prAgg t0.m (.slice la ln lc) (.slice aa an ac) (.slice ta tn tc) (.slice ua un uc) (.slice ka kn kc)) t0.m) := Lib.hid (fun W hW => hp0.keep (hW.keeps'.mono (fun _ h => h)))
  have HD : Hid (∀ (j : Nat) (d : Df), t0.ds[j]? = some d → ∃ kb ko, pa = some ⟨kb, ko, none⟩ ∧ kb < w.heap.size ∧ ∀ W, Below w.heap.size w W → DfAt (fun k => k < w.heap.size) W d kb (ko + j * 14)) := Lib.hid (fun j d hj => by
    obtain ⟨kb, ko, e, hkb, hda⟩ := hget j d hj
    exact ⟨kb, ko, e, hkb, fun W hW => DfAt.keep (hW.keeps'.mono (fun _ h => h)) hkb hda⟩)
  have HES := Lib.hid hes
  have HESL := Lib.hid hesl
  have HOK : Hid (∀ W, Below w.heap.size w W → ∀ e ∈ es, e.Ok (fun k => k < w.heap.size) W) := Lib.hid (fun W hW e h => (hok e h).to (hW.keeps'.mono (fun _ h => h)))
  have HCS : Hid (∀ W, Below w.heap.size w W → es = [] ∨ ∃ b o, pa = some ⟨b, o, none⟩ ∧ ∀ (j : Nat) (e : DV) (i : Nat) (u : Value), es[j]? = some e → e.cells[i]? = some u → W.cell? ⟨b, o + (j * 14 + i), none⟩ = some u) := Lib.hid (fun W hW => by
    rcases hcells with h | ⟨b, o, h1, h2, h3⟩
    · exact .inl h
    · exact .inr ⟨b, o, h1, fun j e i u hj hi => (hW.cell h2).trans (h3 j e i u hj hi)⟩)
  have HE := Lib.hid (he.to hb0)
  have HB0 := Lib.hid hb0
  have HW0 := Lib.hid hW0
  have HF := Lib.hid hf0
  have HN1 := Lib.hid hn1
  have HLE : Hid (t0.ds.length = len) := Lib.hid hlen.out.symm
  have HAW : Hid (∀ (E : Nat) (w : World), Env E w → Calls Tryz.prog 6 #[] w fun e w' => e = .returned (.bool true) ∧ Below w.heap.size w w') := Lib.hid sawake_any
  have hwz : w.heap.size + 1 ≤ W0.heap.size := by omega
  obtain ⟨f0, hf⟩ : ∃ x, t0.little 500 = x := ⟨_, rfl⟩
  have F0 := Lib.hid hf
  obtain ⟨fi, hfi⟩ : ∃ x, fdI t0.ds t1 = x := ⟨_, rfl⟩
  have HFI := Lib.hid hfi
  obtain ⟨T, hT⟩ : ∃ x : Int, (t0.total : Int) = x := ⟨_, rfl⟩
  have HTT := Lib.hid hT
  clear h0 hd hp hp0 t1' hb0 hs0 hW0 he hf0 hf hlen hget hes hesl hok hcells hn1 hfi hT
  cases f0
  · go_enter Tryz.func5, Tryz.ntmps5
    go_wp2_with fail
    refine scalls_at HW0.out ?_
    refine (HAW.out _ _ HE.out).mono ?_
    rintro e w1 ⟨rfl, hb1⟩
    obtain ⟨c0, c1, c2, c3, c4, c5, c6, c7, c8, c9, c10, c11, c12⟩ := (HT.out.to hb1).cells
    go_wp2_with fail
    clear c0 c1 c2 c3 c4 c5 c6 c7 c8 c9 c10 c11 c12
    refine (plittle_l' (m := 500) (HG.out.to hb1) (by omega) F0.out).mono ?_
    rintro e w2 ⟨rfl, hb2⟩
    have hz2 := below_seq hb1 hb2
    clear hb1 hb2
    go_wp2_with fail
    refine (HAW.out _ _ (HE.out.to hz2)).mono ?_
    rintro e w9 ⟨rfl, hb9⟩
    go_wp2_with fail
    go_ret
    exact ⟨rfl, below_seq HB0.out (below_seq hz2 hb9)⟩
  · obtain ⟨hg, htl⟩ := little_good' (m := 500) (by omega) HF.out F0.out
    have hlen20 : len ≤ 20 := by rw [← HLE.out]; exact (Pg.little_facts F0.out).1
    have HGG := Lib.hid hg
    have HTL := Lib.hid htl
    clear hg htl
    cases fi with
    | some i =>
      obtain ⟨z, hz⟩ : ∃ z : Int, (i : Int) = z := ⟨_, rfl⟩
      have hz0 : 0 ≤ z := by omega
      have hzd : decide (0 ≤ z) = true := by simpa using hz0
      go_enter Tryz.func5, Tryz.ntmps5
      go_wp2_with fail
      refine scalls_at HW0.out ?_
      refine (HAW.out _ _ HE.out).mono ?_
      rintro e w1 ⟨rfl, hb1⟩
      obtain ⟨c0, c1, c2, c3, c4, c5, c6, c7, c8, c9, c10, c11, c12⟩ := (HT.out.to hb1).cells
      go_wp2_with fail
      clear c0 c1 c2 c3 c4 c5 c6 c7 c8 c9 c10 c11 c12
      refine (plittle_l' (m := 500) (HG.out.to hb1) (by omega) F0.out).mono ?_
      rintro e w2 ⟨rfl, hb2⟩
      have hz2 := below_seq hb1 hb2
      clear hb1 hb2
      obtain ⟨c0, c1, c2, c3, c4, c5, c6, c7, c8, c9, c10, c11, c12⟩ := (HT.out.to hz2).cells
      go_wp2_with fail
      clear c0 c1 c2 c3 c4 c5 c6 c7 c8 c9 c10 c11 c12
      refine (rfind_m (HG.out.to hz2) (by rw [HFI.out])).mono ?_
      rintro e w3 ⟨rfl, hb3⟩
      simp only [fdZ]
      rw [hz]
      clear hz
      have hz3 := below_seq hz2 hb3
      clear hz2 hb3
      go_wp2_with fail
      refine (HAW.out _ _ (HE.out.to hz3)).mono ?_
      rintro e w9 ⟨rfl, hb9⟩
      go_wp2_with fail
      go_ret
      exact ⟨rfl, below_seq HB0.out (below_seq hz3 hb9)⟩
    | none =>
      by_cases hbig : 9000 < T
      · have hbd : decide (9000 < T) = true := by simpa using hbig
        go_enter Tryz.func5, Tryz.ntmps5
        go_wp2_with fail
        refine scalls_at HW0.out ?_
        refine (HAW.out _ _ HE.out).mono ?_
        rintro e w1 ⟨rfl, hb1⟩
        obtain ⟨c0, c1, c2, c3, c4, c5, c6, c7, c8, c9, c10, c11, c12⟩ := (HT.out.to hb1).cells
        go_wp2_with fail
        clear c0 c1 c2 c3 c4 c5 c6 c7 c8 c9 c10 c11 c12
        refine (plittle_l' (m := 500) (HG.out.to hb1) (by omega) F0.out).mono ?_
        rintro e w2 ⟨rfl, hb2⟩
        have hz2 := below_seq hb1 hb2
        clear hb1 hb2
        obtain ⟨c0, c1, c2, c3, c4, c5, c6, c7, c8, c9, c10, c11, c12⟩ := (HT.out.to hz2).cells
        go_wp2_with fail
        clear c0 c1 c2 c3 c4 c5 c6 c7 c8 c9 c10 c11 c12
        refine (rfind_m (HG.out.to hz2) (by rw [HFI.out])).mono ?_
        rintro e w3 ⟨rfl, hb3⟩
        simp only [fdZ]
        have hz3 := below_seq hz2 hb3
        clear hz2 hb3
        obtain ⟨c0, c1, c2, c3, c4, c5, c6, c7, c8, c9, c10, c11, c12⟩ := (HT.out.to hz3).cells
        go_wp2_with fail
        clear c0 c1 c2 c3 c4 c5 c6 c7 c8 c9 c10 c11 c12
        refine (rtotal_m (HG.out.to hz3) HGG.out HTL.out HTT.out).mono ?_
        rintro e w4 ⟨rfl, hb4⟩
        have hz4 := below_seq hz3 hb4
        clear hz3 hb4
        go_wp2_with fail
        refine (HAW.out _ _ (HE.out.to hz4)).mono ?_
        rintro e w9 ⟨rfl, hb9⟩
        go_wp2_with fail
        go_ret
        exact ⟨rfl, below_seq HB0.out (below_seq hz4 hb9)⟩
      · have hbd : decide (9000 < T) = false := by simpa using hbig
        go_enter Tryz.func5, Tryz.ntmps5
        go_wp2_with fail
        refine scalls_at HW0.out ?_
        refine (HAW.out _ _ HE.out).mono ?_
        rintro e w1 ⟨rfl, hb1⟩
        obtain ⟨c0, c1, c2, c3, c4, c5, c6, c7, c8, c9, c10, c11, c12⟩ := (HT.out.to hb1).cells
        go_wp2_with fail
        clear c0 c1 c2 c3 c4 c5 c6 c7 c8 c9 c10 c11 c12
        refine (plittle_l' (m := 500) (HG.out.to hb1) (by omega) F0.out).mono ?_
        rintro e w2 ⟨rfl, hb2⟩
        have hz2 := below_seq hb1 hb2
        clear hb1 hb2
        obtain ⟨c0, c1, c2, c3, c4, c5, c6, c7, c8, c9, c10, c11, c12⟩ := (HT.out.to hz2).cells
        go_wp2_with fail
        clear c0 c1 c2 c3 c4 c5 c6 c7 c8 c9 c10 c11 c12
        refine (rfind_m (HG.out.to hz2) (by rw [HFI.out])).mono ?_
        rintro e w3 ⟨rfl, hb3⟩
        simp only [fdZ]
        have hz3 := below_seq hz2 hb3
        clear hz2 hb3
        obtain ⟨c0, c1, c2, c3, c4, c5, c6, c7, c8, c9, c10, c11, c12⟩ := (HT.out.to hz3).cells
        go_wp2_with fail
        clear c0 c1 c2 c3 c4 c5 c6 c7 c8 c9 c10 c11 c12
        refine (rtotal_m (HG.out.to hz3) HGG.out HTL.out HTT.out).mono ?_
        rintro e w4 ⟨rfl, hb4⟩
        have hz4 := below_seq hz3 hb4
        clear hz3 hb4
        go_upto_region 3 with fail
        have HZ4 := Lib.hid hz4
        have hsz4 : w.heap.size + 1 ≤ w4.heap.size := by have := hz4.size; omega
        clear hz4
        go_cut [5] from 6 (fun v wc => ∃ bq a n c', v = .pointer (some ⟨bq, 0, none⟩) ∧ w4.heap.size ≤ bq ∧ Hid (T13 wc bq (.cells #[.slice a n c', .int .i64 t0.m.k, .string t0.m.c, .string t0.m.x, .slice la ln lc, .slice aa an ac, .int .i64 t0.m.t.k, .int .i64 t0.m.t.p, .string t0.m.t.n, .int .i64 t0.m.t.s, .slice ta tn tc, .slice ua un uc, .slice ka kn kc] 32)) ∧ Hid (GLies wc (.agg #[.slice a n c', .int .i64 t0.m.k, .string t0.m.c, .string t0.m.x, .slice la ln lc, .slice aa an ac, .int .i64 t0.m.t.k, .int .i64 t0.m.t.p, .string t0.m.t.n, .int .i64 t0.m.t.s, .slice ta tn tc, .slice ua un uc, .slice ka kn kc]) (t0.more t1)) ∧ Hid (Below w4.heap.size w4 wc))
        case first =>
          have HBr := Lib.hid (Below.refl w4.heap.size w4)
          have hl1 : ([] : List DV).length + es.length ≤ 100000 := by have := HESL.out; simp; omega
          have hl2 : es.length + [newDV t1].length ≤ 100000 := by have := HESL.out; simp; omega
          refine wp_region_held_drew (S := (fun W => W.cell? ⟨w.heap.size, 0, none⟩ = some (.slice pa len c) ∧ W.cell? ⟨w.heap.size, 1, none⟩ = some (.int .i64 t0.m.k) ∧ W.cell? ⟨w.heap.size, 2, none⟩ = some (.string t0.m.c) ∧ W.cell? ⟨w.heap.size, 3, none⟩ = some (.string t0.m.x) ∧ W.cell? ⟨w.heap.size, 4, none⟩ = some (.slice la ln lc) ∧ W.cell? ⟨w.heap.size, 5, none⟩ = some (.slice aa an ac) ∧ W.cell? ⟨w.heap.size, 6, none⟩ = some (.int .i64 t0.m.t.k) ∧ W.cell? ⟨w.heap.size, 7, none⟩ = some (.int .i64 t0.m.t.p) ∧ W.cell? ⟨w.heap.size, 8, none⟩ = some (.string t0.m.t.n) ∧ W.cell? ⟨w.heap.size, 9, none⟩ = some (.int .i64 t0.m.t.s) ∧ W.cell? ⟨w.heap.size, 10, none⟩ = some (.slice ta tn tc) ∧ W.cell? ⟨w.heap.size, 11, none⟩ = some (.slice ua un uc) ∧ W.cell? ⟨w.heap.size, 12, none⟩ = some (.slice ka kn kc))) (by kernel_rfl) (HT.out.to HZ4.out).cells (fun hHeld => ?_)
          refine wpAnyH_take_l 1 (v := ?v1) rfl rfl (by kernel_rfl) (by kernel_rfl) (by kernel_rfl) (fun _ _ _ h => h) ?h1 (by assumption) ?r1
          case h1 => (intro w hSw; (try dsimp only at hSw); go_simp; try rfl)
          case' r1 => simp only [setD, List.set_cons_succ, List.set_cons_zero]
          refine wpAnyH_take_l 2 (v := ?v2) rfl rfl (by kernel_rfl) (by kernel_rfl) (by kernel_rfl) (fun _ _ _ h => h) ?h2 (by assumption) ?r2
          case h2 => (intro w hSw; (try dsimp only at hSw); go_simp; try rfl)
          case' r2 => simp only [setD, List.set_cons_succ, List.set_cons_zero]
          refine wpAnyH_take_l 4 (v := ?v4) rfl rfl (by kernel_rfl) (by kernel_rfl) (by kernel_rfl) (fun _ _ _ h => h) ?h4 (by assumption) ?r4
          case h4 => (intro w hSw; (try dsimp only at hSw); go_simp; try rfl)
          case' r4 => simp only [setD, List.set_cons_succ, List.set_cons_zero]
          refine wpAnyH_take_l 5 (v := ?v5) rfl rfl (by kernel_rfl) (by kernel_rfl) (by kernel_rfl) (fun _ _ _ h => h) ?h5 (by assumption) ?r5
          case h5 => (intro w hSw; (try dsimp only at hSw); go_simp; try rfl)
          case' r5 => simp only [setD, List.set_cons_succ, List.set_cons_zero]
          refine wpAnyH_take_l 6 (v := ?v6) rfl rfl (by kernel_rfl) (by kernel_rfl) (by kernel_rfl) (fun _ _ _ h => h) ?h6 (by assumption) ?r6
          case h6 => (intro w hSw; (try dsimp only at hSw); go_simp; try rfl)
          case' r6 => simp only [setD, List.set_cons_succ, List.set_cons_zero]
          refine wpAnyH_take_l 9 (v := ?v9) rfl rfl (by kernel_rfl) (by kernel_rfl) (by kernel_rfl) (fun _ _ _ h => h) ?h9 (by assumption) ?r9
          case h9 => (intro w hSw; (try dsimp only at hSw); go_simp; try rfl)
          case' r9 => simp only [setD, List.set_cons_succ, List.set_cons_zero]
          refine wpAnyH_take_l 10 (v := ?v10) rfl rfl (by kernel_rfl) (by kernel_rfl) (by kernel_rfl) (fun _ _ _ h => h) ?h10 (by assumption) ?r10
          case h10 => (intro w hSw; (try dsimp only at hSw); go_simp; try rfl)
          case' r10 => simp only [setD, List.set_cons_succ, List.set_cons_zero]
          refine wpAnyH_start [0, 3, 7, 8, 11, 12, 13] (More3 w4.heap.size w4 es (newDV t1) (fun v => #[v, .int .i64 t0.m.k, .string t0.m.c, .string t0.m.x, .slice la ln lc, .slice aa an ac, .int .i64 t0.m.t.k, .int .i64 t0.m.t.p, .string t0.m.t.n, .int .i64 t0.m.t.s, .slice ta tn tc, .slice ua un uc, .slice ka kn kc])) (by kernel_rfl) (by kernel_rfl) (fun L vals W hR => (HT.out.to (below_seq HZ4.out hR.below)).cells) ?start ?steps ?stop
          case start => exact ⟨(Below.refl _ _).drew, Nat.le_refl _, ⟨fun h => (Bool.false_ne_true h).elim, fun h => (Bool.false_ne_true h).elim, fun h => (Bool.false_ne_true h).elim, fun h => (Bool.false_ne_true h).elim⟩, fun h => (Bool.false_ne_true h).elim, fun h => (Bool.false_ne_true h).elim, fun h => (Bool.false_ne_true h).elim, fun h => (Bool.false_ne_true h).elim, fun h => (Bool.false_ne_true h).elim, fun h => (Bool.false_ne_true h).elim, fun h => (Bool.false_ne_true h).elim⟩
          case stop =>
            refine end_plain [(0, some 29), (3, some 32), (7, some 36), (8, some 37), (11, some 40), (12, some 5), (13, none)] (by kernel_rfl) (by decide) (fun L vals olds wx hall hR => ?_)
            simp only [List.all_cons, List.all_nil, Bool.and_true, Bool.and_eq_true] at hall
            obtain ⟨h0, h3, h7, h8, h11, h12, h13⟩ := hall
            obtain ⟨⟨ha, hn, hc, e8⟩, hrow⟩ := hR.s8 h8
            obtain ⟨X, e12, hX1, hX2⟩ := hR.s13 h13
            rw [e8] at hrow
            rw [e8] at hX2
            simp only [fillL, List.set_cons_succ, List.set_cons_zero, slotO_done h0, slotO_done h3, slotO_done h7, slotO_done h8, slotO_done h11, slotO_done h12, e12]
            have HRB := Lib.hid hR.below
            have HROW := Lib.hid hrow
            have HX2 := Lib.hid hX2
            have hsx := hR.size
            clear hR h0 h3 h7 h8 h11 h12 h13 e8 e12 hrow hX2
            go_wp2_with fail
            go_meet
            refine ⟨X, ha, hn, hc, rfl, hX1, Lib.hid HX2.out, Lib.hid ?_, Lib.hid HRB.out⟩
            refine more_q (z := w.heap.size) HROW.out HES.out (HOK.out _ (below_seq HB0.out (below_seq HZ4.out HRB.out))) HN1.out (HM.out _ (below_seq HB0.out (below_seq HZ4.out HRB.out))) (by omega) (by rw [← HESL.out]; omega)
          case steps =>
            refine List.forall_mem_cons.2 ⟨?_, List.forall_mem_cons.2 ⟨?_, List.forall_mem_cons.2 ⟨?_, List.forall_mem_cons.2 ⟨?_, List.forall_mem_cons.2 ⟨?_, List.forall_mem_cons.2 ⟨?_, List.forall_mem_cons.2 ⟨?_, fun _ h => by cases h⟩⟩⟩⟩⟩⟩⟩
            · refine InvStep.list (k := 0) rfl rfl [] (by kernel_rfl) [(0, some 29), (3, some 32), (7, some 36), (8, some 37), (11, some 40), (12, some 5), (13, none)] (by kernel_rfl) (by decide) (fun L vals olds wx hLk hdeps hR K hK => ?_)
              clear hdeps
              have hK2 := hK.out
              clear hK
              simp only [fillL, setD, List.set_cons_succ, List.set_cons_zero] at hK2 ⊢
              go_simp
              obtain ⟨rB, rZ, rD, r0, r3, r7, r8, r11, r12, r13⟩ := hR
              refine hK2 _ _ ⟨rB.alloc rZ _, by simp; omega, ⟨fun _ => rfl, rD.2.1, rD.2.2.1, rD.2.2.2⟩, (fun _ h3 => ⟨_, rfl, DRow.empty _ _ _ rfl rZ, by simp, fun h7 => by obtain ⟨B, e1, e2, e3, e4⟩ := r7 h7 (by cases h8 : L 8 with | false => rfl | true => exact absurd ((rD.2.1 h8).1.symm.trans h3) (by decide)); exact ⟨B, e1, by omega⟩⟩), (fun h3 _ => absurd (hLk.symm.trans (rD.1 h3)) (by decide)), (fun h7 h8 => by obtain ⟨B, e1, e2, e3, e4⟩ := r7 h7 h8; exact ⟨B, e1, e2, by simp; omega, (Below.heap_alloc _ _ _ e3).trans e4⟩), ?_, r11, (fun h h' => by obtain ⟨X, e1, e2, e3⟩ := r12 h h'; exact ⟨X, e1, e2, (Below.heap_alloc _ _ _ (Array.getElem?_eq_some_iff.1 e3).1).trans e3⟩), ?_⟩
              · intro h; exact ⟨(r8 h).1, (r8 h).2.alloc _⟩
              · intro h; obtain ⟨X, e1, e2, e3⟩ := r13 h; exact ⟨X, e1, e2, (Below.heap_alloc _ _ _ (Array.getElem?_eq_some_iff.1 e3).1).trans e3⟩
            · refine InvStep.list (k := 3) rfl rfl [0] (by kernel_rfl) [(0, some 29), (3, some 32), (7, some 36), (8, some 37), (11, some 40), (12, some 5), (13, none)] (by kernel_rfl) (by decide) (fun L vals olds wx hLk hdeps hR K hK => ?_)
              obtain ⟨rB, rZ, rD, r0, r3, r7, r8, r11, r12, r13⟩ := hR
              simp only [List.all_cons, List.all_nil, Bool.and_true] at hdeps
              have hK2 := hK.out
              clear hK
              simp only [fillL, setD, List.set_cons_succ, List.set_cons_zero] at hK2 ⊢
              obtain ⟨b, e0, hrow, hbl, hne⟩ := r0 hdeps hLk
              rw [e0] at hrow
              refine wp_wanted (ops := #[]) rfl (step_appD (by rfl) _ _ (by rfl) w4.heap.size [] (.slice (some ⟨b, 0, none⟩) 0 0) (by exact (slotO_done hdeps).trans e0) hrow pa len c es (by rfl) HESL.out (HCS.out _ (below_seq HB0.out (below_seq HZ4.out rB))) (fun e2 he2 => (HOK.out _ HB0.out e2 he2).one) hl1 rZ es rfl ?_)
              intro ga gn gc w' hrow' hgrow
              refine hK2 _ _ ⟨rB.grown hgrow rZ (fun k e => by cases e; exact (hrow.lt _ rfl).1), Nat.le_trans rZ hgrow.size, ⟨fun _ => hdeps, fun h8 => ⟨rfl, (rD.2.1 h8).2⟩, rD.2.2.1, rD.2.2.2⟩, fun _ h => (Bool.false_ne_true h.symm).elim, fun _ _ => ⟨⟨ga, gn, gc, rfl⟩, hrow'⟩, ?_, ?_, r11, ?_, ?_⟩
              · intro h7 h8
                obtain ⟨B, e1, e2, e3, e4⟩ := r7 h7 h8
                obtain ⟨B', f1, f2⟩ := hne h7
                have hBB : B = B' := by rw [e1] at f1; simpa using f1
                exact ⟨B, e1, e2, Nat.lt_of_lt_of_le e3 hgrow.size, (hgrow.block B e3 (ne_own (hBB ▸ f2))).trans e4⟩
              · intro h8; exact absurd (hLk.symm.trans (rD.2.1 h8).1) (by decide)
              · intro h h'; obtain ⟨X, e1, e2, e3⟩ := r12 h h'; exact ⟨X, e1, e2, (hgrow.block X (Array.getElem?_eq_some_iff.1 e3).1 (DRow.ne hrow e3)).trans e3⟩
              · intro h; exact absurd (hLk.symm.trans (rD.2.1 (rD.2.2.1 (rD.2.2.2 h).1)).1) (by decide)
            · refine InvStep.list (k := 7) rfl rfl [] (by kernel_rfl) [(0, some 29), (3, some 32), (7, some 36), (8, some 37), (11, some 40), (12, some 5), (13, none)] (by kernel_rfl) (by decide) (fun L vals olds wx hLk hdeps hR K hK => ?_)
              clear hdeps
              have hK2 := hK.out
              clear hK
              simp only [fillL, setD, List.set_cons_succ, List.set_cons_zero] at hK2 ⊢
              go_simp
              obtain ⟨rB, rZ, rD, r0, r3, r7, r8, r11, r12, r13⟩ := hR
              refine hK2 _ _ ⟨rB.alloc rZ _, by simp; omega, ⟨rD.1, fun h8 => ⟨(rD.2.1 h8).1, rfl⟩, rD.2.2.1, rD.2.2.2⟩, (fun h0 h3 => by obtain ⟨b, e0, hr, hl, hn⟩ := r0 h0 h3; exact ⟨b, e0, hr.alloc _, by simp; omega, fun _ => ⟨_, rfl, by omega⟩⟩), (fun h3 h8 => ⟨(r3 h3 h8).1, (r3 h3 h8).2.alloc _⟩), (fun _ _ => ⟨_, rfl, rZ, by simp, World.alloc_heap_new _ _⟩), ?_, r11, (fun h h' => by obtain ⟨X, e1, e2, e3⟩ := r12 h h'; exact ⟨X, e1, e2, (Below.heap_alloc _ _ _ (Array.getElem?_eq_some_iff.1 e3).1).trans e3⟩), ?_⟩
              · intro h; exact ⟨(r8 h).1, (r8 h).2.alloc _⟩
              · intro h; obtain ⟨X, e1, e2, e3⟩ := r13 h; exact ⟨X, e1, e2, (Below.heap_alloc _ _ _ (Array.getElem?_eq_some_iff.1 e3).1).trans e3⟩
            · refine InvStep.list (k := 8) rfl rfl [3, 7] (by kernel_rfl) [(0, some 29), (3, some 32), (7, some 36), (8, some 37), (11, some 40), (12, some 5), (13, none)] (by kernel_rfl) (by decide) (fun L vals olds wx hLk hdeps hR K hK => ?_)
              obtain ⟨rB, rZ, rD, r0, r3, r7, r8, r11, r12, r13⟩ := hR
              simp only [List.all_cons, List.all_nil, Bool.and_true, Bool.and_eq_true] at hdeps
              have hK2 := hK.out
              clear hK
              simp only [fillL, setD, List.set_cons_succ, List.set_cons_zero] at hK2 ⊢
              obtain ⟨⟨ga, gn, gc, e3⟩, hrow⟩ := r3 hdeps.1 hLk
              obtain ⟨B, e7, hB1, hB2, hB3⟩ := r7 hdeps.2 hLk
              rw [e3] at hrow
              refine wp_wanted (ops := #[]) rfl (step_appD (by rfl) _ _ (by rfl) w4.heap.size es (.slice ga gn gc) (by exact (slotO_done hdeps.1).trans e3) hrow (some ⟨B, 0, none⟩) 1 1 [newDV t1] (by exact (slotO_done hdeps.2).trans e7) rfl (.inr ⟨B, 0, rfl, fun j2 e2 i2 u2 hj2 hi2 => ?_⟩) (fun e2 he2 => by rw [List.mem_singleton.1 he2]; exact (newDV_ok (fun _ => True) w4 HN1.out).one) hl2 rZ (es ++ [newDV t1]) rfl ?_)
              · cases j2 with
                | zero =>
                  simp only [List.getElem?_cons_zero, Option.some.injEq] at hj2
                  subst hj2
                  rw [show 0 + (0 * 14 + i2) = i2 by omega]
                  exact cell_of_heap (t := 45) hB3 hi2
                | succ j2 => simp at hj2
              intro ha hn hc w' hrow' hgrow
              refine hK2 _ _ ⟨rB.grown hgrow rZ (fun k e => (hrow.lt k e).1), Nat.le_trans rZ hgrow.size, ⟨rD.1, fun _ => hdeps, fun _ => rfl, rD.2.2.2⟩, fun _ h3 => absurd (hdeps.1.symm.trans h3) (by decide), fun _ h => (Bool.false_ne_true h.symm).elim, fun _ h => (Bool.false_ne_true h.symm).elim, fun _ => ⟨⟨ha, hn, hc, rfl⟩, hrow'⟩, fun h => absurd (hLk.symm.trans (rD.2.2.1 h)) (by decide), ?_, fun h => absurd (hLk.symm.trans (rD.2.2.1 (rD.2.2.2 h).1)) (by decide)⟩
              intro h h'; obtain ⟨X, e1, e2, e3'⟩ := r12 h h'; exact ⟨X, e1, e2, (hgrow.block X (Array.getElem?_eq_some_iff.1 e3').1 (DRow.ne hrow e3')).trans e3'⟩
            · refine InvStep.list (k := 11) rfl rfl [8] (by kernel_rfl) [(0, some 29), (3, some 32), (7, some 36), (8, some 37), (11, some 40), (12, some 5), (13, none)] (by kernel_rfl) (by decide) (fun L vals olds wx hLk hdeps hR K hK => ?_)
              simp only [List.all_cons, List.all_nil, Bool.and_true] at hdeps
              have hK2 := hK.out
              clear hK
              simp only [fillL, setD, List.set_cons_succ, List.set_cons_zero] at hK2 ⊢
              obtain ⟨⟨ga, gn, gc, e8⟩, hrow⟩ := hR.s8 hdeps
              have es8 := (slotO_done (vals := vals) (olds := olds) hdeps).trans e8
              simp only [es8] at hK2 ⊢
              clear hrow
              have E8 := Lib.hid e8
              clear e8 es8
              go_simp
              obtain ⟨rB, rZ, rD, r0, r3, r7, r8, r11, r12, r13⟩ := hR
              have e8 := E8.out
              refine hK2 _ _ ⟨rB, rZ, ⟨rD.1, rD.2.1, fun _ => hdeps, fun h => ⟨rfl, (rD.2.2.2 h).2⟩⟩, r0, r3, r7, r8, fun _ => ?_, r12, r13⟩
              show _ = Value.agg #[vals 8, .int .i64 t0.m.k, .string t0.m.c, .string t0.m.x, .slice la ln lc, .slice aa an ac, .int .i64 t0.m.t.k, .int .i64 t0.m.t.p, .string t0.m.t.n, .int .i64 t0.m.t.s, .slice ta tn tc, .slice ua un uc, .slice ka kn kc]
              rw [e8]; rfl
            · refine InvStep.list (k := 12) rfl rfl [] (by kernel_rfl) [(0, some 29), (3, some 32), (7, some 36), (8, some 37), (11, some 40), (12, some 5), (13, none)] (by kernel_rfl) (by decide) (fun L vals olds wx hLk hdeps hR K hK => ?_)
              clear hdeps
              have hK2 := hK.out
              clear hK
              simp only [fillL, setD, List.set_cons_succ, List.set_cons_zero] at hK2 ⊢
              go_simp
              obtain ⟨rB, rZ, rD, r0, r3, r7, r8, r11, r12, r13⟩ := hR
              refine hK2 _ _ ⟨rB.alloc rZ _, by simp; omega, ⟨rD.1, rD.2.1, rD.2.2.1, fun h => ⟨(rD.2.2.2 h).1, rfl⟩⟩, (fun h0 h3 => by obtain ⟨b, e0, hr, hl, hn⟩ := r0 h0 h3; exact ⟨b, e0, hr.alloc _, by simp; omega, hn⟩), (fun h3 h8 => ⟨(r3 h3 h8).1, (r3 h3 h8).2.alloc _⟩), (fun h7 h8 => by obtain ⟨B, e1, e2, e3, e4⟩ := r7 h7 h8; exact ⟨B, e1, e2, by simp; omega, (Below.heap_alloc _ _ _ e3).trans e4⟩), ?_, r11, (fun _ _ => ⟨_, rfl, rZ, World.alloc_heap_new _ _⟩), ?_⟩
              · intro h; exact ⟨(r8 h).1, (r8 h).2.alloc _⟩
              · intro h; exact absurd (hLk.symm.trans (rD.2.2.2 h).2) (by decide)
            · refine InvStep.list (k := 13) rfl rfl [11, 12] (by kernel_rfl) [(0, some 29), (3, some 32), (7, some 36), (8, some 37), (11, some 40), (12, some 5), (13, none)] (by kernel_rfl) (by decide) (fun L vals olds wx hLk hdeps hR K hK => ?_)
              simp only [List.all_cons, List.all_nil, Bool.and_true, Bool.and_eq_true] at hdeps
              have hK2 := hK.out
              clear hK
              simp only [fillL, setD, List.set_cons_succ, List.set_cons_zero] at hK2 ⊢
              obtain ⟨⟨ga, gn, gc, e8⟩, hrow⟩ := hR.s8 (hR.down.2.2.1 hdeps.1)
              obtain ⟨X, e12, hX1, hX2⟩ := hR.s12 hdeps.2 hLk
              have es12 := (slotO_done (vals := vals) (olds := olds) hdeps.2).trans e12
              have es11 := (slotO_done (vals := vals) (olds := olds) hdeps.1).trans (hR.s11 hdeps.1)
              rw [e8] at es11
              obtain ⟨q0, q1, q2, q3, q4, q5, q6, q7, q8, q9, q10, q11, q12⟩ := T13.cells hX2
              have hfq := fun i => frozen_of_block hX2 i
              simp only [es11, es12] at hK2 ⊢
              have HE := Lib.hid e8
              have HE12 := Lib.hid e12
              have HX1 := Lib.hid hX1
              have HX2 := Lib.hid hX2
              have HROW := Lib.hid hrow
              clear es11 es12 e8 e12 hX1 hX2 hrow
              go_simp
              obtain ⟨rB, rZ, rD, r0, r3, r7, r8, r11, r12, r13⟩ := hR
              clear q0 q1 q2 q3 q4 q5 q6 q7 q8 q9 q10 q11 q12 hfq
              have h8 := rD.2.2.1 hdeps.1
              have h3 := (rD.2.1 h8).1
              obtain ⟨W', hW'⟩ : ∃ W', wx.setCells X 0 [.slice ga gn gc, .int .i64 t0.m.k, .string t0.m.c, .string t0.m.x, .slice la ln lc, .slice aa an ac, .int .i64 t0.m.t.k, .int .i64 t0.m.t.p, .string t0.m.t.n, .int .i64 t0.m.t.s, .slice ta tn tc, .slice ua un uc, .slice ka kn kc] = W' := ⟨_, rfl⟩
              have hB' : Below w4.heap.size w4 W' := by rw [← hW']; exact Below.cells13 rB HX1.out _
              have hD' : DRow w4.heap.size W' (vals 8) (es ++ [newDV t1]) := by rw [← hW']; exact DRow.set13 HROW.out HX2.out _
              have hT' : T13 W' X (.cells #[.slice ga gn gc, .int .i64 t0.m.k, .string t0.m.c, .string t0.m.x, .slice la ln lc, .slice aa an ac, .int .i64 t0.m.t.k, .int .i64 t0.m.t.p, .string t0.m.t.n, .int .i64 t0.m.t.s, .slice ta tn tc, .slice ua un uc, .slice ka kn kc] 32) := by rw [← hW']; exact T13.fill HX2.out (.slice ga gn gc) (.int .i64 t0.m.k) (.string t0.m.c) (.string t0.m.x) (.slice la ln lc) (.slice aa an ac) (.int .i64 t0.m.t.k) (.int .i64 t0.m.t.p) (.string t0.m.t.n) (.int .i64 t0.m.t.s) (.slice ta tn tc) (.slice ua un uc) (.slice ka kn kc)
              have hS' : w4.heap.size ≤ W'.heap.size := hB'.size
              show K _ (wx.setCells X 0 [.slice ga gn gc, .int .i64 t0.m.k, .string t0.m.c, .string t0.m.x, .slice la ln lc, .slice aa an ac, .int .i64 t0.m.t.k, .int .i64 t0.m.t.p, .string t0.m.t.n, .int .i64 t0.m.t.s, .slice ta tn tc, .slice ua un uc, .slice ka kn kc])
              rw [hW']
              refine hK2 undef W' ⟨hB', hS', ⟨rD.1, rD.2.1, rD.2.2.1, fun _ => hdeps⟩, fun _ h => absurd (h3.symm.trans h) (by decide), fun _ h => absurd (h8.symm.trans h) (by decide), fun _ h => absurd (h8.symm.trans h) (by decide), fun _ => ⟨⟨ga, gn, gc, HE.out⟩, hD'⟩, r11, fun _ h => (Bool.false_ne_true h.symm).elim, fun _ => ⟨X, HE12.out, HX1.out, ?_⟩⟩
              show _ = some (Obj.cells #[vals 8, .int .i64 t0.m.k, .string t0.m.c, .string t0.m.x, .slice la ln lc, .slice aa an ac, .int .i64 t0.m.t.k, .int .i64 t0.m.t.p, .string t0.m.t.n, .int .i64 t0.m.t.s, .slice ta tn tc, .slice ua un uc, .slice ka kn kc] 32 (0, 0))
              rw [HE.out]
              exact hT'
        case rest =>
          obtain ⟨bq, a, n, c', rfl, hbq, HT5, HG5, HB5⟩ := hcut
          obtain ⟨ce, ca, hc⟩ : ∃ ce ca, t0.chk = (ce, ca) := ⟨_, _, rfl⟩
          obtain ⟨de, da, hc2⟩ : ∃ ce ca, (t0.more t1).chk = (ce, ca) := ⟨_, _, rfl⟩
          obtain ⟨r, hr⟩ : ∃ r, pprogE (t0.more t1) = r := ⟨_, rfl⟩
          have HC := Lib.hid hc
          have HC2 := Lib.hid hc2
          have HPR := Lib.hid hr
          have HGQ : Hid (GGood (t0.more t1)) := Lib.hid (ggood_more HGG.out (by rw [HLE.out]; omega))
          have HTQ : Hid ((t0.more t1).total ≤ 1000000000) := Lib.hid (total_more_le (by have := HTT.out; omega))
          have HZ5 := Lib.hid (below_seq HZ4.out HB5.out)
          have hs5 := HT5.out.lt
          clear hc hc2 hr
          obtain ⟨c0, c1, c2, c3, c4, c5, c6, c7, c8, c9, c10, c11, c12⟩ := (HT.out.to HZ5.out).cells
          go_wp2_with fail
          clear c0 c1 c2 c3 c4 c5 c6 c7 c8 c9 c10 c11 c12
          refine (check_l (HE.out.to HZ5.out) (HG.out.to HZ5.out) HGG.out HC.out).mono ?_
          rintro e w6 ⟨rfl, hb6⟩
          have HB6 := Lib.hid hb6
          have hs6 := hb6.size
          have hlt6 : bq < w6.heap.size := by omega
          clear hb6
          obtain ⟨c0, c1, c2, c3, c4, c5, c6, c7, c8, c9, c10, c11, c12⟩ := (HT5.out.to HB6.out).cells
          go_wp2_with fail
          clear c0 c1 c2 c3 c4 c5 c6 c7 c8 c9 c10 c11 c12
          obtain ⟨W7, hW7⟩ : ∃ W7, w6.alloc (.cells #[.int .i64 ce, .int .i64 (ca : Int)] 39) = W7 := ⟨_, rfl⟩
          have hb7 : Below w6.heap.size w6 W7 := by rw [← hW7]; exact blkBelow w6 _ _
          have HB7 := Lib.hid (below_seq HB6.out hb7)
          have t7 : Two2 W7 w6.heap.size (.int .i64 ce) (.int .i64 (ca : Int)) := by rw [← hW7]; exact World.alloc_heap_new _ _
          have HT7 := Lib.hid t7
          have HW7 := Lib.hid hW7
          have hs7 : W7.heap.size = w6.heap.size + 1 := by rw [← hW7]; simp
          have hlt7 : w6.heap.size < W7.heap.size := by omega
          clear hb7 t7 hW7 hs7
          refine scalls_at HW7.out ?_
          refine (check_l (HE.out.to (below_seq HZ5.out HB7.out)) (HG5.out.to HB7.out) HGQ.out HC2.out).mono ?_
          rintro e w8 ⟨rfl, hb8⟩
          have HB8 := Lib.hid (below_seq HB7.out hb8)
          have HT8 : Hid (Two2 w8 w6.heap.size (.int .i64 ce) (.int .i64 (ca : Int))) := Lib.hid (HT7.out.to hb8)
          have hs8 := hb8.size
          have hlt8 : bq < w8.heap.size := by omega
          have hlt8' : w6.heap.size < w8.heap.size := by omega
          clear hb8
          obtain ⟨c0, c1, c2, c3, c4, c5, c6, c7, c8, c9, c10, c11, c12⟩ := (HT5.out.to HB8.out).cells
          go_wp2_with fail
          clear c0 c1 c2 c3 c4 c5 c6 c7 c8 c9 c10 c11 c12
          obtain ⟨W9, hW9⟩ : ∃ W9, w8.alloc (.cells #[.int .i64 de, .int .i64 (da : Int)] 39) = W9 := ⟨_, rfl⟩
          have hb9 : Below w8.heap.size w8 W9 := by rw [← hW9]; exact blkBelow w8 _ _
          have HB9 := Lib.hid (below_seq HB8.out hb9)
          have HP9 : Hid (Two2 W9 w6.heap.size (.int .i64 ce) (.int .i64 (ca : Int))) := Lib.hid (HT8.out.to hb9)
          have HQ9 : Hid (Two2 W9 w8.heap.size (.int .i64 de) (.int .i64 (da : Int))) := Lib.hid (by rw [← hW9]; exact World.alloc_heap_new _ _)
          have HW9 := Lib.hid hW9
          clear hb9 hW9
          refine scalls_at HW9.out ?_
          refine (rpprogram_l (HG5.out.to HB9.out) HGQ.out HTQ.out HPR.out).mono ?_
          rintro e w10 ⟨rfl, hb10⟩
          have HBA := Lib.hid (below_seq HB9.out hb10)
          have HPA : Hid (Two2 w10 w6.heap.size (.int .i64 ce) (.int .i64 (ca : Int))) := Lib.hid (HP9.out.to hb10)
          have HQA : Hid (Two2 w10 w8.heap.size (.int .i64 de) (.int .i64 (da : Int))) := Lib.hid (HQ9.out.to hb10)
          clear hb10
          by_cases hr0 : r = 0
          · subst hr0
            have HMS : Hid (t0.m.size ≤ 1000000) := Lib.hid (HGG.out.2.2 t0.m (Pg.main_mem t0)).2.2
            have HDS : Hid (∀ d ∈ t0.ds, d.b.size ≤ 1000000) := Lib.hid (fun d hd => (HGG.out.2.2 d.b (Pg.body_mem hd)).2.2)
            have HZA := Lib.hid (below_seq HZ5.out HBA.out)
            have hlA : w.heap.size + 1 ≤ w10.heap.size := by have := HZA.out.size; omega
            have HV : Hid (PLies w10 (.agg #[.int .i64 t0.m.k, .string t0.m.c, .string t0.m.x, .slice la ln lc, .slice aa an ac, .int .i64 t0.m.t.k, .int .i64 t0.m.t.p, .string t0.m.t.n, .int .i64 t0.m.t.s, .slice ta tn tc, .slice ua un uc, .slice ka kn kc]) t0.m) := Lib.hid ((HM.out w10 (below_seq HB0.out HZA.out)).mono (fun k hk => by have : k < w.heap.size := hk; show k < _; omega))
            obtain ⟨c0, c1, c2, c3, c4, c5, c6, c7, c8, c9, c10, c11, c12⟩ := (HT.out.to HZA.out).cells
            go_wp2_with fail
            clear c0 c1 c2 c3 c4 c5 c6 c7 c8 c9 c10 c11 c12
            refine (rcallsR_any t0.m _ w10 HV.out HMS.out).mono ?_
            rintro e w11 ⟨xa, xn, xc, rfl, hrow, hs11, hb11⟩
            have HRW0 := Lib.hid hrow
            have HB11 := Lib.hid hb11
            clear hrow hb11
            go_wp2_with fail
            go_loopw [8, 9] (fun v i wr => ∃ (j : Nat) (a : Option Addr) (n c : Nat), i = .int .i64 j ∧ j ≤ len ∧ v = .slice a n c ∧ Hid (Row (w10.heap.size + 1) wr (.slice a n c) (t0.m.gath selC ++ callsTo t0.ds j)) ∧ w10.heap.size + 1 ≤ wr.heap.size ∧ Hid (Below w10.heap.size w10 wr)) (fun _ i _ => len - (intOf i).toNat)
            case atStart => exact ⟨0, _, _, _, rfl, by omega, rfl, Lib.hid (by simpa [callsTo] using HRW0.out), hs11, HB11⟩
            case round =>
              obtain ⟨j, ga, gn, gc, rfl, hj, rfl, HR, hsz1, HB⟩ := hrel
              obtain ⟨c0, _⟩ := (HT.out.to (below_seq HZA.out HB.out)).cells
              have hgl := Pr.gath_len selC_len t0.m
              have hcl := callsTo_len (j := j) HDS.out
              have hszr := HB.out.size
              have hzr : w10.heap.size + 1 ≤ wr.heap.size := hsz1
              by_cases hlt : j < len
              · obtain ⟨d, hd⟩ : ∃ d, t0.ds[j]? = some d := ⟨_, List.getElem?_eq_getElem (by rw [HLE.out]; exact hlt)⟩
                obtain ⟨kb, ko, rfl, hkl, hda⟩ := HD.out j d hd
                obtain ⟨hdn, e0, ⟨mv, e1, hms⟩, hpr⟩ := hda wr (below_seq HB0.out (below_seq HZA.out HB.out))
                obtain ⟨la1, ln1, lc1, aa1, an1, ac1, ta1, tn1, tc1, ua1, un1, uc1, ka1, kn1, kc1, ⟨d0, d1, d2, d3, d4, d5, d6, d7, d8, d9, d10, d11⟩, hval⟩ := hpr.load'
                replace d0 : wr.cell? ⟨kb, ko + j * 14 + 2, none⟩ = _ := d0
                replace d1 : wr.cell? ⟨kb, ko + j * 14 + 3, none⟩ = _ := d1
                replace d2 : wr.cell? ⟨kb, ko + j * 14 + 4, none⟩ = _ := d2
                replace d3 : wr.cell? ⟨kb, ko + j * 14 + 5, none⟩ = _ := d3
                replace d4 : wr.cell? ⟨kb, ko + j * 14 + 6, none⟩ = _ := d4
                replace d5 : wr.cell? ⟨kb, ko + j * 14 + 7, none⟩ = _ := d5
                replace d6 : wr.cell? ⟨kb, ko + j * 14 + 8, none⟩ = _ := d6
                replace d7 : wr.cell? ⟨kb, ko + j * 14 + 9, none⟩ = _ := d7
                replace d8 : wr.cell? ⟨kb, ko + j * 14 + 10, none⟩ = _ := d8
                replace d9 : wr.cell? ⟨kb, ko + j * 14 + 11, none⟩ = _ := d9
                replace d10 : wr.cell? ⟨kb, ko + j * 14 + 12, none⟩ = _ := d10
                replace d11 : wr.cell? ⟨kb, ko + j * 14 + 13, none⟩ = _ := d11
                have hdm := List.mem_of_getElem? hd
                have hdl := Pr.gath_len selC_len d.b
                have hdz := HDS.out d hdm
                have hmz := HMS.out
                have HC : Hid (Calls Tryz.prog 12 #[prAgg d.b (.slice la1 ln1 lc1) (.slice aa1 an1 ac1) (.slice ta1 tn1 tc1) (.slice ua1 un1 uc1) (.slice ka1 kn1 kc1)] wr (StrRet wr (d.b.gath selC))) := Lib.hid (rcalls_any d.b _ wr (hval.mono (fun k hk => by have : k < w.heap.size := hk; show k < _; omega)) hdz)
                have HTK : Hid (t0.m.gath selC ++ callsTo t0.ds (j + 1) = (t0.m.gath selC ++ callsTo t0.ds j) ++ d.b.gath selC) := Lib.hid (by rw [callsTo_next hd, List.append_assoc])
                have HLN : Hid ((t0.m.gath selC ++ callsTo t0.ds j).length + (d.b.gath selC).length ≤ 1000000000) := Lib.hid (by rw [List.length_append]; have : j * 2000000 ≤ 20 * 2000000 := Nat.mul_le_mul_right _ (by omega); omega)
                unfold prAgg at HC
                have hkw : kb < wr.heap.size := by omega
                clear hd hda hdn hms hpr hval hdm hdl hdz hmz hgl hcl
                go_wp2_with (first | (go_at_call 12; refine HC.out.mono ?_; rintro e w5 ⟨ya, yn, yc, rfl, hsl, hb5⟩; have HSL := Lib.hid hsl; have HB6' := Lib.hid hb5; have HR5 := Lib.hid (HR.out.to hb5); have hz6 := hb5.size; clear hsl hb5) | (at_builtin; refine wpList_app rfl _ _ rfl (w10.heap.size + 1) (t0.m.gath selC ++ callsTo t0.ds j) (.slice ga gn gc) rfl HR5.out _ _ _ _ (d.b.gath selC) rfl HSL.out HLN.out (Nat.le_trans hzr hz6) ?_; intro fa' fn' fc' w6' hrow hgrow hat; have HRW := Lib.hid hrow; have HGW := Lib.hid hgrow; clear hrow hgrow hat))
                go_roundw
                case rel => exact ⟨j + 1, _, _, _, by go_num, by omega, rfl, Lib.hid (by rw [HTK.out]; exact HRW.out), Nat.le_trans hzr (Nat.le_trans hz6 HGW.out.size), Lib.hid ((HB.out.trans (HB6'.out.mono hszr)).grown HGW.out (Nat.le_trans hszr hz6) (fun k e => Nat.le_of_lt (HR5.out.lt k e).1))⟩
                case measure => simp [intOf]; omega
              · obtain rfl : len = j := by omega
                have HCA : Hid (t0.m.gath selC ++ callsTo t0.ds len = t0.calls) := Lib.hid (callsTo_all HLE.out)
                have HSL : Hid (SLies wr (.slice ga gn gc) t0.calls) := Lib.hid (by
                  have h := HR.out
                  rw [HCA.out] at h
                  refine (h.strs ?_).2.mono (fun k hk => hk.2)
                  rw [← HCA.out, List.length_append]
                  have : len * 2000000 ≤ 20 * 2000000 := Nat.mul_le_mul_right _ hlen20
                  have := HMS.out
                  unfold maxLen; omega)
                obtain ⟨inn, hin⟩ : ∃ b, memB t1 t0.calls = b := ⟨_, rfl⟩
                have HIN := Lib.hid hin
                have HPZ : Hid (Two2 wr w6.heap.size (.int .i64 ce) (.int .i64 (ca : Int))) := Lib.hid (HPA.out.to HB.out)
                have HQZ : Hid (Two2 wr w8.heap.size (.int .i64 de) (.int .i64 (da : Int))) := Lib.hid (HQA.out.to HB.out)
                clear hin hgl hcl
                go_wp2_with fail
                refine (in_m HSL.out HIN.out).mono ?_
                rintro e w12 ⟨rfl, rfl⟩
                by_cases hb : inn = true
                · subst hb
                  go_wp2_with fail
                  go_ret
                  exact ⟨rfl, below_seq HB0.out (below_seq HZA.out HB.out)⟩
                · have hb' : inn = false := by simpa using hb
                  subst hb'
                  clear hb
                  have hnew : t1 ∉ t0.ds.map Df.n := fdI_none HFI.out
                  have hnc : t1 ∉ t0.calls := fun h => by have := memB_true.2 h; rw [HIN.out] at this; cases this
                  obtain ⟨hca, hch⟩ := chk_more HPR.out hnew hnc HC.out
                  rw [HC2.out, HLE.out] at hch
                  rw [HLE.out] at hca
                  have HCH := Lib.hid hch
                  clear hnew hnc hch
                  by_cases h0 : ce = 0
                  · subst h0
                    have hz := chk_zero HC.out
                    subst hz
                    obtain ⟨rfl, rfl⟩ : de = 0 ∧ da = 0 := by have h := HCH.out; rw [if_neg (by simp)] at h; exact Prod.mk.inj h
                    obtain ⟨⟨k0, k1⟩, f0, f1⟩ := HPZ.out.cells
                    obtain ⟨⟨q0, q1⟩, g0, g1⟩ := HQZ.out.cells
                    go_wp2_with fail
                    go_ret
                    exact ⟨ret_bool (by simp), below_seq HB0.out (below_seq HZA.out HB.out)⟩
                  · have h1 : (ce == 0) = false := by simpa using h0
                    have h2 : (ce != 0) = true := by simpa using h0
                    obtain ⟨⟨k0, k1⟩, f0, f1⟩ := HPZ.out.cells
                    obtain ⟨⟨q0, q1⟩, g0, g1⟩ := HQZ.out.cells
                    obtain ⟨cz0, _⟩ := (HT.out.to (below_seq HZA.out HB.out)).cells
                    by_cases he : ca = len
                    · subst he
                      obtain ⟨rfl, rfl⟩ : de = ce ∧ da = ca + 1 := by have h := HCH.out; rw [if_pos ⟨h0, rfl⟩] at h; exact Prod.mk.inj h
                      clear h0
                      go_wp2_with fail
                      go_ret
                      exact ⟨ret_bool (by simp), below_seq HB0.out (below_seq HZA.out HB.out)⟩
                    · obtain ⟨rfl, rfl⟩ : de = ce ∧ da = ca := by have h := HCH.out; rw [if_neg (fun x => he x.2)] at h; exact Prod.mk.inj h
                      have h3 : ((da : Int) == (len : Int)) = false := by simp; omega
                      have h4 : ((da : Int) = (len : Int)) = False := eq_false (by omega)
                      clear h0 he
                      go_wp2_with fail
                      go_ret
                      exact ⟨ret_bool (by simp), below_seq HB0.out (below_seq HZA.out HB.out)⟩
          · have hr1 : (r == 0) = false := by simpa using hr0
            have hr2 : (r != 0) = true := by simpa using hr0
            have HDE : Hid (de = r) := Lib.hid (by have h := HC2.out; rw [Pg.chk_1 (by rw [HPR.out]; exact hr0), HPR.out] at h; exact (Prod.mk.inj h).1.symm)
            obtain ⟨⟨k0, k1⟩, f0, f1⟩ := HQA.out.cells
            have hd2 : (de != 0) = true := by rw [HDE.out]; exact hr2
            clear hr0
            go_wp2_with fail
            go_ret
            exact ⟨ret_bool (by simp), below_seq HB0.out (below_seq HZ5.out HBA.out)⟩

end Go.Proofs.YtgmdmbmkljbgiaaGreatDoor
