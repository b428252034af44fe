/- Graphs: the law about the nodes of lists and of raised types. (and what follows from it) -/
import Derived.Test.YtecdapihfiahiaaDoorPw10
import Derived.Test.YtecdapihfiahiaaDoorPw9
import Derived.Deep.RegionHeld3
import Derived.Deep.Cut

/- Graphs: the law about the nodes of lists and of raised types. -/
namespace Go.Proofs.YtecdapihfiahiaaDoor
open Go.RowKit Go.Deep Go.Shelf

theorem raise_size (j : Int) : ∀ t : Ty, (t.raise j).size = t.size := by
  refine Ty.ind ?_
  intro k p n s ls ts ih
  rw [Ty.raise, Ty.size, Ty.size]
  congr 1
  induction ts with
  | nil => rfl
  | cons t r ihr => rw [Ty.raises, Ty.sizes, Ty.sizes, ih t (by simp), ihr (fun u hu => ih u (by simp [hu]))]
abbrev tyCs (t : Ty) (la : Option Addr) (ln lc : Nat) (ka : Option Addr) (kn kc : Nat) : List Value := [.int .i64 t.k, .int .i64 t.p, .string t.n, .int .i64 t.s, .slice la ln lc, .slice ka kn kc]
/-- A block of six cells. -/
theorem six_cells {W : World} {b : Nat} {T : TypeId} {fr : Nat × Nat} {a0 a1 a2 a3 a4 a5 : Value} (h : W.heap[b]? = some (.cells #[a0, a1, a2, a3, a4, a5] T fr)) : W.cell? ⟨b, 0, none⟩ = some a0 ∧ W.cell? ⟨b, 1, none⟩ = some a1 ∧ W.cell? ⟨b, 2, none⟩ = some a2 ∧ W.cell? ⟨b, 3, none⟩ = some a3 ∧ W.cell? ⟨b, 4, none⟩ = some a4 ∧ W.cell? ⟨b, 5, none⟩ = some a5 := by
  refine ⟨?_, ?_, ?_, ?_, ?_, ?_⟩ <;> simp [World.cell?, h]
/-- Types in a block, one behind the other. -/
theorem two_types {W : World} {b : Nat} {T : TypeId} {fr : Nat × Nat} {t u : Ty} {la : Option Addr} {ln lc : Nat} {ka : Option Addr} {kn kc : Nat} {la' : Option Addr} {ln' lc' : Nat} {ka' : Option Addr} {kn' kc' : Nat}
    (h : W.heap[b]? = some (.cells (tyCs t la ln lc ka kn kc ++ tyCs u la' ln' lc' ka' kn' kc').toArray T fr)) (hb : b < W.heap.size) (ht : Lies W (.agg (tyCs t la ln lc ka kn kc).toArray) t) (hu : Lies W (.agg (tyCs u la' ln' lc' ka' kn' kc').toArray) u) : TySl (fun k => k < W.heap.size) W (.slice (some ⟨b, 0, none⟩) 2 2) [t, u] := by
  have cell : ∀ i v, (tyCs t la ln lc ka kn kc ++ tyCs u la' ln' lc' ka' kn' kc')[i]? = some v → W.cell? ⟨b, i, none⟩ = some v := by
    intro i v hi
    simp only [World.cell?, h]
    simpa using hi
  have a1 : TyAt (fun k => k < W.heap.size) W t b 0 := tyAt_of hb (cell 0 _ rfl) (cell 1 _ rfl) (cell 2 _ rfl) (cell 3 _ rfl) (cell 4 _ rfl) (cell 5 _ rfl) ht
  have a2 : TyAt (fun k => k < W.heap.size) W u b (0 + 6) := tyAt_of hb (cell 6 _ rfl) (cell 7 _ rfl) (cell 8 _ rfl) (cell 9 _ rfl) (cell 10 _ rfl) (cell 11 _ rfl) hu
  exact ⟨.inr ⟨b, 0, 2, rfl, hb, by simp only [TysAt]; exact ⟨a1, a2, trivial⟩⟩, by simp [maxLen]⟩
theorem one_type {W : World} {b : Nat} {T : TypeId} {fr : Nat × Nat} {t : Ty} {la : Option Addr} {ln lc : Nat} {ka : Option Addr} {kn kc : Nat}
    (h : W.heap[b]? = some (.cells (tyCs t la ln lc ka kn kc).toArray T fr)) (hb : b < W.heap.size) (ht : Lies W (.agg (tyCs t la ln lc ka kn kc).toArray) t) : TySl (fun k => k < W.heap.size) W (.slice (some ⟨b, 0, none⟩) 1 1) [t] := by
  have cell : ∀ i v, (tyCs t la ln lc ka kn kc)[i]? = some v → W.cell? ⟨b, i, none⟩ = some v := by
    intro i v hi
    simp only [World.cell?, h]
    simpa using hi
  have a1 : TyAt (fun k => k < W.heap.size) W t b 0 := tyAt_of hb (cell 0 _ rfl) (cell 1 _ rfl) (cell 2 _ rfl) (cell 3 _ rfl) (cell 4 _ rfl) (cell 5 _ rfl) ht
  exact ⟨.inr ⟨b, 0, 1, rfl, hb, by simp only [TysAt]; exact ⟨a1, trivial⟩⟩, by simp [maxLen]⟩

theorem build_one {t0 gk : Ty} {w13 W14 : World} {a1 : Option Addr} {n1 m1 : Nat} {a2 : Option Addr} {n2 m2 b : Nat} (hs : gk.size = t0.size) (hf : t0.size ≤ 100 ∧ t0.depth ≤ 150) (hr : rightE gk = 0)
    (hv : TyVal (Fresh b w13.heap.size) w13 (.agg #[.int .i64 gk.k, .int .i64 gk.p, .string gk.n, .int .i64 gk.s, .slice a1 n1 m1, .slice a2 n2 m2]) gk)
    (hw : w13.alloc (.cells #[.int .i64 gk.k, .int .i64 gk.p, .string gk.n, .int .i64 gk.s, .slice a1 n1 m1, .slice a2 n2 m2] 47) = W14) :
    Calls Tryd.prog 9 #[.slice (some ⟨w13.heap.size, 0, none⟩) 1 1] W14 fun en w' => ∃ (na : Option Addr) (nn nc : Nat) (ra : Option Addr) (rn rc : Nat), en = .returned (.tuple #[.agg #[.slice na nn nc], .slice ra rn rc]) ∧ NodeSl (Fresh w13.heap.size w'.heap.size) w' (.slice na nn nc) (gNodes [gk]) ∧ RefSl (Fresh w13.heap.size w'.heap.size) w' (.slice ra rn rc) (gRefs [gk]) ∧ Below w13.heap.size w13 w' := by
  have hb : Below w13.heap.size w13 W14 := by rw [← hw]; exact blkBelow w13 _ _
  have hx : W14.heap[w13.heap.size]? = some (.cells (tyCs gk a1 n1 m1 a2 n2 m2).toArray 47 (0, 0)) := by rw [← hw]; exact World.alloc_heap_new _ _
  have hl : Lies W14 (.agg (tyCs gk a1 n1 m1 a2 n2 m2).toArray) gk := Lies.to (TyVal.mono (C := fun k => k < w13.heap.size) (fun _ hk => hk.2) hv) hb
  have hdp := gk.depth_le_size
  refine (build_any [gk] _ 1 1 W14 (one_type hx (by rw [← hw]; simp) hl) (by simp only [Ty.sizes]; omega) (by simp only [Ty.depths]; omega) (by simp only [Ty.okgs]; exact ⟨okg_of gk [] 0 false (right_node hr) (by omega), trivial⟩)).mono ?_
  rintro en w' ⟨na, nn, nc, ra, rn, rc, rfl, h1, h2, h3⟩
  exact ⟨na, nn, nc, ra, rn, rc, rfl, h1.mono (Fresh.mono hb.size (Nat.le_refl _)), h2.mono (Fresh.mono hb.size (Nat.le_refl _)), below_seq hb h3⟩

set_option maxHeartbeats 8000000 in
set_option maxRecDepth 100000 in
theorem GraphCounts_any (t0 : Ty) (v0 : Value) (t1 : Ty) (v1 : Value) (k : Nat) (hk : k ≤ 255) (E : Nat) (w : World) (he : GEnvW E w) (h0 : Lies w v0 t0) (h1 : Lies w v1 t1) :
    Calls Tryd.prog 5 #[v0, v1, .int .u8 (k : Int)] w fun e w' => e = .returned (.bool true) ∧ Below w.heap.size w w' := by
  have g0 := h0
  have g1 := h1
  obtain ⟨lv, kv, rfl, _, hl0, hk0⟩ := g0
  obtain ⟨la, ln, lc, rfl, _⟩ := hl0.open
  obtain ⟨ka, kn, kc, rfl, _⟩ := hk0.open
  obtain ⟨lv', kv', rfl, _, hl1, hk1⟩ := g1
  obtain ⟨la', ln', lc', rfl, _⟩ := hl1.open
  obtain ⟨ka', kn', kc', rfl, _⟩ := hk1.open
  obtain ⟨W2, hW2⟩ : ∃ W2, (w.alloc (.cells (tyCs t0 la ln lc ka kn kc).toArray 47)).alloc (.cells (tyCs t1 la' ln' lc' ka' kn' kc').toArray 47) = W2 := ⟨_, rfl⟩
  have hb2 : Below w.heap.size w W2 := by rw [← hW2]; exact ((Below.refl _ _).alloc (Nat.le_refl _) _).alloc (by simp) _
  have hs2 : W2.heap.size = w.heap.size + 2 := by rw [← hW2]; simp
  have x0 : W2.heap[w.heap.size]? = some (.cells (tyCs t0 la ln lc ka kn kc).toArray 47 (0, 0)) := by rw [← hW2, Below.heap_alloc _ _ _ (by simp)]; exact World.alloc_heap_new _ _
  have x1 : W2.heap[w.heap.size + 1]? = some (.cells (tyCs t1 la' ln' lc' ka' kn' kc').toArray 47 (0, 0)) := by
    rw [← hW2]
    have := World.alloc_heap_new (w.alloc (.cells (tyCs t0 la ln lc ka kn kc).toArray 47)) (.cells (tyCs t1 la' ln' lc' ka' kn' kc').toArray 47)
    rwa [World.size_alloc] at this
  have HXA := Lib.hid (fun (W : World) (hW : Below W2.heap.size W2 W) => six_cells ((hW.block _ (by omega)).trans x0))
  have HXB := Lib.hid (fun (W : World) (hW : Below W2.heap.size W2 W) => six_cells ((hW.block _ (by omega)).trans x1))
  have HLA := Lib.hid (fun (W : World) (hW : Below W2.heap.size W2 W) => h0.to (below_seq hb2 hW))
  have HLB := Lib.hid (fun (W : World) (hW : Below W2.heap.size W2 W) => h1.to (below_seq hb2 hW))
  have HAW := Lib.hid (fun (W : World) (hW : Below W2.heap.size W2 W) => gawake_any E W ((he.to (hb2.mono he.le)).to (hW.mono (Nat.le_trans he.le hb2.size))))
  have HW2 := Lib.hid hW2
  have HB2 := Lib.hid hb2
  clear h0 h1 hl0 hk0 hl1 hk1 hW2 hb2 x0 x1 he
  obtain ⟨sa, hsa⟩ : ∃ b, smallB t0 100 = b := ⟨_, rfl⟩
  obtain ⟨sb, hsb⟩ : ∃ b, smallB t1 100 = b := ⟨_, rfl⟩
  have HSA := Lib.hid hsa
  have HSB := Lib.hid hsb
  clear hsa hsb
  have HMA : Hid (∀ W, Below W2.heap.size W2 W → Calls Tryd.prog 14 #[.agg (tyCs t0 la ln lc ka kn kc).toArray, .int .i64 100] W fun e w' => e = .returned (.bool sa) ∧ Below W.heap.size W w') := Lib.hid (fun W hW => by rw [← HSA.out]; exact small_any t0 100 (by decide) _ W (HLA.out W hW))
  have HMB : Hid (∀ W, Below W2.heap.size W2 W → Calls Tryd.prog 14 #[.agg (tyCs t1 la' ln' lc' ka' kn' kc').toArray, .int .i64 100] W fun e w' => e = .returned (.bool sb) ∧ Below W.heap.size W w') := Lib.hid (fun W hW => by rw [← HSB.out]; exact small_any t1 100 (by decide) _ W (HLB.out W hW))
  cases sa
  · go_enter Tryd.func5, Tryd.ntmps5
    go_upto_region 1 with fail
    rw [show (w.alloc (.cells #[.int .i64 t0.k, .int .i64 t0.p, .string t0.n, .int .i64 t0.s, .slice la ln lc, .slice ka kn kc] 47)).alloc (.cells #[.int .i64 t1.k, .int .i64 t1.p, .string t1.n, .int .i64 t1.s, .slice la' ln' lc', .slice ka' kn' kc'] 47) = W2 from HW2.out]
    go_upto_region 2 with (first | (go_at_call 7; refine (HAW.out _ (Below.refl _ _)).mono ?_; rintro en w3 ⟨rfl, hb3⟩; obtain ⟨c0, c1, c2, c3, c4, c5⟩ := HXA.out w3 hb3; have HB3 := Lib.hid hb3; clear hb3) | (go_at_call 14; refine (HMA.out _ HB3.out).mono ?_; rintro en w4 ⟨rfl, hb4⟩; have HB4 := Lib.hid (below_seq HB3.out hb4); clear hb4))
    clear c0 c1 c2 c3 c4 c5
    go_wp2_with (go_at_call 7; refine (HAW.out _ HB4.out).mono ?_; rintro en w5 ⟨rfl, hb5⟩)
    go_ret
    exact ⟨rfl, below_seq HB2.out (below_seq HB4.out hb5)⟩
  · cases sb
    · go_enter Tryd.func5, Tryd.ntmps5
      go_upto_region 1 with fail
      rw [show (w.alloc (.cells #[.int .i64 t0.k, .int .i64 t0.p, .string t0.n, .int .i64 t0.s, .slice la ln lc, .slice ka kn kc] 47)).alloc (.cells #[.int .i64 t1.k, .int .i64 t1.p, .string t1.n, .int .i64 t1.s, .slice la' ln' lc', .slice ka' kn' kc'] 47) = W2 from HW2.out]
      go_upto_region 2 with (first | (go_at_call 7; refine (HAW.out _ (Below.refl _ _)).mono ?_; rintro en w3 ⟨rfl, hb3⟩; obtain ⟨c0, c1, c2, c3, c4, c5⟩ := HXA.out w3 hb3; have HB3 := Lib.hid hb3; clear hb3) | (go_at_call 14; first | (with_reducible refine (HMA.out _ HB3.out).mono ?_; rintro en w4 ⟨rfl, hb4⟩; have HB4 := Lib.hid (below_seq HB3.out hb4); clear hb4 c0 c1 c2 c3 c4 c5; obtain ⟨c0, c1, c2, c3, c4, c5⟩ := HXB.out w4 HB4.out) | (with_reducible refine (HMB.out _ HB4.out).mono ?_; rintro en w5 ⟨rfl, hb5⟩; have HB5 := Lib.hid (below_seq HB4.out hb5); clear hb5)))
      clear c0 c1 c2 c3 c4 c5
      go_wp2_with (go_at_call 7; refine (HAW.out _ HB5.out).mono ?_; rintro en w6 ⟨rfl, hb6⟩)
      go_ret
      exact ⟨rfl, below_seq HB2.out (below_seq HB5.out hb6)⟩
    · obtain ⟨hfa, hra⟩ : t0.few 100 = true ∧ rightE t0 = 0 := by have h := HSA.out; simpa [smallB] using h
      obtain ⟨hfb, hrb⟩ : t1.few 100 = true ∧ rightE t1 = 0 := by have h := HSB.out; simpa [smallB] using h
      simp only [Ty.few, Bool.and_eq_true, decide_eq_true_eq] at hfa hfb
      have hna := right_node hra
      have hnb := right_node hrb
      obtain ⟨gk, hgk⟩ : ∃ g, t0.raise (k : Int) = g := ⟨_, rfl⟩
      obtain ⟨c, hc⟩ : ∃ c, rightE gk = c := ⟨_, rfl⟩
      have hgs : gk.size = t0.size := by rw [← hgk, raise_size]
      have HRK : Hid (∀ W, Below W2.heap.size W2 W → Calls Tryd.prog 16 #[.agg (tyCs t0 la ln lc ka kn kc).toArray, .int .i64 (k : Int)] W (TyRet W gk)) := Lib.hid (fun W hW => by rw [← hgk]; exact rraise_any _ k t0 (can_of k (by omega) t0 [] 0 false hna (by omega)) _ W (lies_low W) (HLA.out W hW))
      have HR0 : Hid (∀ W, Below W2.heap.size W2 W → Calls Tryd.prog 16 #[.agg (tyCs t0 la ln lc ka kn kc).toArray, .int .i64 0] W (TyRet W t0)) := Lib.hid (fun W hW => by
        have h := rraise_any _ (0 : Int) t0 (can_of 0 (by omega) t0 [] 0 false hna (by omega)) _ W (lies_low W) (HLA.out W hW)
        rwa [Ty.raise_0] at h)
      have HRG : Hid (∀ W v, Lies W v gk → Calls Tryd.prog 15 #[v] W fun e w' => e = .returned (.int .i64 c) ∧ Below W.heap.size W w') := Lib.hid (fun W v hv => by rw [← hc]; exact rright_any _ gk v W (by omega) (lies_low W) hv)
      have HCA : Hid (∀ W, Below W2.heap.size W2 W → Calls Tryd.prog 17 #[.agg (tyCs t0 la ln lc ka kn kc).toArray] W fun e w' => e = .returned (.int .i64 (t0.gcnt : Int)) ∧ Below W.heap.size W w') := Lib.hid (fun W hW => gcount_any _ t0 (by omega) _ W (lies_low W) (HLA.out W hW))
      have HCB : Hid (∀ W, Below W2.heap.size W2 W → Calls Tryd.prog 17 #[.agg (tyCs t1 la' ln' lc' ka' kn' kc').toArray] W fun e w' => e = .returned (.int .i64 (t1.gcnt : Int)) ∧ Below W.heap.size W w') := Lib.hid (fun W hW => gcount_any _ t1 (by omega) _ W (lies_low W) (HLB.out W hW))
      have HNA := Lib.hid hna
      have HNB := Lib.hid hnb
      have HGK := Lib.hid hgk
      have HGS := Lib.hid hgs
      have HCC := Lib.hid hc
      have HFA := Lib.hid hfa
      have HFB := Lib.hid hfb
      clear hfa hra hfb hrb hna hnb hgk hgs hc
      by_cases hc0 : c = 0
      · subst hc0
        have e3 : IntKind.i64.wrap (k : Int) = (k : Int) := by rw [IntKind.wrap_i64]; omega
        go_enter Tryd.func5, Tryd.ntmps5
        go_upto_region 1 with fail
        rw [show (w.alloc (.cells #[.int .i64 t0.k, .int .i64 t0.p, .string t0.n, .int .i64 t0.s, .slice la ln lc, .slice ka kn kc] 47)).alloc (.cells #[.int .i64 t1.k, .int .i64 t1.p, .string t1.n, .int .i64 t1.s, .slice la' ln' lc', .slice ka' kn' kc'] 47) = W2 from HW2.out]
        go_upto_region 3 with (first | (go_at_call 7; refine (HAW.out _ (Below.refl _ _)).mono ?_; rintro en w3 ⟨rfl, hb3⟩; obtain ⟨c0, c1, c2, c3, c4, c5⟩ := HXA.out w3 hb3; have HB3 := Lib.hid hb3; clear hb3) | (go_at_call 14; first | (with_reducible refine (HMA.out _ HB3.out).mono ?_; rintro en w4 ⟨rfl, hb4⟩; have HB4 := Lib.hid (below_seq HB3.out hb4); clear hb4 c0 c1 c2 c3 c4 c5; obtain ⟨c0, c1, c2, c3, c4, c5⟩ := HXB.out w4 HB4.out) | (with_reducible refine (HMB.out _ HB4.out).mono ?_; rintro en w5 ⟨rfl, hb5⟩; have HB5 := Lib.hid (below_seq HB4.out hb5); clear hb5)))
        clear c0 c1 c2 c3 c4 c5
        obtain ⟨c0, c1, c2, c3, c4, c5⟩ := HXA.out w5 HB5.out
        go_upto_region 5 with (first | (go_at_call 16; go_loud (refine (HRK.out _ HB5.out).mono ?_; rintro en w6 ⟨xa, xn, xc, ya, yn, yc, rfl, hv6, hb6⟩; have HV6 := Lib.hid hv6; have HB6 := Lib.hid (below_seq HB5.out hb6); clear hv6 hb6)) | (go_at_call 15; go_loud (refine (HRG.out _ _ (TyVal.mono (fun _ hk => hk.2) HV6.out)).mono ?_; rintro en w7 ⟨rfl, hb7⟩; have HB7 := Lib.hid (below_seq HB6.out hb7); clear hb7)))
        clear c0 c1 c2 c3 c4 c5
        obtain ⟨c0, c1, c2, c3, c4, c5⟩ := HXA.out w7 HB7.out
        go_upto_region 6 with (go_at_call 16; go_loud (refine (HR0.out _ HB7.out).mono ?_; rintro en w8 ⟨pa, pn, pc, qa, qn, qc, rfl, hv8, hb8⟩; have HV8 := Lib.hid (TyVal.mono (C := fun k => k < w8.heap.size) (fun _ hk => hk.2) hv8); have HB8 := Lib.hid (below_seq HB7.out hb8); clear hv8 hb8))
        clear c0 c1 c2 c3 c4 c5
        obtain ⟨W9, hW9⟩ : ∃ W9, w8.alloc (.cells #[.int .i64 t0.k, .int .i64 t0.p, .string t0.n, .int .i64 t0.s, .slice pa pn pc, .slice qa qn qc] 47) = W9 := ⟨_, rfl⟩
        have hb9 : Below w8.heap.size w8 W9 := by rw [← hW9]; exact blkBelow w8 _ _
        have hs9 : W9.heap.size = w8.heap.size + 1 := by rw [← hW9]; simp
        have x9 : W9.heap[w8.heap.size]? = some (.cells (tyCs t0 pa pn pc qa qn qc).toArray 47 (0, 0)) := by rw [← hW9]; exact World.alloc_heap_new _ _
        have HXC := Lib.hid (fun (W : World) (hW : Below W9.heap.size W9 W) => six_cells ((hW.block _ (by omega)).trans x9))
        have HLC := Lib.hid (fun (W : World) (hW : Below W9.heap.size W9 W) => Lies.to HV8.out (below_seq hb9 hW))
        have HB9 := Lib.hid (below_seq HB8.out hb9)
        obtain ⟨W10, hW10⟩ : ∃ W10, W9.alloc (.cells #[.int .i64 t0.k, .int .i64 t0.p, .string t0.n, .int .i64 t0.s, .slice pa pn pc, .slice qa qn qc, .int .i64 t1.k, .int .i64 t1.p, .string t1.n, .int .i64 t1.s, .slice la' ln' lc', .slice ka' kn' kc'] 47) = W10 := ⟨_, rfl⟩
        have hb10 : Below W9.heap.size W9 W10 := by rw [← hW10]; exact blkBelow W9 _ _
        have x10 : W10.heap[W9.heap.size]? = some (.cells (tyCs t0 pa pn pc qa qn qc ++ tyCs t1 la' ln' lc' ka' kn' kc').toArray 47 (0, 0)) := by rw [← hW10]; exact World.alloc_heap_new _ _
        have HBD := Lib.hid (build_any [t0, t1] (some ⟨W9.heap.size, 0, none⟩) 2 2 W10 (two_types x10 (by rw [← hW10]; simp) (HLC.out W10 hb10) (HLB.out W10 (below_seq HB9.out hb10))) (by simp only [Ty.sizes]; have := HFA.out; have := HFB.out; omega) (by simp only [Ty.depths]; have := HFA.out; have := HFB.out; omega) (by simp only [Ty.okgs]; exact ⟨okg_of t0 [] 0 false HNA.out (by have := HFA.out; omega), okg_of t1 [] 0 false HNB.out (by have := HFB.out; omega), trivial⟩))
        have HB10 := Lib.hid (below_seq HB9.out hb10)
        have HW9 := Lib.hid hW9
        have HW10 := Lib.hid hW10
        have HB9r := Lib.hid hb10
        clear hb9 x9 hb10 x10 hW9 hW10 hs9
        rw [show w8.alloc (.cells #[.int .i64 t0.k, .int .i64 t0.p, .string t0.n, .int .i64 t0.s, .slice pa pn pc, .slice qa qn qc] 47) = W9 from HW9.out]
        obtain ⟨c0, c1, c2, c3, c4, c5⟩ := HXC.out W9 (Below.refl _ _)
        obtain ⟨d0, d1, d2, d3, d4, d5⟩ := HXB.out W9 HB9.out
        go_upto_region 7 with (go_at_call 9; go_loud (refine gcalls_at HW10.out ?_; refine HBD.out.mono ?_; rintro en w11 ⟨na, nn, nc, ra, rn, rc, rfl, hn11, hr11, hb11⟩; have HN11 := Lib.hid hn11; have HR11 := Lib.hid hr11; have HB11 := Lib.hid (below_seq HB10.out hb11); have HB11r := Lib.hid hb11; clear hn11 hr11 hb11))
        clear c0 c1 c2 c3 c4 c5 d0 d1 d2 d3 d4 d5
        obtain ⟨W12, hW12⟩ : ∃ W12, w11.alloc (.cells #[.slice na nn nc] 27) = W12 := ⟨_, rfl⟩
        have hb12 : Below w11.heap.size w11 W12 := by rw [← hW12]; exact blkBelow w11 _ _
        have x12 : W12.heap[w11.heap.size]? = some (.cells #[.slice na nn nc] 27 (0, 0)) := by rw [← hW12]; exact World.alloc_heap_new _ _
        have HX12 := Lib.hid x12
        have HB12 := Lib.hid (below_seq HB11.out hb12)
        have HB12r := Lib.hid hb12
        have HW12 := Lib.hid hW12
        clear x12 hb12 hW12
        rw [show w11.alloc (.cells #[.slice na nn nc] 27) = W12 from HW12.out]
        obtain ⟨c0, c1, c2, c3, c4, c5⟩ := HXA.out W12 HB12.out
        go_upto_region 8 with (first | (go_at_call 16; go_loud (refine (HRK.out _ HB12.out).mono ?_; rintro en w13 ⟨ea, em, ec, fa, fn, fc, rfl, hv13, hb13⟩; obtain ⟨W14, hW14⟩ : ∃ W14, w13.alloc (.cells #[.int .i64 gk.k, .int .i64 gk.p, .string gk.n, .int .i64 gk.s, .slice ea em ec, .slice fa fn fc] 47) = W14 := ⟨_, rfl⟩; have HV13 := Lib.hid hv13; have HB13 := Lib.hid hb13; have HW14 := Lib.hid hW14; clear hv13 hb13 hW14)) | (go_at_call 9; go_loud (refine gcalls_at HW14.out ?_; refine (build_one HGS.out HFA.out HCC.out HV13.out HW14.out).mono ?_; rintro en w15 ⟨ma, mn, mc, sa, sn, sc, rfl, hn15, hs15, hb15⟩; have HN15 := Lib.hid hn15; have HS15 := Lib.hid hs15; have HB15 := Lib.hid hb15; clear hn15 hs15 hb15)))
        clear c0 c1 c2 c3 c4 c5
        obtain ⟨W16, hW16⟩ : ∃ W16, w15.alloc (.cells #[.slice ma mn mc] 27) = W16 := ⟨_, rfl⟩
        have hb16 : Below w15.heap.size w15 W16 := by rw [← hW16]; exact blkBelow w15 _ _
        have x16 : W16.heap[w15.heap.size]? = some (.cells #[.slice ma mn mc] 27 (0, 0)) := by rw [← hW16]; exact World.alloc_heap_new _ _
        have hb15 : Below w11.heap.size w11 w15 := below_seq HB12r.out (below_seq HB13.out HB15.out)
        have hb13 : Below W12.heap.size W12 w15 := below_seq HB13.out HB15.out
        have HBX : Hid (∀ W, Below W16.heap.size W16 W → W.cell? ⟨w11.heap.size, 0, none⟩ = some (.slice na nn nc) ∧ W.cell? ⟨w15.heap.size, 0, none⟩ = some (.slice ma mn mc)) := Lib.hid (fun W hW => by
          have a1 : W.heap[w11.heap.size]? = _ := ((below_seq hb13 (below_seq hb16 hW)).block _ (Array.getElem?_eq_some_iff.1 HX12.out).1).trans HX12.out
          have a2 : W.heap[w15.heap.size]? = _ := (hW.block _ (Array.getElem?_eq_some_iff.1 x16).1).trans x16
          exact ⟨by simp [World.cell?, a1], by simp [World.cell?, a2]⟩)
        have HNG : Hid (∀ W, Below W16.heap.size W16 W → NodeSl (fun k => k < W.heap.size) W (.slice na nn nc) (gNodes [t0, t1]) ∧ RefSl (fun k => k < W.heap.size) W (.slice ra rn rc) (gRefs [t0, t1]) ∧ NodeSl (fun k => k < W.heap.size) W (.slice ma mn mc) (gNodes [gk]) ∧ RefSl (fun k => k < W.heap.size) W (.slice sa sn sc) (gRefs [gk])) := Lib.hid (fun W hW => by
          have b1 := below_seq hb15 (below_seq hb16 hW)
          have b2 := below_seq hb16 hW
          exact ⟨(HN11.out.keep (b1.keeps'.mono (fun k hk => hk.2))).mono (fun k hk => Nat.lt_of_lt_of_le hk.2 b1.size), (HR11.out.keep (b1.keeps'.mono (fun k hk => hk.2))).mono (fun k hk => Nat.lt_of_lt_of_le hk.2 b1.size), (HN15.out.keep (b2.keeps'.mono (fun k hk => hk.2))).mono (fun k hk => Nat.lt_of_lt_of_le hk.2 b2.size), (HS15.out.keep (b2.keeps'.mono (fun k hk => hk.2))).mono (fun k hk => Nat.lt_of_lt_of_le hk.2 b2.size)⟩)
        have HB16 : Hid (Below W2.heap.size W2 W16) := Lib.hid (below_seq HB12.out (below_seq hb13 hb16))
        have HBC : Hid (Below W9.heap.size W9 W16) := Lib.hid (below_seq HB9r.out (below_seq HB11r.out (below_seq hb15 hb16)))
        have HW16 := Lib.hid hW16
        clear hb16 x16 hb15 hb13 hW16 HX12 HN11 HR11 HN15 HS15
        rw [show w15.alloc (.cells #[.slice ma mn mc] 27) = W16 from HW16.out]
        -- what the lists are
        obtain ⟨ga, hga⟩ : ∃ n, t0.gcnt = n := ⟨_, rfl⟩
        obtain ⟨gb, hgb⟩ : ∃ n, t1.gcnt = n := ⟨_, rfl⟩
        have hga1 : ga ≤ 100 := by have := t0.gcnt_le; have := HFA.out; omega
        have hgb1 : gb ≤ 100 := by have := t1.gcnt_le; have := HFB.out; omega
        have oka := okg_of t0 [] 0 false HNA.out (by have := HFA.out; omega)
        have okb := okg_of t1 [] 0 false HNB.out (by have := HFB.out; omega)
        obtain ⟨xs, hxs⟩ : ∃ xs, t0.pnod 0 (fun _ => 0) = xs := ⟨_, rfl⟩
        have hxl : xs.length = ga := by rw [← hxs, pnod_ok t0 oka, hga]
        have eN : gNodes [t0, t1] = xs ++ t1.pnod ga (fun _ => 0) := by simp [gNodes, Ty.pnods, hxs, hga]
        have eM : gNodes [gk] = xs.map (upN k) := by rw [← HGK.out]; simp [gNodes, Ty.pnods, raise_pnod, hxs]
        have ra0 := real_pref t0 0 (fun _ => 0) (real_of t0 [] false HNA.out)
        have ra1 := real_pref t1 ga (fun _ => 0) (real_of t1 [] false HNB.out)
        have eR : gRefs [t0, t1] = [⟨0, 0⟩, ⟨ga, 0⟩] := by simp only [gRefs, Ty.prefs, hga, Nat.zero_add]; rw [ra0, ra1]
        have eS : gRefs [gk] = [⟨0, 0⟩] := by rw [← HGK.out]; simp only [gRefs, Ty.prefs, raise_pref]; rw [ra0]
        obtain ⟨hN0, hR0, hM0, hS0⟩ := HNG.out W16 (Below.refl _ _)
        rw [eN] at hN0
        rw [eR] at hR0
        rw [eM] at hM0
        rw [eS] at hS0
        obtain rfl : nn = ga + gb := by
          obtain ⟨_, _, _, e, hl, _⟩ := hN0.open
          simp only [Value.slice.injEq] at e
          rw [e.2.1, hl.out, List.length_append, hxl, pnod_ok t1 okb, hgb]
        obtain rfl : mn = ga := by
          obtain ⟨_, _, _, e, hl, _⟩ := hM0.open
          simp only [Value.slice.injEq] at e
          rw [e.2.1, hl.out, List.length_map, hxl]
        obtain ⟨_, _, _, e, hl, _, hg⟩ := hR0.open
        simp only [Value.slice.injEq] at e
        obtain ⟨rfl, rfl, rfl⟩ := e
        obtain rfl : rn = 2 := hl.out
        obtain ⟨qb, qo, rfl, hqb, r0, r1⟩ := hg 0 _ rfl
        obtain ⟨qb', qo', eq, _, r2, r3⟩ := hg 1 _ rfl
        simp only [Option.some.injEq, Addr.mk.injEq, and_true] at eq
        obtain ⟨rfl, rfl⟩ := eq
        obtain ⟨_, _, _, e, hl', _, hg'⟩ := hS0.open
        simp only [Value.slice.injEq] at e
        obtain ⟨rfl, rfl, rfl⟩ := e
        obtain rfl : sn = 1 := hl'.out
        obtain ⟨pb, po, rfl, hpb, s0, s1⟩ := hg' 0 _ rfl
        have HEN := Lib.hid eN
        have HEM := Lib.hid eM
        have HXL := Lib.hid hxl
        have HXS := Lib.hid hxs
        have HQ : Hid (∀ q : Later W16.heap.size W16, q.1.cell? ⟨qb, qo, none⟩ = some (.int .i64 0) ∧ q.1.cell? ⟨qb, qo + 1, none⟩ = some (.int .i64 0) ∧ q.1.cell? ⟨qb, qo + 2, none⟩ = some (.int .i64 (mn : Int)) ∧ q.1.cell? ⟨qb, qo + 3, none⟩ = some (.int .i64 0) ∧ q.1.cell? ⟨pb, po, none⟩ = some (.int .i64 0) ∧ q.1.cell? ⟨pb, po + 1, none⟩ = some (.int .i64 0)) := Lib.hid (fun q => ⟨(q.2.cell (p := ⟨qb, _, none⟩) hqb).trans (by simpa using r0), (q.2.cell (p := ⟨qb, _, none⟩) hqb).trans (by simpa using r1), (q.2.cell (p := ⟨qb, _, none⟩) hqb).trans (by simpa using r2), (q.2.cell (p := ⟨qb, _, none⟩) hqb).trans (by simpa using r3), (q.2.cell (p := ⟨pb, _, none⟩) hpb).trans (by simpa using s0), (q.2.cell (p := ⟨pb, _, none⟩) hpb).trans (by simpa using s1)⟩)
        rw [hga] at HCA
        rw [hgb] at HCB
        have HC1 : Hid (∀ q : Later W16.heap.size W16, Calls Tryd.prog 17 #[.agg #[.int .i64 t0.k, .int .i64 t0.p, .string t0.n, .int .i64 t0.s, .slice la ln lc, .slice ka kn kc]] q.1 fun e w' => e = .returned (.int .i64 (mn : Int)) ∧ Below q.1.heap.size q.1 w') := Lib.hid (fun q => HCA.out q.1 (below_seq HB16.out q.2))
        have HC2 : Hid (∀ q : Later W16.heap.size W16, Calls Tryd.prog 17 #[.agg #[.int .i64 t1.k, .int .i64 t1.p, .string t1.n, .int .i64 t1.s, .slice la' ln' lc', .slice ka' kn' kc']] q.1 fun e w' => e = .returned (.int .i64 (gb : Int)) ∧ Below q.1.heap.size q.1 w') := Lib.hid (fun q => HCB.out q.1 (below_seq HB16.out q.2))
        clear hN0 hR0 hM0 hS0 hl hg hl' hg' r0 r1 r2 r3 s0 s1 eN eM eR eS ra0 ra1 hxl hxs oka okb hqb hpb hga hgb
        have a0 := fun q : Later W16.heap.size W16 => (HXA.out q.1 (below_seq HB16.out q.2)).1
        have a1 := fun q : Later W16.heap.size W16 => (HXA.out q.1 (below_seq HB16.out q.2)).2.1
        have a2 := fun q : Later W16.heap.size W16 => (HXA.out q.1 (below_seq HB16.out q.2)).2.2.1
        have a3 := fun q : Later W16.heap.size W16 => (HXA.out q.1 (below_seq HB16.out q.2)).2.2.2.1
        have a4 := fun q : Later W16.heap.size W16 => (HXA.out q.1 (below_seq HB16.out q.2)).2.2.2.2.1
        have a5 := fun q : Later W16.heap.size W16 => (HXA.out q.1 (below_seq HB16.out q.2)).2.2.2.2.2
        have b0 := fun q : Later W16.heap.size W16 => (HXB.out q.1 (below_seq HB16.out q.2)).1
        have b1 := fun q : Later W16.heap.size W16 => (HXB.out q.1 (below_seq HB16.out q.2)).2.1
        have b2 := fun q : Later W16.heap.size W16 => (HXB.out q.1 (below_seq HB16.out q.2)).2.2.1
        have b3 := fun q : Later W16.heap.size W16 => (HXB.out q.1 (below_seq HB16.out q.2)).2.2.2.1
        have b4 := fun q : Later W16.heap.size W16 => (HXB.out q.1 (below_seq HB16.out q.2)).2.2.2.2.1
        have b5 := fun q : Later W16.heap.size W16 => (HXB.out q.1 (below_seq HB16.out q.2)).2.2.2.2.2
        have d0 := fun q : Later W16.heap.size W16 => (HBX.out q.1 q.2).1
        have d1 := fun q : Later W16.heap.size W16 => (HBX.out q.1 q.2).2
        have q0 := fun q : Later W16.heap.size W16 => (HQ.out q).1
        have q1 := fun q : Later W16.heap.size W16 => (HQ.out q).2.1
        have q2 := fun q : Later W16.heap.size W16 => (HQ.out q).2.2.1
        have q3 := fun q : Later W16.heap.size W16 => (HQ.out q).2.2.2.1
        have q4 := fun q : Later W16.heap.size W16 => (HQ.out q).2.2.2.2.1
        have q5 := fun q : Later W16.heap.size W16 => (HQ.out q).2.2.2.2.2
        refine wp_region_later W16.heap.size W16 (by kernel_rfl) (by kernel_rfl) (Below.refl _ _) ?_
        repeat (go_big_quiet_step (first | (go_at_call 17; first | (with_reducible exact later_call _ (Nat.le_refl _) (HC1.out _)) | (with_reducible exact later_call _ (Nat.le_refl _) (HC2.out _)))))
        refine wpQuiet_nil ?_
        rintro _ ⟨⟨w17, hb17⟩, rfl⟩
        clear a0 a1 a2 a3 a4 a5 b0 b1 b2 b3 b4 b5 d0 d1 q0 q1 q2 q3 q4 q5 HC1 HC2 HQ HCA HCB HRK HR0 HRG HMA HMB
        go_wp2_with fail
        go_loopw [12] (fun i wr => ∃ j : Nat, i = .int .i64 j ∧ j ≤ mn ∧ Below W16.heap.size W16 wr) (fun i _ => mn - (intOf i).toNat)
        case atStart => exact ⟨0, rfl, by omega, hb17⟩
        case round =>
          obtain ⟨j, rfl, hj, hb⟩ := hrel
          by_cases hlt : j < mn
          · obtain ⟨⟨xk, xp, xl, xn⟩, hx⟩ : ∃ x, xs[j]? = some x := ⟨_, List.getElem?_eq_getElem (by rw [HXL.out]; exact hlt)⟩
            obtain ⟨hN, _, hM, _⟩ := HNG.out wr hb
            rw [HEN.out] at hN
            rw [HEM.out] at hM
            obtain ⟨_, _, _, e, _, _, hg⟩ := hN.open
            simp only [Value.slice.injEq] at e
            obtain ⟨rfl, rfl, rfl⟩ := e
            obtain ⟨_, _, _, e, _, _, hg'⟩ := hM.open
            simp only [Value.slice.injEq] at e
            obtain ⟨rfl, rfl, rfl⟩ := e
            obtain ⟨kb, ko, rfl, hkb, n0, n1, lv, nv, n2, n3, _, n5⟩ := hg j _ (by rw [List.getElem?_append_left (by rw [HXL.out]; exact hlt)]; exact hx)
            obtain ⟨kb', ko', rfl, hkb', m0, m1, lv', nv', m2, m3, _, m5⟩ := hg' j _ (by rw [List.getElem?_map, hx]; rfl)
            obtain ⟨x1, x2, x3, rfl, hxn, _⟩ := n5.open
            obtain ⟨y1, y2, y3, rfl, hyn, _⟩ := m5.open
            obtain rfl : y2 = x2 := hyn.out.trans hxn.out.symm
            have hxm : (⟨xk, xp, xl, xn⟩ : GNode) ∈ t0.pnod 0 (fun _ => 0) := by rw [HXS.out]; exact List.mem_of_getElem? hx
            obtain ⟨hk1, hk7, hp0, hpm⟩ := pnod_kp t0 [] 0 false 0 (fun _ => 0) HNA.out _ hxm
            simp only at hk1 hk7 hp0 hpm
            obtain ⟨d0, d1⟩ := HBX.out wr hb
            clear hN hM hg hg' hx hxm hxn hyn n5 m5 n2 m2
            by_cases h4 : 4 ≤ xk
            · have hac : actB xk = true := by simp [actB, h4, hk7]
              have m0' : wr.cell? ⟨kb', ko' + j * 4, none⟩ = some (.int .i64 xk) := m0
              have m1' : wr.cell? ⟨kb', ko' + j * 4 + 1, none⟩ = some (.int .i64 (xp + (k : Int))) := by
                rw [m1]; simp [upN, hac]
              have e4 : IntKind.i64.wrap (xp + (k : Int)) = xp + (k : Int) := by rw [IntKind.wrap_i64]; omega
              clear m0 m1 hac
              have HH : Hid (∀ q : Later wr.heap.size wr, (q.1.cell? ⟨kb, ko + j * 4, none⟩ = some (.int .i64 xk) ∧ q.1.cell? ⟨kb, ko + j * 4 + 1, none⟩ = some (.int .i64 xp) ∧ q.1.cell? ⟨kb, ko + j * 4 + 3, none⟩ = some (.slice x1 y2 x3)) ∧ (q.1.cell? ⟨kb', ko' + j * 4, none⟩ = some (.int .i64 xk) ∧ q.1.cell? ⟨kb', ko' + j * 4 + 1, none⟩ = some (.int .i64 (xp + (k : Int))) ∧ q.1.cell? ⟨kb', ko' + j * 4 + 3, none⟩ = some (.slice y1 y2 y3)) ∧ q.1.cell? ⟨w11.heap.size, 0, none⟩ = some (.slice (some ⟨kb, ko, none⟩) (mn + gb) nc) ∧ q.1.cell? ⟨w15.heap.size, 0, none⟩ = some (.slice (some ⟨kb', ko', none⟩) mn mc)) := Lib.hid (fun q => ⟨⟨(q.2.cell (p := ⟨kb, _, none⟩) hkb).trans n0, (q.2.cell (p := ⟨kb, _, none⟩) hkb).trans n1, (q.2.cell (p := ⟨kb, _, none⟩) hkb).trans n3⟩, ⟨(q.2.cell (p := ⟨kb', _, none⟩) hkb').trans m0', (q.2.cell (p := ⟨kb', _, none⟩) hkb').trans m1', (q.2.cell (p := ⟨kb', _, none⟩) hkb').trans m3⟩, HBX.out q.1 (below_seq hb q.2)⟩)
              go_wp2_with fail
              clear n0 n1 n3 m0' m1' m3 d0 d1
              have n0 := fun q => (HH.out q).1.1
              have n1 := fun q => (HH.out q).1.2.1
              have n3 := fun q => (HH.out q).1.2.2
              have m0 := fun q => (HH.out q).2.1.1
              have m1 := fun q => (HH.out q).2.1.2.1
              have m3 := fun q => (HH.out q).2.1.2.2
              have d0 := fun q => (HH.out q).2.2.1
              have d1 := fun q => (HH.out q).2.2.2
              refine wp_region_later wr.heap.size wr (by kernel_rfl) (by kernel_rfl) (Below.refl _ _) ?_
              repeat (go_big_quiet_step (fail))
              refine wpQuiet_nil ?_
              rintro _ ⟨⟨w18, hb18⟩, rfl⟩
              clear n0 n1 n3 m0 m1 m3 d0 d1
              go_wp2_with fail
              go_roundw
              case rel => exact ⟨j + 1, by go_num, by omega, below_seq hb hb18⟩
              case measure => simp [intOf]; omega
            · have hac : actB xk = false := by simp [actB, h4]
              have m0' : wr.cell? ⟨kb', ko' + j * 4, none⟩ = some (.int .i64 xk) := m0
              have m1' : wr.cell? ⟨kb', ko' + j * 4 + 1, none⟩ = some (.int .i64 xp) := by
                rw [m1]; simp [upN, hac]
              clear m0 m1 hac
              have HH : Hid (∀ q : Later wr.heap.size wr, (q.1.cell? ⟨kb, ko + j * 4, none⟩ = some (.int .i64 xk) ∧ q.1.cell? ⟨kb, ko + j * 4 + 1, none⟩ = some (.int .i64 xp) ∧ q.1.cell? ⟨kb, ko + j * 4 + 3, none⟩ = some (.slice x1 y2 x3)) ∧ (q.1.cell? ⟨kb', ko' + j * 4, none⟩ = some (.int .i64 xk) ∧ q.1.cell? ⟨kb', ko' + j * 4 + 1, none⟩ = some (.int .i64 xp) ∧ q.1.cell? ⟨kb', ko' + j * 4 + 3, none⟩ = some (.slice y1 y2 y3)) ∧ q.1.cell? ⟨w11.heap.size, 0, none⟩ = some (.slice (some ⟨kb, ko, none⟩) (mn + gb) nc) ∧ q.1.cell? ⟨w15.heap.size, 0, none⟩ = some (.slice (some ⟨kb', ko', none⟩) mn mc)) := Lib.hid (fun q => ⟨⟨(q.2.cell (p := ⟨kb, _, none⟩) hkb).trans n0, (q.2.cell (p := ⟨kb, _, none⟩) hkb).trans n1, (q.2.cell (p := ⟨kb, _, none⟩) hkb).trans n3⟩, ⟨(q.2.cell (p := ⟨kb', _, none⟩) hkb').trans m0', (q.2.cell (p := ⟨kb', _, none⟩) hkb').trans m1', (q.2.cell (p := ⟨kb', _, none⟩) hkb').trans m3⟩, HBX.out q.1 (below_seq hb q.2)⟩)
              go_wp2_with fail
              clear n0 n1 n3 m0' m1' m3 d0 d1
              have n0 := fun q => (HH.out q).1.1
              have n1 := fun q => (HH.out q).1.2.1
              have n3 := fun q => (HH.out q).1.2.2
              have m0 := fun q => (HH.out q).2.1.1
              have m1 := fun q => (HH.out q).2.1.2.1
              have m3 := fun q => (HH.out q).2.1.2.2
              have d0 := fun q => (HH.out q).2.2.1
              have d1 := fun q => (HH.out q).2.2.2
              refine wp_region_later wr.heap.size wr (by kernel_rfl) (by kernel_rfl) (Below.refl _ _) ?_
              repeat (go_big_quiet_step (fail))
              refine wpQuiet_nil ?_
              rintro _ ⟨⟨w18, hb18⟩, rfl⟩
              clear n0 n1 n3 m0 m1 m3 d0 d1
              go_wp2_with fail
              go_roundw
              case rel => exact ⟨j + 1, by go_num, by omega, below_seq hb hb18⟩
              case measure => simp [intOf]; omega
          · obtain rfl : j = mn := by omega
            obtain ⟨d0, d1⟩ := HBX.out wr hb
            have HBA := Lib.hid (below_seq HB16.out hb)
            have HBCw := Lib.hid (below_seq HBC.out hb)
            obtain ⟨c0, c1, c2, c3, c4, c5⟩ := HXC.out wr HBCw.out
            obtain ⟨a0, a1, a2, a3, a4, a5⟩ := HXA.out wr HBA.out
            go_wp2_with (go_at_call 18; go_loud (refine (rsame_l (HLC.out _ HBCw.out) (HLA.out _ HBA.out) (eqB_self _)).mono ?_; rintro en w19 ⟨rfl, hb19⟩))
            go_ret
            exact ⟨rfl, below_seq HB2.out (below_seq HBA.out hb19)⟩
      · have e1 : (c != 0) = true := by simpa using hc0
        have e2 : (c == 0) = false := by simpa using hc0
        have e3 : IntKind.i64.wrap (k : Int) = (k : Int) := by rw [IntKind.wrap_i64]; omega
        go_enter Tryd.func5, Tryd.ntmps5
        go_upto_region 1 with fail
        rw [show (w.alloc (.cells #[.int .i64 t0.k, .int .i64 t0.p, .string t0.n, .int .i64 t0.s, .slice la ln lc, .slice ka kn kc] 47)).alloc (.cells #[.int .i64 t1.k, .int .i64 t1.p, .string t1.n, .int .i64 t1.s, .slice la' ln' lc', .slice ka' kn' kc'] 47) = W2 from HW2.out]
        go_upto_region 3 with (first | (go_at_call 7; refine (HAW.out _ (Below.refl _ _)).mono ?_; rintro en w3 ⟨rfl, hb3⟩; obtain ⟨c0, c1, c2, c3, c4, c5⟩ := HXA.out w3 hb3; have HB3 := Lib.hid hb3; clear hb3) | (go_at_call 14; first | (with_reducible refine (HMA.out _ HB3.out).mono ?_; rintro en w4 ⟨rfl, hb4⟩; have HB4 := Lib.hid (below_seq HB3.out hb4); clear hb4 c0 c1 c2 c3 c4 c5; obtain ⟨c0, c1, c2, c3, c4, c5⟩ := HXB.out w4 HB4.out) | (with_reducible refine (HMB.out _ HB4.out).mono ?_; rintro en w5 ⟨rfl, hb5⟩; have HB5 := Lib.hid (below_seq HB4.out hb5); clear hb5)))
        clear c0 c1 c2 c3 c4 c5
        obtain ⟨c0, c1, c2, c3, c4, c5⟩ := HXA.out w5 HB5.out
        go_wp2_with (first | (go_at_call 16; go_loud (refine (HRK.out _ HB5.out).mono ?_; rintro en w6 ⟨xa, xn, xc, ya, yn, yc, rfl, hv6, hb6⟩; have HV6 := Lib.hid hv6; have HB6 := Lib.hid hb6; clear hv6 hb6)) | (go_at_call 15; go_loud (refine (HRG.out _ _ (TyVal.mono (fun _ hk => hk.2) HV6.out)).mono ?_; rintro en w7 ⟨rfl, hb7⟩)))
        go_ret
        exact ⟨rfl, below_seq HB2.out (below_seq HB5.out (below_seq HB6.out hb7))⟩
end Go.Proofs.YtecdapihfiahiaaDoor
