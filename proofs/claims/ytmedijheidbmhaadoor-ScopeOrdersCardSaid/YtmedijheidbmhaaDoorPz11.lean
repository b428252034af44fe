/- Scopes: the law that definitions are found, and calls and binders listed. (and what follows from it) -/
import Derived.Test.YtmedijheidbmhaaDoorPz7
import Derived.Test.YtmedijheidbmhaaDoorPz9
import Derived.Test.YtmedijheidbmhaaDoorPz10
import Derived.Test.YtmedijheidbmhaaDoorPz6
import Derived.Deep.RegionHeld3

/- Scopes: the law that definitions are found, and calls and binders listed. -/
namespace Go.Proofs.YtmedijheidbmhaaDoor
open Go.RowKit Go.Deep Go.Shelf

theorem rcalls_l {W : World} {v : Value} {p : Pr} {l : List ByteArray} (h : PLies W v p) (hs : p.size ≤ 1000000) (hl : p.gath selC = l) : Calls Tryd.prog 12 #[v] W fun e w' => ∃ la ln lc, e = .returned (.slice la ln lc) ∧ SLies w' (.slice la ln lc) l ∧ Below W.heap.size W w' := by
  rw [← hl]
  exact (rcalls_any p v W h hs).mono fun _ _ ⟨la, ln, lc, h1, h2, h3⟩ => ⟨la, ln, lc, h1, h2.mono (fun _ hk => hk.2), h3⟩
theorem rbinders_l {W : World} {v : Value} {p : Pr} {l : List ByteArray} (h : PLies W v p) (hs : p.size ≤ 1000000) (hl : p.gath Pr.bnd = l) : Calls Tryd.prog 14 #[v] W fun e w' => ∃ la ln lc, e = .returned (.slice la ln lc) ∧ SLies w' (.slice la ln lc) l ∧ Below W.heap.size W w' := by
  rw [← hl]
  exact (rbinders_any p v W h hs).mono fun _ _ ⟨la, ln, lc, h1, h2, h3⟩ => ⟨la, ln, lc, h1, h2.mono (fun _ hk => hk.2), h3⟩
theorem rfind_l {W : World} {v : Value} {g : Pg} {s : ByteArray} {x : Int} (h : GLies W v g) (hx : fdZ (fdI g.ds s) = x) : Calls Tryd.prog 9 #[v, .string s] W fun e w' => e = .returned (.int .i64 x) ∧ Below W.heap.size W w' :=
  rfind_any _ g s v W (plow W) h x hx
theorem zfew_l {W : World} {v : Value} {p : Pr} {m : Nat} {b : Bool} (h : PLies W v p) (hm : m ≤ 1000000) (hb : p.few m = b) : Calls Tryd.prog 7 #[v, .int .i64 m] W fun e w' => e = .returned (.bool b) ∧ Below W.heap.size W w' := by
  rw [← hb]; exact prfew_any _ p m hm v W (plow W) h
theorem zlittle_l {W : World} {v : Value} {g : Pg} {m : Nat} {b : Bool} (h : GLies W v g) (hm : m ≤ 1000000) (hb : g.little m = b) : Calls Tryd.prog 6 #[v, .int .i64 m] W fun e w' => e = .returned (.bool b) ∧ Below W.heap.size W w' := by
  rw [← hb]; exact rlittle_any _ g m hm v W (plow W) h
theorem self_decZ (l : List ByteArray) : decide (l = l) = true := by simp

set_option maxHeartbeats 16000000 in
set_option maxRecDepth 100000 in
theorem ScopeFinds_any (t0 : Pg) (_ : Pg.fine t0) (v0 : Value) (t1 : Pr) (_ : t1.fine) (v1 : Value) (t2 : ByteArray) (_ : t2.size ≤ maxLen) (E : Nat) (w : World) (he : Env E w) (h0 : GLies w v0 t0) (h1 : PLies w v1 t1) :
    Calls Tryd.prog 3 #[v0, v1, .string t2] w fun e w' => e = .returned (.bool true) ∧ Below w.heap.size w w' := by
  have g0 := h0
  have g1 := h1
  obtain ⟨dv, lv, av, tl, tk, kv, rfl, hd, hp⟩ := g0
  obtain ⟨lv', av', tl', tk', kv', rfl, _⟩ := g1
  obtain ⟨⟨la, ln, lc, rfl⟩, ⟨aa, an, ac, rfl⟩, ⟨ta, tn, tc, rfl⟩, ⟨ua, un, uc, rfl⟩, ka, kn, kc, rfl⟩ := pr_slices hp
  obtain ⟨⟨la1, ln1, lc1, rfl⟩, ⟨aa1, an1, ac1, rfl⟩, ⟨ta1, tn1, tc1, rfl⟩, ⟨ua1, un1, uc1, rfl⟩, ka1, kn1, kc1, rfl⟩ := pr_slices h1
  obtain ⟨pa, len, c, rfl, _⟩ := hd.open
  obtain ⟨W0, hW0⟩ : ∃ W0, (w.alloc (cell13 t0 (.slice pa len c) (.slice la ln lc) (.slice aa an ac) (.slice ta tn tc) (.slice ua un uc) (.slice ka kn kc))).alloc (cell12 t1 (.slice la1 ln1 lc1) (.slice aa1 an1 ac1) (.slice ta1 tn1 tc1) (.slice ua1 un1 uc1) (.slice ka1 kn1 kc1)) = W0 := ⟨_, rfl⟩
  have hb0 : Below w.heap.size w W0 := by rw [← hW0]; exact (blkBelow w _ _).alloc (by simp) _
  have k0 : T13 W0 w.heap.size (cell13 t0 (.slice pa len c) (.slice la ln lc) (.slice aa an ac) (.slice ta tn tc) (.slice ua un uc) (.slice ka kn kc)) := by
    rw [← hW0]; unfold T13; simp only [heap_push, Array.getElem?_push, Array.size_push]; simp
  have k1 : Twelve W0 (w.heap.size + 1) (.int .i64 t1.k) (.string t1.c) (.string t1.x) (.slice la1 ln1 lc1) (.slice aa1 an1 ac1) (.int .i64 t1.t.k) (.int .i64 t1.t.p) (.string t1.t.n) (.int .i64 t1.t.s) (.slice ta1 tn1 tc1) (.slice ua1 un1 uc1) (.slice ka1 kn1 kc1) := by
    rw [← hW0]; unfold Twelve; simp only [heap_push, Array.getElem?_push, Array.size_push]; simp
  have HT := Lib.hid k0
  have HU := Lib.hid k1
  have HG : Hid (GLies W0 (.agg #[.slice pa len c, .int .i64 t0.m.k, .string t0.m.c, .string t0.m.x, .slice la ln lc, .slice aa an ac, .int .i64 t0.m.t.k, .int .i64 t0.m.t.p, .string t0.m.t.n, .int .i64 t0.m.t.s, .slice ta tn tc, .slice ua un uc, .slice ka kn kc]) t0) := Lib.hid (h0.to hb0)
  have HP : Hid (PLies W0 (.agg #[.int .i64 t1.k, .string t1.c, .string t1.x, .slice la1 ln1 lc1, .slice aa1 an1 ac1, .int .i64 t1.t.k, .int .i64 t1.t.p, .string t1.t.n, .int .i64 t1.t.s, .slice ta1 tn1 tc1, .slice ua1 un1 uc1, .slice ka1 kn1 kc1]) t1) := Lib.hid (h1.to hb0)
  have HE := Lib.hid (he.to hb0)
  have HB0 := Lib.hid hb0
  have HW0 := Lib.hid hW0
  have HAW : Hid (∀ (E : Nat) (w : World), Env E w → Calls Tryd.prog 5 #[] w fun e w' => e = .returned (.bool true) ∧ Below w.heap.size w w') := Lib.hid sawake_any
  obtain ⟨f0, hf0⟩ : ∃ x, t0.little 500 = x := ⟨_, rfl⟩
  obtain ⟨f1, hf1⟩ : ∃ x, t1.few 500 = x := ⟨_, rfl⟩
  have F0 := Lib.hid hf0
  have F1 := Lib.hid hf1
  clear h0 h1 hd hp k0 k1 hb0 hW0 he hf0 hf1
  cases f0
  · go_enter Tryd.func3, Tryd.ntmps3
    go_wp2_with fail
    refine scalls_at HW0.out ?_
    refine (HAW.out _ _ HE.out).mono ?_
    rintro e w1 ⟨rfl, hb1⟩
    obtain ⟨c0, c1, c2, c3, c4, c5, c6, c7, c8, c9, c10, c11, c12⟩ := (HT.out.to hb1).cells
    go_wp2_with fail
    clear c0 c1 c2 c3 c4 c5 c6 c7 c8 c9 c10 c11 c12
    refine (zlittle_l (m := 500) (HG.out.to hb1) (by omega) F0.out).mono ?_
    rintro e w2 ⟨rfl, hb2⟩
    have hz2 := below_seq hb1 hb2
    go_wp2_with fail
    refine (HAW.out _ _ (HE.out.to hz2)).mono ?_
    rintro e w9 ⟨rfl, hb9⟩
    go_wp2_with fail
    go_ret
    exact ⟨rfl, below_seq HB0.out (below_seq hz2 hb9)⟩
  · cases f1
    · go_enter Tryd.func3, Tryd.ntmps3
      go_wp2_with fail
      refine scalls_at HW0.out ?_
      refine (HAW.out _ _ HE.out).mono ?_
      rintro e w1 ⟨rfl, hb1⟩
      obtain ⟨c0, c1, c2, c3, c4, c5, c6, c7, c8, c9, c10, c11, c12⟩ := (HT.out.to hb1).cells
      go_wp2_with fail
      clear c0 c1 c2 c3 c4 c5 c6 c7 c8 c9 c10 c11 c12
      refine (zlittle_l (m := 500) (HG.out.to hb1) (by omega) F0.out).mono ?_
      rintro e w2 ⟨rfl, hb2⟩
      have hz2 := below_seq hb1 hb2
      obtain ⟨⟨c0, c1, c2, c3, c4, c5, c6, c7, c8, c9, c10, c11⟩, _⟩ := (HU.out.to hz2).cells
      go_wp2_with fail
      clear c0 c1 c2 c3 c4 c5 c6 c7 c8 c9 c10 c11
      refine (zfew_l (m := 500) (HP.out.to hz2) (by omega) F1.out).mono ?_
      rintro e w3 ⟨rfl, hb3⟩
      have hz3 := below_seq hz2 hb3
      go_wp2_with fail
      refine (HAW.out _ _ (HE.out.to hz3)).mono ?_
      rintro e w9 ⟨rfl, hb9⟩
      go_wp2_with fail
      go_ret
      exact ⟨rfl, below_seq HB0.out (below_seq hz3 hb9)⟩
    · have hsz := (Pr.few_facts F1.out).1
      obtain ⟨fi, hfi⟩ : ∃ x, fdI t0.ds t2 = x := ⟨_, rfl⟩
      have HFI := Lib.hid hfi
      have HSZ : Hid (t1.size ≤ 1000000) := Lib.hid (by omega)
      clear hsz hfi
      go_enter Tryd.func3, Tryd.ntmps3
      go_wp2_with fail
      refine scalls_at HW0.out ?_
      refine (HAW.out _ _ HE.out).mono ?_
      rintro e w1 ⟨rfl, hb1⟩
      obtain ⟨c0, c1, c2, c3, c4, c5, c6, c7, c8, c9, c10, c11, c12⟩ := (HT.out.to hb1).cells
      go_wp2_with fail
      clear c0 c1 c2 c3 c4 c5 c6 c7 c8 c9 c10 c11 c12
      refine (zlittle_l (m := 500) (HG.out.to hb1) (by omega) F0.out).mono ?_
      rintro e w2 ⟨rfl, hb2⟩
      have hz2 := below_seq hb1 hb2
      obtain ⟨⟨c0, c1, c2, c3, c4, c5, c6, c7, c8, c9, c10, c11⟩, _⟩ := (HU.out.to hz2).cells
      clear hb1 hb2
      go_wp2_with fail
      clear c0 c1 c2 c3 c4 c5 c6 c7 c8 c9 c10 c11
      refine (zfew_l (m := 500) (HP.out.to hz2) (by omega) F1.out).mono ?_
      rintro e w3 ⟨rfl, hb3⟩
      have hz3 := below_seq hz2 hb3
      obtain ⟨c0, c1, c2, c3, c4, c5, c6, c7, c8, c9, c10, c11, c12⟩ := (HT.out.to hz3).cells
      clear hz2 hb3
      go_wp2_with fail
      clear c0 c1 c2 c3 c4 c5 c6 c7 c8 c9 c10 c11 c12
      refine (find_l (HG.out.to hz3) HFI.out).mono ?_
      rintro e w4 ⟨rfl, hb4⟩
      have hz4 := below_seq hz3 hb4
      obtain ⟨c0, c1, c2, c3, c4, c5, c6, c7, c8, c9, c10, c11, c12⟩ := (HT.out.to hz4).cells
      clear hz3 hb4
      go_wp2_with fail
      clear c0 c1 c2 c3 c4 c5 c6 c7 c8 c9 c10 c11 c12
      refine (rfind_l (HG.out.to hz4) (by rw [HFI.out])).mono ?_
      rintro e w5 ⟨rfl, hb5⟩
      have HZ5 := Lib.hid (below_seq hz4 hb5)
      have T0 : Hid (Twelve w5 (w.heap.size + 1) (.int .i64 t1.k) (.string t1.c) (.string t1.x) (.slice la1 ln1 lc1) (.slice aa1 an1 ac1) (.int .i64 t1.t.k) (.int .i64 t1.t.p) (.string t1.t.n) (.int .i64 t1.t.s) (.slice ta1 tn1 tc1) (.slice ua1 un1 uc1) (.slice ka1 kn1 kc1)) := Lib.hid (HU.out.to HZ5.out)
      have L2 : Hid (PLies w5 (.agg #[.int .i64 t1.k, .string t1.c, .string t1.x, .slice la1 ln1 lc1, .slice aa1 an1 ac1, .int .i64 t1.t.k, .int .i64 t1.t.p, .string t1.t.n, .int .i64 t1.t.s, .slice ta1 tn1 tc1, .slice ua1 un1 uc1, .slice ka1 kn1 kc1]) t1) := Lib.hid (HP.out.to HZ5.out)
      have HB := Lib.hid (Below.refl w5.heap.size w5).drew
      clear hz4 hb5 HFI
      cases fi with
      | none =>
        simp only [fdZ, Option.getD, Option.isSome]
        go_wp2_with fail
        go_region_held3 (fun w' => w'.cell? ⟨w.heap.size + 1, 0, none⟩ = some (.int .i64 t1.k) ∧ w'.cell? ⟨w.heap.size + 1, 1, none⟩ = some (.string t1.c) ∧ w'.cell? ⟨w.heap.size + 1, 2, none⟩ = some (.string t1.x) ∧ w'.cell? ⟨w.heap.size + 1, 3, none⟩ = some (.slice la1 ln1 lc1) ∧ w'.cell? ⟨w.heap.size + 1, 4, none⟩ = some (.slice aa1 an1 ac1) ∧ w'.cell? ⟨w.heap.size + 1, 5, none⟩ = some (.int .i64 t1.t.k) ∧ w'.cell? ⟨w.heap.size + 1, 6, none⟩ = some (.int .i64 t1.t.p) ∧ w'.cell? ⟨w.heap.size + 1, 7, none⟩ = some (.string t1.t.n) ∧ w'.cell? ⟨w.heap.size + 1, 8, none⟩ = some (.int .i64 t1.t.s) ∧ w'.cell? ⟨w.heap.size + 1, 9, none⟩ = some (.slice ta1 tn1 tc1) ∧ w'.cell? ⟨w.heap.size + 1, 10, none⟩ = some (.slice ua1 un1 uc1) ∧ w'.cell? ⟨w.heap.size + 1, 11, none⟩ = some (.slice ka1 kn1 kc1)) (exact (T0.out.to HB.out).cells.1) ((first
          | (go_at_call 11; with_reducible refine (scalls_l (L2.out.to HB.out) HSZ.out rfl).mono ?_; rintro e y ⟨xa1, xn1, xc1, rfl, hsl, hh⟩; have HX1 := Lib.hid hsl; replace HB := Lib.hid (below_seq HB.out hh); clear hsl hh)
          | (go_at_call 12; with_reducible refine (rcalls_l (L2.out.to HB.out) HSZ.out rfl).mono ?_; rintro e y ⟨xa2, xn2, xc2, rfl, hsl, hh⟩; have HX2 := Lib.hid hsl; have HX3 := Lib.hid (SLies.to HX1.out hh); replace HB := Lib.hid (below_seq HB.out hh); clear hsl hh)
          | (go_at_call 13; with_reducible refine (sbinders_l (L2.out.to HB.out) HSZ.out rfl).mono ?_; rintro e y ⟨xa1, xn1, xc1, rfl, hsl, hh⟩; have HY1 := Lib.hid hsl; replace HB := Lib.hid (below_seq HB.out hh); clear hsl hh)
          | (go_at_call 14; with_reducible refine (rbinders_l (L2.out.to HB.out) HSZ.out rfl).mono ?_; rintro e y ⟨xa2, xn2, xc2, rfl, hsl, hh⟩; have HY2 := Lib.hid hsl; have HY3 := Lib.hid (SLies.to HY1.out hh); replace HB := Lib.hid (below_seq HB.out hh); clear hsl hh)
          | (go_at_call 10; with_reducible refine (ptexts_l HY3.out HY2.out (self_decZ _)).mono ?_; rintro e y ⟨rfl, hh⟩; replace HB := Lib.hid (below_seq HB.out hh); clear hh)
          | (go_at_call 10; with_reducible refine (ptexts_l HX3.out HX2.out (self_decZ _)).mono ?_; rintro e y ⟨rfl, hh⟩; replace HB := Lib.hid (below_seq HB.out hh); clear hh)
          | fail))
        all_goals (go_wp2_with fail)
        all_goals go_ret
        all_goals exact ⟨rfl, below_seq HB0.out (below_seq HZ5.out HB.out)⟩
      | some i =>
        obtain ⟨z, hz⟩ : ∃ z : Int, (i : Int) = z := ⟨_, rfl⟩
        have hz0 : 0 ≤ z := by omega
        have hz4 : (z < 0) = False := eq_false (by omega)
        have hz5 : (if z < 0 then (0 : Int) else z) = z := if_neg (by omega)
        have hz2 : decide (0 ≤ z) = true := by simpa using hz0
        have hz3 : decide (z < 0) = false := by simp; omega
        simp only [fdZ, Option.getD, Option.isSome]
        rw [hz]
        clear hz
        go_wp2_with fail
        go_region_held3 (fun w' => w'.cell? ⟨w.heap.size + 1, 0, none⟩ = some (.int .i64 t1.k) ∧ w'.cell? ⟨w.heap.size + 1, 1, none⟩ = some (.string t1.c) ∧ w'.cell? ⟨w.heap.size + 1, 2, none⟩ = some (.string t1.x) ∧ w'.cell? ⟨w.heap.size + 1, 3, none⟩ = some (.slice la1 ln1 lc1) ∧ w'.cell? ⟨w.heap.size + 1, 4, none⟩ = some (.slice aa1 an1 ac1) ∧ w'.cell? ⟨w.heap.size + 1, 5, none⟩ = some (.int .i64 t1.t.k) ∧ w'.cell? ⟨w.heap.size + 1, 6, none⟩ = some (.int .i64 t1.t.p) ∧ w'.cell? ⟨w.heap.size + 1, 7, none⟩ = some (.string t1.t.n) ∧ w'.cell? ⟨w.heap.size + 1, 8, none⟩ = some (.int .i64 t1.t.s) ∧ w'.cell? ⟨w.heap.size + 1, 9, none⟩ = some (.slice ta1 tn1 tc1) ∧ w'.cell? ⟨w.heap.size + 1, 10, none⟩ = some (.slice ua1 un1 uc1) ∧ w'.cell? ⟨w.heap.size + 1, 11, none⟩ = some (.slice ka1 kn1 kc1)) (exact (T0.out.to HB.out).cells.1) ((first
          | (go_at_call 11; with_reducible refine (scalls_l (L2.out.to HB.out) HSZ.out rfl).mono ?_; rintro e y ⟨xa1, xn1, xc1, rfl, hsl, hh⟩; have HX1 := Lib.hid hsl; replace HB := Lib.hid (below_seq HB.out hh); clear hsl hh)
          | (go_at_call 12; with_reducible refine (rcalls_l (L2.out.to HB.out) HSZ.out rfl).mono ?_; rintro e y ⟨xa2, xn2, xc2, rfl, hsl, hh⟩; have HX2 := Lib.hid hsl; have HX3 := Lib.hid (SLies.to HX1.out hh); replace HB := Lib.hid (below_seq HB.out hh); clear hsl hh)
          | (go_at_call 13; with_reducible refine (sbinders_l (L2.out.to HB.out) HSZ.out rfl).mono ?_; rintro e y ⟨xa1, xn1, xc1, rfl, hsl, hh⟩; have HY1 := Lib.hid hsl; replace HB := Lib.hid (below_seq HB.out hh); clear hsl hh)
          | (go_at_call 14; with_reducible refine (rbinders_l (L2.out.to HB.out) HSZ.out rfl).mono ?_; rintro e y ⟨xa2, xn2, xc2, rfl, hsl, hh⟩; have HY2 := Lib.hid hsl; have HY3 := Lib.hid (SLies.to HY1.out hh); replace HB := Lib.hid (below_seq HB.out hh); clear hsl hh)
          | (go_at_call 10; with_reducible refine (ptexts_l HY3.out HY2.out (self_decZ _)).mono ?_; rintro e y ⟨rfl, hh⟩; replace HB := Lib.hid (below_seq HB.out hh); clear hh)
          | (go_at_call 10; with_reducible refine (ptexts_l HX3.out HX2.out (self_decZ _)).mono ?_; rintro e y ⟨rfl, hh⟩; replace HB := Lib.hid (below_seq HB.out hh); clear hh)
          | fail))
        all_goals (go_wp2_with fail)
        all_goals go_ret
        all_goals exact ⟨rfl, below_seq HB0.out (below_seq HZ5.out HB.out)⟩

end Go.Proofs.YtmedijheidbmhaaDoor
