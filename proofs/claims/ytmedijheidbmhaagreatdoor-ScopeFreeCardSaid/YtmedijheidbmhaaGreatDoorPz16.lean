/- Scopes: the law that Check gives the reference's faults. (and what follows from it) -/
import Derived.Test.YtmedijheidbmhaaGreatDoorPz13
import Derived.Test.YtmedijheidbmhaaGreatDoorPz15

/- Scopes: the law that Check gives the reference's faults. -/
namespace Go.Proofs.YtmedijheidbmhaaGreatDoor
open Go.RowKit Go.Deep Go.Shelf

theorem chk_zero {g : Pg} {ca : Nat} (h : g.chk = (0, ca)) : ca = 0 := by
  unfold Pg.chk at h
  split at h
  · next h0 => exact absurd (Prod.mk.inj h).1 h0
  · split at h
    · exact absurd (Prod.mk.inj h).1 (by omega)
    · split at h
      · next i hf =>
        have := List.find?_some hf
        simp at this
        exact absurd (Prod.mk.inj h).1 this
      · exact (Prod.mk.inj h).2.symm
theorem rcheck_l {W : World} {v : Value} {g : Pg} {ce : Int} {ca : Nat} {m : Nat} (h : GLies W v g) (hf : Pg.fine g) (hl : g.little m = true) (hm : m ≤ 100000) (hc : g.chk = (ce, ca)) : Calls Tryz.prog 8 #[v] W fun e w' => e = .returned (.tuple #[.int .i64 ce, .int .i64 ((rAt ce ca g.ds.length : Nat) : Int)]) ∧ Below W.heap.size W w' := by
  obtain ⟨hg, ht⟩ := little_good' hm hf hl
  exact rcheck_any g hg ht (fun d hd => by have := (Df.little_facts ((Pg.little_facts hl).2.2 d hd)).2.1; omega) v W h ce ca hc

set_option maxHeartbeats 8000000 in
set_option maxRecDepth 100000 in
theorem ScopeChecks_any (t0 : Pg) (hf0 : Pg.fine t0) (v0 : Value) (E : Nat) (w : World) (he : Env E w) (h0 : GLies w v0 t0) :
    Calls Tryz.prog 3 #[v0] w fun e w' => e = .returned (.bool true) ∧ Below w.heap.size w w' := by
  have g0 := h0
  obtain ⟨dv, lv, av, tl, tk, kv, rfl, hd, hp⟩ := g0
  obtain ⟨⟨la, ln, lc, rfl⟩, ⟨aa, an, ac, rfl⟩, ⟨ta, tn, tc, rfl⟩, ⟨ua, un, uc, rfl⟩, ka, kn, kc, rfl⟩ := pr_slices hp
  obtain ⟨pa, len, c, rfl, _⟩ := hd.open
  obtain ⟨W0, hW0⟩ : ∃ W0, w.alloc (cell13 t0 (.slice pa len c) (.slice la ln lc) (.slice aa an ac) (.slice ta tn tc) (.slice ua un uc) (.slice ka kn kc)) = W0 := ⟨_, rfl⟩
  have hb0 : Below w.heap.size w W0 := by rw [← hW0]; exact blkBelow w _ _
  have t1 : T13 W0 w.heap.size (cell13 t0 (.slice pa len c) (.slice la ln lc) (.slice aa an ac) (.slice ta tn tc) (.slice ua un uc) (.slice ka kn kc)) := by rw [← hW0]; exact World.alloc_heap_new _ _
  have HT := Lib.hid t1
  have HG : Hid (GLies W0 (pgAgg t0 (.slice pa len c) (.slice la ln lc) (.slice aa an ac) (.slice ta tn tc) (.slice ua un uc) (.slice ka kn kc)) t0) := Lib.hid (h0.to hb0)
  have HE := Lib.hid (he.to hb0)
  have HB0 := Lib.hid hb0
  have HW0 := Lib.hid hW0
  have HF := Lib.hid hf0
  have HAW : Hid (∀ (E : Nat) (w : World), Env E w → Calls Tryz.prog 6 #[] w fun e w' => e = .returned (.bool true) ∧ Below w.heap.size w w') := Lib.hid sawake_any
  obtain ⟨f0, hf⟩ : ∃ x, t0.little 1000 = x := ⟨_, rfl⟩
  have F0 := Lib.hid hf
  unfold pgAgg at HG
  clear h0 hd hp t1 hb0 hW0 he hf0 hf
  cases f0
  · go_enter Tryz.func3, Tryz.ntmps3
    go_wp2_with fail
    refine scalls_at HW0.out ?_
    refine (HAW.out _ _ HE.out).mono ?_
    rintro e w1 ⟨rfl, hb1⟩
    obtain ⟨c0, c1, c2, c3, c4, c5, c6, c7, c8, c9, c10, c11, c12⟩ := (HT.out.to hb1).cells
    go_wp2_with fail
    clear c0 c1 c2 c3 c4 c5 c6 c7 c8 c9 c10 c11 c12
    refine (plittle_l' (m := 1000) (HG.out.to hb1) (by omega) F0.out).mono ?_
    rintro e w2 ⟨rfl, hb2⟩
    have hz2 := below_seq hb1 hb2
    go_wp2_with fail
    refine (HAW.out _ _ (HE.out.to hz2)).mono ?_
    rintro e w9 ⟨rfl, hb9⟩
    go_wp2_with fail
    go_ret
    exact ⟨rfl, below_seq HB0.out (below_seq hz2 hb9)⟩
  · obtain ⟨ce, ca, hc⟩ : ∃ ce ca, t0.chk = (ce, ca) := ⟨_, _, rfl⟩
    obtain ⟨hg, _⟩ := little_good' (m := 1000) (by omega) HF.out F0.out
    have HC := Lib.hid hc
    have HGG := Lib.hid hg
    clear hc hg
    go_enter Tryz.func3, Tryz.ntmps3
    go_wp2_with fail
    refine scalls_at HW0.out ?_
    refine (HAW.out _ _ HE.out).mono ?_
    rintro e w1 ⟨rfl, hb1⟩
    obtain ⟨c0, c1, c2, c3, c4, c5, c6, c7, c8, c9, c10, c11, c12⟩ := (HT.out.to hb1).cells
    go_wp2_with fail
    clear c0 c1 c2 c3 c4 c5 c6 c7 c8 c9 c10 c11 c12
    refine (plittle_l' (m := 1000) (HG.out.to hb1) (by omega) F0.out).mono ?_
    rintro e w2 ⟨rfl, hb2⟩
    have hz2 := below_seq hb1 hb2
    obtain ⟨c0, c1, c2, c3, c4, c5, c6, c7, c8, c9, c10, c11, c12⟩ := (HT.out.to hz2).cells
    clear hb1 hb2
    go_wp2_with fail
    clear c0 c1 c2 c3 c4 c5 c6 c7 c8 c9 c10 c11 c12
    refine (rcheck_l (HG.out.to hz2) HF.out F0.out (by omega) HC.out).mono ?_
    rintro e w3 ⟨rfl, hb3⟩
    have hz3 := below_seq hz2 hb3
    obtain ⟨c0, c1, c2, c3, c4, c5, c6, c7, c8, c9, c10, c11, c12⟩ := (HT.out.to hz3).cells
    clear hz2 hb3
    go_wp2_with fail
    clear c0 c1 c2 c3 c4 c5 c6 c7 c8 c9 c10 c11 c12
    refine (check_l (HE.out.to hz3) (HG.out.to hz3) HGG.out HC.out).mono ?_
    rintro e w4 ⟨rfl, hb4⟩
    have HZ4 := Lib.hid (below_seq hz3 hb4)
    clear hz3 hb4
    by_cases h0 : ce = 0
    · subst h0
      obtain rfl := chk_zero HC.out
      go_wp2_with fail
      go_ret
      exact ⟨rfl, below_seq HB0.out (HZ4.out.alloc HZ4.out.size _)⟩
    · have h1 : (ce == 0) = false := by simpa using h0
      have h2 : (ce != 0) = true := by simpa using h0
      have h3 : rAt ce ca t0.ds.length = ca := by unfold rAt; rw [if_neg h0]
      rw [h3]
      clear h0 h3
      go_wp2_with fail
      go_ret
      exact ⟨ret_bool (by simp), below_seq HB0.out (HZ4.out.alloc HZ4.out.size _)⟩

end Go.Proofs.YtmedijheidbmhaaGreatDoor
