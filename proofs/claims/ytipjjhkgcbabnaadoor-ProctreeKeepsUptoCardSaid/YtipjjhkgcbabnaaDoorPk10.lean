/- Processes: the fixed examples of the law all come out right. (and what follows from it) -/
import Derived.Test.YtipjjhkgcbabnaaDoorPk8
import Derived.Test.YtipjjhkgcbabnaaDoorPk9
import Derived.Deep.RegionHeld3

/- Processes: the fixed examples of the law all come out right. -/
namespace Go.Proofs.YtipjjhkgcbabnaaDoor
open Go.RowKit Go.Deep Go.Shelf

theorem szb4 : p4.size ≤ 1000000 := by decide
theorem sz4 : (p4.size : Int) = 4 := by decide
theorem dpe4 : (p4.depth : Int) = 4 := by decide
theorem tot4b : g4.total ≤ 1000000000 := by rw [total_g4]; decide
theorem tot4 : (g4.total : Int) = 5 := by rw [total_g4]; rfl
theorem lies_g4' {W : World} {lv av tl tk kv : Value} (h : PLies W (.agg #[.int .i64 2, .string ⟨#[97]⟩, .string ⟨#[]⟩, lv, av, .int .i64 0, .int .i64 0, .string ⟨#[]⟩, .int .i64 0, tl, tk, kv]) p4) : GLies W (.agg #[.slice none 0 0, .int .i64 2, .string ⟨#[97]⟩, .string ⟨#[]⟩, lv, av, .int .i64 0, .int .i64 0, .string ⟨#[]⟩, .int .i64 0, tl, tk, kv]) g4 := lies_g4 h
theorem pcopy4_l {W : World} {v : Value} (h : PLies W v p4) : Calls Tryd.prog 41 #[v] W fun e w' => ∃ la ln lc aa an ac ta tn tc ua un uc ka kn kc, e = .returned (.agg #[.int .i64 2, .string ⟨#[97]⟩, .string ⟨#[]⟩, .slice la ln lc, .slice aa an ac, .int .i64 0, .int .i64 0, .string ⟨#[]⟩, .int .i64 0, .slice ta tn tc, .slice ua un uc, .slice ka kn kc]) ∧
    PLies w' (.agg #[.int .i64 2, .string ⟨#[97]⟩, .string ⟨#[]⟩, .slice la ln lc, .slice aa an ac, .int .i64 0, .int .i64 0, .string ⟨#[]⟩, .int .i64 0, .slice ta tn tc, .slice ua un uc, .slice ka kn kc]) p4 ∧ Below W.heap.size W w' := pcopy_l h mod_p4
theorem s24 {W0 W : World} {x4 x5 x6 x7 x8 : Nat} (t4 : Twelve W0 x8 (.int .i64 2) (.string ⟨#[97]⟩) (.string ⟨#[]⟩) (sl0) (sl1 x6) (.int .i64 0) (.int .i64 0) (.string ⟨#[]⟩) (.int .i64 0) (sl0) (sl0) (sl1 x7)) (t3 : Twelve W0 x5 (.int .i64 6) (.string ⟨#[99]⟩) (.string ⟨#[100]⟩) (sl0) (sl0) (.int .i64 3) (.int .i64 0) (.string ⟨#[]⟩) (.int .i64 0) (sl0) (sl0) (sl1 x4)) (h : Below W0.heap.size W0 W) :
    (W.cell? ⟨x8, 0, none⟩ = some (.int .i64 2) ∧ W.cell? ⟨x8, 1, none⟩ = some (.string ⟨#[97]⟩) ∧ W.cell? ⟨x8, 2, none⟩ = some (.string ⟨#[]⟩) ∧ W.cell? ⟨x8, 3, none⟩ = some (.slice none 0 0) ∧ W.cell? ⟨x8, 4, none⟩ = some (.slice (some ⟨x6, 0, none⟩) 1 1) ∧ W.cell? ⟨x8, 5, none⟩ = some (.int .i64 0) ∧ W.cell? ⟨x8, 6, none⟩ = some (.int .i64 0) ∧ W.cell? ⟨x8, 7, none⟩ = some (.string ⟨#[]⟩) ∧ W.cell? ⟨x8, 8, none⟩ = some (.int .i64 0) ∧ W.cell? ⟨x8, 9, none⟩ = some (.slice none 0 0) ∧ W.cell? ⟨x8, 10, none⟩ = some (.slice none 0 0) ∧ W.cell? ⟨x8, 11, none⟩ = some (.slice (some ⟨x7, 0, none⟩) 1 1)) ∧ (W.cell? ⟨x5, 0, none⟩ = some (.int .i64 6) ∧ W.cell? ⟨x5, 1, none⟩ = some (.string ⟨#[99]⟩) ∧ W.cell? ⟨x5, 2, none⟩ = some (.string ⟨#[100]⟩) ∧ W.cell? ⟨x5, 3, none⟩ = some (.slice none 0 0) ∧ W.cell? ⟨x5, 4, none⟩ = some (.slice none 0 0) ∧ W.cell? ⟨x5, 5, none⟩ = some (.int .i64 3) ∧ W.cell? ⟨x5, 6, none⟩ = some (.int .i64 0) ∧ W.cell? ⟨x5, 7, none⟩ = some (.string ⟨#[]⟩) ∧ W.cell? ⟨x5, 8, none⟩ = some (.int .i64 0) ∧ W.cell? ⟨x5, 9, none⟩ = some (.slice none 0 0) ∧ W.cell? ⟨x5, 10, none⟩ = some (.slice none 0 0) ∧ W.cell? ⟨x5, 11, none⟩ = some (.slice (some ⟨x4, 0, none⟩) 1 1)) := ⟨(t4.to h).cells.1, (t3.to h).cells.1⟩

set_option maxHeartbeats 16000000 in
set_option maxRecDepth 100000 in
theorem pawake_any (E : Nat) (w : World) (he : Env E w) : Calls Tryd.prog 22 #[] w fun e w' => e = .returned (.bool true) ∧ Below w.heap.size w w' := by
  go_enter Tryd.func22, Tryd.ntmps22
  go_wp2_with fail
  obtain ⟨W0, hW0⟩ : ∃ W0, _ = W0 := ⟨_, rfl⟩
  obtain ⟨⟨t3, t4⟩, l3, l4, hb0⟩ := made_ps w W0 hW0
  refine wp_at hW0 ?_
  clear hW0
  have T3 : Hid (Twelve W0 (w.heap.size + 1 + 1 + 1 + 1 + 1) (.int .i64 6) (.string ⟨#[99]⟩) (.string ⟨#[100]⟩) sl0 sl0 (.int .i64 3) (.int .i64 0) (.string ⟨#[]⟩) (.int .i64 0) sl0 sl0 (sl1 (w.heap.size + 1 + 1 + 1 + 1))) := Lib.hid t3
  have T4 : Hid (Twelve W0 (w.heap.size + 1 + 1 + 1 + 1 + 1 + 1 + 1 + 1) (.int .i64 2) (.string ⟨#[97]⟩) (.string ⟨#[]⟩) sl0 (sl1 (w.heap.size + 1 + 1 + 1 + 1 + 1 + 1)) (.int .i64 0) (.int .i64 0) (.string ⟨#[]⟩) (.int .i64 0) sl0 sl0 (sl1 (w.heap.size + 1 + 1 + 1 + 1 + 1 + 1 + 1))) := Lib.hid t4
  have L3 : Hid (PLies W0 (.agg #[.int .i64 6, .string ⟨#[99]⟩, .string ⟨#[100]⟩, sl0, sl0, .int .i64 3, .int .i64 0, .string ⟨#[]⟩, .int .i64 0, sl0, sl0, sl1 (w.heap.size + 1 + 1 + 1 + 1)]) p3) := Lib.hid l3
  have L4 : Hid (PLies W0 (.agg #[.int .i64 2, .string ⟨#[97]⟩, .string ⟨#[]⟩, sl0, sl1 (w.heap.size + 1 + 1 + 1 + 1 + 1 + 1), .int .i64 0, .int .i64 0, .string ⟨#[]⟩, .int .i64 0, sl0, sl0, sl1 (w.heap.size + 1 + 1 + 1 + 1 + 1 + 1 + 1)]) p4) := Lib.hid l4
  have HE := Lib.hid (he.to hb0)
  have HB0 := Lib.hid hb0
  clear t3 t4 l3 l4 he hb0
  generalize w.heap.size + 1 + 1 + 1 + 1 + 1 + 1 + 1 + 1 = x8 at *
  generalize w.heap.size + 1 + 1 + 1 + 1 + 1 + 1 + 1 = x7 at *
  generalize w.heap.size + 1 + 1 + 1 + 1 + 1 + 1 = x6 at *
  generalize w.heap.size + 1 + 1 + 1 + 1 + 1 = x5 at *
  generalize w.heap.size + 1 + 1 + 1 + 1 = x4 at *
  have HB := Lib.hid (Below.refl W0.heap.size W0).drew
  refine wp_region_solo_fact ((List.replicate 8 true ++ List.replicate 55 false).toArray) ((8, true) :: (9, true) :: (10, true) :: (11, true) :: (12, true) :: (13, true) :: (14, true) :: (15, true) :: (16, true) :: (17, true) :: (18, true) :: (19, true) :: (20, true) :: (21, true) :: (22, true) :: (23, true) :: (24, true) :: (25, true) :: (26, true) :: (27, true) :: (28, true) :: (29, true) :: (30, true) :: (31, true) :: (32, true) :: (33, true) :: (34, true) :: (35, true) :: (36, true) :: (37, false) :: (38, true) :: (39, true) :: (40, true) :: (41, true) :: (42, false) :: (43, true) :: (44, true) :: (45, true) :: (46, true) :: (47, true) :: (48, true) :: (49, true) :: (50, true) :: (51, true) :: (52, true) :: (53, true) :: (54, true) :: (55, true) :: (56, true) :: (57, false) :: (59, false) :: (58, true) :: (60, true) :: (61, true) :: (62, true) :: []) (by kernel_rfl) (fun hB => ?_)
  refine wp_region_q (fun d _ _ _ _ h => by cases d <;> exact h) (fun HQQ => ?_)
  have HSO := Lib.hid hB
  clear hB
  refine wp_region_held_drew (S := (fun w' => (w'.cell? ⟨x8, 0, none⟩ = some (.int .i64 2) ∧ w'.cell? ⟨x8, 1, none⟩ = some (.string ⟨#[97]⟩) ∧ w'.cell? ⟨x8, 2, none⟩ = some (.string ⟨#[]⟩) ∧ w'.cell? ⟨x8, 3, none⟩ = some (.slice none 0 0) ∧ w'.cell? ⟨x8, 4, none⟩ = some (.slice (some ⟨x6, 0, none⟩) 1 1) ∧ w'.cell? ⟨x8, 5, none⟩ = some (.int .i64 0) ∧ w'.cell? ⟨x8, 6, none⟩ = some (.int .i64 0) ∧ w'.cell? ⟨x8, 7, none⟩ = some (.string ⟨#[]⟩) ∧ w'.cell? ⟨x8, 8, none⟩ = some (.int .i64 0) ∧ w'.cell? ⟨x8, 9, none⟩ = some (.slice none 0 0) ∧ w'.cell? ⟨x8, 10, none⟩ = some (.slice none 0 0) ∧ w'.cell? ⟨x8, 11, none⟩ = some (.slice (some ⟨x7, 0, none⟩) 1 1)) ∧ (w'.cell? ⟨x5, 0, none⟩ = some (.int .i64 6) ∧ w'.cell? ⟨x5, 1, none⟩ = some (.string ⟨#[99]⟩) ∧ w'.cell? ⟨x5, 2, none⟩ = some (.string ⟨#[100]⟩) ∧ w'.cell? ⟨x5, 3, none⟩ = some (.slice none 0 0) ∧ w'.cell? ⟨x5, 4, none⟩ = some (.slice none 0 0) ∧ w'.cell? ⟨x5, 5, none⟩ = some (.int .i64 3) ∧ w'.cell? ⟨x5, 6, none⟩ = some (.int .i64 0) ∧ w'.cell? ⟨x5, 7, none⟩ = some (.string ⟨#[]⟩) ∧ w'.cell? ⟨x5, 8, none⟩ = some (.int .i64 0) ∧ w'.cell? ⟨x5, 9, none⟩ = some (.slice none 0 0) ∧ w'.cell? ⟨x5, 10, none⟩ = some (.slice none 0 0) ∧ w'.cell? ⟨x5, 11, none⟩ = some (.slice (some ⟨x4, 0, none⟩) 1 1)))) (by kernel_rfl) (by first | exact s24 T4.out T3.out HB.out | exact s24 T4.out T3.out (HB.out.alloc (HB.out.size) _)) (fun hHeld => ?_)
  refine wpAnyH_ready (rs := [0]) (by kernel_rfl) (by simp) (AllReadyH.cons (i := 0) rfl (fun K hK => ?_) AllReadyH.nil)
  go_simp
  refine hK.out _ _ (by first | exact s24 T4.out T3.out HB.out | exact s24 T4.out T3.out (HB.out.alloc (HB.out.size) _)) (fun hHeld => ?_)
  clear hK K
  (try simp only [Act.put]); (try simp only [List.setIfInBounds_toArray]); (try simp only [List.set_cons_succ]); (try simp only [List.set_cons_zero])
  refine wpAnyH_ready (rs := [1]) (by kernel_rfl) (by simp) (AllReadyH.cons (i := 1) rfl (fun K hK => ?_) AllReadyH.nil)
  go_simp
  (go_at_call 57; with_reducible refine (pright_l (HE.out.to HB.out) (L4.out.to HB.out) good_p4 dp4 right_p4).mono ?_; rintro e y ⟨rfl, hh⟩; replace HB := Lib.hid (below_seq HB.out hh); clear hh)
  try go_wp2_with fail
  refine hK.out _ _ (by first | exact s24 T4.out T3.out HB.out | exact s24 T4.out T3.out (HB.out.alloc (HB.out.size) _)) (fun hHeld => ?_)
  clear hK K
  (try simp only [Act.put]); (try simp only [List.setIfInBounds_toArray]); (try simp only [List.set_cons_succ]); (try simp only [List.set_cons_zero])
  refine wpAnyH_ready (rs := [2]) (by kernel_rfl) (by simp) (AllReadyH.cons (i := 2) rfl (fun K hK => ?_) AllReadyH.nil)
  go_simp
  refine hK.out _ _ (by first | exact s24 T4.out T3.out HB.out | exact s24 T4.out T3.out (HB.out.alloc (HB.out.size) _)) (fun hHeld => ?_)
  clear hK K
  (try simp only [Act.put]); (try simp only [List.setIfInBounds_toArray]); (try simp only [List.set_cons_succ]); (try simp only [List.set_cons_zero])
  refine wpAnyH_ready (rs := [3]) (by kernel_rfl) (by simp) (AllReadyH.cons (i := 3) rfl (fun K hK => ?_) AllReadyH.nil)
  go_simp
  refine hK.out _ _ (by first | exact s24 T4.out T3.out HB.out | exact s24 T4.out T3.out (HB.out.alloc (HB.out.size) _)) (fun hHeld => ?_)
  clear hK K
  (try simp only [Act.put]); (try simp only [List.setIfInBounds_toArray]); (try simp only [List.set_cons_succ]); (try simp only [List.set_cons_zero])
  refine wpAnyH_take (i := 4) (v := ?v4) rfl (by kernel_rfl) (by kernel_rfl) (by kernel_rfl) (fun _ _ _ h => h) (Or.inl ⟨by rfl, ?h4⟩) (by assumption) ?r4
  case h4 => (intro w hSw; (try dsimp only at hSw); go_simp; try rfl)
  case' r4 => ((try simp only [Act.put]); (try simp only [List.setIfInBounds_toArray]); (try simp only [List.set_cons_succ]); (try simp only [List.set_cons_zero]))
  refine wpAnyH_ready (rs := [5, 6]) (by kernel_rfl) (by simp) (AllReadyH.cons (i := 5) rfl (fun K hK => ?_) (AllReadyH.cons (i := 6) rfl (fun K hK => ?_) AllReadyH.nil))
  · go_simp
    (go_at_call 37; with_reducible refine (pfree_l (L4.out.to HB.out) zp4 dp4' nms_p4 free_p4).mono ?_; rintro e y2 ⟨la, ln, lc, rfl, hsl, hh⟩; have hmd := fun (W : World) (hb : Below (y2.alloc (.cells #[.string bA, .string bB] 9)).heap.size (y2.alloc (.cells #[.string bA, .string bB] 9)) W) => two_names (w := y2) hb; have hfr := fun (W : World) (hb : Below y2.heap.size y2 W) => SLies.to hsl hb; replace hmd := Lib.hid hmd; replace hfr := Lib.hid hfr; clear hsl; replace HB := Lib.hid (below_seq HB.out hh); clear hh)
    try go_wp2_with fail
    refine hK.out _ _ (by first | exact s24 T4.out T3.out HB.out | exact s24 T4.out T3.out (HB.out.alloc (HB.out.size) _)) (fun hHeld => ?_)
    clear hK K
    (try simp only [Act.put]); (try simp only [List.setIfInBounds_toArray]); (try simp only [List.set_cons_succ]); (try simp only [List.set_cons_zero])
    refine wpAnyH_ready (rs := [6]) (by kernel_rfl) (by simp) (AllReadyH.cons (i := 6) rfl (fun K hK => ?_) AllReadyH.nil)
    go_simp
    refine hK.out _ _ (by first | exact s24 T4.out T3.out HB.out | exact s24 T4.out T3.out (HB.out.alloc (HB.out.size) _)) (fun hHeld => ?_)
    clear hK K
    (try simp only [Act.put]); (try simp only [List.setIfInBounds_toArray]); (try simp only [List.set_cons_succ]); (try simp only [List.set_cons_zero])
    refine wpAnyH_ready (rs := [7]) (by kernel_rfl) (by simp) (AllReadyH.cons (i := 7) rfl (fun K hK => ?_) AllReadyH.nil)
    go_simp
    (go_at_call 36; with_reducible refine (ptexts_l (hfr.out _ ((Below.refl _ _).alloc (Nat.le_refl _) _)) (hmd.out _ (Below.refl _ _)) two_dec).mono ?_; rintro e y ⟨rfl, hh⟩; clear hfr hmd; replace HB := Lib.hid (below_seq (HB.out.alloc (HB.out.size) _) hh); clear hh)
    try go_wp2_with fail
    refine hK.out _ _ (by first | exact s24 T4.out T3.out HB.out | exact s24 T4.out T3.out (HB.out.alloc (HB.out.size) _)) (fun hHeld => ?_)
    clear hK K
    (try simp only [Act.put]); (try simp only [List.setIfInBounds_toArray]); (try simp only [List.set_cons_succ]); (try simp only [List.set_cons_zero])
    refine wpAnyH_listed ((List.replicate 8 true ++ List.replicate 55 false).toArray) (by kernel_rfl) ?_
    refine wpAnyH_solo (by kernel_rfl) HQQ.out ((8, true) :: (9, true) :: (10, true) :: (11, true) :: (12, true) :: (13, true) :: (14, true) :: (15, true) :: (16, true) :: (17, true) :: (18, true) :: (19, true) :: (20, true) :: (21, true) :: (22, true) :: (23, true) :: (24, true) :: (25, true) :: (26, true) :: (27, true) :: (28, true) :: (29, true) :: (30, true) :: (31, true) :: (32, true) :: (33, true) :: (34, true) :: (35, true) :: (36, true) :: (37, false) :: (38, true) :: (39, true) :: (40, true) :: (41, true) :: (42, false) :: (43, true) :: (44, true) :: (45, true) :: (46, true) :: (47, true) :: (48, true) :: (49, true) :: (50, true) :: (51, true) :: (52, true) :: (53, true) :: (54, true) :: (55, true) :: (56, true) :: (57, false) :: (59, false) :: (58, true) :: (60, true) :: (61, true) :: (62, true) :: []) _ _ _ _ rfl HSO.out (by assumption) ?_
    refine wpSolo_alone (i := 8) rfl (fun K hK => ?_)
    go_simp
    refine hK.out _ _ (by first | exact s24 T4.out T3.out HB.out | exact s24 T4.out T3.out (HB.out.alloc (HB.out.size) _)) (fun hHeld => ?_)
    clear hK K
    (try simp only [Act.put]); (try simp only [List.setIfInBounds_toArray]); (try simp only [List.set_cons_succ]); (try simp only [List.set_cons_zero])
    refine wpSolo_alone (i := 9) rfl (fun K hK => ?_)
    go_simp
    refine hK.out _ _ (by first | exact s24 T4.out T3.out HB.out | exact s24 T4.out T3.out (HB.out.alloc (HB.out.size) _)) (fun hHeld => ?_)
    clear hK K
    (try simp only [Act.put]); (try simp only [List.setIfInBounds_toArray]); (try simp only [List.set_cons_succ]); (try simp only [List.set_cons_zero])
    refine wpSolo_alone (i := 10) rfl (fun K hK => ?_)
    go_simp
    refine hK.out _ _ (by first | exact s24 T4.out T3.out HB.out | exact s24 T4.out T3.out (HB.out.alloc (HB.out.size) _)) (fun hHeld => ?_)
    clear hK K
    (try simp only [Act.put]); (try simp only [List.setIfInBounds_toArray]); (try simp only [List.set_cons_succ]); (try simp only [List.set_cons_zero])
    refine wpSolo_alone (i := 11) rfl (fun K hK => ?_)
    go_simp
    (go_at_call 57; with_reducible refine (pright_l (HE.out.to HB.out) (lies_pz' _) good_pz dpz right_pz).mono ?_; rintro e y ⟨rfl, hh⟩; replace HB := Lib.hid (below_seq HB.out hh); clear hh)
    try go_wp2_with fail
    refine hK.out _ _ (by first | exact s24 T4.out T3.out HB.out | exact s24 T4.out T3.out (HB.out.alloc (HB.out.size) _)) (fun hHeld => ?_)
    clear hK K
    (try simp only [Act.put]); (try simp only [List.setIfInBounds_toArray]); (try simp only [List.set_cons_succ]); (try simp only [List.set_cons_zero])
    refine wpSolo_alone (i := 12) rfl (fun K hK => ?_)
    go_simp
    refine hK.out _ _ (by first | exact s24 T4.out T3.out HB.out | exact s24 T4.out T3.out (HB.out.alloc (HB.out.size) _)) (fun hHeld => ?_)
    clear hK K
    (try simp only [Act.put]); (try simp only [List.setIfInBounds_toArray]); (try simp only [List.set_cons_succ]); (try simp only [List.set_cons_zero])
    refine wpSolo_alone (i := 13) rfl (fun K hK => ?_)
    go_simp
    refine hK.out _ _ (by first | exact s24 T4.out T3.out HB.out | exact s24 T4.out T3.out (HB.out.alloc (HB.out.size) _)) (fun hHeld => ?_)
    clear hK K
    (try simp only [Act.put]); (try simp only [List.setIfInBounds_toArray]); (try simp only [List.set_cons_succ]); (try simp only [List.set_cons_zero])
    refine wpSolo_alone (i := 14) rfl (fun K hK => ?_)
    go_simp
    refine hK.out _ _ (by first | exact s24 T4.out T3.out HB.out | exact s24 T4.out T3.out (HB.out.alloc (HB.out.size) _)) (fun hHeld => ?_)
    clear hK K
    (try simp only [Act.put]); (try simp only [List.setIfInBounds_toArray]); (try simp only [List.set_cons_succ]); (try simp only [List.set_cons_zero])
    refine wpSolo_alone (i := 15) rfl (fun K hK => ?_)
    go_simp
    refine hK.out _ _ (by first | exact s24 T4.out T3.out HB.out | exact s24 T4.out T3.out (HB.out.alloc (HB.out.size) _)) (fun hHeld => ?_)
    clear hK K
    (try simp only [Act.put]); (try simp only [List.setIfInBounds_toArray]); (try simp only [List.set_cons_succ]); (try simp only [List.set_cons_zero])
    refine wpSolo_alone (i := 16) rfl (fun K hK => ?_)
    go_simp
    (go_at_call 25; with_reducible refine (psize_l (L4.out.to HB.out) szb4 dp4 sz4).mono ?_; rintro e y ⟨rfl, hh⟩; replace HB := Lib.hid (below_seq HB.out hh); clear hh)
    try go_wp2_with fail
    refine hK.out _ _ (by first | exact s24 T4.out T3.out HB.out | exact s24 T4.out T3.out (HB.out.alloc (HB.out.size) _)) (fun hHeld => ?_)
    clear hK K
    (try simp only [Act.put]); (try simp only [List.setIfInBounds_toArray]); (try simp only [List.set_cons_succ]); (try simp only [List.set_cons_zero])
    refine wpSolo_alone (i := 17) rfl (fun K hK => ?_)
    go_simp
    refine hK.out _ _ (by first | exact s24 T4.out T3.out HB.out | exact s24 T4.out T3.out (HB.out.alloc (HB.out.size) _)) (fun hHeld => ?_)
    clear hK K
    (try simp only [Act.put]); (try simp only [List.setIfInBounds_toArray]); (try simp only [List.set_cons_succ]); (try simp only [List.set_cons_zero])
    refine wpSolo_alone (i := 18) rfl (fun K hK => ?_)
    go_simp
    refine hK.out _ _ (by first | exact s24 T4.out T3.out HB.out | exact s24 T4.out T3.out (HB.out.alloc (HB.out.size) _)) (fun hHeld => ?_)
    clear hK K
    (try simp only [Act.put]); (try simp only [List.setIfInBounds_toArray]); (try simp only [List.set_cons_succ]); (try simp only [List.set_cons_zero])
    refine wpSolo_alone (i := 19) rfl (fun K hK => ?_)
    go_simp
    refine hK.out _ _ (by first | exact s24 T4.out T3.out HB.out | exact s24 T4.out T3.out (HB.out.alloc (HB.out.size) _)) (fun hHeld => ?_)
    clear hK K
    (try simp only [Act.put]); (try simp only [List.setIfInBounds_toArray]); (try simp only [List.set_cons_succ]); (try simp only [List.set_cons_zero])
    refine wpSolo_alone (i := 20) rfl (fun K hK => ?_)
    go_simp
    refine hK.out _ _ (by first | exact s24 T4.out T3.out HB.out | exact s24 T4.out T3.out (HB.out.alloc (HB.out.size) _)) (fun hHeld => ?_)
    clear hK K
    (try simp only [Act.put]); (try simp only [List.setIfInBounds_toArray]); (try simp only [List.set_cons_succ]); (try simp only [List.set_cons_zero])
    refine wpSolo_alone (i := 21) rfl (fun K hK => ?_)
    go_simp
    (go_at_call 27; with_reducible refine (pdepth_l (L4.out.to HB.out) dp4 dpe4).mono ?_; rintro e y ⟨rfl, hh⟩; replace HB := Lib.hid (below_seq HB.out hh); clear hh)
    try go_wp2_with fail
    refine hK.out _ _ (by first | exact s24 T4.out T3.out HB.out | exact s24 T4.out T3.out (HB.out.alloc (HB.out.size) _)) (fun hHeld => ?_)
    clear hK K
    (try simp only [Act.put]); (try simp only [List.setIfInBounds_toArray]); (try simp only [List.set_cons_succ]); (try simp only [List.set_cons_zero])
    refine wpSolo_alone (i := 22) rfl (fun K hK => ?_)
    go_simp
    refine hK.out _ _ (by first | exact s24 T4.out T3.out HB.out | exact s24 T4.out T3.out (HB.out.alloc (HB.out.size) _)) (fun hHeld => ?_)
    clear hK K
    (try simp only [Act.put]); (try simp only [List.setIfInBounds_toArray]); (try simp only [List.set_cons_succ]); (try simp only [List.set_cons_zero])
    refine wpSolo_alone (i := 23) rfl (fun K hK => ?_)
    go_simp
    refine hK.out _ _ (by first | exact s24 T4.out T3.out HB.out | exact s24 T4.out T3.out (HB.out.alloc (HB.out.size) _)) (fun hHeld => ?_)
    clear hK K
    (try simp only [Act.put]); (try simp only [List.setIfInBounds_toArray]); (try simp only [List.set_cons_succ]); (try simp only [List.set_cons_zero])
    refine wpSolo_alone (i := 24) rfl (fun K hK => ?_)
    go_simp
    refine hK.out _ _ (by first | exact s24 T4.out T3.out HB.out | exact s24 T4.out T3.out (HB.out.alloc (HB.out.size) _)) (fun hHeld => ?_)
    clear hK K
    (try simp only [Act.put]); (try simp only [List.setIfInBounds_toArray]); (try simp only [List.set_cons_succ]); (try simp only [List.set_cons_zero])
    refine wpSolo_alone (i := 25) rfl (fun K hK => ?_)
    go_simp
    refine hK.out _ _ (by first | exact s24 T4.out T3.out HB.out | exact s24 T4.out T3.out (HB.out.alloc (HB.out.size) _)) (fun hHeld => ?_)
    clear hK K
    (try simp only [Act.put]); (try simp only [List.setIfInBounds_toArray]); (try simp only [List.set_cons_succ]); (try simp only [List.set_cons_zero])
    refine wpSolo_alone (i := 26) rfl (fun K hK => ?_)
    go_simp
    refine hK.out _ _ (by first | exact s24 T4.out T3.out HB.out | exact s24 T4.out T3.out (HB.out.alloc (HB.out.size) _)) (fun hHeld => ?_)
    clear hK K
    (try simp only [Act.put]); (try simp only [List.setIfInBounds_toArray]); (try simp only [List.set_cons_succ]); (try simp only [List.set_cons_zero])
    refine wpSolo_alone (i := 27) rfl (fun K hK => ?_)
    go_simp
    (go_at_call 29; with_reducible refine (ptotal_l (lies_g4' (L4.out.to HB.out)) ggood_g4 tot4b tot4).mono ?_; rintro e y ⟨rfl, hh⟩; replace HB := Lib.hid (below_seq HB.out hh); clear hh)
    try go_wp2_with fail
    refine hK.out _ _ (by first | exact s24 T4.out T3.out HB.out | exact s24 T4.out T3.out (HB.out.alloc (HB.out.size) _)) (fun hHeld => ?_)
    clear hK K
    (try simp only [Act.put]); (try simp only [List.setIfInBounds_toArray]); (try simp only [List.set_cons_succ]); (try simp only [List.set_cons_zero])
    refine wpSolo_alone (i := 28) rfl (fun K hK => ?_)
    go_simp
    refine hK.out _ _ (by first | exact s24 T4.out T3.out HB.out | exact s24 T4.out T3.out (HB.out.alloc (HB.out.size) _)) (fun hHeld => ?_)
    clear hK K
    (try simp only [Act.put]); (try simp only [List.setIfInBounds_toArray]); (try simp only [List.set_cons_succ]); (try simp only [List.set_cons_zero])
    refine wpSolo_alone (i := 29) rfl (fun K hK => ?_)
    go_simp
    refine hK.out _ _ (by first | exact s24 T4.out T3.out HB.out | exact s24 T4.out T3.out (HB.out.alloc (HB.out.size) _)) (fun hHeld => ?_)
    clear hK K
    (try simp only [Act.put]); (try simp only [List.setIfInBounds_toArray]); (try simp only [List.set_cons_succ]); (try simp only [List.set_cons_zero])
    refine wpSolo_alone (i := 30) rfl (fun K hK => ?_)
    go_simp
    refine hK.out _ _ (by first | exact s24 T4.out T3.out HB.out | exact s24 T4.out T3.out (HB.out.alloc (HB.out.size) _)) (fun hHeld => ?_)
    clear hK K
    (try simp only [Act.put]); (try simp only [List.setIfInBounds_toArray]); (try simp only [List.set_cons_succ]); (try simp only [List.set_cons_zero])
    refine wpSolo_alone (i := 31) rfl (fun K hK => ?_)
    go_simp
    refine hK.out _ _ (by first | exact s24 T4.out T3.out HB.out | exact s24 T4.out T3.out (HB.out.alloc (HB.out.size) _)) (fun hHeld => ?_)
    clear hK K
    (try simp only [Act.put]); (try simp only [List.setIfInBounds_toArray]); (try simp only [List.set_cons_succ]); (try simp only [List.set_cons_zero])
    refine wpSolo_alone (i := 32) rfl (fun K hK => ?_)
    go_simp
    refine hK.out _ _ (by first | exact s24 T4.out T3.out HB.out | exact s24 T4.out T3.out (HB.out.alloc (HB.out.size) _)) (fun hHeld => ?_)
    clear hK K
    (try simp only [Act.put]); (try simp only [List.setIfInBounds_toArray]); (try simp only [List.set_cons_succ]); (try simp only [List.set_cons_zero])
    refine wpSolo_alone (i := 33) rfl (fun K hK => ?_)
    go_simp
    (go_at_call 58; with_reducible refine (pprog_l (HE.out.to HB.out) (lies_g4' (L4.out.to HB.out)) ggood_g4 prog_g4).mono ?_; rintro e y ⟨rfl, hh⟩; replace HB := Lib.hid (below_seq HB.out hh); clear hh)
    try go_wp2_with fail
    refine hK.out _ _ (by first | exact s24 T4.out T3.out HB.out | exact s24 T4.out T3.out (HB.out.alloc (HB.out.size) _)) (fun hHeld => ?_)
    clear hK K
    (try simp only [Act.put]); (try simp only [List.setIfInBounds_toArray]); (try simp only [List.set_cons_succ]); (try simp only [List.set_cons_zero])
    refine wpSolo_alone (i := 34) rfl (fun K hK => ?_)
    go_simp
    refine hK.out _ _ (by first | exact s24 T4.out T3.out HB.out | exact s24 T4.out T3.out (HB.out.alloc (HB.out.size) _)) (fun hHeld => ?_)
    clear hK K
    (try simp only [Act.put]); (try simp only [List.setIfInBounds_toArray]); (try simp only [List.set_cons_succ]); (try simp only [List.set_cons_zero])
    refine wpSolo_alone (i := 35) rfl (fun K hK => ?_)
    go_simp
    refine hK.out _ _ (by first | exact s24 T4.out T3.out HB.out | exact s24 T4.out T3.out (HB.out.alloc (HB.out.size) _)) (fun hHeld => ?_)
    clear hK K
    (try simp only [Act.put]); (try simp only [List.setIfInBounds_toArray]); (try simp only [List.set_cons_succ]); (try simp only [List.set_cons_zero])
    refine wpSolo_alone (i := 36) rfl (fun K hK => ?_)
    go_simp
    refine hK.out _ _ (by first | exact s24 T4.out T3.out HB.out | exact s24 T4.out T3.out (HB.out.alloc (HB.out.size) _)) (fun hHeld => ?_)
    clear hK K
    (try simp only [Act.put]); (try simp only [List.setIfInBounds_toArray]); (try simp only [List.set_cons_succ]); (try simp only [List.set_cons_zero])
    refine wpSolo_free (i := 37) (v := ?va37) rfl (by rfl) ?ha37 ?ra37
    case ha37 => (intro w hSw; (try dsimp only at hSw); go_simp; try rfl)
    case' ra37 => ((try simp only [Act.put]); (try simp only [List.setIfInBounds_toArray]); (try simp only [List.set_cons_succ]); (try simp only [List.set_cons_zero]))
    refine wpSolo_alone (i := 38) rfl (fun K hK => ?_)
    go_simp
    refine hK.out _ _ (by first | exact s24 T4.out T3.out HB.out | exact s24 T4.out T3.out (HB.out.alloc (HB.out.size) _)) (fun hHeld => ?_)
    clear hK K
    (try simp only [Act.put]); (try simp only [List.setIfInBounds_toArray]); (try simp only [List.set_cons_succ]); (try simp only [List.set_cons_zero])
    refine wpSolo_alone (i := 39) rfl (fun K hK => ?_)
    go_simp
    (go_at_call 31; with_reducible refine (psame_l (L4.out.to HB.out) (L4.out.to HB.out) (eqP_self _)).mono ?_; rintro e y ⟨rfl, hh⟩; replace HB := Lib.hid (below_seq HB.out hh); clear hh)
    try go_wp2_with fail
    refine hK.out _ _ (by first | exact s24 T4.out T3.out HB.out | exact s24 T4.out T3.out (HB.out.alloc (HB.out.size) _)) (fun hHeld => ?_)
    clear hK K
    (try simp only [Act.put]); (try simp only [List.setIfInBounds_toArray]); (try simp only [List.set_cons_succ]); (try simp only [List.set_cons_zero])
    refine wpSolo_alone (i := 40) rfl (fun K hK => ?_)
    go_simp
    refine hK.out _ _ (by first | exact s24 T4.out T3.out HB.out | exact s24 T4.out T3.out (HB.out.alloc (HB.out.size) _)) (fun hHeld => ?_)
    clear hK K
    (try simp only [Act.put]); (try simp only [List.setIfInBounds_toArray]); (try simp only [List.set_cons_succ]); (try simp only [List.set_cons_zero])
    refine wpSolo_alone (i := 41) rfl (fun K hK => ?_)
    go_simp
    refine hK.out _ _ (by first | exact s24 T4.out T3.out HB.out | exact s24 T4.out T3.out (HB.out.alloc (HB.out.size) _)) (fun hHeld => ?_)
    clear hK K
    (try simp only [Act.put]); (try simp only [List.setIfInBounds_toArray]); (try simp only [List.set_cons_succ]); (try simp only [List.set_cons_zero])
    refine wpSolo_free (i := 42) (v := ?va42) rfl (by rfl) ?ha42 ?ra42
    case ha42 => (intro w hSw; (try dsimp only at hSw); go_simp; try rfl)
    case' ra42 => ((try simp only [Act.put]); (try simp only [List.setIfInBounds_toArray]); (try simp only [List.set_cons_succ]); (try simp only [List.set_cons_zero]))
    refine wpSolo_alone (i := 43) rfl (fun K hK => ?_)
    go_simp
    refine hK.out _ _ (by first | exact s24 T4.out T3.out HB.out | exact s24 T4.out T3.out (HB.out.alloc (HB.out.size) _)) (fun hHeld => ?_)
    clear hK K
    (try simp only [Act.put]); (try simp only [List.setIfInBounds_toArray]); (try simp only [List.set_cons_succ]); (try simp only [List.set_cons_zero])
    refine wpSolo_alone (i := 44) rfl (fun K hK => ?_)
    go_simp
    (go_at_call 31; with_reducible refine (psame_l (L4.out.to HB.out) (L3.out.to HB.out) (eqP_ne p4_ne_p3)).mono ?_; rintro e y ⟨rfl, hh⟩; replace HB := Lib.hid (below_seq HB.out hh); clear hh)
    try go_wp2_with fail
    refine hK.out _ _ (by first | exact s24 T4.out T3.out HB.out | exact s24 T4.out T3.out (HB.out.alloc (HB.out.size) _)) (fun hHeld => ?_)
    clear hK K
    (try simp only [Act.put]); (try simp only [List.setIfInBounds_toArray]); (try simp only [List.set_cons_succ]); (try simp only [List.set_cons_zero])
    refine wpSolo_alone (i := 45) rfl (fun K hK => ?_)
    go_simp
    refine hK.out _ _ (by first | exact s24 T4.out T3.out HB.out | exact s24 T4.out T3.out (HB.out.alloc (HB.out.size) _)) (fun hHeld => ?_)
    clear hK K
    (try simp only [Act.put]); (try simp only [List.setIfInBounds_toArray]); (try simp only [List.set_cons_succ]); (try simp only [List.set_cons_zero])
    refine wpSolo_alone (i := 46) rfl (fun K hK => ?_)
    go_simp
    refine hK.out _ _ (by first | exact s24 T4.out T3.out HB.out | exact s24 T4.out T3.out (HB.out.alloc (HB.out.size) _)) (fun hHeld => ?_)
    clear hK K
    (try simp only [Act.put]); (try simp only [List.setIfInBounds_toArray]); (try simp only [List.set_cons_succ]); (try simp only [List.set_cons_zero])
    refine wpSolo_alone (i := 47) rfl (fun K hK => ?_)
    go_simp
    refine hK.out _ _ (by first | exact s24 T4.out T3.out HB.out | exact s24 T4.out T3.out (HB.out.alloc (HB.out.size) _)) (fun hHeld => ?_)
    clear hK K
    (try simp only [Act.put]); (try simp only [List.setIfInBounds_toArray]); (try simp only [List.set_cons_succ]); (try simp only [List.set_cons_zero])
    refine wpSolo_alone (i := 48) rfl (fun K hK => ?_)
    go_simp
    refine hK.out _ _ (by first | exact s24 T4.out T3.out HB.out | exact s24 T4.out T3.out (HB.out.alloc (HB.out.size) _)) (fun hHeld => ?_)
    clear hK K
    (try simp only [Act.put]); (try simp only [List.setIfInBounds_toArray]); (try simp only [List.set_cons_succ]); (try simp only [List.set_cons_zero])
    refine wpSolo_alone (i := 49) rfl (fun K hK => ?_)
    go_simp
    (go_at_call 35; with_reducible refine (pprefix_l (L4.out.to HB.out) pre_p4).mono ?_; rintro e y ⟨rfl, hh⟩; replace HB := Lib.hid (below_seq HB.out hh); clear hh)
    try go_wp2_with fail
    refine hK.out _ _ (by first | exact s24 T4.out T3.out HB.out | exact s24 T4.out T3.out (HB.out.alloc (HB.out.size) _)) (fun hHeld => ?_)
    clear hK K
    (try simp only [Act.put]); (try simp only [List.setIfInBounds_toArray]); (try simp only [List.set_cons_succ]); (try simp only [List.set_cons_zero])
    refine wpSolo_alone (i := 50) rfl (fun K hK => ?_)
    go_simp
    refine hK.out _ _ (by first | exact s24 T4.out T3.out HB.out | exact s24 T4.out T3.out (HB.out.alloc (HB.out.size) _)) (fun hHeld => ?_)
    clear hK K
    (try simp only [Act.put]); (try simp only [List.setIfInBounds_toArray]); (try simp only [List.set_cons_succ]); (try simp only [List.set_cons_zero])
    refine wpSolo_alone (i := 51) rfl (fun K hK => ?_)
    go_simp
    refine hK.out _ _ (by first | exact s24 T4.out T3.out HB.out | exact s24 T4.out T3.out (HB.out.alloc (HB.out.size) _)) (fun hHeld => ?_)
    clear hK K
    (try simp only [Act.put]); (try simp only [List.setIfInBounds_toArray]); (try simp only [List.set_cons_succ]); (try simp only [List.set_cons_zero])
    refine wpSolo_alone (i := 52) rfl (fun K hK => ?_)
    go_simp
    refine hK.out _ _ (by first | exact s24 T4.out T3.out HB.out | exact s24 T4.out T3.out (HB.out.alloc (HB.out.size) _)) (fun hHeld => ?_)
    clear hK K
    (try simp only [Act.put]); (try simp only [List.setIfInBounds_toArray]); (try simp only [List.set_cons_succ]); (try simp only [List.set_cons_zero])
    refine wpSolo_alone (i := 53) rfl (fun K hK => ?_)
    go_simp
    (go_at_call 35; with_reducible refine (pprefix_l (L3.out.to HB.out) pre_p3).mono ?_; rintro e y ⟨rfl, hh⟩; replace HB := Lib.hid (below_seq HB.out hh); clear hh)
    try go_wp2_with fail
    refine hK.out _ _ (by first | exact s24 T4.out T3.out HB.out | exact s24 T4.out T3.out (HB.out.alloc (HB.out.size) _)) (fun hHeld => ?_)
    clear hK K
    (try simp only [Act.put]); (try simp only [List.setIfInBounds_toArray]); (try simp only [List.set_cons_succ]); (try simp only [List.set_cons_zero])
    refine wpSolo_alone (i := 54) rfl (fun K hK => ?_)
    go_simp
    refine hK.out _ _ (by first | exact s24 T4.out T3.out HB.out | exact s24 T4.out T3.out (HB.out.alloc (HB.out.size) _)) (fun hHeld => ?_)
    clear hK K
    (try simp only [Act.put]); (try simp only [List.setIfInBounds_toArray]); (try simp only [List.set_cons_succ]); (try simp only [List.set_cons_zero])
    refine wpSolo_alone (i := 55) rfl (fun K hK => ?_)
    go_simp
    refine hK.out _ _ (by first | exact s24 T4.out T3.out HB.out | exact s24 T4.out T3.out (HB.out.alloc (HB.out.size) _)) (fun hHeld => ?_)
    clear hK K
    (try simp only [Act.put]); (try simp only [List.setIfInBounds_toArray]); (try simp only [List.set_cons_succ]); (try simp only [List.set_cons_zero])
    refine wpSolo_alone (i := 56) rfl (fun K hK => ?_)
    go_simp
    refine hK.out _ _ (by first | exact s24 T4.out T3.out HB.out | exact s24 T4.out T3.out (HB.out.alloc (HB.out.size) _)) (fun hHeld => ?_)
    clear hK K
    (try simp only [Act.put]); (try simp only [List.setIfInBounds_toArray]); (try simp only [List.set_cons_succ]); (try simp only [List.set_cons_zero])
    refine wpSolo_free (i := 57) (v := ?va57) rfl (by rfl) ?ha57 ?ra57
    case ha57 => (intro w hSw; (try dsimp only at hSw); go_simp; try rfl)
    case' ra57 => ((try simp only [Act.put]); (try simp only [List.setIfInBounds_toArray]); (try simp only [List.set_cons_succ]); (try simp only [List.set_cons_zero]))
    refine wpSolo_free (i := 59) (v := ?va59) rfl (by rfl) ?ha59 ?ra59
    case ha59 => (intro w hSw; (try dsimp only at hSw); go_simp; try rfl)
    case' ra59 => ((try simp only [Act.put]); (try simp only [List.setIfInBounds_toArray]); (try simp only [List.set_cons_succ]); (try simp only [List.set_cons_zero]))
    refine wpSolo_alone (i := 58) rfl (fun K hK => ?_)
    go_simp
    (go_at_call 41; with_reducible refine (pcopy4_l (L4.out.to HB.out)).mono ?_; rintro e y3 ⟨la2, ln2, lc2, aa2, an2, ac2, ta2, tn2, tc2, ua2, un2, uc2, ka2, kn2, kc2, rfl, hcp, hh⟩; replace hcp := Lib.hid hcp; replace HB := Lib.hid (below_seq HB.out hh); clear hh)
    try go_wp2_with fail
    refine hK.out _ _ (by first | exact s24 T4.out T3.out HB.out | exact s24 T4.out T3.out (HB.out.alloc (HB.out.size) _)) (fun hHeld => ?_)
    clear hK K
    (try simp only [Act.put]); (try simp only [List.setIfInBounds_toArray]); (try simp only [List.set_cons_succ]); (try simp only [List.set_cons_zero])
    refine wpSolo_alone (i := 60) rfl (fun K hK => ?_)
    go_simp
    (go_at_call 32; with_reducible refine (rpsame_l hcp.out (L4.out.to HB.out) (eqP_self _)).mono ?_; rintro e y ⟨rfl, hh⟩; replace HB := Lib.hid (below_seq HB.out hh); clear hh)
    try go_wp2_with fail
    refine hK.out _ _ (by first | exact s24 T4.out T3.out HB.out | exact s24 T4.out T3.out (HB.out.alloc (HB.out.size) _)) (fun hHeld => ?_)
    clear hK K
    (try simp only [Act.put]); (try simp only [List.setIfInBounds_toArray]); (try simp only [List.set_cons_succ]); (try simp only [List.set_cons_zero])
    refine wpSolo_alone (i := 61) rfl (fun K hK => ?_)
    go_simp
    refine hK.out _ _ (by first | exact s24 T4.out T3.out HB.out | exact s24 T4.out T3.out (HB.out.alloc (HB.out.size) _)) (fun hHeld => ?_)
    clear hK K
    (try simp only [Act.put]); (try simp only [List.setIfInBounds_toArray]); (try simp only [List.set_cons_succ]); (try simp only [List.set_cons_zero])
    refine wpSolo_alone (i := 62) rfl (fun K hK => ?_)
    go_simp
    refine hK.out _ _ (by first | exact s24 T4.out T3.out HB.out | exact s24 T4.out T3.out (HB.out.alloc (HB.out.size) _)) (fun hHeld => ?_)
    clear hK K
    (try simp only [Act.put]); (try simp only [List.setIfInBounds_toArray]); (try simp only [List.set_cons_succ]); (try simp only [List.set_cons_zero])
    refine wpSolo_nil ?_
    go_wp2_with fail
    go_ret
    exact ⟨rfl, below_seq HB0.out HB.out⟩
  · go_simp
    refine hK.out _ _ (by first | exact s24 T4.out T3.out HB.out | exact s24 T4.out T3.out (HB.out.alloc (HB.out.size) _)) (fun hHeld => ?_)
    clear hK K
    (try simp only [Act.put]); (try simp only [List.setIfInBounds_toArray]); (try simp only [List.set_cons_succ]); (try simp only [List.set_cons_zero])
    refine wpAnyH_ready (rs := [5]) (by kernel_rfl) (by simp) (AllReadyH.cons (i := 5) rfl (fun K hK => ?_) AllReadyH.nil)
    go_simp
    (go_at_call 37; with_reducible refine (pfree_l (L4.out.to (HB.out.alloc (HB.out.size) _)) zp4 dp4' nms_p4 free_p4).mono ?_; rintro e y2 ⟨la, ln, lc, rfl, hsl, hh⟩; have hmd := two_names hh; have hfr := fun (W : World) (hb : Below y2.heap.size y2 W) => SLies.to hsl hb; replace hmd := Lib.hid hmd; replace hfr := Lib.hid hfr; clear hsl; replace HB := Lib.hid (below_seq (HB.out.alloc (HB.out.size) _) hh); clear hh)
    try go_wp2_with fail
    refine hK.out _ _ (by first | exact s24 T4.out T3.out HB.out | exact s24 T4.out T3.out (HB.out.alloc (HB.out.size) _)) (fun hHeld => ?_)
    clear hK K
    (try simp only [Act.put]); (try simp only [List.setIfInBounds_toArray]); (try simp only [List.set_cons_succ]); (try simp only [List.set_cons_zero])
    refine wpAnyH_ready (rs := [7]) (by kernel_rfl) (by simp) (AllReadyH.cons (i := 7) rfl (fun K hK => ?_) AllReadyH.nil)
    go_simp
    (go_at_call 36; with_reducible refine (ptexts_l (hfr.out _ (Below.refl _ _)) hmd.out two_dec).mono ?_; rintro e y ⟨rfl, hh⟩; clear hfr hmd; replace HB := Lib.hid (below_seq HB.out hh); clear hh)
    try go_wp2_with fail
    refine hK.out _ _ (by first | exact s24 T4.out T3.out HB.out | exact s24 T4.out T3.out (HB.out.alloc (HB.out.size) _)) (fun hHeld => ?_)
    clear hK K
    (try simp only [Act.put]); (try simp only [List.setIfInBounds_toArray]); (try simp only [List.set_cons_succ]); (try simp only [List.set_cons_zero])
    refine wpAnyH_listed ((List.replicate 8 true ++ List.replicate 55 false).toArray) (by kernel_rfl) ?_
    refine wpAnyH_solo (by kernel_rfl) HQQ.out ((8, true) :: (9, true) :: (10, true) :: (11, true) :: (12, true) :: (13, true) :: (14, true) :: (15, true) :: (16, true) :: (17, true) :: (18, true) :: (19, true) :: (20, true) :: (21, true) :: (22, true) :: (23, true) :: (24, true) :: (25, true) :: (26, true) :: (27, true) :: (28, true) :: (29, true) :: (30, true) :: (31, true) :: (32, true) :: (33, true) :: (34, true) :: (35, true) :: (36, true) :: (37, false) :: (38, true) :: (39, true) :: (40, true) :: (41, true) :: (42, false) :: (43, true) :: (44, true) :: (45, true) :: (46, true) :: (47, true) :: (48, true) :: (49, true) :: (50, true) :: (51, true) :: (52, true) :: (53, true) :: (54, true) :: (55, true) :: (56, true) :: (57, false) :: (59, false) :: (58, true) :: (60, true) :: (61, true) :: (62, true) :: []) _ _ _ _ rfl HSO.out (by assumption) ?_
    refine wpSolo_alone (i := 8) rfl (fun K hK => ?_)
    go_simp
    refine hK.out _ _ (by first | exact s24 T4.out T3.out HB.out | exact s24 T4.out T3.out (HB.out.alloc (HB.out.size) _)) (fun hHeld => ?_)
    clear hK K
    (try simp only [Act.put]); (try simp only [List.setIfInBounds_toArray]); (try simp only [List.set_cons_succ]); (try simp only [List.set_cons_zero])
    refine wpSolo_alone (i := 9) rfl (fun K hK => ?_)
    go_simp
    refine hK.out _ _ (by first | exact s24 T4.out T3.out HB.out | exact s24 T4.out T3.out (HB.out.alloc (HB.out.size) _)) (fun hHeld => ?_)
    clear hK K
    (try simp only [Act.put]); (try simp only [List.setIfInBounds_toArray]); (try simp only [List.set_cons_succ]); (try simp only [List.set_cons_zero])
    refine wpSolo_alone (i := 10) rfl (fun K hK => ?_)
    go_simp
    refine hK.out _ _ (by first | exact s24 T4.out T3.out HB.out | exact s24 T4.out T3.out (HB.out.alloc (HB.out.size) _)) (fun hHeld => ?_)
    clear hK K
    (try simp only [Act.put]); (try simp only [List.setIfInBounds_toArray]); (try simp only [List.set_cons_succ]); (try simp only [List.set_cons_zero])
    refine wpSolo_alone (i := 11) rfl (fun K hK => ?_)
    go_simp
    (go_at_call 57; with_reducible refine (pright_l (HE.out.to HB.out) (lies_pz' _) good_pz dpz right_pz).mono ?_; rintro e y ⟨rfl, hh⟩; replace HB := Lib.hid (below_seq HB.out hh); clear hh)
    try go_wp2_with fail
    refine hK.out _ _ (by first | exact s24 T4.out T3.out HB.out | exact s24 T4.out T3.out (HB.out.alloc (HB.out.size) _)) (fun hHeld => ?_)
    clear hK K
    (try simp only [Act.put]); (try simp only [List.setIfInBounds_toArray]); (try simp only [List.set_cons_succ]); (try simp only [List.set_cons_zero])
    refine wpSolo_alone (i := 12) rfl (fun K hK => ?_)
    go_simp
    refine hK.out _ _ (by first | exact s24 T4.out T3.out HB.out | exact s24 T4.out T3.out (HB.out.alloc (HB.out.size) _)) (fun hHeld => ?_)
    clear hK K
    (try simp only [Act.put]); (try simp only [List.setIfInBounds_toArray]); (try simp only [List.set_cons_succ]); (try simp only [List.set_cons_zero])
    refine wpSolo_alone (i := 13) rfl (fun K hK => ?_)
    go_simp
    refine hK.out _ _ (by first | exact s24 T4.out T3.out HB.out | exact s24 T4.out T3.out (HB.out.alloc (HB.out.size) _)) (fun hHeld => ?_)
    clear hK K
    (try simp only [Act.put]); (try simp only [List.setIfInBounds_toArray]); (try simp only [List.set_cons_succ]); (try simp only [List.set_cons_zero])
    refine wpSolo_alone (i := 14) rfl (fun K hK => ?_)
    go_simp
    refine hK.out _ _ (by first | exact s24 T4.out T3.out HB.out | exact s24 T4.out T3.out (HB.out.alloc (HB.out.size) _)) (fun hHeld => ?_)
    clear hK K
    (try simp only [Act.put]); (try simp only [List.setIfInBounds_toArray]); (try simp only [List.set_cons_succ]); (try simp only [List.set_cons_zero])
    refine wpSolo_alone (i := 15) rfl (fun K hK => ?_)
    go_simp
    refine hK.out _ _ (by first | exact s24 T4.out T3.out HB.out | exact s24 T4.out T3.out (HB.out.alloc (HB.out.size) _)) (fun hHeld => ?_)
    clear hK K
    (try simp only [Act.put]); (try simp only [List.setIfInBounds_toArray]); (try simp only [List.set_cons_succ]); (try simp only [List.set_cons_zero])
    refine wpSolo_alone (i := 16) rfl (fun K hK => ?_)
    go_simp
    (go_at_call 25; with_reducible refine (psize_l (L4.out.to HB.out) szb4 dp4 sz4).mono ?_; rintro e y ⟨rfl, hh⟩; replace HB := Lib.hid (below_seq HB.out hh); clear hh)
    try go_wp2_with fail
    refine hK.out _ _ (by first | exact s24 T4.out T3.out HB.out | exact s24 T4.out T3.out (HB.out.alloc (HB.out.size) _)) (fun hHeld => ?_)
    clear hK K
    (try simp only [Act.put]); (try simp only [List.setIfInBounds_toArray]); (try simp only [List.set_cons_succ]); (try simp only [List.set_cons_zero])
    refine wpSolo_alone (i := 17) rfl (fun K hK => ?_)
    go_simp
    refine hK.out _ _ (by first | exact s24 T4.out T3.out HB.out | exact s24 T4.out T3.out (HB.out.alloc (HB.out.size) _)) (fun hHeld => ?_)
    clear hK K
    (try simp only [Act.put]); (try simp only [List.setIfInBounds_toArray]); (try simp only [List.set_cons_succ]); (try simp only [List.set_cons_zero])
    refine wpSolo_alone (i := 18) rfl (fun K hK => ?_)
    go_simp
    refine hK.out _ _ (by first | exact s24 T4.out T3.out HB.out | exact s24 T4.out T3.out (HB.out.alloc (HB.out.size) _)) (fun hHeld => ?_)
    clear hK K
    (try simp only [Act.put]); (try simp only [List.setIfInBounds_toArray]); (try simp only [List.set_cons_succ]); (try simp only [List.set_cons_zero])
    refine wpSolo_alone (i := 19) rfl (fun K hK => ?_)
    go_simp
    refine hK.out _ _ (by first | exact s24 T4.out T3.out HB.out | exact s24 T4.out T3.out (HB.out.alloc (HB.out.size) _)) (fun hHeld => ?_)
    clear hK K
    (try simp only [Act.put]); (try simp only [List.setIfInBounds_toArray]); (try simp only [List.set_cons_succ]); (try simp only [List.set_cons_zero])
    refine wpSolo_alone (i := 20) rfl (fun K hK => ?_)
    go_simp
    refine hK.out _ _ (by first | exact s24 T4.out T3.out HB.out | exact s24 T4.out T3.out (HB.out.alloc (HB.out.size) _)) (fun hHeld => ?_)
    clear hK K
    (try simp only [Act.put]); (try simp only [List.setIfInBounds_toArray]); (try simp only [List.set_cons_succ]); (try simp only [List.set_cons_zero])
    refine wpSolo_alone (i := 21) rfl (fun K hK => ?_)
    go_simp
    (go_at_call 27; with_reducible refine (pdepth_l (L4.out.to HB.out) dp4 dpe4).mono ?_; rintro e y ⟨rfl, hh⟩; replace HB := Lib.hid (below_seq HB.out hh); clear hh)
    try go_wp2_with fail
    refine hK.out _ _ (by first | exact s24 T4.out T3.out HB.out | exact s24 T4.out T3.out (HB.out.alloc (HB.out.size) _)) (fun hHeld => ?_)
    clear hK K
    (try simp only [Act.put]); (try simp only [List.setIfInBounds_toArray]); (try simp only [List.set_cons_succ]); (try simp only [List.set_cons_zero])
    refine wpSolo_alone (i := 22) rfl (fun K hK => ?_)
    go_simp
    refine hK.out _ _ (by first | exact s24 T4.out T3.out HB.out | exact s24 T4.out T3.out (HB.out.alloc (HB.out.size) _)) (fun hHeld => ?_)
    clear hK K
    (try simp only [Act.put]); (try simp only [List.setIfInBounds_toArray]); (try simp only [List.set_cons_succ]); (try simp only [List.set_cons_zero])
    refine wpSolo_alone (i := 23) rfl (fun K hK => ?_)
    go_simp
    refine hK.out _ _ (by first | exact s24 T4.out T3.out HB.out | exact s24 T4.out T3.out (HB.out.alloc (HB.out.size) _)) (fun hHeld => ?_)
    clear hK K
    (try simp only [Act.put]); (try simp only [List.setIfInBounds_toArray]); (try simp only [List.set_cons_succ]); (try simp only [List.set_cons_zero])
    refine wpSolo_alone (i := 24) rfl (fun K hK => ?_)
    go_simp
    refine hK.out _ _ (by first | exact s24 T4.out T3.out HB.out | exact s24 T4.out T3.out (HB.out.alloc (HB.out.size) _)) (fun hHeld => ?_)
    clear hK K
    (try simp only [Act.put]); (try simp only [List.setIfInBounds_toArray]); (try simp only [List.set_cons_succ]); (try simp only [List.set_cons_zero])
    refine wpSolo_alone (i := 25) rfl (fun K hK => ?_)
    go_simp
    refine hK.out _ _ (by first | exact s24 T4.out T3.out HB.out | exact s24 T4.out T3.out (HB.out.alloc (HB.out.size) _)) (fun hHeld => ?_)
    clear hK K
    (try simp only [Act.put]); (try simp only [List.setIfInBounds_toArray]); (try simp only [List.set_cons_succ]); (try simp only [List.set_cons_zero])
    refine wpSolo_alone (i := 26) rfl (fun K hK => ?_)
    go_simp
    refine hK.out _ _ (by first | exact s24 T4.out T3.out HB.out | exact s24 T4.out T3.out (HB.out.alloc (HB.out.size) _)) (fun hHeld => ?_)
    clear hK K
    (try simp only [Act.put]); (try simp only [List.setIfInBounds_toArray]); (try simp only [List.set_cons_succ]); (try simp only [List.set_cons_zero])
    refine wpSolo_alone (i := 27) rfl (fun K hK => ?_)
    go_simp
    (go_at_call 29; with_reducible refine (ptotal_l (lies_g4' (L4.out.to HB.out)) ggood_g4 tot4b tot4).mono ?_; rintro e y ⟨rfl, hh⟩; replace HB := Lib.hid (below_seq HB.out hh); clear hh)
    try go_wp2_with fail
    refine hK.out _ _ (by first | exact s24 T4.out T3.out HB.out | exact s24 T4.out T3.out (HB.out.alloc (HB.out.size) _)) (fun hHeld => ?_)
    clear hK K
    (try simp only [Act.put]); (try simp only [List.setIfInBounds_toArray]); (try simp only [List.set_cons_succ]); (try simp only [List.set_cons_zero])
    refine wpSolo_alone (i := 28) rfl (fun K hK => ?_)
    go_simp
    refine hK.out _ _ (by first | exact s24 T4.out T3.out HB.out | exact s24 T4.out T3.out (HB.out.alloc (HB.out.size) _)) (fun hHeld => ?_)
    clear hK K
    (try simp only [Act.put]); (try simp only [List.setIfInBounds_toArray]); (try simp only [List.set_cons_succ]); (try simp only [List.set_cons_zero])
    refine wpSolo_alone (i := 29) rfl (fun K hK => ?_)
    go_simp
    refine hK.out _ _ (by first | exact s24 T4.out T3.out HB.out | exact s24 T4.out T3.out (HB.out.alloc (HB.out.size) _)) (fun hHeld => ?_)
    clear hK K
    (try simp only [Act.put]); (try simp only [List.setIfInBounds_toArray]); (try simp only [List.set_cons_succ]); (try simp only [List.set_cons_zero])
    refine wpSolo_alone (i := 30) rfl (fun K hK => ?_)
    go_simp
    refine hK.out _ _ (by first | exact s24 T4.out T3.out HB.out | exact s24 T4.out T3.out (HB.out.alloc (HB.out.size) _)) (fun hHeld => ?_)
    clear hK K
    (try simp only [Act.put]); (try simp only [List.setIfInBounds_toArray]); (try simp only [List.set_cons_succ]); (try simp only [List.set_cons_zero])
    refine wpSolo_alone (i := 31) rfl (fun K hK => ?_)
    go_simp
    refine hK.out _ _ (by first | exact s24 T4.out T3.out HB.out | exact s24 T4.out T3.out (HB.out.alloc (HB.out.size) _)) (fun hHeld => ?_)
    clear hK K
    (try simp only [Act.put]); (try simp only [List.setIfInBounds_toArray]); (try simp only [List.set_cons_succ]); (try simp only [List.set_cons_zero])
    refine wpSolo_alone (i := 32) rfl (fun K hK => ?_)
    go_simp
    refine hK.out _ _ (by first | exact s24 T4.out T3.out HB.out | exact s24 T4.out T3.out (HB.out.alloc (HB.out.size) _)) (fun hHeld => ?_)
    clear hK K
    (try simp only [Act.put]); (try simp only [List.setIfInBounds_toArray]); (try simp only [List.set_cons_succ]); (try simp only [List.set_cons_zero])
    refine wpSolo_alone (i := 33) rfl (fun K hK => ?_)
    go_simp
    (go_at_call 58; with_reducible refine (pprog_l (HE.out.to HB.out) (lies_g4' (L4.out.to HB.out)) ggood_g4 prog_g4).mono ?_; rintro e y ⟨rfl, hh⟩; replace HB := Lib.hid (below_seq HB.out hh); clear hh)
    try go_wp2_with fail
    refine hK.out _ _ (by first | exact s24 T4.out T3.out HB.out | exact s24 T4.out T3.out (HB.out.alloc (HB.out.size) _)) (fun hHeld => ?_)
    clear hK K
    (try simp only [Act.put]); (try simp only [List.setIfInBounds_toArray]); (try simp only [List.set_cons_succ]); (try simp only [List.set_cons_zero])
    refine wpSolo_alone (i := 34) rfl (fun K hK => ?_)
    go_simp
    refine hK.out _ _ (by first | exact s24 T4.out T3.out HB.out | exact s24 T4.out T3.out (HB.out.alloc (HB.out.size) _)) (fun hHeld => ?_)
    clear hK K
    (try simp only [Act.put]); (try simp only [List.setIfInBounds_toArray]); (try simp only [List.set_cons_succ]); (try simp only [List.set_cons_zero])
    refine wpSolo_alone (i := 35) rfl (fun K hK => ?_)
    go_simp
    refine hK.out _ _ (by first | exact s24 T4.out T3.out HB.out | exact s24 T4.out T3.out (HB.out.alloc (HB.out.size) _)) (fun hHeld => ?_)
    clear hK K
    (try simp only [Act.put]); (try simp only [List.setIfInBounds_toArray]); (try simp only [List.set_cons_succ]); (try simp only [List.set_cons_zero])
    refine wpSolo_alone (i := 36) rfl (fun K hK => ?_)
    go_simp
    refine hK.out _ _ (by first | exact s24 T4.out T3.out HB.out | exact s24 T4.out T3.out (HB.out.alloc (HB.out.size) _)) (fun hHeld => ?_)
    clear hK K
    (try simp only [Act.put]); (try simp only [List.setIfInBounds_toArray]); (try simp only [List.set_cons_succ]); (try simp only [List.set_cons_zero])
    refine wpSolo_free (i := 37) (v := ?vb37) rfl (by rfl) ?hb37 ?rb37
    case hb37 => (intro w hSw; (try dsimp only at hSw); go_simp; try rfl)
    case' rb37 => ((try simp only [Act.put]); (try simp only [List.setIfInBounds_toArray]); (try simp only [List.set_cons_succ]); (try simp only [List.set_cons_zero]))
    refine wpSolo_alone (i := 38) rfl (fun K hK => ?_)
    go_simp
    refine hK.out _ _ (by first | exact s24 T4.out T3.out HB.out | exact s24 T4.out T3.out (HB.out.alloc (HB.out.size) _)) (fun hHeld => ?_)
    clear hK K
    (try simp only [Act.put]); (try simp only [List.setIfInBounds_toArray]); (try simp only [List.set_cons_succ]); (try simp only [List.set_cons_zero])
    refine wpSolo_alone (i := 39) rfl (fun K hK => ?_)
    go_simp
    (go_at_call 31; with_reducible refine (psame_l (L4.out.to HB.out) (L4.out.to HB.out) (eqP_self _)).mono ?_; rintro e y ⟨rfl, hh⟩; replace HB := Lib.hid (below_seq HB.out hh); clear hh)
    try go_wp2_with fail
    refine hK.out _ _ (by first | exact s24 T4.out T3.out HB.out | exact s24 T4.out T3.out (HB.out.alloc (HB.out.size) _)) (fun hHeld => ?_)
    clear hK K
    (try simp only [Act.put]); (try simp only [List.setIfInBounds_toArray]); (try simp only [List.set_cons_succ]); (try simp only [List.set_cons_zero])
    refine wpSolo_alone (i := 40) rfl (fun K hK => ?_)
    go_simp
    refine hK.out _ _ (by first | exact s24 T4.out T3.out HB.out | exact s24 T4.out T3.out (HB.out.alloc (HB.out.size) _)) (fun hHeld => ?_)
    clear hK K
    (try simp only [Act.put]); (try simp only [List.setIfInBounds_toArray]); (try simp only [List.set_cons_succ]); (try simp only [List.set_cons_zero])
    refine wpSolo_alone (i := 41) rfl (fun K hK => ?_)
    go_simp
    refine hK.out _ _ (by first | exact s24 T4.out T3.out HB.out | exact s24 T4.out T3.out (HB.out.alloc (HB.out.size) _)) (fun hHeld => ?_)
    clear hK K
    (try simp only [Act.put]); (try simp only [List.setIfInBounds_toArray]); (try simp only [List.set_cons_succ]); (try simp only [List.set_cons_zero])
    refine wpSolo_free (i := 42) (v := ?vb42) rfl (by rfl) ?hb42 ?rb42
    case hb42 => (intro w hSw; (try dsimp only at hSw); go_simp; try rfl)
    case' rb42 => ((try simp only [Act.put]); (try simp only [List.setIfInBounds_toArray]); (try simp only [List.set_cons_succ]); (try simp only [List.set_cons_zero]))
    refine wpSolo_alone (i := 43) rfl (fun K hK => ?_)
    go_simp
    refine hK.out _ _ (by first | exact s24 T4.out T3.out HB.out | exact s24 T4.out T3.out (HB.out.alloc (HB.out.size) _)) (fun hHeld => ?_)
    clear hK K
    (try simp only [Act.put]); (try simp only [List.setIfInBounds_toArray]); (try simp only [List.set_cons_succ]); (try simp only [List.set_cons_zero])
    refine wpSolo_alone (i := 44) rfl (fun K hK => ?_)
    go_simp
    (go_at_call 31; with_reducible refine (psame_l (L4.out.to HB.out) (L3.out.to HB.out) (eqP_ne p4_ne_p3)).mono ?_; rintro e y ⟨rfl, hh⟩; replace HB := Lib.hid (below_seq HB.out hh); clear hh)
    try go_wp2_with fail
    refine hK.out _ _ (by first | exact s24 T4.out T3.out HB.out | exact s24 T4.out T3.out (HB.out.alloc (HB.out.size) _)) (fun hHeld => ?_)
    clear hK K
    (try simp only [Act.put]); (try simp only [List.setIfInBounds_toArray]); (try simp only [List.set_cons_succ]); (try simp only [List.set_cons_zero])
    refine wpSolo_alone (i := 45) rfl (fun K hK => ?_)
    go_simp
    refine hK.out _ _ (by first | exact s24 T4.out T3.out HB.out | exact s24 T4.out T3.out (HB.out.alloc (HB.out.size) _)) (fun hHeld => ?_)
    clear hK K
    (try simp only [Act.put]); (try simp only [List.setIfInBounds_toArray]); (try simp only [List.set_cons_succ]); (try simp only [List.set_cons_zero])
    refine wpSolo_alone (i := 46) rfl (fun K hK => ?_)
    go_simp
    refine hK.out _ _ (by first | exact s24 T4.out T3.out HB.out | exact s24 T4.out T3.out (HB.out.alloc (HB.out.size) _)) (fun hHeld => ?_)
    clear hK K
    (try simp only [Act.put]); (try simp only [List.setIfInBounds_toArray]); (try simp only [List.set_cons_succ]); (try simp only [List.set_cons_zero])
    refine wpSolo_alone (i := 47) rfl (fun K hK => ?_)
    go_simp
    refine hK.out _ _ (by first | exact s24 T4.out T3.out HB.out | exact s24 T4.out T3.out (HB.out.alloc (HB.out.size) _)) (fun hHeld => ?_)
    clear hK K
    (try simp only [Act.put]); (try simp only [List.setIfInBounds_toArray]); (try simp only [List.set_cons_succ]); (try simp only [List.set_cons_zero])
    refine wpSolo_alone (i := 48) rfl (fun K hK => ?_)
    go_simp
    refine hK.out _ _ (by first | exact s24 T4.out T3.out HB.out | exact s24 T4.out T3.out (HB.out.alloc (HB.out.size) _)) (fun hHeld => ?_)
    clear hK K
    (try simp only [Act.put]); (try simp only [List.setIfInBounds_toArray]); (try simp only [List.set_cons_succ]); (try simp only [List.set_cons_zero])
    refine wpSolo_alone (i := 49) rfl (fun K hK => ?_)
    go_simp
    (go_at_call 35; with_reducible refine (pprefix_l (L4.out.to HB.out) pre_p4).mono ?_; rintro e y ⟨rfl, hh⟩; replace HB := Lib.hid (below_seq HB.out hh); clear hh)
    try go_wp2_with fail
    refine hK.out _ _ (by first | exact s24 T4.out T3.out HB.out | exact s24 T4.out T3.out (HB.out.alloc (HB.out.size) _)) (fun hHeld => ?_)
    clear hK K
    (try simp only [Act.put]); (try simp only [List.setIfInBounds_toArray]); (try simp only [List.set_cons_succ]); (try simp only [List.set_cons_zero])
    refine wpSolo_alone (i := 50) rfl (fun K hK => ?_)
    go_simp
    refine hK.out _ _ (by first | exact s24 T4.out T3.out HB.out | exact s24 T4.out T3.out (HB.out.alloc (HB.out.size) _)) (fun hHeld => ?_)
    clear hK K
    (try simp only [Act.put]); (try simp only [List.setIfInBounds_toArray]); (try simp only [List.set_cons_succ]); (try simp only [List.set_cons_zero])
    refine wpSolo_alone (i := 51) rfl (fun K hK => ?_)
    go_simp
    refine hK.out _ _ (by first | exact s24 T4.out T3.out HB.out | exact s24 T4.out T3.out (HB.out.alloc (HB.out.size) _)) (fun hHeld => ?_)
    clear hK K
    (try simp only [Act.put]); (try simp only [List.setIfInBounds_toArray]); (try simp only [List.set_cons_succ]); (try simp only [List.set_cons_zero])
    refine wpSolo_alone (i := 52) rfl (fun K hK => ?_)
    go_simp
    refine hK.out _ _ (by first | exact s24 T4.out T3.out HB.out | exact s24 T4.out T3.out (HB.out.alloc (HB.out.size) _)) (fun hHeld => ?_)
    clear hK K
    (try simp only [Act.put]); (try simp only [List.setIfInBounds_toArray]); (try simp only [List.set_cons_succ]); (try simp only [List.set_cons_zero])
    refine wpSolo_alone (i := 53) rfl (fun K hK => ?_)
    go_simp
    (go_at_call 35; with_reducible refine (pprefix_l (L3.out.to HB.out) pre_p3).mono ?_; rintro e y ⟨rfl, hh⟩; replace HB := Lib.hid (below_seq HB.out hh); clear hh)
    try go_wp2_with fail
    refine hK.out _ _ (by first | exact s24 T4.out T3.out HB.out | exact s24 T4.out T3.out (HB.out.alloc (HB.out.size) _)) (fun hHeld => ?_)
    clear hK K
    (try simp only [Act.put]); (try simp only [List.setIfInBounds_toArray]); (try simp only [List.set_cons_succ]); (try simp only [List.set_cons_zero])
    refine wpSolo_alone (i := 54) rfl (fun K hK => ?_)
    go_simp
    refine hK.out _ _ (by first | exact s24 T4.out T3.out HB.out | exact s24 T4.out T3.out (HB.out.alloc (HB.out.size) _)) (fun hHeld => ?_)
    clear hK K
    (try simp only [Act.put]); (try simp only [List.setIfInBounds_toArray]); (try simp only [List.set_cons_succ]); (try simp only [List.set_cons_zero])
    refine wpSolo_alone (i := 55) rfl (fun K hK => ?_)
    go_simp
    refine hK.out _ _ (by first | exact s24 T4.out T3.out HB.out | exact s24 T4.out T3.out (HB.out.alloc (HB.out.size) _)) (fun hHeld => ?_)
    clear hK K
    (try simp only [Act.put]); (try simp only [List.setIfInBounds_toArray]); (try simp only [List.set_cons_succ]); (try simp only [List.set_cons_zero])
    refine wpSolo_alone (i := 56) rfl (fun K hK => ?_)
    go_simp
    refine hK.out _ _ (by first | exact s24 T4.out T3.out HB.out | exact s24 T4.out T3.out (HB.out.alloc (HB.out.size) _)) (fun hHeld => ?_)
    clear hK K
    (try simp only [Act.put]); (try simp only [List.setIfInBounds_toArray]); (try simp only [List.set_cons_succ]); (try simp only [List.set_cons_zero])
    refine wpSolo_free (i := 57) (v := ?vb57) rfl (by rfl) ?hb57 ?rb57
    case hb57 => (intro w hSw; (try dsimp only at hSw); go_simp; try rfl)
    case' rb57 => ((try simp only [Act.put]); (try simp only [List.setIfInBounds_toArray]); (try simp only [List.set_cons_succ]); (try simp only [List.set_cons_zero]))
    refine wpSolo_free (i := 59) (v := ?vb59) rfl (by rfl) ?hb59 ?rb59
    case hb59 => (intro w hSw; (try dsimp only at hSw); go_simp; try rfl)
    case' rb59 => ((try simp only [Act.put]); (try simp only [List.setIfInBounds_toArray]); (try simp only [List.set_cons_succ]); (try simp only [List.set_cons_zero]))
    refine wpSolo_alone (i := 58) rfl (fun K hK => ?_)
    go_simp
    (go_at_call 41; with_reducible refine (pcopy4_l (L4.out.to HB.out)).mono ?_; rintro e y3 ⟨la2, ln2, lc2, aa2, an2, ac2, ta2, tn2, tc2, ua2, un2, uc2, ka2, kn2, kc2, rfl, hcp, hh⟩; replace hcp := Lib.hid hcp; replace HB := Lib.hid (below_seq HB.out hh); clear hh)
    try go_wp2_with fail
    refine hK.out _ _ (by first | exact s24 T4.out T3.out HB.out | exact s24 T4.out T3.out (HB.out.alloc (HB.out.size) _)) (fun hHeld => ?_)
    clear hK K
    (try simp only [Act.put]); (try simp only [List.setIfInBounds_toArray]); (try simp only [List.set_cons_succ]); (try simp only [List.set_cons_zero])
    refine wpSolo_alone (i := 60) rfl (fun K hK => ?_)
    go_simp
    (go_at_call 32; with_reducible refine (rpsame_l hcp.out (L4.out.to HB.out) (eqP_self _)).mono ?_; rintro e y ⟨rfl, hh⟩; replace HB := Lib.hid (below_seq HB.out hh); clear hh)
    try go_wp2_with fail
    refine hK.out _ _ (by first | exact s24 T4.out T3.out HB.out | exact s24 T4.out T3.out (HB.out.alloc (HB.out.size) _)) (fun hHeld => ?_)
    clear hK K
    (try simp only [Act.put]); (try simp only [List.setIfInBounds_toArray]); (try simp only [List.set_cons_succ]); (try simp only [List.set_cons_zero])
    refine wpSolo_alone (i := 61) rfl (fun K hK => ?_)
    go_simp
    refine hK.out _ _ (by first | exact s24 T4.out T3.out HB.out | exact s24 T4.out T3.out (HB.out.alloc (HB.out.size) _)) (fun hHeld => ?_)
    clear hK K
    (try simp only [Act.put]); (try simp only [List.setIfInBounds_toArray]); (try simp only [List.set_cons_succ]); (try simp only [List.set_cons_zero])
    refine wpSolo_alone (i := 62) rfl (fun K hK => ?_)
    go_simp
    refine hK.out _ _ (by first | exact s24 T4.out T3.out HB.out | exact s24 T4.out T3.out (HB.out.alloc (HB.out.size) _)) (fun hHeld => ?_)
    clear hK K
    (try simp only [Act.put]); (try simp only [List.setIfInBounds_toArray]); (try simp only [List.set_cons_succ]); (try simp only [List.set_cons_zero])
    refine wpSolo_nil ?_
    go_wp2_with fail
    go_ret
    exact ⟨rfl, below_seq HB0.out HB.out⟩

end Go.Proofs.YtipjjhkgcbabnaaDoor
