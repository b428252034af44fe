/- Parsing: lemmas. -/
import Derived.Test.YtejaboajgecpaaaGreatDoorQn10
set_option maxHeartbeats 16000000
set_option maxRecDepth 100000
namespace Go.Proofs.YtejaboajgecpaaaGreatDoor
open Go.Lib (hid)
open Go.RowKit Go.Shelf Go.Deep
theorem pnew_any (P tb : Nat) (E : Int) (ts : List Tk) (B : Nat) (w : World) (he : Env B w) (hBP : B <= P) (h : PaIs P tb E ts w) (Tf : List Tk -> PR Ty) (hTl : Shorter Tf) (S : List Tk -> PR Pr) (n : Nat) (hn : ts.length < n) (hT : SessOK P tb E B Tf n) (hS : SingOK P tb E B S n) :
 Calls Tryz.prog 117 #[.pointer (some ⟨P, 0, none⟩)] w (Parsed P tb E w (pnewS nameB Tf S ts) (GPr w.heap.size)) := by
 obtain ⟨W1, hW1⟩ := ex1 (w.alloc (.cells z12 31))
 have hb1 := (made hW1).1
 have x1 := (made hW1).2
 have hs1 : w.heap.size < W1.heap.size := (gl x1)
 have hP : P < w.heap.size := h.lt
 have htb : tb ≠ w.heap.size := Nat.ne_of_lt h.tlt
 have HTB := hid h.tlt
 have HP : Hid (PaIs P tb E ts W1) := hid (h.to hb1)
 have HB : Hid (But P W1 W1) := hid (But.refl _ _)
 have HW1 := hid hW1
 have HB1 := hid hb1
 have HX1 := hid x1
 have HE := hid (he.to hb1)
 clear hW1 hb1 x1 he h
 unfold pnewS
 have HS := hid hS
 have HT := hid hT
 clear hS hT
 cases h1 : need sOpen ts with
 | bad er r =>
  show Calls _ _ _ _ (Parsed P tb E w (PR.bad er r) _)
  go_enter Tryz.func117, Tryz.ntmps117
  go_upto_region 1 with fail
  rw [HW1.out]
  go_wp2_with (first | (go_at_call 52; refine (expB HP HB h1).mono ?_; rintro _ wn ⟨rfl, HB⟩))
  exact ⟨rfl, rfl, (But.of HB1.out).trans HB.out⟩
 | ok un r1 =>
  have hlr1 : r1.length < n := by have := need_le h1; omega
  cases h2 : pname nameB r1 with
  | bad er r =>
   show Calls _ _ _ _ (Parsed P tb E w ((pname nameB r1).bind _) _)
   rw [h2]
   show Calls _ _ _ _ (Parsed P tb E w (PR.bad er r) _)
   go_enter Tryz.func117, Tryz.ntmps117
   go_upto_region 1 with fail
   rw [HW1.out]
   go_wp2_with (first | (go_at_call 52; refine (expH HP HB h1).mono ?_; rintro _ wn ⟨rfl, HP, HB⟩) | (go_at_call 78; refine (namB (HE.out.but HB.out hBP) HP HB h2).mono ?_; rintro _ wn ⟨rfl, HB⟩))
   exact ⟨rfl, rfl, (But.of HB1.out).trans HB.out⟩
  | ok a r2 =>
   have hlr2 : r2.length < n := by have := pname_le h2; omega
   show Calls _ _ _ _ (Parsed P tb E w ((pname nameB r1).bind _) _)
   rw [h2]
   cases h3 : need sComma r2 with
   | bad er r =>
    show Calls _ _ _ _ (Parsed P tb E w ((need sComma r2).bind _) _)
    rw [h3]
    show Calls _ _ _ _ (Parsed P tb E w (PR.bad er r) _)
    go_enter Tryz.func117, Tryz.ntmps117
    go_upto_region 1 with fail
    rw [HW1.out]
    go_wp2_with (first | (go_at_call 52; refine (expH HP HB h1).mono ?_; rintro _ wn ⟨rfl, HP, HB⟩) | (go_at_call 78; refine (namH (HE.out.but HB.out hBP) HP HB h2).mono ?_; rintro _ wn ⟨rfl, haz, HP, HB⟩) | (go_at_call 52; refine (expB HP HB h3).mono ?_; rintro _ wn ⟨rfl, HB⟩))
    exact ⟨rfl, rfl, (But.of HB1.out).trans HB.out⟩
   | ok un3 r3 =>
    have hlr3 : r3.length < n := by have := need_le h3; omega
    show Calls _ _ _ _ (Parsed P tb E w ((need sComma r2).bind _) _)
    rw [h3]
    cases h4 : pname nameB r3 with
    | bad er r =>
     show Calls _ _ _ _ (Parsed P tb E w ((pname nameB r3).bind _) _)
     rw [h4]
     show Calls _ _ _ _ (Parsed P tb E w (PR.bad er r) _)
     go_enter Tryz.func117, Tryz.ntmps117
     go_upto_region 1 with fail
     rw [HW1.out]
     go_wp2_with (first | (go_at_call 52; refine (expH HP HB h1).mono ?_; rintro _ wn ⟨rfl, HP, HB⟩) | (go_at_call 78; refine (namH (HE.out.but HB.out hBP) HP HB h2).mono ?_; rintro _ wn ⟨rfl, haz, HP, HB⟩) | (go_at_call 52; refine (expH HP HB h3).mono ?_; rintro _ wn ⟨rfl, HP, HB⟩) | (go_at_call 78; refine (namB (HE.out.but HB.out hBP) HP HB h4).mono ?_; rintro _ wn ⟨rfl, HB⟩))
     exact ⟨rfl, rfl, (But.of HB1.out).trans HB.out⟩
    | ok b r4 =>
     have hlr4 : r4.length < n := by have := pname_le h4; omega
     show Calls _ _ _ _ (Parsed P tb E w ((pname nameB r3).bind _) _)
     rw [h4]
     cases h5 : need sColon r4 with
     | bad er r =>
      show Calls _ _ _ _ (Parsed P tb E w ((need sColon r4).bind _) _)
      rw [h5]
      show Calls _ _ _ _ (Parsed P tb E w (PR.bad er r) _)
      go_enter Tryz.func117, Tryz.ntmps117
      go_upto_region 1 with fail
      rw [HW1.out]
      go_wp2_with (first | (go_at_call 52; refine (expH HP HB h1).mono ?_; rintro _ wn ⟨rfl, HP, HB⟩) | (go_at_call 78; refine (namH (HE.out.but HB.out hBP) HP HB h2).mono ?_; rintro _ wn ⟨rfl, haz, HP, HB⟩) | (go_at_call 52; refine (expH HP HB h3).mono ?_; rintro _ wn ⟨rfl, HP, HB⟩) | (go_at_call 78; refine (namH (HE.out.but HB.out hBP) HP HB h4).mono ?_; rintro _ wn ⟨rfl, hbz, HP, HB⟩) | (go_at_call 52; refine (expB HP HB h5).mono ?_; rintro _ wn ⟨rfl, HB⟩))
      exact ⟨rfl, rfl, (But.of HB1.out).trans HB.out⟩
     | ok un5 r5 =>
      have hlr5 : r5.length < n := by have := need_le h5; omega
      show Calls _ _ _ _ (Parsed P tb E w ((need sColon r4).bind _) _)
      rw [h5]
      cases h6 : Tf r5 with
      | bad er r =>
       show Calls _ _ _ _ (Parsed P tb E w ((Tf r5).bind _) _)
       rw [h6]
       show Calls _ _ _ _ (Parsed P tb E w (PR.bad er r) _)
       go_enter Tryz.func117, Tryz.ntmps117
       go_upto_region 1 with fail
       rw [HW1.out]
       go_wp2_with (first | (go_at_call 52; refine (expH HP HB h1).mono ?_; rintro _ wn ⟨rfl, HP, HB⟩) | (go_at_call 78; refine (namH (HE.out.but HB.out hBP) HP HB h2).mono ?_; rintro _ wn ⟨rfl, haz, HP, HB⟩) | (go_at_call 52; refine (expH HP HB h3).mono ?_; rintro _ wn ⟨rfl, HP, HB⟩) | (go_at_call 78; refine (namH (HE.out.but HB.out hBP) HP HB h4).mono ?_; rintro _ wn ⟨rfl, hbz, HP, HB⟩) | (go_at_call 52; refine (expH HP HB h5).mono ?_; rintro _ wn ⟨rfl, HP, HB⟩) | (go_at_call 68; refine (HT.out _ _ hlr5 (HE.out.but HB.out hBP) HP.out).mono ?_; rw [h6]; rintro en wn ⟨rfl, hb⟩; replace HB := hid (HB.out.trans hb); clear hb))
       exact ⟨rfl, rfl, (But.of HB1.out).trans HB.out⟩
      | ok t r6 =>
       have hlr6 : r6.length < n := by have := hTl _ _ _ h6; omega
       show Calls _ _ _ _ (Parsed P tb E w ((Tf r5).bind _) _)
       rw [h6]
       show Calls _ _ _ _ (Parsed P tb E w ((need sShut r6).bind _) _)
       cases h7 : need sShut r6 with
       | bad er r =>
        show Calls _ _ _ _ (Parsed P tb E w (PR.bad er r) _)
        go_enter Tryz.func117, Tryz.ntmps117
        go_upto_region 1 with fail
        rw [HW1.out]
        go_upto_region 7 with (first | (go_at_call 52; refine (expH HP HB h1).mono ?_; rintro _ wn ⟨rfl, HP, HB⟩) | (go_at_call 78; refine (namH (HE.out.but HB.out hBP) HP HB h2).mono ?_; rintro _ wn ⟨rfl, haz, HP, HB⟩) | (go_at_call 52; refine (expH HP HB h3).mono ?_; rintro _ wn ⟨rfl, HP, HB⟩) | (go_at_call 78; refine (namH (HE.out.but HB.out hBP) HP HB h4).mono ?_; rintro _ wn ⟨rfl, hbz, HP, HB⟩) | (go_at_call 52; refine (expH HP HB h5).mono ?_; rintro _ wn ⟨rfl, HP, HB⟩) | (go_at_call 68; refine (HT.out _ _ hlr5 (HE.out.but HB.out hBP) HP.out).mono ?_; rw [h6]; rintro en wn ⟨⟨v, rfl, hg⟩, hp, hb⟩; obtain ⟨la, ln, lc, ka, kn, kc, rfl⟩ := hg.open; have HPn := hid hp; have HG := hid (hg.mono (show W1.heap.size <= _ from HB.out.size)); have HBn := hid (HB.out.trans hb); clear hg; clear hp hb HP HB; have HP := HPn; have HB := HBn; clear HPn HBn))
        obtain ⟨W4, hW4⟩ := ex1 (wn.alloc (.cells #[.int .i64 t.k, .int .i64 t.p, .string t.n, .int .i64 t.s, .slice la ln lc, .slice ka kn kc] 28))
        have hb4 := (made hW4).1
        have x4 := (made hW4).2
        have hl4 : wn.heap.size < W4.heap.size := (gl x4)
        have hsz : W1.heap.size <= wn.heap.size := HB.out.size
        have hn4 : wn.heap.size ≠ P := by omega
        have HPn := hid (HP.out.to hb4)
        have HBn := hid (HB.out.to hb4)
        have HC : Hid (But P W4 W4) := hid (But.refl _ _)
        have HX4 := hid x4
        have HGT := hid (HG.out.but (But.of (P := P) hb4) (Nat.lt_trans hP hs1))
        rw [hW4]
        clear HP HB HG hW4 hb4 x4
        have HP := HPn
        have HB := HBn
        clear HPn HBn
        obtain ⟨T6, hT6⟩ := ex1 (wn.heap.size)
        rw [hT6] at HX4 hl4 hn4 hsz |-
        clear hT6
        go_wp2_with (go_at_call 52; refine (expB HP HB h7).mono ?_; rintro _ wn ⟨rfl, HB⟩)
        exact ⟨rfl, rfl, (But.of HB1.out).trans HB.out⟩
       | ok un7 r7 =>
        have hlr7 : r7.length < n := by have := need_le h7; omega
        show Calls _ _ _ _ (Parsed P tb E w ((S r7).bind _) _)
        cases hr : S r7 with
        | bad er r =>
         show Calls _ _ _ _ (Parsed P tb E w (PR.bad er r) _)
         go_enter Tryz.func117, Tryz.ntmps117
         go_upto_region 1 with fail
         rw [HW1.out]
         go_upto_region 7 with (first | (go_at_call 52; refine (expH HP HB h1).mono ?_; rintro _ wn ⟨rfl, HP, HB⟩) | (go_at_call 78; refine (namH (HE.out.but HB.out hBP) HP HB h2).mono ?_; rintro _ wn ⟨rfl, haz, HP, HB⟩) | (go_at_call 52; refine (expH HP HB h3).mono ?_; rintro _ wn ⟨rfl, HP, HB⟩) | (go_at_call 78; refine (namH (HE.out.but HB.out hBP) HP HB h4).mono ?_; rintro _ wn ⟨rfl, hbz, HP, HB⟩) | (go_at_call 52; refine (expH HP HB h5).mono ?_; rintro _ wn ⟨rfl, HP, HB⟩) | (go_at_call 68; refine (HT.out _ _ hlr5 (HE.out.but HB.out hBP) HP.out).mono ?_; rw [h6]; rintro en wn ⟨⟨v, rfl, hg⟩, hp, hb⟩; obtain ⟨la, ln, lc, ka, kn, kc, rfl⟩ := hg.open; have HPn := hid hp; have HG := hid (hg.mono (show W1.heap.size <= _ from HB.out.size)); have HBn := hid (HB.out.trans hb); clear hg; clear hp hb HP HB; have HP := HPn; have HB := HBn; clear HPn HBn))
         obtain ⟨W4, hW4⟩ := ex1 (wn.alloc (.cells #[.int .i64 t.k, .int .i64 t.p, .string t.n, .int .i64 t.s, .slice la ln lc, .slice ka kn kc] 28))
         have hb4 := (made hW4).1
         have x4 := (made hW4).2
         have hl4 : wn.heap.size < W4.heap.size := (gl x4)
         have hsz : W1.heap.size <= wn.heap.size := HB.out.size
         have hn4 : wn.heap.size ≠ P := by omega
         have HPn := hid (HP.out.to hb4)
         have HBn := hid (HB.out.to hb4)
         have HC : Hid (But P W4 W4) := hid (But.refl _ _)
         have HX4 := hid x4
         have HGT := hid (HG.out.but (But.of (P := P) hb4) (Nat.lt_trans hP hs1))
         rw [hW4]
         clear HP HB HG hW4 hb4 x4
         have HP := HPn
         have HB := HBn
         clear HPn HBn
         obtain ⟨T6, hT6⟩ := ex1 (wn.heap.size)
         rw [hT6] at HX4 hl4 hn4 hsz |-
         clear hT6
         go_upto_region 8 with (go_at_call 52; refine (expect_any P tb E _ (by decide +kernel) _ _ HP.out).mono ?_; rw [h7]; rintro en wn ⟨⟨_, rfl, _⟩, hp, hb⟩; replace HP := hid hp; replace HB := hid (HB.out.trans hb); replace HC := hid (HC.out.trans hb); clear hp hb)
         have HSS : Hid (∀ W, But P W4 W -> W.cell? ⟨T6, 0, none⟩ = some (.int .i64 t.k) /\ W.cell? ⟨T6, 1, none⟩ = some (.int .i64 t.p) /\ W.cell? ⟨T6, 2, none⟩ = some (.string t.n) /\ W.cell? ⟨T6, 3, none⟩ = some (.int .i64 t.s) /\ W.cell? ⟨T6, 4, none⟩ = some (.slice la ln lc) /\ W.cell? ⟨T6, 5, none⟩ = some (.slice ka kn kc)) := hid (fun W hW => (c6 ((hW.block T6 hl4 hn4).trans HX4.out)).1)
         refine wp_region_held_drew (S := fun W => W.cell? ⟨T6, 0, none⟩ = some (.int .i64 t.k) /\ W.cell? ⟨T6, 1, none⟩ = some (.int .i64 t.p) /\ W.cell? ⟨T6, 2, none⟩ = some (.string t.n) /\ W.cell? ⟨T6, 3, none⟩ = some (.int .i64 t.s) /\ W.cell? ⟨T6, 4, none⟩ = some (.slice la ln lc) /\ W.cell? ⟨T6, 5, none⟩ = some (.slice ka kn kc)) (by kernel_rfl) (HSS.out _ HC.out.drew) (fun hHeld => ?_)
         refine wpAnyH_take_l 0 (v := ?vb0) rfl rfl (by kernel_rfl) (by kernel_rfl) (by kernel_rfl) (fun _ _ _ h => h) ?hb0 (by assumption) ?rb0
         case hb0 => (intro w hSw; (try dsimp only at hSw); go_simp; try rfl)
         case' rb0 => simp only [setD, List.set_cons_succ, List.set_cons_zero]
         refine wpAnyH_take_l 1 (v := ?vb1) rfl rfl (by kernel_rfl) (by kernel_rfl) (by kernel_rfl) (fun _ _ _ h => h) ?hb1 (by assumption) ?rb1
         case hb1 => (intro w hSw; (try dsimp only at hSw); go_simp; try rfl)
         case' rb1 => simp only [setD, List.set_cons_succ, List.set_cons_zero]
         refine wpAnyH_take_l 2 (v := ?vb2) rfl rfl (by kernel_rfl) (by kernel_rfl) (by kernel_rfl) (fun _ _ _ h => h) ?hb2 (by assumption) ?rb2
         case hb2 => (intro w hSw; (try dsimp only at hSw); go_simp; try rfl)
         case' rb2 => simp only [setD, List.set_cons_succ, List.set_cons_zero]
         refine wpAnyH_take_l 3 (v := ?vb3) rfl rfl (by kernel_rfl) (by kernel_rfl) (by kernel_rfl) (fun _ _ _ h => h) ?hb3 (by assumption) ?rb3
         case hb3 => (intro w hSw; (try dsimp only at hSw); go_simp; try rfl)
         case' rb3 => simp only [setD, List.set_cons_succ, List.set_cons_zero]
         refine wpAnyH_sole 4 rfl rfl (by kernel_rfl) (fun K hK => ?_)
         have hK2 := hK.out
         clear hK
         simp only [setD, List.set_cons_succ, List.set_cons_zero] at hK2 |-
         go_simp
         refine (HS.out _ _ hlr7 ((HE.out.but HB.out hBP).to (Below.refl _ _).drew) (HP.out.to (Below.refl _ _).drew)).mono ?_
         rw [hr]
         rintro en wm ⟨rfl, hb⟩
         dsimp only
         exact ⟨rfl, rfl, (But.of HB1.out).trans (HB.out.drew.trans hb)⟩
        | ok p r =>
         show Calls _ _ _ _ (Parsed P tb E w (PR.ok (Pr.mk 6 a b [] [] t [p]) r) _)
         go_enter Tryz.func117, Tryz.ntmps117
         go_upto_region 1 with fail
         rw [HW1.out]
         go_upto_region 7 with (first | (go_at_call 52; refine (expH HP HB h1).mono ?_; rintro _ wn ⟨rfl, HP, HB⟩) | (go_at_call 78; refine (namH (HE.out.but HB.out hBP) HP HB h2).mono ?_; rintro _ wn ⟨rfl, haz, HP, HB⟩) | (go_at_call 52; refine (expH HP HB h3).mono ?_; rintro _ wn ⟨rfl, HP, HB⟩) | (go_at_call 78; refine (namH (HE.out.but HB.out hBP) HP HB h4).mono ?_; rintro _ wn ⟨rfl, hbz, HP, HB⟩) | (go_at_call 52; refine (expH HP HB h5).mono ?_; rintro _ wn ⟨rfl, HP, HB⟩) | (go_at_call 68; refine (HT.out _ _ hlr5 (HE.out.but HB.out hBP) HP.out).mono ?_; rw [h6]; rintro en wn ⟨⟨v, rfl, hg⟩, hp, hb⟩; obtain ⟨la, ln, lc, ka, kn, kc, rfl⟩ := hg.open; have HPn := hid hp; have HG := hid (hg.mono (show W1.heap.size <= _ from HB.out.size)); have HBn := hid (HB.out.trans hb); clear hg; clear hp hb HP HB; have HP := HPn; have HB := HBn; clear HPn HBn))
         obtain ⟨W4, hW4⟩ := ex1 (wn.alloc (.cells #[.int .i64 t.k, .int .i64 t.p, .string t.n, .int .i64 t.s, .slice la ln lc, .slice ka kn kc] 28))
         have hb4 := (made hW4).1
         have x4 := (made hW4).2
         have hl4 : wn.heap.size < W4.heap.size := (gl x4)
         have hsz : W1.heap.size <= wn.heap.size := HB.out.size
         have hn4 : wn.heap.size ≠ P := by omega
         have HPn := hid (HP.out.to hb4)
         have HBn := hid (HB.out.to hb4)
         have HC : Hid (But P W4 W4) := hid (But.refl _ _)
         have HX4 := hid x4
         have HGT := hid (HG.out.but (But.of (P := P) hb4) (Nat.lt_trans hP hs1))
         rw [hW4]
         clear HP HB HG hW4 hb4 x4
         have HP := HPn
         have HB := HBn
         clear HPn HBn
         obtain ⟨T6, hT6⟩ := ex1 (wn.heap.size)
         rw [hT6] at HX4 hl4 hn4 hsz |-
         clear hT6
         go_upto_region 8 with (go_at_call 52; refine (expect_any P tb E _ (by decide +kernel) _ _ HP.out).mono ?_; rw [h7]; rintro en wn ⟨⟨_, rfl, _⟩, hp, hb⟩; replace HP := hid hp; replace HB := hid (HB.out.trans hb); replace HC := hid (HC.out.trans hb); clear hp hb)
         have HSS : Hid (∀ W, But P W4 W -> W.cell? ⟨T6, 0, none⟩ = some (.int .i64 t.k) /\ W.cell? ⟨T6, 1, none⟩ = some (.int .i64 t.p) /\ W.cell? ⟨T6, 2, none⟩ = some (.string t.n) /\ W.cell? ⟨T6, 3, none⟩ = some (.int .i64 t.s) /\ W.cell? ⟨T6, 4, none⟩ = some (.slice la ln lc) /\ W.cell? ⟨T6, 5, none⟩ = some (.slice ka kn kc)) := hid (fun W hW => (c6 ((hW.block T6 hl4 hn4).trans HX4.out)).1)
         refine wp_region_held_drew (S := fun W => W.cell? ⟨T6, 0, none⟩ = some (.int .i64 t.k) /\ W.cell? ⟨T6, 1, none⟩ = some (.int .i64 t.p) /\ W.cell? ⟨T6, 2, none⟩ = some (.string t.n) /\ W.cell? ⟨T6, 3, none⟩ = some (.int .i64 t.s) /\ W.cell? ⟨T6, 4, none⟩ = some (.slice la ln lc) /\ W.cell? ⟨T6, 5, none⟩ = some (.slice ka kn kc)) (by kernel_rfl) (HSS.out _ HC.out.drew) (fun hHeld => ?_)
         refine wpAnyH_take_l 0 (v := ?vc0) rfl rfl (by kernel_rfl) (by kernel_rfl) (by kernel_rfl) (fun _ _ _ h => h) ?hc0 (by assumption) ?rc0
         case hc0 => (intro w hSw; (try dsimp only at hSw); go_simp; try rfl)
         case' rc0 => simp only [setD, List.set_cons_succ, List.set_cons_zero]
         refine wpAnyH_take_l 1 (v := ?vc1) rfl rfl (by kernel_rfl) (by kernel_rfl) (by kernel_rfl) (fun _ _ _ h => h) ?hc1 (by assumption) ?rc1
         case hc1 => (intro w hSw; (try dsimp only at hSw); go_simp; try rfl)
         case' rc1 => simp only [setD, List.set_cons_succ, List.set_cons_zero]
         refine wpAnyH_take_l 2 (v := ?vc2) rfl rfl (by kernel_rfl) (by kernel_rfl) (by kernel_rfl) (fun _ _ _ h => h) ?hc2 (by assumption) ?rc2
         case hc2 => (intro w hSw; (try dsimp only at hSw); go_simp; try rfl)
         case' rc2 => simp only [setD, List.set_cons_succ, List.set_cons_zero]
         refine wpAnyH_take_l 3 (v := ?vc3) rfl rfl (by kernel_rfl) (by kernel_rfl) (by kernel_rfl) (fun _ _ _ h => h) ?hc3 (by assumption) ?rc3
         case hc3 => (intro w hSw; (try dsimp only at hSw); go_simp; try rfl)
         case' rc3 => simp only [setD, List.set_cons_succ, List.set_cons_zero]
         refine wpAnyH_sole 4 rfl rfl (by kernel_rfl) (fun K hK => ?_)
         have hK2 := hK.out
         clear hK
         simp only [setD, List.set_cons_succ, List.set_cons_zero] at hK2 |-
         go_simp
         refine (HS.out _ _ hlr7 ((HE.out.but HB.out hBP).to (Below.refl _ _).drew) (HP.out.to (Below.refl _ _).drew)).mono ?_
         rw [hr]
         rintro en wm ⟨⟨v, rfl, hg⟩, hp, hb⟩
         obtain ⟨la', ln', lc', aa', an', ac', ta', tn', tc', ua', un', uc', ka', kn', kc', rfl⟩ := hg.open
         dsimp only
         have HPm := hid hp
         have HGU := hid (hg.mono (show W1.heap.size <= _ from HB.out.drew.size))
         have HCm := hid (HC.out.drew.trans hb)
         have HBm := hid (HB.out.drew.trans hb)
         refine hK2 _ _ (HSS.out wm HCm.out) (fun hHeld2 => ?_)
         clear hK2 K hHeld hg hp hb
         refine wpAnyH_sole 5 rfl rfl (by kernel_rfl) (fun K hK => ?_)
         have hK2 := hK.out
         clear hK
         simp only [setD, List.set_cons_succ, List.set_cons_zero] at hK2 |-
         go_simp
         obtain ⟨W5, hW5⟩ := ex1 (wm.alloc (.cells #[.int .i64 p.k, .string p.c, .string p.x, .slice la' ln' lc', .slice aa' an' ac', .int .i64 p.t.k, .int .i64 p.t.p, .string p.t.n, .int .i64 p.t.s, .slice ta' tn' tc', .slice ua' un' uc', .slice ka' kn' kc'] 31))
         have hb5 := (made hW5).1
         have x5 := (made hW5).2
         rw [hW5]
         refine hK2 _ _ (HSS.out W5 (HCm.out.to hb5)) (fun hHeld3 => ?_)
         clear hK2 K hHeld2 hW5
         refine wpAnyH_take_l 6 (v := ?vz6) rfl rfl (by kernel_rfl) (by kernel_rfl) (by kernel_rfl) (fun _ _ _ h => h) ?hz6 (by assumption) ?rz6
         case hz6 => (intro w hSw; (try dsimp only at hSw); go_simp; try rfl)
         case' rz6 => simp only [setD, List.set_cons_succ, List.set_cons_zero]
         have hx9 := (hb5.block _ (Nat.lt_of_lt_of_le hs1 HBm.out.size)).trans ((HBm.out.block w.heap.size hs1 (Nat.ne_of_gt hP)).trans HX1.out)
         obtain ⟨⟨q0, q1, q2, q3, q4, q5, q6, q7, q8, q9, q10, q11⟩, z0, z1, z2, z3, z4, z5, z6, z7, z8, z9, z10, z11⟩ := c12p hx9
         have HX9 := hid hx9
         have HB5 := hid hb5
         have HX5 := hid x5
         clear hx9 hb5 x5
         refine wpAnyH_sole 7 rfl rfl (by kernel_rfl) (fun K hK => ?_)
         have hK2 := hK.out
         clear hK
         simp only [setD] at hK2 |-
         go_simp
         have hT6 : T6 ≠ w.heap.size := by omega
         obtain ⟨W6, hW6⟩ := ex1 ((((((((((((W5.setCell ⟨w.heap.size, 0, none⟩ (.int .i64 6)).setCell ⟨w.heap.size, 1, none⟩ (.string a)).setCell ⟨w.heap.size, 2, none⟩ (.string b)).setCell ⟨w.heap.size, 3, none⟩ (.slice none 0 0)).setCell ⟨w.heap.size, 4, none⟩ (.slice none 0 0)).setCell ⟨w.heap.size, 5, none⟩ (.int .i64 t.k)).setCell ⟨w.heap.size, 6, none⟩ (.int .i64 t.p)).setCell ⟨w.heap.size, 7, none⟩ (.string t.n)).setCell ⟨w.heap.size, 8, none⟩ (.int .i64 t.s)).setCell ⟨w.heap.size, 9, none⟩ (.slice la ln lc)).setCell ⟨w.heap.size, 10, none⟩ (.slice ka kn kc)).setCell ⟨w.heap.size, 11, none⟩ (.slice (some ⟨wm.heap.size, 0, none⟩) 1 1))
         have x6 : W6.heap[T6]? = some (.cells #[.int .i64 t.k, .int .i64 t.p, .string t.n, .int .i64 t.s, .slice la ln lc, .slice ka kn kc] 28 (0, 0)) := by
          rw [<- hW6, oth1 _ _ _ hT6, oth1 _ _ _ hT6, oth1 _ _ _ hT6, oth1 _ _ _ hT6, oth1 _ _ _ hT6, oth1 _ _ _ hT6, oth1 _ _ _ hT6, oth1 _ _ _ hT6, oth1 _ _ _ hT6, oth1 _ _ _ hT6, oth1 _ _ _ hT6, oth1 _ _ _ hT6]
          exact ((HCm.out.to HB5.out).block T6 hl4 hn4).trans HX4.out
         have hS6 : W6.cell? ⟨T6, 0, none⟩ = some (.int .i64 t.k) /\ W6.cell? ⟨T6, 1, none⟩ = some (.int .i64 t.p) /\ W6.cell? ⟨T6, 2, none⟩ = some (.string t.n) /\ W6.cell? ⟨T6, 3, none⟩ = some (.int .i64 t.s) /\ W6.cell? ⟨T6, 4, none⟩ = some (.slice la ln lc) /\ W6.cell? ⟨T6, 5, none⟩ = some (.slice ka kn kc) := (c6 x6).1
         rw [hW6]
         refine hK2 undef W6 hS6 (fun hHeld4 => ?_)
         rw [<- hW6]
         clear hS6 x6 hW6 hHeld4
         clear hK2 K hHeld3 q0 q1 q2 q3 q4 q5 q6 q7 q8 q9 q10 q11 z0 z1 z2 z3 z4 z5 z6 z7 z8 z9 z10 z11
         refine wpAnyH_done (by kernel_rfl) ?_ _
         go_wp2_with fail
         have HP := hid (HPm.out.to HB5.out)
         have HB := hid (HBm.out.to HB5.out)
         have hwm : W1.heap.size <= wm.heap.size := HBm.out.size
         have hg5 : GPr W1.heap.size W5 (.mk 6 a b [] [] t [p]) (.agg #[.int .i64 6, .string a, .string b, .slice none 0 0, .slice none 0 0, .int .i64 t.k, .int .i64 t.p, .string t.n, .int .i64 t.s, .slice la ln lc, .slice ka kn kc, .slice (some ⟨wm.heap.size, 0, none⟩) 1 1]) := GPr.node (t := t) haz hbz (strs_nil _ _) (vls_nil _ _) (HGT.out.but (HCm.out.to HB5.out) (Nat.lt_trans hP hs1)) (prsl_one HX5.out ⟨hwm, (gl HX5.out)⟩ (HGU.out.but (But.of (P := P) HB5.out) (Nat.lt_trans hP hs1)))
         have hx8 := fill12 HX9.out (.int .i64 6) (.string a) (.string b) (.slice none 0 0) (.slice none 0 0) (.int .i64 t.k) (.int .i64 t.p) (.string t.n) (.int .i64 t.s) (.slice la ln lc) (.slice ka kn kc) (.slice (some ⟨wm.heap.size, 0, none⟩) 1 1)
         obtain ⟨⟨y0, y1, y2, y3, y4, y5, y6, y7, y8, y9, y10, y11⟩, -⟩ := c12p hx8
         refine bodyPost_ret (v := .agg #[.int .i64 6, .string a, .string b, .slice none 0 0, .slice none 0 0, .int .i64 t.k, .int .i64 t.p, .string t.n, .int .i64 t.s, .slice la ln lc, .slice ka kn kc, .slice (some ⟨wm.heap.size, 0, none⟩) 1 1]) (by simp [results, Tryz.results117, go_sem, y0, y1, y2, y3, y4, y5, y6, y7, y8, y9, y10, y11]) rfl ?_
         exact ⟨⟨_, rfl, (hg5.put12 hs1 (.int .i64 6) (.string a) (.string b) (.slice none 0 0) (.slice none 0 0) (.int .i64 t.k) (.int .i64 t.p) (.string t.n) (.int .i64 t.s) (.slice la ln lc) (.slice ka kn kc) (.slice (some ⟨wm.heap.size, 0, none⟩) 1 1)).mono (Nat.le_of_lt hs1)⟩, HP.out.oth (X := w.heap.size) (fun j hj => put12_oth hj (.int .i64 6) (.string a) (.string b) (.slice none 0 0) (.slice none 0 0) (.int .i64 t.k) (.int .i64 t.p) (.string t.n) (.int .i64 t.s) (.slice la ln lc) (.slice ka kn kc) (.slice (some ⟨wm.heap.size, 0, none⟩) 1 1)) (put12_size _ _ (.int .i64 6) (.string a) (.string b) (.slice none 0 0) (.slice none 0 0) (.int .i64 t.k) (.int .i64 t.p) (.string t.n) (.int .i64 t.s) (.slice la ln lc) (.slice ka kn kc) (.slice (some ⟨wm.heap.size, 0, none⟩) 1 1)) (Nat.ne_of_gt hP) htb, ((But.of HB1.out).trans HB.out).put12 (Nat.le_refl _) (.int .i64 6) (.string a) (.string b) (.slice none 0 0) (.slice none 0 0) (.int .i64 t.k) (.int .i64 t.p) (.string t.n) (.int .i64 t.s) (.slice la ln lc) (.slice ka kn kc) (.slice (some ⟨wm.heap.size, 0, none⟩) 1 1)⟩
end Go.Proofs.YtejaboajgecpaaaGreatDoor
