/- Parsing: lemmas. -/
import Derived.Test.YtejaboajgecpaaaGreatDoorQb42
set_option maxHeartbeats 16000000
set_option maxRecDepth 100000
namespace Go.Proofs.YtejaboajgecpaaaGreatDoor
open Go.Lib (hid)
open Go.RowKit Go.Deep Go.Shelf
theorem len_le {α : Type} (E : Int) {F : List Tk -> PR α} (h : ∀ ts x r, F ts = .ok x r -> r.length <= ts.length) (st : RS) : (stepPR E F st).len <= st.len := by
 match st with
 | .inr z => exact Nat.le_refl _
 | .inl ts =>
  cases hF : F ts with
  | bad e r => rw [stepPR_bad E hF]; exact Nat.zero_le _
  | ok x r => rw [stepPR_ok E hF]; exact Nat.succ_le_succ (h ts x r hF)
theorem exch_step (E : Int) (S : List Tk -> PR Ty) (k : Int) (st : RS) : stepPR E (pexchS S k) st = stepPR E S (stepPR E (need sDot) (stepPR E (ppayS S) (stepPR E pprio st))) /\
 ∀ y, valPR (pexchS S k) st = some y -> ∃ p t u, valPR pprio st = some p /\ valPR (ppayS S) (stepPR E pprio st) = some t /\ valPR S (stepPR E (need sDot) (stepPR E (ppayS S) (stepPR E pprio st))) = some u /\ Ty.mk k p ⟨#[]⟩ 0 [] [t, u] = y := by
 constructor
 ·exact step_bind (X := fun s => stepPR E S (stepPR E (need sDot) (stepPR E (ppayS S) s))) (fun p => step_bind (X := fun s => stepPR E S (stepPR E (need sDot) s)) (fun t => step_bind (X := fun s => stepPR E S s) (fun _ => step_bind (X := fun s => s) (fun u => step_ok _ _ _) (fun _ => rfl)) (fun _ => rfl)) (fun _ => rfl)) (fun _ => rfl)
 ·intro y hy
  obtain ⟨p, h1, h2⟩ := val_bind E hy
  obtain ⟨t, h3, h4⟩ := val_bind E h2
  obtain ⟨_, _, h6⟩ := val_bind E h4
  obtain ⟨u, h7, h8⟩ := val_bind E h6
  exact ⟨p, t, u, h1, h3, h7, val_ok h8⟩
theorem rdtrans_any (R : Nat) (la : Option Addr) (all : List Tk) (E : Int) (k : Int) (st : RS) (w : World) (h : RdIs R la all E st w) (g n : Nat) (hS : SessR R la all E (psess nameB (g + 1)) n) (hn : st.len < n) :
 Calls Tryz.prog 101 #[.pointer (some ⟨R, 0, none⟩), .int .i64 k] w (Red R la all E w (pexchS (psess nameB (g + 1)) k) st (GTy w.heap.size)) := by
 obtain ⟨he1, he2⟩ := exch_step E (psess nameB (g + 1)) k st
 have hn1 : (stepPR E pprio st).len < n := Nat.lt_of_le_of_lt (len_le E (fun _ _ _ h => pprio_le h) st) hn
 have hn2 : (stepPR E (need sDot) (stepPR E (ppayS (psess nameB (g + 1))) (stepPR E pprio st))).len < n := Nat.lt_of_le_of_lt (Nat.le_trans (len_le E (fun _ _ _ h => Nat.le_of_lt (need_le h)) _) (len_le E (fun _ _ _ h => Nat.le_of_lt (ppay_le (psess_le (g + 1)) _ _ _ h)) _)) hn1
 unfold Red
 rw [he1]
 have HE := hid he2
 have HN1 := hid hn1
 have HN2 := hid hn2
 have HS := hid hS
 clear he1 he2 hn1 hn2 hS hn
 obtain ⟨W1, hW1⟩ := ex1 (w.alloc (.cells z6 28))
 have hb1 := (made hW1).1
 have x1 := (made hW1).2
 have hs1 : w.heap.size < W1.heap.size := (gl x1)
 have hR : R < w.heap.size := h.lt
 have HLA := hid h.la
 have HP : Hid (RdIs R la all E st W1) := hid (h.to hb1)
 have HB : Hid (But R W1 W1) := hid (But.refl _ _)
 have HW1 := hid hW1
 have HB1 := hid hb1
 have HX1 := hid x1
 clear hW1 hb1 x1 h
 go_enter Tryz.func101, Tryz.ntmps101
 go_upto_region 1 with fail
 rw [HW1.out]
 go_upto_region 2 with (go_at_call 128; refine (rdprio_any R _ all E _ _ HP.out).mono ?_; rintro en wn ⟨⟨_, pr, rfl, rfl, hv⟩, hp, hb⟩; have HVpr := hid hv; clear hv; replace HP := hid hp; replace HB := hid (HB.out.trans hb); clear hp hb)
 obtain ⟨W3, hW3⟩ := ex1 (wn.alloc (.cells #[.int .i64 k, .int .i64 pr, .string ⟨#[]⟩, .int .i64 0, .slice none 0 0, .slice none 0 0] 28))
 have hbx := (made hW3).1
 have xx := (made hW3).2
 have hlA : wn.heap.size < W3.heap.size := (gl xx)
 have hsA : W1.heap.size <= wn.heap.size := HB.out.size
 have hnA : wn.heap.size ≠ R := by omega
 rw [hW3]
 have HPn := hid (HP.out.to hbx)
 have HBn := hid (HB.out.to hbx)
 have HXA := hid xx
 have HAB := hid hbx
 clear HP HB hW3 hbx xx
 have HP := HPn
 have HB := HBn
 clear HPn HBn
 obtain ⟨XA, hXA⟩ := ex1 (wn.heap.size)
 rw [hXA] at HXA hlA hsA hnA |-
 clear hXA HAB
 have HC : Hid (But R W3 W3) := hid (But.refl _ _)
 go_upto_region 3 with (go_at_call 71; refine (rdpay_any R _ all E _ _ HP.out g n HS.out HN1.out).mono ?_; rintro en wo ⟨⟨_, x, rfl, hg, hv⟩, hp, hb⟩; obtain ⟨la', ln, lc, ka, kn, kc, rfl⟩ := hg.open; have HVx := hid hv; have HG := hid (hg.mono (show W3.heap.size <= _ from HC.out.size)); clear hv hg; replace HP := hid hp; replace HB := hid (HB.out.trans hb); replace HC := hid (HC.out.trans hb); clear hp hb)
 have hw3 : W3.heap.size <= wo.heap.size := HC.out.size
 obtain ⟨W4, hW4⟩ := ex1 (wo.alloc (.cells #[.int .i64 x.k, .int .i64 x.p, .string x.n, .int .i64 x.s, .slice la' ln lc, .slice ka kn kc] 28))
 have hbx := (made hW4).1
 have xx := (made hW4).2
 have hlB : wo.heap.size < W4.heap.size := (gl xx)
 have hsB : W1.heap.size <= wo.heap.size := HB.out.size
 have hnB : wo.heap.size ≠ R := by omega
 rw [hW4]
 have HPn := hid (HP.out.to hbx)
 have HBn := hid (HB.out.to hbx)
 have HCn := hid (HC.out.to hbx)
 have HXB := hid xx
 have HBB := hid hbx
 clear HP HB HC hW4 hbx xx
 have HP := HPn
 have HB := HBn
 have HC := HCn
 clear HPn HBn HCn
 have hAB : XA < wo.heap.size := by omega
 obtain ⟨XB, hXB⟩ := ex1 (wo.heap.size)
 have HGT := hid (HG.out.but (But.of (P := R) HBB.out) (by omega))
 have HWO := hid hXB
 rw [hXB] at HXB hlB hsB hnB hAB |-
 clear hXB HBB HG hw3
 have HD : Hid (But R W4 W4) := hid (But.refl _ _)
 go_upto_region 4 with (go_at_call 59; refine (need_any R _ all E _ (by decide +kernel) _ _ HP.out).mono ?_; rintro en wq ⟨rfl, hp, hb⟩; replace HP := hid hp; replace HB := hid (HB.out.trans hb); replace HC := hid (HC.out.trans hb); replace HD := hid (HD.out.trans hb); clear hp hb)
 have HSS : Hid (∀ W, But R W4 W -> W.cell? ⟨XB, 0, none⟩ = some (.int .i64 x.k) /\ W.cell? ⟨XB, 1, none⟩ = some (.int .i64 x.p) /\ W.cell? ⟨XB, 2, none⟩ = some (.string x.n) /\ W.cell? ⟨XB, 3, none⟩ = some (.int .i64 x.s) /\ W.cell? ⟨XB, 4, none⟩ = some (.slice la' ln lc) /\ W.cell? ⟨XB, 5, none⟩ = some (.slice ka kn kc)) := hid (fun W hW => (c6 ((hW.block XB hlB hnB).trans HXB.out)).1)
 refine wp_region_held_drew (S := fun W => W.cell? ⟨XB, 0, none⟩ = some (.int .i64 x.k) /\ W.cell? ⟨XB, 1, none⟩ = some (.int .i64 x.p) /\ W.cell? ⟨XB, 2, none⟩ = some (.string x.n) /\ W.cell? ⟨XB, 3, none⟩ = some (.int .i64 x.s) /\ W.cell? ⟨XB, 4, none⟩ = some (.slice la' ln lc) /\ W.cell? ⟨XB, 5, none⟩ = some (.slice ka kn kc)) (by kernel_rfl) (HSS.out _ HD.out.drew) (fun hHeld => ?_)
 refine wpAnyH_take_l 0 (v := ?vc0) rfl rfl (by kernel_rfl) (by kernel_rfl) (by kernel_rfl) (fun _ _ _ h => h) ?hc0 (by assumption) ?rc0
 case hc0 => (intro w hSw; (try dsimp only at hSw); go_simp; try rfl)
 case' rc0 => simp only [setD, List.set_cons_succ, List.set_cons_zero]
 refine wpAnyH_take_l 1 (v := ?vc1) rfl rfl (by kernel_rfl) (by kernel_rfl) (by kernel_rfl) (fun _ _ _ h => h) ?hc1 (by assumption) ?rc1
 case hc1 => (intro w hSw; (try dsimp only at hSw); go_simp; try rfl)
 case' rc1 => simp only [setD, List.set_cons_succ, List.set_cons_zero]
 refine wpAnyH_sole 2 rfl rfl (by kernel_rfl) (fun K hK => ?_)
 have hK2 := hK.out
 clear hK
 simp only [setD, List.set_cons_succ, List.set_cons_zero] at hK2 |-
 go_simp
 refine (HS.out _ _ (HP.out.to (Below.refl _ _).drew) HN2.out).mono ?_
 rintro en wm ⟨⟨_, u, rfl, hg, hv⟩, hp, hb⟩
 obtain ⟨lb', mn, mc, kb, jn, jc, rfl⟩ := hg.open
 dsimp only
 have HVu := hid hv
 have HPm := hid hp
 have HGU := hid (hg.mono (show W3.heap.size <= _ from HC.out.drew.size))
 have HDm := hid (HD.out.drew.trans hb)
 have HCm := hid (HC.out.drew.trans hb)
 have HBm := hid (HB.out.drew.trans hb)
 refine hK2 _ _ (HSS.out wm HDm.out) (fun hHeld2 => ?_)
 clear hK2 K hHeld hg hp hb hv HB HC HD HP
 refine wpAnyH_sole 3 rfl rfl (by kernel_rfl) (fun K hK => ?_)
 have hK2 := hK.out
 clear hK
 simp only [setD, List.set_cons_succ, List.set_cons_zero] at hK2 |-
 go_simp
 obtain ⟨W5, hW5⟩ := ex1 (wm.alloc (.cells #[.int .i64 x.k, .int .i64 x.p, .string x.n, .int .i64 x.s, .slice la' ln lc, .slice ka kn kc, .int .i64 u.k, .int .i64 u.p, .string u.n, .int .i64 u.s, .slice lb' mn mc, .slice kb jn jc] 28))
 have hb5 := (made hW5).1
 have x5 := (made hW5).2
 rw [hW5]
 refine hK2 _ _ (HSS.out W5 (HDm.out.to hb5)) (fun hHeld3 => ?_)
 clear hK2 K hHeld2 hW5
 have hxa := (hb5.block _ (Nat.lt_of_lt_of_le hlA HCm.out.size)).trans ((HCm.out.block XA hlA hnA).trans HXA.out)
 obtain ⟨⟨d0, d1, d2, d3, d4, d5⟩, f0, f1, f2, f3, f4, f5⟩ := c6 hxa
 have HA5 := hid hxa
 have HB5 := hid hb5
 have HX5 := hid x5
 clear hxa hb5 x5
 refine wpAnyH_take_l 4 (v := ?vc4) rfl rfl (by kernel_rfl) (by kernel_rfl) (by kernel_rfl) (fun _ _ _ h => h) ?hc4 (by assumption) ?rc4
 case hc4 => (intro w hSw; (try dsimp only at hSw); go_simp; try rfl)
 case' rc4 => simp only [setD, List.set_cons_succ, List.set_cons_zero]
 refine wpAnyH_sole 5 rfl rfl (by kernel_rfl) (fun K hK => ?_)
 have hK2 := hK.out
 clear hK
 simp only [setD] at hK2 |-
 go_simp
 obtain ⟨W6, hW6⟩ := ex1 (W5.setCell ⟨XA, 5, none⟩ (.slice (some ⟨wm.heap.size, 0, none⟩) 2 2))
 have x6 : W6.heap[XA]? = some (.cells #[.int .i64 k, .int .i64 pr, .string ⟨#[]⟩, .int .i64 0, .slice none 0 0, .slice (some ⟨wm.heap.size, 0, none⟩) 2 2] 28 (0, 0)) := by rw [<- hW6]; exact set_block HA5.out 5 _
 have hS6 : W6.cell? ⟨XB, 0, none⟩ = some (.int .i64 x.k) /\ W6.cell? ⟨XB, 1, none⟩ = some (.int .i64 x.p) /\ W6.cell? ⟨XB, 2, none⟩ = some (.string x.n) /\ W6.cell? ⟨XB, 3, none⟩ = some (.int .i64 x.s) /\ W6.cell? ⟨XB, 4, none⟩ = some (.slice la' ln lc) /\ W6.cell? ⟨XB, 5, none⟩ = some (.slice ka kn kc) := by
  refine (c6 (?_ : W6.heap[XB]? = some (.cells #[.int .i64 x.k, .int .i64 x.p, .string x.n, .int .i64 x.s, .slice la' ln lc, .slice ka kn kc] 28 (0, 0)))).1
  rw [<- hW6]
  exact (oth1 _ _ _ (Nat.ne_of_gt hAB)).trans (((HDm.out.to HB5.out).block XB hlB hnB).trans HXB.out)
 have HPn : Hid (RdIs R la all E _ W6) := hid (by rw [<- hW6]; exact (HPm.out.to HB5.out).oth (X := XA) (fun j hj => oth1 _ _ _ hj) (by simp [World.setCell]) (by omega) (HLA.out.mono (by omega)))
 have HBn : Hid (But R W1 W6) := hid (by rw [<- hW6]; exact (HBm.out.to HB5.out).setX hsA 5 _)
 have hwm : W1.heap.size <= wm.heap.size := HBm.out.size
 have hDm : W4.heap.size <= wm.heap.size := HDm.out.size
 have hne5 : wm.heap.size ≠ XA := by omega
 have hy5 : W6.heap[wm.heap.size]? = some (.cells #[.int .i64 x.k, .int .i64 x.p, .string x.n, .int .i64 x.s, .slice la' ln lc, .slice ka kn kc, .int .i64 u.k, .int .i64 u.p, .string u.n, .int .i64 u.s, .slice lb' mn mc, .slice kb jn jc] 28 (0, 0)) := by rw [<- hW6]; exact (oth1 _ _ _ hne5).trans HX5.out
 have hgt6 : GTy W1.heap.size W6 (.mk k pr ⟨#[]⟩ 0 [] [x, u]) (.agg #[.int .i64 k, .int .i64 pr, .string ⟨#[]⟩, .int .i64 0, .slice none 0 0, .slice (some ⟨wm.heap.size, 0, none⟩) 2 2]) := by
  have hw3m : W3.heap.size <= wm.heap.size := HCm.out.size
  have h3 : GTy W3.heap.size W6 x (.agg #[.int .i64 x.k, .int .i64 x.p, .string x.n, .int .i64 x.s, .slice la' ln lc, .slice ka kn kc]) := by rw [<- hW6]; exact (HGT.out.but (HDm.out.to HB5.out) (by omega)).but ((But.refl XA W5).set 5 _) hlA
  have h4 : GTy W3.heap.size W6 u (.agg #[.int .i64 u.k, .int .i64 u.p, .string u.n, .int .i64 u.s, .slice lb' mn mc, .slice kb jn jc]) := by rw [<- hW6]; exact (HGU.out.but (But.of (P := R) HB5.out) (by omega)).but ((But.refl XA W5).set 5 _) hlA
  exact (GTy.node (Nat.zero_le _) (str_nil _ _) (tys_two hy5 ⟨hw3m, (gl hy5)⟩ h3 h4)).mono (by omega)
 rw [hW6]
 refine hK2 undef W6 hS6 (fun hHeld4 => ?_)
 clear hK2 K hHeld3 hHeld4 hS6 d0 d1 d2 d3 d4 d5 f0 f1 f2 f3 f4 f5 hW6
 refine wpAnyH_done (by kernel_rfl) ?_ _
 have HP := HPn
 have HB := HBn
 have HGT6 := hid hgt6
 clear HPn HBn HPm HBm hgt6 hne5 hy5
 obtain ⟨⟨d0, d1, d2, d3, d4, d5⟩, -⟩ := c6 x6
 clear x6
 have hx9 : W6.heap[w.heap.size]? = some (.cells z6 28 (0, 0)) := (HB.out.block w.heap.size hs1 (Nat.ne_of_gt hR)).trans HX1.out
 obtain ⟨⟨q0, q1, q2, q3, q4, q5⟩, z0, z1, z2, z3, z4, z5⟩ := c6 hx9
 have HX9 := hid hx9
 clear hx9
 go_wp2_with fail
 have hx8 := fill6 HX9.out (.int .i64 k) (.int .i64 pr) (.string ⟨#[]⟩) (.int .i64 0) (.slice none 0 0) (.slice (some ⟨wm.heap.size, 0, none⟩) 2 2)
 obtain ⟨⟨y0, y1, y2, y3, y4, y5⟩, -⟩ := c6 hx8
 refine bodyPost_ret (v := .agg #[.int .i64 k, .int .i64 pr, .string ⟨#[]⟩, .int .i64 0, .slice none 0 0, .slice (some ⟨wm.heap.size, 0, none⟩) 2 2]) (by simp [results, Tryz.results101, go_sem, y0, y1, y2, y3, y4, y5]) rfl ?_
 refine ⟨⟨_, Ty.mk k pr ⟨#[]⟩ 0 [] [x, u], rfl, (HGT6.out.put6 hs1 (.int .i64 k) (.int .i64 pr) (.string ⟨#[]⟩) (.int .i64 0) (.slice none 0 0) (.slice (some ⟨wm.heap.size, 0, none⟩) 2 2)).mono (Nat.le_of_lt hs1), fun y hy => by obtain ⟨p', t', u', h1, h2, h3, rfl⟩ := HE.out y hy; rw [HVpr.out p' h1, HVx.out t' h2, HVu.out u' h3]⟩, HP.out.put6 hR HLA.out (.int .i64 k) (.int .i64 pr) (.string ⟨#[]⟩) (.int .i64 0) (.slice none 0 0) (.slice (some ⟨wm.heap.size, 0, none⟩) 2 2), ((But.of HB1.out).trans HB.out).put6 (Nat.le_refl _) (.int .i64 k) (.int .i64 pr) (.string ⟨#[]⟩) (.int .i64 0) (.slice none 0 0) (.slice (some ⟨wm.heap.size, 0, none⟩) 2 2)⟩
end Go.Proofs.YtejaboajgecpaaaGreatDoor
