/- Parsing: lemmas. -/
import Derived.Test.YtejaboajgecpaaaGreatDoorQn8
set_option maxHeartbeats 16000000
set_option maxRecDepth 100000
namespace Go.Proofs.YtejaboajgecpaaaGreatDoor
open Go.Lib (hid)
open Go.RowKit Go.Shelf Go.Deep
theorem wpAnyH_sole {P : Program} {md : Region.Mode} {l : List Oper} {Q : Exit -> Act -> World -> Prop} {S : World -> Prop} {fuel : Nat} {B : List Bool} {T : List Value} {ds : List Deferred} {w : World} (i : Nat) {o : Oper} (ho : l[i]? = some o) (hg : o.guard = none)
 (hr : Region.ready md l.toArray B.toArray = [i])
 (h : ∀ K : Act -> World -> Prop, Shut (∀ v w', S w' -> (S w' -> wpAnyH P md l.toArray Q S fuel (B.set i true).toArray ⟨(setD T o.dst v).toArray, ds⟩ w') -> K ⟨(setD T o.dst v).toArray, ds⟩ w') -> Oper.wp P o ⟨T.toArray, ds⟩ w K Q) :
 wpAnyH P md l.toArray Q S (fuel + 1) B.toArray ⟨T.toArray, ds⟩ w := by
 refine wpAnyH_all hr (by simp) (fun j hj => ?_)
 obtain rfl := List.mem_singleton.1 hj
 have ho' : l.toArray[j]? = some o := by simpa using ho
 have hw : Region.wanted o (yielded l.toArray T.toArray) = true := by simp [Region.wanted, hg]
 unfold wpOp
 simp only [ho']
 rw [if_pos hw]
 refine .inl (h _ (fun v w' h1 h2 => ?_))
 refine ⟨h1, ?_⟩
 rw [List.setIfInBounds_toArray]
 exact h2 h1
theorem But.drew {P : Nat} {V w : World} (h : But P V w) : But P V w.drew := ⟨h.os, h.tape, h.output, h.size, h.block⟩
theorem pnumber_le {ts : List Tk} {x : Int} {r : List Tk} (h : pnumber ts = .ok x r) : r.length < ts.length := by
 cases ts with
 | nil => cases h
 | cons y s =>
  rw [pnumber] at h
  split at h
  ·cases h
  split at h
  ·cases h
  ·cases h; simp
theorem pprio_le {ts : List Tk} {x : Int} {r : List Tk} (h : pprio ts = .ok x r) : r.length <= ts.length := by
 cases ts with
 | nil => cases h; simp
 | cons y s =>
  rw [pprio] at h
  split at h
  ·cases h; simp
  ·exact Nat.le_of_lt (pnumber_le h)
def Shorter {α : Type} (S : List Tk -> PR α) : Prop := ∀ ts x r, S ts = .ok x r -> r.length < ts.length
theorem hd_tail {s : ByteArray} {ts : List Tk} (h : hd s ts = true) : ts.tail.length < ts.length := by
 cases ts with
 | nil => cases h
 | cons y s => simp
theorem pany_le {S : List Tk -> PR Ty} (hS : Shorter S) : Shorter (panyS S) := by
 intro ts x r h
 unfold panyS at h
 split at h
 ·next hh => cases h; exact hd_tail hh
 split at h
 ·next hh => cases h; exact hd_tail hh
 ·exact hS _ _ _ h
theorem ppay_le {S : List Tk -> PR Ty} (hS : Shorter S) : Shorter (ppayS S) := by
 intro ts x r h
 unfold ppayS at h
 split at h
 ·cases h
 ·exact pany_le hS _ _ _ h
theorem tys_two {B : Nat -> Prop} {W : World} {b : Nat} {T : TypeId} {fr : Nat × Nat} {t u : Ty} {la : Option Addr} {ln lc : Nat} {ka : Option Addr} {kn kc : Nat} {la' : Option Addr} {ln' lc' : Nat} {ka' : Option Addr} {kn' kc' : Nat} (h : W.heap[b]? = some (.cells #[.int .i64 t.k, .int .i64 t.p, .string t.n, .int .i64 t.s, .slice la ln lc, .slice ka kn kc, .int .i64 u.k, .int .i64 u.p, .string u.n, .int .i64 u.s, .slice la' ln' lc', .slice ka' kn' kc'] T fr)) (hb : B b) (ht : TyVal B W (.agg #[.int .i64 t.k, .int .i64 t.p, .string t.n, .int .i64 t.s, .slice la ln lc, .slice ka kn kc]) t) (hu : TyVal B W (.agg #[.int .i64 u.k, .int .i64 u.p, .string u.n, .int .i64 u.s, .slice la' ln' lc', .slice ka' kn' kc']) u) : TySl B W (.slice (some ⟨b, 0, none⟩) 2 2) [t, u] := by
 have cell : ∀ i v, [Value.int .i64 t.k, .int .i64 t.p, .string t.n, .int .i64 t.s, .slice la ln lc, .slice ka kn kc, .int .i64 u.k, .int .i64 u.p, .string u.n, .int .i64 u.s, .slice la' ln' lc', .slice ka' kn' kc'][i]? = some v -> W.cell? ⟨b, i, none⟩ = some v := by
  intro i v hi
  simp only [World.cell?, h]
  simpa using hi
 have a1 : TyAt B W t b 0 := tyAt_of hb (cell 0 _ rfl) (cell 1 _ rfl) (cell 2 _ rfl) (cell 3 _ rfl) (cell 4 _ rfl) (cell 5 _ rfl) ht
 have a2 : TyAt B W u b (0 + 6) := tyAt_of hb (cell 6 _ rfl) (cell 7 _ rfl) (cell 8 _ rfl) (cell 9 _ rfl) (cell 10 _ rfl) (cell 11 _ rfl) hu
 exact ⟨.inr ⟨b, 0, 2, rfl, hb, by simp only [TysAt]; exact ⟨a1, a2, trivial⟩⟩, by simp [maxLen]⟩
theorem pexch_any (P tb : Nat) (E : Int) (ts : List Tk) (B : Nat) (w : World) (he : Env B w) (hBP : B <= P) (h : PaIs P tb E ts w) (S : List Tk -> PR Ty) (n : Nat) (hn : ts.length < n) (hS : SessOK P tb E B S n) (hSl : Shorter S) (k : Int) :
 Calls Tryz.prog 93 #[.pointer (some ⟨P, 0, none⟩), .int .i64 k] w (Parsed P tb E w (pexchS S k ts) (GTy w.heap.size)) := by
 obtain ⟨W1, hW1⟩ := ex1 (w.alloc (.cells z6 28))
 have hb1 := (made hW1).1
 have x1 := (made hW1).2
 have hs1 : w.heap.size < W1.heap.size := (gl x1)
 have hP : P < w.heap.size := h.lt
 have htb : tb ≠ w.heap.size := Nat.ne_of_lt h.tlt
 have HTB := hid h.tlt
 have HP : Hid (PaIs P tb E ts W1) := hid (h.to hb1)
 have HB : Hid (But P W1 W1) := hid (But.refl _ _)
 have HW1 := hid hW1
 have HB1 := hid hb1
 have HX1 := hid x1
 have HE := hid (he.to hb1)
 clear hW1 hb1 x1 he h
 unfold pexchS
 have HS := hid hS
 clear hS
 cases h1 : pprio ts with
 | bad er r =>
  show Calls _ _ _ _ (Parsed P tb E w (PR.bad er r) _)
  go_enter Tryz.func93, Tryz.ntmps93
  go_upto_region 1 with fail
  rw [HW1.out]
  go_wp2_with (go_at_call 120; refine (pprio_any P tb E _ _ HP.out).mono ?_; rw [h1]; rintro en wn ⟨rfl, hb⟩; replace HB := hid (HB.out.trans hb); clear hb)
  exact ⟨rfl, rfl, (But.of HB1.out).trans HB.out⟩
 | ok pr r1 =>
  have hl1 : r1.length < n := by have := pprio_le h1; omega
  cases h2 : ppayS S r1 with
  | bad er r =>
   show Calls _ _ _ _ (Parsed P tb E w ((ppayS S r1).bind _) _)
   rw [h2]
   show Calls _ _ _ _ (Parsed P tb E w (PR.bad er r) _)
   go_enter Tryz.func93, Tryz.ntmps93
   go_upto_region 1 with fail
   rw [HW1.out]
   go_wp2_with (first | (go_at_call 120; refine (pprio_any P tb E _ _ HP.out).mono ?_; rw [h1]; rintro en wn ⟨⟨_, rfl, rfl⟩, hp, hb⟩; replace HP := hid hp; replace HB := hid (HB.out.trans hb); clear hp hb) | (go_at_call 121; refine (ppay_any P tb E _ B _ (HE.out.but HB.out hBP) hBP HP.out S n hl1 HS.out).mono ?_; rw [h2]; rintro en wn ⟨rfl, hb⟩; replace HB := hid (HB.out.trans hb); clear hb))
   exact ⟨rfl, rfl, (But.of HB1.out).trans HB.out⟩
  | ok t r2 =>
   have hl2 : r2.length < n := by have := ppay_le hSl _ _ _ h2; omega
   have hstep : ∀ (Q : PR Ty -> Prop), Q ((need sDot r2).bind fun _ r => (S r).bind fun u r => .ok (.mk k pr ⟨#[]⟩ 0 [] [t, u]) r) -> Q (PR.bind (.ok pr r1) fun p r => (ppayS S r).bind fun t r => (need sDot r).bind fun _ r => (S r).bind fun u r => .ok (.mk k p ⟨#[]⟩ 0 [] [t, u]) r) := fun Q q => by
    show Q ((ppayS S r1).bind _)
    rw [h2]
    exact q
   refine hstep (fun x => Calls _ _ _ _ (Parsed P tb E w x _)) ?_
   clear hstep
   cases h3 : need sDot r2 with
   | bad er r =>
    show Calls _ _ _ _ (Parsed P tb E w (PR.bad er r) _)
    go_enter Tryz.func93, Tryz.ntmps93
    go_upto_region 1 with fail
    rw [HW1.out]
    go_upto_region 3 with (first | (go_at_call 120; refine (pprio_any P tb E _ _ HP.out).mono ?_; rw [h1]; rintro en wn ⟨⟨_, rfl, rfl⟩, hp, hb⟩; replace HP := hid hp; replace HB := hid (HB.out.trans hb); clear hp hb) | (go_at_call 121; refine (ppay_any P tb E _ B _ (HE.out.but HB.out hBP) hBP HP.out S n hl1 HS.out).mono ?_; rw [h2]; rintro en wn ⟨⟨v, rfl, hg⟩, hp, hb⟩; obtain ⟨la, ln, lc, ka, kn, kc, rfl⟩ := hg.open; have HPn := hid hp; have HG := hid (hg.mono (show W1.heap.size <= _ from HB.out.size)); have HBn := hid (HB.out.trans hb); clear hg; clear hp hb HP HB; have HP := HPn; have HB := HBn; clear HPn HBn; skip))
    obtain ⟨W4, hW4⟩ := ex1 (wn.alloc (.cells #[.int .i64 t.k, .int .i64 t.p, .string t.n, .int .i64 t.s, .slice la ln lc, .slice ka kn kc] 28))
    have hb4 := (made hW4).1
    have x4 := (made hW4).2
    have hl4 : wn.heap.size < W4.heap.size := (gl x4)
    have hsz : W1.heap.size <= wn.heap.size := HB.out.size
    have hn4 : wn.heap.size ≠ P := by omega
    have HPn := hid (HP.out.to hb4)
    have HBn := hid (HB.out.to hb4)
    have HC : Hid (But P W4 W4) := hid (But.refl _ _)
    have HX4 := hid x4
    have HGT := hid (HG.out.but (But.of (P := P) hb4) (Nat.lt_trans hP hs1))
    rw [hW4]
    clear HP HB HG hW4 hb4 x4
    have HP := HPn
    have HB := HBn
    clear HPn HBn
    obtain ⟨T6, hT6⟩ := ex1 (wn.heap.size)
    rw [hT6] at HX4 hl4 hn4 hsz |-
    clear hT6
    go_wp2_with (go_at_call 52; refine (expB HP HB h3).mono ?_; rintro _ wn ⟨rfl, HB⟩)
    exact ⟨rfl, rfl, (But.of HB1.out).trans HB.out⟩
   | ok un r3 =>
    have hl3 : r3.length < n := by have := need_le h3; omega
    show Calls _ _ _ _ (Parsed P tb E w ((S r3).bind _) _)
    cases hr : S r3 with
    | bad er r =>
     show Calls _ _ _ _ (Parsed P tb E w (PR.bad er r) _)
     go_enter Tryz.func93, Tryz.ntmps93
     go_upto_region 1 with fail
     rw [HW1.out]
     go_upto_region 3 with (first | (go_at_call 120; refine (pprio_any P tb E _ _ HP.out).mono ?_; rw [h1]; rintro en wn ⟨⟨_, rfl, rfl⟩, hp, hb⟩; replace HP := hid hp; replace HB := hid (HB.out.trans hb); clear hp hb) | (go_at_call 121; refine (ppay_any P tb E _ B _ (HE.out.but HB.out hBP) hBP HP.out S n hl1 HS.out).mono ?_; rw [h2]; rintro en wn ⟨⟨v, rfl, hg⟩, hp, hb⟩; obtain ⟨la, ln, lc, ka, kn, kc, rfl⟩ := hg.open; have HPn := hid hp; have HG := hid (hg.mono (show W1.heap.size <= _ from HB.out.size)); have HBn := hid (HB.out.trans hb); clear hg; clear hp hb HP HB; have HP := HPn; have HB := HBn; clear HPn HBn; skip))
     obtain ⟨W4, hW4⟩ := ex1 (wn.alloc (.cells #[.int .i64 t.k, .int .i64 t.p, .string t.n, .int .i64 t.s, .slice la ln lc, .slice ka kn kc] 28))
     have hb4 := (made hW4).1
     have x4 := (made hW4).2
     have hl4 : wn.heap.size < W4.heap.size := (gl x4)
     have hsz : W1.heap.size <= wn.heap.size := HB.out.size
     have hn4 : wn.heap.size ≠ P := by omega
     have HPn := hid (HP.out.to hb4)
     have HBn := hid (HB.out.to hb4)
     have HC : Hid (But P W4 W4) := hid (But.refl _ _)
     have HX4 := hid x4
     have HGT := hid (HG.out.but (But.of (P := P) hb4) (Nat.lt_trans hP hs1))
     rw [hW4]
     clear HP HB HG hW4 hb4 x4
     have HP := HPn
     have HB := HBn
     clear HPn HBn
     obtain ⟨T6, hT6⟩ := ex1 (wn.heap.size)
     rw [hT6] at HX4 hl4 hn4 hsz |-
     clear hT6
     go_upto_region 4 with (go_at_call 52; refine (expect_any P tb E _ (by decide +kernel) _ _ HP.out).mono ?_; rw [h3]; rintro en wn ⟨⟨_, rfl, _⟩, hp, hb⟩; replace HP := hid hp; replace HB := hid (HB.out.trans hb); replace HC := hid (HC.out.trans hb); clear hp hb)
     have HSS : Hid (∀ W, But P W4 W -> W.cell? ⟨T6, 0, none⟩ = some (.int .i64 t.k) /\ W.cell? ⟨T6, 1, none⟩ = some (.int .i64 t.p) /\ W.cell? ⟨T6, 2, none⟩ = some (.string t.n) /\ W.cell? ⟨T6, 3, none⟩ = some (.int .i64 t.s) /\ W.cell? ⟨T6, 4, none⟩ = some (.slice la ln lc) /\ W.cell? ⟨T6, 5, none⟩ = some (.slice ka kn kc)) := hid (fun W hW => (c6 ((hW.block T6 hl4 hn4).trans HX4.out)).1)
     refine wp_region_held_drew (S := fun W => W.cell? ⟨T6, 0, none⟩ = some (.int .i64 t.k) /\ W.cell? ⟨T6, 1, none⟩ = some (.int .i64 t.p) /\ W.cell? ⟨T6, 2, none⟩ = some (.string t.n) /\ W.cell? ⟨T6, 3, none⟩ = some (.int .i64 t.s) /\ W.cell? ⟨T6, 4, none⟩ = some (.slice la ln lc) /\ W.cell? ⟨T6, 5, none⟩ = some (.slice ka kn kc)) (by kernel_rfl) (HSS.out _ HC.out.drew) (fun hHeld => ?_)
     refine wpAnyH_take_l 0 (v := ?vb0) rfl rfl (by kernel_rfl) (by kernel_rfl) (by kernel_rfl) (fun _ _ _ h => h) ?hb0 (by assumption) ?rb0
     case hb0 => (intro w hSw; (try dsimp only at hSw); go_simp; try rfl)
     case' rb0 => simp only [setD, List.set_cons_succ, List.set_cons_zero]
     refine wpAnyH_take_l 1 (v := ?vb1) rfl rfl (by kernel_rfl) (by kernel_rfl) (by kernel_rfl) (fun _ _ _ h => h) ?hb1 (by assumption) ?rb1
     case hb1 => (intro w hSw; (try dsimp only at hSw); go_simp; try rfl)
     case' rb1 => simp only [setD, List.set_cons_succ, List.set_cons_zero]
     refine wpAnyH_take_l 2 (v := ?vb2) rfl rfl (by kernel_rfl) (by kernel_rfl) (by kernel_rfl) (fun _ _ _ h => h) ?hb2 (by assumption) ?rb2
     case hb2 => (intro w hSw; (try dsimp only at hSw); go_simp; try rfl)
     case' rb2 => simp only [setD, List.set_cons_succ, List.set_cons_zero]
     refine wpAnyH_take_l 3 (v := ?vb3) rfl rfl (by kernel_rfl) (by kernel_rfl) (by kernel_rfl) (fun _ _ _ h => h) ?hb3 (by assumption) ?rb3
     case hb3 => (intro w hSw; (try dsimp only at hSw); go_simp; try rfl)
     case' rb3 => simp only [setD, List.set_cons_succ, List.set_cons_zero]
     refine wpAnyH_sole 4 rfl rfl (by kernel_rfl) (fun K hK => ?_)
     have hK2 := hK.out
     clear hK
     simp only [setD, List.set_cons_succ, List.set_cons_zero] at hK2 |-
     go_simp
     refine (HS.out _ _ hl3 ((HE.out.but HB.out hBP).to (Below.refl _ _).drew) (HP.out.to (Below.refl _ _).drew)).mono ?_
     rw [hr]
     rintro en wm ⟨rfl, hb⟩
     dsimp only
     exact ⟨rfl, rfl, (But.of HB1.out).trans (HB.out.drew.trans hb)⟩
    | ok u r =>
     show Calls _ _ _ _ (Parsed P tb E w (PR.ok (Ty.mk k pr ⟨#[]⟩ 0 [] [t, u]) r) _)
     go_enter Tryz.func93, Tryz.ntmps93
     go_upto_region 1 with fail
     rw [HW1.out]
     go_upto_region 3 with (first | (go_at_call 120; refine (pprio_any P tb E _ _ HP.out).mono ?_; rw [h1]; rintro en wn ⟨⟨_, rfl, rfl⟩, hp, hb⟩; replace HP := hid hp; replace HB := hid (HB.out.trans hb); clear hp hb) | (go_at_call 121; refine (ppay_any P tb E _ B _ (HE.out.but HB.out hBP) hBP HP.out S n hl1 HS.out).mono ?_; rw [h2]; rintro en wn ⟨⟨v, rfl, hg⟩, hp, hb⟩; obtain ⟨la, ln, lc, ka, kn, kc, rfl⟩ := hg.open; have HPn := hid hp; have HG := hid (hg.mono (show W1.heap.size <= _ from HB.out.size)); have HBn := hid (HB.out.trans hb); clear hg; clear hp hb HP HB; have HP := HPn; have HB := HBn; clear HPn HBn; skip))
     obtain ⟨W4, hW4⟩ := ex1 (wn.alloc (.cells #[.int .i64 t.k, .int .i64 t.p, .string t.n, .int .i64 t.s, .slice la ln lc, .slice ka kn kc] 28))
     have hb4 := (made hW4).1
     have x4 := (made hW4).2
     have hl4 : wn.heap.size < W4.heap.size := (gl x4)
     have hsz : W1.heap.size <= wn.heap.size := HB.out.size
     have hn4 : wn.heap.size ≠ P := by omega
     have HPn := hid (HP.out.to hb4)
     have HBn := hid (HB.out.to hb4)
     have HC : Hid (But P W4 W4) := hid (But.refl _ _)
     have HX4 := hid x4
     have HGT := hid (HG.out.but (But.of (P := P) hb4) (Nat.lt_trans hP hs1))
     rw [hW4]
     clear HP HB HG hW4 hb4 x4
     have HP := HPn
     have HB := HBn
     clear HPn HBn
     obtain ⟨T6, hT6⟩ := ex1 (wn.heap.size)
     rw [hT6] at HX4 hl4 hn4 hsz |-
     clear hT6
     go_upto_region 4 with (go_at_call 52; refine (expect_any P tb E _ (by decide +kernel) _ _ HP.out).mono ?_; rw [h3]; rintro en wn ⟨⟨_, rfl, _⟩, hp, hb⟩; replace HP := hid hp; replace HB := hid (HB.out.trans hb); replace HC := hid (HC.out.trans hb); clear hp hb)
     have HSS : Hid (∀ W, But P W4 W -> W.cell? ⟨T6, 0, none⟩ = some (.int .i64 t.k) /\ W.cell? ⟨T6, 1, none⟩ = some (.int .i64 t.p) /\ W.cell? ⟨T6, 2, none⟩ = some (.string t.n) /\ W.cell? ⟨T6, 3, none⟩ = some (.int .i64 t.s) /\ W.cell? ⟨T6, 4, none⟩ = some (.slice la ln lc) /\ W.cell? ⟨T6, 5, none⟩ = some (.slice ka kn kc)) := hid (fun W hW => (c6 ((hW.block T6 hl4 hn4).trans HX4.out)).1)
     refine wp_region_held_drew (S := fun W => W.cell? ⟨T6, 0, none⟩ = some (.int .i64 t.k) /\ W.cell? ⟨T6, 1, none⟩ = some (.int .i64 t.p) /\ W.cell? ⟨T6, 2, none⟩ = some (.string t.n) /\ W.cell? ⟨T6, 3, none⟩ = some (.int .i64 t.s) /\ W.cell? ⟨T6, 4, none⟩ = some (.slice la ln lc) /\ W.cell? ⟨T6, 5, none⟩ = some (.slice ka kn kc)) (by kernel_rfl) (HSS.out _ HC.out.drew) (fun hHeld => ?_)
     refine wpAnyH_take_l 0 (v := ?vc0) rfl rfl (by kernel_rfl) (by kernel_rfl) (by kernel_rfl) (fun _ _ _ h => h) ?hc0 (by assumption) ?rc0
     case hc0 => (intro w hSw; (try dsimp only at hSw); go_simp; try rfl)
     case' rc0 => simp only [setD, List.set_cons_succ, List.set_cons_zero]
     refine wpAnyH_take_l 1 (v := ?vc1) rfl rfl (by kernel_rfl) (by kernel_rfl) (by kernel_rfl) (fun _ _ _ h => h) ?hc1 (by assumption) ?rc1
     case hc1 => (intro w hSw; (try dsimp only at hSw); go_simp; try rfl)
     case' rc1 => simp only [setD, List.set_cons_succ, List.set_cons_zero]
     refine wpAnyH_take_l 2 (v := ?vc2) rfl rfl (by kernel_rfl) (by kernel_rfl) (by kernel_rfl) (fun _ _ _ h => h) ?hc2 (by assumption) ?rc2
     case hc2 => (intro w hSw; (try dsimp only at hSw); go_simp; try rfl)
     case' rc2 => simp only [setD, List.set_cons_succ, List.set_cons_zero]
     refine wpAnyH_take_l 3 (v := ?vc3) rfl rfl (by kernel_rfl) (by kernel_rfl) (by kernel_rfl) (fun _ _ _ h => h) ?hc3 (by assumption) ?rc3
     case hc3 => (intro w hSw; (try dsimp only at hSw); go_simp; try rfl)
     case' rc3 => simp only [setD, List.set_cons_succ, List.set_cons_zero]
     refine wpAnyH_sole 4 rfl rfl (by kernel_rfl) (fun K hK => ?_)
     have hK2 := hK.out
     clear hK
     simp only [setD, List.set_cons_succ, List.set_cons_zero] at hK2 |-
     go_simp
     refine (HS.out _ _ hl3 ((HE.out.but HB.out hBP).to (Below.refl _ _).drew) (HP.out.to (Below.refl _ _).drew)).mono ?_
     rw [hr]
     rintro en wm ⟨⟨v, rfl, hg⟩, hp, hb⟩
     obtain ⟨la', ln', lc', ka', kn', kc', rfl⟩ := hg.open
     dsimp only
     have HPm := hid hp
     have HGU := hid (hg.mono (show W1.heap.size <= _ from HB.out.drew.size))
     have HCm := hid (HC.out.drew.trans hb)
     have HBm := hid (HB.out.drew.trans hb)
     refine hK2 _ _ (HSS.out wm HCm.out) (fun hHeld2 => ?_)
     clear hK2 K hHeld hg hp hb
     refine wpAnyH_sole 5 rfl rfl (by kernel_rfl) (fun K hK => ?_)
     have hK2 := hK.out
     clear hK
     simp only [setD, List.set_cons_succ, List.set_cons_zero] at hK2 |-
     go_simp
     obtain ⟨W5, hW5⟩ := ex1 (wm.alloc (.cells #[.int .i64 t.k, .int .i64 t.p, .string t.n, .int .i64 t.s, .slice la ln lc, .slice ka kn kc, .int .i64 u.k, .int .i64 u.p, .string u.n, .int .i64 u.s, .slice la' ln' lc', .slice ka' kn' kc'] 28))
     have hb5 := (made hW5).1
     have x5 := (made hW5).2
     rw [hW5]
     refine hK2 _ _ (HSS.out W5 (HCm.out.to hb5)) (fun hHeld3 => ?_)
     clear hK2 K hHeld2 hW5
     refine wpAnyH_take_l 6 (v := ?vz6) rfl rfl (by kernel_rfl) (by kernel_rfl) (by kernel_rfl) (fun _ _ _ h => h) ?hz6 (by assumption) ?rz6
     case hz6 => (intro w hSw; (try dsimp only at hSw); go_simp; try rfl)
     case' rz6 => simp only [setD, List.set_cons_succ, List.set_cons_zero]
     have hx9 := (hb5.block _ (Nat.lt_of_lt_of_le hs1 HBm.out.size)).trans ((HBm.out.block w.heap.size hs1 (Nat.ne_of_gt hP)).trans HX1.out)
     obtain ⟨⟨q0, q1, q2, q3, q4, q5⟩, z0, z1, z2, z3, z4, z5⟩ := c6 hx9
     have HX9 := hid hx9
     have HB5 := hid hb5
     have HX5 := hid x5
     clear hx9 hb5 x5
     refine wpAnyH_sole 7 rfl rfl (by kernel_rfl) (fun K hK => ?_)
     have hK2 := hK.out
     clear hK
     simp only [setD] at hK2 |-
     go_simp
     have hT6 : T6 ≠ w.heap.size := by omega
     obtain ⟨W6, hW6⟩ := ex1 ((((((W5.setCell ⟨w.heap.size, 0, none⟩ (.int .i64 k)).setCell ⟨w.heap.size, 1, none⟩ (.int .i64 pr)).setCell ⟨w.heap.size, 2, none⟩ (.string ⟨#[]⟩)).setCell ⟨w.heap.size, 3, none⟩ (.int .i64 0)).setCell ⟨w.heap.size, 4, none⟩ (.slice none 0 0)).setCell ⟨w.heap.size, 5, none⟩ (.slice (some ⟨wm.heap.size, 0, none⟩) 2 2))
     have x6 : W6.heap[T6]? = some (.cells #[.int .i64 t.k, .int .i64 t.p, .string t.n, .int .i64 t.s, .slice la ln lc, .slice ka kn kc] 28 (0, 0)) := by
      rw [<- hW6, oth1 _ _ _ hT6, oth1 _ _ _ hT6, oth1 _ _ _ hT6, oth1 _ _ _ hT6, oth1 _ _ _ hT6, oth1 _ _ _ hT6]
      exact ((HCm.out.to HB5.out).block T6 hl4 hn4).trans HX4.out
     have hS6 : W6.cell? ⟨T6, 0, none⟩ = some (.int .i64 t.k) /\ W6.cell? ⟨T6, 1, none⟩ = some (.int .i64 t.p) /\ W6.cell? ⟨T6, 2, none⟩ = some (.string t.n) /\ W6.cell? ⟨T6, 3, none⟩ = some (.int .i64 t.s) /\ W6.cell? ⟨T6, 4, none⟩ = some (.slice la ln lc) /\ W6.cell? ⟨T6, 5, none⟩ = some (.slice ka kn kc) := (c6 x6).1
     rw [hW6]
     refine hK2 undef W6 hS6 (fun hHeld4 => ?_)
     rw [<- hW6]
     clear hS6 x6 hW6 hHeld4
     clear hK2 K hHeld3 q0 q1 q2 q3 q4 q5 z0 z1 z2 z3 z4 z5
     refine wpAnyH_done (by kernel_rfl) ?_ _
     go_wp2_with fail
     have HP := hid (HPm.out.to HB5.out)
     have HB := hid (HBm.out.to HB5.out)
     have hwm : W1.heap.size <= wm.heap.size := HBm.out.size
     have hg5 : GTy W1.heap.size W5 (.mk k pr ⟨#[]⟩ 0 [] [t, u]) (.agg #[.int .i64 k, .int .i64 pr, .string ⟨#[]⟩, .int .i64 0, .slice none 0 0, .slice (some ⟨wm.heap.size, 0, none⟩) 2 2]) := GTy.node (Nat.zero_le _) (str_nil _ _) (tys_two HX5.out ⟨hwm, (gl HX5.out)⟩ (HGT.out.but (HCm.out.to HB5.out) (Nat.lt_trans hP hs1)) (HGU.out.but (But.of (P := P) HB5.out) (Nat.lt_trans hP hs1)))
     have hx8 := fill6 HX9.out (.int .i64 k) (.int .i64 pr) (.string ⟨#[]⟩) (.int .i64 0) (.slice none 0 0) (.slice (some ⟨wm.heap.size, 0, none⟩) 2 2)
     obtain ⟨⟨y0, y1, y2, y3, y4, y5⟩, -⟩ := c6 hx8
     refine bodyPost_ret (v := .agg #[.int .i64 k, .int .i64 pr, .string ⟨#[]⟩, .int .i64 0, .slice none 0 0, .slice (some ⟨wm.heap.size, 0, none⟩) 2 2]) (by simp [results, Tryz.results93, go_sem, y0, y1, y2, y3, y4, y5]) rfl ?_
     exact ⟨⟨_, rfl, (hg5.put6 hs1 (.int .i64 k) (.int .i64 pr) (.string ⟨#[]⟩) (.int .i64 0) (.slice none 0 0) (.slice (some ⟨wm.heap.size, 0, none⟩) 2 2)).mono (Nat.le_of_lt hs1)⟩, HP.out.oth (X := w.heap.size) (fun j hj => put6_oth hj (.int .i64 k) (.int .i64 pr) (.string ⟨#[]⟩) (.int .i64 0) (.slice none 0 0) (.slice (some ⟨wm.heap.size, 0, none⟩) 2 2)) (put6_size _ _ (.int .i64 k) (.int .i64 pr) (.string ⟨#[]⟩) (.int .i64 0) (.slice none 0 0) (.slice (some ⟨wm.heap.size, 0, none⟩) 2 2)) (Nat.ne_of_gt hP) htb, ((But.of HB1.out).trans HB.out).put6 (Nat.le_refl _) (.int .i64 k) (.int .i64 pr) (.string ⟨#[]⟩) (.int .i64 0) (.slice none 0 0) (.slice (some ⟨wm.heap.size, 0, none⟩) 2 2)⟩
end Go.Proofs.YtejaboajgecpaaaGreatDoor
namespace Go.Proofs.YtejaboajgecpaaaGreatDoor
open Go.Lib (hid)
open Go.RowKit Go.Shelf
def GPr (b : Nat) (w' : World) (p : Pr) (v : Value) : Prop := PrVal (fun k => b <= k /\ k < w'.heap.size) w' v p
def GPrs (b : Nat) (w' : World) (ps : List Pr) (v : Value) : Prop := PrSl (fun k => b <= k /\ k < w'.heap.size) w' v ps
theorem PrVal.open {B : Nat -> Prop} {w : World} {p : Pr} {v : Value} (h : PrVal B w v p) : ∃ la ln lc aa an ac ta tn tc ua un uc ka kn kc, v = prAgg p (.slice la ln lc) (.slice aa an ac) (.slice ta tn tc) (.slice ua un uc) (.slice ka kn kc) := by
 obtain ⟨lv, av, tl, tk, kv, rfl, _, hl, ha, ⟨l2, k2, e2, _, hl2, hk2⟩, hk⟩ := h
 simp only [Value.agg.injEq, Array.mk.injEq, List.cons.injEq, and_true, true_and] at e2
 obtain ⟨rfl, rfl⟩ := e2
 obtain ⟨la, ln, lc, rfl, _⟩ := hl.open
 obtain ⟨aa, an, ac, rfl, _⟩ := ha.open
 obtain ⟨ta, tn, tc, rfl, _⟩ := hl2.open
 obtain ⟨ua, un, uc, rfl, _⟩ := hk2.open
 obtain ⟨ka, kn, kc, rfl, _⟩ := hk.open
 exact ⟨_, _, _, _, _, _, _, _, _, _, _, _, _, _, _, rfl⟩
theorem GPr.open {b : Nat} {w' : World} {p : Pr} {v : Value} (h : GPr b w' p v) : ∃ la ln lc aa an ac ta tn tc ua un uc ka kn kc, v = prAgg p (.slice la ln lc) (.slice aa an ac) (.slice ta tn tc) (.slice ua un uc) (.slice ka kn kc) := PrVal.open h
theorem GPr.but {b P : Nat} {w w' : World} {p : Pr} {v : Value} (h : GPr b w p v) (hb : But P w w') (hP : P < b) : GPr b w' p v :=
 (PrVal.keep (hb.keeps (fun k hk => ⟨hk.2, by omega⟩)) h).mono (fun k hk => ⟨hk.1, Nat.lt_of_lt_of_le hk.2 hb.size⟩)
theorem GPr.mono {b c : Nat} {w : World} {p : Pr} {v : Value} (h : GPr b w p v) (hc : c <= b) : GPr c w p v := PrVal.mono (fun _ hk => ⟨Nat.le_trans hc hk.1, hk.2⟩) h
theorem prsl_one {B : Nat -> Prop} {W : World} {b : Nat} {T : TypeId} {fr : Nat × Nat} {p : Pr} {la : Option Addr} {ln lc : Nat} {aa : Option Addr} {an ac : Nat} {ta : Option Addr} {tn tc : Nat} {ua : Option Addr} {un uc : Nat} {ka : Option Addr} {kn kc : Nat}
 (h : W.heap[b]? = some (.cells #[.int .i64 p.k, .string p.c, .string p.x, .slice la ln lc, .slice aa an ac, .int .i64 p.t.k, .int .i64 p.t.p, .string p.t.n, .int .i64 p.t.s, .slice ta tn tc, .slice ua un uc, .slice ka kn kc] T fr)) (hb : B b) (hp : PrVal B W (prAgg p (.slice la ln lc) (.slice aa an ac) (.slice ta tn tc) (.slice ua un uc) (.slice ka kn kc)) p) : PrSl B W (.slice (some ⟨b, 0, none⟩) 1 1) [p] := by
 have cell : ∀ i v, (#[.int .i64 p.k, .string p.c, .string p.x, .slice la ln lc, .slice aa an ac, .int .i64 p.t.k, .int .i64 p.t.p, .string p.t.n, .int .i64 p.t.s, .slice ta tn tc, .slice ua un uc, .slice ka kn kc] : Array Value).toList[i]? = some v -> W.cell? ⟨b, i, none⟩ = some v := by
  intro i v hi
  simp only [World.cell?, h]
  simpa using hi
 have a1 : PrAt B W p b 0 := prAt_of hb (cell 0 _ rfl) (cell 1 _ rfl) (cell 2 _ rfl) (cell 3 _ rfl) (cell 4 _ rfl) (cell 5 _ rfl) (cell 6 _ rfl) (cell 7 _ rfl) (cell 8 _ rfl) (cell 9 _ rfl) (cell 10 _ rfl) (cell 11 _ rfl) hp
 exact ⟨.inr ⟨b, 0, 1, rfl, hb, by simp only [PrsAt]; exact ⟨a1, trivial⟩⟩, by simp [maxLen]⟩
def SingOK (P tb : Nat) (E : Int) (B : Nat) (S : List Tk -> PR Pr) (n : Nat) : Prop := ∀ (ts : List Tk) (W : World), ts.length < n -> Env B W -> PaIs P tb E ts W -> Calls Tryz.prog 91 #[.pointer (some ⟨P, 0, none⟩)] W (Parsed P tb E W (S ts) (GPr W.heap.size))
theorem prest_any (P tb : Nat) (E : Int) (ts : List Tk) (B : Nat) (w : World) (he : Env B w) (hBP : B <= P) (h : PaIs P tb E ts w) (S : List Tk -> PR Pr) (n : Nat) (hn : ts.length < n) (hS : SingOK P tb E B S n) :
 Calls Tryz.prog 139 #[.pointer (some ⟨P, 0, none⟩)] w (Parsed P tb E w (prestS S ts) (fun W p v => GPrs w.heap.size W [p] v)) := by
 have hP : P < w.heap.size := h.lt
 have HP := hid h
 have HB : Hid (But P w w) := hid (But.refl _ _)
 have HE := hid he
 have HS := hid hS
 clear he h hS
 unfold prestS
 cases h2 : need sDot ts with
 | bad er r =>
  show Calls _ _ _ _ (Parsed P tb E w (PR.bad er r) _)
  go_enter Tryz.func139, Tryz.ntmps139
  go_wp2_with (go_at_call 52; refine (expB HP HB h2).mono ?_; rintro _ wn ⟨rfl, HB⟩)
  exact ⟨rfl, rfl, HB.out⟩
 | ok un r2 =>
  have hl2 : r2.length < n := by have := need_le h2; omega
  cases hr : S r2 with
  | bad er r =>
   show Calls _ _ _ _ (Parsed P tb E w (S r2) _)
   rw [hr]
   show Calls _ _ _ _ (Parsed P tb E w (PR.bad er r) _)
   go_enter Tryz.func139, Tryz.ntmps139
   go_wp2_with (first | (go_at_call 52; refine (expH HP HB h2).mono ?_; rintro _ wn ⟨rfl, HP, HB⟩) | (go_at_call 91; refine (HS.out _ _ hl2 (HE.out.but HB.out hBP) HP.out).mono ?_; rw [hr]; rintro en wn ⟨rfl, hb⟩; replace HB := hid (HB.out.trans hb); clear hb))
   exact ⟨rfl, rfl, HB.out⟩
  | ok p r =>
   show Calls _ _ _ _ (Parsed P tb E w (S r2) _)
   rw [hr]
   show Calls _ _ _ _ (Parsed P tb E w (PR.ok p r) _)
   go_enter Tryz.func139, Tryz.ntmps139
   go_wp2_with (first | (go_at_call 52; refine (expH HP HB h2).mono ?_; rintro _ wn ⟨rfl, HP, HB⟩) | (go_at_call 91; refine (HS.out _ _ hl2 (HE.out.but HB.out hBP) HP.out).mono ?_; rw [hr]; rintro en wn ⟨⟨v, rfl, hg⟩, hp, hb⟩; obtain ⟨la, ln, lc, aa, an, ac, ta, tn, tc, ua, un, uc, ka, kn, kc, rfl⟩ := hg.open; have HPn := hid hp; have HG := hid (hg.mono (show w.heap.size <= _ from HB.out.size)); have HBn := hid (HB.out.trans hb); clear hg; clear hp hb HP HB; have HP := HPn; have HB := HBn; clear HPn HBn))
   have x5 : (wn.alloc (.cells #[.int .i64 p.k, .string p.c, .string p.x, .slice la ln lc, .slice aa an ac, .int .i64 p.t.k, .int .i64 p.t.p, .string p.t.n, .int .i64 p.t.s, .slice ta tn tc, .slice ua un uc, .slice ka kn kc] 31)).heap[wn.heap.size]? = some (.cells #[.int .i64 p.k, .string p.c, .string p.x, .slice la ln lc, .slice aa an ac, .int .i64 p.t.k, .int .i64 p.t.p, .string p.t.n, .int .i64 p.t.s, .slice ta tn tc, .slice ua un uc, .slice ka kn kc] 31 (0, 0)) := World.alloc_heap_new _ _
   have hb5 : Below wn.heap.size wn (wn.alloc (.cells #[.int .i64 p.k, .string p.c, .string p.x, .slice la ln lc, .slice aa an ac, .int .i64 p.t.k, .int .i64 p.t.p, .string p.t.n, .int .i64 p.t.s, .slice ta tn tc, .slice ua un uc, .slice ka kn kc] 31)) := (Below.refl _ _).alloc (Nat.le_refl _) _
   obtain ⟨W5, hW5⟩ := ex1 (wn.alloc (.cells #[.int .i64 p.k, .string p.c, .string p.x, .slice la ln lc, .slice aa an ac, .int .i64 p.t.k, .int .i64 p.t.p, .string p.t.n, .int .i64 p.t.s, .slice ta tn tc, .slice ua un uc, .slice ka kn kc] 31))
   rw [hW5] at x5 hb5 |-
   refine bodyPost_ret (v := .slice (some ⟨wn.heap.size, 0, none⟩) 1 1) (by simp [results, Tryz.results139, go_sem]) rfl ?_
   exact ⟨⟨_, rfl, prsl_one x5 ⟨HB.out.size, (gl x5)⟩ (HG.out.but (But.of (P := P) hb5) hP)⟩, HP.out.to hb5, HB.out.to hb5⟩
end Go.Proofs.YtejaboajgecpaaaGreatDoor
