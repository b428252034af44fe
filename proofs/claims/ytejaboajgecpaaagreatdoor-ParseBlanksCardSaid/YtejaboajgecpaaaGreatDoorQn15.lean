/- Parsing: lemmas. -/
import Derived.Test.YtejaboajgecpaaaGreatDoorQn10
import Derived.Test.YtejaboajgecpaaaGreatDoorQn14
set_option maxHeartbeats 16000000
set_option maxRecDepth 100000
namespace Go.Proofs.YtejaboajgecpaaaGreatDoor
open Go.Lib (hid)
open Go.RowKit Go.Shelf Go.Deep
theorem wpAnyH_pair {P : Program} {md : Region.Mode} {l : List Oper} {Q : Exit -> Act -> World -> Prop} {S : World -> Prop} {fuel : Nat} {B : List Bool} {T : List Value} {ds : List Deferred} {w : World} (i i' : Nat) {o o' : Oper} (ho : l[i]? = some o) (ho' : l[i']? = some o') (hg : o.guard = none) (hg' : o'.guard = none)
 (hr : Region.ready md l.toArray B.toArray = [i, i'])
 (h : ∀ K : Act -> World -> Prop, Shut (∀ v w', S w' -> (S w' -> wpAnyH P md l.toArray Q S fuel (B.set i true).toArray ⟨(setD T o.dst v).toArray, ds⟩ w') -> K ⟨(setD T o.dst v).toArray, ds⟩ w') -> Oper.wp P o ⟨T.toArray, ds⟩ w K Q)
 (h' : ∀ K : Act -> World -> Prop, Shut (∀ v w', S w' -> (S w' -> wpAnyH P md l.toArray Q S fuel (B.set i' true).toArray ⟨(setD T o'.dst v).toArray, ds⟩ w') -> K ⟨(setD T o'.dst v).toArray, ds⟩ w') -> Oper.wp P o' ⟨T.toArray, ds⟩ w K Q) :
 wpAnyH P md l.toArray Q S (fuel + 1) B.toArray ⟨T.toArray, ds⟩ w := by
 refine wpAnyH_all hr (by simp) (fun j hj => ?_)
 rcases List.mem_cons.1 hj with rfl | hj
 ·have ho1 : l.toArray[j]? = some o := by simpa using ho
  have hw : Region.wanted o (yielded l.toArray T.toArray) = true := by simp [Region.wanted, hg]
  unfold wpOp
  simp only [ho1]
  rw [if_pos hw]
  refine .inl (h _ (fun v w' h1 h2 => ?_))
  refine ⟨h1, ?_⟩
  rw [List.setIfInBounds_toArray]
  exact h2 h1
 ·obtain rfl := List.mem_singleton.1 hj
  have ho1 : l.toArray[j]? = some o' := by simpa using ho'
  have hw : Region.wanted o' (yielded l.toArray T.toArray) = true := by simp [Region.wanted, hg']
  unfold wpOp
  simp only [ho1]
  rw [if_pos hw]
  refine .inl (h' _ (fun v w' h1 h2 => ?_))
  refine ⟨h1, ?_⟩
  rw [List.setIfInBounds_toArray]
  exact h2 h1
theorem vlsl_one {B : Nat -> Prop} {W : World} {b : Nat} {T : TypeId} {fr : Nat × Nat} {v : Vl} (h : W.heap[b]? = some (.cells #[.int .i64 v.k, .string v.n, .int .i64 v.x] T fr)) (hb : B b) (hv : v.n.size <= maxLen) : VlSl B W (.slice (some ⟨b, 0, none⟩) 1 1) [v] := by
 have cell : ∀ i u, [Value.int .i64 v.k, .string v.n, .int .i64 v.x][i]? = some u -> W.cell? ⟨b, i, none⟩ = some u := by
  intro i u hi
  simp only [World.cell?, h]
  simpa using hi
 refine ⟨.inr ⟨b, 0, 1, rfl, hb, Nat.le_refl _, fun j a hj => ?_⟩, by simp [maxLen], fun a ha => by rw [List.mem_singleton.1 ha]; exact hv⟩
 cases j with
 | zero =>
  obtain rfl : v = a := by simpa using hj
  exact ⟨cell 0 _ rfl, cell 1 _ rfl, cell 2 _ rfl⟩
 | succ j => simp at hj
theorem pval_le {isN : ByteArray -> Bool} : Shorter (pval isN) := by
 intro ts x r h
 cases ts with
 | nil => cases h
 | cons y s =>
  rw [pval] at h
  split at h
  ·cases h; simp
  split at h
  ·cases h; simp
  split at h
  ·cases h; simp
  split at h
  ·cases h; simp
  ·cases h
theorem psend_any (P tb : Nat) (E : Int) (ts : List Tk) (B : Nat) (w : World) (he : Env B w) (hBP : B <= P) (h : PaIs P tb E ts w) (S : List Tk -> PR Pr) (n : Nat) (hn : ts.length < n) (hS : SingOK P tb E B S n) (c : ByteArray) (hcz : c.size <= maxLen) :
 Calls Tryz.prog 137 #[.pointer (some ⟨P, 0, none⟩), .string c] w (Parsed P tb E w (psendS nameB S c ts) (GPr w.heap.size)) := by
 obtain ⟨W1, hW1⟩ := ex1 (w.alloc (.cells z12 31))
 have hb1 := (made hW1).1
 have x1 := (made hW1).2
 have hs1 : w.heap.size < W1.heap.size := (gl x1)
 have hP : P < w.heap.size := h.lt
 have htb : tb ≠ w.heap.size := Nat.ne_of_lt h.tlt
 have HTB := hid h.tlt
 have HP : Hid (PaIs P tb E ts W1) := hid (h.to hb1)
 have HB : Hid (But P W1 W1) := hid (But.refl _ _)
 have HW1 := hid hW1
 have HB1 := hid hb1
 have HX1 := hid x1
 have HE := hid (he.to hb1)
 clear hW1 hb1 x1 he h
 unfold psendS
 have HS := hid hS
 clear hS
 cases h1 : need sLess ts with
 | bad er r =>
  show Calls _ _ _ _ (Parsed P tb E w (PR.bad er r) _)
  go_enter Tryz.func137, Tryz.ntmps137
  go_upto_region 1 with fail
  rw [HW1.out]
  go_wp2_with (first | (go_at_call 52; refine (expB HP HB h1).mono ?_; rintro _ wn ⟨rfl, HB⟩))
  exact ⟨rfl, rfl, (But.of HB1.out).trans HB.out⟩
 | ok un r1 =>
  have hlr1 : r1.length < n := by have := need_le h1; omega
  cases h2 : pval nameB r1 with
  | bad er r =>
   show Calls _ _ _ _ (Parsed P tb E w ((pval nameB r1).bind _) _)
   rw [h2]
   show Calls _ _ _ _ (Parsed P tb E w (PR.bad er r) _)
   go_enter Tryz.func137, Tryz.ntmps137
   go_upto_region 1 with fail
   rw [HW1.out]
   go_wp2_with (first | (go_at_call 52; refine (expH HP HB h1).mono ?_; rintro _ wn ⟨rfl, HP, HB⟩) | (go_at_call 142; refine (pval_any P tb E _ B _ (HE.out.but HB.out hBP) hBP HP.out).mono ?_; rw [h2]; rintro en wn ⟨rfl, hb⟩; replace HB := hid (HB.out.trans hb); clear hb))
   exact ⟨rfl, rfl, (But.of HB1.out).trans HB.out⟩
  | ok v r2 =>
   have hlr2 : r2.length < n := by have := pval_le _ _ _ h2; omega
   show Calls _ _ _ _ (Parsed P tb E w ((pval nameB r1).bind _) _)
   rw [h2]
   show Calls _ _ _ _ (Parsed P tb E w ((need sMore r2).bind _) _)
   cases h3 : need sMore r2 with
   | bad er r =>
    show Calls _ _ _ _ (Parsed P tb E w (PR.bad er r) _)
    go_enter Tryz.func137, Tryz.ntmps137
    go_upto_region 1 with fail
    rw [HW1.out]
    go_upto_region 3 with (first | (go_at_call 52; refine (expH HP HB h1).mono ?_; rintro _ wn ⟨rfl, HP, HB⟩) | (go_at_call 142; refine (pval_any P tb E _ B _ (HE.out.but HB.out hBP) hBP HP.out).mono ?_; rw [h2]; rintro en wn ⟨⟨_, rfl, rfl, hvz⟩, hp, hb⟩; replace HP := hid hp; replace HB := hid (HB.out.trans hb); clear hp hb))
    obtain ⟨W4, hW4⟩ := ex1 (wn.alloc (.cells #[.int .i64 v.k, .string v.n, .int .i64 v.x] 82))
    have hb4 := (made hW4).1
    have x4 := (made hW4).2
    have hl4 : wn.heap.size < W4.heap.size := (gl x4)
    have hsz : W1.heap.size <= wn.heap.size := HB.out.size
    have hn4 : wn.heap.size ≠ P := by omega
    have HPn := hid (HP.out.to hb4)
    have HBn := hid (HB.out.to hb4)
    have HC : Hid (But P W4 W4) := hid (But.refl _ _)
    have HX4 := hid x4
    rw [hW4]
    clear HP HB hW4 hb4 x4
    have HP := HPn
    have HB := HBn
    clear HPn HBn
    obtain ⟨T6, hT6⟩ := ex1 (wn.heap.size)
    rw [hT6] at HX4 hl4 hn4 hsz |-
    clear hT6
    go_wp2_with (go_at_call 52; refine (expB HP HB h3).mono ?_; rintro _ wn ⟨rfl, HB⟩)
    exact ⟨rfl, rfl, (But.of HB1.out).trans HB.out⟩
   | ok un3 r3 =>
    have hlr3 : r3.length < n := by have := need_le h3; omega
    show Calls _ _ _ _ (Parsed P tb E w ((prestS S r3).bind _) _)
    cases hr : prestS S r3 with
    | bad er r =>
     show Calls _ _ _ _ (Parsed P tb E w (PR.bad er r) _)
     go_enter Tryz.func137, Tryz.ntmps137
     go_upto_region 1 with fail
     rw [HW1.out]
     go_upto_region 3 with (first | (go_at_call 52; refine (expH HP HB h1).mono ?_; rintro _ wn ⟨rfl, HP, HB⟩) | (go_at_call 142; refine (pval_any P tb E _ B _ (HE.out.but HB.out hBP) hBP HP.out).mono ?_; rw [h2]; rintro en wn ⟨⟨_, rfl, rfl, hvz⟩, hp, hb⟩; replace HP := hid hp; replace HB := hid (HB.out.trans hb); clear hp hb))
     obtain ⟨W4, hW4⟩ := ex1 (wn.alloc (.cells #[.int .i64 v.k, .string v.n, .int .i64 v.x] 82))
     have hb4 := (made hW4).1
     have x4 := (made hW4).2
     have hl4 : wn.heap.size < W4.heap.size := (gl x4)
     have hsz : W1.heap.size <= wn.heap.size := HB.out.size
     have hn4 : wn.heap.size ≠ P := by omega
     have HPn := hid (HP.out.to hb4)
     have HBn := hid (HB.out.to hb4)
     have HC : Hid (But P W4 W4) := hid (But.refl _ _)
     have HX4 := hid x4
     rw [hW4]
     clear HP HB hW4 hb4 x4
     have HP := HPn
     have HB := HBn
     clear HPn HBn
     obtain ⟨T6, hT6⟩ := ex1 (wn.heap.size)
     rw [hT6] at HX4 hl4 hn4 hsz |-
     clear hT6
     go_upto_region 4 with (go_at_call 52; refine (expect_any P tb E _ (by decide +kernel) _ _ HP.out).mono ?_; rw [h3]; rintro en wn ⟨⟨_, rfl, _⟩, hp, hb⟩; replace HP := hid hp; replace HB := hid (HB.out.trans hb); replace HC := hid (HC.out.trans hb); clear hp hb)
     have HSS : Hid (∀ W, But P W4 W -> W.cell? ⟨T6, 0, none⟩ = some (.int .i64 v.k) /\ W.cell? ⟨T6, 1, none⟩ = some (.string v.n) /\ W.cell? ⟨T6, 2, none⟩ = some (.int .i64 v.x)) := hid (fun W hW => (c3 ((hW.block T6 hl4 hn4).trans HX4.out)).1)
     refine wp_region_held_drew (S := fun W => W.cell? ⟨T6, 0, none⟩ = some (.int .i64 v.k) /\ W.cell? ⟨T6, 1, none⟩ = some (.string v.n) /\ W.cell? ⟨T6, 2, none⟩ = some (.int .i64 v.x)) (by kernel_rfl) (HSS.out _ HC.out.drew) (fun hHeld => ?_)
     refine wpAnyH_take_l 0 (v := ?vb0) rfl rfl (by kernel_rfl) (by kernel_rfl) (by kernel_rfl) (fun _ _ _ h => h) ?hb0 (by assumption) ?rb0
     case hb0 => (intro w hSw; (try dsimp only at hSw); go_simp; try rfl)
     case' rb0 => simp only [setD, List.set_cons_succ, List.set_cons_zero]
     refine wpAnyH_take_l 1 (v := ?vb1) rfl rfl (by kernel_rfl) (by kernel_rfl) (by kernel_rfl) (fun _ _ _ h => h) ?hb1 (by assumption) ?rb1
     case hb1 => (intro w hSw; (try dsimp only at hSw); go_simp; try rfl)
     case' rb1 => simp only [setD, List.set_cons_succ, List.set_cons_zero]
     refine wpAnyH_take_l 3 (v := ?vb3) rfl rfl (by kernel_rfl) (by kernel_rfl) (by kernel_rfl) (fun _ _ _ h => h) ?hb3 (by assumption) ?rb3
     case hb3 => (intro w hSw; (try dsimp only at hSw); go_simp; try rfl)
     case' rb3 => simp only [setD, List.set_cons_succ, List.set_cons_zero]
     refine wpAnyH_pair 2 4 rfl rfl rfl rfl (by kernel_rfl) (fun K hK => ?_) (fun K hK => ?_)
     ·have hK2 := hK.out
      clear hK
      simp only [setD, List.set_cons_succ, List.set_cons_zero] at hK2 |-
      go_simp
      obtain ⟨b9, hb9⟩ := ex1 (wn.heap.size)
      obtain ⟨W5, hW5⟩ := ex1 ((wn.alloc (.cells #[.int .i64 v.k, .string v.n, .int .i64 v.x] 82)).drew)
      have hb5 : Below wn.heap.size wn W5 := by rw [<- hW5]; exact ((Below.refl _ _).alloc (Nat.le_refl _) _).drew
      have x5 : W5.heap[b9]? = some (.cells #[.int .i64 v.k, .string v.n, .int .i64 v.x] 82 (0, 0)) := by rw [<- hW5, <- hb9]; exact World.alloc_heap_new _ _
      rw [hW5, hb9]
      refine hK2 _ _ (HSS.out W5 (HC.out.to hb5)) (fun hHeld3 => ?_)
      clear hK2 K
      refine wpAnyH_sole 4 rfl rfl (by kernel_rfl) (fun K hK => ?_)
      go_simp
      refine (prest_any P tb E _ B _ (HE.out.but (HB.out.to hb5) hBP) hBP (HP.out.to hb5) S n hlr3 HS.out).mono ?_
      rw [hr]
      rintro en wm ⟨rfl, hb⟩
      dsimp only
      exact ⟨rfl, rfl, (But.of HB1.out).trans ((HB.out.to hb5).trans hb)⟩
     ·go_simp
      refine (prest_any P tb E _ B _ (HE.out.but HB.out.drew hBP) hBP (HP.out.to (Below.refl _ _).drew) S n hlr3 HS.out).mono ?_
      rw [hr]
      rintro en wm ⟨rfl, hb⟩
      dsimp only
      exact ⟨rfl, rfl, (But.of HB1.out).trans (HB.out.drew.trans hb)⟩
    | ok p r =>
     show Calls _ _ _ _ (Parsed P tb E w (PR.ok (Pr.mk 2 c ⟨#[]⟩ [] [v] zT [p]) r) _)
     go_enter Tryz.func137, Tryz.ntmps137
     go_upto_region 1 with fail
     rw [HW1.out]
     go_upto_region 3 with (first | (go_at_call 52; refine (expH HP HB h1).mono ?_; rintro _ wn ⟨rfl, HP, HB⟩) | (go_at_call 142; refine (pval_any P tb E _ B _ (HE.out.but HB.out hBP) hBP HP.out).mono ?_; rw [h2]; rintro en wn ⟨⟨_, rfl, rfl, hvz⟩, hp, hb⟩; replace HP := hid hp; replace HB := hid (HB.out.trans hb); clear hp hb))
     obtain ⟨W4, hW4⟩ := ex1 (wn.alloc (.cells #[.int .i64 v.k, .string v.n, .int .i64 v.x] 82))
     have hb4 := (made hW4).1
     have x4 := (made hW4).2
     have hl4 : wn.heap.size < W4.heap.size := (gl x4)
     have hsz : W1.heap.size <= wn.heap.size := HB.out.size
     have hn4 : wn.heap.size ≠ P := by omega
     have HPn := hid (HP.out.to hb4)
     have HBn := hid (HB.out.to hb4)
     have HC : Hid (But P W4 W4) := hid (But.refl _ _)
     have HX4 := hid x4
     rw [hW4]
     clear HP HB hW4 hb4 x4
     have HP := HPn
     have HB := HBn
     clear HPn HBn
     obtain ⟨T6, hT6⟩ := ex1 (wn.heap.size)
     rw [hT6] at HX4 hl4 hn4 hsz |-
     clear hT6
     go_upto_region 4 with (go_at_call 52; refine (expect_any P tb E _ (by decide +kernel) _ _ HP.out).mono ?_; rw [h3]; rintro en wn ⟨⟨_, rfl, _⟩, hp, hb⟩; replace HP := hid hp; replace HB := hid (HB.out.trans hb); replace HC := hid (HC.out.trans hb); clear hp hb)
     have HSS : Hid (∀ W, But P W4 W -> W.cell? ⟨T6, 0, none⟩ = some (.int .i64 v.k) /\ W.cell? ⟨T6, 1, none⟩ = some (.string v.n) /\ W.cell? ⟨T6, 2, none⟩ = some (.int .i64 v.x)) := hid (fun W hW => (c3 ((hW.block T6 hl4 hn4).trans HX4.out)).1)
     refine wp_region_held_drew (S := fun W => W.cell? ⟨T6, 0, none⟩ = some (.int .i64 v.k) /\ W.cell? ⟨T6, 1, none⟩ = some (.string v.n) /\ W.cell? ⟨T6, 2, none⟩ = some (.int .i64 v.x)) (by kernel_rfl) (HSS.out _ HC.out.drew) (fun hHeld => ?_)
     refine wpAnyH_take_l 0 (v := ?vc0) rfl rfl (by kernel_rfl) (by kernel_rfl) (by kernel_rfl) (fun _ _ _ h => h) ?hc0 (by assumption) ?rc0
     case hc0 => (intro w hSw; (try dsimp only at hSw); go_simp; try rfl)
     case' rc0 => simp only [setD, List.set_cons_succ, List.set_cons_zero]
     refine wpAnyH_take_l 1 (v := ?vc1) rfl rfl (by kernel_rfl) (by kernel_rfl) (by kernel_rfl) (fun _ _ _ h => h) ?hc1 (by assumption) ?rc1
     case hc1 => (intro w hSw; (try dsimp only at hSw); go_simp; try rfl)
     case' rc1 => simp only [setD, List.set_cons_succ, List.set_cons_zero]
     refine wpAnyH_take_l 3 (v := ?vc3) rfl rfl (by kernel_rfl) (by kernel_rfl) (by kernel_rfl) (fun _ _ _ h => h) ?hc3 (by assumption) ?rc3
     case hc3 => (intro w hSw; (try dsimp only at hSw); go_simp; try rfl)
     case' rc3 => simp only [setD, List.set_cons_succ, List.set_cons_zero]
     refine wpAnyH_pair 2 4 rfl rfl rfl rfl (by kernel_rfl) (fun K hK => ?_) (fun K hK => ?_)
     ·have hK2 := hK.out
      clear hK
      simp only [setD, List.set_cons_succ, List.set_cons_zero] at hK2 |-
      go_simp
      obtain ⟨b9, hb9⟩ := ex1 (wn.heap.size)
      obtain ⟨W5, hW5⟩ := ex1 ((wn.alloc (.cells #[.int .i64 v.k, .string v.n, .int .i64 v.x] 82)).drew)
      have hb5 : Below wn.heap.size wn W5 := by rw [<- hW5]; exact ((Below.refl _ _).alloc (Nat.le_refl _) _).drew
      have x5 : W5.heap[b9]? = some (.cells #[.int .i64 v.k, .string v.n, .int .i64 v.x] 82 (0, 0)) := by rw [<- hW5, <- hb9]; exact World.alloc_heap_new _ _
      rw [hW5, hb9]
      have hlb : b9 < W5.heap.size := (gl x5)
      have hWb : W1.heap.size <= b9 := by rw [<- hb9]; exact HB.out.size
      refine hK2 _ _ (HSS.out W5 (HC.out.to hb5)) (fun hHeld3 => ?_)
      clear hK2 K hHeld
      refine wpAnyH_sole 4 rfl rfl (by kernel_rfl) (fun K hK => ?_)
      have hK2 := hK.out
      clear hK
      simp only [setD, List.set_cons_succ, List.set_cons_zero] at hK2 |-
      go_simp
      refine (prest_any P tb E _ B _ (HE.out.but (HB.out.to hb5) hBP) hBP (HP.out.to hb5) S n hlr3 HS.out).mono ?_
      rw [hr]
      rintro en wm ⟨⟨u, rfl, hg⟩, hp, hb⟩
      obtain ⟨ka, kn, kc, rfl, -⟩ := PrSl.open hg
      dsimp only
      have HPm := hid hp
      have HGU := hid (GPrs.mono hg (show W1.heap.size <= _ from (HB.out.to hb5).size))
      have HCm := hid (((HC.out.to hb5)).trans hb)
      have HBm := hid (((HB.out.to hb5)).trans hb)
      have x7 : wm.heap[b9]? = some (.cells #[.int .i64 v.k, .string v.n, .int .i64 v.x] 82 (0, 0)) := (hb.block b9 hlb (show b9 ≠ P by omega)).trans x5
      refine hK2 _ _ (HSS.out wm HCm.out) (fun hHeld4 => ?_)
      clear hK2 K hHeld3 hg hp hb hW5 x5
      obtain ⟨W7, hW7⟩ := ex1 (wm)
      rw [hW7] at HPm HGU HCm HBm x7 hHeld4 |-
      clear hW7
      refine wpAnyH_take_l 5 (v := ?vz15) rfl rfl (by kernel_rfl) (by kernel_rfl) (by kernel_rfl) (fun _ _ _ h => h) ?hz15 (by assumption) ?rz15
      case hz15 => (intro w hSw; (try dsimp only at hSw); go_simp; try rfl)
      case' rz15 => simp only [setD, List.set_cons_succ, List.set_cons_zero]
      have hx9 := (HBm.out.block w.heap.size hs1 (Nat.ne_of_gt hP)).trans HX1.out
      obtain ⟨⟨q0, q1, q2, q3, q4, q5, q6, q7, q8, q9, q10, q11⟩, z0, z1, z2, z3, z4, z5, z6, z7, z8, z9, z10, z11⟩ := c12p hx9
      have HX9 := hid hx9
      have HX7 := hid x7
      clear hx9 x7
      refine wpAnyH_sole 6 rfl rfl (by kernel_rfl) (fun K hK => ?_)
      have hK2 := hK.out
      clear hK
      simp only [setD] at hK2 |-
      go_simp
      have hT6 : T6 ≠ w.heap.size := by omega
      obtain ⟨W6, hW6⟩ := ex1 ((((((((((((W7.setCell ⟨w.heap.size, 0, none⟩ (.int .i64 2)).setCell ⟨w.heap.size, 1, none⟩ (.string c)).setCell ⟨w.heap.size, 2, none⟩ (.string ⟨#[]⟩)).setCell ⟨w.heap.size, 3, none⟩ (.slice none 0 0)).setCell ⟨w.heap.size, 4, none⟩ (.slice (some ⟨b9, 0, none⟩) 1 1)).setCell ⟨w.heap.size, 5, none⟩ (.int .i64 0)).setCell ⟨w.heap.size, 6, none⟩ (.int .i64 0)).setCell ⟨w.heap.size, 7, none⟩ (.string ⟨#[]⟩)).setCell ⟨w.heap.size, 8, none⟩ (.int .i64 0)).setCell ⟨w.heap.size, 9, none⟩ (.slice none 0 0)).setCell ⟨w.heap.size, 10, none⟩ (.slice none 0 0)).setCell ⟨w.heap.size, 11, none⟩ (.slice ka kn kc))
      have x6 : W6.heap[T6]? = some (.cells #[.int .i64 v.k, .string v.n, .int .i64 v.x] 82 (0, 0)) := by
       rw [<- hW6, oth1 _ _ _ hT6, oth1 _ _ _ hT6, oth1 _ _ _ hT6, oth1 _ _ _ hT6, oth1 _ _ _ hT6, oth1 _ _ _ hT6, oth1 _ _ _ hT6, oth1 _ _ _ hT6, oth1 _ _ _ hT6, oth1 _ _ _ hT6, oth1 _ _ _ hT6, oth1 _ _ _ hT6]
       exact (HCm.out.block T6 hl4 hn4).trans HX4.out
      have hS6 : W6.cell? ⟨T6, 0, none⟩ = some (.int .i64 v.k) /\ W6.cell? ⟨T6, 1, none⟩ = some (.string v.n) /\ W6.cell? ⟨T6, 2, none⟩ = some (.int .i64 v.x) := (c3 x6).1
      rw [hW6]
      refine hK2 undef W6 hS6 (fun hHeld5 => ?_)
      rw [<- hW6]
      clear hS6 x6 hW6 hHeld5
      clear hK2 K hHeld4 q0 q1 q2 q3 q4 q5 q6 q7 q8 q9 q10 q11 z0 z1 z2 z3 z4 z5 z6 z7 z8 z9 z10 z11
      refine wpAnyH_done (by kernel_rfl) ?_ _
      go_wp2_with fail
      have HP := HPm
      have HB := HBm
      have hg5 : GPr W1.heap.size W7 (.mk 2 c ⟨#[]⟩ [] [v] zT [p]) (.agg #[.int .i64 2, .string c, .string ⟨#[]⟩, .slice none 0 0, .slice (some ⟨b9, 0, none⟩) 1 1, .int .i64 0, .int .i64 0, .string ⟨#[]⟩, .int .i64 0, .slice none 0 0, .slice none 0 0, .slice ka kn kc]) := GPr.node (t := zT) hcz (Nat.zero_le _) (strs_nil _ _) (vlsl_one HX7.out ⟨hWb, (gl HX7.out)⟩ hvz) (zT_at _ _) HGU.out
      have hx8 := fill12 HX9.out (.int .i64 2) (.string c) (.string ⟨#[]⟩) (.slice none 0 0) (.slice (some ⟨b9, 0, none⟩) 1 1) (.int .i64 0) (.int .i64 0) (.string ⟨#[]⟩) (.int .i64 0) (.slice none 0 0) (.slice none 0 0) (.slice ka kn kc)
      obtain ⟨⟨y0, y1, y2, y3, y4, y5, y6, y7, y8, y9, y10, y11⟩, -⟩ := c12p hx8
      refine bodyPost_ret (v := .agg #[.int .i64 2, .string c, .string ⟨#[]⟩, .slice none 0 0, .slice (some ⟨b9, 0, none⟩) 1 1, .int .i64 0, .int .i64 0, .string ⟨#[]⟩, .int .i64 0, .slice none 0 0, .slice none 0 0, .slice ka kn kc]) (by simp [results, Tryz.results137, go_sem, y0, y1, y2, y3, y4, y5, y6, y7, y8, y9, y10, y11]) rfl ?_
      exact ⟨⟨_, rfl, (hg5.put12 hs1 (.int .i64 2) (.string c) (.string ⟨#[]⟩) (.slice none 0 0) (.slice (some ⟨b9, 0, none⟩) 1 1) (.int .i64 0) (.int .i64 0) (.string ⟨#[]⟩) (.int .i64 0) (.slice none 0 0) (.slice none 0 0) (.slice ka kn kc)).mono (Nat.le_of_lt hs1)⟩, HP.out.oth (X := w.heap.size) (fun j hj => put12_oth hj (.int .i64 2) (.string c) (.string ⟨#[]⟩) (.slice none 0 0) (.slice (some ⟨b9, 0, none⟩) 1 1) (.int .i64 0) (.int .i64 0) (.string ⟨#[]⟩) (.int .i64 0) (.slice none 0 0) (.slice none 0 0) (.slice ka kn kc)) (put12_size _ _ (.int .i64 2) (.string c) (.string ⟨#[]⟩) (.slice none 0 0) (.slice (some ⟨b9, 0, none⟩) 1 1) (.int .i64 0) (.int .i64 0) (.string ⟨#[]⟩) (.int .i64 0) (.slice none 0 0) (.slice none 0 0) (.slice ka kn kc)) (Nat.ne_of_gt hP) htb, ((But.of HB1.out).trans HB.out).put12 (Nat.le_refl _) (.int .i64 2) (.string c) (.string ⟨#[]⟩) (.slice none 0 0) (.slice (some ⟨b9, 0, none⟩) 1 1) (.int .i64 0) (.int .i64 0) (.string ⟨#[]⟩) (.int .i64 0) (.slice none 0 0) (.slice none 0 0) (.slice ka kn kc)⟩
     ·have hK2 := hK.out
      clear hK
      simp only [setD, List.set_cons_succ, List.set_cons_zero] at hK2 |-
      go_simp
      refine (prest_any P tb E _ B _ (HE.out.but HB.out.drew hBP) hBP (HP.out.to (Below.refl _ _).drew) S n hlr3 HS.out).mono ?_
      rw [hr]
      rintro en wm ⟨⟨u, rfl, hg⟩, hp, hb⟩
      obtain ⟨ka, kn, kc, rfl, -⟩ := PrSl.open hg
      dsimp only
      have HPm := hid hp
      have HGU := hid (GPrs.mono hg (show W1.heap.size <= _ from HB.out.drew.size))
      have HCm := hid ((HC.out.drew).trans hb)
      have HBm := hid ((HB.out.drew).trans hb)
      refine hK2 _ _ (HSS.out wm HCm.out) (fun hHeld3 => ?_)
      clear hK2 K hHeld hg hp hb
      refine wpAnyH_sole 2 rfl rfl (by kernel_rfl) (fun K hK => ?_)
      have hK2 := hK.out
      clear hK
      simp only [setD, List.set_cons_succ, List.set_cons_zero] at hK2 |-
      go_simp
      obtain ⟨b9, hb9⟩ := ex1 (wm.heap.size)
      obtain ⟨W5, hW5⟩ := ex1 (wm.alloc (.cells #[.int .i64 v.k, .string v.n, .int .i64 v.x] 82))
      have hb5 := (made hW5).1
      have x5 : W5.heap[b9]? = some (.cells #[.int .i64 v.k, .string v.n, .int .i64 v.x] 82 (0, 0)) := by rw [<- hW5, <- hb9]; exact World.alloc_heap_new _ _
      rw [hW5, hb9]
      have hlb : b9 < W5.heap.size := (gl x5)
      have hWb : W1.heap.size <= b9 := by rw [<- hb9]; exact HBm.out.size
      refine hK2 _ _ (HSS.out W5 (HCm.out.to hb5)) (fun hHeld4 => ?_)
      have HPn := hid (HPm.out.to hb5)
      have HGn : Hid (GPrs W1.heap.size W5 [p] (.slice ka kn kc)) := hid ((PrSl.keep ((But.of (P := P) hb5).keeps (fun k hk => ⟨hk.2, by omega⟩)) HGU.out).mono (fun k hk => ⟨hk.1, Nat.lt_of_lt_of_le hk.2 hb5.size⟩))
      have HCn := hid (HCm.out.to hb5)
      have HBn := hid (HBm.out.to hb5)
      obtain ⟨W7, hW7⟩ := ex1 (W5)
      rw [hW7] at HPn HGn HCn HBn x5 hHeld4 hlb |-
      clear hK2 K hHeld3 hW5 hb5 HPm HGU HCm HBm hW7 hb9
      have HPm := HPn
      have HGU := HGn
      have HCm := HCn
      have HBm := HBn
      have x7 := x5
      clear HPn HGn HCn HBn x5
      refine wpAnyH_take_l 5 (v := ?vz25) rfl rfl (by kernel_rfl) (by kernel_rfl) (by kernel_rfl) (fun _ _ _ h => h) ?hz25 (by assumption) ?rz25
      case hz25 => (intro w hSw; (try dsimp only at hSw); go_simp; try rfl)
      case' rz25 => simp only [setD, List.set_cons_succ, List.set_cons_zero]
      have hx9 := (HBm.out.block w.heap.size hs1 (Nat.ne_of_gt hP)).trans HX1.out
      obtain ⟨⟨q0, q1, q2, q3, q4, q5, q6, q7, q8, q9, q10, q11⟩, z0, z1, z2, z3, z4, z5, z6, z7, z8, z9, z10, z11⟩ := c12p hx9
      have HX9 := hid hx9
      have HX7 := hid x7
      clear hx9 x7
      refine wpAnyH_sole 6 rfl rfl (by kernel_rfl) (fun K hK => ?_)
      have hK2 := hK.out
      clear hK
      simp only [setD] at hK2 |-
      go_simp
      have hT6 : T6 ≠ w.heap.size := by omega
      obtain ⟨W6, hW6⟩ := ex1 ((((((((((((W7.setCell ⟨w.heap.size, 0, none⟩ (.int .i64 2)).setCell ⟨w.heap.size, 1, none⟩ (.string c)).setCell ⟨w.heap.size, 2, none⟩ (.string ⟨#[]⟩)).setCell ⟨w.heap.size, 3, none⟩ (.slice none 0 0)).setCell ⟨w.heap.size, 4, none⟩ (.slice (some ⟨b9, 0, none⟩) 1 1)).setCell ⟨w.heap.size, 5, none⟩ (.int .i64 0)).setCell ⟨w.heap.size, 6, none⟩ (.int .i64 0)).setCell ⟨w.heap.size, 7, none⟩ (.string ⟨#[]⟩)).setCell ⟨w.heap.size, 8, none⟩ (.int .i64 0)).setCell ⟨w.heap.size, 9, none⟩ (.slice none 0 0)).setCell ⟨w.heap.size, 10, none⟩ (.slice none 0 0)).setCell ⟨w.heap.size, 11, none⟩ (.slice ka kn kc))
      have x6 : W6.heap[T6]? = some (.cells #[.int .i64 v.k, .string v.n, .int .i64 v.x] 82 (0, 0)) := by
       rw [<- hW6, oth1 _ _ _ hT6, oth1 _ _ _ hT6, oth1 _ _ _ hT6, oth1 _ _ _ hT6, oth1 _ _ _ hT6, oth1 _ _ _ hT6, oth1 _ _ _ hT6, oth1 _ _ _ hT6, oth1 _ _ _ hT6, oth1 _ _ _ hT6, oth1 _ _ _ hT6, oth1 _ _ _ hT6]
       exact (HCm.out.block T6 hl4 hn4).trans HX4.out
      have hS6 : W6.cell? ⟨T6, 0, none⟩ = some (.int .i64 v.k) /\ W6.cell? ⟨T6, 1, none⟩ = some (.string v.n) /\ W6.cell? ⟨T6, 2, none⟩ = some (.int .i64 v.x) := (c3 x6).1
      rw [hW6]
      refine hK2 undef W6 hS6 (fun hHeld5 => ?_)
      rw [<- hW6]
      clear hS6 x6 hW6 hHeld5
      clear hK2 K hHeld4 q0 q1 q2 q3 q4 q5 q6 q7 q8 q9 q10 q11 z0 z1 z2 z3 z4 z5 z6 z7 z8 z9 z10 z11
      refine wpAnyH_done (by kernel_rfl) ?_ _
      go_wp2_with fail
      have HP := HPm
      have HB := HBm
      have hg5 : GPr W1.heap.size W7 (.mk 2 c ⟨#[]⟩ [] [v] zT [p]) (.agg #[.int .i64 2, .string c, .string ⟨#[]⟩, .slice none 0 0, .slice (some ⟨b9, 0, none⟩) 1 1, .int .i64 0, .int .i64 0, .string ⟨#[]⟩, .int .i64 0, .slice none 0 0, .slice none 0 0, .slice ka kn kc]) := GPr.node (t := zT) hcz (Nat.zero_le _) (strs_nil _ _) (vlsl_one HX7.out ⟨hWb, (gl HX7.out)⟩ hvz) (zT_at _ _) HGU.out
      have hx8 := fill12 HX9.out (.int .i64 2) (.string c) (.string ⟨#[]⟩) (.slice none 0 0) (.slice (some ⟨b9, 0, none⟩) 1 1) (.int .i64 0) (.int .i64 0) (.string ⟨#[]⟩) (.int .i64 0) (.slice none 0 0) (.slice none 0 0) (.slice ka kn kc)
      obtain ⟨⟨y0, y1, y2, y3, y4, y5, y6, y7, y8, y9, y10, y11⟩, -⟩ := c12p hx8
      refine bodyPost_ret (v := .agg #[.int .i64 2, .string c, .string ⟨#[]⟩, .slice none 0 0, .slice (some ⟨b9, 0, none⟩) 1 1, .int .i64 0, .int .i64 0, .string ⟨#[]⟩, .int .i64 0, .slice none 0 0, .slice none 0 0, .slice ka kn kc]) (by simp [results, Tryz.results137, go_sem, y0, y1, y2, y3, y4, y5, y6, y7, y8, y9, y10, y11]) rfl ?_
      exact ⟨⟨_, rfl, (hg5.put12 hs1 (.int .i64 2) (.string c) (.string ⟨#[]⟩) (.slice none 0 0) (.slice (some ⟨b9, 0, none⟩) 1 1) (.int .i64 0) (.int .i64 0) (.string ⟨#[]⟩) (.int .i64 0) (.slice none 0 0) (.slice none 0 0) (.slice ka kn kc)).mono (Nat.le_of_lt hs1)⟩, HP.out.oth (X := w.heap.size) (fun j hj => put12_oth hj (.int .i64 2) (.string c) (.string ⟨#[]⟩) (.slice none 0 0) (.slice (some ⟨b9, 0, none⟩) 1 1) (.int .i64 0) (.int .i64 0) (.string ⟨#[]⟩) (.int .i64 0) (.slice none 0 0) (.slice none 0 0) (.slice ka kn kc)) (put12_size _ _ (.int .i64 2) (.string c) (.string ⟨#[]⟩) (.slice none 0 0) (.slice (some ⟨b9, 0, none⟩) 1 1) (.int .i64 0) (.int .i64 0) (.string ⟨#[]⟩) (.int .i64 0) (.slice none 0 0) (.slice none 0 0) (.slice ka kn kc)) (Nat.ne_of_gt hP) htb, ((But.of HB1.out).trans HB.out).put12 (Nat.le_refl _) (.int .i64 2) (.string c) (.string ⟨#[]⟩) (.slice none 0 0) (.slice (some ⟨b9, 0, none⟩) 1 1) (.int .i64 0) (.int .i64 0) (.string ⟨#[]⟩) (.int .i64 0) (.slice none 0 0) (.slice none 0 0) (.slice ka kn kc)⟩
end Go.Proofs.YtejaboajgecpaaaGreatDoor
