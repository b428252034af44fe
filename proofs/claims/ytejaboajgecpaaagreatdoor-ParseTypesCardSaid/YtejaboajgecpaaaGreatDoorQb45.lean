/- Parsing: lemmas. -/
import Derived.Test.YtejaboajgecpaaaGreatDoorQb44
set_option maxHeartbeats 16000000
set_option maxRecDepth 100000
namespace Go.Proofs.YtejaboajgecpaaaGreatDoor
open Go.Lib (hid)
open Go.RowKit Go.Deep Go.Shelf
def stOf : List Tok.Item ⊕ (Int × Int) -> RS
 | .inl I => .inl (I.map tkOf)
 | .inr z => .inr z
theorem rdrow_of {R : Nat} {base : Nat} {el : TypeId} {W : World} {v : Value} {ts : List Tk} (h : GRow el 4 base W v (ts.map tkCells)) (hz : ∀ x ∈ ts, x.t.size <= maxLen) (hR : W.heap.size <= R) : ∃ la cap, v = .slice la ts.length cap /\ RdRow R la ts W := by
 rcases h.parts with ⟨rfl, e⟩ | ⟨g, cap, rfl, h1, h2, h3, _⟩
 ·have e : ts = [] := List.map_eq_nil_iff.1 e
  subst e
  exact ⟨none, 0, rfl, fun j x hj => by simp at hj⟩
 ·refine ⟨some ⟨g, 0, none⟩, cap, by rw [List.length_map], fun j x hj => ⟨hz x (List.mem_of_getElem? hj), g, 0, rfl, h2, by omega, ?_⟩⟩
  have hes : (ts.map tkCells)[j]? = some (tkCells x) := by rw [List.getElem?_map, hj]; rfl
  have hc : ∀ i u, (tkCells x)[i]? = some u -> W.cell? ⟨g, 0 + j * 4 + i, none⟩ = some u := fun i u hu => by
   obtain ⟨g', cap', e, hc⟩ := h.cell hes hu
   simp only [Value.slice.injEq, Option.some.injEq, Addr.mk.injEq, and_true, true_and] at e
   rw [<- e.1] at hc
   rw [Nat.zero_add]
   exact hc
  exact ⟨hc 0 _ rfl, hc 1 _ rfl, hc 2 _ rfl, hc 3 _ rfl⟩
theorem start_any (s : ByteArray) (r : List Tok.Item ⊕ (Int × Int)) (hr : Scans s r) (w : World) :
 Calls Tryz.prog 26 #[.string s] w fun e w' => ∃ R la all, e = .returned (.pointer (some ⟨R, 0, none⟩)) /\ w.heap.size <= R /\ RdIs R la all (s.size : Int) (stOf r) w' /\ Below w.heap.size w w' := by
 match r with
 | .inr (er, p) =>
  have HT := hid (hr.refBad w)
  have HNE := hid hr.ne
  clear hr
  go_enter Tryz.func26, Tryz.ntmps26
  go_wp2_with (go_at_call 19; refine HT.out.mono ?_; rintro en w1 ⟨rfl, hb⟩; have HB := hid hb; clear hb)
  go_ret
  exact ⟨w1.heap.size, none, [], rfl, HB.out.size, ⟨0, 0, p, er, World.alloc_heap_new _ _, Nat.zero_le _, fun j x hj => by simp at hj, rfl, rfl, HNE.out⟩, HB.out.trans ((Below.refl _ _).alloc HB.out.size _)⟩
 | .inl I =>
  have HT := hid (hr.refOK w)
  have HZ := hid hr.txt
  have HLN := hid hr.len
  clear hr
  go_enter Tryz.func26, Tryz.ntmps26
  go_wp2_with (go_at_call 19; refine HT.out.mono ?_; rintro en w1 ⟨v, rfl, hown, hb⟩; obtain ⟨la, cap, rfl, hrow⟩ := rdrow_of (R := w1.heap.size) (row_of_items hown) (fun x hx => by obtain ⟨y, hy, rfl⟩ := List.mem_map.1 hx; exact HZ.out y hy) (Nat.le_refl _); have HB := hid hb; have HROW := hid hrow; clear hb hown hrow)
  go_ret
  exact ⟨w1.heap.size, la, I.map tkOf, rfl, HB.out.size, ⟨cap, 0, 0, 0, by rw [List.length_map]; exact World.alloc_heap_new _ _, by rw [List.length_map]; have := HLN.out; omega, HROW.out.to ((Below.refl _ _).alloc (Nat.le_refl _) _), rfl, 0, rfl, Nat.zero_le _, rfl⟩, HB.out.trans ((Below.refl _ _).alloc HB.out.size _)⟩
def stFin (E : Int) (ok : Bool) : RS -> RS
 | .inl (x :: r) => .inr (1, posE E (x :: r))
 | .inl [] => if ok = true then .inl [] else .inr (2, E)
 | .inr z => .inr z
theorem finish_any (R : Nat) (la : Option Addr) (all : List Tk) (E : Int) (ok : Bool) (st : RS) (w : World) (h : RdIs R la all E st w) (hin : ∀ er p, st = .inr (er, p) -> ok = true) :
 Calls Tryz.prog 28 #[.pointer (some ⟨R, 0, none⟩), .bool ok] w fun e w' => e = .returned (.tuple #[]) /\ RdIs R la all E (stFin E ok st) w' /\ But R w w' := by
 have HH := hid h
 have HF := hid (fun W hW => rfail_any R la all E st 1 (by decide) W hW)
 obtain ⟨cap, a, p, e, h1, h2, h3, h4⟩ := h
 obtain ⟨⟨q0, q1, q2, q3, q4⟩, z0, z1, z2, z3, z4⟩ := c5 h1
 obtain ⟨ln, hln⟩ := ex1 (all.length)
 rw [hln] at q0 h1 h2
 have HX := hid h1
 clear h1 h3
 match st with
 | .inl [] =>
  obtain ⟨rfl, n, rfl, hn, hd⟩ := h4
  have hnn := drop_nil hd hn
  rw [hln] at hnn
  subst hnn
  have hg : decide ((n : Int) < (n : Int)) = false := by simp
  have HD := hid hd
  clear hd hn h2
  cases ok with
  | true =>
   go_enter Tryz.func28, Tryz.ntmps28
   go_upto_region 0 with fail
   go_quiet (fail)
   go_wp2_with fail
   go_end0
   exact ⟨rfl, HH.out.to (below_drewN (Below.refl _ _) _), (But.refl R w).to (below_drewN (Below.refl _ _) _)⟩
  | false =>
   go_enter Tryz.func28, Tryz.ntmps28
   go_upto_region 0 with fail
   go_quiet (fail)
   go_wp2_with fail
   go_end0
   obtain ⟨cap', a', p', e', i1, i2, i3, i4⟩ := HH.out
   exact ⟨rfl, ⟨cap', a', E, 2, set_block (set_block (W := w.drewN nq) i1 3 _) 4 _, i2, i3.but ((((But.refl R w).to (below_drewN (Below.refl _ _) nq)).set 3 _).set 4 _), rfl, rfl, by decide⟩, (((But.refl R w).to (below_drewN (Below.refl _ _) nq)).set 3 _).set 4 _⟩
 | .inl (x :: r) =>
  obtain ⟨rfl, n, rfl, hn, hd⟩ := h4
  obtain ⟨hlt, hx, hdr⟩ := drop_cons hd
  rw [hln] at hlt
  have hg : decide ((n : Int) < (ln : Int)) = true := by simp; omega
  clear hd hn h2 hx hdr
  go_enter Tryz.func28, Tryz.ntmps28
  go_upto_region 0 with fail
  go_quiet (fail)
  go_wp2_with (go_at_call 61; refine (HF.out _ (HH.out.to (below_drewN (Below.refl _ _) nq))).mono ?_; rintro en w2 ⟨rfl, hp, hb⟩; have HP2 := hid hp; have HB2 := hid hb; have c3 : ∃ er : Int, w2.cell? ⟨R, 3, none⟩ = some (.int .i64 er) /\ (er == 0) = false := (by obtain ⟨_, _, p5, e5, j1, _, _, rfl, _, j4⟩ := hp; exact ⟨1, (c5 j1).1.2.2.2.1, by decide⟩); obtain ⟨er, c3, c4⟩ := c3; clear hp hb)
  go_end0
  exact ⟨rfl, HP2.out, ((But.refl R w).to (below_drewN (Below.refl _ _) nq)).trans HB2.out⟩
 | .inr (er, pos) =>
  obtain rfl := hin er pos rfl
  obtain ⟨rfl, rfl, hne⟩ := h4
  have hn2 : (e == 0) = false := by simpa using hne
  cases hg : decide (a < (ln : Int)) with
  | true =>
   go_enter Tryz.func28, Tryz.ntmps28
   go_upto_region 0 with fail
   go_quiet (fail)
   go_wp2_with (go_at_call 61; refine (HF.out _ (HH.out.to (below_drewN (Below.refl _ _) nq))).mono ?_; rintro en w2 ⟨rfl, hp, hb⟩; have HP2 := hid hp; have HB2 := hid hb; have c3 : w2.cell? ⟨R, 3, none⟩ = some (.int .i64 e) := (by obtain ⟨_, _, p5, e5, j1, _, _, rfl, _, j4⟩ := hp; exact (c5 j1).1.2.2.2.1); clear hp hb)
   go_end0
   exact ⟨rfl, HP2.out, ((But.refl R w).to (below_drewN (Below.refl _ _) nq)).trans HB2.out⟩
  | false =>
   go_enter Tryz.func28, Tryz.ntmps28
   go_upto_region 0 with fail
   go_quiet (fail)
   go_wp2_with fail
   go_end0
   exact ⟨rfl, HH.out.to (below_drewN (Below.refl _ _) _), (But.refl R w).to (below_drewN (Below.refl _ _) _)⟩
end Go.Proofs.YtejaboajgecpaaaGreatDoor
namespace Go.Proofs.YtejaboajgecpaaaGreatDoor
open Go.RowKit Go.Deep Go.Shelf
end Go.Proofs.YtejaboajgecpaaaGreatDoor
namespace Go.Proofs.YtejaboajgecpaaaGreatDoor
open Go.Lib (hid)
open Go.RowKit Go.Deep Go.Shelf
def RRes {α : Type} (w : World) (r : α ⊕ (Int × Int)) (G : Nat -> World -> α -> Value -> Prop) (zero : Value) (e : Ending) (w' : World) : Prop := match r with
 | .inl x => (∃ v, e = .returned (.tuple #[v, .int .i64 0, .int .i64 0]) /\ G w.heap.size w' x v) /\ Below w.heap.size w w'
 | .inr (er, p) => e = .returned (.tuple #[zero, .int .i64 er, .int .i64 p]) /\ Below w.heap.size w w'
theorem rtypeA (s : ByteArray) (r : List Tok.Item ⊕ (Int × Int)) (hr : Scans s r) (F : List Tk -> PR Ty) (w : World) (hcall : ∀ (R : Nat) (la : Option Addr) (all : List Tk) (W : World), RdIs R la all (s.size : Int) (stOf r) W -> Calls Tryz.prog 38 #[.pointer (some ⟨R, 0, none⟩)] W (Red R la all (s.size : Int) W F (stOf r) (GTy W.heap.size)))
 (er p : Int) (hst : stepPR (s.size : Int) F (stOf r) = .inr (er, p)) :
 Calls Tryz.prog 17 #[.string s] w (RRes w (.inr (er, p)) GTy (.agg #[.int .i64 0, .int .i64 0, .string ⟨#[]⟩, .int .i64 0, .slice none 0 0, .slice none 0 0])) := by
 obtain ⟨W1, hW1⟩ := ex1 (w.alloc (.cells z6 28))
 have hb1 := (made hW1).1
 have x1 := (made hW1).2
 have hs1 : w.heap.size < W1.heap.size := (gl x1)
 have HW1 := hid hW1
 have HB1 := hid hb1
 have HX1 := hid x1
 have HSTART := hid (start_any s r hr W1)
 have HCALL := hid hcall
 clear hW1 hb1 x1 hr hcall
 have HST := hid hst
 clear hst
 go_enter Tryz.func17, Tryz.ntmps17
 go_upto_region 1 with fail
 rw [HW1.out]
 go_upto_region 3 with (first | (go_at_call 26; refine HSTART.out.mono ?_; rintro en wa ⟨R, la, all, rfl, hRz, hp, hb⟩; have HP := hid hp; have HBA := hid hb; have HRZ := hid (And.intro hRz hp.lt); clear hp hb hRz) | (go_at_call 38; refine (HCALL.out R la all wa HP.out).mono ?_; rintro en wb ⟨⟨_, x, rfl, hg, hv⟩, hp, hb⟩; obtain ⟨la', ln, lc, ka, kn, kc, rfl⟩ := hg.open; rw [HST.out] at hp; have HV := hid hv; have HG := hid (hg.mono (show W1.heap.size <= _ from HBA.out.size)); have HPn := hid hp; have HB := hid hb; clear hp hb hg hv HP; have HP := HPn; clear HPn))
 obtain ⟨W4, hW4⟩ := ex1 (wb.alloc (.cells #[.int .i64 x.k, .int .i64 x.p, .string x.n, .int .i64 x.s, .slice la' ln lc, .slice ka kn kc] 28))
 have hb4 := (made hW4).1
 have x4 := (made hW4).2
 have HPn := hid (HP.out.to hb4)
 rw [hW4]
 have hbx4 := hb4
 have HX4 := hid x4
 have HB4 := hid hb4
 have hab : wa.heap.size <= wb.heap.size := HB.out.size
 have haa : W1.heap.size <= wa.heap.size := HBA.out.size
 clear HP hW4 hb4 hbx4
 have HP := HPn
 clear HPn
 obtain ⟨y3, hne⟩ : W4.cell? ⟨R, 3, none⟩ = some (.int .i64 er) /\ (er != 0) = true := by
  obtain ⟨_, _, _, _, hx, _, _, rfl, _, hn⟩ := HP.out
  exact ⟨(c5 hx).1.2.2.2.1, by simpa using hn⟩
 go_upto_region 5 with ((go_at_call 28; refine (finish_any R la all _ true (.inr (er, p)) W4 HP.out (fun _ _ _ => rfl)).mono ?_; rintro en wc ⟨rfl, hp, hb⟩; have HPn := hid hp; have HBn := hid hb; obtain ⟨cap, a, p5, e5, hx, -, -, he5, hp5, -⟩ := hp; subst he5; subst hp5; obtain ⟨⟨u0, u1, u2, u3, u4⟩, -⟩ := c5 hx; clear hx hb))
 have hR1 := HRZ.out
 have hb4s : wb.heap.size <= W4.heap.size := HB4.out.size
 have hbcs : W4.heap.size <= wc.heap.size := HBn.out.size
 have HBc := HBn
 have hx9 : wc.heap[w.heap.size]? = some (.cells z6 28 (0, 0)) := ((HBc.out.block w.heap.size (by omega) (by omega)).trans ((HB4.out.block w.heap.size (by omega)).trans ((HB.out.block w.heap.size (by omega) (by omega)).trans ((HBA.out.block w.heap.size hs1).trans HX1.out))))
 have hbel : Below w.heap.size w wc := by
  have h1 : Below w.heap.size w wa := HB1.out.trans (HBA.out.mono HB1.out.size)
  have h2 : Below w.heap.size w wb := h1.trans (HB.out.below (by omega) (by omega))
  have h3 : Below w.heap.size w W4 := h2.trans (HB4.out.mono (by omega))
  exact h3.trans (HBn.out.below (by omega) (by omega))
 obtain ⟨⟨q0, q1, q2, q3, q4, q5⟩, z0, z1, z2, z3, z4, z5⟩ := c6 hx9
 have HX9 := hid hx9
 have HBEL := hid hbel
 clear hx9 hbel
 go_region
 obtain ⟨W5, hW5⟩ := ex1 ((put6 wc w.heap.size (.int .i64 0) (.int .i64 0) (.string ⟨#[]⟩) (.int .i64 0) (.slice none 0 0) (.slice none 0 0)).drew)
 have hdrew : ∀ W : World, W.drew.heap = W.heap := fun _ => rfl
 have hx8 : W5.heap[w.heap.size]? = some (.cells z6 28 (0, 0)) := by rw [<- hW5, hdrew]; exact fill6 HX9.out (.int .i64 0) (.int .i64 0) (.string ⟨#[]⟩) (.int .i64 0) (.slice none 0 0) (.slice none 0 0)
 have hb5 : Below w.heap.size w W5 := by rw [<- hW5]; exact (((((((HBEL.out.setCell (p := ⟨w.heap.size, 0, none⟩) (Nat.le_refl _) _).setCell (p := ⟨w.heap.size, 1, none⟩) (Nat.le_refl _) _).setCell (p := ⟨w.heap.size, 2, none⟩) (Nat.le_refl _) _).setCell (p := ⟨w.heap.size, 3, none⟩) (Nat.le_refl _) _).setCell (p := ⟨w.heap.size, 4, none⟩) (Nat.le_refl _) _).setCell (p := ⟨w.heap.size, 5, none⟩) (Nat.le_refl _) _)).drew
 have HB5 := hid hb5
 rw [hW5]
 clear hW5 hdrew hb5 q0 q1 q2 q3 q4 q5 z0 z1 z2 z3 z4 z5
 obtain ⟨⟨y0, y1, y2, y3, y4, y5⟩, -⟩ := c6 hx8
 clear hx8
 go_wp2_with fail
 refine bodyPost_ret (v := .tuple #[.agg #[.int .i64 0, .int .i64 0, .string ⟨#[]⟩, .int .i64 0, .slice none 0 0, .slice none 0 0], .int .i64 e5, .int .i64 p5]) (by simp [results, Tryz.results17, go_sem, y0, y1, y2, y3, y4, y5]) rfl ?_
 exact ⟨rfl, HB5.out⟩
theorem rtypeB (s : ByteArray) (r : List Tok.Item ⊕ (Int × Int)) (hr : Scans s r) (F : List Tk -> PR Ty) (w : World) (hcall : ∀ (R : Nat) (la : Option Addr) (all : List Tk) (W : World), RdIs R la all (s.size : Int) (stOf r) W -> Calls Tryz.prog 38 #[.pointer (some ⟨R, 0, none⟩)] W (Red R la all (s.size : Int) W F (stOf r) (GTy W.heap.size)))
 (x0 : Ty) (rr : List Tk) (hst : stepPR (s.size : Int) F (stOf r) = .inl rr) (hval : valPR F (stOf r) = some x0) (hsz : x0.size <= 1000000) (hdp : x0.depth <= 1000000) :
 Calls Tryz.prog 17 #[.string s] w (RRes w (match stFin (s.size : Int) (!x0.tooBig) (.inl rr) with | .inr z => .inr z | .inl _ => .inl x0) GTy (.agg #[.int .i64 0, .int .i64 0, .string ⟨#[]⟩, .int .i64 0, .slice none 0 0, .slice none 0 0])) := by
 obtain ⟨W1, hW1⟩ := ex1 (w.alloc (.cells z6 28))
 have hb1 := (made hW1).1
 have x1 := (made hW1).2
 have hs1 : w.heap.size < W1.heap.size := (gl x1)
 have HW1 := hid hW1
 have HB1 := hid hb1
 have HX1 := hid x1
 have HSTART := hid (start_any s r hr W1)
 have HCALL := hid hcall
 clear hW1 hb1 x1 hr hcall
 have HST := hid hst
 have HVAL := hid hval
 have HSZ := hid hsz
 have HDP := hid hdp
 clear hst hval hsz hdp
 by_cases c0 : 100 < x0.depth
 ·have hl1 : decide ((x0.depth : Int) <= 100) = false := by simp; omega
  have htb : x0.tooBig = true := by unfold Ty.tooBig; rw [decide_eq_true c0]; rfl
  rw [htb, show (!true) = false from rfl]
  clear htb
  cases hfin : stFin (s.size : Int) false (.inl rr) with
  | inr z =>
   obtain ⟨er, pp⟩ := z
   show Calls _ _ _ _ (RRes w (.inr (er, pp)) _ _)
   have HFIN := hid hfin
   clear hfin
   go_enter Tryz.func17, Tryz.ntmps17
   go_upto_region 1 with fail
   rw [HW1.out]
   go_upto_region 3 with (first | (go_at_call 26; refine HSTART.out.mono ?_; rintro en wa ⟨R, la, all, rfl, hRz, hp, hb⟩; have HP := hid hp; have HBA := hid hb; have HRZ := hid (And.intro hRz hp.lt); clear hp hb hRz) | (go_at_call 38; refine (HCALL.out R la all wa HP.out).mono ?_; rintro en wb ⟨⟨_, x, rfl, hg, hv⟩, hp, hb⟩; obtain ⟨la', ln, lc, ka, kn, kc, rfl⟩ := hg.open; rw [HST.out] at hp; obtain rfl := hv _ HVAL.out; have HG := hid hg; have HPn := hid hp; have HB := hid hb; clear hp hb hg hv HP; have HP := HPn; clear HPn))
   obtain ⟨W4, hW4⟩ := ex1 (wb.alloc (.cells #[.int .i64 x.k, .int .i64 x.p, .string x.n, .int .i64 x.s, .slice la' ln lc, .slice ka kn kc] 28))
   have hb4 := (made hW4).1
   have x4 := (made hW4).2
   have HPn := hid (HP.out.to hb4)
   rw [hW4]
   have hbx4 := hb4
   have HX4 := hid x4
   have HB4 := hid hb4
   have hab : wa.heap.size <= wb.heap.size := HB.out.size
   have haa : W1.heap.size <= wa.heap.size := HBA.out.size
   clear HP hW4 hb4 hbx4
   have HP := HPn
   clear HPn
   have HP0 := HP
   obtain ⟨y3, -⟩ : W4.cell? ⟨R, 3, none⟩ = some (.int .i64 0) /\ True := by
    obtain ⟨_, _, _, _, hx, _, _, rfl, _⟩ := HP.out
    exact ⟨(c5 hx).1.2.2.2.1, trivial⟩
   obtain ⟨⟨d0, d1, d2, d3, d4, d5⟩, -⟩ := c6 HX4.out
   have hlt4 : wb.heap.size < W4.heap.size := (gl HX4.out)
   have HG4 := hid (HG.out.but (But.of (P := R) HB4.out) HRZ.out.2)
   go_upto_region 5 with (first | (go_at_call 39; refine (rdepth_any _ x HDP.out _ W4 (fun k hk => hk.2) HG4.out).mono ?_; rintro en w5 ⟨rfl, hb⟩; have HBZ := hid hb; obtain ⟨⟨v0, v1, v2, v3, v4, v5⟩, -⟩ := c6 ((hb.block _ hlt4).trans HX4.out); clear hb) | (go_at_call 28; refine (finish_any R la all _ false (.inl rr) w5 (HP0.out.to HBZ.out) (fun _ _ h => by cases h)).mono ?_; rintro en wc ⟨rfl, hp, hb⟩; rw [HFIN.out] at hp; have HBn := hid ((But.of (P := R) HBZ.out).trans hb); have hp0 := hp; obtain ⟨cap, a, p5, e5, hx, -, -, hst5⟩ := hp; obtain ⟨rfl, rfl, hne5⟩ := hst5; have hne : (e5 != 0) = true := (by simpa using hne5); obtain ⟨⟨u0, u1, u2, u3, u4⟩, -⟩ := c5 hx; clear hx hb hp0))
   have hR1 := HRZ.out
   have hb4s : wb.heap.size <= W4.heap.size := HB4.out.size
   have hbcs : W4.heap.size <= wc.heap.size := HBn.out.size
   have HBc := HBn
   have hx9 : wc.heap[w.heap.size]? = some (.cells z6 28 (0, 0)) := ((HBc.out.block w.heap.size (by omega) (by omega)).trans ((HB4.out.block w.heap.size (by omega)).trans ((HB.out.block w.heap.size (by omega) (by omega)).trans ((HBA.out.block w.heap.size hs1).trans HX1.out))))
   have hbel : Below w.heap.size w wc := by
    have h1 : Below w.heap.size w wa := HB1.out.trans (HBA.out.mono HB1.out.size)
    have h2 : Below w.heap.size w wb := h1.trans (HB.out.below (by omega) (by omega))
    have h3 : Below w.heap.size w W4 := h2.trans (HB4.out.mono (by omega))
    exact h3.trans (HBn.out.below (by omega) (by omega))
   obtain ⟨⟨q0, q1, q2, q3, q4, q5⟩, z0, z1, z2, z3, z4, z5⟩ := c6 hx9
   have HX9 := hid hx9
   have HBEL := hid hbel
   clear hx9 hbel
   go_region
   obtain ⟨W5, hW5⟩ := ex1 ((put6 wc w.heap.size (.int .i64 0) (.int .i64 0) (.string ⟨#[]⟩) (.int .i64 0) (.slice none 0 0) (.slice none 0 0)).drew)
   have hdrew : ∀ W : World, W.drew.heap = W.heap := fun _ => rfl
   have hx8 : W5.heap[w.heap.size]? = some (.cells z6 28 (0, 0)) := by rw [<- hW5, hdrew]; exact fill6 HX9.out (.int .i64 0) (.int .i64 0) (.string ⟨#[]⟩) (.int .i64 0) (.slice none 0 0) (.slice none 0 0)
   have hb5 : Below w.heap.size w W5 := by rw [<- hW5]; exact (((((((HBEL.out.setCell (p := ⟨w.heap.size, 0, none⟩) (Nat.le_refl _) _).setCell (p := ⟨w.heap.size, 1, none⟩) (Nat.le_refl _) _).setCell (p := ⟨w.heap.size, 2, none⟩) (Nat.le_refl _) _).setCell (p := ⟨w.heap.size, 3, none⟩) (Nat.le_refl _) _).setCell (p := ⟨w.heap.size, 4, none⟩) (Nat.le_refl _) _).setCell (p := ⟨w.heap.size, 5, none⟩) (Nat.le_refl _) _)).drew
   have HB5 := hid hb5
   rw [hW5]
   clear hW5 hdrew hb5 q0 q1 q2 q3 q4 q5 z0 z1 z2 z3 z4 z5
   obtain ⟨⟨y0, y1, y2, y3, y4, y5⟩, -⟩ := c6 hx8
   clear hx8
   go_wp2_with fail
   refine bodyPost_ret (v := .tuple #[.agg #[.int .i64 0, .int .i64 0, .string ⟨#[]⟩, .int .i64 0, .slice none 0 0, .slice none 0 0], .int .i64 e5, .int .i64 p5]) (by simp [results, Tryz.results17, go_sem, y0, y1, y2, y3, y4, y5]) rfl ?_
   exact ⟨rfl, HB5.out⟩
  | inl l =>
   show Calls _ _ _ _ (RRes w (.inl x0) _ _)
   exact absurd hfin (by cases rr <;> simp [stFin])
 by_cases c1 : 10000 < x0.size
 ·have hl1 : decide ((x0.depth : Int) <= 100) = true := by simp; omega
  have hl2 : decide ((x0.size : Int) <= 10000) = false := by simp; omega
  have htb : x0.tooBig = true := by unfold Ty.tooBig; rw [decide_eq_true c1, Bool.or_true]
  rw [htb, show (!true) = false from rfl]
  clear htb
  cases hfin : stFin (s.size : Int) false (.inl rr) with
  | inr z =>
   obtain ⟨er, pp⟩ := z
   show Calls _ _ _ _ (RRes w (.inr (er, pp)) _ _)
   have HFIN := hid hfin
   clear hfin
   go_enter Tryz.func17, Tryz.ntmps17
   go_upto_region 1 with fail
   rw [HW1.out]
   go_upto_region 3 with (first | (go_at_call 26; refine HSTART.out.mono ?_; rintro en wa ⟨R, la, all, rfl, hRz, hp, hb⟩; have HP := hid hp; have HBA := hid hb; have HRZ := hid (And.intro hRz hp.lt); clear hp hb hRz) | (go_at_call 38; refine (HCALL.out R la all wa HP.out).mono ?_; rintro en wb ⟨⟨_, x, rfl, hg, hv⟩, hp, hb⟩; obtain ⟨la', ln, lc, ka, kn, kc, rfl⟩ := hg.open; rw [HST.out] at hp; obtain rfl := hv _ HVAL.out; have HG := hid hg; have HPn := hid hp; have HB := hid hb; clear hp hb hg hv HP; have HP := HPn; clear HPn))
   obtain ⟨W4, hW4⟩ := ex1 (wb.alloc (.cells #[.int .i64 x.k, .int .i64 x.p, .string x.n, .int .i64 x.s, .slice la' ln lc, .slice ka kn kc] 28))
   have hb4 := (made hW4).1
   have x4 := (made hW4).2
   have HPn := hid (HP.out.to hb4)
   rw [hW4]
   have hbx4 := hb4
   have HX4 := hid x4
   have HB4 := hid hb4
   have hab : wa.heap.size <= wb.heap.size := HB.out.size
   have haa : W1.heap.size <= wa.heap.size := HBA.out.size
   clear HP hW4 hb4 hbx4
   have HP := HPn
   clear HPn
   have HP0 := HP
   obtain ⟨y3, -⟩ : W4.cell? ⟨R, 3, none⟩ = some (.int .i64 0) /\ True := by
    obtain ⟨_, _, _, _, hx, _, _, rfl, _⟩ := HP.out
    exact ⟨(c5 hx).1.2.2.2.1, trivial⟩
   obtain ⟨⟨d0, d1, d2, d3, d4, d5⟩, -⟩ := c6 HX4.out
   have hlt4 : wb.heap.size < W4.heap.size := (gl HX4.out)
   have HG4 := hid (HG.out.but (But.of (P := R) HB4.out) HRZ.out.2)
   go_upto_region 5 with (first | (go_at_call 39; refine (rdepth_any _ x HDP.out _ W4 (fun k hk => hk.2) HG4.out).mono ?_; rintro en w5 ⟨rfl, hb⟩; have HBZ := hid hb; obtain ⟨⟨v0, v1, v2, v3, v4, v5⟩, -⟩ := c6 ((hb.block _ hlt4).trans HX4.out); clear hb) | (go_at_call 40; refine (rsize_any _ x HSZ.out _ w5 (fun k hk => hk.2) (HG4.out.but (But.of (P := R) HBZ.out) HRZ.out.2)).mono ?_; rintro en w6 ⟨rfl, hb⟩; have HBY := hid (below_seq HBZ.out hb); clear hb HBZ; have HBZ := HBY; clear HBY) | (go_at_call 28; refine (finish_any R la all _ false (.inl rr) w6 (HP0.out.to HBZ.out) (fun _ _ h => by cases h)).mono ?_; rintro en wc ⟨rfl, hp, hb⟩; rw [HFIN.out] at hp; have HBn := hid ((But.of (P := R) HBZ.out).trans hb); have hp0 := hp; obtain ⟨cap, a, p5, e5, hx, -, -, hst5⟩ := hp; obtain ⟨rfl, rfl, hne5⟩ := hst5; have hne : (e5 != 0) = true := (by simpa using hne5); obtain ⟨⟨u0, u1, u2, u3, u4⟩, -⟩ := c5 hx; clear hx hb hp0))
   have hR1 := HRZ.out
   have hb4s : wb.heap.size <= W4.heap.size := HB4.out.size
   have hbcs : W4.heap.size <= wc.heap.size := HBn.out.size
   have HBc := HBn
   have hx9 : wc.heap[w.heap.size]? = some (.cells z6 28 (0, 0)) := ((HBc.out.block w.heap.size (by omega) (by omega)).trans ((HB4.out.block w.heap.size (by omega)).trans ((HB.out.block w.heap.size (by omega) (by omega)).trans ((HBA.out.block w.heap.size hs1).trans HX1.out))))
   have hbel : Below w.heap.size w wc := by
    have h1 : Below w.heap.size w wa := HB1.out.trans (HBA.out.mono HB1.out.size)
    have h2 : Below w.heap.size w wb := h1.trans (HB.out.below (by omega) (by omega))
    have h3 : Below w.heap.size w W4 := h2.trans (HB4.out.mono (by omega))
    exact h3.trans (HBn.out.below (by omega) (by omega))
   obtain ⟨⟨q0, q1, q2, q3, q4, q5⟩, z0, z1, z2, z3, z4, z5⟩ := c6 hx9
   have HX9 := hid hx9
   have HBEL := hid hbel
   clear hx9 hbel
   go_region
   obtain ⟨W5, hW5⟩ := ex1 ((put6 wc w.heap.size (.int .i64 0) (.int .i64 0) (.string ⟨#[]⟩) (.int .i64 0) (.slice none 0 0) (.slice none 0 0)).drew)
   have hdrew : ∀ W : World, W.drew.heap = W.heap := fun _ => rfl
   have hx8 : W5.heap[w.heap.size]? = some (.cells z6 28 (0, 0)) := by rw [<- hW5, hdrew]; exact fill6 HX9.out (.int .i64 0) (.int .i64 0) (.string ⟨#[]⟩) (.int .i64 0) (.slice none 0 0) (.slice none 0 0)
   have hb5 : Below w.heap.size w W5 := by rw [<- hW5]; exact (((((((HBEL.out.setCell (p := ⟨w.heap.size, 0, none⟩) (Nat.le_refl _) _).setCell (p := ⟨w.heap.size, 1, none⟩) (Nat.le_refl _) _).setCell (p := ⟨w.heap.size, 2, none⟩) (Nat.le_refl _) _).setCell (p := ⟨w.heap.size, 3, none⟩) (Nat.le_refl _) _).setCell (p := ⟨w.heap.size, 4, none⟩) (Nat.le_refl _) _).setCell (p := ⟨w.heap.size, 5, none⟩) (Nat.le_refl _) _)).drew
   have HB5 := hid hb5
   rw [hW5]
   clear hW5 hdrew hb5 q0 q1 q2 q3 q4 q5 z0 z1 z2 z3 z4 z5
   obtain ⟨⟨y0, y1, y2, y3, y4, y5⟩, -⟩ := c6 hx8
   clear hx8
   go_wp2_with fail
   refine bodyPost_ret (v := .tuple #[.agg #[.int .i64 0, .int .i64 0, .string ⟨#[]⟩, .int .i64 0, .slice none 0 0, .slice none 0 0], .int .i64 e5, .int .i64 p5]) (by simp [results, Tryz.results17, go_sem, y0, y1, y2, y3, y4, y5]) rfl ?_
   exact ⟨rfl, HB5.out⟩
  | inl l =>
   show Calls _ _ _ _ (RRes w (.inl x0) _ _)
   exact absurd hfin (by cases rr <;> simp [stFin])
 have hl1 : decide ((x0.depth : Int) <= 100) = true := by simp; omega
 have hl2 : decide ((x0.size : Int) <= 10000) = true := by simp; omega
 have htb : x0.tooBig = false := by unfold Ty.tooBig; rw [decide_eq_false c0, decide_eq_false c1]; rfl
 rw [htb, show (!false) = true from rfl]
 clear htb
 cases hfin : stFin (s.size : Int) true (.inl rr) with
 | inr z =>
  obtain ⟨er, pp⟩ := z
  show Calls _ _ _ _ (RRes w (.inr (er, pp)) _ _)
  have HFIN := hid hfin
  clear hfin
  go_enter Tryz.func17, Tryz.ntmps17
  go_upto_region 1 with fail
  rw [HW1.out]
  go_upto_region 3 with (first | (go_at_call 26; refine HSTART.out.mono ?_; rintro en wa ⟨R, la, all, rfl, hRz, hp, hb⟩; have HP := hid hp; have HBA := hid hb; have HRZ := hid (And.intro hRz hp.lt); clear hp hb hRz) | (go_at_call 38; refine (HCALL.out R la all wa HP.out).mono ?_; rintro en wb ⟨⟨_, x, rfl, hg, hv⟩, hp, hb⟩; obtain ⟨la', ln, lc, ka, kn, kc, rfl⟩ := hg.open; rw [HST.out] at hp; obtain rfl := hv _ HVAL.out; have HG := hid hg; have HPn := hid hp; have HB := hid hb; clear hp hb hg hv HP; have HP := HPn; clear HPn))
  obtain ⟨W4, hW4⟩ := ex1 (wb.alloc (.cells #[.int .i64 x.k, .int .i64 x.p, .string x.n, .int .i64 x.s, .slice la' ln lc, .slice ka kn kc] 28))
  have hb4 := (made hW4).1
  have x4 := (made hW4).2
  have HPn := hid (HP.out.to hb4)
  rw [hW4]
  have hbx4 := hb4
  have HX4 := hid x4
  have HB4 := hid hb4
  have hab : wa.heap.size <= wb.heap.size := HB.out.size
  have haa : W1.heap.size <= wa.heap.size := HBA.out.size
  clear HP hW4 hb4 hbx4
  have HP := HPn
  clear HPn
  have HP0 := HP
  obtain ⟨y3, -⟩ : W4.cell? ⟨R, 3, none⟩ = some (.int .i64 0) /\ True := by
   obtain ⟨_, _, _, _, hx, _, _, rfl, _⟩ := HP.out
   exact ⟨(c5 hx).1.2.2.2.1, trivial⟩
  obtain ⟨⟨d0, d1, d2, d3, d4, d5⟩, -⟩ := c6 HX4.out
  have hlt4 : wb.heap.size < W4.heap.size := (gl HX4.out)
  have HG4 := hid (HG.out.but (But.of (P := R) HB4.out) HRZ.out.2)
  go_upto_region 5 with (first | (go_at_call 39; refine (rdepth_any _ x HDP.out _ W4 (fun k hk => hk.2) HG4.out).mono ?_; rintro en w5 ⟨rfl, hb⟩; have HBZ := hid hb; obtain ⟨⟨v0, v1, v2, v3, v4, v5⟩, -⟩ := c6 ((hb.block _ hlt4).trans HX4.out); clear hb) | (go_at_call 40; refine (rsize_any _ x HSZ.out _ w5 (fun k hk => hk.2) (HG4.out.but (But.of (P := R) HBZ.out) HRZ.out.2)).mono ?_; rintro en w6 ⟨rfl, hb⟩; have HBY := hid (below_seq HBZ.out hb); clear hb HBZ; have HBZ := HBY; clear HBY) | (go_at_call 28; refine (finish_any R la all _ true (.inl rr) w6 (HP0.out.to HBZ.out) (fun _ _ h => by cases h)).mono ?_; rintro en wc ⟨rfl, hp, hb⟩; rw [HFIN.out] at hp; have HBn := hid ((But.of (P := R) HBZ.out).trans hb); have hp0 := hp; obtain ⟨cap, a, p5, e5, hx, -, -, hst5⟩ := hp; obtain ⟨rfl, rfl, hne5⟩ := hst5; have hne : (e5 != 0) = true := (by simpa using hne5); obtain ⟨⟨u0, u1, u2, u3, u4⟩, -⟩ := c5 hx; clear hx hb hp0))
  have hR1 := HRZ.out
  have hb4s : wb.heap.size <= W4.heap.size := HB4.out.size
  have hbcs : W4.heap.size <= wc.heap.size := HBn.out.size
  have HBc := HBn
  have hx9 : wc.heap[w.heap.size]? = some (.cells z6 28 (0, 0)) := ((HBc.out.block w.heap.size (by omega) (by omega)).trans ((HB4.out.block w.heap.size (by omega)).trans ((HB.out.block w.heap.size (by omega) (by omega)).trans ((HBA.out.block w.heap.size hs1).trans HX1.out))))
  have hbel : Below w.heap.size w wc := by
   have h1 : Below w.heap.size w wa := HB1.out.trans (HBA.out.mono HB1.out.size)
   have h2 : Below w.heap.size w wb := h1.trans (HB.out.below (by omega) (by omega))
   have h3 : Below w.heap.size w W4 := h2.trans (HB4.out.mono (by omega))
   exact h3.trans (HBn.out.below (by omega) (by omega))
  obtain ⟨⟨q0, q1, q2, q3, q4, q5⟩, z0, z1, z2, z3, z4, z5⟩ := c6 hx9
  have HX9 := hid hx9
  have HBEL := hid hbel
  clear hx9 hbel
  go_region
  obtain ⟨W5, hW5⟩ := ex1 ((put6 wc w.heap.size (.int .i64 0) (.int .i64 0) (.string ⟨#[]⟩) (.int .i64 0) (.slice none 0 0) (.slice none 0 0)).drew)
  have hdrew : ∀ W : World, W.drew.heap = W.heap := fun _ => rfl
  have hx8 : W5.heap[w.heap.size]? = some (.cells z6 28 (0, 0)) := by rw [<- hW5, hdrew]; exact fill6 HX9.out (.int .i64 0) (.int .i64 0) (.string ⟨#[]⟩) (.int .i64 0) (.slice none 0 0) (.slice none 0 0)
  have hb5 : Below w.heap.size w W5 := by rw [<- hW5]; exact (((((((HBEL.out.setCell (p := ⟨w.heap.size, 0, none⟩) (Nat.le_refl _) _).setCell (p := ⟨w.heap.size, 1, none⟩) (Nat.le_refl _) _).setCell (p := ⟨w.heap.size, 2, none⟩) (Nat.le_refl _) _).setCell (p := ⟨w.heap.size, 3, none⟩) (Nat.le_refl _) _).setCell (p := ⟨w.heap.size, 4, none⟩) (Nat.le_refl _) _).setCell (p := ⟨w.heap.size, 5, none⟩) (Nat.le_refl _) _)).drew
  have HB5 := hid hb5
  rw [hW5]
  clear hW5 hdrew hb5 q0 q1 q2 q3 q4 q5 z0 z1 z2 z3 z4 z5
  obtain ⟨⟨y0, y1, y2, y3, y4, y5⟩, -⟩ := c6 hx8
  clear hx8
  go_wp2_with fail
  refine bodyPost_ret (v := .tuple #[.agg #[.int .i64 0, .int .i64 0, .string ⟨#[]⟩, .int .i64 0, .slice none 0 0, .slice none 0 0], .int .i64 e5, .int .i64 p5]) (by simp [results, Tryz.results17, go_sem, y0, y1, y2, y3, y4, y5]) rfl ?_
  exact ⟨rfl, HB5.out⟩
 | inl l =>
  show Calls _ _ _ _ (RRes w (.inl x0) _ _)
  have HFIN := hid hfin
  clear hfin
  go_enter Tryz.func17, Tryz.ntmps17
  go_upto_region 1 with fail
  rw [HW1.out]
  go_upto_region 3 with (first | (go_at_call 26; refine HSTART.out.mono ?_; rintro en wa ⟨R, la, all, rfl, hRz, hp, hb⟩; have HP := hid hp; have HBA := hid hb; have HRZ := hid (And.intro hRz hp.lt); clear hp hb hRz) | (go_at_call 38; refine (HCALL.out R la all wa HP.out).mono ?_; rintro en wb ⟨⟨_, x, rfl, hg, hv⟩, hp, hb⟩; obtain ⟨la', ln, lc, ka, kn, kc, rfl⟩ := hg.open; rw [HST.out] at hp; obtain rfl := hv _ HVAL.out; have HG := hid hg; have HPn := hid hp; have HB := hid hb; clear hp hb hg hv HP; have HP := HPn; clear HPn))
  obtain ⟨W4, hW4⟩ := ex1 (wb.alloc (.cells #[.int .i64 x.k, .int .i64 x.p, .string x.n, .int .i64 x.s, .slice la' ln lc, .slice ka kn kc] 28))
  have hb4 := (made hW4).1
  have x4 := (made hW4).2
  have HPn := hid (HP.out.to hb4)
  rw [hW4]
  have hbx4 := hb4
  have HX4 := hid x4
  have HB4 := hid hb4
  have hab : wa.heap.size <= wb.heap.size := HB.out.size
  have haa : W1.heap.size <= wa.heap.size := HBA.out.size
  clear HP hW4 hb4 hbx4
  have HP := HPn
  clear HPn
  have HP0 := HP
  obtain ⟨y3, -⟩ : W4.cell? ⟨R, 3, none⟩ = some (.int .i64 0) /\ True := by
   obtain ⟨_, _, _, _, hx, _, _, rfl, _⟩ := HP.out
   exact ⟨(c5 hx).1.2.2.2.1, trivial⟩
  obtain ⟨⟨d0, d1, d2, d3, d4, d5⟩, -⟩ := c6 HX4.out
  have hlt4 : wb.heap.size < W4.heap.size := (gl HX4.out)
  have HG4 := hid (HG.out.but (But.of (P := R) HB4.out) HRZ.out.2)
  go_upto_region 6 with (first | (go_at_call 39; refine (rdepth_any _ x HDP.out _ W4 (fun k hk => hk.2) HG4.out).mono ?_; rintro en w5 ⟨rfl, hb⟩; have HBZ := hid hb; obtain ⟨⟨v0, v1, v2, v3, v4, v5⟩, -⟩ := c6 ((hb.block _ hlt4).trans HX4.out); clear hb) | (go_at_call 40; refine (rsize_any _ x HSZ.out _ w5 (fun k hk => hk.2) (HG4.out.but (But.of (P := R) HBZ.out) HRZ.out.2)).mono ?_; rintro en w6 ⟨rfl, hb⟩; have HBY := hid (below_seq HBZ.out hb); clear hb HBZ; have HBZ := HBY; clear HBY) | (go_at_call 28; refine (finish_any R la all _ true (.inl rr) w6 (HP0.out.to HBZ.out) (fun _ _ h => by cases h)).mono ?_; rintro en wc ⟨rfl, hp, hb⟩; rw [HFIN.out] at hp; have HBn := hid ((But.of (P := R) HBZ.out).trans hb); have hp0 := hp; obtain ⟨cap, a, p5, e5, hx, -, -, hst5⟩ := hp; obtain ⟨rfl, -⟩ := hst5; obtain ⟨⟨u0, u1, u2, u3, u4⟩, -⟩ := c5 hx; clear hx hb hp0))
  have hR1 := HRZ.out
  have hb4s : wb.heap.size <= W4.heap.size := HB4.out.size
  have hbcs : W4.heap.size <= wc.heap.size := HBn.out.size
  have HBc := HBn
  have hx9 : wc.heap[w.heap.size]? = some (.cells z6 28 (0, 0)) := ((HBc.out.block w.heap.size (by omega) (by omega)).trans ((HB4.out.block w.heap.size (by omega)).trans ((HB.out.block w.heap.size (by omega) (by omega)).trans ((HBA.out.block w.heap.size hs1).trans HX1.out))))
  have hbel : Below w.heap.size w wc := by
   have h1 : Below w.heap.size w wa := HB1.out.trans (HBA.out.mono HB1.out.size)
   have h2 : Below w.heap.size w wb := h1.trans (HB.out.below (by omega) (by omega))
   have h3 : Below w.heap.size w W4 := h2.trans (HB4.out.mono (by omega))
   exact h3.trans (HBn.out.below (by omega) (by omega))
  obtain ⟨⟨q0, q1, q2, q3, q4, q5⟩, z0, z1, z2, z3, z4, z5⟩ := c6 hx9
  have HX9 := hid hx9
  have HBEL := hid hbel
  clear hx9 hbel
  have hx7 : wc.heap[wb.heap.size]? = some (.cells #[.int .i64 x.k, .int .i64 x.p, .string x.n, .int .i64 x.s, .slice la' ln lc, .slice ka kn kc] 28 (0, 0)) := (HBn.out.block wb.heap.size (gl HX4.out) (by have := HP0.out.lt; omega)).trans HX4.out
  obtain ⟨⟨d0, d1, d2, d3, d4, d5⟩, -⟩ := c6 hx7
  clear hx7
  have HGC := hid ((HG.out.but (But.of (P := R) HB4.out) HRZ.out.2).but HBn.out HRZ.out.2)
  go_wp2_with fail
  have hx8 := fill6 HX9.out (.int .i64 x.k) (.int .i64 x.p) (.string x.n) (.int .i64 x.s) (.slice la' ln lc) (.slice ka kn kc)
  obtain ⟨⟨y0, y1, y2, y3, y4, y5⟩, -⟩ := c6 hx8
  refine bodyPost_ret (v := .tuple #[.agg #[.int .i64 x.k, .int .i64 x.p, .string x.n, .int .i64 x.s, .slice la' ln lc, .slice ka kn kc], .int .i64 0, .int .i64 0]) (by simp [results, Tryz.results17, go_sem, y0, y1, y2, y3, y4, y5]) rfl ?_
  exact ⟨⟨_, rfl, (HGC.out.put6 (by omega) (.int .i64 x.k) (.int .i64 x.p) (.string x.n) (.int .i64 x.s) (.slice la' ln lc) (.slice ka kn kc)).mono (by omega)⟩, ((((((HBEL.out.setCell (p := ⟨w.heap.size, 0, none⟩) (Nat.le_refl _) _).setCell (p := ⟨w.heap.size, 1, none⟩) (Nat.le_refl _) _).setCell (p := ⟨w.heap.size, 2, none⟩) (Nat.le_refl _) _).setCell (p := ⟨w.heap.size, 3, none⟩) (Nat.le_refl _) _).setCell (p := ⟨w.heap.size, 4, none⟩) (Nat.le_refl _) _).setCell (p := ⟨w.heap.size, 5, none⟩) (Nat.le_refl _) _)⟩
end Go.Proofs.YtejaboajgecpaaaGreatDoor
