/- Parsing: lemmas. -/
import Derived.Test.YtejaboajgecpaaaGreatDoorQn23
import Derived.Maps.OwnSet
import Derived.Maps.OwnOps
set_option maxHeartbeats 16000000
set_option maxRecDepth 100000
namespace Go.Proofs.YtejaboajgecpaaaGreatDoor
open Go.Lib (hid)
open Go.RowKit Go.Deep Go.Shelf
def GPg (b : Nat) (w : World) (g : Pg) (v : Value) : Prop := PgVal (fun k => b <= k /\ k < w.heap.size) w v g
theorem pprog_any (P tb : Nat) (E : Int) (ts : List Tk) (B : Nat) (w : World) (he : Env B w) (hBP : B <= P) (h : PaIs P tb E ts w) (f : Nat) (hf : 2 * ts.length + 2 <= f) :
 Calls Tryz.prog 24 #[.pointer (some ⟨P, 0, none⟩)] w (Parsed P tb E w (pprog nameB f ts) (GPg w.heap.size)) := by
 obtain ⟨W1, hW1⟩ := ex1 (w.alloc (.cells z13 33))
 have hb1 := (made hW1).1
 have x1 := (made hW1).2
 have hs1 : w.heap.size < W1.heap.size := (gl x1)
 have hP : P < w.heap.size := h.lt
 have htb : tb ≠ w.heap.size := Nat.ne_of_lt h.tlt
 have HTB := hid h.tlt
 have HP : Hid (PaIs P tb E ts W1) := hid (h.to hb1)
 have HB : Hid (But P W1 W1) := hid (But.refl _ _)
 have HW1 := hid hW1
 have HB1 := hid hb1
 have HX1 := hid x1
 have HE := hid (he.to hb1)
 have hlen : ts.length <= 1000000 := h.choose_spec.choose_spec.2.2.2.2.1
 have hP1 : P < W1.heap.size := by omega
 have htb1 : tb < W1.heap.size := by have := h.tlt; omega
 clear hW1 hb1 x1 he h
 go_enter Tryz.func24, Tryz.ntmps24
 go_upto_region 1 with fail
 rw [HW1.out]
 go_wp2_with fail
 go_loopw [3] (fun l wr => ∃ (ds : List Df) (rs : List Tk) (vs : List Value) (la : Option Addr) (ln lc g2 : Nat), l = .slice la ln lc /\ Hid (LRow 61 14 W1.heap.size DfVal (fun _ => False) wr (.slice la ln lc) vs ds) /\ Hid (PaIs P tb E rs wr) /\ Hid (But P W1 wr) /\ Hid (pdefs nameB f f ts = (pdefs nameB f g2 rs).bind fun m r => .ok (ds ++ m) r) /\ Hid (rs.length < g2) /\ Hid (ds.length + rs.length <= ts.length)) (fun _ wr => leftW P wr)
 case atStart =>
  refine ⟨[], ts, [], _, _, _, f, rfl, hid (LRow.nil _ _ _ _ _ _), HP, HB, hid ?_, hid (by omega), hid (by simp)⟩
  cases pdefs nameB f f ts <;> rfl
 case round =>
  obtain ⟨ds, rs, vs, la, ln, lc, g2, rfl, HR, HPa, HBo, HEq, HG2, HLn⟩ := hrel
  rename World => V0
  clear HP HB
  have hg2 := HG2.out
  have hln := HLn.out
  obtain ⟨g3, rfl⟩ : ∃ g, g2 = g + 1 := ⟨g2 - 1, by omega⟩
  have HLEFT := hid HPa.out.left
  have hzv := HBo.out.size
  cases ha : hd sDef rs with
  | true =>
   have hrt := hd_tail ha
   cases h2 : pdef nameB f rs.tail with
   | bad er r2 =>
    have e5 : pprog nameB f ts = .bad er r2 := by unfold pprog; rw [HEq.out, pdefs, if_pos ha, h2]; rfl
    go_wp2_with (first | (go_at_call 50; refine (take_yes P tb E _ (by decide +kernel) _ _ (by assumption) HPa.out).mono ?_; rintro en w1 ⟨rfl, hp, hb⟩; have HPw1 := hid hp; have HBw1 := hid (HBo.out.trans hb); clear hp hb) | (go_at_call 51; refine (pdef_any P tb E rs.tail B w1 (HE.out.but HBw1.out hBP) hBP HPw1.out f (by omega)).mono ?_; rw [h2]; rintro en w2 ⟨rfl, hb⟩; have HBw2 := hid (HBw1.out.trans hb); clear hb))
    exact ⟨rfl, by rw [e5]; exact ⟨rfl, (But.of HB1.out).trans HBw2.out⟩⟩
   | ok d r2 =>
    have hl2 := pdef_le f _ _ _ h2
    have e5 : pdefs nameB f f ts = (pdefs nameB f g3 r2).bind fun m r => .ok (ds ++ [d] ++ m) r := by
     rw [HEq.out, pdefs, if_pos ha, h2]
     show PR.bind (PR.bind (pdefs nameB f g3 r2) _) _ = _
     cases pdefs nameB f g3 r2 with
     | bad e r => rfl
     | ok m r => show PR.ok (ds ++ (d :: m)) r = PR.ok (ds ++ [d] ++ m) r; simp
    have HDV := hid (But.refl P V0)
    go_wp2_with (first | (go_at_call 50; refine (take_yes P tb E _ (by decide +kernel) _ _ (by assumption) HPa.out).mono ?_; rintro en w1 ⟨rfl, hp, hb⟩; have HPw1 := hid hp; have HBw1 := hid (HBo.out.trans hb); have HBV := hid (HDV.out.trans hb); clear hp hb) | (go_at_call 51; refine (pdef_any P tb E rs.tail B w1 (HE.out.but HBw1.out hBP) hBP HPw1.out f (by omega)).mono ?_; rw [h2]; rintro en w2 ⟨⟨v, rfl, hg⟩, hp, hb⟩; obtain ⟨ma, mn, mc, qa, qn, qc, aa, an, ac, ta, tn, tc, ua, un, uc, ka, kn, kc, rfl⟩ := DfVal.open hg; have HPw2 := hid hp; have hbw2 := HBw1.out.trans hb; have HG := hid hg; obtain ⟨W3, hW3⟩ := ex1 (w2.alloc (.cells #[.string d.n, .slice ma mn mc, .int .i64 d.b.k, .string d.b.c, .string d.b.x, .slice qa qn qc, .slice aa an ac, .int .i64 d.b.t.k, .int .i64 d.b.t.p, .string d.b.t.n, .int .i64 d.b.t.s, .slice ta tn tc, .slice ua un uc, .slice ka kn kc] 61)); have hb3 : Below w2.heap.size w2 W3 := (by rw [<- hW3]; exact (Below.refl _ _).alloc (Nat.le_refl _) _); have HX3 := hid (show W3.heap[w2.heap.size]? = some (.cells #[.string d.n, .slice ma mn mc, .int .i64 d.b.k, .string d.b.c, .string d.b.x, .slice qa qn qc, .slice aa an ac, .int .i64 d.b.t.k, .int .i64 d.b.t.p, .string d.b.t.n, .int .i64 d.b.t.s, .slice ta tn tc, .slice ua un uc, .slice ka kn kc] 61 (0, 0)) by rw [<- hW3]; exact World.alloc_heap_new _ _); have hz1 : W1.heap.size <= w1.heap.size := HBw1.out.size; have hbv3 : But P V0 W3 := ((HBV.out.trans hb)).to hb3; have HRW := hid (HR.out.frame lyDf (hbv3.o _) hP1 (O' := fun _ => False) (fun _ h => h.elim)); have HV3 : Hid (DfVal (fun k => W1.heap.size <= k /\ k < W3.heap.size /\ ¬ False /\ some k ≠ (Value.slice la ln lc).ownBlock) W3 (.agg #[.string d.n, .slice ma mn mc, .int .i64 d.b.k, .string d.b.c, .string d.b.x, .slice qa qn qc, .slice aa an ac, .int .i64 d.b.t.k, .int .i64 d.b.t.p, .string d.b.t.n, .int .i64 d.b.t.s, .slice ta tn tc, .slice ua un uc, .slice ka kn kc]) d) := hid (lyDf.mono (fun k hk => ⟨by omega, Nat.lt_of_lt_of_le hk.2 hb3.size, fun h => h, fun e => by have := (HR.out.row.lt k e.symm).2; have := HBV.out.size; omega⟩) (lyDf.keep ((But.of (P := P) hb3).keeps (fun k hk => ⟨hk.2, by omega⟩)) HG.out)); have HB3 := hid (hbw2.to hb3); have HP3 := hid (HPw2.out.to hb3); have HW3 := hid hW3; have hbW3 : W1.heap.size <= W3.heap.size := HB3.out.size; clear hb3 hbv3 hW3 hbw2 hp hb hg) | (rw [HW3.out]; at_builtin; refine wpList_appG defElem' rfl _ _ rfl rfl HRW.out.row (some ⟨w2.heap.size, 0, none⟩) 1 1 [[.string d.n, .slice ma mn mc, .int .i64 d.b.k, .string d.b.c, .string d.b.x, .slice qa qn qc, .slice aa an ac, .int .i64 d.b.t.k, .int .i64 d.b.t.p, .string d.b.t.n, .int .i64 d.b.t.s, .slice ta tn tc, .slice ua un uc, .slice ka kn kc]] rfl rfl ?_ (src_at HX3.out) ?_ ?_ hbW3 ?_))
    ·intro e he; rw [List.mem_singleton.1 he]; rfl
    ·intro e he u hu; rw [List.mem_singleton.1 he] at hu; exact lyDf.one HV3.out u hu
    ·rw [List.length_map, List.length_singleton, HRW.out.len]; omega
    intro ga gn gc w3 hr6 hg6 hq6
    have hown : ∀ k, (Value.slice la ln lc).ownBlock = some k -> W1.heap.size <= k := fun k hk => (HRW.out.row.lt k hk).1
    have HR6 := hid (HRW.out.grow lyDf HV3.out hr6 hg6 hq6 (fun _ h => h.elim))
    have HB6 : Hid (But P W1 w3) := hid (((HB3.out.o (fun _ => False)).trans (ButO.grown hg6 P) (fun k hk => .inr (hown k hk.symm))).but (fun _ _ h => h))
    have HP6 := hid (HP3.out.grown hg6 (fun e => by have := hown P e.symm; omega) (fun e => by have := hown tb e.symm; omega))
    clear hr6 hg6 hq6 hown
    go_wp2_with fail
    go_roundw
    case rel => exact ⟨ds ++ [d], r2, vs ++ [.agg #[.string d.n, .slice ma mn mc, .int .i64 d.b.k, .string d.b.c, .string d.b.x, .slice qa qn qc, .slice aa an ac, .int .i64 d.b.t.k, .int .i64 d.b.t.p, .string d.b.t.n, .int .i64 d.b.t.s, .slice ta tn tc, .slice ua un uc, .slice ka kn kc]], _, _, _, g3, rfl, HR6, HP6, HB6, hid e5, hid (by omega), hid (by simp only [List.length_append, List.length_singleton]; omega)⟩
    case measure => rw [HP6.out.left, HLEFT.out]; omega
  | false =>
   have e4 : pdefs nameB f f ts = .ok ds rs := by rw [HEq.out, pdefs, if_neg (by rw [ha]; simp)]; show PR.ok (ds ++ []) rs = _; rw [List.append_nil]
   have e4' : pprog nameB f ts = (need sMain rs).bind fun _ r => (pbodyS (pproc nameB f) r).bind fun m r => .ok ⟨ds, m⟩ r := by unfold pprog; rw [e4]; rfl
   have HE4 := hid e4'
   clear e4 e4'
   have HDV := hid (But.refl P V0)
   cases h2 : need sMain rs with
   | bad er r2 =>
    have e5 : pprog nameB f ts = .bad er r2 := by rw [HE4.out, h2]; rfl
    go_wp2_with (first | (go_at_call 50; refine (take_no P tb E _ (by decide +kernel) _ _ (by assumption) HPa.out).mono ?_; rintro en w1 ⟨rfl, hp, hb⟩; have HPw1 := hid hp; have HBw1 := hid (HBo.out.trans hb); clear hp hb) | (go_at_call 52; refine (expect_any P tb E _ (by decide +kernel) _ _ HPw1.out).mono ?_; rw [h2]; rintro en w2 ⟨rfl, hb⟩; have HBw2 := hid (HBw1.out.trans hb); clear hb))
    exact ⟨rfl, rfl, (But.of HB1.out).trans HBw2.out⟩
   | ok un r2 =>
    have hl2 := need_le h2
    cases h3 : pbodyS (pproc nameB f) r2 with
    | bad er r3 =>
     have e5 : pprog nameB f ts = .bad er r3 := by rw [HE4.out, h2]; show PR.bind (pbodyS (pproc nameB f) r2) _ = _; rw [h3]; rfl
     go_wp2_with (first | (go_at_call 50; refine (take_no P tb E _ (by decide +kernel) _ _ (by assumption) HPa.out).mono ?_; rintro en w1 ⟨rfl, hp, hb⟩; have HPw1 := hid hp; have HBw1 := hid (HBo.out.trans hb); have HBV := hid (HDV.out.trans hb); clear hp hb) | (go_at_call 52; refine (expect_any P tb E _ (by decide +kernel) _ _ HPw1.out).mono ?_; rw [h2]; rintro en w2 ⟨⟨_, rfl, _⟩, hp, hb⟩; have HPw2 := hid hp; have HBw2 := hid (HBw1.out.trans hb); have HBV2 := hid (HBV.out.trans hb); clear hp hb) | (go_at_call 53; refine (pbody_any P tb E _ B _ (HE.out.but HBw2.out hBP) hBP HPw2.out (pproc nameB f) r2.length (Nat.le_refl _) (pproc_ok P tb E B hBP f r2.length (by omega))).mono ?_; rw [h3]; rintro en w3 ⟨rfl, hb⟩; have HBw3 := hid (HBw2.out.trans hb); clear hb))
     exact ⟨rfl, rfl, (But.of HB1.out).trans HBw3.out⟩
    | ok m r3 =>
     have e5 : pprog nameB f ts = .ok ⟨ds, m⟩ r3 := by rw [HE4.out, h2]; show PR.bind (pbodyS (pproc nameB f) r2) _ = _; rw [h3]; rfl
     have HE5 := hid e5
     clear e5
     go_wp2_with (first | (go_at_call 50; refine (take_no P tb E _ (by decide +kernel) _ _ (by assumption) HPa.out).mono ?_; rintro en w1 ⟨rfl, hp, hb⟩; have HPw1 := hid hp; have HBw1 := hid (HBo.out.trans hb); have HBV := hid (HDV.out.trans hb); clear hp hb) | (go_at_call 52; refine (expect_any P tb E _ (by decide +kernel) _ _ HPw1.out).mono ?_; rw [h2]; rintro en w2 ⟨⟨_, rfl, _⟩, hp, hb⟩; have HPw2 := hid hp; have HBw2 := hid (HBw1.out.trans hb); have HBV2 := hid (HBV.out.trans hb); clear hp hb) | (go_at_call 53; refine (pbody_any P tb E _ B _ (HE.out.but HBw2.out hBP) hBP HPw2.out (pproc nameB f) r2.length (Nat.le_refl _) (pproc_ok P tb E B hBP f r2.length (by omega))).mono ?_; rw [h3]; rintro en w3 ⟨⟨v, rfl, hg⟩, hp, hb⟩; obtain ⟨xa, xn, xc, aa, an, ac, ta, tn, tc, ua, un, uc, ka, kn, kc, rfl⟩ := hg.open; have HP := hid hp; have HG := hid (hg.mono (show W1.heap.size <= _ from HBw2.out.size)); have HB := hid (HBw2.out.trans hb); have HBV3 := hid (HBV2.out.trans hb); clear hg hp hb; have hx9 := (HB.out.block w.heap.size hs1 (Nat.ne_of_gt hP)).trans HX1.out; obtain ⟨⟨q0, q1, q2, q3, q4, q5, q6, q7, q8, q9, q10, q11, q12⟩, z0, z1, z2, z3, z4, z5, z6, z7, z8, z9, z10, z11, z12⟩ := c13p hx9; have HX9 := hid hx9; clear hx9))
     have HDS : Hid (DfSl (fun k => W1.heap.size <= k /\ k < w3.heap.size) w3 (.slice la ln lc) ds) := hid (DfSl.mono (fun k hk => ⟨hk.1, hk.2.1⟩) ((HR.out.frame lyDf (HBV3.out.o _) hP1 (O' := fun _ => False) (fun _ h => h.elim)).dfs (by unfold maxLen; omega)))
     have HGP : Hid (GPg W1.heap.size w3 ⟨ds, m⟩ (.agg #[.slice la ln lc, .int .i64 m.k, .string m.c, .string m.x, .slice xa xn xc, .slice aa an ac, .int .i64 m.t.k, .int .i64 m.t.p, .string m.t.n, .int .i64 m.t.s, .slice ta tn tc, .slice ua un uc, .slice ka kn kc])) := hid ⟨_, _, _, _, _, _, rfl, HDS.out, HG.out⟩
     have hx8 := fill13 HX9.out (.slice la ln lc) (.int .i64 m.k) (.string m.c) (.string m.x) (.slice xa xn xc) (.slice aa an ac) (.int .i64 m.t.k) (.int .i64 m.t.p) (.string m.t.n) (.int .i64 m.t.s) (.slice ta tn tc) (.slice ua un uc) (.slice ka kn kc)
     obtain ⟨⟨y0, y1, y2, y3, y4, y5, y6, y7, y8, y9, y10, y11, y12⟩, -⟩ := c13p hx8
     refine bodyPost_ret (v := .agg #[.slice la ln lc, .int .i64 m.k, .string m.c, .string m.x, .slice xa xn xc, .slice aa an ac, .int .i64 m.t.k, .int .i64 m.t.p, .string m.t.n, .int .i64 m.t.s, .slice ta tn tc, .slice ua un uc, .slice ka kn kc]) (by simp [results, Tryz.results24, go_sem, y0, y1, y2, y3, y4, y5, y6, y7, y8, y9, y10, y11, y12]) rfl ?_
     rw [HE5.out]
     exact ⟨⟨_, rfl, PgVal.mono (fun k hk => ⟨Nat.le_trans (Nat.le_of_lt hs1) hk.1, by rw [put13_size]; exact hk.2⟩) (PgVal.keep (keeps13 hs1 (.slice la ln lc) (.int .i64 m.k) (.string m.c) (.string m.x) (.slice xa xn xc) (.slice aa an ac) (.int .i64 m.t.k) (.int .i64 m.t.p) (.string m.t.n) (.int .i64 m.t.s) (.slice ta tn tc) (.slice ua un uc) (.slice ka kn kc)) HGP.out)⟩, HP.out.oth (X := w.heap.size) (fun j hj => put13_oth hj (.slice la ln lc) (.int .i64 m.k) (.string m.c) (.string m.x) (.slice xa xn xc) (.slice aa an ac) (.int .i64 m.t.k) (.int .i64 m.t.p) (.string m.t.n) (.int .i64 m.t.s) (.slice ta tn tc) (.slice ua un uc) (.slice ka kn kc)) (put13_size _ _ (.slice la ln lc) (.int .i64 m.k) (.string m.c) (.string m.x) (.slice xa xn xc) (.slice aa an ac) (.int .i64 m.t.k) (.int .i64 m.t.p) (.string m.t.n) (.int .i64 m.t.s) (.slice ta tn tc) (.slice ua un uc) (.slice ka kn kc)) (Nat.ne_of_gt hP) htb, ((But.of HB1.out).trans HB.out).put13 (Nat.le_refl _) (.slice la ln lc) (.int .i64 m.k) (.string m.c) (.string m.x) (.slice xa xn xc) (.slice aa an ac) (.int .i64 m.t.k) (.int .i64 m.t.p) (.string m.t.n) (.int .i64 m.t.s) (.slice ta tn tc) (.slice ua un uc) (.slice ka kn kc)⟩
end Go.Proofs.YtejaboajgecpaaaGreatDoor
namespace Go.Proofs.YtejaboajgecpaaaGreatDoor
open Go.Lib (hid)
open Go.RowKit Go.Deep Go.Shelf
attribute [local go_sem] Oper.semAt_some
structure Np where
 d : Nat
 b : Nat
 o : Nat
 p : Pr
abbrev npArgs (x : Np) : Array Value := #[.int .i64 x.d, .pointer (some ⟨x.b, x.o, none⟩)]
def Np.g (x : Np) : Nat × Pr := (x.d, x.p)
mutual
def preP (d : Nat) : Pr -> List (Nat × Pr)
 | .mk k c x ls vs t ps => (d, .mk k c x ls vs t ps) :: prePs (d + 1) ps
def prePs (d : Nat) : List Pr -> List (Nat × Pr)
 | [] => []
 | p :: r => preP d p ++ prePs d r
end
theorem preP_eq (d : Nat) (p : Pr) : preP d p = (d, p) :: prePs (d + 1) p.ps := by cases p; simp [preP, Pr.ps]
theorem prePs_append (d : Nat) : ∀ (l r : List Pr), prePs d (l ++ r) = prePs d l ++ prePs d r
 | [], r => by simp [prePs]
 | p :: l, r => by simp only [List.cons_append, prePs, prePs_append d l r, List.append_assoc]
theorem prePs_take {d : Nat} {l : List Pr} {j : Nat} {p : Pr} (h : l[j]? = some p) : prePs d (l.take (j + 1)) = prePs d (l.take j) ++ preP d p := by
 rw [take_snoc_get h, prePs_append]
 simp [prePs]
theorem prePs_prefix (d : Nat) (l : List Pr) (j : Nat) : prePs d (l.take j) <+: prePs d l := by
 conv => rhs; rw [<- List.take_append_drop j l, prePs_append]
 exact List.prefix_append _ _
def Pp (S : Nat -> Prop) (G : Pr -> Prop) (x : Np) (W : World) : Prop := PrAt S W x.p x.b x.o /\ (1 <= x.d /\ x.d <= 100000) /\ G x.p
theorem Pp.kept {S : Nat -> Prop} {G : Pr -> Prop} {x : Np} {W W' : World} (h : CellsKept W W') (hp : Pp S G x W) : Pp S G x W' := ⟨hp.1.keep (h.keeps S), hp.2⟩
def PisPost (X : Nat -> Prop) (J Jx : List Np -> World -> Prop) (pre : List Np) (d : Nat) (p : Pr) (W : World) (e : Ending) (W' : World) : Prop :=
 (e = .returned (.bool true) /\ (∃ ys, ys.map Np.g = preP d p /\ J (pre ++ ys) W') /\ Kp X W W') \/
 (e = .returned (.bool false) /\ ∃ ys, ys.map Np.g <+: preP d p /\ Jx (pre ++ ys) W')
theorem pvisit_in (G : Pr -> Prop) (hG : ∀ p, G p -> ∀ u ∈ p.ps, G u) (F : Fence) (hd : F.depth = none) (hF : ∀ f, F.fn f) (hro : F.round = none) (l : Nat) (S X : Nat -> Prop) (hX : ∀ k, X k -> ¬ S k) (J Jx : List Np -> World -> Prop)
 (hY : ∀ m pre x W, J pre W -> Pp S G x W -> YieldAt F m Tryz.prog l (npArgs x) W fun e W' => (e = .returned (.bool true) /\ J (pre ++ [x]) W' /\ Kp X W W') \/ (e = .returned (.bool false) /\ Jx (pre ++ [x]) W')) :
 ∀ (p : Pr) (n d b o : Nat) (pre : List Np) (W : World), J pre W -> PrAt S W p b o -> d + p.depth <= 100000 -> 1 <= d -> G p ->
  CallsIn F n Tryz.prog 136 #[.int .i64 d, .pointer (some ⟨b, o, none⟩), .func (.yield l) #[] #[]] W (PisPost X J Jx pre d p W) := by
 refine Pr.ind ?_
 intro k c x ls vs t ps ih n d b o pre W hj hpr hdep hd1 hg0
 obtain ⟨p, hp0⟩ := ex1 (Pr.mk k c x ls vs t ps)
 have hps : ps = p.ps := by rw [<- hp0]; rfl
 rw [hp0] at hpr hdep hg0 |-
 have hdd : ∀ k : Nat, (F.depth.isSome = true -> 1 <= k) := fun k h => by rw [hd] at h; cases h
 have hpos := p.depth_pos
 obtain ⟨fn, tmps, assign, body, hy, hR⟩ := hY (n - 1) pre ⟨d, b, o, p⟩ W hj ⟨hpr, ⟨hd1, by show d <= _; omega⟩, hg0⟩
 simp only [npArgs] at hy
 have HR := hid hR
 have HGK := hid (hG p hg0)
 have HPR := hid hpr
 have HPS := hid hps
 have HIH := hid ih
 clear hR hg0 hpr hps hp0 hj ih
 refine callsIn_of_wp Tryz.func136 rfl (hF _) ?_ hro
 simp only [Tryz.ntmps136, List.size_toArray, List.length_cons, List.length_nil, Nat.reduceAdd, Nat.reduceSub, Array.replicate_succ, Array.replicate_zero, List.push_toArray, List.append_toArray, List.nil_append, List.cons_append]
 gi_wp2_with fail
 refine HR.out.mono ?_
 rintro e W2 (⟨rfl, hj2, hk2⟩ | ⟨rfl, hx2⟩)
 ·have hkS : Keeps S W W2 := hk2.keeps (fun k hk => ⟨fun hx => hX k hx hk, by simp [Value.ownBlock]⟩)
  obtain ⟨la, ln, lc, aa, an, ac, ta, tn, tc, ua, un, uc, ka, kn, kc, ⟨_, _, _, _, _, _, _, _, _, _, _, c11⟩, hval⟩ := (HPR.out.keep hkS).load'
  obtain ⟨_, _, _, _, _, e, _, _, _, _, hks⟩ := hval
  simp only [prAgg, Value.agg.injEq, Array.mk.injEq, List.cons.injEq, and_true, true_and] at e
  obtain ⟨rfl, rfl, rfl, rfl, rfl⟩ := e
  obtain ⟨ka', kn', kc', he, hlen, hmx, hget⟩ := hks.open
  simp only [Value.slice.injEq] at he
  obtain ⟨rfl, rfl, rfl⟩ := he
  have hSb : S b := (PrAt.eq.1 HPR.out).1
  have HG := hid hget
  have HC := hid c11
  have HJ2 := hid hj2
  have HK2 := hid hk2
  clear hget hj2 hk2 hkS hks hy
  gi_wp2_with fail
  gi_loopw [18] (fun i wr => ∃ (j : Nat) (ys : List Np), i = .int .i64 j /\ j <= kn /\ Hid (ys.map Np.g = prePs (d + 1) (p.ps.take j)) /\ Hid (J (pre ++ [⟨d, b, o, p⟩] ++ ys) wr) /\ Hid (Kp X W2 wr)) (fun i _ => kn - (intOf i).toNat)
  case atStart => exact ⟨0, [], rfl, by omega, hid (by simp [prePs]), hid (by rw [List.append_nil]; exact HJ2.out), hid (KV.refl _ _ _)⟩
  case round =>
   obtain ⟨j, ys, rfl, hj, HYS, HJJ, HKV⟩ := hrel
   by_cases hlt : j < kn
   ·obtain ⟨u, hu⟩ : ∃ u, p.ps[j]? = some u := ⟨_, List.getElem?_eq_getElem (by rw [<- hlen.out]; exact hlt)⟩
    obtain ⟨kb, ko, rfl, hkb, hu'⟩ := HG.out j u hu
    have hkS : Keeps S W2 wr := HKV.out.keeps (fun k hk => ⟨fun hx => hX k hx hk, by simp [Value.ownBlock]⟩)
    have c11 := hkS.cell hSb HC.out
    have hmem : u ∈ ps := by rw [HPS.out]; exact List.mem_of_getElem? hu
    have hdu : u.depth + 1 <= p.depth := by rw [p.depth_eq]; have := Pr.depth_mem (List.mem_of_getElem? hu); omega
    have IH := hid (fun n' => HIH.out u hmem n' (d + 1) kb (ko + j * 12) (pre ++ [⟨d, b, o, p⟩] ++ ys) wr HJJ.out (hu'.keep hkS) (by omega) (by omega) (HGK.out u (List.mem_of_getElem? hu)))
    have hcast : (((d + 1 : Nat)) : Int) = (d : Int) + 1 := by omega
    rw [hcast] at IH
    have HPT := hid (prePs_take (d := d + 1) hu)
    have HPP := hid (prePs_prefix (d + 1) p.ps (j + 1))
    clear hu hu' hkS hmem hdu hcast
    gi_wp2_with fail
    refine (IH.out _).mono ?_
    rintro e w4 (⟨rfl, ⟨zs, hz1, hz2⟩, hkv⟩ | ⟨rfl, zs, hz1, hz2⟩)
    ·have hys : Hid ((ys ++ zs).map Np.g = prePs (d + 1) (p.ps.take (j + 1))) := hid (by rw [List.map_append, HYS.out, hz1, HPT.out])
     have hjj : Hid (J (pre ++ [⟨d, b, o, p⟩] ++ (ys ++ zs)) w4) := hid (by rw [<- List.append_assoc]; exact hz2)
     have hkk := hid (HKV.out.trans hkv)
     clear hz1 hz2 hkv
     gi_wp2_with fail
     exact ⟨⟨j + 1, ys ++ zs, by go_num, by omega, hys, hjj, hkk⟩, by simp [intOf]; omega⟩
    ·have hq : ∃ q, q.map Np.g <+: preP d p /\ Jx (pre ++ q) w4 := by
      refine ⟨[⟨d, b, o, p⟩] ++ (ys ++ zs), ?_, by simpa [List.append_assoc] using hz2⟩
      rw [preP_eq, List.map_append, List.map_append, HYS.out]
      refine (List.prefix_cons_inj _).2 ((List.IsPrefix.trans ?_ HPP.out))
      rw [HPT.out]
      refine (List.prefix_append_right_inj _).2 ?_
      simpa using hz1
     have HQ := hid hq
     clear hz1 hz2 hq
     gi_wp2
     go_ret
     exact .inr ⟨rfl, HQ.out⟩
   ·obtain rfl : j = kn := by omega
    have hq : ∃ q, q.map Np.g = preP d p /\ J (pre ++ q) wr := by
     refine ⟨[⟨d, b, o, p⟩] ++ ys, ?_, by simpa [List.append_assoc] using HJJ.out⟩
     rw [preP_eq, List.map_append, HYS.out, List.take_of_length_le (by rw [hlen.out]; exact Nat.le_refl _)]
     rfl
    have HQ := hid hq
    clear hq
    gi_wp2
    go_ret
    exact .inl ⟨rfl, HQ.out, HK2.out.trans HKV.out⟩
 ·gi_wp2
  go_ret
  exact .inr ⟨rfl, [_], by rw [preP_eq]; exact ⟨prePs (d + 1) p.ps, rfl⟩, hx2⟩
theorem pnodes_any (a : Option Addr) (w : World) :
 Calls Tryz.prog 114 #[.pointer a] w fun e w' => e = .returned (.func (.func 135) #[] #[.pointer (some ⟨w.heap.size, 0, none⟩)]) /\ w' = w.alloc (.cells #[.pointer a] 147) := by
 go_enter Tryz.func114, Tryz.ntmps114
 go_wp2
 go_ret
 exact ⟨rfl, rfl⟩
theorem pnodes_tells (G : Pr -> Prop) (hG : ∀ p, G p -> ∀ u ∈ p.ps, G u) (n : Nat) (Bt b o : Nat) (p : Pr) (S X : Nat -> Prop) (w : World) (hX : ∀ k, X k -> ¬ S k) (hS : ∀ k, S k -> k < w.heap.size) (hBt : Bt < w.heap.size) (hc : w.cell? ⟨Bt, 0, none⟩ = some (.pointer (some ⟨b, o, none⟩))) (hpr : PrAt S w p b o) (hdep : p.depth <= 99999) (hg : G p) :
 Tells Fence.wide n Tryz.prog 135 #[.pointer (some ⟨Bt, 0, none⟩)] npArgs (Pp S G) (Kp X) (fun ys => ys.map Np.g = preP 1 p) (fun pre => pre.map Np.g <+: preP 1 p) w := by
 intro l J Jx W hW hJ _ hY h0
 have hp := pvisit_in G hG Fence.wide rfl (fun _ => trivial) rfl l S X hX J Jx (fun m pre x W1 hj hpx => yield_any rfl m (hY pre x W1 hj hpx)) p (n - 1) 1 b o [] W h0 (hpr.keep (hW.keeps'.mono hS)) (by omega) (by omega) hg
 have hc' := (hW.cell (p := ⟨Bt, 0, none⟩) hBt).trans hc
 have HP := hid hp
 clear hp hY h0 hJ
 refine callsIn_of_wp Tryz.func135 rfl trivial ?_ rfl
 simp only [Tryz.ntmps135, List.size_toArray, List.length_cons, List.length_nil, Nat.reduceAdd, Nat.reduceSub, Array.replicate_succ, Array.replicate_zero, List.push_toArray, List.append_toArray, List.nil_append, List.cons_append]
 gi_wp2_with fail
 refine ⟨trivial, ⟨fun h => (by cases h), ?_⟩⟩
 refine HP.out.mono ?_
 rintro e W1 (⟨rfl, ⟨ys, h1, h2⟩, _⟩ | ⟨rfl, ys, h1, h2⟩)
 ·have H1 := hid h1
  have H2 := hid h2
  clear h1 h2
  gi_wp2
  go_end0
  exact ⟨⟨_, rfl⟩, .inl ⟨ys, H1.out, by simpa using H2.out⟩⟩
 ·have H1 := hid h1
  have H2 := hid h2
  clear h1 h2
  gi_wp2
  go_end0
  exact ⟨⟨_, rfl⟩, .inr ⟨ys, H1.out, by simpa using H2.out⟩⟩
end Go.Proofs.YtejaboajgecpaaaGreatDoor
namespace Go.Proofs.YtejaboajgecpaaaGreatDoor
open Go.RowKit Go.Deep Go.Shelf
attribute [local go_sem] Oper.semAt_some
abbrev cell12 (p : Pr) (lv av tl tk kv : Value) : Obj := .cells #[.int .i64 p.k, .string p.c, .string p.x, lv, av, .int .i64 p.t.k, .int .i64 p.t.p, .string p.t.n, .int .i64 p.t.s, tl, tk, kv] 31
end Go.Proofs.YtejaboajgecpaaaGreatDoor
namespace Go.Proofs.YtejaboajgecpaaaGreatDoor
open Go.RowKit Go.Deep Go.Shelf
attribute [local go_sem] Oper.semAt_some
end Go.Proofs.YtejaboajgecpaaaGreatDoor
namespace Go.Proofs.YtejaboajgecpaaaGreatDoor
open Go.RowKit
noncomputable def eqV (vs vs' : List Vl) : Bool := @decide (vs = vs') (Classical.propDecidable _)
theorem eqV_true {t u : List Vl} : eqV t u = true ↔ t = u := by unfold eqV; simp
theorem eqV_ne {t u : List Vl} (h : t ≠ u) : eqV t u = false := by
 cases e : eqV t u with
 | false => rfl
 | true => exact absurd (eqV_true.1 e) h
def In64 (k : Int) : Prop := -9223372036854775808 <= k /\ k <= 9223372036854775807
end Go.Proofs.YtejaboajgecpaaaGreatDoor
namespace Go.Proofs.YtejaboajgecpaaaGreatDoor
open Go.RowKit Go.Deep Go.Shelf
attribute [local go_sem] Oper.semAt_some
end Go.Proofs.YtejaboajgecpaaaGreatDoor
namespace Go.Proofs.YtejaboajgecpaaaGreatDoor
open Go.RowKit Go.Deep Go.Shelf
attribute [local go_sem] Oper.semAt_some
end Go.Proofs.YtejaboajgecpaaaGreatDoor
namespace Go.Proofs.YtejaboajgecpaaaGreatDoor
open Go.RowKit
end Go.Proofs.YtejaboajgecpaaaGreatDoor
namespace Go.Proofs.YtejaboajgecpaaaGreatDoor
open Go.RowKit Go.Deep Go.Shelf
attribute [local go_sem] Oper.semAt_some
mutual
def Ty.fine : Ty -> Prop
 | .mk k _ _ _ _ ts => In64 k /\ Ty.fines ts
def Ty.fines : List Ty -> Prop
 | [] => True
 | t :: r => t.fine /\ Ty.fines r
end
theorem keepsOthers_below {A B : World} (h : Below A.heap.size A B) : KeepsOthers A B := ⟨h.size, fun k _ hk _ => (h.block k (Array.getElem?_eq_some_iff.1 hk).1).trans hk⟩
end Go.Proofs.YtejaboajgecpaaaGreatDoor
namespace Go.Proofs.YtejaboajgecpaaaGreatDoor
open Go.RowKit Go.Deep Go.Shelf
def e0 : ByteArray := ⟨#[]⟩
end Go.Proofs.YtejaboajgecpaaaGreatDoor
namespace Go.Proofs.YtejaboajgecpaaaGreatDoor
open Go.RowKit
end Go.Proofs.YtejaboajgecpaaaGreatDoor
namespace Go.Proofs.YtejaboajgecpaaaGreatDoor
open Go.RowKit Go.Deep Go.Shelf
end Go.Proofs.YtejaboajgecpaaaGreatDoor
namespace Go.Proofs.YtejaboajgecpaaaGreatDoor
open Go.Lib (hid)
open Go.RowKit Go.Deep Go.Shelf
def Pr.adds (p : Pr) : Nat := if p.k = 6 then 1 + p.t.size else 1
theorem nodesAt_any (S : Nat -> Prop) (p : Pr) (b o : Nat) (w : World) (hS : Low S w) (hsz : p.t.size <= 1000000) (hdep : p.t.depth <= 1000) (hp : PrAt S w p b o) :
 Calls Tryz.prog 115 #[.pointer (some ⟨b, o, none⟩)] w fun e w' => e = .returned (.int .i64 p.adds) /\ Below w.heap.size w w' := by
 obtain ⟨hSb, _, ⟨c0, _, _⟩, hty, _⟩ := PrAt.eq.1 hp
 obtain ⟨la, ln, lc, ka, kn, kc, ⟨d0, d1, d2, d3, d4, d5⟩, hv⟩ := hty.load'
 have HT := hid (tsize_any S p.t hsz hdep _ w hS hv)
 unfold Pr.adds
 obtain ⟨k, hk⟩ := ex1 (p.k)
 obtain ⟨q, hq⟩ := ex1 (p.t.size)
 rw [hq] at HT hsz |-
 rw [hk] at c0 |-
 clear hty hv hp hk hq hdep
 by_cases h6 : k = 6
 ·subst h6
  rw [if_pos rfl]
  go_enter Tryz.func115, Tryz.ntmps115
  go_wp2_with (go_at_call 70; refine HT.out.mono ?_; rintro e w2 ⟨rfl, hb2⟩)
  go_ret
  exact ⟨ret_int (by simp), hb2⟩
 ·have h6' : (k == 6) = false := by simpa using h6
  rw [if_neg h6]
  clear h6
  go_enter Tryz.func115, Tryz.ntmps115
  go_wp2_with fail
  go_ret
  exact ⟨rfl, Below.refl _ _⟩
end Go.Proofs.YtejaboajgecpaaaGreatDoor
namespace Go.Proofs.YtejaboajgecpaaaGreatDoor
open Go.RowKit Go.Deep Go.Shelf
noncomputable def eqP (p q : Pr) : Bool := @decide (p = q) (Classical.propDecidable _)
theorem eqP_true {p q : Pr} : eqP p q = true ↔ p = q := by unfold eqP; simp
theorem eqP_self (p : Pr) : eqP p p = true := eqP_true.2 rfl
theorem eqP_ne {p q : Pr} (h : p ≠ q) : eqP p q = false := by
 cases e : eqP p q with
 | false => rfl
 | true => exact absurd (eqP_true.1 e) h
noncomputable def eqQ (p q : List Pr) : Bool := @decide (p = q) (Classical.propDecidable _)
theorem eqQ_true {p q : List Pr} : eqQ p q = true ↔ p = q := by unfold eqQ; simp
theorem eqQ_ne {p q : List Pr} (h : p ≠ q) : eqQ p q = false := by
 cases e : eqQ p q with
 | false => rfl
 | true => exact absurd (eqQ_true.1 e) h
end Go.Proofs.YtejaboajgecpaaaGreatDoor
namespace Go.Proofs.YtejaboajgecpaaaGreatDoor
open Go.RowKit
end Go.Proofs.YtejaboajgecpaaaGreatDoor
namespace Go.Proofs.YtejaboajgecpaaaGreatDoor
open Go.RowKit Go.Deep Go.Shelf
end Go.Proofs.YtejaboajgecpaaaGreatDoor
namespace Go.Proofs.YtejaboajgecpaaaGreatDoor
open Go.RowKit Go.Deep
mutual
def Pr.fine : Pr -> Prop
 | .mk k _ _ _ _ t ps => In64 k /\ t.fine /\ Pr.fines ps
def Pr.fines : List Pr -> Prop
 | [] => True
 | p :: r => p.fine /\ Pr.fines r
end
theorem Pr.fines_mem : ∀ {l : List Pr}, Pr.fines l -> ∀ u ∈ l, u.fine
 | [], _, _, hu => by cases hu
 | t :: r, h, u, hu => by
  rcases List.mem_cons.1 hu with rfl | hu
  ·exact h.1
  ·exact Pr.fines_mem h.2 u hu
theorem Pr.fine_ps {p : Pr} (h : p.fine) : ∀ u ∈ p.ps, u.fine := by cases p; exact Pr.fines_mem h.2.2
end Go.Proofs.YtejaboajgecpaaaGreatDoor
namespace Go.Proofs.YtejaboajgecpaaaGreatDoor
open Go.RowKit
theorem slices_of {B : Nat -> Prop} {w : World} {t : Ty} {k p s : Int} {n : ByteArray} {tl tk : Value} (h : TyVal B w (.agg #[.int .i64 k, .int .i64 p, .string n, .int .i64 s, tl, tk]) t) : (∃ (a : Option Addr) (n c : Nat), tl = .slice a n c) /\ ∃ (a : Option Addr) (n c : Nat), tk = .slice a n c := by
 obtain ⟨lv', kv', e, _, hl, hk2⟩ := h
 simp only [Value.agg.injEq, Array.mk.injEq, List.cons.injEq, and_true] at e
 obtain ⟨_, _, _, _, rfl, rfl⟩ := e
 obtain ⟨a, n, c, e, _⟩ := hl.open
 obtain ⟨a', n', c', e', _⟩ := hk2.open
 exact ⟨⟨a, n, c, e⟩, a', n', c', e'⟩
mutual
def Pr.typ : Pr -> Nat
 | .mk k _ _ _ _ t ps => (if k = 6 then t.size else 0) + Pr.typs ps
def Pr.typs : List Pr -> Nat
 | [] => 0
 | p :: r => p.typ + Pr.typs r
end
def Pr.typ0 (p : Pr) : Nat := if p.k = 6 then p.t.size else 0
theorem Pr.typ_eq (p : Pr) : p.typ = p.typ0 + Pr.typs p.ps := by
 cases p
 rename_i k _ _ _ _ _ _
 by_cases h : k = 6 <;> simp [Pr.typ, Pr.ps, Pr.typ0, Pr.k, Pr.t, h]
mutual
def Pr.tf : Pr -> Prop
 | .mk _ _ _ _ _ t ps => (t.size <= 100000 /\ t.depth <= 1000) /\ Pr.tfs ps
def Pr.tfs : List Pr -> Prop
 | [] => True
 | p :: r => p.tf /\ Pr.tfs r
end
theorem Pr.tf_t {p : Pr} (h : p.tf) : (p.t.size <= 100000 /\ p.t.depth <= 1000) := by cases p; exact h.1
theorem Pr.tfs_mem : ∀ {l : List Pr}, Pr.tfs l -> ∀ u ∈ l, u.tf
 | [], _, _, hu => by cases hu
 | t :: r, h, u, hu => by
  rcases List.mem_cons.1 hu with rfl | hu
  ·exact h.1
  ·exact Pr.tfs_mem h.2 u hu
theorem Pr.tf_ps {p : Pr} (h : p.tf) : ∀ u ∈ p.ps, u.tf := by cases p; exact Pr.tfs_mem h.2
theorem Pr.tf_size {p : Pr} (h : p.tf) : p.t.size <= 100000 := (Pr.tf_t h).1
theorem Pr.tf_depth {p : Pr} (h : p.tf) : p.t.depth <= 1000 := (Pr.tf_t h).2
end Go.Proofs.YtejaboajgecpaaaGreatDoor
