/- Parsing: lemmas. -/
import Derived.Test.YtejaboajgecpaaaGreatDoorQn21
set_option maxHeartbeats 16000000
set_option maxRecDepth 100000
namespace Go.Proofs.YtejaboajgecpaaaGreatDoor
open Go.Lib (hid)
open Go.RowKit Go.Deep Go.Shelf
theorem pprocess_any (P tb : Nat) (E : Int) (ts : List Tk) (B : Nat) (w : World) (he : Env B w) (_ : B <= P) (h : PaIs P tb E ts w) (f : Nat) (hPt : PartsAt P tb E B f ts) :
 Calls Tryz.prog 31 #[.pointer (some ⟨P, 0, none⟩)] w (Parsed P tb E w (pproc nameB f ts) (GPr w.heap.size)) := by
 obtain ⟨W1, hW1⟩ := ex1 (w.alloc (.cells z12 31))
 have hb1 := (made hW1).1
 have x1 := (made hW1).2
 have hs1 : w.heap.size < W1.heap.size := (gl x1)
 have hP : P < w.heap.size := h.lt
 have htb : tb ≠ w.heap.size := Nat.ne_of_lt h.tlt
 have HTB := hid h.tlt
 have HP : Hid (PaIs P tb E ts W1) := hid (h.to hb1)
 have HB : Hid (But P W1 W1) := hid (But.refl _ _)
 have HW1 := hid hW1
 have HB1 := hid hb1
 have HX1 := hid x1
 have HE := hid (he.to hb1)
 clear hW1 hb1 x1 he h
 unfold pproc
 have HPT := hid hPt
 have hlen : ts.length <= 1000000 := HP.out.choose_spec.choose_spec.2.2.2.2.1
 clear hPt
 cases h1 : pparts nameB f true ts with
 | bad er r =>
  show Calls _ _ _ _ (Parsed P tb E w (PR.bad er r) _)
  go_enter Tryz.func31, Tryz.ntmps31
  go_upto_region 1 with fail
  rw [HW1.out]
  go_wp2_with (first | (go_at_call 65; refine (HPT.out W1.heap.size (.slice none 0 0) [] [] W1 (by omega) (by have := HTB.out; omega) (Nat.le_refl _) (by simpa using hlen) HE.out HP.out (LRow.nil _ _ _ _ _ _)).mono ?_; rw [h1]; rintro en wn ⟨rfl, hb⟩; replace HB := hid (HB.out.trans (hb.but (fun k _ e => by cases e))); clear hb))
  exact ⟨rfl, rfl, (But.of HB1.out).trans HB.out⟩
 | ok ys r =>
  show Calls _ _ _ _ (Parsed P tb E w (PR.ok (parOf ys) r) _)
  by_cases hone : ys.length = 1
  ·obtain ⟨p, rfl⟩ : ∃ p, ys = [p] := by
    match ys, hone with
    | [p], _ => exact ⟨p, rfl⟩
   show Calls _ _ _ _ (Parsed P tb E w (PR.ok p r) _)
   go_enter Tryz.func31, Tryz.ntmps31
   go_upto_region 1 with fail
   rw [HW1.out]
   go_wp2_with (first | (go_at_call 65; refine (HPT.out W1.heap.size (.slice none 0 0) [] [] W1 (by omega) (by have := HTB.out; omega) (Nat.le_refl _) (by simpa using hlen) HE.out HP.out (LRow.nil _ _ _ _ _ _)).mono ?_; rw [h1]; rintro en wn ⟨⟨l', vs', rfl, hr, -⟩, hp, hb⟩; rw [List.nil_append] at hr; obtain ⟨g, cap, rfl, hg1, hg2, hg3⟩ : ∃ g cap, l' = .slice (some ⟨g, 0, none⟩) 1 cap /\ W1.heap.size <= g /\ g < wn.heap.size /\ 1 <= cap := hr.parts.resolve_left (fun h => by cases h.2); obtain ⟨u, hu, hv⟩ := hr.at (j := 0) (x := p) rfl; have hc := (fun i z (hz : (cl u)[i]? = some z) => hr.cells rfl hu (i := i) (z := z) hz); obtain ⟨qa, qn, qc, aa, an, ac, ta, tn, tc, ua, un, uc, ka, kn, kc, rfl⟩ := PrVal.open hv; have HG : Hid (GPr W1.heap.size wn p _) := hid (PrVal.mono (fun k hk => ⟨hk.1, hk.2.1⟩) hv); have d0 := hc 0 _ rfl; have d1 := hc 1 _ rfl; have d2 := hc 2 _ rfl; have d3 := hc 3 _ rfl; have d4 := hc 4 _ rfl; have d5 := hc 5 _ rfl; have d6 := hc 6 _ rfl; have d7 := hc 7 _ rfl; have d8 := hc 8 _ rfl; have d9 := hc 9 _ rfl; have d10 := hc 10 _ rfl; have d11 := hc 11 _ rfl; simp only [Nat.zero_mul, Nat.zero_add] at d0 d1 d2 d3 d4 d5 d6 d7 d8 d9 d10 d11; clear hc hu hv hr; replace HP := hid hp; replace HB := hid (HB.out.trans (hb.but (fun k _ e => by cases e))); clear hp hb; have hx9 := (HB.out.block w.heap.size hs1 (Nat.ne_of_gt hP)).trans HX1.out; obtain ⟨⟨q0, q1, q2, q3, q4, q5, q6, q7, q8, q9, q10, q11⟩, z0, z1, z2, z3, z4, z5, z6, z7, z8, z9, z10, z11⟩ := c12p hx9; have HX9 := hid hx9; clear hx9))
   have hx8 := fill12 HX9.out (.int .i64 p.k) (.string p.c) (.string p.x) (.slice qa qn qc) (.slice aa an ac) (.int .i64 p.t.k) (.int .i64 p.t.p) (.string p.t.n) (.int .i64 p.t.s) (.slice ta tn tc) (.slice ua un uc) (.slice ka kn kc)
   obtain ⟨⟨y0, y1, y2, y3, y4, y5, y6, y7, y8, y9, y10, y11⟩, -⟩ := c12p hx8
   refine bodyPost_ret (v := .agg #[.int .i64 p.k, .string p.c, .string p.x, .slice qa qn qc, .slice aa an ac, .int .i64 p.t.k, .int .i64 p.t.p, .string p.t.n, .int .i64 p.t.s, .slice ta tn tc, .slice ua un uc, .slice ka kn kc]) (by simp [results, Tryz.results31, go_sem, y0, y1, y2, y3, y4, y5, y6, y7, y8, y9, y10, y11]) rfl ?_
   exact ⟨⟨_, rfl, (HG.out.put12 hs1 (.int .i64 p.k) (.string p.c) (.string p.x) (.slice qa qn qc) (.slice aa an ac) (.int .i64 p.t.k) (.int .i64 p.t.p) (.string p.t.n) (.int .i64 p.t.s) (.slice ta tn tc) (.slice ua un uc) (.slice ka kn kc)).mono (Nat.le_of_lt hs1)⟩, HP.out.oth (X := w.heap.size) (fun j hj => put12_oth hj (.int .i64 p.k) (.string p.c) (.string p.x) (.slice qa qn qc) (.slice aa an ac) (.int .i64 p.t.k) (.int .i64 p.t.p) (.string p.t.n) (.int .i64 p.t.s) (.slice ta tn tc) (.slice ua un uc) (.slice ka kn kc)) (put12_size _ _ (.int .i64 p.k) (.string p.c) (.string p.x) (.slice qa qn qc) (.slice aa an ac) (.int .i64 p.t.k) (.int .i64 p.t.p) (.string p.t.n) (.int .i64 p.t.s) (.slice ta tn tc) (.slice ua un uc) (.slice ka kn kc)) (Nat.ne_of_gt hP) htb, ((But.of HB1.out).trans HB.out).put12 (Nat.le_refl _) (.int .i64 p.k) (.string p.c) (.string p.x) (.slice qa qn qc) (.slice aa an ac) (.int .i64 p.t.k) (.int .i64 p.t.p) (.string p.t.n) (.int .i64 p.t.s) (.slice ta tn tc) (.slice ua un uc) (.slice ka kn kc)⟩
  ·have hpar : parOf ys = .mk 7 ⟨#[]⟩ ⟨#[]⟩ [] [] zT ys := by
    match ys, hone with
    | [], _ => rfl
    | [p], h => exact absurd rfl h
    | _ :: _ :: _, _ => rfl
   rw [hpar]
   go_enter Tryz.func31, Tryz.ntmps31
   go_upto_region 1 with fail
   rw [HW1.out]
   go_wp2_with (first | (go_at_call 65; refine (HPT.out W1.heap.size (.slice none 0 0) [] [] W1 (by omega) (by have := HTB.out; omega) (Nat.le_refl _) (by simpa using hlen) HE.out HP.out (LRow.nil _ _ _ _ _ _)).mono ?_; rw [h1]; rintro en wn ⟨⟨l', vs', rfl, hr, -⟩, hp, hb⟩; rw [List.nil_append] at hr; obtain ⟨ka, kn, kc, rfl⟩ := hr.row.slice; have hkn : kn = ys.length := (by obtain ⟨_, _, _, e, h, _⟩ := hr.row.src; simp only [Value.slice.injEq] at e; rw [e.2.1, h, List.length_map, hr.len]); have hk1 : ((kn : Int) == 1) = false := (by simp; omega); have hk2 : decide ((kn : Int) = 1) = false := (by simp; omega); have hk3 : decide (kn = 1) = false := (by simp; omega); have HK : Hid (PrSl (fun k => W1.heap.size <= k /\ k < wn.heap.size) wn (.slice ka kn kc) ys) := hid (PrSl.mono (fun k hk => ⟨hk.1, hk.2.1⟩) (hr.prs (by have := (pparts_len _ _ _ _ _ h1).2; unfold maxLen; omega))); clear hr hkn; replace HP := hid hp; replace HB := hid (HB.out.trans (hb.but (fun k _ e => by cases e))); clear hp hb; have hx9 := (HB.out.block w.heap.size hs1 (Nat.ne_of_gt hP)).trans HX1.out; obtain ⟨⟨q0, q1, q2, q3, q4, q5, q6, q7, q8, q9, q10, q11⟩, z0, z1, z2, z3, z4, z5, z6, z7, z8, z9, z10, z11⟩ := c12p hx9; have HX9 := hid hx9; clear hx9))
   have hg5 : GPr W1.heap.size wn (.mk 7 ⟨#[]⟩ ⟨#[]⟩ [] [] zT ys) (.agg #[.int .i64 7, .string ⟨#[]⟩, .string ⟨#[]⟩, .slice none 0 0, .slice none 0 0, .int .i64 0, .int .i64 0, .string ⟨#[]⟩, .int .i64 0, .slice none 0 0, .slice none 0 0, .slice ka kn kc]) := GPr.node (t := zT) (Nat.zero_le _) (Nat.zero_le _) (strs_nil _ _) (vls_nil _ _) (zT_at _ _) HK.out
   have hx8 := fill12 HX9.out (.int .i64 7) (.string ⟨#[]⟩) (.string ⟨#[]⟩) (.slice none 0 0) (.slice none 0 0) (.int .i64 0) (.int .i64 0) (.string ⟨#[]⟩) (.int .i64 0) (.slice none 0 0) (.slice none 0 0) (.slice ka kn kc)
   obtain ⟨⟨y0, y1, y2, y3, y4, y5, y6, y7, y8, y9, y10, y11⟩, -⟩ := c12p hx8
   refine bodyPost_ret (v := .agg #[.int .i64 7, .string ⟨#[]⟩, .string ⟨#[]⟩, .slice none 0 0, .slice none 0 0, .int .i64 0, .int .i64 0, .string ⟨#[]⟩, .int .i64 0, .slice none 0 0, .slice none 0 0, .slice ka kn kc]) (by simp [results, Tryz.results31, go_sem, y0, y1, y2, y3, y4, y5, y6, y7, y8, y9, y10, y11]) rfl ?_
   exact ⟨⟨_, rfl, (hg5.put12 hs1 (.int .i64 7) (.string ⟨#[]⟩) (.string ⟨#[]⟩) (.slice none 0 0) (.slice none 0 0) (.int .i64 0) (.int .i64 0) (.string ⟨#[]⟩) (.int .i64 0) (.slice none 0 0) (.slice none 0 0) (.slice ka kn kc)).mono (Nat.le_of_lt hs1)⟩, HP.out.oth (X := w.heap.size) (fun j hj => put12_oth hj (.int .i64 7) (.string ⟨#[]⟩) (.string ⟨#[]⟩) (.slice none 0 0) (.slice none 0 0) (.int .i64 0) (.int .i64 0) (.string ⟨#[]⟩) (.int .i64 0) (.slice none 0 0) (.slice none 0 0) (.slice ka kn kc)) (put12_size _ _ (.int .i64 7) (.string ⟨#[]⟩) (.string ⟨#[]⟩) (.slice none 0 0) (.slice none 0 0) (.int .i64 0) (.int .i64 0) (.string ⟨#[]⟩) (.int .i64 0) (.slice none 0 0) (.slice none 0 0) (.slice ka kn kc)) (Nat.ne_of_gt hP) htb, ((But.of HB1.out).trans HB.out).put12 (Nat.le_refl _) (.int .i64 7) (.string ⟨#[]⟩) (.string ⟨#[]⟩) (.slice none 0 0) (.slice none 0 0) (.int .i64 0) (.int .i64 0) (.string ⟨#[]⟩) (.int .i64 0) (.slice none 0 0) (.slice none 0 0) (.slice ka kn kc)⟩
theorem SessOK.mono {P tb : Nat} {E : Int} {B : Nat} {S : List Tk -> PR Ty} {n m : Nat} (h : SessOK P tb E B S n) (hm : m <= n) : SessOK P tb E B S m := fun ts W hl => h ts W (Nat.lt_of_lt_of_le hl hm)
theorem wrap_one (p : PR Pr) : ((p.bind fun p r => PR.ok [p] r).bind fun l r => PR.ok (parOf l) r) = p := by cases p <;> rfl
theorem psing_eq (f : Nat) (ts : List Tk) : psing nameB (f + 1) ts = psingS (pproc nameB f) (pnewS nameB (psess nameB f) (psing nameB f)) (fun c r => pnamedS nameB (pproc nameB f) (psing nameB f) f c r) ts := by
 unfold psing psingS
 rw [pparts]
 split
 ·rfl
 split
 ·show PR.bind (PR.bind (pparts nameB f true ts.tail) _) _ = PR.bind (pproc nameB f ts.tail) _
  unfold pproc
  cases pparts nameB f true ts.tail with
  | bad e r => rfl
  | ok l r =>
   show PR.bind (PR.bind (need sShut r) _) _ = PR.bind (need sShut r) _
   cases need sShut r <;> rfl
 split
 ·exact wrap_one _
 ·show PR.bind (PR.bind (pname nameB ts) _) _ = PR.bind (pname nameB ts) _
  cases pname nameB ts with
  | bad e r => rfl
  | ok c r => exact wrap_one _
theorem pproc_le (f : Nat) : Shorter (pproc nameB f) := fun ts x r h => by
 obtain ⟨l, s, h1, h2⟩ := PR.bind_ok h
 cases h2
 exact (pparts_len _ _ _ _ _ h1).1
theorem proc_knot (P tb : Nat) (E : Int) (B : Nat) (hBP : B <= P) : ∀ f, (∀ ts, 2 * ts.length + 1 <= f -> SingAt P tb E B f ts) /\ (∀ ts, 2 * ts.length + 2 <= f -> PartsAt P tb E B f ts) := by
 intro f
 induction f using Nat.strongRecOn with
 | _ f ih =>
  refine ⟨fun ts hf => ?_, fun ts hf => pparts_any P tb E B hBP f ts hf (fun f2 ts2 h1 h2 => (ih f2 h1).1 ts2 h2) (fun f2 ts2 h1 h2 => (ih f2 h1).2 ts2 h2)⟩
  obtain ⟨f, rfl⟩ : ∃ g, f = g + 1 := ⟨f - 1, by omega⟩
  intro W he hp
  have hS : ∀ n, n <= ts.length -> SingOK P tb E B (psing nameB f) n := fun n hn ts2 W2 h2 he2 hp2 => (ih f (by omega)).1 ts2 (by omega) W2 he2 hp2
  have hPr : ∀ n, n <= ts.length -> ProcOK P tb E B (pproc nameB f) n := fun n hn ts2 W2 h2 he2 hp2 => pprocess_any P tb E ts2 B W2 he2 hBP hp2 f ((ih f (by omega)).2 ts2 (by omega))
  rw [psing_eq]
  refine psing_any P tb E ts B W he hBP hp _ _ _ ts.length (Nat.le_refl _) (hPr _ (Nat.le_refl _)) ?_ ?_
  ·intro ts2 W2 h2 he2 hp2
   exact pnew_any P tb E ts2 B W2 he2 hBP hp2 (psess nameB f) (psess_le f) (psing nameB f) ts.length h2 ((psess_ok P tb E B hBP f).mono (by omega)) (hS _ (Nat.le_refl _))
  ·intro c ts2 W2 hc h2 he2 hp2
   exact pnamed_any P tb E ts2 B W2 he2 hBP hp2 (pproc nameB f) (psing nameB f) ts.length h2 (hPr _ (Nat.le_refl _)) (hS _ (Nat.le_refl _)) (pproc_le f) f (by omega) c hc
theorem pproc_ok (P tb : Nat) (E : Int) (B : Nat) (hBP : B <= P) (f n : Nat) (hn : 2 * n <= f) : ProcOK P tb E B (pproc nameB f) n := fun ts W h he hp => pprocess_any P tb E ts B W he hBP hp f ((proc_knot P tb E B hBP f).2 ts (by omega))
end Go.Proofs.YtejaboajgecpaaaGreatDoor
namespace Go.Proofs.YtejaboajgecpaaaGreatDoor
open Go.Lib (hid)
open Go.RowKit Go.Shelf
def pbodyS (PF : List Tk -> PR Pr) (ts : List Tk) : PR Pr := (need sEq ts).bind fun _ r => (PF r).bind fun p r => (need sSemi r).bind fun _ r => .ok p r
theorem pbody_any (P tb : Nat) (E : Int) (ts : List Tk) (B : Nat) (w : World) (he : Env B w) (hBP : B <= P) (h : PaIs P tb E ts w) (PF : List Tk -> PR Pr) (n : Nat) (hn : ts.length <= n) (hF : ProcOK P tb E B PF n) :
 Calls Tryz.prog 53 #[.pointer (some ⟨P, 0, none⟩)] w (Parsed P tb E w (pbodyS PF ts) (GPr w.heap.size)) := by
 obtain ⟨W1, hW1⟩ := ex1 (w.alloc (.cells z12 31))
 have hb1 := (made hW1).1
 have x1 := (made hW1).2
 have hs1 : w.heap.size < W1.heap.size := (gl x1)
 have hP : P < w.heap.size := h.lt
 have htb : tb ≠ w.heap.size := Nat.ne_of_lt h.tlt
 have HTB := hid h.tlt
 have HP : Hid (PaIs P tb E ts W1) := hid (h.to hb1)
 have HB : Hid (But P W1 W1) := hid (But.refl _ _)
 have HW1 := hid hW1
 have HB1 := hid hb1
 have HX1 := hid x1
 have HE := hid (he.to hb1)
 clear hW1 hb1 x1 he h
 unfold pbodyS
 have HF := hid hF
 clear hF
 cases h1 : need sEq ts with
 | bad er r =>
  show Calls _ _ _ _ (Parsed P tb E w (PR.bad er r) _)
  go_enter Tryz.func53, Tryz.ntmps53
  go_upto_region 1 with fail
  rw [HW1.out]
  go_wp2_with (first | (go_at_call 52; refine (expB HP HB h1).mono ?_; rintro _ wn ⟨rfl, HB⟩))
  exact ⟨rfl, rfl, (But.of HB1.out).trans HB.out⟩
 | ok un r1 =>
  have hlr1 : r1.length < n := by have := need_le h1; omega
  cases h2 : PF r1 with
  | bad er r =>
   show Calls _ _ _ _ (Parsed P tb E w ((PF r1).bind _) _)
   rw [h2]
   show Calls _ _ _ _ (Parsed P tb E w (PR.bad er r) _)
   go_enter Tryz.func53, Tryz.ntmps53
   go_upto_region 1 with fail
   rw [HW1.out]
   go_wp2_with (first | (go_at_call 52; refine (expH HP HB h1).mono ?_; rintro _ wn ⟨rfl, HP, HB⟩) | (go_at_call 31; refine (HF.out _ _ hlr1 (HE.out.but HB.out hBP) HP.out).mono ?_; rw [h2]; rintro en wn ⟨rfl, hb⟩; replace HB := hid (HB.out.trans hb); clear hb))
   exact ⟨rfl, rfl, (But.of HB1.out).trans HB.out⟩
  | ok p r2 =>
   show Calls _ _ _ _ (Parsed P tb E w ((PF r1).bind _) _)
   rw [h2]
   show Calls _ _ _ _ (Parsed P tb E w ((need sSemi r2).bind _) _)
   cases h3 : need sSemi r2 with
   | bad er r =>
    show Calls _ _ _ _ (Parsed P tb E w (PR.bad er r) _)
    go_enter Tryz.func53, Tryz.ntmps53
    go_upto_region 1 with fail
    rw [HW1.out]
    go_upto_region 3 with (first | (go_at_call 52; refine (expH HP HB h1).mono ?_; rintro _ wn ⟨rfl, HP, HB⟩) | (go_at_call 31; refine (HF.out _ _ hlr1 (HE.out.but HB.out hBP) HP.out).mono ?_; rw [h2]; rintro en wn ⟨⟨v, rfl, hg⟩, hp, hb⟩; obtain ⟨la, ln, lc, aa, an, ac, ta, tn, tc, ua, un, uc, ka, kn, kc, rfl⟩ := hg.open; have HPn := hid hp; have HG := hid (hg.mono (show W1.heap.size <= _ from HB.out.size)); have HBn := hid (HB.out.trans hb); clear hg; clear hp hb HP HB; have HP := HPn; have HB := HBn; clear HPn HBn; skip))
    obtain ⟨W4, hW4⟩ := ex1 (wn.alloc (.cells #[.int .i64 p.k, .string p.c, .string p.x, .slice la ln lc, .slice aa an ac, .int .i64 p.t.k, .int .i64 p.t.p, .string p.t.n, .int .i64 p.t.s, .slice ta tn tc, .slice ua un uc, .slice ka kn kc] 31))
    have hb4 := (made hW4).1
    have x4 := (made hW4).2
    have hl4 : wn.heap.size < W4.heap.size := (gl x4)
    have hsz : W1.heap.size <= wn.heap.size := HB.out.size
    have hn4 : wn.heap.size ≠ P := by omega
    have HPn := hid (HP.out.to hb4)
    have HBn := hid (HB.out.to hb4)
    have HC : Hid (But P W4 W4) := hid (But.refl _ _)
    have HX4 := hid x4
    have HGT := hid (HG.out.but (But.of (P := P) hb4) (Nat.lt_trans hP hs1))
    rw [hW4]
    clear HP HB HG hW4 hb4 x4
    have HP := HPn
    have HB := HBn
    clear HPn HBn
    obtain ⟨T6, hT6⟩ := ex1 (wn.heap.size)
    rw [hT6] at HX4 hl4 hn4 hsz |-
    clear hT6
    go_wp2_with (go_at_call 52; refine (expB HP HB h3).mono ?_; rintro _ wn ⟨rfl, HB⟩)
    exact ⟨rfl, rfl, (But.of HB1.out).trans HB.out⟩
   | ok un3 r =>
    show Calls _ _ _ _ (Parsed P tb E w (PR.ok p r) _)
    go_enter Tryz.func53, Tryz.ntmps53
    go_upto_region 1 with fail
    rw [HW1.out]
    go_upto_region 3 with (first | (go_at_call 52; refine (expH HP HB h1).mono ?_; rintro _ wn ⟨rfl, HP, HB⟩) | (go_at_call 31; refine (HF.out _ _ hlr1 (HE.out.but HB.out hBP) HP.out).mono ?_; rw [h2]; rintro en wn ⟨⟨v, rfl, hg⟩, hp, hb⟩; obtain ⟨la, ln, lc, aa, an, ac, ta, tn, tc, ua, un, uc, ka, kn, kc, rfl⟩ := hg.open; have HPn := hid hp; have HG := hid (hg.mono (show W1.heap.size <= _ from HB.out.size)); have HBn := hid (HB.out.trans hb); clear hg; clear hp hb HP HB; have HP := HPn; have HB := HBn; clear HPn HBn; skip))
    obtain ⟨W4, hW4⟩ := ex1 (wn.alloc (.cells #[.int .i64 p.k, .string p.c, .string p.x, .slice la ln lc, .slice aa an ac, .int .i64 p.t.k, .int .i64 p.t.p, .string p.t.n, .int .i64 p.t.s, .slice ta tn tc, .slice ua un uc, .slice ka kn kc] 31))
    have hb4 := (made hW4).1
    have x4 := (made hW4).2
    have hl4 : wn.heap.size < W4.heap.size := (gl x4)
    have hsz : W1.heap.size <= wn.heap.size := HB.out.size
    have hn4 : wn.heap.size ≠ P := by omega
    have HPn := hid (HP.out.to hb4)
    have HBn := hid (HB.out.to hb4)
    have HC : Hid (But P W4 W4) := hid (But.refl _ _)
    have HX4 := hid x4
    have HGT := hid (HG.out.but (But.of (P := P) hb4) (Nat.lt_trans hP hs1))
    rw [hW4]
    clear HP HB HG hW4 hb4 x4
    have HP := HPn
    have HB := HBn
    clear HPn HBn
    obtain ⟨T6, hT6⟩ := ex1 (wn.heap.size)
    rw [hT6] at HX4 hl4 hn4 hsz |-
    clear hT6
    go_wp2_with (go_at_call 52; refine (expect_any P tb E _ (by decide +kernel) _ _ HP.out).mono ?_; rw [h3]; rintro en wn ⟨⟨_, rfl, _⟩, hp, hb⟩; replace HP := hid hp; replace HB := hid (HB.out.trans hb); replace HC := hid (HC.out.trans hb); clear hp hb; obtain ⟨⟨d0, d1, d2, d3, d4, d5, d6, d7, d8, d9, d10, d11⟩, -⟩ := c12p ((HC.out.block T6 hl4 hn4).trans HX4.out); have hx9 := (HB.out.block w.heap.size hs1 (Nat.ne_of_gt hP)).trans HX1.out; obtain ⟨⟨q0, q1, q2, q3, q4, q5, q6, q7, q8, q9, q10, q11⟩, z0, z1, z2, z3, z4, z5, z6, z7, z8, z9, z10, z11⟩ := c12p hx9; have HX9 := hid hx9; clear hx9)
    have HG := hid (HGT.out.but HC.out (Nat.lt_trans hP hs1))
    have hx8 := fill12 HX9.out (.int .i64 p.k) (.string p.c) (.string p.x) (.slice la ln lc) (.slice aa an ac) (.int .i64 p.t.k) (.int .i64 p.t.p) (.string p.t.n) (.int .i64 p.t.s) (.slice ta tn tc) (.slice ua un uc) (.slice ka kn kc)
    obtain ⟨⟨y0, y1, y2, y3, y4, y5, y6, y7, y8, y9, y10, y11⟩, -⟩ := c12p hx8
    refine bodyPost_ret (v := .agg #[.int .i64 p.k, .string p.c, .string p.x, .slice la ln lc, .slice aa an ac, .int .i64 p.t.k, .int .i64 p.t.p, .string p.t.n, .int .i64 p.t.s, .slice ta tn tc, .slice ua un uc, .slice ka kn kc]) (by simp [results, Tryz.results53, go_sem, y0, y1, y2, y3, y4, y5, y6, y7, y8, y9, y10, y11]) rfl ?_
    exact ⟨⟨_, rfl, (HG.out.put12 hs1 (.int .i64 p.k) (.string p.c) (.string p.x) (.slice la ln lc) (.slice aa an ac) (.int .i64 p.t.k) (.int .i64 p.t.p) (.string p.t.n) (.int .i64 p.t.s) (.slice ta tn tc) (.slice ua un uc) (.slice ka kn kc)).mono (Nat.le_of_lt hs1)⟩, HP.out.oth (X := w.heap.size) (fun j hj => put12_oth hj (.int .i64 p.k) (.string p.c) (.string p.x) (.slice la ln lc) (.slice aa an ac) (.int .i64 p.t.k) (.int .i64 p.t.p) (.string p.t.n) (.int .i64 p.t.s) (.slice ta tn tc) (.slice ua un uc) (.slice ka kn kc)) (put12_size _ _ (.int .i64 p.k) (.string p.c) (.string p.x) (.slice la ln lc) (.slice aa an ac) (.int .i64 p.t.k) (.int .i64 p.t.p) (.string p.t.n) (.int .i64 p.t.s) (.slice ta tn tc) (.slice ua un uc) (.slice ka kn kc)) (Nat.ne_of_gt hP) htb, ((But.of HB1.out).trans HB.out).put12 (Nat.le_refl _) (.int .i64 p.k) (.string p.c) (.string p.x) (.slice la ln lc) (.slice aa an ac) (.int .i64 p.t.k) (.int .i64 p.t.p) (.string p.t.n) (.int .i64 p.t.s) (.slice ta tn tc) (.slice ua un uc) (.slice ka kn kc)⟩
end Go.Proofs.YtejaboajgecpaaaGreatDoor
