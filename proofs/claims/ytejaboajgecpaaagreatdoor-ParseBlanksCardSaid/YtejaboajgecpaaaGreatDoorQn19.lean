/- Parsing: lemmas. -/
import Derived.Test.YtejaboajgecpaaaGreatDoorQn18
set_option maxHeartbeats 16000000
set_option maxRecDepth 100000
namespace Go.Proofs.YtejaboajgecpaaaGreatDoor
open Go.Lib (hid)
open Go.RowKit Go.Deep Go.Shelf
theorem pvar_le {isN : ByteArray -> Bool} : Shorter (pvar isN) := by
 intro ts x r h
 unfold pvar at h
 cases h1 : pname isN ts with
 | bad e r1 => rw [h1] at h; cases h
 | ok nm r1 =>
  rw [h1] at h
  have l1 := pname_le h1
  replace h : (if hd sPlus r1 = true then (pnumber r1.tail).bind fun s r => PR.ok (Ty.mk 9 0 nm s [] []) r else .ok (.mk 9 0 nm 0 [] []) r1) = .ok x r := h
  split at h
  ·next hc =>
   have l2 := hd_tail hc
   cases h2 : pnumber r1.tail with
   | bad e r2 => rw [h2] at h; cases h
   | ok s r2 =>
    rw [h2] at h
    have l3 := pnumber_le h2
    cases h
    omega
  ·cases h; exact l1
theorem pexch_le {S : List Tk -> PR Ty} (hS : Shorter S) (k : Int) : Shorter (pexchS S k) := by
 intro ts x r h
 unfold pexchS at h
 cases h1 : pprio ts with
 | bad e r1 => rw [h1] at h; cases h
 | ok p r1 =>
  rw [h1] at h
  have l1 := pprio_le h1
  replace h : ((ppayS S r1).bind fun t r => (need sDot r).bind fun _ r => (S r).bind fun u r => PR.ok (Ty.mk k p ⟨#[]⟩ 0 [] [t, u]) r) = .ok x r := h
  cases h2 : ppayS S r1 with
  | bad e r2 => rw [h2] at h; cases h
  | ok t r2 =>
   rw [h2] at h
   have l2 := ppay_le hS _ _ _ h2
   replace h : ((need sDot r2).bind fun _ r => (S r).bind fun u r => PR.ok (Ty.mk k p ⟨#[]⟩ 0 [] [t, u]) r) = .ok x r := h
   cases h3 : need sDot r2 with
   | bad e r3 => rw [h3] at h; cases h
   | ok u r3 =>
    rw [h3] at h
    have l3 := need_le h3
    replace h : ((S r3).bind fun u r => PR.ok (Ty.mk k p ⟨#[]⟩ 0 [] [t, u]) r) = .ok x r := h
    cases h4 : S r3 with
    | bad e r4 => rw [h4] at h; cases h
    | ok v r4 =>
     rw [h4] at h
     have l4 := hS _ _ _ h4
     cases h
     omega
theorem pchoice_le {isN : ByteArray -> Bool} {S : List Tk -> PR Ty} (g : Nat) (hc : Shorter (pcases isN S g)) (k : Int) : Shorter (pchoiceS isN S g k) := by
 intro ts x r h
 unfold pchoiceS at h
 cases h1 : pprio ts with
 | bad e r1 => rw [h1] at h; cases h
 | ok p r1 =>
  rw [h1] at h
  have l1 := pprio_le h1
  replace h : ((pcases isN S g r1).bind fun l r => PR.ok (Ty.mk k p ⟨#[]⟩ 0 (l.map (·.1)) (l.map (·.2))) r) = .ok x r := h
  cases h2 : pcases isN S g r1 with
  | bad e r2 => rw [h2] at h; cases h
  | ok l r2 =>
   rw [h2] at h
   have l2 := hc _ _ _ h2
   cases h
   omega
theorem prec_le {isN : ByteArray -> Bool} {S : List Tk -> PR Ty} (hS : Shorter S) : Shorter (precS isN S) := by
 intro ts x r h
 unfold precS at h
 cases h1 : pname isN ts with
 | bad e r1 => rw [h1] at h; cases h
 | ok n r1 =>
  rw [h1] at h
  have l1 := pname_le h1
  replace h : ((need sDot r1).bind fun _ r => (S r).bind fun t r => PR.ok (Ty.mk 8 0 n 0 [] [t]) r) = .ok x r := h
  cases h2 : need sDot r1 with
  | bad e r2 => rw [h2] at h; cases h
  | ok u r2 =>
   rw [h2] at h
   have l2 := need_le h2
   replace h : ((S r2).bind fun t r => PR.ok (Ty.mk 8 0 n 0 [] [t]) r) = .ok x r := h
   cases h3 : S r2 with
   | bad e r3 => rw [h3] at h; cases h
   | ok t r3 =>
    rw [h3] at h
    have l3 := hS _ _ _ h3
    cases h
    omega
theorem psess_le : ∀ f, Shorter (psess nameB f)
 | 0, ts, x, r, h => by cases h
 | f + 1, ts, x, r, h => by
  have ih := psess_le f
  rw [psess] at h
  split at h
  ·next hc => cases h; exact hd_tail hc
  split at h
  ·next hc => have := hd_tail hc; have := pexch_le ih _ _ _ _ h; omega
  split at h
  ·next hc => have := hd_tail hc; have := pexch_le ih _ _ _ _ h; omega
  split at h
  ·next hc => have := hd_tail hc; have := pchoice_le f (pcases_le ih f) _ _ _ _ h; omega
  split at h
  ·next hc => have := hd_tail hc; have := pchoice_le f (pcases_le ih f) _ _ _ _ h; omega
  split at h
  ·next hc => have := hd_tail hc; have := prec_le ih _ _ _ h; omega
  split at h
  ·next hc =>
   have l1 := hd_tail hc
   cases h2 : psess nameB f ts.tail with
   | bad e r2 => rw [h2] at h; cases h
   | ok t r2 =>
    rw [h2] at h
    have l2 := ih _ _ _ h2
    replace h : ((need sShut r2).bind fun _ r => PR.ok t r) = .ok x r := h
    cases h3 : need sShut r2 with
    | bad e r3 => rw [h3] at h; cases h
    | ok u r3 =>
     rw [h3] at h
     have l3 := need_le h3
     cases h
     omega
  ·exact pvar_le _ _ _ h
theorem enters_sess : ∀ args w, (callFunc 68 args).run Tryz.prog w = .ok (.enter 68 args) w := enters_of Tryz.func68 (by kernel_rfl) rfl
theorem pchoice_any (P tb : Nat) (E : Int) (ts : List Tk) (B : Nat) (w : World) (he : Env B w) (hBP : B <= P) (h : PaIs P tb E ts w) (S : List Tk -> PR Ty) (n : Nat) (hn : ts.length < n) (hS : SessOK P tb E B S n) (hSh : Shorter S) (g : Nat) (hg : ts.length <= g) (k : Int) :
 Calls Tryz.prog 94 #[.pointer (some ⟨P, 0, none⟩), .int .i64 k] w (Parsed P tb E w (pchoiceS nameB S g k ts) (GTy w.heap.size)) := by
 obtain ⟨W1, hW1⟩ := ex1 (w.alloc (.cells z6 28))
 have hb1 := (made hW1).1
 have x1 := (made hW1).2
 have hs1 : w.heap.size < W1.heap.size := (gl x1)
 have hP : P < w.heap.size := h.lt
 have htb : tb ≠ w.heap.size := Nat.ne_of_lt h.tlt
 have HTB := hid h.tlt
 have HP : Hid (PaIs P tb E ts W1) := hid (h.to hb1)
 have HB : Hid (But P W1 W1) := hid (But.refl _ _)
 have HW1 := hid hW1
 have HB1 := hid hb1
 have HX1 := hid x1
 have HE := hid (he.to hb1)
 clear hW1 hb1 x1 he h
 unfold pchoiceS
 have HS := hid hS
 clear hS
 cases h1 : pprio ts with
 | bad er r =>
  show Calls _ _ _ _ (Parsed P tb E w (PR.bad er r) _)
  go_enter Tryz.func94, Tryz.ntmps94
  go_upto_region 1 with fail
  rw [HW1.out]
  go_wp2_with (first | (go_at_call 120; refine (pprio_any P tb E _ _ HP.out).mono ?_; rw [h1]; rintro en wn ⟨rfl, hb⟩; replace HB := hid (HB.out.trans hb); clear hb))
  exact ⟨rfl, rfl, (But.of HB1.out).trans HB.out⟩
 | ok pr r1 =>
  have hlr1 : r1.length < n := by have := pprio_le h1; omega
  cases h2 : pcases nameB S g r1 with
  | bad er r =>
   show Calls _ _ _ _ (Parsed P tb E w ((pcases nameB S g r1).bind _) _)
   rw [h2]
   show Calls _ _ _ _ (Parsed P tb E w (PR.bad er r) _)
   go_enter Tryz.func94, Tryz.ntmps94
   go_upto_region 1 with fail
   rw [HW1.out]
   go_wp2_with (first | (go_at_call 120; refine (pprio_any P tb E _ _ HP.out).mono ?_; rw [h1]; rintro en wn ⟨⟨_, rfl, rfl⟩, hp, hb⟩; replace HP := hid hp; replace HB := hid (HB.out.trans hb); clear hp hb) | (go_at_call 122; refine (pcasesT_any P tb E _ B _ (HE.out.but HB.out hBP) hBP HP.out 68 #[.pointer (some ⟨P, 0, none⟩)] #[] enters_sess S n hlr1 HS.out hSh g (by have := pprio_le h1; omega)).mono ?_; rw [h2]; rintro en wn ⟨rfl, hb⟩; replace HB := hid (HB.out.trans hb); clear hb))
   exact ⟨rfl, rfl, (But.of HB1.out).trans HB.out⟩
  | ok l r =>
   show Calls _ _ _ _ (Parsed P tb E w ((pcases nameB S g r1).bind _) _)
   rw [h2]
   show Calls _ _ _ _ (Parsed P tb E w (PR.ok (Ty.mk k pr ⟨#[]⟩ 0 (l.map (·.1)) (l.map (·.2))) r) _)
   go_enter Tryz.func94, Tryz.ntmps94
   go_upto_region 1 with fail
   rw [HW1.out]
   go_wp2_with (first | (go_at_call 120; refine (pprio_any P tb E _ _ HP.out).mono ?_; rw [h1]; rintro en wn ⟨⟨_, rfl, rfl⟩, hp, hb⟩; replace HP := hid hp; replace HB := hid (HB.out.trans hb); clear hp hb) | (go_at_call 122; refine (pcasesT_any P tb E _ B _ (HE.out.but HB.out hBP) hBP HP.out 68 #[.pointer (some ⟨P, 0, none⟩)] #[] enters_sess S n hlr1 HS.out hSh g (by have := pprio_le h1; omega)).mono ?_; rw [h2]; rintro en wn ⟨⟨_, rfl, lv, kv, rfl, hls, hks⟩, hp, hb⟩; obtain ⟨la, ln, lc, rfl, -⟩ := hls.open; obtain ⟨ka, kn, kc, rfl, -⟩ := hks.open; have HPn := hid hp; have HLS := hid (StrSl.mono (C := fun k => W1.heap.size <= k /\ k < wn.heap.size) (fun k hk => ⟨Nat.le_trans HB.out.size hk.1, hk.2⟩) hls); have HKS := hid (TySl.mono (C := fun k => W1.heap.size <= k /\ k < wn.heap.size) (fun k hk => ⟨Nat.le_trans HB.out.size hk.1, hk.2⟩) hks); have HBn := hid (HB.out.trans hb); clear hls hks; clear hp hb HP HB; have HP := HPn; have HB := HBn; clear HPn HBn; have hx9 := (HB.out.block w.heap.size hs1 (Nat.ne_of_gt hP)).trans HX1.out; obtain ⟨⟨q0, q1, q2, q3, q4, q5⟩, z0, z1, z2, z3, z4, z5⟩ := c6 hx9; have HX9 := hid hx9; clear hx9))
   have HG : Hid (GTy W1.heap.size wn (.mk k pr ⟨#[]⟩ 0 (l.map (·.1)) (l.map (·.2))) (.agg #[.int .i64 k, .int .i64 pr, .string ⟨#[]⟩, .int .i64 0, .slice la ln lc, .slice ka kn kc])) := hid (GTy.node (Nat.zero_le _) HLS.out HKS.out)
   have hx8 := fill6 HX9.out (.int .i64 k) (.int .i64 pr) (.string ⟨#[]⟩) (.int .i64 0) (.slice la ln lc) (.slice ka kn kc)
   obtain ⟨⟨y0, y1, y2, y3, y4, y5⟩, -⟩ := c6 hx8
   refine bodyPost_ret (v := .agg #[.int .i64 k, .int .i64 pr, .string ⟨#[]⟩, .int .i64 0, .slice la ln lc, .slice ka kn kc]) (by simp [results, Tryz.results94, go_sem, y0, y1, y2, y3, y4, y5]) rfl ?_
   exact ⟨⟨_, rfl, (HG.out.put6 hs1 (.int .i64 k) (.int .i64 pr) (.string ⟨#[]⟩) (.int .i64 0) (.slice la ln lc) (.slice ka kn kc)).mono (Nat.le_of_lt hs1)⟩, HP.out.oth (X := w.heap.size) (fun j hj => put6_oth hj (.int .i64 k) (.int .i64 pr) (.string ⟨#[]⟩) (.int .i64 0) (.slice la ln lc) (.slice ka kn kc)) (put6_size _ _ (.int .i64 k) (.int .i64 pr) (.string ⟨#[]⟩) (.int .i64 0) (.slice la ln lc) (.slice ka kn kc)) (Nat.ne_of_gt hP) htb, ((But.of HB1.out).trans HB.out).put6 (Nat.le_refl _) (.int .i64 k) (.int .i64 pr) (.string ⟨#[]⟩) (.int .i64 0) (.slice la ln lc) (.slice ka kn kc)⟩
theorem psessS_any (P tb : Nat) (E : Int) (ts : List Tk) (B : Nat) (w : World) (he : Env B w) (hBP : B <= P) (h : PaIs P tb E ts w) (f : Nat) (hn : ts.length < f + 1) (hS : SessOK P tb E B (psess nameB f) f) :
 Calls Tryz.prog 68 #[.pointer (some ⟨P, 0, none⟩)] w (Parsed P tb E w (psess nameB (f + 1) ts) (GTy w.heap.size)) := by
 obtain ⟨W1, hW1⟩ := ex1 (w.alloc (.cells z6 28))
 have hb1 := (made hW1).1
 have x1 := (made hW1).2
 have hs1 : w.heap.size < W1.heap.size := (gl x1)
 have hP : P < w.heap.size := h.lt
 have htb : tb ≠ w.heap.size := Nat.ne_of_lt h.tlt
 have HTB := hid h.tlt
 have HP : Hid (PaIs P tb E ts W1) := hid (h.to hb1)
 have HB : Hid (But P W1 W1) := hid (But.refl _ _)
 have HW1 := hid hW1
 have HB1 := hid hb1
 have HX1 := hid x1
 have HE := hid (he.to hb1)
 clear hW1 hb1 x1 he h
 rw [psess]
 have HS := hid hS
 clear hS
 have HSH := hid (psess_le f)
 cases a0 : hd sEnd ts with
 | true =>
  rw [if_pos rfl]
  have hlt : ts.tail.length < f := by have := hd_tail a0; omega
  go_enter Tryz.func68, Tryz.ntmps68
  go_upto_region 1 with fail
  rw [HW1.out]
  go_wp2_with (go_at_call 50; refine (yesH HP HB).mono ?_; rintro _ wn ⟨rfl, HP, HB⟩; have hx9 := (HB.out.block w.heap.size hs1 (Nat.ne_of_gt hP)).trans HX1.out; obtain ⟨⟨q0, q1, q2, q3, q4, q5⟩, z0, z1, z2, z3, z4, z5⟩ := c6 hx9; have HX9 := hid hx9; clear hx9)
  have hx8 := fill6 HX9.out (.int .i64 3) (.int .i64 0) (.string ⟨#[]⟩) (.int .i64 0) (.slice none 0 0) (.slice none 0 0)
  obtain ⟨⟨y0, y1, y2, y3, y4, y5⟩, -⟩ := c6 hx8
  refine bodyPost_ret (v := .agg #[.int .i64 3, .int .i64 0, .string ⟨#[]⟩, .int .i64 0, .slice none 0 0, .slice none 0 0]) (by simp [results, Tryz.results68, go_sem, y0, y1, y2, y3, y4, y5]) rfl ?_
  exact ⟨⟨_, rfl, GTy.leaf _ _ 3 0 0 ⟨#[]⟩ (Nat.zero_le _)⟩, HP.out.oth (X := w.heap.size) (fun j hj => put6_oth hj (.int .i64 3) (.int .i64 0) (.string ⟨#[]⟩) (.int .i64 0) (.slice none 0 0) (.slice none 0 0)) (put6_size _ _ (.int .i64 3) (.int .i64 0) (.string ⟨#[]⟩) (.int .i64 0) (.slice none 0 0) (.slice none 0 0)) (Nat.ne_of_gt hP) htb, ((But.of HB1.out).trans HB.out).put6 (Nat.le_refl _) (.int .i64 3) (.int .i64 0) (.string ⟨#[]⟩) (.int .i64 0) (.slice none 0 0) (.slice none 0 0)⟩
 | false =>
  rw [if_neg (by decide)]
  cases a1 : hd sBang ts with
  | true =>
   rw [if_pos rfl]
   have hlt : ts.tail.length < f := by have := hd_tail a1; omega
   cases h3 : pexchS (psess nameB f) 4 ts.tail with
   | bad er r =>
    go_enter Tryz.func68, Tryz.ntmps68
    go_upto_region 1 with fail
    rw [HW1.out]
    go_wp2_with (first | (go_at_call 50; refine (noH HP HB).mono ?_; rintro _ wn ⟨rfl, HP, HB⟩) | (go_at_call 50; refine (yesH HP HB).mono ?_; rintro _ wn ⟨rfl, HP, HB⟩) | (go_at_call 93; refine (pexch_any P tb E _ B _ (HE.out.but HB.out hBP) hBP HP.out (psess nameB f) f hlt HS.out HSH.out 4).mono ?_; rw [h3]; rintro en wn ⟨rfl, hb⟩; replace HB := hid (HB.out.trans hb); clear hb))
    exact ⟨rfl, rfl, (But.of HB1.out).trans HB.out⟩
   | ok t r =>
    go_enter Tryz.func68, Tryz.ntmps68
    go_upto_region 1 with fail
    rw [HW1.out]
    go_wp2_with (first | (go_at_call 50; refine (noH HP HB).mono ?_; rintro _ wn ⟨rfl, HP, HB⟩) | (go_at_call 50; refine (yesH HP HB).mono ?_; rintro _ wn ⟨rfl, HP, HB⟩) | (go_at_call 93; refine (pexch_any P tb E _ B _ (HE.out.but HB.out hBP) hBP HP.out (psess nameB f) f hlt HS.out HSH.out 4).mono ?_; rw [h3]; rintro en wn ⟨⟨v, rfl, hg⟩, hp, hb⟩; obtain ⟨la, ln, lc, ka, kn, kc, rfl⟩ := hg.open; have HPn := hid hp; have HG := hid (hg.mono (show W1.heap.size <= _ from HB.out.size)); have HBn := hid (HB.out.trans hb); clear hg; clear hp hb HP HB; have HP := HPn; have HB := HBn; clear HPn HBn; have hx9 := (HB.out.block w.heap.size hs1 (Nat.ne_of_gt hP)).trans HX1.out; obtain ⟨⟨q0, q1, q2, q3, q4, q5⟩, z0, z1, z2, z3, z4, z5⟩ := c6 hx9; have HX9 := hid hx9; clear hx9))
    have hx8 := fill6 HX9.out (.int .i64 t.k) (.int .i64 t.p) (.string t.n) (.int .i64 t.s) (.slice la ln lc) (.slice ka kn kc)
    obtain ⟨⟨y0, y1, y2, y3, y4, y5⟩, -⟩ := c6 hx8
    refine bodyPost_ret (v := .agg #[.int .i64 t.k, .int .i64 t.p, .string t.n, .int .i64 t.s, .slice la ln lc, .slice ka kn kc]) (by simp [results, Tryz.results68, go_sem, y0, y1, y2, y3, y4, y5]) rfl ?_
    exact ⟨⟨_, rfl, (HG.out.put6 hs1 (.int .i64 t.k) (.int .i64 t.p) (.string t.n) (.int .i64 t.s) (.slice la ln lc) (.slice ka kn kc)).mono (Nat.le_of_lt hs1)⟩, HP.out.oth (X := w.heap.size) (fun j hj => put6_oth hj (.int .i64 t.k) (.int .i64 t.p) (.string t.n) (.int .i64 t.s) (.slice la ln lc) (.slice ka kn kc)) (put6_size _ _ (.int .i64 t.k) (.int .i64 t.p) (.string t.n) (.int .i64 t.s) (.slice la ln lc) (.slice ka kn kc)) (Nat.ne_of_gt hP) htb, ((But.of HB1.out).trans HB.out).put6 (Nat.le_refl _) (.int .i64 t.k) (.int .i64 t.p) (.string t.n) (.int .i64 t.s) (.slice la ln lc) (.slice ka kn kc)⟩
  | false =>
   rw [if_neg (by decide)]
   cases a2 : hd sAsk ts with
   | true =>
    rw [if_pos rfl]
    have hlt : ts.tail.length < f := by have := hd_tail a2; omega
    cases h3 : pexchS (psess nameB f) 5 ts.tail with
    | bad er r =>
     go_enter Tryz.func68, Tryz.ntmps68
     go_upto_region 1 with fail
     rw [HW1.out]
     go_wp2_with (first | (go_at_call 50; refine (noH HP HB).mono ?_; rintro _ wn ⟨rfl, HP, HB⟩) | (go_at_call 50; refine (yesH HP HB).mono ?_; rintro _ wn ⟨rfl, HP, HB⟩) | (go_at_call 93; refine (pexch_any P tb E _ B _ (HE.out.but HB.out hBP) hBP HP.out (psess nameB f) f hlt HS.out HSH.out 5).mono ?_; rw [h3]; rintro en wn ⟨rfl, hb⟩; replace HB := hid (HB.out.trans hb); clear hb))
     exact ⟨rfl, rfl, (But.of HB1.out).trans HB.out⟩
    | ok t r =>
     go_enter Tryz.func68, Tryz.ntmps68
     go_upto_region 1 with fail
     rw [HW1.out]
     go_wp2_with (first | (go_at_call 50; refine (noH HP HB).mono ?_; rintro _ wn ⟨rfl, HP, HB⟩) | (go_at_call 50; refine (yesH HP HB).mono ?_; rintro _ wn ⟨rfl, HP, HB⟩) | (go_at_call 93; refine (pexch_any P tb E _ B _ (HE.out.but HB.out hBP) hBP HP.out (psess nameB f) f hlt HS.out HSH.out 5).mono ?_; rw [h3]; rintro en wn ⟨⟨v, rfl, hg⟩, hp, hb⟩; obtain ⟨la, ln, lc, ka, kn, kc, rfl⟩ := hg.open; have HPn := hid hp; have HG := hid (hg.mono (show W1.heap.size <= _ from HB.out.size)); have HBn := hid (HB.out.trans hb); clear hg; clear hp hb HP HB; have HP := HPn; have HB := HBn; clear HPn HBn; have hx9 := (HB.out.block w.heap.size hs1 (Nat.ne_of_gt hP)).trans HX1.out; obtain ⟨⟨q0, q1, q2, q3, q4, q5⟩, z0, z1, z2, z3, z4, z5⟩ := c6 hx9; have HX9 := hid hx9; clear hx9))
     have hx8 := fill6 HX9.out (.int .i64 t.k) (.int .i64 t.p) (.string t.n) (.int .i64 t.s) (.slice la ln lc) (.slice ka kn kc)
     obtain ⟨⟨y0, y1, y2, y3, y4, y5⟩, -⟩ := c6 hx8
     refine bodyPost_ret (v := .agg #[.int .i64 t.k, .int .i64 t.p, .string t.n, .int .i64 t.s, .slice la ln lc, .slice ka kn kc]) (by simp [results, Tryz.results68, go_sem, y0, y1, y2, y3, y4, y5]) rfl ?_
     exact ⟨⟨_, rfl, (HG.out.put6 hs1 (.int .i64 t.k) (.int .i64 t.p) (.string t.n) (.int .i64 t.s) (.slice la ln lc) (.slice ka kn kc)).mono (Nat.le_of_lt hs1)⟩, HP.out.oth (X := w.heap.size) (fun j hj => put6_oth hj (.int .i64 t.k) (.int .i64 t.p) (.string t.n) (.int .i64 t.s) (.slice la ln lc) (.slice ka kn kc)) (put6_size _ _ (.int .i64 t.k) (.int .i64 t.p) (.string t.n) (.int .i64 t.s) (.slice la ln lc) (.slice ka kn kc)) (Nat.ne_of_gt hP) htb, ((But.of HB1.out).trans HB.out).put6 (Nat.le_refl _) (.int .i64 t.k) (.int .i64 t.p) (.string t.n) (.int .i64 t.s) (.slice la ln lc) (.slice ka kn kc)⟩
   | false =>
    rw [if_neg (by decide)]
    cases a3 : hd sPlus ts with
    | true =>
     rw [if_pos rfl]
     have hlt : ts.tail.length < f := by have := hd_tail a3; omega
     cases h3 : pchoiceS nameB (psess nameB f) f 6 ts.tail with
     | bad er r =>
      go_enter Tryz.func68, Tryz.ntmps68
      go_upto_region 1 with fail
      rw [HW1.out]
      go_wp2_with (first | (go_at_call 50; refine (noH HP HB).mono ?_; rintro _ wn ⟨rfl, HP, HB⟩) | (go_at_call 50; refine (yesH HP HB).mono ?_; rintro _ wn ⟨rfl, HP, HB⟩) | (go_at_call 94; refine (pchoice_any P tb E _ B _ (HE.out.but HB.out hBP) hBP HP.out (psess nameB f) f hlt HS.out HSH.out f (Nat.le_of_lt hlt) 6).mono ?_; rw [h3]; rintro en wn ⟨rfl, hb⟩; replace HB := hid (HB.out.trans hb); clear hb))
      exact ⟨rfl, rfl, (But.of HB1.out).trans HB.out⟩
     | ok t r =>
      go_enter Tryz.func68, Tryz.ntmps68
      go_upto_region 1 with fail
      rw [HW1.out]
      go_wp2_with (first | (go_at_call 50; refine (noH HP HB).mono ?_; rintro _ wn ⟨rfl, HP, HB⟩) | (go_at_call 50; refine (yesH HP HB).mono ?_; rintro _ wn ⟨rfl, HP, HB⟩) | (go_at_call 94; refine (pchoice_any P tb E _ B _ (HE.out.but HB.out hBP) hBP HP.out (psess nameB f) f hlt HS.out HSH.out f (Nat.le_of_lt hlt) 6).mono ?_; rw [h3]; rintro en wn ⟨⟨v, rfl, hg⟩, hp, hb⟩; obtain ⟨la, ln, lc, ka, kn, kc, rfl⟩ := hg.open; have HPn := hid hp; have HG := hid (hg.mono (show W1.heap.size <= _ from HB.out.size)); have HBn := hid (HB.out.trans hb); clear hg; clear hp hb HP HB; have HP := HPn; have HB := HBn; clear HPn HBn; have hx9 := (HB.out.block w.heap.size hs1 (Nat.ne_of_gt hP)).trans HX1.out; obtain ⟨⟨q0, q1, q2, q3, q4, q5⟩, z0, z1, z2, z3, z4, z5⟩ := c6 hx9; have HX9 := hid hx9; clear hx9))
      have hx8 := fill6 HX9.out (.int .i64 t.k) (.int .i64 t.p) (.string t.n) (.int .i64 t.s) (.slice la ln lc) (.slice ka kn kc)
      obtain ⟨⟨y0, y1, y2, y3, y4, y5⟩, -⟩ := c6 hx8
      refine bodyPost_ret (v := .agg #[.int .i64 t.k, .int .i64 t.p, .string t.n, .int .i64 t.s, .slice la ln lc, .slice ka kn kc]) (by simp [results, Tryz.results68, go_sem, y0, y1, y2, y3, y4, y5]) rfl ?_
      exact ⟨⟨_, rfl, (HG.out.put6 hs1 (.int .i64 t.k) (.int .i64 t.p) (.string t.n) (.int .i64 t.s) (.slice la ln lc) (.slice ka kn kc)).mono (Nat.le_of_lt hs1)⟩, HP.out.oth (X := w.heap.size) (fun j hj => put6_oth hj (.int .i64 t.k) (.int .i64 t.p) (.string t.n) (.int .i64 t.s) (.slice la ln lc) (.slice ka kn kc)) (put6_size _ _ (.int .i64 t.k) (.int .i64 t.p) (.string t.n) (.int .i64 t.s) (.slice la ln lc) (.slice ka kn kc)) (Nat.ne_of_gt hP) htb, ((But.of HB1.out).trans HB.out).put6 (Nat.le_refl _) (.int .i64 t.k) (.int .i64 t.p) (.string t.n) (.int .i64 t.s) (.slice la ln lc) (.slice ka kn kc)⟩
    | false =>
     rw [if_neg (by decide)]
     cases a4 : hd sAnd ts with
     | true =>
      rw [if_pos rfl]
      have hlt : ts.tail.length < f := by have := hd_tail a4; omega
      cases h3 : pchoiceS nameB (psess nameB f) f 7 ts.tail with
      | bad er r =>
       go_enter Tryz.func68, Tryz.ntmps68
       go_upto_region 1 with fail
       rw [HW1.out]
       go_wp2_with (first | (go_at_call 50; refine (noH HP HB).mono ?_; rintro _ wn ⟨rfl, HP, HB⟩) | (go_at_call 50; refine (yesH HP HB).mono ?_; rintro _ wn ⟨rfl, HP, HB⟩) | (go_at_call 94; refine (pchoice_any P tb E _ B _ (HE.out.but HB.out hBP) hBP HP.out (psess nameB f) f hlt HS.out HSH.out f (Nat.le_of_lt hlt) 7).mono ?_; rw [h3]; rintro en wn ⟨rfl, hb⟩; replace HB := hid (HB.out.trans hb); clear hb))
       exact ⟨rfl, rfl, (But.of HB1.out).trans HB.out⟩
      | ok t r =>
       go_enter Tryz.func68, Tryz.ntmps68
       go_upto_region 1 with fail
       rw [HW1.out]
       go_wp2_with (first | (go_at_call 50; refine (noH HP HB).mono ?_; rintro _ wn ⟨rfl, HP, HB⟩) | (go_at_call 50; refine (yesH HP HB).mono ?_; rintro _ wn ⟨rfl, HP, HB⟩) | (go_at_call 94; refine (pchoice_any P tb E _ B _ (HE.out.but HB.out hBP) hBP HP.out (psess nameB f) f hlt HS.out HSH.out f (Nat.le_of_lt hlt) 7).mono ?_; rw [h3]; rintro en wn ⟨⟨v, rfl, hg⟩, hp, hb⟩; obtain ⟨la, ln, lc, ka, kn, kc, rfl⟩ := hg.open; have HPn := hid hp; have HG := hid (hg.mono (show W1.heap.size <= _ from HB.out.size)); have HBn := hid (HB.out.trans hb); clear hg; clear hp hb HP HB; have HP := HPn; have HB := HBn; clear HPn HBn; have hx9 := (HB.out.block w.heap.size hs1 (Nat.ne_of_gt hP)).trans HX1.out; obtain ⟨⟨q0, q1, q2, q3, q4, q5⟩, z0, z1, z2, z3, z4, z5⟩ := c6 hx9; have HX9 := hid hx9; clear hx9))
       have hx8 := fill6 HX9.out (.int .i64 t.k) (.int .i64 t.p) (.string t.n) (.int .i64 t.s) (.slice la ln lc) (.slice ka kn kc)
       obtain ⟨⟨y0, y1, y2, y3, y4, y5⟩, -⟩ := c6 hx8
       refine bodyPost_ret (v := .agg #[.int .i64 t.k, .int .i64 t.p, .string t.n, .int .i64 t.s, .slice la ln lc, .slice ka kn kc]) (by simp [results, Tryz.results68, go_sem, y0, y1, y2, y3, y4, y5]) rfl ?_
       exact ⟨⟨_, rfl, (HG.out.put6 hs1 (.int .i64 t.k) (.int .i64 t.p) (.string t.n) (.int .i64 t.s) (.slice la ln lc) (.slice ka kn kc)).mono (Nat.le_of_lt hs1)⟩, HP.out.oth (X := w.heap.size) (fun j hj => put6_oth hj (.int .i64 t.k) (.int .i64 t.p) (.string t.n) (.int .i64 t.s) (.slice la ln lc) (.slice ka kn kc)) (put6_size _ _ (.int .i64 t.k) (.int .i64 t.p) (.string t.n) (.int .i64 t.s) (.slice la ln lc) (.slice ka kn kc)) (Nat.ne_of_gt hP) htb, ((But.of HB1.out).trans HB.out).put6 (Nat.le_refl _) (.int .i64 t.k) (.int .i64 t.p) (.string t.n) (.int .i64 t.s) (.slice la ln lc) (.slice ka kn kc)⟩
     | false =>
      rw [if_neg (by decide)]
      cases a5 : hd sRec ts with
      | true =>
       rw [if_pos rfl]
       have hlt : ts.tail.length < f := by have := hd_tail a5; omega
       cases h3 : precS nameB (psess nameB f) ts.tail with
       | bad er r =>
        go_enter Tryz.func68, Tryz.ntmps68
        go_upto_region 1 with fail
        rw [HW1.out]
        go_wp2_with (first | (go_at_call 50; refine (noH HP HB).mono ?_; rintro _ wn ⟨rfl, HP, HB⟩) | (go_at_call 50; refine (yesH HP HB).mono ?_; rintro _ wn ⟨rfl, HP, HB⟩) | (go_at_call 95; refine (prec_any P tb E _ B _ (HE.out.but HB.out hBP) hBP HP.out (psess nameB f) f hlt HS.out).mono ?_; rw [h3]; rintro en wn ⟨rfl, hb⟩; replace HB := hid (HB.out.trans hb); clear hb))
        exact ⟨rfl, rfl, (But.of HB1.out).trans HB.out⟩
       | ok t r =>
        go_enter Tryz.func68, Tryz.ntmps68
        go_upto_region 1 with fail
        rw [HW1.out]
        go_wp2_with (first | (go_at_call 50; refine (noH HP HB).mono ?_; rintro _ wn ⟨rfl, HP, HB⟩) | (go_at_call 50; refine (yesH HP HB).mono ?_; rintro _ wn ⟨rfl, HP, HB⟩) | (go_at_call 95; refine (prec_any P tb E _ B _ (HE.out.but HB.out hBP) hBP HP.out (psess nameB f) f hlt HS.out).mono ?_; rw [h3]; rintro en wn ⟨⟨v, rfl, hg⟩, hp, hb⟩; obtain ⟨la, ln, lc, ka, kn, kc, rfl⟩ := hg.open; have HPn := hid hp; have HG := hid (hg.mono (show W1.heap.size <= _ from HB.out.size)); have HBn := hid (HB.out.trans hb); clear hg; clear hp hb HP HB; have HP := HPn; have HB := HBn; clear HPn HBn; have hx9 := (HB.out.block w.heap.size hs1 (Nat.ne_of_gt hP)).trans HX1.out; obtain ⟨⟨q0, q1, q2, q3, q4, q5⟩, z0, z1, z2, z3, z4, z5⟩ := c6 hx9; have HX9 := hid hx9; clear hx9))
        have hx8 := fill6 HX9.out (.int .i64 t.k) (.int .i64 t.p) (.string t.n) (.int .i64 t.s) (.slice la ln lc) (.slice ka kn kc)
        obtain ⟨⟨y0, y1, y2, y3, y4, y5⟩, -⟩ := c6 hx8
        refine bodyPost_ret (v := .agg #[.int .i64 t.k, .int .i64 t.p, .string t.n, .int .i64 t.s, .slice la ln lc, .slice ka kn kc]) (by simp [results, Tryz.results68, go_sem, y0, y1, y2, y3, y4, y5]) rfl ?_
        exact ⟨⟨_, rfl, (HG.out.put6 hs1 (.int .i64 t.k) (.int .i64 t.p) (.string t.n) (.int .i64 t.s) (.slice la ln lc) (.slice ka kn kc)).mono (Nat.le_of_lt hs1)⟩, HP.out.oth (X := w.heap.size) (fun j hj => put6_oth hj (.int .i64 t.k) (.int .i64 t.p) (.string t.n) (.int .i64 t.s) (.slice la ln lc) (.slice ka kn kc)) (put6_size _ _ (.int .i64 t.k) (.int .i64 t.p) (.string t.n) (.int .i64 t.s) (.slice la ln lc) (.slice ka kn kc)) (Nat.ne_of_gt hP) htb, ((But.of HB1.out).trans HB.out).put6 (Nat.le_refl _) (.int .i64 t.k) (.int .i64 t.p) (.string t.n) (.int .i64 t.s) (.slice la ln lc) (.slice ka kn kc)⟩
      | false =>
       rw [if_neg (by decide)]
       cases a6 : hd sOpen ts with
       | true =>
        rw [if_pos rfl]
        have hlt : ts.tail.length < f := by have := hd_tail a6; omega
        cases h3 : psess nameB f ts.tail with
        | bad er r =>
         show Calls _ _ _ _ (Parsed P tb E w (PR.bad er r) _)
         go_enter Tryz.func68, Tryz.ntmps68
         go_upto_region 1 with fail
         rw [HW1.out]
         go_wp2_with (first | (go_at_call 50; refine (noH HP HB).mono ?_; rintro _ wn ⟨rfl, HP, HB⟩) | (go_at_call 50; refine (yesH HP HB).mono ?_; rintro _ wn ⟨rfl, HP, HB⟩) | (go_at_call 68; refine (HS.out _ _ hlt (HE.out.but HB.out hBP) HP.out).mono ?_; rw [h3]; rintro en wn ⟨rfl, hb⟩; replace HB := hid (HB.out.trans hb); clear hb))
         exact ⟨rfl, rfl, (But.of HB1.out).trans HB.out⟩
        | ok t r3 =>
         show Calls _ _ _ _ (Parsed P tb E w ((need sShut r3).bind _) _)
         cases h4 : need sShut r3 with
         | bad er r =>
          show Calls _ _ _ _ (Parsed P tb E w (PR.bad er r) _)
          go_enter Tryz.func68, Tryz.ntmps68
          go_upto_region 1 with fail
          rw [HW1.out]
          go_upto_region 15 with (first | (go_at_call 50; refine (noH HP HB).mono ?_; rintro _ wn ⟨rfl, HP, HB⟩) | (go_at_call 50; refine (yesH HP HB).mono ?_; rintro _ wn ⟨rfl, HP, HB⟩) | (go_at_call 68; refine (HS.out _ _ hlt (HE.out.but HB.out hBP) HP.out).mono ?_; rw [h3]; rintro en wn ⟨⟨v, rfl, hg⟩, hp, hb⟩; obtain ⟨la, ln, lc, ka, kn, kc, rfl⟩ := hg.open; have HPn := hid hp; have HG := hid (hg.mono (show W1.heap.size <= _ from HB.out.size)); have HBn := hid (HB.out.trans hb); clear hg; clear hp hb HP HB; have HP := HPn; have HB := HBn; clear HPn HBn; skip))
          obtain ⟨W4, hW4⟩ := ex1 (wn.alloc (.cells #[.int .i64 t.k, .int .i64 t.p, .string t.n, .int .i64 t.s, .slice la ln lc, .slice ka kn kc] 28))
          have hb4 := (made hW4).1
          have x4 := (made hW4).2
          have hl4 : wn.heap.size < W4.heap.size := (gl x4)
          have hsz : W1.heap.size <= wn.heap.size := HB.out.size
          have hn4 : wn.heap.size ≠ P := by omega
          have HPn := hid (HP.out.to hb4)
          have HBn := hid (HB.out.to hb4)
          have HC : Hid (But P W4 W4) := hid (But.refl _ _)
          have HX4 := hid x4
          have HGT := hid (HG.out.but (But.of (P := P) hb4) (Nat.lt_trans hP hs1))
          rw [hW4]
          clear HP HB HG hW4 hb4 x4
          have HP := HPn
          have HB := HBn
          clear HPn HBn
          obtain ⟨T6, hT6⟩ := ex1 (wn.heap.size)
          rw [hT6] at HX4 hl4 hn4 hsz |-
          clear hT6
          go_wp2_with (go_at_call 52; refine (expB HP HB h4).mono ?_; rintro _ wn ⟨rfl, HB⟩)
          exact ⟨rfl, rfl, (But.of HB1.out).trans HB.out⟩
         | ok un r =>
          show Calls _ _ _ _ (Parsed P tb E w (PR.ok t r) _)
          go_enter Tryz.func68, Tryz.ntmps68
          go_upto_region 1 with fail
          rw [HW1.out]
          go_upto_region 15 with (first | (go_at_call 50; refine (noH HP HB).mono ?_; rintro _ wn ⟨rfl, HP, HB⟩) | (go_at_call 50; refine (yesH HP HB).mono ?_; rintro _ wn ⟨rfl, HP, HB⟩) | (go_at_call 68; refine (HS.out _ _ hlt (HE.out.but HB.out hBP) HP.out).mono ?_; rw [h3]; rintro en wn ⟨⟨v, rfl, hg⟩, hp, hb⟩; obtain ⟨la, ln, lc, ka, kn, kc, rfl⟩ := hg.open; have HPn := hid hp; have HG := hid (hg.mono (show W1.heap.size <= _ from HB.out.size)); have HBn := hid (HB.out.trans hb); clear hg; clear hp hb HP HB; have HP := HPn; have HB := HBn; clear HPn HBn; skip))
          obtain ⟨W4, hW4⟩ := ex1 (wn.alloc (.cells #[.int .i64 t.k, .int .i64 t.p, .string t.n, .int .i64 t.s, .slice la ln lc, .slice ka kn kc] 28))
          have hb4 := (made hW4).1
          have x4 := (made hW4).2
          have hl4 : wn.heap.size < W4.heap.size := (gl x4)
          have hsz : W1.heap.size <= wn.heap.size := HB.out.size
          have hn4 : wn.heap.size ≠ P := by omega
          have HPn := hid (HP.out.to hb4)
          have HBn := hid (HB.out.to hb4)
          have HC : Hid (But P W4 W4) := hid (But.refl _ _)
          have HX4 := hid x4
          have HGT := hid (HG.out.but (But.of (P := P) hb4) (Nat.lt_trans hP hs1))
          rw [hW4]
          clear HP HB HG hW4 hb4 x4
          have HP := HPn
          have HB := HBn
          clear HPn HBn
          obtain ⟨T6, hT6⟩ := ex1 (wn.heap.size)
          rw [hT6] at HX4 hl4 hn4 hsz |-
          clear hT6
          go_wp2_with (go_at_call 52; refine (expect_any P tb E _ (by decide +kernel) _ _ HP.out).mono ?_; rw [h4]; rintro en wn ⟨⟨_, rfl, _⟩, hp, hb⟩; replace HP := hid hp; replace HB := hid (HB.out.trans hb); replace HC := hid (HC.out.trans hb); clear hp hb; obtain ⟨⟨d0, d1, d2, d3, d4, d5⟩, -⟩ := c6 ((HC.out.block T6 hl4 hn4).trans HX4.out); have hx9 := (HB.out.block w.heap.size hs1 (Nat.ne_of_gt hP)).trans HX1.out; obtain ⟨⟨q0, q1, q2, q3, q4, q5⟩, z0, z1, z2, z3, z4, z5⟩ := c6 hx9; have HX9 := hid hx9; clear hx9)
          have HG := hid (HGT.out.but HC.out (Nat.lt_trans hP hs1))
          have hx8 := fill6 HX9.out (.int .i64 t.k) (.int .i64 t.p) (.string t.n) (.int .i64 t.s) (.slice la ln lc) (.slice ka kn kc)
          obtain ⟨⟨y0, y1, y2, y3, y4, y5⟩, -⟩ := c6 hx8
          refine bodyPost_ret (v := .agg #[.int .i64 t.k, .int .i64 t.p, .string t.n, .int .i64 t.s, .slice la ln lc, .slice ka kn kc]) (by simp [results, Tryz.results68, go_sem, y0, y1, y2, y3, y4, y5]) rfl ?_
          exact ⟨⟨_, rfl, (HG.out.put6 hs1 (.int .i64 t.k) (.int .i64 t.p) (.string t.n) (.int .i64 t.s) (.slice la ln lc) (.slice ka kn kc)).mono (Nat.le_of_lt hs1)⟩, HP.out.oth (X := w.heap.size) (fun j hj => put6_oth hj (.int .i64 t.k) (.int .i64 t.p) (.string t.n) (.int .i64 t.s) (.slice la ln lc) (.slice ka kn kc)) (put6_size _ _ (.int .i64 t.k) (.int .i64 t.p) (.string t.n) (.int .i64 t.s) (.slice la ln lc) (.slice ka kn kc)) (Nat.ne_of_gt hP) htb, ((But.of HB1.out).trans HB.out).put6 (Nat.le_refl _) (.int .i64 t.k) (.int .i64 t.p) (.string t.n) (.int .i64 t.s) (.slice la ln lc) (.slice ka kn kc)⟩
       | false =>
        rw [if_neg (by decide)]
        cases h3 : pvar nameB ts with
        | bad er r =>
         go_enter Tryz.func68, Tryz.ntmps68
         go_upto_region 1 with fail
         rw [HW1.out]
         go_wp2_with (first | (go_at_call 50; refine (noH HP HB).mono ?_; rintro _ wn ⟨rfl, HP, HB⟩) | (go_at_call 96; refine (pvar_any P tb E _ B _ (HE.out.but HB.out hBP) HP.out).mono ?_; rw [h3]; rintro en wn ⟨rfl, hb⟩; replace HB := hid (HB.out.trans hb); clear hb))
         exact ⟨rfl, rfl, (But.of HB1.out).trans HB.out⟩
        | ok t r =>
         go_enter Tryz.func68, Tryz.ntmps68
         go_upto_region 1 with fail
         rw [HW1.out]
         go_wp2_with (first | (go_at_call 50; refine (noH HP HB).mono ?_; rintro _ wn ⟨rfl, HP, HB⟩) | (go_at_call 96; refine (pvar_any P tb E _ B _ (HE.out.but HB.out hBP) HP.out).mono ?_; rw [h3]; rintro en wn ⟨⟨v, rfl, hg⟩, hp, hb⟩; obtain ⟨la, ln, lc, ka, kn, kc, rfl⟩ := hg.open; have HPn := hid hp; have HG := hid (hg.mono (show W1.heap.size <= _ from HB.out.size)); have HBn := hid (HB.out.trans hb); clear hg; clear hp hb HP HB; have HP := HPn; have HB := HBn; clear HPn HBn; have hx9 := (HB.out.block w.heap.size hs1 (Nat.ne_of_gt hP)).trans HX1.out; obtain ⟨⟨q0, q1, q2, q3, q4, q5⟩, z0, z1, z2, z3, z4, z5⟩ := c6 hx9; have HX9 := hid hx9; clear hx9))
         have hx8 := fill6 HX9.out (.int .i64 t.k) (.int .i64 t.p) (.string t.n) (.int .i64 t.s) (.slice la ln lc) (.slice ka kn kc)
         obtain ⟨⟨y0, y1, y2, y3, y4, y5⟩, -⟩ := c6 hx8
         refine bodyPost_ret (v := .agg #[.int .i64 t.k, .int .i64 t.p, .string t.n, .int .i64 t.s, .slice la ln lc, .slice ka kn kc]) (by simp [results, Tryz.results68, go_sem, y0, y1, y2, y3, y4, y5]) rfl ?_
         exact ⟨⟨_, rfl, (HG.out.put6 hs1 (.int .i64 t.k) (.int .i64 t.p) (.string t.n) (.int .i64 t.s) (.slice la ln lc) (.slice ka kn kc)).mono (Nat.le_of_lt hs1)⟩, HP.out.oth (X := w.heap.size) (fun j hj => put6_oth hj (.int .i64 t.k) (.int .i64 t.p) (.string t.n) (.int .i64 t.s) (.slice la ln lc) (.slice ka kn kc)) (put6_size _ _ (.int .i64 t.k) (.int .i64 t.p) (.string t.n) (.int .i64 t.s) (.slice la ln lc) (.slice ka kn kc)) (Nat.ne_of_gt hP) htb, ((But.of HB1.out).trans HB.out).put6 (Nat.le_refl _) (.int .i64 t.k) (.int .i64 t.p) (.string t.n) (.int .i64 t.s) (.slice la ln lc) (.slice ka kn kc)⟩
theorem psess_ok (P tb : Nat) (E : Int) (B : Nat) (hBP : B <= P) : ∀ f, SessOK P tb E B (psess nameB f) f
 | 0, _, _, h, _, _ => absurd h (Nat.not_lt_zero _)
 | f + 1, ts, W, h, he, hp => psessS_any P tb E ts B W he hBP hp f h (psess_ok P tb E B hBP f)
end Go.Proofs.YtejaboajgecpaaaGreatDoor
