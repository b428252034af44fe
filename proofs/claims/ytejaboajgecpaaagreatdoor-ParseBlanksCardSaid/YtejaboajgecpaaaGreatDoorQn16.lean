/- Parsing: lemmas. -/
import Derived.Test.YtejaboajgecpaaaGreatDoorQn13
import Derived.Test.YtejaboajgecpaaaGreatDoorQn15
set_option maxHeartbeats 16000000
set_option maxRecDepth 100000
namespace Go.Proofs.YtejaboajgecpaaaGreatDoor
open Go.Lib (hid)
open Go.RowKit Go.Shelf
def psingS (PF SC : List Tk -> PR Pr) (NF : ByteArray -> List Tk -> PR Pr) (ts : List Tk) : PR Pr :=
 if hd sStop ts = true then .ok (.mk 1 ⟨#[]⟩ ⟨#[]⟩ [] [] zT []) ts.tail
 else if hd sOpen ts = true then (PF ts.tail).bind fun p r => (need sShut r).bind fun _ r => .ok p r
 else if hd sNew ts = true then SC ts.tail
 else (pname nameB ts).bind fun c r => NF c r
def ProcOK (P tb : Nat) (E : Int) (B : Nat) (S : List Tk -> PR Pr) (n : Nat) : Prop := ∀ (ts : List Tk) (W : World), ts.length < n -> Env B W -> PaIs P tb E ts W -> Calls Tryz.prog 31 #[.pointer (some ⟨P, 0, none⟩)] W (Parsed P tb E W (S ts) (GPr W.heap.size))
def ScopeOK (P tb : Nat) (E : Int) (B : Nat) (S : List Tk -> PR Pr) (n : Nat) : Prop := ∀ (ts : List Tk) (W : World), ts.length < n -> Env B W -> PaIs P tb E ts W -> Calls Tryz.prog 117 #[.pointer (some ⟨P, 0, none⟩)] W (Parsed P tb E W (S ts) (GPr W.heap.size))
def NamedOK (P tb : Nat) (E : Int) (B : Nat) (S : ByteArray -> List Tk -> PR Pr) (n : Nat) : Prop := ∀ (c : ByteArray) (ts : List Tk) (W : World), c.size <= maxLen -> ts.length < n -> Env B W -> PaIs P tb E ts W -> Calls Tryz.prog 118 #[.pointer (some ⟨P, 0, none⟩), .string c] W (Parsed P tb E W (S c ts) (GPr W.heap.size))
theorem prs_nil (B : Nat -> Prop) (w : World) : PrSl B w (.slice none 0 0) [] := ⟨.inl ⟨⟨_, _, rfl⟩, rfl⟩, Nat.zero_le _⟩
theorem psing_any (P tb : Nat) (E : Int) (ts : List Tk) (B : Nat) (w : World) (he : Env B w) (hBP : B <= P) (h : PaIs P tb E ts w) (PF SC : List Tk -> PR Pr) (NF : ByteArray -> List Tk -> PR Pr) (n : Nat) (hn : ts.length <= n) (hF : ProcOK P tb E B PF n) (hS : ScopeOK P tb E B SC n) (hN : NamedOK P tb E B NF n) :
 Calls Tryz.prog 91 #[.pointer (some ⟨P, 0, none⟩)] w (Parsed P tb E w (psingS PF SC NF ts) (GPr w.heap.size)) := by
 obtain ⟨W1, hW1⟩ := ex1 (w.alloc (.cells z12 31))
 have hb1 := (made hW1).1
 have x1 := (made hW1).2
 have hs1 : w.heap.size < W1.heap.size := (gl x1)
 have hP : P < w.heap.size := h.lt
 have htb : tb ≠ w.heap.size := Nat.ne_of_lt h.tlt
 have HTB := hid h.tlt
 have HP : Hid (PaIs P tb E ts W1) := hid (h.to hb1)
 have HB : Hid (But P W1 W1) := hid (But.refl _ _)
 have HW1 := hid hW1
 have HB1 := hid hb1
 have HX1 := hid x1
 have HE := hid (he.to hb1)
 clear hW1 hb1 x1 he h
 unfold psingS
 have HF := hid hF
 have HS := hid hS
 have HN := hid hN
 clear hF hS hN
 cases h1 : hd sStop ts with
 | true =>
  rw [if_pos rfl]
  go_enter Tryz.func91, Tryz.ntmps91
  go_upto_region 1 with fail
  rw [HW1.out]
  go_wp2_with (go_at_call 50; refine (yesH HP HB).mono ?_; rintro _ wn ⟨rfl, HP, HB⟩; have hx9 := (HB.out.block w.heap.size hs1 (Nat.ne_of_gt hP)).trans HX1.out; obtain ⟨⟨q0, q1, q2, q3, q4, q5, q6, q7, q8, q9, q10, q11⟩, z0, z1, z2, z3, z4, z5, z6, z7, z8, z9, z10, z11⟩ := c12p hx9; have HX9 := hid hx9; clear hx9)
  have hx8 := fill12 HX9.out (.int .i64 1) (.string ⟨#[]⟩) (.string ⟨#[]⟩) (.slice none 0 0) (.slice none 0 0) (.int .i64 0) (.int .i64 0) (.string ⟨#[]⟩) (.int .i64 0) (.slice none 0 0) (.slice none 0 0) (.slice none 0 0)
  obtain ⟨⟨y0, y1, y2, y3, y4, y5, y6, y7, y8, y9, y10, y11⟩, -⟩ := c12p hx8
  refine bodyPost_ret (v := .agg #[.int .i64 1, .string ⟨#[]⟩, .string ⟨#[]⟩, .slice none 0 0, .slice none 0 0, .int .i64 0, .int .i64 0, .string ⟨#[]⟩, .int .i64 0, .slice none 0 0, .slice none 0 0, .slice none 0 0]) (by simp [results, Tryz.results91, go_sem, y0, y1, y2, y3, y4, y5, y6, y7, y8, y9, y10, y11]) rfl ?_
  exact ⟨⟨_, rfl, GPr.node (t := zT) (Nat.zero_le _) (Nat.zero_le _) (strs_nil _ _) (vls_nil _ _) (zT_at _ _) (prs_nil _ _)⟩, HP.out.oth (X := w.heap.size) (fun j hj => put12_oth hj (.int .i64 1) (.string ⟨#[]⟩) (.string ⟨#[]⟩) (.slice none 0 0) (.slice none 0 0) (.int .i64 0) (.int .i64 0) (.string ⟨#[]⟩) (.int .i64 0) (.slice none 0 0) (.slice none 0 0) (.slice none 0 0)) (put12_size _ _ (.int .i64 1) (.string ⟨#[]⟩) (.string ⟨#[]⟩) (.slice none 0 0) (.slice none 0 0) (.int .i64 0) (.int .i64 0) (.string ⟨#[]⟩) (.int .i64 0) (.slice none 0 0) (.slice none 0 0) (.slice none 0 0)) (Nat.ne_of_gt hP) htb, ((But.of HB1.out).trans HB.out).put12 (Nat.le_refl _) (.int .i64 1) (.string ⟨#[]⟩) (.string ⟨#[]⟩) (.slice none 0 0) (.slice none 0 0) (.int .i64 0) (.int .i64 0) (.string ⟨#[]⟩) (.int .i64 0) (.slice none 0 0) (.slice none 0 0) (.slice none 0 0)⟩
 | false =>
  rw [if_neg (by decide)]
  cases h2 : hd sOpen ts with
  | true =>
   rw [if_pos rfl]
   have hlt : ts.tail.length < n := by have := hd_tail h2; omega
   cases h3 : PF ts.tail with
   | bad er r =>
    show Calls _ _ _ _ (Parsed P tb E w (PR.bad er r) _)
    go_enter Tryz.func91, Tryz.ntmps91
    go_upto_region 1 with fail
    rw [HW1.out]
    go_wp2_with (first | (go_at_call 50; refine (noH HP HB).mono ?_; rintro _ wn ⟨rfl, HP, HB⟩) | (go_at_call 50; refine (yesH HP HB).mono ?_; rintro _ wn ⟨rfl, HP, HB⟩) | (go_at_call 31; refine (HF.out _ _ hlt (HE.out.but HB.out hBP) HP.out).mono ?_; rw [h3]; rintro en wn ⟨rfl, hb⟩; replace HB := hid (HB.out.trans hb); clear hb))
    exact ⟨rfl, rfl, (But.of HB1.out).trans HB.out⟩
   | ok p r3 =>
    show Calls _ _ _ _ (Parsed P tb E w ((need sShut r3).bind _) _)
    cases h4 : need sShut r3 with
    | bad er r =>
     show Calls _ _ _ _ (Parsed P tb E w (PR.bad er r) _)
     go_enter Tryz.func91, Tryz.ntmps91
     go_upto_region 1 with fail
     rw [HW1.out]
     go_upto_region 5 with (first | (go_at_call 50; refine (noH HP HB).mono ?_; rintro _ wn ⟨rfl, HP, HB⟩) | (go_at_call 50; refine (yesH HP HB).mono ?_; rintro _ wn ⟨rfl, HP, HB⟩) | (go_at_call 31; refine (HF.out _ _ hlt (HE.out.but HB.out hBP) HP.out).mono ?_; rw [h3]; rintro en wn ⟨⟨v, rfl, hg⟩, hp, hb⟩; obtain ⟨la, ln, lc, aa, an, ac, ta, tn, tc, ua, un, uc, ka, kn, kc, rfl⟩ := hg.open; have HPn := hid hp; have HG := hid (hg.mono (show W1.heap.size <= _ from HB.out.size)); have HBn := hid (HB.out.trans hb); clear hg; clear hp hb HP HB; have HP := HPn; have HB := HBn; clear HPn HBn; skip))
     obtain ⟨W4, hW4⟩ := ex1 (wn.alloc (.cells #[.int .i64 p.k, .string p.c, .string p.x, .slice la ln lc, .slice aa an ac, .int .i64 p.t.k, .int .i64 p.t.p, .string p.t.n, .int .i64 p.t.s, .slice ta tn tc, .slice ua un uc, .slice ka kn kc] 31))
     have hb4 := (made hW4).1
     have x4 := (made hW4).2
     have hl4 : wn.heap.size < W4.heap.size := (gl x4)
     have hsz : W1.heap.size <= wn.heap.size := HB.out.size
     have hn4 : wn.heap.size ≠ P := by omega
     have HPn := hid (HP.out.to hb4)
     have HBn := hid (HB.out.to hb4)
     have HC : Hid (But P W4 W4) := hid (But.refl _ _)
     have HX4 := hid x4
     have HGT := hid (HG.out.but (But.of (P := P) hb4) (Nat.lt_trans hP hs1))
     rw [hW4]
     clear HP HB HG hW4 hb4 x4
     have HP := HPn
     have HB := HBn
     clear HPn HBn
     obtain ⟨T6, hT6⟩ := ex1 (wn.heap.size)
     rw [hT6] at HX4 hl4 hn4 hsz |-
     clear hT6
     go_wp2_with (go_at_call 52; refine (expB HP HB h4).mono ?_; rintro _ wn ⟨rfl, HB⟩)
     exact ⟨rfl, rfl, (But.of HB1.out).trans HB.out⟩
    | ok un r =>
     show Calls _ _ _ _ (Parsed P tb E w (PR.ok p r) _)
     go_enter Tryz.func91, Tryz.ntmps91
     go_upto_region 1 with fail
     rw [HW1.out]
     go_upto_region 5 with (first | (go_at_call 50; refine (noH HP HB).mono ?_; rintro _ wn ⟨rfl, HP, HB⟩) | (go_at_call 50; refine (yesH HP HB).mono ?_; rintro _ wn ⟨rfl, HP, HB⟩) | (go_at_call 31; refine (HF.out _ _ hlt (HE.out.but HB.out hBP) HP.out).mono ?_; rw [h3]; rintro en wn ⟨⟨v, rfl, hg⟩, hp, hb⟩; obtain ⟨la, ln, lc, aa, an, ac, ta, tn, tc, ua, un, uc, ka, kn, kc, rfl⟩ := hg.open; have HPn := hid hp; have HG := hid (hg.mono (show W1.heap.size <= _ from HB.out.size)); have HBn := hid (HB.out.trans hb); clear hg; clear hp hb HP HB; have HP := HPn; have HB := HBn; clear HPn HBn; skip))
     obtain ⟨W4, hW4⟩ := ex1 (wn.alloc (.cells #[.int .i64 p.k, .string p.c, .string p.x, .slice la ln lc, .slice aa an ac, .int .i64 p.t.k, .int .i64 p.t.p, .string p.t.n, .int .i64 p.t.s, .slice ta tn tc, .slice ua un uc, .slice ka kn kc] 31))
     have hb4 := (made hW4).1
     have x4 := (made hW4).2
     have hl4 : wn.heap.size < W4.heap.size := (gl x4)
     have hsz : W1.heap.size <= wn.heap.size := HB.out.size
     have hn4 : wn.heap.size ≠ P := by omega
     have HPn := hid (HP.out.to hb4)
     have HBn := hid (HB.out.to hb4)
     have HC : Hid (But P W4 W4) := hid (But.refl _ _)
     have HX4 := hid x4
     have HGT := hid (HG.out.but (But.of (P := P) hb4) (Nat.lt_trans hP hs1))
     rw [hW4]
     clear HP HB HG hW4 hb4 x4
     have HP := HPn
     have HB := HBn
     clear HPn HBn
     obtain ⟨T6, hT6⟩ := ex1 (wn.heap.size)
     rw [hT6] at HX4 hl4 hn4 hsz |-
     clear hT6
     go_wp2_with (go_at_call 52; refine (expect_any P tb E _ (by decide +kernel) _ _ HP.out).mono ?_; rw [h4]; rintro en wn ⟨⟨_, rfl, _⟩, hp, hb⟩; replace HP := hid hp; replace HB := hid (HB.out.trans hb); replace HC := hid (HC.out.trans hb); clear hp hb; obtain ⟨⟨d0, d1, d2, d3, d4, d5, d6, d7, d8, d9, d10, d11⟩, -⟩ := c12p ((HC.out.block T6 hl4 hn4).trans HX4.out); have hx9 := (HB.out.block w.heap.size hs1 (Nat.ne_of_gt hP)).trans HX1.out; obtain ⟨⟨q0, q1, q2, q3, q4, q5, q6, q7, q8, q9, q10, q11⟩, z0, z1, z2, z3, z4, z5, z6, z7, z8, z9, z10, z11⟩ := c12p hx9; have HX9 := hid hx9; clear hx9)
     have HG := hid (HGT.out.but HC.out (Nat.lt_trans hP hs1))
     have hx8 := fill12 HX9.out (.int .i64 p.k) (.string p.c) (.string p.x) (.slice la ln lc) (.slice aa an ac) (.int .i64 p.t.k) (.int .i64 p.t.p) (.string p.t.n) (.int .i64 p.t.s) (.slice ta tn tc) (.slice ua un uc) (.slice ka kn kc)
     obtain ⟨⟨y0, y1, y2, y3, y4, y5, y6, y7, y8, y9, y10, y11⟩, -⟩ := c12p hx8
     refine bodyPost_ret (v := .agg #[.int .i64 p.k, .string p.c, .string p.x, .slice la ln lc, .slice aa an ac, .int .i64 p.t.k, .int .i64 p.t.p, .string p.t.n, .int .i64 p.t.s, .slice ta tn tc, .slice ua un uc, .slice ka kn kc]) (by simp [results, Tryz.results91, go_sem, y0, y1, y2, y3, y4, y5, y6, y7, y8, y9, y10, y11]) rfl ?_
     exact ⟨⟨_, rfl, (HG.out.put12 hs1 (.int .i64 p.k) (.string p.c) (.string p.x) (.slice la ln lc) (.slice aa an ac) (.int .i64 p.t.k) (.int .i64 p.t.p) (.string p.t.n) (.int .i64 p.t.s) (.slice ta tn tc) (.slice ua un uc) (.slice ka kn kc)).mono (Nat.le_of_lt hs1)⟩, HP.out.oth (X := w.heap.size) (fun j hj => put12_oth hj (.int .i64 p.k) (.string p.c) (.string p.x) (.slice la ln lc) (.slice aa an ac) (.int .i64 p.t.k) (.int .i64 p.t.p) (.string p.t.n) (.int .i64 p.t.s) (.slice ta tn tc) (.slice ua un uc) (.slice ka kn kc)) (put12_size _ _ (.int .i64 p.k) (.string p.c) (.string p.x) (.slice la ln lc) (.slice aa an ac) (.int .i64 p.t.k) (.int .i64 p.t.p) (.string p.t.n) (.int .i64 p.t.s) (.slice ta tn tc) (.slice ua un uc) (.slice ka kn kc)) (Nat.ne_of_gt hP) htb, ((But.of HB1.out).trans HB.out).put12 (Nat.le_refl _) (.int .i64 p.k) (.string p.c) (.string p.x) (.slice la ln lc) (.slice aa an ac) (.int .i64 p.t.k) (.int .i64 p.t.p) (.string p.t.n) (.int .i64 p.t.s) (.slice ta tn tc) (.slice ua un uc) (.slice ka kn kc)⟩
  | false =>
   rw [if_neg (by decide)]
   cases h5 : hd sNew ts with
   | true =>
    rw [if_pos rfl]
    have hlt : ts.tail.length < n := by have := hd_tail h5; omega
    cases h6 : SC ts.tail with
    | bad er r =>
     go_enter Tryz.func91, Tryz.ntmps91
     go_upto_region 1 with fail
     rw [HW1.out]
     go_wp2_with (first | (go_at_call 50; refine (noH HP HB).mono ?_; rintro _ wn ⟨rfl, HP, HB⟩) | (go_at_call 50; refine (yesH HP HB).mono ?_; rintro _ wn ⟨rfl, HP, HB⟩) | (go_at_call 117; refine (HS.out _ _ hlt (HE.out.but HB.out hBP) HP.out).mono ?_; rw [h6]; rintro en wn ⟨rfl, hb⟩; replace HB := hid (HB.out.trans hb); clear hb))
     exact ⟨rfl, rfl, (But.of HB1.out).trans HB.out⟩
    | ok p r =>
     go_enter Tryz.func91, Tryz.ntmps91
     go_upto_region 1 with fail
     rw [HW1.out]
     go_wp2_with (first | (go_at_call 50; refine (noH HP HB).mono ?_; rintro _ wn ⟨rfl, HP, HB⟩) | (go_at_call 50; refine (yesH HP HB).mono ?_; rintro _ wn ⟨rfl, HP, HB⟩) | (go_at_call 117; refine (HS.out _ _ hlt (HE.out.but HB.out hBP) HP.out).mono ?_; rw [h6]; rintro en wn ⟨⟨v, rfl, hg⟩, hp, hb⟩; obtain ⟨la, ln, lc, aa, an, ac, ta, tn, tc, ua, un, uc, ka, kn, kc, rfl⟩ := hg.open; have HPn := hid hp; have HG := hid (hg.mono (show W1.heap.size <= _ from HB.out.size)); have HBn := hid (HB.out.trans hb); clear hg; clear hp hb HP HB; have HP := HPn; have HB := HBn; clear HPn HBn; have hx9 := (HB.out.block w.heap.size hs1 (Nat.ne_of_gt hP)).trans HX1.out; obtain ⟨⟨q0, q1, q2, q3, q4, q5, q6, q7, q8, q9, q10, q11⟩, z0, z1, z2, z3, z4, z5, z6, z7, z8, z9, z10, z11⟩ := c12p hx9; have HX9 := hid hx9; clear hx9))
     have hx8 := fill12 HX9.out (.int .i64 p.k) (.string p.c) (.string p.x) (.slice la ln lc) (.slice aa an ac) (.int .i64 p.t.k) (.int .i64 p.t.p) (.string p.t.n) (.int .i64 p.t.s) (.slice ta tn tc) (.slice ua un uc) (.slice ka kn kc)
     obtain ⟨⟨y0, y1, y2, y3, y4, y5, y6, y7, y8, y9, y10, y11⟩, -⟩ := c12p hx8
     refine bodyPost_ret (v := .agg #[.int .i64 p.k, .string p.c, .string p.x, .slice la ln lc, .slice aa an ac, .int .i64 p.t.k, .int .i64 p.t.p, .string p.t.n, .int .i64 p.t.s, .slice ta tn tc, .slice ua un uc, .slice ka kn kc]) (by simp [results, Tryz.results91, go_sem, y0, y1, y2, y3, y4, y5, y6, y7, y8, y9, y10, y11]) rfl ?_
     exact ⟨⟨_, rfl, (HG.out.put12 hs1 (.int .i64 p.k) (.string p.c) (.string p.x) (.slice la ln lc) (.slice aa an ac) (.int .i64 p.t.k) (.int .i64 p.t.p) (.string p.t.n) (.int .i64 p.t.s) (.slice ta tn tc) (.slice ua un uc) (.slice ka kn kc)).mono (Nat.le_of_lt hs1)⟩, HP.out.oth (X := w.heap.size) (fun j hj => put12_oth hj (.int .i64 p.k) (.string p.c) (.string p.x) (.slice la ln lc) (.slice aa an ac) (.int .i64 p.t.k) (.int .i64 p.t.p) (.string p.t.n) (.int .i64 p.t.s) (.slice ta tn tc) (.slice ua un uc) (.slice ka kn kc)) (put12_size _ _ (.int .i64 p.k) (.string p.c) (.string p.x) (.slice la ln lc) (.slice aa an ac) (.int .i64 p.t.k) (.int .i64 p.t.p) (.string p.t.n) (.int .i64 p.t.s) (.slice ta tn tc) (.slice ua un uc) (.slice ka kn kc)) (Nat.ne_of_gt hP) htb, ((But.of HB1.out).trans HB.out).put12 (Nat.le_refl _) (.int .i64 p.k) (.string p.c) (.string p.x) (.slice la ln lc) (.slice aa an ac) (.int .i64 p.t.k) (.int .i64 p.t.p) (.string p.t.n) (.int .i64 p.t.s) (.slice ta tn tc) (.slice ua un uc) (.slice ka kn kc)⟩
   | false =>
    rw [if_neg (by decide)]
    cases h7 : pname nameB ts with
    | bad er r =>
     show Calls _ _ _ _ (Parsed P tb E w (PR.bad er r) _)
     go_enter Tryz.func91, Tryz.ntmps91
     go_upto_region 1 with fail
     rw [HW1.out]
     go_wp2_with (first | (go_at_call 50; refine (noH HP HB).mono ?_; rintro _ wn ⟨rfl, HP, HB⟩) | (go_at_call 78; refine (namB (HE.out.but HB.out hBP) HP HB h7).mono ?_; rintro _ wn ⟨rfl, HB⟩))
     exact ⟨rfl, rfl, (But.of HB1.out).trans HB.out⟩
    | ok c r7 =>
     have hlt : r7.length < n := by have := pname_le h7; omega
     show Calls _ _ _ _ (Parsed P tb E w (NF c r7) _)
     cases h8 : NF c r7 with
     | bad er r =>
      go_enter Tryz.func91, Tryz.ntmps91
      go_upto_region 1 with fail
      rw [HW1.out]
      go_wp2_with (first | (go_at_call 50; refine (noH HP HB).mono ?_; rintro _ wn ⟨rfl, HP, HB⟩) | (go_at_call 78; refine (namH (HE.out.but HB.out hBP) HP HB h7).mono ?_; rintro _ wn ⟨rfl, hnz, HP, HB⟩) | (go_at_call 118; refine (HN.out c _ _ hnz hlt (HE.out.but HB.out hBP) HP.out).mono ?_; rw [h8]; rintro en wn ⟨rfl, hb⟩; replace HB := hid (HB.out.trans hb); clear hb))
      exact ⟨rfl, rfl, (But.of HB1.out).trans HB.out⟩
     | ok p r =>
      go_enter Tryz.func91, Tryz.ntmps91
      go_upto_region 1 with fail
      rw [HW1.out]
      go_wp2_with (first | (go_at_call 50; refine (noH HP HB).mono ?_; rintro _ wn ⟨rfl, HP, HB⟩) | (go_at_call 78; refine (namH (HE.out.but HB.out hBP) HP HB h7).mono ?_; rintro _ wn ⟨rfl, hnz, HP, HB⟩) | (go_at_call 118; refine (HN.out c _ _ hnz hlt (HE.out.but HB.out hBP) HP.out).mono ?_; rw [h8]; rintro en wn ⟨⟨v, rfl, hg⟩, hp, hb⟩; obtain ⟨la, ln, lc, aa, an, ac, ta, tn, tc, ua, un, uc, ka, kn, kc, rfl⟩ := hg.open; have HPn := hid hp; have HG := hid (hg.mono (show W1.heap.size <= _ from HB.out.size)); have HBn := hid (HB.out.trans hb); clear hg; clear hp hb HP HB; have HP := HPn; have HB := HBn; clear HPn HBn; have hx9 := (HB.out.block w.heap.size hs1 (Nat.ne_of_gt hP)).trans HX1.out; obtain ⟨⟨q0, q1, q2, q3, q4, q5, q6, q7, q8, q9, q10, q11⟩, z0, z1, z2, z3, z4, z5, z6, z7, z8, z9, z10, z11⟩ := c12p hx9; have HX9 := hid hx9; clear hx9))
      have hx8 := fill12 HX9.out (.int .i64 p.k) (.string p.c) (.string p.x) (.slice la ln lc) (.slice aa an ac) (.int .i64 p.t.k) (.int .i64 p.t.p) (.string p.t.n) (.int .i64 p.t.s) (.slice ta tn tc) (.slice ua un uc) (.slice ka kn kc)
      obtain ⟨⟨y0, y1, y2, y3, y4, y5, y6, y7, y8, y9, y10, y11⟩, -⟩ := c12p hx8
      refine bodyPost_ret (v := .agg #[.int .i64 p.k, .string p.c, .string p.x, .slice la ln lc, .slice aa an ac, .int .i64 p.t.k, .int .i64 p.t.p, .string p.t.n, .int .i64 p.t.s, .slice ta tn tc, .slice ua un uc, .slice ka kn kc]) (by simp [results, Tryz.results91, go_sem, y0, y1, y2, y3, y4, y5, y6, y7, y8, y9, y10, y11]) rfl ?_
      exact ⟨⟨_, rfl, (HG.out.put12 hs1 (.int .i64 p.k) (.string p.c) (.string p.x) (.slice la ln lc) (.slice aa an ac) (.int .i64 p.t.k) (.int .i64 p.t.p) (.string p.t.n) (.int .i64 p.t.s) (.slice ta tn tc) (.slice ua un uc) (.slice ka kn kc)).mono (Nat.le_of_lt hs1)⟩, HP.out.oth (X := w.heap.size) (fun j hj => put12_oth hj (.int .i64 p.k) (.string p.c) (.string p.x) (.slice la ln lc) (.slice aa an ac) (.int .i64 p.t.k) (.int .i64 p.t.p) (.string p.t.n) (.int .i64 p.t.s) (.slice ta tn tc) (.slice ua un uc) (.slice ka kn kc)) (put12_size _ _ (.int .i64 p.k) (.string p.c) (.string p.x) (.slice la ln lc) (.slice aa an ac) (.int .i64 p.t.k) (.int .i64 p.t.p) (.string p.t.n) (.int .i64 p.t.s) (.slice ta tn tc) (.slice ua un uc) (.slice ka kn kc)) (Nat.ne_of_gt hP) htb, ((But.of HB1.out).trans HB.out).put12 (Nat.le_refl _) (.int .i64 p.k) (.string p.c) (.string p.x) (.slice la ln lc) (.slice aa an ac) (.int .i64 p.t.k) (.int .i64 p.t.p) (.string p.t.n) (.int .i64 p.t.s) (.slice ta tn tc) (.slice ua un uc) (.slice ka kn kc)⟩
end Go.Proofs.YtejaboajgecpaaaGreatDoor
namespace Go.Proofs.YtejaboajgecpaaaGreatDoor
def RailSt (L : Nat -> Bool) (vals : Nat -> Value) (w : World) : List (Nat × (Value -> World -> Prop)) -> (World -> Prop) -> Prop
 | [], Cur => Cur w
 | (k, P) :: r, Cur => (L k = true /\ RailSt L vals w r (P (vals k))) \/ (L k = false /\ (∀ x ∈ r, L x.1 = false) /\ Cur w)
def curOf (vals : Nat -> Value) : List (Nat × (Value -> World -> Prop)) -> (World -> Prop) -> World -> Prop
 | [], Cur => Cur
 | (k, P) :: r, _ => curOf vals r (P (vals k))
structure Rail (dep : List (Nat × Nat)) (ps : List (Nat × Value)) (cs : List (Nat × (Value -> World -> Prop))) (S0 : World -> Prop) (L : Nat -> Bool) (vals : Nat -> Value) (w : World) : Prop where
 dn : ∀ x ∈ dep, L x.1 = true -> L x.2 = true
 pv : ∀ x ∈ ps, L x.1 = true -> vals x.1 = x.2
 st : RailSt L vals w cs S0
section
variable {L : Nat -> Bool} {vals : Nat -> Value} {w w' : World}
theorem RailSt.at_ {k : Nat} {P : Value -> World -> Prop} {post : List (Nat × (Value -> World -> Prop))} (hk : L k = false) : ∀ (pre : List (Nat × (Value -> World -> Prop))) (Cur : World -> Prop), RailSt L vals w (pre ++ (k, P) :: post) Cur -> (∀ j, pre.getLast? = some j -> L j.1 = true) ->
 curOf vals pre Cur w /\ (∀ j ∈ pre, L j.1 = true) /\ (∀ j ∈ post, L j.1 = false)
 | [], Cur, h, _ => by
  rcases h with ⟨h, _⟩ | ⟨_, h1, h2⟩
  ·rw [hk] at h; cases h
  ·exact ⟨h2, (fun _ h => by cases h), h1⟩
 | (i, Q) :: r, Cur, h, hl => by
  rcases h with ⟨h1, h2⟩ | ⟨h1, h2, _⟩
  ·obtain ⟨a, b, c⟩ := RailSt.at_ hk r _ h2 (fun j hj => hl j (by cases r with
    | nil => cases hj
    | cons x r => rw [List.getLast?_cons_cons]; exact hj))
   refine ⟨a, fun j hj => ?_, c⟩
   rcases List.mem_cons.1 hj with rfl | hj
   ·exact h1
   ·exact b j hj
  ·exfalso
   cases hr : ((i, Q) :: r).getLast? with
   | none => simp at hr
   | some j =>
    have hj := hl j hr
    rcases List.mem_cons.1 (List.mem_of_getLast? hr) with rfl | hm
    ·rw [h1] at hj; cases hj
    ·rw [h2 j (List.mem_append_left _ hm)] at hj; cases hj
theorem RailSt.off : ∀ (cs : List (Nat × (Value -> World -> Prop))) (Cur : World -> Prop), (∀ j ∈ cs, L j.1 = false) -> Cur w -> RailSt L vals w cs Cur
 | [], _, _, h => h
 | x :: r, _, ho, h => .inr ⟨ho x (by simp), fun j hj => ho j (by simp [hj]), h⟩
theorem RailSt.step {k : Nat} {P : Value -> World -> Prop} {v : Value} {post : List (Nat × (Value -> World -> Prop))} (hpost : ∀ j ∈ post, L j.1 = false) (hnp : ∀ j ∈ post, j.1 ≠ k) (hP : P v w') : ∀ (pre : List (Nat × (Value -> World -> Prop))) (Cur : World -> Prop), (∀ j ∈ pre, L j.1 = true) ->
 RailSt (updL L k) (updV vals k v) w' (pre ++ (k, P) :: post) Cur
 | [], Cur, _ => .inl ⟨updL_same _ _, RailSt.off _ _ (fun j hj => by rw [updL_ne (by simpa using hnp j hj)]; exact hpost j hj) (by rw [updV_same]; exact hP)⟩
 | (i, Q) :: r, Cur, h => .inl ⟨by simp [updL, h (i, Q) (by simp)], RailSt.step hpost hnp hP r _ (fun j hj => h j (by simp [hj]))⟩
theorem RailSt.other {k : Nat} {v : Value} : ∀ (cs : List (Nat × (Value -> World -> Prop))) (Cur : World -> Prop), (∀ j ∈ cs, j.1 ≠ k) -> RailSt L vals w cs Cur -> RailSt (updL L k) (updV vals k v) w cs Cur
 | [], _, _, h => h
 | (i, P) :: r, _, hk, h => by
  have hi : i ≠ k := hk (i, P) (by simp)
  have hr : ∀ j ∈ r, j.1 ≠ k := fun j hj => hk j (by simp [hj])
  rcases h with ⟨h1, h2⟩ | ⟨h1, h2, h3⟩
  ·exact .inl ⟨by rw [updL_ne (by simpa using hi)]; exact h1, by rw [updV_ne hi]; exact RailSt.other r _ hr h2⟩
  ·exact .inr ⟨by rw [updL_ne (by simpa using hi)]; exact h1, fun j hj => by rw [updL_ne (by simpa using hr j hj)]; exact h2 j hj, h3⟩
theorem RailSt.inv {I : World -> Prop} {k : Nat} {P : Value -> World -> Prop} {post : List (Nat × (Value -> World -> Prop))} (hk : L k = false) : ∀ (pre : List (Nat × (Value -> World -> Prop))) (Cur : World -> Prop), RailSt L vals w (pre ++ (k, P) :: post) Cur -> (Cur w -> I w) -> (∀ x ∈ pre, ∀ v, x.2 v w -> I w) -> I w
 | [], Cur, h, h0, _ => by
  rcases h with ⟨h, _⟩ | ⟨_, _, h⟩
  ·rw [hk] at h; cases h
  ·exact h0 h
 | (i, Q) :: r, Cur, h, h0, hp => by
  rcases h with ⟨_, h⟩ | ⟨_, _, h⟩
  ·exact RailSt.inv hk r _ h (fun h => hp (i, Q) (by simp) _ h) (fun x hx => hp x (by simp [hx]))
  ·exact h0 h
theorem RailSt.fin : ∀ (cs : List (Nat × (Value -> World -> Prop))) (Cur : World -> Prop), (∀ j ∈ cs, L j.1 = true) -> RailSt L vals w cs Cur -> curOf vals cs Cur w
 | [], _, _, h => h
 | (i, P) :: r, _, hk, h => by
  rcases h with ⟨_, h⟩ | ⟨h, _⟩
  ·exact RailSt.fin r _ (fun j hj => hk j (by simp [hj])) h
  ·rw [hk (i, P) (by simp)] at h; cases h
end
def lastOn (L : Nat -> Bool) : List (Nat × (Value -> World -> Prop)) -> Prop
 | [] => True
 | (k, _) :: r => match r with
  | [] => L k = true
  | x :: r => lastOn L (x :: r)
theorem lastOn_some {L : Nat -> Bool} : ∀ (l : List (Nat × (Value -> World -> Prop))), lastOn L l -> ∀ j, l.getLast? = some j -> L j.1 = true
 | [], _, _, h => by cases h
 | [(k, P)], h, j, hj => by
  rw [List.getLast?_singleton] at hj
  injection hj with hj
  subst hj
  exact h
 | (k, P) :: x :: r, h, j, hj => lastOn_some (x :: r) h j (by rw [List.getLast?_cons_cons] at hj; exact hj)
theorem split_at {α : Type} : ∀ (l : List α) (n : Nat) {x : α}, l[n]? = some x -> l = l.take n ++ x :: l.drop (n + 1)
 | [], _, _, h => by simp at h
 | a :: l, 0, x, h => by simp at h; simp [h]
 | a :: l, n + 1, x, h => by
  rw [List.take_succ_cons, List.drop_succ_cons, List.cons_append]
  exact congrArg _ (split_at l n (by simpa using h))
section
variable {dep : List (Nat × Nat)} {ps : List (Nat × Value)} {cs : List (Nat × (Value -> World -> Prop))} {S0 : World -> Prop} {L : Nat -> Bool} {vals : Nat -> Value} {w w' : World}
theorem ids_ne {α : Type} {l : List (Nat × α)} {k : Nat} (h : (l.map (·.1)).all (· != k) = true) : ∀ j ∈ l, j.1 ≠ k := fun j hj => by
 have := List.all_eq_true.1 h j.1 (List.mem_map.2 ⟨j, hj, rfl⟩)
 simpa using this
theorem Rail.start (h : S0 w) (vals : Nat -> Value) : Rail dep ps cs S0 (fun _ => false) vals w := ⟨fun _ _ h => (Bool.false_ne_true h).elim, fun _ _ h => (Bool.false_ne_true h).elim, RailSt.off _ _ (fun _ _ => rfl) h⟩
theorem Rail.dnUpd (h : Rail dep ps cs S0 L vals w) (k : Nat) (hd : ∀ x ∈ dep.filter (·.1 == k), L x.2 = true) : ∀ x ∈ dep, updL L k x.1 = true -> updL L k x.2 = true := by
 intro x hx hu
 by_cases e : x.1 = k
 ·simp [updL, hd x (List.mem_filter.2 ⟨hx, by simpa using e⟩)]
 ·rw [updL_ne (by simpa using e)] at hu
  simp [updL, h.dn x hx hu]
theorem Rail.val (h : Rail dep ps cs S0 L vals w) (i : Nat) {k : Nat} {v : Value} (hi : ps[i]? = some (k, v)) (hL : L k = true) : vals k = v := h.pv _ (List.mem_of_getElem? hi) hL
theorem Rail.pure (h : Rail dep ps cs S0 L vals w) (k : Nat) (v : Value) (hk : (cs.map (·.1)).all (· != k) = true) (hd : ∀ x ∈ dep.filter (·.1 == k), L x.2 = true) (hp : ∀ x ∈ ps.filter (·.1 == k), v = x.2) : Rail dep ps cs S0 (updL L k) (updV vals k v) w := by
 refine ⟨h.dnUpd k hd, fun x hx hu => ?_, h.st.other _ _ (ids_ne hk)⟩
 by_cases e : x.1 = k
 ·rw [e, updV_same]; exact hp x (List.mem_filter.2 ⟨hx, by simpa using e⟩)
 ·rw [updL_ne (by simpa using e)] at hu
  rw [updV_ne e]; exact h.pv x hx hu
theorem Rail.stat (h : Rail dep ps cs S0 L vals w) (n : Nat) {k : Nat} {P : Value -> World -> Prop} (hn : cs[n]? = some (k, P)) (hk : L k = false) (hl : lastOn L (cs.take n)) (hnp : ((cs.drop (n + 1)).map (·.1)).all (· != k) = true) (hd : ∀ x ∈ dep.filter (·.1 == k), L x.2 = true) (hp : (ps.map (·.1)).all (· != k) = true) :
 curOf vals (cs.take n) S0 w /\ ∀ v w', P v w' -> Rail dep ps cs S0 (updL L k) (updV vals k v) w' := by
 have hs := h.st
 have hn := split_at _ _ hn
 rw [hn] at hs
 obtain ⟨a, b, c⟩ := RailSt.at_ hk _ _ hs (lastOn_some _ hl)
 refine ⟨a, fun v w' hP => ⟨h.dnUpd k hd, fun x hx hu => ?_, ?_⟩⟩
 ·have e := ids_ne hp x hx
  rw [updL_ne (by simpa using e)] at hu
  rw [updV_ne e]; exact h.pv x hx hu
 ·have := RailSt.step (vals := vals) c (ids_ne hnp) hP _ S0 b
  rw [<- hn] at this
  exact this
theorem Rail.before (h : Rail dep ps cs S0 L vals w) {I : World -> Prop} (n k : Nat) {s : Nat} {P : Value -> World -> Prop} (hn : cs[n]? = some (s, P)) (hds : dep.contains (s, k) = true) (hk : L k = false) (h0 : S0 w -> I w) (hI : ∀ x ∈ cs.take n, ∀ v, x.2 v w -> I w) : I w := by
 have hs := h.st
 rw [split_at _ _ hn] at hs
 refine RailSt.inv ?_ _ _ hs h0 hI
 cases e : L s with
 | false => rfl
 | true => have := h.dn _ (List.contains_iff_mem.1 hds) e; rw [hk] at this; cases this
theorem Rail.fin (h : Rail dep ps cs S0 L vals w) (ha : (cs.map (·.1)).all L = true) : curOf vals cs S0 w := h.st.fin _ _ (fun j hj => List.all_eq_true.1 ha j.1 (List.mem_map.2 ⟨j, hj, rfl⟩))
end
end Go.Proofs.YtejaboajgecpaaaGreatDoor
