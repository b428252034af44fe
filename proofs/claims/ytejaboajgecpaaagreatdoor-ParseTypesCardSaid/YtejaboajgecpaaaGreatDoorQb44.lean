/- Parsing: lemmas. -/
import Derived.Test.YtejaboajgecpaaaGreatDoorQb43
set_option maxHeartbeats 16000000
set_option maxRecDepth 100000
namespace Go.Proofs.YtejaboajgecpaaaGreatDoor
open Go.Lib (hid)
open Go.RowKit Go.Deep Go.Shelf
theorem tail_step {α : Type} (E : Int) {s : ByteArray} {P : List Tk -> PR α} {st : RS} (h : stHd s st = true) : stepPR E (fun ts => P ts.tail) st = stepPR E P (stepPR E (need s) st) /\ valPR (fun ts => P ts.tail) st = valPR P (stepPR E (need s) st) := by
 match st with
 | .inr z => cases h
 | .inl ts =>
  rw [stepPR_ok E (show need s ts = .ok () ts.tail from if_pos h)]
  exact ⟨rfl, rfl⟩
theorem sess_bang {g : Nat} {ts : List Tk} (h : hd sBang ts = true) : psess nameB (g + 1) ts = pexchS (psess nameB g) 4 ts.tail := by
 rw [psess, if_neg (by rw [hd_other h (by decide +kernel)]; simp), if_pos h]
theorem sess_ask {g : Nat} {ts : List Tk} (h : hd sAsk ts = true) : psess nameB (g + 1) ts = pexchS (psess nameB g) 5 ts.tail := by
 rw [psess, if_neg (by rw [hd_other h (by decide +kernel)]; simp), if_neg (by rw [hd_other h (by decide +kernel)]; simp), if_pos h]
theorem sess_plus {g : Nat} {ts : List Tk} (h : hd sPlus ts = true) : psess nameB (g + 1) ts = pchoiceS nameB (psess nameB g) g 6 ts.tail := by
 rw [psess, if_neg (by rw [hd_other h (by decide +kernel)]; simp), if_neg (by rw [hd_other h (by decide +kernel)]; simp), if_neg (by rw [hd_other h (by decide +kernel)]; simp), if_pos h]
theorem sess_and {g : Nat} {ts : List Tk} (h : hd sAnd ts = true) : psess nameB (g + 1) ts = pchoiceS nameB (psess nameB g) g 7 ts.tail := by
 rw [psess, if_neg (by rw [hd_other h (by decide +kernel)]; simp), if_neg (by rw [hd_other h (by decide +kernel)]; simp), if_neg (by rw [hd_other h (by decide +kernel)]; simp), if_neg (by rw [hd_other h (by decide +kernel)]; simp), if_pos h]
theorem sess_rec {g : Nat} {ts : List Tk} (h : hd sRec ts = true) : psess nameB (g + 1) ts = precS nameB (psess nameB g) ts.tail := by
 rw [psess, if_neg (by rw [hd_other h (by decide +kernel)]; simp), if_neg (by rw [hd_other h (by decide +kernel)]; simp), if_neg (by rw [hd_other h (by decide +kernel)]; simp), if_neg (by rw [hd_other h (by decide +kernel)]; simp), if_neg (by rw [hd_other h (by decide +kernel)]; simp), if_pos h]
theorem sess_open {g : Nat} {ts : List Tk} (h : hd sOpen ts = true) : psess nameB (g + 1) ts = (psess nameB g ts.tail).bind fun t r => (need sShut r).bind fun _ r => .ok t r := by
 rw [psess, if_neg (by rw [hd_other h (by decide +kernel)]; simp), if_neg (by rw [hd_other h (by decide +kernel)]; simp), if_neg (by rw [hd_other h (by decide +kernel)]; simp), if_neg (by rw [hd_other h (by decide +kernel)]; simp), if_neg (by rw [hd_other h (by decide +kernel)]; simp), if_neg (by rw [hd_other h (by decide +kernel)]; simp), if_pos h]
theorem sess_end {g : Nat} {ts : List Tk} (h : hd sEnd ts = true) : psess nameB (g + 1) ts = .ok (lfT 3) ts.tail := by
 rw [psess, if_pos h]
theorem rec_step (E : Int) (S : List Tk -> PR Ty) (st : RS) : stepPR E (precS nameB S) st = stepPR E S (stepPR E (need sDot) (stepPR E (pname nameB) st)) /\
 ∀ y, valPR (precS nameB S) st = some y -> ∃ n u, valPR (pname nameB) st = some n /\ valPR S (stepPR E (need sDot) (stepPR E (pname nameB) st)) = some u /\ Ty.mk 8 0 n 0 [] [u] = y := by
 constructor
 ·exact step_bind (X := fun s => stepPR E S (stepPR E (need sDot) s)) (fun p => step_bind (X := fun s => stepPR E S s) (fun t => step_bind (X := fun s => s) (fun u => step_ok _ _ _) (fun _ => rfl)) (fun _ => rfl)) (fun _ => rfl)
 ·intro y hy
  obtain ⟨p, h1, h2⟩ := val_bind E hy
  obtain ⟨_, _, h4⟩ := val_bind E h2
  obtain ⟨u, h5, h6⟩ := val_bind E h4
  exact ⟨p, u, h1, h5, val_ok h6⟩
theorem par_step (E : Int) (S : List Tk -> PR Ty) (st : RS) : stepPR E (fun ts => (S ts).bind fun t r => (need sShut r).bind fun _ r => .ok t r) st = stepPR E (need sShut) (stepPR E S st) /\
 ∀ y, valPR (fun ts => (S ts).bind fun t r => (need sShut r).bind fun _ r => .ok t r) st = some y -> valPR S st = some y := by
 constructor
 ·exact step_bind (X := fun s => stepPR E (need sShut) s) (fun t => step_bind (X := fun s => s) (fun u => step_ok _ _ _) (fun _ => rfl)) (fun _ => rfl)
 ·intro y hy
  obtain ⟨t, h1, h2⟩ := val_bind E hy
  obtain ⟨_, _, h4⟩ := val_bind E h2
  rw [<- val_ok h4]; exact h1
def LabR (R : Nat) (la : Option Addr) (all : List Tk) (E : Int) (S : List Tk -> PR Ty) (g n : Nat) : Prop := ∀ (k : Int) st W, RdIs R la all E st W -> st.len < n -> Calls Tryz.prog 102 #[.pointer (some ⟨R, 0, none⟩), .int .i64 k] W (Red R la all E W (pchoiceS nameB S g k) st (GTy W.heap.size))
theorem rdsess_any (R : Nat) (la : Option Addr) (all : List Tk) (E : Int) (ts : List Tk) (w : World) (h : RdIs R la all E (.inl ts) w) (g : Nat) (hts : ts.length <= g) (hS : SessR R la all E (psess nameB (g + 1)) (g + 1)) (hL : LabR R la all E (psess nameB (g + 1)) (g + 1) (g + 1)) :
 Calls Tryz.prog 72 #[.pointer (some ⟨R, 0, none⟩)] w (Red R la all E w (psess nameB (g + 1 + 1)) (.inl ts) (GTy w.heap.size)) := by
 have HS := hid hS
 have HL := hid hL
 clear hS hL
 have HNX : Hid (∀ s, stHd s (.inl ts) = true -> (stepPR E (need s) (.inl ts)).len < g + 1) := hid (fun s hs => by
  rw [stepPR_ok E (show need s ts = .ok () ts.tail from if_pos hs)]
  have := hd_tail (show hd s ts = true from hs)
  show ts.tail.length + 1 < g + 1
  omega)
 obtain ⟨W1, hW1⟩ := ex1 (w.alloc (.cells z6 28))
 have hb1 := (made hW1).1
 have x1 := (made hW1).2
 have hs1 : w.heap.size < W1.heap.size := (gl x1)
 have hR : R < w.heap.size := h.lt
 have HLA := hid h.la
 have HP : Hid (RdIs R la all E (.inl ts) W1) := hid (h.to hb1)
 have HB : Hid (But R W1 W1) := hid (But.refl _ _)
 have HW1 := hid hW1
 have HB1 := hid hb1
 have HX1 := hid x1
 clear hW1 hb1 x1 h
 obtain ⟨y3, y4⟩ : W1.cell? ⟨R, 3, none⟩ = some (.int .i64 0) /\ True := by
  obtain ⟨cap, a, p, e, hx, _, _, rfl, _⟩ := HP.out
  exact ⟨(c5 hx).1.2.2.2.1, trivial⟩
 clear y4
 cases q0 : stHd sEnd (.inl ts) with
 | true =>
  have k0 : ((stText (.inl ts)).toList == [101, 110, 100]) = true := by rw [<- (show sEnd.toList = [101, 110, 100] by decide +kernel)]; exact (stText_hd (by decide +kernel) _).trans q0
  have htb : stText (.inl ts) = sEnd := ba_inj ((stText_hd (by decide +kernel) _).trans q0)
  obtain ⟨he1, he2⟩ := st_congr (F := psess nameB (g + 1 + 1)) (G := fun ts => .ok (lfT 3) ts.tail) E (st := .inl ts) (fun t e => sess_end (by injection e with e; rw [<- e]; exact q0))
  unfold Red
  obtain ⟨hl1, hl2⟩ := leaf_step E (lfT 3) q0
  rw [he1, he2, hl1]
  have HE := hid hl2
  clear he1 he2 hl1 hl2
  obtain ⟨t1, ht1⟩ := ex1 (stText (.inl ts))
  have HT1 := hid ht1
  rw [ht1] at k0 htb
  have HTB := hid htb
  clear htb
  clear ht1 q0
  go_enter Tryz.func72, Tryz.ntmps72
  go_upto_region 1 with fail
  rw [HW1.out]
  go_wp2_with (first | (go_at_call 58; refine (text_any R _ all E _ _ HP.out).mono ?_; rw [HT1.out]; rintro en wn ⟨rfl, hb⟩; replace HP := hid (HP.out.to hb); replace HB := hid (HB.out.to hb); clear hb) | (go_at_call 59; refine (need_any R _ all E t1 (by rw [HTB.out]; decide +kernel) _ _ HP.out).mono ?_; rintro en wo ⟨rfl, hp, hb⟩; rw [HTB.out] at hp; replace HP := hid hp; replace HB := hid (HB.out.trans hb); clear hp hb; have hx9 : wo.heap[w.heap.size]? = some (.cells z6 28 (0, 0)) := (HB.out.block w.heap.size hs1 (Nat.ne_of_gt hR)).trans HX1.out; obtain ⟨⟨q0, q1, q2, q3, q4, q5⟩, z0, z1, z2, z3, z4, z5⟩ := c6 hx9; have HX9 := hid hx9; clear hx9))
  have hx8 := fill6 HX9.out (.int .i64 3) (.int .i64 0) (.string ⟨#[]⟩) (.int .i64 0) (.slice none 0 0) (.slice none 0 0)
  obtain ⟨⟨y0, y1, y2, y3, y4, y5⟩, -⟩ := c6 hx8
  refine bodyPost_ret (v := .agg #[.int .i64 3, .int .i64 0, .string ⟨#[]⟩, .int .i64 0, .slice none 0 0, .slice none 0 0]) (by simp [results, Tryz.results72, go_sem, y0, y1, y2, y3, y4, y5]) rfl ?_
  refine ⟨⟨_, lfT 3, rfl, GTy.leaf _ _ 3 0 0 ⟨#[]⟩ (Nat.zero_le _), HE.out⟩, HP.out.put6 hR HLA.out (.int .i64 3) (.int .i64 0) (.string ⟨#[]⟩) (.int .i64 0) (.slice none 0 0) (.slice none 0 0), ((But.of HB1.out).trans HB.out).put6 (Nat.le_refl _) (.int .i64 3) (.int .i64 0) (.string ⟨#[]⟩) (.int .i64 0) (.slice none 0 0) (.slice none 0 0)⟩
 | false =>
  cases q1 : stHd sBang (.inl ts) with
  | true =>
   have k0 : ((stText (.inl ts)).toList == [101, 110, 100]) = false := by rw [<- (show sEnd.toList = [101, 110, 100] by decide +kernel)]; exact (stText_hd (by decide +kernel) _).trans q0
   have k1 : ((stText (.inl ts)).toList == [33]) = true := by rw [<- (show sBang.toList = [33] by decide +kernel)]; exact (stText_hd (by decide +kernel) _).trans q1
   have htb : stText (.inl ts) = sBang := ba_inj ((stText_hd (by decide +kernel) _).trans q1)
   obtain ⟨he1, he2⟩ := st_congr (F := psess nameB (g + 1 + 1)) (G := fun ts => pexchS (psess nameB (g + 1)) 4 ts.tail) E (st := .inl ts) (fun t e => sess_bang (by injection e with e; rw [<- e]; exact q1))
   unfold Red
   obtain ⟨hl1, hl2⟩ := tail_step (P := pexchS (psess nameB (g + 1)) 4) E q1
   rw [he1, he2, hl1, hl2]
   have HNX1 := hid (HNX.out sBang q1)
   clear he1 he2 hl1 hl2
   obtain ⟨t1, ht1⟩ := ex1 (stText (.inl ts))
   have HT1 := hid ht1
   rw [ht1] at k0 k1 htb
   have HTB := hid htb
   clear htb
   clear ht1 q0 q1
   go_enter Tryz.func72, Tryz.ntmps72
   go_upto_region 1 with fail
   rw [HW1.out]
   go_wp2_with (first | (go_at_call 58; refine (text_any R _ all E _ _ HP.out).mono ?_; rw [HT1.out]; rintro en wn ⟨rfl, hb⟩; replace HP := hid (HP.out.to hb); replace HB := hid (HB.out.to hb); clear hb) | (go_at_call 59; refine (need_any R _ all E t1 (by rw [HTB.out]; decide +kernel) _ _ HP.out).mono ?_; rintro en wo ⟨rfl, hp, hb⟩; rw [HTB.out] at hp; replace HP := hid hp; replace HB := hid (HB.out.trans hb); clear hp hb) | (go_at_call 101; refine (rdtrans_any R _ all E 4 _ _ HP.out g (g + 1) HS.out HNX1.out).mono ?_; rintro en wp ⟨⟨_, x, rfl, hg, hv⟩, hp, hb⟩; obtain ⟨la', ln, lc, ka, kn, kc, rfl⟩ := hg.open; have HV := hid hv; have HG := hid (hg.mono (show W1.heap.size <= _ from HB.out.size)); clear hv hg; replace HP := hid hp; replace HB := hid (HB.out.trans hb); clear hp hb; have hx9 : wp.heap[w.heap.size]? = some (.cells z6 28 (0, 0)) := (HB.out.block w.heap.size hs1 (Nat.ne_of_gt hR)).trans HX1.out; obtain ⟨⟨q0, q1, q2, q3, q4, q5⟩, z0, z1, z2, z3, z4, z5⟩ := c6 hx9; have HX9 := hid hx9; clear hx9))
   have hx8 := fill6 HX9.out (.int .i64 x.k) (.int .i64 x.p) (.string x.n) (.int .i64 x.s) (.slice la' ln lc) (.slice ka kn kc)
   obtain ⟨⟨y0, y1, y2, y3, y4, y5⟩, -⟩ := c6 hx8
   refine bodyPost_ret (v := .agg #[.int .i64 x.k, .int .i64 x.p, .string x.n, .int .i64 x.s, .slice la' ln lc, .slice ka kn kc]) (by simp [results, Tryz.results72, go_sem, y0, y1, y2, y3, y4, y5]) rfl ?_
   refine ⟨⟨_, x, rfl, (HG.out.put6 hs1 (.int .i64 x.k) (.int .i64 x.p) (.string x.n) (.int .i64 x.s) (.slice la' ln lc) (.slice ka kn kc)).mono (Nat.le_of_lt hs1), HV.out⟩, HP.out.put6 hR HLA.out (.int .i64 x.k) (.int .i64 x.p) (.string x.n) (.int .i64 x.s) (.slice la' ln lc) (.slice ka kn kc), ((But.of HB1.out).trans HB.out).put6 (Nat.le_refl _) (.int .i64 x.k) (.int .i64 x.p) (.string x.n) (.int .i64 x.s) (.slice la' ln lc) (.slice ka kn kc)⟩
  | false =>
   cases q2 : stHd sAsk (.inl ts) with
   | true =>
    have k0 : ((stText (.inl ts)).toList == [101, 110, 100]) = false := by rw [<- (show sEnd.toList = [101, 110, 100] by decide +kernel)]; exact (stText_hd (by decide +kernel) _).trans q0
    have k1 : ((stText (.inl ts)).toList == [33]) = false := by rw [<- (show sBang.toList = [33] by decide +kernel)]; exact (stText_hd (by decide +kernel) _).trans q1
    have k2 : ((stText (.inl ts)).toList == [63]) = true := by rw [<- (show sAsk.toList = [63] by decide +kernel)]; exact (stText_hd (by decide +kernel) _).trans q2
    have htb : stText (.inl ts) = sAsk := ba_inj ((stText_hd (by decide +kernel) _).trans q2)
    obtain ⟨he1, he2⟩ := st_congr (F := psess nameB (g + 1 + 1)) (G := fun ts => pexchS (psess nameB (g + 1)) 5 ts.tail) E (st := .inl ts) (fun t e => sess_ask (by injection e with e; rw [<- e]; exact q2))
    unfold Red
    obtain ⟨hl1, hl2⟩ := tail_step (P := pexchS (psess nameB (g + 1)) 5) E q2
    rw [he1, he2, hl1, hl2]
    have HNX1 := hid (HNX.out sAsk q2)
    clear he1 he2 hl1 hl2
    obtain ⟨t1, ht1⟩ := ex1 (stText (.inl ts))
    have HT1 := hid ht1
    rw [ht1] at k0 k1 k2 htb
    have HTB := hid htb
    clear htb
    clear ht1 q0 q1 q2
    go_enter Tryz.func72, Tryz.ntmps72
    go_upto_region 1 with fail
    rw [HW1.out]
    go_wp2_with (first | (go_at_call 58; refine (text_any R _ all E _ _ HP.out).mono ?_; rw [HT1.out]; rintro en wn ⟨rfl, hb⟩; replace HP := hid (HP.out.to hb); replace HB := hid (HB.out.to hb); clear hb) | (go_at_call 59; refine (need_any R _ all E t1 (by rw [HTB.out]; decide +kernel) _ _ HP.out).mono ?_; rintro en wo ⟨rfl, hp, hb⟩; rw [HTB.out] at hp; replace HP := hid hp; replace HB := hid (HB.out.trans hb); clear hp hb) | (go_at_call 101; refine (rdtrans_any R _ all E 5 _ _ HP.out g (g + 1) HS.out HNX1.out).mono ?_; rintro en wp ⟨⟨_, x, rfl, hg, hv⟩, hp, hb⟩; obtain ⟨la', ln, lc, ka, kn, kc, rfl⟩ := hg.open; have HV := hid hv; have HG := hid (hg.mono (show W1.heap.size <= _ from HB.out.size)); clear hv hg; replace HP := hid hp; replace HB := hid (HB.out.trans hb); clear hp hb; have hx9 : wp.heap[w.heap.size]? = some (.cells z6 28 (0, 0)) := (HB.out.block w.heap.size hs1 (Nat.ne_of_gt hR)).trans HX1.out; obtain ⟨⟨q0, q1, q2, q3, q4, q5⟩, z0, z1, z2, z3, z4, z5⟩ := c6 hx9; have HX9 := hid hx9; clear hx9))
    have hx8 := fill6 HX9.out (.int .i64 x.k) (.int .i64 x.p) (.string x.n) (.int .i64 x.s) (.slice la' ln lc) (.slice ka kn kc)
    obtain ⟨⟨y0, y1, y2, y3, y4, y5⟩, -⟩ := c6 hx8
    refine bodyPost_ret (v := .agg #[.int .i64 x.k, .int .i64 x.p, .string x.n, .int .i64 x.s, .slice la' ln lc, .slice ka kn kc]) (by simp [results, Tryz.results72, go_sem, y0, y1, y2, y3, y4, y5]) rfl ?_
    refine ⟨⟨_, x, rfl, (HG.out.put6 hs1 (.int .i64 x.k) (.int .i64 x.p) (.string x.n) (.int .i64 x.s) (.slice la' ln lc) (.slice ka kn kc)).mono (Nat.le_of_lt hs1), HV.out⟩, HP.out.put6 hR HLA.out (.int .i64 x.k) (.int .i64 x.p) (.string x.n) (.int .i64 x.s) (.slice la' ln lc) (.slice ka kn kc), ((But.of HB1.out).trans HB.out).put6 (Nat.le_refl _) (.int .i64 x.k) (.int .i64 x.p) (.string x.n) (.int .i64 x.s) (.slice la' ln lc) (.slice ka kn kc)⟩
   | false =>
    cases q3 : stHd sPlus (.inl ts) with
    | true =>
     have k0 : ((stText (.inl ts)).toList == [101, 110, 100]) = false := by rw [<- (show sEnd.toList = [101, 110, 100] by decide +kernel)]; exact (stText_hd (by decide +kernel) _).trans q0
     have k1 : ((stText (.inl ts)).toList == [33]) = false := by rw [<- (show sBang.toList = [33] by decide +kernel)]; exact (stText_hd (by decide +kernel) _).trans q1
     have k2 : ((stText (.inl ts)).toList == [63]) = false := by rw [<- (show sAsk.toList = [63] by decide +kernel)]; exact (stText_hd (by decide +kernel) _).trans q2
     have k3 : ((stText (.inl ts)).toList == [43]) = true := by rw [<- (show sPlus.toList = [43] by decide +kernel)]; exact (stText_hd (by decide +kernel) _).trans q3
     have htb : stText (.inl ts) = sPlus := ba_inj ((stText_hd (by decide +kernel) _).trans q3)
     obtain ⟨he1, he2⟩ := st_congr (F := psess nameB (g + 1 + 1)) (G := fun ts => pchoiceS nameB (psess nameB (g + 1)) (g + 1) 6 ts.tail) E (st := .inl ts) (fun t e => sess_plus (by injection e with e; rw [<- e]; exact q3))
     unfold Red
     obtain ⟨hl1, hl2⟩ := tail_step (P := pchoiceS nameB (psess nameB (g + 1)) (g + 1) 6) E q3
     rw [he1, he2, hl1, hl2]
     have HNX1 := hid (HNX.out sPlus q3)
     clear he1 he2 hl1 hl2
     obtain ⟨t1, ht1⟩ := ex1 (stText (.inl ts))
     have HT1 := hid ht1
     rw [ht1] at k0 k1 k2 k3 htb
     have HTB := hid htb
     clear htb
     clear ht1 q0 q1 q2 q3
     go_enter Tryz.func72, Tryz.ntmps72
     go_upto_region 1 with fail
     rw [HW1.out]
     go_wp2_with (first | (go_at_call 58; refine (text_any R _ all E _ _ HP.out).mono ?_; rw [HT1.out]; rintro en wn ⟨rfl, hb⟩; replace HP := hid (HP.out.to hb); replace HB := hid (HB.out.to hb); clear hb) | (go_at_call 59; refine (need_any R _ all E t1 (by rw [HTB.out]; decide +kernel) _ _ HP.out).mono ?_; rintro en wo ⟨rfl, hp, hb⟩; rw [HTB.out] at hp; replace HP := hid hp; replace HB := hid (HB.out.trans hb); clear hp hb) | (go_at_call 102; refine (HL.out 6 _ _ HP.out HNX1.out).mono ?_; rintro en wp ⟨⟨_, x, rfl, hg, hv⟩, hp, hb⟩; obtain ⟨la', ln, lc, ka, kn, kc, rfl⟩ := hg.open; have HV := hid hv; have HG := hid (hg.mono (show W1.heap.size <= _ from HB.out.size)); clear hv hg; replace HP := hid hp; replace HB := hid (HB.out.trans hb); clear hp hb; have hx9 : wp.heap[w.heap.size]? = some (.cells z6 28 (0, 0)) := (HB.out.block w.heap.size hs1 (Nat.ne_of_gt hR)).trans HX1.out; obtain ⟨⟨q0, q1, q2, q3, q4, q5⟩, z0, z1, z2, z3, z4, z5⟩ := c6 hx9; have HX9 := hid hx9; clear hx9))
     have hx8 := fill6 HX9.out (.int .i64 x.k) (.int .i64 x.p) (.string x.n) (.int .i64 x.s) (.slice la' ln lc) (.slice ka kn kc)
     obtain ⟨⟨y0, y1, y2, y3, y4, y5⟩, -⟩ := c6 hx8
     refine bodyPost_ret (v := .agg #[.int .i64 x.k, .int .i64 x.p, .string x.n, .int .i64 x.s, .slice la' ln lc, .slice ka kn kc]) (by simp [results, Tryz.results72, go_sem, y0, y1, y2, y3, y4, y5]) rfl ?_
     refine ⟨⟨_, x, rfl, (HG.out.put6 hs1 (.int .i64 x.k) (.int .i64 x.p) (.string x.n) (.int .i64 x.s) (.slice la' ln lc) (.slice ka kn kc)).mono (Nat.le_of_lt hs1), HV.out⟩, HP.out.put6 hR HLA.out (.int .i64 x.k) (.int .i64 x.p) (.string x.n) (.int .i64 x.s) (.slice la' ln lc) (.slice ka kn kc), ((But.of HB1.out).trans HB.out).put6 (Nat.le_refl _) (.int .i64 x.k) (.int .i64 x.p) (.string x.n) (.int .i64 x.s) (.slice la' ln lc) (.slice ka kn kc)⟩
    | false =>
     cases q4 : stHd sAnd (.inl ts) with
     | true =>
      have k0 : ((stText (.inl ts)).toList == [101, 110, 100]) = false := by rw [<- (show sEnd.toList = [101, 110, 100] by decide +kernel)]; exact (stText_hd (by decide +kernel) _).trans q0
      have k1 : ((stText (.inl ts)).toList == [33]) = false := by rw [<- (show sBang.toList = [33] by decide +kernel)]; exact (stText_hd (by decide +kernel) _).trans q1
      have k2 : ((stText (.inl ts)).toList == [63]) = false := by rw [<- (show sAsk.toList = [63] by decide +kernel)]; exact (stText_hd (by decide +kernel) _).trans q2
      have k3 : ((stText (.inl ts)).toList == [43]) = false := by rw [<- (show sPlus.toList = [43] by decide +kernel)]; exact (stText_hd (by decide +kernel) _).trans q3
      have k4 : ((stText (.inl ts)).toList == [38]) = true := by rw [<- (show sAnd.toList = [38] by decide +kernel)]; exact (stText_hd (by decide +kernel) _).trans q4
      have htb : stText (.inl ts) = sAnd := ba_inj ((stText_hd (by decide +kernel) _).trans q4)
      obtain ⟨he1, he2⟩ := st_congr (F := psess nameB (g + 1 + 1)) (G := fun ts => pchoiceS nameB (psess nameB (g + 1)) (g + 1) 7 ts.tail) E (st := .inl ts) (fun t e => sess_and (by injection e with e; rw [<- e]; exact q4))
      unfold Red
      obtain ⟨hl1, hl2⟩ := tail_step (P := pchoiceS nameB (psess nameB (g + 1)) (g + 1) 7) E q4
      rw [he1, he2, hl1, hl2]
      have HNX1 := hid (HNX.out sAnd q4)
      clear he1 he2 hl1 hl2
      obtain ⟨t1, ht1⟩ := ex1 (stText (.inl ts))
      have HT1 := hid ht1
      rw [ht1] at k0 k1 k2 k3 k4 htb
      have HTB := hid htb
      clear htb
      clear ht1 q0 q1 q2 q3 q4
      go_enter Tryz.func72, Tryz.ntmps72
      go_upto_region 1 with fail
      rw [HW1.out]
      go_wp2_with (first | (go_at_call 58; refine (text_any R _ all E _ _ HP.out).mono ?_; rw [HT1.out]; rintro en wn ⟨rfl, hb⟩; replace HP := hid (HP.out.to hb); replace HB := hid (HB.out.to hb); clear hb) | (go_at_call 59; refine (need_any R _ all E t1 (by rw [HTB.out]; decide +kernel) _ _ HP.out).mono ?_; rintro en wo ⟨rfl, hp, hb⟩; rw [HTB.out] at hp; replace HP := hid hp; replace HB := hid (HB.out.trans hb); clear hp hb) | (go_at_call 102; refine (HL.out 7 _ _ HP.out HNX1.out).mono ?_; rintro en wp ⟨⟨_, x, rfl, hg, hv⟩, hp, hb⟩; obtain ⟨la', ln, lc, ka, kn, kc, rfl⟩ := hg.open; have HV := hid hv; have HG := hid (hg.mono (show W1.heap.size <= _ from HB.out.size)); clear hv hg; replace HP := hid hp; replace HB := hid (HB.out.trans hb); clear hp hb; have hx9 : wp.heap[w.heap.size]? = some (.cells z6 28 (0, 0)) := (HB.out.block w.heap.size hs1 (Nat.ne_of_gt hR)).trans HX1.out; obtain ⟨⟨q0, q1, q2, q3, q4, q5⟩, z0, z1, z2, z3, z4, z5⟩ := c6 hx9; have HX9 := hid hx9; clear hx9))
      have hx8 := fill6 HX9.out (.int .i64 x.k) (.int .i64 x.p) (.string x.n) (.int .i64 x.s) (.slice la' ln lc) (.slice ka kn kc)
      obtain ⟨⟨y0, y1, y2, y3, y4, y5⟩, -⟩ := c6 hx8
      refine bodyPost_ret (v := .agg #[.int .i64 x.k, .int .i64 x.p, .string x.n, .int .i64 x.s, .slice la' ln lc, .slice ka kn kc]) (by simp [results, Tryz.results72, go_sem, y0, y1, y2, y3, y4, y5]) rfl ?_
      refine ⟨⟨_, x, rfl, (HG.out.put6 hs1 (.int .i64 x.k) (.int .i64 x.p) (.string x.n) (.int .i64 x.s) (.slice la' ln lc) (.slice ka kn kc)).mono (Nat.le_of_lt hs1), HV.out⟩, HP.out.put6 hR HLA.out (.int .i64 x.k) (.int .i64 x.p) (.string x.n) (.int .i64 x.s) (.slice la' ln lc) (.slice ka kn kc), ((But.of HB1.out).trans HB.out).put6 (Nat.le_refl _) (.int .i64 x.k) (.int .i64 x.p) (.string x.n) (.int .i64 x.s) (.slice la' ln lc) (.slice ka kn kc)⟩
     | false =>
      cases q5 : stHd sRec (.inl ts) with
      | true =>
       have k0 : ((stText (.inl ts)).toList == [101, 110, 100]) = false := by rw [<- (show sEnd.toList = [101, 110, 100] by decide +kernel)]; exact (stText_hd (by decide +kernel) _).trans q0
       have k1 : ((stText (.inl ts)).toList == [33]) = false := by rw [<- (show sBang.toList = [33] by decide +kernel)]; exact (stText_hd (by decide +kernel) _).trans q1
       have k2 : ((stText (.inl ts)).toList == [63]) = false := by rw [<- (show sAsk.toList = [63] by decide +kernel)]; exact (stText_hd (by decide +kernel) _).trans q2
       have k3 : ((stText (.inl ts)).toList == [43]) = false := by rw [<- (show sPlus.toList = [43] by decide +kernel)]; exact (stText_hd (by decide +kernel) _).trans q3
       have k4 : ((stText (.inl ts)).toList == [38]) = false := by rw [<- (show sAnd.toList = [38] by decide +kernel)]; exact (stText_hd (by decide +kernel) _).trans q4
       have k5 : ((stText (.inl ts)).toList == [114, 101, 99]) = true := by rw [<- (show sRec.toList = [114, 101, 99] by decide +kernel)]; exact (stText_hd (by decide +kernel) _).trans q5
       have htb : stText (.inl ts) = sRec := ba_inj ((stText_hd (by decide +kernel) _).trans q5)
       obtain ⟨he1, he2⟩ := st_congr (F := psess nameB (g + 1 + 1)) (G := fun ts => precS nameB (psess nameB (g + 1)) ts.tail) E (st := .inl ts) (fun t e => sess_rec (by injection e with e; rw [<- e]; exact q5))
       unfold Red
       obtain ⟨hl1, hl2⟩ := tail_step (P := precS nameB (psess nameB (g + 1))) E q5
       rw [he1, he2, hl1, hl2]
       have HNX1 := hid (HNX.out sRec q5)
       have hnx2 : (stepPR E (need sDot) (stepPR E (pname nameB) (stepPR E (need sRec) (.inl ts)))).len < g + 1 := Nat.lt_of_le_of_lt (Nat.le_trans (len_le E (F := need sDot) (fun _ _ _ h => Nat.le_of_lt (need_le h)) _) (len_le E (F := pname nameB) (fun _ _ _ h => Nat.le_of_lt (pname_le h)) _)) HNX1.out
       have HNX2 := hid hnx2
       clear hnx2
       obtain ⟨hm1, hm2⟩ := rec_step E (psess nameB (g + 1)) (stepPR E (need sRec) (.inl ts))
       rw [hm1]
       have HE := hid hm2
       clear hm1 hm2
       clear he1 he2 hl1 hl2
       obtain ⟨t1, ht1⟩ := ex1 (stText (.inl ts))
       have HT1 := hid ht1
       rw [ht1] at k0 k1 k2 k3 k4 k5 htb
       have HTB := hid htb
       clear htb
       clear ht1 q0 q1 q2 q3 q4 q5
       go_enter Tryz.func72, Tryz.ntmps72
       go_upto_region 1 with fail
       rw [HW1.out]
       go_upto_region 23 with (first | (go_at_call 58; refine (text_any R _ all E _ _ HP.out).mono ?_; rw [HT1.out]; rintro en wn ⟨rfl, hb⟩; replace HP := hid (HP.out.to hb); replace HB := hid (HB.out.to hb); clear hb) | (go_at_call 60; refine (rdname_any R _ all E _ _ HP.out).mono ?_; rintro en wp ⟨⟨_, n, rfl, ⟨rfl, hnz⟩, hv⟩, hp, hb⟩; have HNZ := hid hnz; have HVn := hid hv; clear hv hnz; replace HP := hid hp; replace HB := hid (HB.out.trans hb); clear hp hb) | (go_at_call 59; refine (need_any R _ all E t1 (by rw [HTB.out]; decide +kernel) _ _ HP.out).mono ?_; rintro en wo ⟨rfl, hp, hb⟩; rw [HTB.out] at hp; replace HP := hid hp; replace HB := hid (HB.out.trans hb); clear hp hb))
       go_wp2_with (first | (go_at_call 59; refine (need_any R _ all E _ (by decide +kernel) _ _ HP.out).mono ?_; rintro en wq ⟨rfl, hp, hb⟩; replace HP := hid hp; replace HB := hid (HB.out.trans hb); clear hp hb) | (go_at_call 72; refine (HS.out _ _ HP.out HNX2.out).mono ?_; rintro en wr ⟨⟨_, x, rfl, hg, hv⟩, hp, hb⟩; obtain ⟨la', ln, lc, ka, kn, kc, rfl⟩ := hg.open; have HV := hid hv; have HG := hid (hg.mono (show W1.heap.size <= _ from HB.out.size)); clear hv hg; replace HP := hid hp; replace HB := hid (HB.out.trans hb); clear hp hb; have hx9 : (wr.alloc (.cells #[.int .i64 x.k, .int .i64 x.p, .string x.n, .int .i64 x.s, .slice la' ln lc, .slice ka kn kc] 28)).heap[w.heap.size]? = some (.cells z6 28 (0, 0)) := (((Below.refl _ wr).alloc (Nat.le_refl _) _).block w.heap.size (Nat.lt_of_lt_of_le hs1 HB.out.size)).trans ((HB.out.block w.heap.size hs1 (Nat.ne_of_gt hR)).trans HX1.out); obtain ⟨⟨q0, q1, q2, q3, q4, q5⟩, z0, z1, z2, z3, z4, z5⟩ := c6 hx9; have HX9 := hid hx9; clear hx9))
       obtain ⟨W5, hW5⟩ := ex1 (wr.alloc (.cells #[.int .i64 x.k, .int .i64 x.p, .string x.n, .int .i64 x.s, .slice la' ln lc, .slice ka kn kc] 28))
       have hb5 := (made hW5).1
       have x5 := (made hW5).2
       rw [hW5] at HX9 |-
       have hwm : W1.heap.size <= wr.heap.size := HB.out.size
       have hg5 : GTy W1.heap.size W5 (.mk 8 0 n 0 [] [x]) (.agg #[.int .i64 8, .int .i64 0, .string n, .int .i64 0, .slice none 0 0, .slice (some ⟨wr.heap.size, 0, none⟩) 1 1]) := GTy.node HNZ.out (str_nil _ _) (tys_one x5 ⟨hwm, (gl x5)⟩ (HG.out.but (But.of (P := R) hb5) (Nat.lt_trans hR hs1)))
       have HPn := hid (HP.out.to hb5)
       have HBn := hid (HB.out.to hb5)
       clear HP HB
       have HP := HPn
       have HB := HBn
       have hx8 := fill6 HX9.out (.int .i64 8) (.int .i64 0) (.string n) (.int .i64 0) (.slice none 0 0) (.slice (some ⟨wr.heap.size, 0, none⟩) 1 1)
       obtain ⟨⟨y0, y1, y2, y3, y4, y5⟩, -⟩ := c6 hx8
       refine bodyPost_ret (v := .agg #[.int .i64 8, .int .i64 0, .string n, .int .i64 0, .slice none 0 0, .slice (some ⟨wr.heap.size, 0, none⟩) 1 1]) (by simp [results, Tryz.results72, go_sem, y0, y1, y2, y3, y4, y5]) rfl ?_
       refine ⟨⟨_, Ty.mk 8 0 n 0 [] [x], rfl, (hg5.put6 hs1 (.int .i64 8) (.int .i64 0) (.string n) (.int .i64 0) (.slice none 0 0) (.slice (some ⟨wr.heap.size, 0, none⟩) 1 1)).mono (Nat.le_of_lt hs1), fun y hy => by obtain ⟨n', u', h1, h2, rfl⟩ := HE.out y hy; rw [HVn.out n' h1, HV.out u' h2]⟩, HP.out.put6 hR HLA.out (.int .i64 8) (.int .i64 0) (.string n) (.int .i64 0) (.slice none 0 0) (.slice (some ⟨wr.heap.size, 0, none⟩) 1 1), ((But.of HB1.out).trans HB.out).put6 (Nat.le_refl _) (.int .i64 8) (.int .i64 0) (.string n) (.int .i64 0) (.slice none 0 0) (.slice (some ⟨wr.heap.size, 0, none⟩) 1 1)⟩
      | false =>
       cases q6 : stHd sOpen (.inl ts) with
       | true =>
        have k0 : ((stText (.inl ts)).toList == [101, 110, 100]) = false := by rw [<- (show sEnd.toList = [101, 110, 100] by decide +kernel)]; exact (stText_hd (by decide +kernel) _).trans q0
        have k1 : ((stText (.inl ts)).toList == [33]) = false := by rw [<- (show sBang.toList = [33] by decide +kernel)]; exact (stText_hd (by decide +kernel) _).trans q1
        have k2 : ((stText (.inl ts)).toList == [63]) = false := by rw [<- (show sAsk.toList = [63] by decide +kernel)]; exact (stText_hd (by decide +kernel) _).trans q2
        have k3 : ((stText (.inl ts)).toList == [43]) = false := by rw [<- (show sPlus.toList = [43] by decide +kernel)]; exact (stText_hd (by decide +kernel) _).trans q3
        have k4 : ((stText (.inl ts)).toList == [38]) = false := by rw [<- (show sAnd.toList = [38] by decide +kernel)]; exact (stText_hd (by decide +kernel) _).trans q4
        have k5 : ((stText (.inl ts)).toList == [114, 101, 99]) = false := by rw [<- (show sRec.toList = [114, 101, 99] by decide +kernel)]; exact (stText_hd (by decide +kernel) _).trans q5
        have k6 : ((stText (.inl ts)).toList == [40]) = true := by rw [<- (show sOpen.toList = [40] by decide +kernel)]; exact (stText_hd (by decide +kernel) _).trans q6
        have htb : stText (.inl ts) = sOpen := ba_inj ((stText_hd (by decide +kernel) _).trans q6)
        obtain ⟨he1, he2⟩ := st_congr (F := psess nameB (g + 1 + 1)) (G := fun ts => (psess nameB (g + 1) ts.tail).bind fun t r => (need sShut r).bind fun _ r => .ok t r) E (st := .inl ts) (fun t e => sess_open (by injection e with e; rw [<- e]; exact q6))
        unfold Red
        obtain ⟨hl1, hl2⟩ := tail_step (P := fun ts => (psess nameB (g + 1) ts).bind fun t r => (need sShut r).bind fun _ r => .ok t r) E q6
        rw [he1, he2, hl1, hl2]
        have HNX1 := hid (HNX.out sOpen q6)
        obtain ⟨hm1, hm2⟩ := par_step E (psess nameB (g + 1)) (stepPR E (need sOpen) (.inl ts))
        rw [hm1]
        have HE := hid hm2
        clear hm1 hm2
        clear he1 he2 hl1 hl2
        obtain ⟨t1, ht1⟩ := ex1 (stText (.inl ts))
        have HT1 := hid ht1
        rw [ht1] at k0 k1 k2 k3 k4 k5 k6 htb
        have HTB := hid htb
        clear htb
        clear ht1 q0 q1 q2 q3 q4 q5 q6
        go_enter Tryz.func72, Tryz.ntmps72
        go_upto_region 1 with fail
        rw [HW1.out]
        go_upto_region 28 with (first | (go_at_call 58; refine (text_any R _ all E _ _ HP.out).mono ?_; rw [HT1.out]; rintro en wn ⟨rfl, hb⟩; replace HP := hid (HP.out.to hb); replace HB := hid (HB.out.to hb); clear hb) | (go_at_call 59; refine (need_any R _ all E t1 (by rw [HTB.out]; decide +kernel) _ _ HP.out).mono ?_; rintro en wo ⟨rfl, hp, hb⟩; rw [HTB.out] at hp; replace HP := hid hp; replace HB := hid (HB.out.trans hb); clear hp hb) | (go_at_call 72; refine (HS.out _ _ HP.out HNX1.out).mono ?_; rintro en wp ⟨⟨_, x, rfl, hg, hv⟩, hp, hb⟩; obtain ⟨la', ln, lc, ka, kn, kc, rfl⟩ := hg.open; have HV := hid hv; have HG := hid (hg.mono (show W1.heap.size <= _ from HB.out.size)); clear hv hg; replace HP := hid hp; replace HB := hid (HB.out.trans hb); clear hp hb))
        obtain ⟨W4, hW4⟩ := ex1 (wp.alloc (.cells #[.int .i64 x.k, .int .i64 x.p, .string x.n, .int .i64 x.s, .slice la' ln lc, .slice ka kn kc] 28))
        have hbx := (made hW4).1
        have xx := (made hW4).2
        have hlB : wp.heap.size < W4.heap.size := (gl xx)
        have hsB : W1.heap.size <= wp.heap.size := HB.out.size
        have hnB : wp.heap.size ≠ R := by omega
        rw [hW4]
        have HPn := hid (HP.out.to hbx)
        have HBn := hid (HB.out.to hbx)
        have HXB := hid xx
        have HBB := hid hbx
        clear HP HB hW4 hbx xx
        have HP := HPn
        have HB := HBn
        clear HPn HBn
        have HGT := hid (HG.out.but (But.of (P := R) HBB.out) (Nat.lt_trans hR hs1))
        have HC : Hid (But R W4 W4) := hid (But.refl _ _)
        clear HG HBB
        go_upto_region 29 with ((go_at_call 59; refine (need_any R _ all E _ (by decide +kernel) _ _ HP.out).mono ?_; rintro en wq ⟨rfl, hp, hb⟩; replace HP := hid hp; replace HB := hid (HB.out.trans hb); replace HC := hid (HC.out.trans hb); clear hp hb))
        have hx3 := (HC.out.block wp.heap.size hlB hnB).trans HXB.out
        obtain ⟨⟨d0, d1, d2, d3, d4, d5⟩, -⟩ := c6 hx3
        clear hx3
        have hx9 : wq.heap[w.heap.size]? = some (.cells z6 28 (0, 0)) := (HB.out.block w.heap.size hs1 (Nat.ne_of_gt hR)).trans HX1.out
        obtain ⟨⟨q0, q1, q2, q3, q4, q5⟩, z0, z1, z2, z3, z4, z5⟩ := c6 hx9
        have HX9 := hid hx9
        clear hx9
        go_wp2_with fail
        have hx8 := fill6 HX9.out (.int .i64 x.k) (.int .i64 x.p) (.string x.n) (.int .i64 x.s) (.slice la' ln lc) (.slice ka kn kc)
        obtain ⟨⟨y0, y1, y2, y3, y4, y5⟩, -⟩ := c6 hx8
        refine bodyPost_ret (v := .agg #[.int .i64 x.k, .int .i64 x.p, .string x.n, .int .i64 x.s, .slice la' ln lc, .slice ka kn kc]) (by simp [results, Tryz.results72, go_sem, y0, y1, y2, y3, y4, y5]) rfl ?_
        refine ⟨⟨_, x, rfl, ((HGT.out.but HC.out (Nat.lt_trans hR hs1)).put6 hs1 (.int .i64 x.k) (.int .i64 x.p) (.string x.n) (.int .i64 x.s) (.slice la' ln lc) (.slice ka kn kc)).mono (Nat.le_of_lt hs1), fun y hy => HV.out y (HE.out y hy)⟩, HP.out.put6 hR HLA.out (.int .i64 x.k) (.int .i64 x.p) (.string x.n) (.int .i64 x.s) (.slice la' ln lc) (.slice ka kn kc), ((But.of HB1.out).trans HB.out).put6 (Nat.le_refl _) (.int .i64 x.k) (.int .i64 x.p) (.string x.n) (.int .i64 x.s) (.slice la' ln lc) (.slice ka kn kc)⟩
       | false =>
        have k0 : ((stText (.inl ts)).toList == [101, 110, 100]) = false := by rw [<- (show sEnd.toList = [101, 110, 100] by decide +kernel)]; exact (stText_hd (by decide +kernel) _).trans q0
        have k1 : ((stText (.inl ts)).toList == [33]) = false := by rw [<- (show sBang.toList = [33] by decide +kernel)]; exact (stText_hd (by decide +kernel) _).trans q1
        have k2 : ((stText (.inl ts)).toList == [63]) = false := by rw [<- (show sAsk.toList = [63] by decide +kernel)]; exact (stText_hd (by decide +kernel) _).trans q2
        have k3 : ((stText (.inl ts)).toList == [43]) = false := by rw [<- (show sPlus.toList = [43] by decide +kernel)]; exact (stText_hd (by decide +kernel) _).trans q3
        have k4 : ((stText (.inl ts)).toList == [38]) = false := by rw [<- (show sAnd.toList = [38] by decide +kernel)]; exact (stText_hd (by decide +kernel) _).trans q4
        have k5 : ((stText (.inl ts)).toList == [114, 101, 99]) = false := by rw [<- (show sRec.toList = [114, 101, 99] by decide +kernel)]; exact (stText_hd (by decide +kernel) _).trans q5
        have k6 : ((stText (.inl ts)).toList == [40]) = false := by rw [<- (show sOpen.toList = [40] by decide +kernel)]; exact (stText_hd (by decide +kernel) _).trans q6
        obtain ⟨he1, he2⟩ := st_congr (F := psess nameB (g + 1 + 1)) (G := pvar nameB) E (st := .inl ts) (fun t e => by injection e with e; rw [<- e]; exact sess_var q0 q1 q2 q3 q4 q5 q6)
        unfold Red
        rw [he1, he2]
        clear he1 he2
        obtain ⟨t1, ht1⟩ := ex1 (stText (.inl ts))
        have HT1 := hid ht1
        rw [ht1] at k0 k1 k2 k3 k4 k5 k6
        clear ht1 q0 q1 q2 q3 q4 q5 q6
        go_enter Tryz.func72, Tryz.ntmps72
        go_upto_region 1 with fail
        rw [HW1.out]
        go_wp2_with (first | (go_at_call 58; refine (text_any R _ all E _ _ HP.out).mono ?_; rw [HT1.out]; rintro en wn ⟨rfl, hb⟩; replace HP := hid (HP.out.to hb); replace HB := hid (HB.out.to hb); clear hb) | (go_at_call 100; refine (rdvar_any R _ all E _ _ HP.out).mono ?_; rintro en wp ⟨⟨_, x, rfl, hg, hv⟩, hp, hb⟩; obtain ⟨la', ln, lc, ka, kn, kc, rfl⟩ := hg.open; have HV := hid hv; have HG := hid (hg.mono (show W1.heap.size <= _ from HB.out.size)); clear hv hg; replace HP := hid hp; replace HB := hid (HB.out.trans hb); clear hp hb; have hx9 : wp.heap[w.heap.size]? = some (.cells z6 28 (0, 0)) := (HB.out.block w.heap.size hs1 (Nat.ne_of_gt hR)).trans HX1.out; obtain ⟨⟨q0, q1, q2, q3, q4, q5⟩, z0, z1, z2, z3, z4, z5⟩ := c6 hx9; have HX9 := hid hx9; clear hx9))
        have hx8 := fill6 HX9.out (.int .i64 x.k) (.int .i64 x.p) (.string x.n) (.int .i64 x.s) (.slice la' ln lc) (.slice ka kn kc)
        obtain ⟨⟨y0, y1, y2, y3, y4, y5⟩, -⟩ := c6 hx8
        refine bodyPost_ret (v := .agg #[.int .i64 x.k, .int .i64 x.p, .string x.n, .int .i64 x.s, .slice la' ln lc, .slice ka kn kc]) (by simp [results, Tryz.results72, go_sem, y0, y1, y2, y3, y4, y5]) rfl ?_
        refine ⟨⟨_, x, rfl, (HG.out.put6 hs1 (.int .i64 x.k) (.int .i64 x.p) (.string x.n) (.int .i64 x.s) (.slice la' ln lc) (.slice ka kn kc)).mono (Nat.le_of_lt hs1), HV.out⟩, HP.out.put6 hR HLA.out (.int .i64 x.k) (.int .i64 x.p) (.string x.n) (.int .i64 x.s) (.slice la' ln lc) (.slice ka kn kc), ((But.of HB1.out).trans HB.out).put6 (Nat.le_refl _) (.int .i64 x.k) (.int .i64 x.p) (.string x.n) (.int .i64 x.s) (.slice la' ln lc) (.slice ka kn kc)⟩
theorem rdsess_err (R : Nat) (la : Option Addr) (all : List Tk) (E : Int) (z : Int × Int) (S : List Tk -> PR Ty) (w : World) (h : RdIs R la all E (.inr z) w) :
 Calls Tryz.prog 72 #[.pointer (some ⟨R, 0, none⟩)] w (Red R la all E w S (.inr z) (GTy w.heap.size)) := by
 obtain ⟨W1, hW1⟩ := ex1 (w.alloc (.cells z6 28))
 have hb1 := (made hW1).1
 have x1 := (made hW1).2
 have hs1 : w.heap.size < W1.heap.size := (gl x1)
 have hR : R < w.heap.size := h.lt
 have HLA := hid h.la
 have HP : Hid (RdIs R la all E (.inr z) W1) := hid (h.to hb1)
 have HB : Hid (But R W1 W1) := hid (But.refl _ _)
 have HW1 := hid hW1
 have HB1 := hid hb1
 have HX1 := hid x1
 clear hW1 hb1 x1 h
 obtain ⟨er, y3, hne⟩ : ∃ er : Int, W1.cell? ⟨R, 3, none⟩ = some (.int .i64 er) /\ (er != 0) = true := by
  obtain ⟨e0, p0⟩ := z
  obtain ⟨cap, a, p, e, hx, _, _, he, _, hn⟩ := HP.out
  exact ⟨e, (c5 hx).1.2.2.2.1, by rw [he]; simpa using hn⟩
 go_enter Tryz.func72, Tryz.ntmps72
 go_upto_region 1 with fail
 rw [HW1.out]
 have hx9 : W1.heap[w.heap.size]? = some (.cells z6 28 (0, 0)) := (HB.out.block w.heap.size hs1 (Nat.ne_of_gt hR)).trans HX1.out
 obtain ⟨⟨q0, q1, q2, q3, q4, q5⟩, z0, z1, z2, z3, z4, z5⟩ := c6 hx9
 have HX9 := hid hx9
 clear hx9
 go_wp2_with fail
 have hx8 := fill6 HX9.out (.int .i64 0) (.int .i64 0) (.string ⟨#[]⟩) (.int .i64 0) (.slice none 0 0) (.slice none 0 0)
 obtain ⟨⟨y0, y1, y2, y3, y4, y5⟩, -⟩ := c6 hx8
 refine bodyPost_ret (v := .agg #[.int .i64 0, .int .i64 0, .string ⟨#[]⟩, .int .i64 0, .slice none 0 0, .slice none 0 0]) (by simp [results, Tryz.results72, go_sem, y0, y1, y2, y3, y4, y5]) rfl ?_
 refine ⟨⟨_, lfT 0, rfl, GTy.leaf _ _ 0 0 0 ⟨#[]⟩ (Nat.zero_le _), fun _ h => by cases h⟩, HP.out.put6 hR HLA.out (.int .i64 0) (.int .i64 0) (.string ⟨#[]⟩) (.int .i64 0) (.slice none 0 0) (.slice none 0 0), ((But.of HB1.out).trans HB.out).put6 (Nat.le_refl _) (.int .i64 0) (.int .i64 0) (.string ⟨#[]⟩) (.int .i64 0) (.slice none 0 0) (.slice none 0 0)⟩
end Go.Proofs.YtejaboajgecpaaaGreatDoor
