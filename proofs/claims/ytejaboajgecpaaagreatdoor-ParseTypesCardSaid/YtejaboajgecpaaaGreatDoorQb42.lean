/- Parsing: lemmas. -/
import Derived.Test.YtejaboajgecpaaaGreatDoorQb41
set_option maxHeartbeats 16000000
set_option maxRecDepth 100000
namespace Go.Proofs.YtejaboajgecpaaaGreatDoor
open Go.Lib (hid)
open Go.RowKit Go.Deep Go.Shelf
theorem ba_inj {a b : ByteArray} (h : (a.toList == b.toList) = true) : a = b := by
 have h : a.toList = b.toList := by simpa using h
 rw [Lib.toList_data, Lib.toList_data] at h
 obtain ⟨⟨l⟩⟩ := a
 obtain ⟨⟨m⟩⟩ := b
 obtain rfl : l = m := h
 rfl
theorem hd_other {s s' : ByteArray} {ts : List Tk} (h : hd s ts = true) (hne : (s.toList == s'.toList) = false) : hd s' ts = false := by
 cases ts with
 | nil => rfl
 | cons x r =>
  have e : x.t = s := ba_inj h
  show (x.t.toList == s'.toList) = false
  rw [e]; exact hne
theorem st_congr {α : Type} (E : Int) {F G : List Tk -> PR α} {st : RS} (h : ∀ ts, st = .inl ts -> F ts = G ts) : stepPR E F st = stepPR E G st /\ valPR F st = valPR G st := by
 match st with
 | .inr z => exact ⟨rfl, rfl⟩
 | .inl ts =>
  have h := h ts rfl
  unfold stepPR valPR
  dsimp only
  rw [h]
  exact ⟨rfl, rfl⟩
theorem leaf_step {α : Type} (E : Int) (x : α) {s : ByteArray} {st : RS} (h : stHd s st = true) : stepPR E (fun ts => .ok x ts.tail) st = stepPR E (need s) st /\ ∀ y, valPR (fun ts => PR.ok x ts.tail) st = some y -> x = y := by
 match st with
 | .inr z => cases h
 | .inl ts =>
  rw [stepPR_ok E (show need s ts = .ok () ts.tail from if_pos h)]
  exact ⟨rfl, fun y hy => by injection hy⟩
abbrev lfT (k : Int) : Ty := .mk k 0 ⟨#[]⟩ 0 [] []
theorem pay_pos {S : List Tk -> PR Ty} {ts : List Tk} (h1 : hd sBang ts = false) (h2 : hd sAsk ts = false) (h3 : hd sPlus ts = false) (h4 : hd sAnd ts = false) (h5 : hd sRec ts = false) : ppayS S ts = panyS S ts := by
 unfold ppayS
 rw [if_neg (by rw [h1, h2, h3, h4, h5]; simp)]
theorem hd_five {s : ByteArray} {ts : List Tk} (h : hd s ts = true) (c : ((s.toList == sBang.toList) || (s.toList == sAsk.toList) || (s.toList == sPlus.toList) || (s.toList == sAnd.toList) || (s.toList == sRec.toList)) = false) (S : List Tk -> PR Ty) : ppayS S ts = panyS S ts := by
 simp only [Bool.or_eq_false_iff] at c
 exact pay_pos (hd_other h c.1.1.1.1) (hd_other h c.1.1.1.2) (hd_other h c.1.1.2) (hd_other h c.1.2) (hd_other h c.2)
theorem pay_int {S : List Tk -> PR Ty} {ts : List Tk} (h : hd sInt ts = true) : ppayS S ts = .ok (lfT 1) ts.tail := by
 rw [hd_five h (by decide +kernel)]
 unfold panyS
 rw [if_pos h]
theorem pay_bool {S : List Tk -> PR Ty} {ts : List Tk} (h : hd sBool ts = true) : ppayS S ts = .ok (lfT 2) ts.tail := by
 rw [hd_five h (by decide +kernel)]
 unfold panyS
 rw [if_neg (by rw [hd_other h (by decide +kernel)]; simp), if_pos h]
theorem pay_else {s : ByteArray} {S : List Tk -> PR Ty} {ts : List Tk} (h : hd s ts = true) (c : ((s.toList == sBang.toList) || (s.toList == sAsk.toList) || (s.toList == sPlus.toList) || (s.toList == sAnd.toList) || (s.toList == sRec.toList)) = false) (c1 : (s.toList == sInt.toList) = false) (c2 : (s.toList == sBool.toList) = false) : ppayS S ts = S ts := by
 rw [hd_five h c]
 unfold panyS
 rw [if_neg (by rw [hd_other h c1]; simp), if_neg (by rw [hd_other h c2]; simp)]
theorem pay_end {g : Nat} {ts : List Tk} (h : hd sEnd ts = true) : ppayS (psess nameB (g + 1)) ts = .ok (lfT 3) ts.tail := by
 rw [pay_else h (by decide +kernel) (by decide +kernel) (by decide +kernel), psess, if_pos h]
theorem pay_open {S : List Tk -> PR Ty} {ts : List Tk} (h : hd sOpen ts = true) : ppayS S ts = S ts := pay_else h (by decide +kernel) (by decide +kernel) (by decide +kernel)
theorem var_bad {s : ByteArray} {ts : List Tk} (h : hd s ts = true) (hs : nameB s = false) : pvar nameB ts = .bad 1 ts := by
 cases ts with
 | nil => cases h
 | cons x r =>
  have e : x.t = s := ba_inj h
  have e2 : pname nameB (x :: r) = .bad 1 (x :: r) := by rw [pname, if_neg (by rw [e, hs]; simp)]
  unfold pvar
  rw [e2]
  rfl
theorem sess_var {g : Nat} {ts : List Tk} (h0 : hd sEnd ts = false) (h1 : hd sBang ts = false) (h2 : hd sAsk ts = false) (h3 : hd sPlus ts = false) (h4 : hd sAnd ts = false) (h5 : hd sRec ts = false) (h6 : hd sOpen ts = false) : psess nameB (g + 1) ts = pvar nameB ts := by
 rw [psess, if_neg (by rw [h0]; simp), if_neg (by rw [h1]; simp), if_neg (by rw [h2]; simp), if_neg (by rw [h3]; simp), if_neg (by rw [h4]; simp), if_neg (by rw [h5]; simp), if_neg (by rw [h6]; simp)]
theorem pay_var {g : Nat} {ts : List Tk} (hi : hd sInt ts = false) (hb : hd sBool ts = false) (h0 : hd sEnd ts = false) (h6 : hd sOpen ts = false) : ppayS (psess nameB (g + 1)) ts = pvar nameB ts := by
 by_cases hh : hd sBang ts = true \/ hd sAsk ts = true \/ hd sPlus ts = true \/ hd sAnd ts = true \/ hd sRec ts = true
 ·have e : ppayS (psess nameB (g + 1)) ts = .bad 1 ts := by unfold ppayS; rw [if_pos hh]
  rw [e]
  rcases hh with h | h | h | h | h <;> exact (var_bad h (by decide +kernel)).symm
 ·have hh' := hh
  simp only [not_or, Bool.not_eq_true] at hh'
  obtain ⟨h1, h2, h3, h4, h5⟩ := hh'
  rw [pay_pos h1 h2 h3 h4 h5]
  unfold panyS
  rw [if_neg (by rw [hi]; simp), if_neg (by rw [hb]; simp)]
  exact sess_var h0 h1 h2 h3 h4 h5 h6
def RS.len : RS -> Nat
 | .inl ts => ts.length + 1
 | .inr _ => 0
def SessR (R : Nat) (la : Option Addr) (all : List Tk) (E : Int) (S : List Tk -> PR Ty) (n : Nat) : Prop := ∀ st W, RdIs R la all E st W -> st.len < n -> Calls Tryz.prog 72 #[.pointer (some ⟨R, 0, none⟩)] W (Red R la all E W S st (GTy W.heap.size))
theorem rdpay_any (R : Nat) (la : Option Addr) (all : List Tk) (E : Int) (st : RS) (w : World) (h : RdIs R la all E st w) (g n : Nat) (hS : SessR R la all E (psess nameB (g + 1)) n) (hn : st.len < n) :
 Calls Tryz.prog 71 #[.pointer (some ⟨R, 0, none⟩)] w (Red R la all E w (ppayS (psess nameB (g + 1))) st (GTy w.heap.size)) := by
 have HS := hid hS
 have HN := hid hn
 clear hS hn
 obtain ⟨W1, hW1⟩ := ex1 (w.alloc (.cells z6 28))
 have hb1 := (made hW1).1
 have x1 := (made hW1).2
 have hs1 : w.heap.size < W1.heap.size := (gl x1)
 have hR : R < w.heap.size := h.lt
 have HLA := hid h.la
 have HP : Hid (RdIs R la all E st W1) := hid (h.to hb1)
 have HB : Hid (But R W1 W1) := hid (But.refl _ _)
 have HW1 := hid hW1
 have HB1 := hid hb1
 have HX1 := hid x1
 clear hW1 hb1 x1 h
 cases q0 : stHd sInt st with
 | true =>
  have k0 : ((stText st).toList == [105, 110, 116]) = true := by rw [<- (show sInt.toList = [105, 110, 116] by decide +kernel)]; exact (stText_hd (by decide +kernel) _).trans q0
  obtain ⟨he1, he2⟩ := st_congr (F := ppayS (psess nameB (g + 1))) (G := fun ts => .ok (lfT 1) ts.tail) E (st := st) (fun ts e => pay_int (by rw [e] at q0; exact q0))
  obtain ⟨hl1, hl2⟩ := leaf_step E (lfT 1) q0
  unfold Red
  rw [he1, he2, hl1]
  have HE := hid hl2
  clear he1 he2 hl1 hl2
  obtain ⟨t1, ht1⟩ := ex1 (stText st)
  have HT1 := hid ht1
  rw [ht1] at k0
  clear ht1 q0
  go_enter Tryz.func71, Tryz.ntmps71
  go_upto_region 1 with fail
  rw [HW1.out]
  go_wp2_with (first | (go_at_call 58; refine (text_any R _ all E _ _ HP.out).mono ?_; rw [HT1.out]; rintro en wn ⟨rfl, hb⟩; replace HP := hid (HP.out.to hb); replace HB := hid (HB.out.to hb); clear hb) | (go_at_call 59; refine (need_any R _ all E _ (by decide +kernel) _ _ HP.out).mono ?_; rintro en wo ⟨rfl, hp, hb⟩; replace HP := hid hp; replace HB := hid (HB.out.trans hb); clear hp hb; have hx9 : wo.heap[w.heap.size]? = some (.cells z6 28 (0, 0)) := (HB.out.block w.heap.size hs1 (Nat.ne_of_gt hR)).trans HX1.out; obtain ⟨⟨q0, q1, q2, q3, q4, q5⟩, z0, z1, z2, z3, z4, z5⟩ := c6 hx9; have HX9 := hid hx9; clear hx9))
  have hx8 := fill6 HX9.out (.int .i64 1) (.int .i64 0) (.string ⟨#[]⟩) (.int .i64 0) (.slice none 0 0) (.slice none 0 0)
  obtain ⟨⟨y0, y1, y2, y3, y4, y5⟩, -⟩ := c6 hx8
  refine bodyPost_ret (v := .agg #[.int .i64 1, .int .i64 0, .string ⟨#[]⟩, .int .i64 0, .slice none 0 0, .slice none 0 0]) (by simp [results, Tryz.results71, go_sem, y0, y1, y2, y3, y4, y5]) rfl ?_
  refine ⟨⟨_, lfT 1, rfl, GTy.leaf _ _ 1 0 0 ⟨#[]⟩ (Nat.zero_le _), HE.out⟩, HP.out.put6 hR HLA.out (.int .i64 1) (.int .i64 0) (.string ⟨#[]⟩) (.int .i64 0) (.slice none 0 0) (.slice none 0 0), ((But.of HB1.out).trans HB.out).put6 (Nat.le_refl _) (.int .i64 1) (.int .i64 0) (.string ⟨#[]⟩) (.int .i64 0) (.slice none 0 0) (.slice none 0 0)⟩
 | false =>
  cases q1 : stHd sBool st with
  | true =>
   have k0 : ((stText st).toList == [105, 110, 116]) = false := by rw [<- (show sInt.toList = [105, 110, 116] by decide +kernel)]; exact (stText_hd (by decide +kernel) _).trans q0
   have k1 : ((stText st).toList == [98, 111, 111, 108]) = true := by rw [<- (show sBool.toList = [98, 111, 111, 108] by decide +kernel)]; exact (stText_hd (by decide +kernel) _).trans q1
   obtain ⟨he1, he2⟩ := st_congr (F := ppayS (psess nameB (g + 1))) (G := fun ts => .ok (lfT 2) ts.tail) E (st := st) (fun ts e => pay_bool (by rw [e] at q1; exact q1))
   obtain ⟨hl1, hl2⟩ := leaf_step E (lfT 2) q1
   unfold Red
   rw [he1, he2, hl1]
   have HE := hid hl2
   clear he1 he2 hl1 hl2
   obtain ⟨t1, ht1⟩ := ex1 (stText st)
   have HT1 := hid ht1
   rw [ht1] at k0 k1
   clear ht1 q0 q1
   go_enter Tryz.func71, Tryz.ntmps71
   go_upto_region 1 with fail
   rw [HW1.out]
   go_wp2_with (first | (go_at_call 58; refine (text_any R _ all E _ _ HP.out).mono ?_; rw [HT1.out]; rintro en wn ⟨rfl, hb⟩; replace HP := hid (HP.out.to hb); replace HB := hid (HB.out.to hb); clear hb) | (go_at_call 59; refine (need_any R _ all E _ (by decide +kernel) _ _ HP.out).mono ?_; rintro en wo ⟨rfl, hp, hb⟩; replace HP := hid hp; replace HB := hid (HB.out.trans hb); clear hp hb; have hx9 : wo.heap[w.heap.size]? = some (.cells z6 28 (0, 0)) := (HB.out.block w.heap.size hs1 (Nat.ne_of_gt hR)).trans HX1.out; obtain ⟨⟨q0, q1, q2, q3, q4, q5⟩, z0, z1, z2, z3, z4, z5⟩ := c6 hx9; have HX9 := hid hx9; clear hx9))
   have hx8 := fill6 HX9.out (.int .i64 2) (.int .i64 0) (.string ⟨#[]⟩) (.int .i64 0) (.slice none 0 0) (.slice none 0 0)
   obtain ⟨⟨y0, y1, y2, y3, y4, y5⟩, -⟩ := c6 hx8
   refine bodyPost_ret (v := .agg #[.int .i64 2, .int .i64 0, .string ⟨#[]⟩, .int .i64 0, .slice none 0 0, .slice none 0 0]) (by simp [results, Tryz.results71, go_sem, y0, y1, y2, y3, y4, y5]) rfl ?_
   refine ⟨⟨_, lfT 2, rfl, GTy.leaf _ _ 2 0 0 ⟨#[]⟩ (Nat.zero_le _), HE.out⟩, HP.out.put6 hR HLA.out (.int .i64 2) (.int .i64 0) (.string ⟨#[]⟩) (.int .i64 0) (.slice none 0 0) (.slice none 0 0), ((But.of HB1.out).trans HB.out).put6 (Nat.le_refl _) (.int .i64 2) (.int .i64 0) (.string ⟨#[]⟩) (.int .i64 0) (.slice none 0 0) (.slice none 0 0)⟩
  | false =>
   cases q2 : stHd sEnd st with
   | true =>
    have k0 : ((stText st).toList == [105, 110, 116]) = false := by rw [<- (show sInt.toList = [105, 110, 116] by decide +kernel)]; exact (stText_hd (by decide +kernel) _).trans q0
    have k1 : ((stText st).toList == [98, 111, 111, 108]) = false := by rw [<- (show sBool.toList = [98, 111, 111, 108] by decide +kernel)]; exact (stText_hd (by decide +kernel) _).trans q1
    have k2 : ((stText st).toList == [101, 110, 100]) = true := by rw [<- (show sEnd.toList = [101, 110, 100] by decide +kernel)]; exact (stText_hd (by decide +kernel) _).trans q2
    obtain ⟨he1, he2⟩ := st_congr (F := ppayS (psess nameB (g + 1))) (G := fun ts => .ok (lfT 3) ts.tail) E (st := st) (fun ts e => pay_end (by rw [e] at q2; exact q2))
    obtain ⟨hl1, hl2⟩ := leaf_step E (lfT 3) q2
    unfold Red
    rw [he1, he2, hl1]
    have HE := hid hl2
    clear he1 he2 hl1 hl2
    obtain ⟨t1, ht1⟩ := ex1 (stText st)
    have HT1 := hid ht1
    rw [ht1] at k0 k1 k2
    clear ht1 q0 q1 q2
    go_enter Tryz.func71, Tryz.ntmps71
    go_upto_region 1 with fail
    rw [HW1.out]
    go_wp2_with (first | (go_at_call 58; refine (text_any R _ all E _ _ HP.out).mono ?_; rw [HT1.out]; rintro en wn ⟨rfl, hb⟩; replace HP := hid (HP.out.to hb); replace HB := hid (HB.out.to hb); clear hb) | (go_at_call 59; refine (need_any R _ all E _ (by decide +kernel) _ _ HP.out).mono ?_; rintro en wo ⟨rfl, hp, hb⟩; replace HP := hid hp; replace HB := hid (HB.out.trans hb); clear hp hb; have hx9 : wo.heap[w.heap.size]? = some (.cells z6 28 (0, 0)) := (HB.out.block w.heap.size hs1 (Nat.ne_of_gt hR)).trans HX1.out; obtain ⟨⟨q0, q1, q2, q3, q4, q5⟩, z0, z1, z2, z3, z4, z5⟩ := c6 hx9; have HX9 := hid hx9; clear hx9))
    have hx8 := fill6 HX9.out (.int .i64 3) (.int .i64 0) (.string ⟨#[]⟩) (.int .i64 0) (.slice none 0 0) (.slice none 0 0)
    obtain ⟨⟨y0, y1, y2, y3, y4, y5⟩, -⟩ := c6 hx8
    refine bodyPost_ret (v := .agg #[.int .i64 3, .int .i64 0, .string ⟨#[]⟩, .int .i64 0, .slice none 0 0, .slice none 0 0]) (by simp [results, Tryz.results71, go_sem, y0, y1, y2, y3, y4, y5]) rfl ?_
    refine ⟨⟨_, lfT 3, rfl, GTy.leaf _ _ 3 0 0 ⟨#[]⟩ (Nat.zero_le _), HE.out⟩, HP.out.put6 hR HLA.out (.int .i64 3) (.int .i64 0) (.string ⟨#[]⟩) (.int .i64 0) (.slice none 0 0) (.slice none 0 0), ((But.of HB1.out).trans HB.out).put6 (Nat.le_refl _) (.int .i64 3) (.int .i64 0) (.string ⟨#[]⟩) (.int .i64 0) (.slice none 0 0) (.slice none 0 0)⟩
   | false =>
    cases q3 : stHd sOpen st with
    | true =>
     have k0 : ((stText st).toList == [105, 110, 116]) = false := by rw [<- (show sInt.toList = [105, 110, 116] by decide +kernel)]; exact (stText_hd (by decide +kernel) _).trans q0
     have k1 : ((stText st).toList == [98, 111, 111, 108]) = false := by rw [<- (show sBool.toList = [98, 111, 111, 108] by decide +kernel)]; exact (stText_hd (by decide +kernel) _).trans q1
     have k2 : ((stText st).toList == [101, 110, 100]) = false := by rw [<- (show sEnd.toList = [101, 110, 100] by decide +kernel)]; exact (stText_hd (by decide +kernel) _).trans q2
     have k3 : ((stText st).toList == [40]) = true := by rw [<- (show sOpen.toList = [40] by decide +kernel)]; exact (stText_hd (by decide +kernel) _).trans q3
     obtain ⟨he1, he2⟩ := st_congr (F := ppayS (psess nameB (g + 1))) (G := psess nameB (g + 1)) E (st := st) (fun ts e => pay_open (by rw [e] at q3; exact q3))
     unfold Red
     rw [he1, he2]
     clear he1 he2
     obtain ⟨t1, ht1⟩ := ex1 (stText st)
     have HT1 := hid ht1
     rw [ht1] at k0 k1 k2 k3
     clear ht1 q0 q1 q2 q3
     go_enter Tryz.func71, Tryz.ntmps71
     go_upto_region 1 with fail
     rw [HW1.out]
     go_wp2_with (first | (go_at_call 58; refine (text_any R _ all E _ _ HP.out).mono ?_; rw [HT1.out]; rintro en wn ⟨rfl, hb⟩; replace HP := hid (HP.out.to hb); replace HB := hid (HB.out.to hb); clear hb) | (go_at_call 72; refine (HS.out _ _ HP.out HN.out).mono ?_; rintro en wo ⟨⟨_, x, rfl, hg, hv⟩, hp, hb⟩; obtain ⟨la', ln, lc, ka, kn, kc, rfl⟩ := hg.open; have HV := hid hv; have HG := hid (hg.mono (show W1.heap.size <= _ from HB.out.size)); clear hv hg; replace HP := hid hp; replace HB := hid (HB.out.trans hb); clear hp hb; have hx9 : wo.heap[w.heap.size]? = some (.cells z6 28 (0, 0)) := (HB.out.block w.heap.size hs1 (Nat.ne_of_gt hR)).trans HX1.out; obtain ⟨⟨q0, q1, q2, q3, q4, q5⟩, z0, z1, z2, z3, z4, z5⟩ := c6 hx9; have HX9 := hid hx9; clear hx9))
     have hx8 := fill6 HX9.out (.int .i64 x.k) (.int .i64 x.p) (.string x.n) (.int .i64 x.s) (.slice la' ln lc) (.slice ka kn kc)
     obtain ⟨⟨y0, y1, y2, y3, y4, y5⟩, -⟩ := c6 hx8
     refine bodyPost_ret (v := .agg #[.int .i64 x.k, .int .i64 x.p, .string x.n, .int .i64 x.s, .slice la' ln lc, .slice ka kn kc]) (by simp [results, Tryz.results71, go_sem, y0, y1, y2, y3, y4, y5]) rfl ?_
     refine ⟨⟨_, x, rfl, (HG.out.put6 hs1 (.int .i64 x.k) (.int .i64 x.p) (.string x.n) (.int .i64 x.s) (.slice la' ln lc) (.slice ka kn kc)).mono (Nat.le_of_lt hs1), HV.out⟩, HP.out.put6 hR HLA.out (.int .i64 x.k) (.int .i64 x.p) (.string x.n) (.int .i64 x.s) (.slice la' ln lc) (.slice ka kn kc), ((But.of HB1.out).trans HB.out).put6 (Nat.le_refl _) (.int .i64 x.k) (.int .i64 x.p) (.string x.n) (.int .i64 x.s) (.slice la' ln lc) (.slice ka kn kc)⟩
    | false =>
     have k0 : ((stText st).toList == [105, 110, 116]) = false := by rw [<- (show sInt.toList = [105, 110, 116] by decide +kernel)]; exact (stText_hd (by decide +kernel) _).trans q0
     have k1 : ((stText st).toList == [98, 111, 111, 108]) = false := by rw [<- (show sBool.toList = [98, 111, 111, 108] by decide +kernel)]; exact (stText_hd (by decide +kernel) _).trans q1
     have k2 : ((stText st).toList == [101, 110, 100]) = false := by rw [<- (show sEnd.toList = [101, 110, 100] by decide +kernel)]; exact (stText_hd (by decide +kernel) _).trans q2
     have k3 : ((stText st).toList == [40]) = false := by rw [<- (show sOpen.toList = [40] by decide +kernel)]; exact (stText_hd (by decide +kernel) _).trans q3
     obtain ⟨he1, he2⟩ := st_congr (F := ppayS (psess nameB (g + 1))) (G := pvar nameB) E (st := st) (fun ts e => pay_var (by rw [e] at q0; exact q0) (by rw [e] at q1; exact q1) (by rw [e] at q2; exact q2) (by rw [e] at q3; exact q3))
     unfold Red
     rw [he1, he2]
     clear he1 he2
     obtain ⟨t1, ht1⟩ := ex1 (stText st)
     have HT1 := hid ht1
     rw [ht1] at k0 k1 k2 k3
     clear ht1 q0 q1 q2 q3
     go_enter Tryz.func71, Tryz.ntmps71
     go_upto_region 1 with fail
     rw [HW1.out]
     go_wp2_with (first | (go_at_call 58; refine (text_any R _ all E _ _ HP.out).mono ?_; rw [HT1.out]; rintro en wn ⟨rfl, hb⟩; replace HP := hid (HP.out.to hb); replace HB := hid (HB.out.to hb); clear hb) | (go_at_call 100; refine (rdvar_any R _ all E _ _ HP.out).mono ?_; rintro en wo ⟨⟨_, x, rfl, hg, hv⟩, hp, hb⟩; obtain ⟨la', ln, lc, ka, kn, kc, rfl⟩ := hg.open; have HV := hid hv; have HG := hid (hg.mono (show W1.heap.size <= _ from HB.out.size)); clear hv hg; replace HP := hid hp; replace HB := hid (HB.out.trans hb); clear hp hb; have hx9 : wo.heap[w.heap.size]? = some (.cells z6 28 (0, 0)) := (HB.out.block w.heap.size hs1 (Nat.ne_of_gt hR)).trans HX1.out; obtain ⟨⟨q0, q1, q2, q3, q4, q5⟩, z0, z1, z2, z3, z4, z5⟩ := c6 hx9; have HX9 := hid hx9; clear hx9))
     have hx8 := fill6 HX9.out (.int .i64 x.k) (.int .i64 x.p) (.string x.n) (.int .i64 x.s) (.slice la' ln lc) (.slice ka kn kc)
     obtain ⟨⟨y0, y1, y2, y3, y4, y5⟩, -⟩ := c6 hx8
     refine bodyPost_ret (v := .agg #[.int .i64 x.k, .int .i64 x.p, .string x.n, .int .i64 x.s, .slice la' ln lc, .slice ka kn kc]) (by simp [results, Tryz.results71, go_sem, y0, y1, y2, y3, y4, y5]) rfl ?_
     refine ⟨⟨_, x, rfl, (HG.out.put6 hs1 (.int .i64 x.k) (.int .i64 x.p) (.string x.n) (.int .i64 x.s) (.slice la' ln lc) (.slice ka kn kc)).mono (Nat.le_of_lt hs1), HV.out⟩, HP.out.put6 hR HLA.out (.int .i64 x.k) (.int .i64 x.p) (.string x.n) (.int .i64 x.s) (.slice la' ln lc) (.slice ka kn kc), ((But.of HB1.out).trans HB.out).put6 (Nat.le_refl _) (.int .i64 x.k) (.int .i64 x.p) (.string x.n) (.int .i64 x.s) (.slice la' ln lc) (.slice ka kn kc)⟩
theorem rdany_any (R : Nat) (la : Option Addr) (all : List Tk) (E : Int) (st : RS) (w : World) (h : RdIs R la all E st w) (g n : Nat) (hS : SessR R la all E (psess nameB (g + 1)) n) (hn : st.len < n) :
 Calls Tryz.prog 38 #[.pointer (some ⟨R, 0, none⟩)] w (Red R la all E w (panyS (psess nameB (g + 1))) st (GTy w.heap.size)) := by
 have HS := hid hS
 have HN := hid hn
 clear hS hn
 obtain ⟨W1, hW1⟩ := ex1 (w.alloc (.cells z6 28))
 have hb1 := (made hW1).1
 have x1 := (made hW1).2
 have hs1 : w.heap.size < W1.heap.size := (gl x1)
 have hR : R < w.heap.size := h.lt
 have HLA := hid h.la
 have HP : Hid (RdIs R la all E st W1) := hid (h.to hb1)
 have HB : Hid (But R W1 W1) := hid (But.refl _ _)
 have HW1 := hid hW1
 have HB1 := hid hb1
 have HX1 := hid x1
 clear hW1 hb1 x1 h
 cases q0 : stHd sInt st with
 | true =>
  have k0 : ((stText st).toList == [105, 110, 116]) = true := by rw [<- (show sInt.toList = [105, 110, 116] by decide +kernel)]; exact (stText_hd (by decide +kernel) _).trans q0
  obtain ⟨he1, he2⟩ := st_congr (F := panyS (psess nameB (g + 1))) (G := ppayS (psess nameB (g + 1))) E (st := st) (fun ts e => (hd_five (s := sInt) (by rw [e] at q0; exact q0) (by decide +kernel) _).symm)
  unfold Red
  rw [he1, he2]
  clear he1 he2
  obtain ⟨t1, ht1⟩ := ex1 (stText st)
  have HT1 := hid ht1
  rw [ht1] at k0
  clear ht1 q0
  go_enter Tryz.func38, Tryz.ntmps38
  go_upto_region 1 with fail
  rw [HW1.out]
  go_wp2_with (first | (go_at_call 58; refine (text_any R _ all E _ _ HP.out).mono ?_; rw [HT1.out]; rintro en wn ⟨rfl, hb⟩; replace HP := hid (HP.out.to hb); replace HB := hid (HB.out.to hb); clear hb) | (go_at_call 71; refine (rdpay_any R _ all E _ _ HP.out g n HS.out HN.out).mono ?_; rintro en wo ⟨⟨_, x, rfl, hg, hv⟩, hp, hb⟩; obtain ⟨la', ln, lc, ka, kn, kc, rfl⟩ := hg.open; have HV := hid hv; have HG := hid (hg.mono (show W1.heap.size <= _ from HB.out.size)); clear hv hg; replace HP := hid hp; replace HB := hid (HB.out.trans hb); clear hp hb; have hx9 : wo.heap[w.heap.size]? = some (.cells z6 28 (0, 0)) := (HB.out.block w.heap.size hs1 (Nat.ne_of_gt hR)).trans HX1.out; obtain ⟨⟨q0, q1, q2, q3, q4, q5⟩, z0, z1, z2, z3, z4, z5⟩ := c6 hx9; have HX9 := hid hx9; clear hx9))
  have hx8 := fill6 HX9.out (.int .i64 x.k) (.int .i64 x.p) (.string x.n) (.int .i64 x.s) (.slice la' ln lc) (.slice ka kn kc)
  obtain ⟨⟨y0, y1, y2, y3, y4, y5⟩, -⟩ := c6 hx8
  refine bodyPost_ret (v := .agg #[.int .i64 x.k, .int .i64 x.p, .string x.n, .int .i64 x.s, .slice la' ln lc, .slice ka kn kc]) (by simp [results, Tryz.results38, go_sem, y0, y1, y2, y3, y4, y5]) rfl ?_
  refine ⟨⟨_, x, rfl, (HG.out.put6 hs1 (.int .i64 x.k) (.int .i64 x.p) (.string x.n) (.int .i64 x.s) (.slice la' ln lc) (.slice ka kn kc)).mono (Nat.le_of_lt hs1), HV.out⟩, HP.out.put6 hR HLA.out (.int .i64 x.k) (.int .i64 x.p) (.string x.n) (.int .i64 x.s) (.slice la' ln lc) (.slice ka kn kc), ((But.of HB1.out).trans HB.out).put6 (Nat.le_refl _) (.int .i64 x.k) (.int .i64 x.p) (.string x.n) (.int .i64 x.s) (.slice la' ln lc) (.slice ka kn kc)⟩
 | false =>
  cases q1 : stHd sBool st with
  | true =>
   have k0 : ((stText st).toList == [105, 110, 116]) = false := by rw [<- (show sInt.toList = [105, 110, 116] by decide +kernel)]; exact (stText_hd (by decide +kernel) _).trans q0
   have k1 : ((stText st).toList == [98, 111, 111, 108]) = true := by rw [<- (show sBool.toList = [98, 111, 111, 108] by decide +kernel)]; exact (stText_hd (by decide +kernel) _).trans q1
   obtain ⟨he1, he2⟩ := st_congr (F := panyS (psess nameB (g + 1))) (G := ppayS (psess nameB (g + 1))) E (st := st) (fun ts e => (hd_five (s := sBool) (by rw [e] at q1; exact q1) (by decide +kernel) _).symm)
   unfold Red
   rw [he1, he2]
   clear he1 he2
   obtain ⟨t1, ht1⟩ := ex1 (stText st)
   have HT1 := hid ht1
   rw [ht1] at k0 k1
   clear ht1 q0 q1
   go_enter Tryz.func38, Tryz.ntmps38
   go_upto_region 1 with fail
   rw [HW1.out]
   go_wp2_with (first | (go_at_call 58; refine (text_any R _ all E _ _ HP.out).mono ?_; rw [HT1.out]; rintro en wn ⟨rfl, hb⟩; replace HP := hid (HP.out.to hb); replace HB := hid (HB.out.to hb); clear hb) | (go_at_call 71; refine (rdpay_any R _ all E _ _ HP.out g n HS.out HN.out).mono ?_; rintro en wo ⟨⟨_, x, rfl, hg, hv⟩, hp, hb⟩; obtain ⟨la', ln, lc, ka, kn, kc, rfl⟩ := hg.open; have HV := hid hv; have HG := hid (hg.mono (show W1.heap.size <= _ from HB.out.size)); clear hv hg; replace HP := hid hp; replace HB := hid (HB.out.trans hb); clear hp hb; have hx9 : wo.heap[w.heap.size]? = some (.cells z6 28 (0, 0)) := (HB.out.block w.heap.size hs1 (Nat.ne_of_gt hR)).trans HX1.out; obtain ⟨⟨q0, q1, q2, q3, q4, q5⟩, z0, z1, z2, z3, z4, z5⟩ := c6 hx9; have HX9 := hid hx9; clear hx9))
   have hx8 := fill6 HX9.out (.int .i64 x.k) (.int .i64 x.p) (.string x.n) (.int .i64 x.s) (.slice la' ln lc) (.slice ka kn kc)
   obtain ⟨⟨y0, y1, y2, y3, y4, y5⟩, -⟩ := c6 hx8
   refine bodyPost_ret (v := .agg #[.int .i64 x.k, .int .i64 x.p, .string x.n, .int .i64 x.s, .slice la' ln lc, .slice ka kn kc]) (by simp [results, Tryz.results38, go_sem, y0, y1, y2, y3, y4, y5]) rfl ?_
   refine ⟨⟨_, x, rfl, (HG.out.put6 hs1 (.int .i64 x.k) (.int .i64 x.p) (.string x.n) (.int .i64 x.s) (.slice la' ln lc) (.slice ka kn kc)).mono (Nat.le_of_lt hs1), HV.out⟩, HP.out.put6 hR HLA.out (.int .i64 x.k) (.int .i64 x.p) (.string x.n) (.int .i64 x.s) (.slice la' ln lc) (.slice ka kn kc), ((But.of HB1.out).trans HB.out).put6 (Nat.le_refl _) (.int .i64 x.k) (.int .i64 x.p) (.string x.n) (.int .i64 x.s) (.slice la' ln lc) (.slice ka kn kc)⟩
  | false =>
   have k0 : ((stText st).toList == [105, 110, 116]) = false := by rw [<- (show sInt.toList = [105, 110, 116] by decide +kernel)]; exact (stText_hd (by decide +kernel) _).trans q0
   have k1 : ((stText st).toList == [98, 111, 111, 108]) = false := by rw [<- (show sBool.toList = [98, 111, 111, 108] by decide +kernel)]; exact (stText_hd (by decide +kernel) _).trans q1
   obtain ⟨he1, he2⟩ := st_congr (F := panyS (psess nameB (g + 1))) (G := psess nameB (g + 1)) E (st := st) (fun ts e => by
    subst e
    unfold panyS
    rw [if_neg (by rw [show hd sInt ts = false from q0]; simp), if_neg (by rw [show hd sBool ts = false from q1]; simp)])
   unfold Red
   rw [he1, he2]
   clear he1 he2
   obtain ⟨t1, ht1⟩ := ex1 (stText st)
   have HT1 := hid ht1
   rw [ht1] at k0 k1
   clear ht1 q0 q1
   go_enter Tryz.func38, Tryz.ntmps38
   go_upto_region 1 with fail
   rw [HW1.out]
   go_wp2_with (first | (go_at_call 58; refine (text_any R _ all E _ _ HP.out).mono ?_; rw [HT1.out]; rintro en wn ⟨rfl, hb⟩; replace HP := hid (HP.out.to hb); replace HB := hid (HB.out.to hb); clear hb) | (go_at_call 72; refine (HS.out _ _ HP.out HN.out).mono ?_; rintro en wo ⟨⟨_, x, rfl, hg, hv⟩, hp, hb⟩; obtain ⟨la', ln, lc, ka, kn, kc, rfl⟩ := hg.open; have HV := hid hv; have HG := hid (hg.mono (show W1.heap.size <= _ from HB.out.size)); clear hv hg; replace HP := hid hp; replace HB := hid (HB.out.trans hb); clear hp hb; have hx9 : wo.heap[w.heap.size]? = some (.cells z6 28 (0, 0)) := (HB.out.block w.heap.size hs1 (Nat.ne_of_gt hR)).trans HX1.out; obtain ⟨⟨q0, q1, q2, q3, q4, q5⟩, z0, z1, z2, z3, z4, z5⟩ := c6 hx9; have HX9 := hid hx9; clear hx9))
   have hx8 := fill6 HX9.out (.int .i64 x.k) (.int .i64 x.p) (.string x.n) (.int .i64 x.s) (.slice la' ln lc) (.slice ka kn kc)
   obtain ⟨⟨y0, y1, y2, y3, y4, y5⟩, -⟩ := c6 hx8
   refine bodyPost_ret (v := .agg #[.int .i64 x.k, .int .i64 x.p, .string x.n, .int .i64 x.s, .slice la' ln lc, .slice ka kn kc]) (by simp [results, Tryz.results38, go_sem, y0, y1, y2, y3, y4, y5]) rfl ?_
   refine ⟨⟨_, x, rfl, (HG.out.put6 hs1 (.int .i64 x.k) (.int .i64 x.p) (.string x.n) (.int .i64 x.s) (.slice la' ln lc) (.slice ka kn kc)).mono (Nat.le_of_lt hs1), HV.out⟩, HP.out.put6 hR HLA.out (.int .i64 x.k) (.int .i64 x.p) (.string x.n) (.int .i64 x.s) (.slice la' ln lc) (.slice ka kn kc), ((But.of HB1.out).trans HB.out).put6 (Nat.le_refl _) (.int .i64 x.k) (.int .i64 x.p) (.string x.n) (.int .i64 x.s) (.slice la' ln lc) (.slice ka kn kc)⟩
end Go.Proofs.YtejaboajgecpaaaGreatDoor
