/- Parsing: lemmas. -/
import Derived.Test.YtejaboajgecpaaaGreatDoorQn19
set_option maxHeartbeats 16000000
set_option maxRecDepth 100000
namespace Go.Proofs.YtejaboajgecpaaaGreatDoor
open Go.Lib (hid)
open Go.RowKit Go.Deep Go.Shelf
theorem noNote {γ : Type} (P : Nat) : Noted (γ := γ) (fun _ _ => True) (fun _ _ => False) P := ⟨fun _ h => h.elim, fun _ _ _ => ⟨trivial, fun _ => Iff.rfl⟩⟩
theorem val_elem (P tb : Nat) (E : Int) (B : Nat) (hBP : B <= P) (n : Nat) : ElemOK P tb E B 142 #[.pointer (some ⟨P, 0, none⟩)] #[] (pval nameB) (fun x => x) VlVal (fun _ _ => True) (fun _ _ => False) n := by
 intro xs ts W _ _ he hp _
 refine (pval_any P tb E ts B W he hBP hp).mono (fun e w' hq => ?_)
 dsimp only
 unfold Parsed at hq
 cases hc : pval nameB ts with
 | ok x r =>
  rw [hc] at hq
  obtain ⟨⟨v, e1, hg⟩, h2, h3⟩ := hq
  exact ⟨⟨v, e1, hg⟩, h2, trivial, h3.o _, fun _ h => h.elim⟩
 | bad er r =>
  rw [hc] at hq
  exact ⟨hq.1, hq.2.o _⟩
theorem param_elem (P tb : Nat) (E : Int) (B : Nat) (hBP : B <= P) (S : List Tk -> PR Ty) (n : Nat) (hS : SessOK P tb E B S n) : ElemOK P tb E B 80 #[.pointer (some ⟨P, 0, none⟩)] #[] (pparamS S) (fun x => x) PmVal (fun _ _ => True) (fun _ _ => False) (n + 1) := by
 intro xs ts W hn _ he hp _
 refine (pparam_any P tb E ts B W he hBP hp S n (by omega) hS).mono (fun e w' hq => ?_)
 dsimp only
 unfold Parsed at hq
 cases hc : pparamS S ts with
 | ok x r =>
  rw [hc] at hq
  obtain ⟨⟨v, e1, tl, tk, e2, hz, hg⟩, h2, h3⟩ := hq
  refine ⟨⟨v, e1, tl, tk, e2, hz, TyVal.mono (fun k hk => ⟨hk.1, hk.2, fun h => h⟩) hg⟩, h2, trivial, h3.o _, fun _ h => h.elim⟩
 | bad er r =>
  rw [hc] at hq
  exact ⟨hq.1, hq.2.o _⟩
theorem plistUpTo_le {α : Type} {F : List Tk -> PR α} (hF : Shorter F) (s : ByteArray) (g : Nat) : Shorter (plistUpTo F s g) := by
 intro ts x r h
 unfold plistUpTo at h
 split at h
 ·next hc => cases h; exact hd_tail hc
 ·cases h2 : plist F g ts with
  | bad e r2 => rw [h2] at h; cases h
  | ok l r2 =>
   rw [h2] at h
   have l2 := plist_le hF g _ _ _ h2
   replace h : ((need s r2).bind fun _ r => PR.ok l r) = .ok x r := h
   cases h3 : need s r2 with
   | bad e r3 => rw [h3] at h; cases h
   | ok u r3 =>
    rw [h3] at h
    have l3 := need_le h3
    cases h
    omega
theorem pupV_any (P tb : Nat) (E : Int) (ts : List Tk) (B : Nat) (w : World) (he : Env B w) (hBP : B <= P) (h : PaIs P tb E ts w) (s : ByteArray) (hs : ((⟨#[]⟩ : ByteArray).toList == s.toList) = false) (f : Nat) (bs cs : Array Value) (eg : ∀ args w, (callFunc f args).run Tryz.prog w = .ok (.enter f args) w)
 (Fg : List Tk -> PR Vl) (n : Nat) (hn : ts.length < n) (hF : ElemOK P tb E B f bs cs Fg (fun x => x) VlVal (fun _ _ => True) (fun _ _ => False) n) (hS : Shorter Fg) (g : Nat) (hg : ts.length < g) :
 Calls Tryz.prog 141 #[.pointer (some ⟨P, 0, none⟩), .string s, .func (.func f) bs cs] w (Parsed P tb E w (plistUpTo Fg s g ts) (fun w' xs v => VlSl (fun k => w.heap.size <= k /\ k < w'.heap.size) w' v xs)) := by
 have hP : P < w.heap.size := h.lt
 have HEL := hid hF
 have HSH := hid hS
 have HE := hid he
 have HP := hid h
 clear hF hS he h
 unfold plistUpTo
 cases h1 : hd s ts with
 | true =>
  rw [if_pos rfl]
  go_enter Tryz.func141, Tryz.ntmps141
  go_wp2_with (go_at_call 50; refine (take_yes P tb E _ hs _ _ (by assumption) HP.out).mono ?_; rintro en w1 ⟨rfl, hp, hb⟩; have HP1 := hid hp; have HB1 := hid hb; clear hp hb)
  go_ret
  exact ⟨⟨_, rfl, ⟨.inl ⟨⟨_, _, rfl⟩, rfl⟩, Nat.zero_le _, fun s hs => by cases hs⟩⟩, HP1.out, HB1.out⟩
 | false =>
  rw [if_neg (by decide)]
  cases h2 : plist Fg g ts with
  | bad er r =>
   show Calls _ _ _ _ (Parsed P tb E w (PR.bad er r) _)
   go_enter Tryz.func141, Tryz.ntmps141
   go_wp2_with (first | (go_at_call 50; refine (take_no P tb E _ hs _ _ (by assumption) HP.out).mono ?_; rintro en w1 ⟨rfl, hp, hb⟩; have HP1 := hid hp; have HB1 := hid hb; clear hp hb) | (go_at_call 153; refine (plistV_any P tb E _ B w1 (HE.out.but HB1.out hBP) hBP HP1.out f bs cs eg Fg (fun x => x) _ _ n hn HEL.out (noNote P) HSH.out g hg trivial (fun _ h => h.elim)).mono ?_; rw [h2]; rintro en w2 ⟨rfl, hb⟩; have HB2 := hid (hb.but (fun _ _ h => h)); clear hb))
   exact ⟨rfl, rfl, HB1.out.trans HB2.out⟩
  | ok l r2 =>
   show Calls _ _ _ _ (Parsed P tb E w ((need s r2).bind fun _ r => .ok l r) _)
   cases h3 : need s r2 with
   | bad er r =>
    show Calls _ _ _ _ (Parsed P tb E w (PR.bad er r) _)
    go_enter Tryz.func141, Tryz.ntmps141
    go_wp2_with (first | (go_at_call 50; refine (take_no P tb E _ hs _ _ (by assumption) HP.out).mono ?_; rintro en w1 ⟨rfl, hp, hb⟩; have HP1 := hid hp; have HB1 := hid hb; clear hp hb) | (go_at_call 153; refine (plistV_any P tb E _ B w1 (HE.out.but HB1.out hBP) hBP HP1.out f bs cs eg Fg (fun x => x) _ _ n hn HEL.out (noNote P) HSH.out g hg trivial (fun _ h => h.elim)).mono ?_; rw [h2]; rintro en w2 ⟨⟨kv, rfl, hkv⟩, hp, -, hb, -⟩; have HK2 := hid hkv; have HP2 := hid hp; have HB2 := hid (hb.but (fun _ _ h => h)); clear hkv hp hb) | (go_at_call 52; refine (expect_any P tb E _ hs _ _ HP2.out).mono ?_; rw [h3]; rintro en w3 ⟨rfl, hb⟩; have HB3 := hid hb; clear hb))
    exact ⟨rfl, rfl, (HB1.out.trans HB2.out).trans HB3.out⟩
   | ok un3 r3 =>
    show Calls _ _ _ _ (Parsed P tb E w (PR.ok l r3) _)
    go_enter Tryz.func141, Tryz.ntmps141
    go_wp2_with (first | (go_at_call 50; refine (take_no P tb E _ hs _ _ (by assumption) HP.out).mono ?_; rintro en w1 ⟨rfl, hp, hb⟩; have HP1 := hid hp; have HB1 := hid hb; clear hp hb) | (go_at_call 153; refine (plistV_any P tb E _ B w1 (HE.out.but HB1.out hBP) hBP HP1.out f bs cs eg Fg (fun x => x) _ _ n hn HEL.out (noNote P) HSH.out g hg trivial (fun _ h => h.elim)).mono ?_; rw [h2]; rintro en w2 ⟨⟨kv, rfl, hkv⟩, hp, -, hb, -⟩; have HK2 := hid hkv; have HP2 := hid hp; have HB2 := hid (hb.but (fun _ _ h => h)); clear hkv hp hb) | (go_at_call 52; refine (expect_any P tb E _ hs _ _ HP2.out).mono ?_; rw [h3]; rintro en w3 ⟨⟨_, rfl, _⟩, hp, hb⟩; have HP3 := hid hp; have HB3 := hid hb; clear hp hb))
    go_ret
    have hz1 := HB1.out.size
    refine ⟨⟨_, rfl, ?_⟩, HP3.out, (HB1.out.trans HB2.out).trans HB3.out⟩
    have h9 := VlSl.mono (fun k hk => ⟨by omega, Nat.lt_of_lt_of_le hk.2.1 HB3.out.size⟩) (VlSl.keep (HB3.out.keeps (fun k hk => ⟨hk.2.1, by omega⟩)) HK2.out) (C := fun k => w.heap.size <= k /\ k < w3.heap.size)
    rwa [List.map_id'] at h9
theorem pupM_any (P tb : Nat) (E : Int) (ts : List Tk) (B : Nat) (w : World) (he : Env B w) (hBP : B <= P) (h : PaIs P tb E ts w) (s : ByteArray) (hs : ((⟨#[]⟩ : ByteArray).toList == s.toList) = false) (f : Nat) (bs cs : Array Value) (eg : ∀ args w, (callFunc f args).run Tryz.prog w = .ok (.enter f args) w)
 (Fg : List Tk -> PR Pm) (n : Nat) (hn : ts.length < n) (hF : ElemOK P tb E B f bs cs Fg (fun x => x) PmVal (fun _ _ => True) (fun _ _ => False) n) (hS : Shorter Fg) (g : Nat) (hg : ts.length < g) :
 Calls Tryz.prog 79 #[.pointer (some ⟨P, 0, none⟩), .string s, .func (.func f) bs cs] w (Parsed P tb E w (plistUpTo Fg s g ts) (fun w' xs v => PmSl (fun k => w.heap.size <= k /\ k < w'.heap.size) w' v xs)) := by
 have hP : P < w.heap.size := h.lt
 have HEL := hid hF
 have HSH := hid hS
 have HE := hid he
 have HP := hid h
 clear hF hS he h
 unfold plistUpTo
 cases h1 : hd s ts with
 | true =>
  rw [if_pos rfl]
  go_enter Tryz.func79, Tryz.ntmps79
  go_wp2_with (go_at_call 50; refine (take_yes P tb E _ hs _ _ (by assumption) HP.out).mono ?_; rintro en w1 ⟨rfl, hp, hb⟩; have HP1 := hid hp; have HB1 := hid hb; clear hp hb)
  go_ret
  exact ⟨⟨_, rfl, ⟨.inl ⟨⟨_, _, rfl⟩, rfl⟩, Nat.zero_le _⟩⟩, HP1.out, HB1.out⟩
 | false =>
  rw [if_neg (by decide)]
  cases h2 : plist Fg g ts with
  | bad er r =>
   show Calls _ _ _ _ (Parsed P tb E w (PR.bad er r) _)
   go_enter Tryz.func79, Tryz.ntmps79
   go_wp2_with (first | (go_at_call 50; refine (take_no P tb E _ hs _ _ (by assumption) HP.out).mono ?_; rintro en w1 ⟨rfl, hp, hb⟩; have HP1 := hid hp; have HB1 := hid hb; clear hp hb) | (go_at_call 109; refine (plistM_any P tb E _ B w1 (HE.out.but HB1.out hBP) hBP HP1.out f bs cs eg Fg (fun x => x) _ _ n hn HEL.out (noNote P) HSH.out g hg trivial (fun _ h => h.elim)).mono ?_; rw [h2]; rintro en w2 ⟨rfl, hb⟩; have HB2 := hid (hb.but (fun _ _ h => h)); clear hb))
   exact ⟨rfl, rfl, HB1.out.trans HB2.out⟩
  | ok l r2 =>
   show Calls _ _ _ _ (Parsed P tb E w ((need s r2).bind fun _ r => .ok l r) _)
   cases h3 : need s r2 with
   | bad er r =>
    show Calls _ _ _ _ (Parsed P tb E w (PR.bad er r) _)
    go_enter Tryz.func79, Tryz.ntmps79
    go_wp2_with (first | (go_at_call 50; refine (take_no P tb E _ hs _ _ (by assumption) HP.out).mono ?_; rintro en w1 ⟨rfl, hp, hb⟩; have HP1 := hid hp; have HB1 := hid hb; clear hp hb) | (go_at_call 109; refine (plistM_any P tb E _ B w1 (HE.out.but HB1.out hBP) hBP HP1.out f bs cs eg Fg (fun x => x) _ _ n hn HEL.out (noNote P) HSH.out g hg trivial (fun _ h => h.elim)).mono ?_; rw [h2]; rintro en w2 ⟨⟨kv, rfl, hkv⟩, hp, -, hb, -⟩; have HK2 := hid hkv; have HP2 := hid hp; have HB2 := hid (hb.but (fun _ _ h => h)); clear hkv hp hb) | (go_at_call 52; refine (expect_any P tb E _ hs _ _ HP2.out).mono ?_; rw [h3]; rintro en w3 ⟨rfl, hb⟩; have HB3 := hid hb; clear hb))
    exact ⟨rfl, rfl, (HB1.out.trans HB2.out).trans HB3.out⟩
   | ok un3 r3 =>
    show Calls _ _ _ _ (Parsed P tb E w (PR.ok l r3) _)
    go_enter Tryz.func79, Tryz.ntmps79
    go_wp2_with (first | (go_at_call 50; refine (take_no P tb E _ hs _ _ (by assumption) HP.out).mono ?_; rintro en w1 ⟨rfl, hp, hb⟩; have HP1 := hid hp; have HB1 := hid hb; clear hp hb) | (go_at_call 109; refine (plistM_any P tb E _ B w1 (HE.out.but HB1.out hBP) hBP HP1.out f bs cs eg Fg (fun x => x) _ _ n hn HEL.out (noNote P) HSH.out g hg trivial (fun _ h => h.elim)).mono ?_; rw [h2]; rintro en w2 ⟨⟨kv, rfl, hkv⟩, hp, -, hb, -⟩; have HK2 := hid hkv; have HP2 := hid hp; have HB2 := hid (hb.but (fun _ _ h => h)); clear hkv hp hb) | (go_at_call 52; refine (expect_any P tb E _ hs _ _ HP2.out).mono ?_; rw [h3]; rintro en w3 ⟨⟨_, rfl, _⟩, hp, hb⟩; have HP3 := hid hp; have HB3 := hid hb; clear hp hb))
    go_ret
    have hz1 := HB1.out.size
    refine ⟨⟨_, rfl, ?_⟩, HP3.out, (HB1.out.trans HB2.out).trans HB3.out⟩
    have h9 := PmSl.mono (fun k hk => ⟨by omega, Nat.lt_of_lt_of_le hk.2.1 HB3.out.size⟩) (PmSl.keep (HB3.out.keeps (fun k hk => ⟨hk.2.1, by omega⟩)) HK2.out) (C := fun k => w.heap.size <= k /\ k < w3.heap.size)
    rwa [List.map_id'] at h9
theorem enters_val : ∀ args w, (callFunc 142 args).run Tryz.prog w = .ok (.enter 142 args) w := enters_of Tryz.func142 (by kernel_rfl) rfl
theorem enters_param : ∀ args w, (callFunc 80 args).run Tryz.prog w = .ok (.enter 80 args) w := enters_of Tryz.func80 (by kernel_rfl) rfl
theorem enters_proc : ∀ args w, (callFunc 31 args).run Tryz.prog w = .ok (.enter 31 args) w := enters_of Tryz.func31 (by kernel_rfl) rfl
theorem strsl_one {B : Nat -> Prop} {W : World} {b : Nat} {T : TypeId} {fr : Nat × Nat} {s : ByteArray} (h : W.heap[b]? = some (.cells #[.string s] T fr)) (hb : B b) (hs : s.size <= maxLen) : StrSl B W (.slice (some ⟨b, 0, none⟩) 1 1) [s] :=
 ⟨.inr ⟨b, 0, 1, rfl, hb, Nat.le_refl _, fun j t hj => by
  cases j with
  | zero => simp at hj; subst hj; exact cell1 h
  | succ j => simp at hj⟩, by simp [maxLen], fun t ht => by rw [List.mem_singleton.1 ht]; exact hs⟩
theorem pnamed_any (P tb : Nat) (E : Int) (ts : List Tk) (B : Nat) (w : World) (he : Env B w) (hBP : B <= P) (h : PaIs P tb E ts w) (PF S : List Tk -> PR Pr) (n : Nat) (hn : ts.length < n) (hF : ProcOK P tb E B PF n) (hS : SingOK P tb E B S n) (hFs : Shorter PF) (g : Nat) (hg : ts.length <= g) (c : ByteArray) (hcz : c.size <= maxLen) :
 Calls Tryz.prog 118 #[.pointer (some ⟨P, 0, none⟩), .string c] w (Parsed P tb E w (pnamedS nameB PF S g c ts) (GPr w.heap.size)) := by
 obtain ⟨W1, hW1⟩ := ex1 (w.alloc (.cells z12 31))
 have hb1 := (made hW1).1
 have x1 := (made hW1).2
 have hs1 : w.heap.size < W1.heap.size := (gl x1)
 have hP : P < w.heap.size := h.lt
 have htb : tb ≠ w.heap.size := Nat.ne_of_lt h.tlt
 have HTB := hid h.tlt
 have HP : Hid (PaIs P tb E ts W1) := hid (h.to hb1)
 have HB : Hid (But P W1 W1) := hid (But.refl _ _)
 have HW1 := hid hW1
 have HB1 := hid hb1
 have HX1 := hid x1
 have HE := hid (he.to hb1)
 clear hW1 hb1 x1 he h
 unfold pnamedS
 have HF := hid hF
 have HS := hid hS
 have HFS := hid hFs
 clear hF hS hFs
 cases a0 : hd sBang ts with
 | true =>
  rw [if_pos rfl]
  have htl := hd_tail a0
  have hlt : ts.tail.length < n := by omega
  cases h3 : psendS nameB S c ts.tail with
  | bad er r =>
   go_enter Tryz.func118, Tryz.ntmps118
   go_upto_region 1 with fail
   rw [HW1.out]
   go_wp2_with (first | (go_at_call 50; refine (noH HP HB).mono ?_; rintro _ wn ⟨rfl, HP, HB⟩) | (go_at_call 50; refine (yesH HP HB).mono ?_; rintro _ wn ⟨rfl, HP, HB⟩) | (go_at_call 137; refine (psend_any P tb E _ B _ (HE.out.but HB.out hBP) hBP HP.out S n hlt HS.out c hcz).mono ?_; rw [h3]; rintro en wn ⟨rfl, hb⟩; replace HB := hid (HB.out.trans hb); clear hb))
   exact ⟨rfl, rfl, (But.of HB1.out).trans HB.out⟩
  | ok p r =>
   go_enter Tryz.func118, Tryz.ntmps118
   go_upto_region 1 with fail
   rw [HW1.out]
   go_wp2_with (first | (go_at_call 50; refine (noH HP HB).mono ?_; rintro _ wn ⟨rfl, HP, HB⟩) | (go_at_call 50; refine (yesH HP HB).mono ?_; rintro _ wn ⟨rfl, HP, HB⟩) | (go_at_call 137; refine (psend_any P tb E _ B _ (HE.out.but HB.out hBP) hBP HP.out S n hlt HS.out c hcz).mono ?_; rw [h3]; rintro en wn ⟨⟨v, rfl, hg⟩, hp, hb⟩; obtain ⟨la, ln, lc, aa, an, ac, ta, tn, tc, ua, un, uc, ka, kn, kc, rfl⟩ := hg.open; have HPn := hid hp; have HG := hid (hg.mono (show W1.heap.size <= _ from HB.out.size)); have HBn := hid (HB.out.trans hb); clear hg; clear hp hb HP HB; have HP := HPn; have HB := HBn; clear HPn HBn; have hx9 := (HB.out.block w.heap.size hs1 (Nat.ne_of_gt hP)).trans HX1.out; obtain ⟨⟨q0, q1, q2, q3, q4, q5, q6, q7, q8, q9, q10, q11⟩, z0, z1, z2, z3, z4, z5, z6, z7, z8, z9, z10, z11⟩ := c12p hx9; have HX9 := hid hx9; clear hx9))
   have hx8 := fill12 HX9.out (.int .i64 p.k) (.string p.c) (.string p.x) (.slice la ln lc) (.slice aa an ac) (.int .i64 p.t.k) (.int .i64 p.t.p) (.string p.t.n) (.int .i64 p.t.s) (.slice ta tn tc) (.slice ua un uc) (.slice ka kn kc)
   obtain ⟨⟨y0, y1, y2, y3, y4, y5, y6, y7, y8, y9, y10, y11⟩, -⟩ := c12p hx8
   refine bodyPost_ret (v := .agg #[.int .i64 p.k, .string p.c, .string p.x, .slice la ln lc, .slice aa an ac, .int .i64 p.t.k, .int .i64 p.t.p, .string p.t.n, .int .i64 p.t.s, .slice ta tn tc, .slice ua un uc, .slice ka kn kc]) (by simp [results, Tryz.results118, go_sem, y0, y1, y2, y3, y4, y5, y6, y7, y8, y9, y10, y11]) rfl ?_
   exact ⟨⟨_, rfl, (HG.out.put12 hs1 (.int .i64 p.k) (.string p.c) (.string p.x) (.slice la ln lc) (.slice aa an ac) (.int .i64 p.t.k) (.int .i64 p.t.p) (.string p.t.n) (.int .i64 p.t.s) (.slice ta tn tc) (.slice ua un uc) (.slice ka kn kc)).mono (Nat.le_of_lt hs1)⟩, HP.out.oth (X := w.heap.size) (fun j hj => put12_oth hj (.int .i64 p.k) (.string p.c) (.string p.x) (.slice la ln lc) (.slice aa an ac) (.int .i64 p.t.k) (.int .i64 p.t.p) (.string p.t.n) (.int .i64 p.t.s) (.slice ta tn tc) (.slice ua un uc) (.slice ka kn kc)) (put12_size _ _ (.int .i64 p.k) (.string p.c) (.string p.x) (.slice la ln lc) (.slice aa an ac) (.int .i64 p.t.k) (.int .i64 p.t.p) (.string p.t.n) (.int .i64 p.t.s) (.slice ta tn tc) (.slice ua un uc) (.slice ka kn kc)) (Nat.ne_of_gt hP) htb, ((But.of HB1.out).trans HB.out).put12 (Nat.le_refl _) (.int .i64 p.k) (.string p.c) (.string p.x) (.slice la ln lc) (.slice aa an ac) (.int .i64 p.t.k) (.int .i64 p.t.p) (.string p.t.n) (.int .i64 p.t.s) (.slice ta tn tc) (.slice ua un uc) (.slice ka kn kc)⟩
 | false =>
  rw [if_neg (by decide)]
  cases a1 : hd sAsk ts with
  | true =>
   rw [if_pos rfl]
   have htl := hd_tail a1
   have hlt : ts.tail.length < n := by omega
   cases h3 : precvS nameB S c ts.tail with
   | bad er r =>
    go_enter Tryz.func118, Tryz.ntmps118
    go_upto_region 1 with fail
    rw [HW1.out]
    go_wp2_with (first | (go_at_call 50; refine (noH HP HB).mono ?_; rintro _ wn ⟨rfl, HP, HB⟩) | (go_at_call 50; refine (yesH HP HB).mono ?_; rintro _ wn ⟨rfl, HP, HB⟩) | (go_at_call 138; refine (precv_any P tb E _ B _ (HE.out.but HB.out hBP) hBP HP.out S n hlt HS.out c hcz).mono ?_; rw [h3]; rintro en wn ⟨rfl, hb⟩; replace HB := hid (HB.out.trans hb); clear hb))
    exact ⟨rfl, rfl, (But.of HB1.out).trans HB.out⟩
   | ok p r =>
    go_enter Tryz.func118, Tryz.ntmps118
    go_upto_region 1 with fail
    rw [HW1.out]
    go_wp2_with (first | (go_at_call 50; refine (noH HP HB).mono ?_; rintro _ wn ⟨rfl, HP, HB⟩) | (go_at_call 50; refine (yesH HP HB).mono ?_; rintro _ wn ⟨rfl, HP, HB⟩) | (go_at_call 138; refine (precv_any P tb E _ B _ (HE.out.but HB.out hBP) hBP HP.out S n hlt HS.out c hcz).mono ?_; rw [h3]; rintro en wn ⟨⟨v, rfl, hg⟩, hp, hb⟩; obtain ⟨la, ln, lc, aa, an, ac, ta, tn, tc, ua, un, uc, ka, kn, kc, rfl⟩ := hg.open; have HPn := hid hp; have HG := hid (hg.mono (show W1.heap.size <= _ from HB.out.size)); have HBn := hid (HB.out.trans hb); clear hg; clear hp hb HP HB; have HP := HPn; have HB := HBn; clear HPn HBn; have hx9 := (HB.out.block w.heap.size hs1 (Nat.ne_of_gt hP)).trans HX1.out; obtain ⟨⟨q0, q1, q2, q3, q4, q5, q6, q7, q8, q9, q10, q11⟩, z0, z1, z2, z3, z4, z5, z6, z7, z8, z9, z10, z11⟩ := c12p hx9; have HX9 := hid hx9; clear hx9))
    have hx8 := fill12 HX9.out (.int .i64 p.k) (.string p.c) (.string p.x) (.slice la ln lc) (.slice aa an ac) (.int .i64 p.t.k) (.int .i64 p.t.p) (.string p.t.n) (.int .i64 p.t.s) (.slice ta tn tc) (.slice ua un uc) (.slice ka kn kc)
    obtain ⟨⟨y0, y1, y2, y3, y4, y5, y6, y7, y8, y9, y10, y11⟩, -⟩ := c12p hx8
    refine bodyPost_ret (v := .agg #[.int .i64 p.k, .string p.c, .string p.x, .slice la ln lc, .slice aa an ac, .int .i64 p.t.k, .int .i64 p.t.p, .string p.t.n, .int .i64 p.t.s, .slice ta tn tc, .slice ua un uc, .slice ka kn kc]) (by simp [results, Tryz.results118, go_sem, y0, y1, y2, y3, y4, y5, y6, y7, y8, y9, y10, y11]) rfl ?_
    exact ⟨⟨_, rfl, (HG.out.put12 hs1 (.int .i64 p.k) (.string p.c) (.string p.x) (.slice la ln lc) (.slice aa an ac) (.int .i64 p.t.k) (.int .i64 p.t.p) (.string p.t.n) (.int .i64 p.t.s) (.slice ta tn tc) (.slice ua un uc) (.slice ka kn kc)).mono (Nat.le_of_lt hs1)⟩, HP.out.oth (X := w.heap.size) (fun j hj => put12_oth hj (.int .i64 p.k) (.string p.c) (.string p.x) (.slice la ln lc) (.slice aa an ac) (.int .i64 p.t.k) (.int .i64 p.t.p) (.string p.t.n) (.int .i64 p.t.s) (.slice ta tn tc) (.slice ua un uc) (.slice ka kn kc)) (put12_size _ _ (.int .i64 p.k) (.string p.c) (.string p.x) (.slice la ln lc) (.slice aa an ac) (.int .i64 p.t.k) (.int .i64 p.t.p) (.string p.t.n) (.int .i64 p.t.s) (.slice ta tn tc) (.slice ua un uc) (.slice ka kn kc)) (Nat.ne_of_gt hP) htb, ((But.of HB1.out).trans HB.out).put12 (Nat.le_refl _) (.int .i64 p.k) (.string p.c) (.string p.x) (.slice la ln lc) (.slice aa an ac) (.int .i64 p.t.k) (.int .i64 p.t.p) (.string p.t.n) (.int .i64 p.t.s) (.slice ta tn tc) (.slice ua un uc) (.slice ka kn kc)⟩
  | false =>
   rw [if_neg (by decide)]
   cases a2 : hd sDot ts with
   | true =>
    rw [if_pos rfl]
    have htl := hd_tail a2
    have hlt : ts.tail.length < n := by omega
    show Calls _ _ _ _ (Parsed P tb E w ((pname nameB ts.tail).bind fun l r => (prestS S r).bind fun p r => PR.ok (Pr.mk 4 c ⟨#[]⟩ [l] [] zT [p]) r) _)
    cases h3 : pname nameB ts.tail with
    | bad er r =>
     show Calls _ _ _ _ (Parsed P tb E w (PR.bad er r) _)
     go_enter Tryz.func118, Tryz.ntmps118
     go_upto_region 1 with fail
     rw [HW1.out]
     go_wp2_with (first | (go_at_call 50; refine (noH HP HB).mono ?_; rintro _ wn ⟨rfl, HP, HB⟩) | (go_at_call 50; refine (yesH HP HB).mono ?_; rintro _ wn ⟨rfl, HP, HB⟩) | (go_at_call 78; refine (namB (HE.out.but HB.out hBP) HP HB h3).mono ?_; rintro _ wn ⟨rfl, HB⟩))
     exact ⟨rfl, rfl, (But.of HB1.out).trans HB.out⟩
    | ok lb r3 =>
     have hl3 : r3.length < n := by have := pname_le h3; omega
     show Calls _ _ _ _ (Parsed P tb E w ((prestS S r3).bind fun p r => PR.ok (Pr.mk 4 c ⟨#[]⟩ [lb] [] zT [p]) r) _)
     cases h4 : prestS S r3 with
     | bad er r =>
      show Calls _ _ _ _ (Parsed P tb E w (PR.bad er r) _)
      go_enter Tryz.func118, Tryz.ntmps118
      go_upto_region 1 with fail
      rw [HW1.out]
      go_upto_region 7 with (first | (go_at_call 50; refine (noH HP HB).mono ?_; rintro _ wn ⟨rfl, HP, HB⟩) | (go_at_call 50; refine (yesH HP HB).mono ?_; rintro _ wn ⟨rfl, HP, HB⟩) | (go_at_call 78; refine (namH (HE.out.but HB.out hBP) HP HB h3).mono ?_; rintro _ wn ⟨rfl, hnz, HP, HB⟩))
      have hbx : Below wn.heap.size wn (wn.alloc (.cells #[.string lb] 9)) := (Below.refl _ _).alloc (Nat.le_refl _) _
      have xx : (wn.alloc (.cells #[.string lb] 9)).heap[wn.heap.size]? = some (.cells #[.string lb] 9 (0, 0)) := World.alloc_heap_new _ _
      have HX := hid xx
      have HBX := hid hbx
      have hb9P : wn.heap.size ≠ P := by have := HB.out.size; omega
      have hWb : W1.heap.size <= wn.heap.size := HB.out.size
      clear xx hbx
      go_wp2_with (go_at_call 139; refine (prest_any P tb E _ B _ ((HE.out.but HB.out hBP).to HBX.out) hBP (HP.out.to HBX.out) S n hl3 HS.out).mono ?_; rw [h4]; rintro en wm ⟨rfl, hb⟩; have HBm := hid ((HB.out.to HBX.out).trans hb); clear hb)
      exact ⟨rfl, rfl, (But.of HB1.out).trans HBm.out⟩
     | ok p r =>
      show Calls _ _ _ _ (Parsed P tb E w (PR.ok (Pr.mk 4 c ⟨#[]⟩ [lb] [] zT [p]) r) _)
      go_enter Tryz.func118, Tryz.ntmps118
      go_upto_region 1 with fail
      rw [HW1.out]
      go_upto_region 7 with (first | (go_at_call 50; refine (noH HP HB).mono ?_; rintro _ wn ⟨rfl, HP, HB⟩) | (go_at_call 50; refine (yesH HP HB).mono ?_; rintro _ wn ⟨rfl, HP, HB⟩) | (go_at_call 78; refine (namH (HE.out.but HB.out hBP) HP HB h3).mono ?_; rintro _ wn ⟨rfl, hnz, HP, HB⟩))
      have hbx : Below wn.heap.size wn (wn.alloc (.cells #[.string lb] 9)) := (Below.refl _ _).alloc (Nat.le_refl _) _
      have xx : (wn.alloc (.cells #[.string lb] 9)).heap[wn.heap.size]? = some (.cells #[.string lb] 9 (0, 0)) := World.alloc_heap_new _ _
      have HX := hid xx
      have HBX := hid hbx
      have hb9P : wn.heap.size ≠ P := by have := HB.out.size; omega
      have hWb : W1.heap.size <= wn.heap.size := HB.out.size
      clear xx hbx
      go_wp2_with (go_at_call 139; refine (prest_any P tb E _ B _ ((HE.out.but HB.out hBP).to HBX.out) hBP (HP.out.to HBX.out) S n hl3 HS.out).mono ?_; rw [h4]; rintro en wm ⟨⟨v, rfl, hg⟩, hp, hb⟩; obtain ⟨ka, kn, kc, rfl, -⟩ := PrSl.open hg; have HPm := hid hp; have HGm := hid (GPrs.mono hg (show W1.heap.size <= _ from (HB.out.to HBX.out).size)); have HBm := hid ((HB.out.to HBX.out).trans hb); have HXm := hid ((hb.block wn.heap.size (gl HX.out) hb9P).trans HX.out); have hx9 := (HBm.out.block w.heap.size hs1 (Nat.ne_of_gt hP)).trans HX1.out; obtain ⟨⟨q0, q1, q2, q3, q4, q5, q6, q7, q8, q9, q10, q11⟩, z0, z1, z2, z3, z4, z5, z6, z7, z8, z9, z10, z11⟩ := c12p hx9; have HX9 := hid hx9; clear hx9 hg hp hb)
      have HP := HPm
      have HB := HBm
      have hg5 : GPr W1.heap.size wm (.mk 4 c ⟨#[]⟩ [lb] [] zT [p]) (.agg #[.int .i64 4, .string c, .string ⟨#[]⟩, .slice (some ⟨wn.heap.size, 0, none⟩) 1 1, .slice none 0 0, .int .i64 0, .int .i64 0, .string ⟨#[]⟩, .int .i64 0, .slice none 0 0, .slice none 0 0, .slice ka kn kc]) := GPr.node (t := zT) hcz (Nat.zero_le _) (strsl_one HXm.out ⟨hWb, (gl HXm.out)⟩ hnz) (vls_nil _ _) (zT_at _ _) HGm.out
      have hx8 := fill12 HX9.out (.int .i64 4) (.string c) (.string ⟨#[]⟩) (.slice (some ⟨wn.heap.size, 0, none⟩) 1 1) (.slice none 0 0) (.int .i64 0) (.int .i64 0) (.string ⟨#[]⟩) (.int .i64 0) (.slice none 0 0) (.slice none 0 0) (.slice ka kn kc)
      obtain ⟨⟨y0, y1, y2, y3, y4, y5, y6, y7, y8, y9, y10, y11⟩, -⟩ := c12p hx8
      refine bodyPost_ret (v := .agg #[.int .i64 4, .string c, .string ⟨#[]⟩, .slice (some ⟨wn.heap.size, 0, none⟩) 1 1, .slice none 0 0, .int .i64 0, .int .i64 0, .string ⟨#[]⟩, .int .i64 0, .slice none 0 0, .slice none 0 0, .slice ka kn kc]) (by simp [results, Tryz.results118, go_sem, y0, y1, y2, y3, y4, y5, y6, y7, y8, y9, y10, y11]) rfl ?_
      exact ⟨⟨_, rfl, (hg5.put12 hs1 (.int .i64 4) (.string c) (.string ⟨#[]⟩) (.slice (some ⟨wn.heap.size, 0, none⟩) 1 1) (.slice none 0 0) (.int .i64 0) (.int .i64 0) (.string ⟨#[]⟩) (.int .i64 0) (.slice none 0 0) (.slice none 0 0) (.slice ka kn kc)).mono (Nat.le_of_lt hs1)⟩, HP.out.oth (X := w.heap.size) (fun j hj => put12_oth hj (.int .i64 4) (.string c) (.string ⟨#[]⟩) (.slice (some ⟨wn.heap.size, 0, none⟩) 1 1) (.slice none 0 0) (.int .i64 0) (.int .i64 0) (.string ⟨#[]⟩) (.int .i64 0) (.slice none 0 0) (.slice none 0 0) (.slice ka kn kc)) (put12_size _ _ (.int .i64 4) (.string c) (.string ⟨#[]⟩) (.slice (some ⟨wn.heap.size, 0, none⟩) 1 1) (.slice none 0 0) (.int .i64 0) (.int .i64 0) (.string ⟨#[]⟩) (.int .i64 0) (.slice none 0 0) (.slice none 0 0) (.slice ka kn kc)) (Nat.ne_of_gt hP) htb, ((But.of HB1.out).trans HB.out).put12 (Nat.le_refl _) (.int .i64 4) (.string c) (.string ⟨#[]⟩) (.slice (some ⟨wn.heap.size, 0, none⟩) 1 1) (.slice none 0 0) (.int .i64 0) (.int .i64 0) (.string ⟨#[]⟩) (.int .i64 0) (.slice none 0 0) (.slice none 0 0) (.slice ka kn kc)⟩
   | false =>
    rw [if_neg (by decide)]
    cases a3 : hd sAnd ts with
    | true =>
     rw [if_pos rfl]
     have htl := hd_tail a3
     have hlt : ts.tail.length < n := by omega
     show Calls _ _ _ _ (Parsed P tb E w ((pcases nameB PF g ts.tail).bind fun l r => PR.ok (Pr.mk 5 c ⟨#[]⟩ (l.map (·.1)) [] zT (l.map (·.2))) r) _)
     cases h3 : pcases nameB PF g ts.tail with
     | bad er r =>
      show Calls _ _ _ _ (Parsed P tb E w (PR.bad er r) _)
      go_enter Tryz.func118, Tryz.ntmps118
      go_upto_region 1 with fail
      rw [HW1.out]
      go_wp2_with (first | (go_at_call 50; refine (noH HP HB).mono ?_; rintro _ wn ⟨rfl, HP, HB⟩) | (go_at_call 50; refine (yesH HP HB).mono ?_; rintro _ wn ⟨rfl, HP, HB⟩) | (go_at_call 140; refine (pcasesP_any P tb E _ B _ (HE.out.but HB.out hBP) hBP HP.out 31 #[.pointer (some ⟨P, 0, none⟩)] #[] enters_proc PF n hlt HF.out HFS.out g (by omega)).mono ?_; rw [h3]; rintro en wn ⟨rfl, hb⟩; replace HB := hid (HB.out.trans hb); clear hb))
      exact ⟨rfl, rfl, (But.of HB1.out).trans HB.out⟩
     | ok l r =>
      show Calls _ _ _ _ (Parsed P tb E w (PR.ok (Pr.mk 5 c ⟨#[]⟩ (l.map (·.1)) [] zT (l.map (·.2))) r) _)
      go_enter Tryz.func118, Tryz.ntmps118
      go_upto_region 1 with fail
      rw [HW1.out]
      go_wp2_with (first | (go_at_call 50; refine (noH HP HB).mono ?_; rintro _ wn ⟨rfl, HP, HB⟩) | (go_at_call 50; refine (yesH HP HB).mono ?_; rintro _ wn ⟨rfl, HP, HB⟩) | (go_at_call 140; refine (pcasesP_any P tb E _ B _ (HE.out.but HB.out hBP) hBP HP.out 31 #[.pointer (some ⟨P, 0, none⟩)] #[] enters_proc PF n hlt HF.out HFS.out g (by omega)).mono ?_; rw [h3]; rintro en wn ⟨⟨_, rfl, lv, kv, rfl, hls, hks⟩, hp, hb⟩; obtain ⟨la, ln, lc, rfl, -⟩ := hls.open; obtain ⟨ka, kn, kc, rfl, -⟩ := PrSl.open hks; have HPn := hid hp; have HLS := hid (StrSl.mono (C := fun k => W1.heap.size <= k /\ k < wn.heap.size) (fun k hk => ⟨Nat.le_trans HB.out.size hk.1, hk.2⟩) hls); have HKS := hid (PrSl.mono (C := fun k => W1.heap.size <= k /\ k < wn.heap.size) (fun k hk => ⟨Nat.le_trans HB.out.size hk.1, hk.2⟩) hks); have HBn := hid (HB.out.trans hb); clear hls hks; clear hp hb HP HB; have HP := HPn; have HB := HBn; clear HPn HBn; have hx9 := (HB.out.block w.heap.size hs1 (Nat.ne_of_gt hP)).trans HX1.out; obtain ⟨⟨q0, q1, q2, q3, q4, q5, q6, q7, q8, q9, q10, q11⟩, z0, z1, z2, z3, z4, z5, z6, z7, z8, z9, z10, z11⟩ := c12p hx9; have HX9 := hid hx9; clear hx9))
      have hg5 : GPr W1.heap.size wn (.mk 5 c ⟨#[]⟩ (l.map (·.1)) [] zT (l.map (·.2))) (.agg #[.int .i64 5, .string c, .string ⟨#[]⟩, .slice la ln lc, .slice none 0 0, .int .i64 0, .int .i64 0, .string ⟨#[]⟩, .int .i64 0, .slice none 0 0, .slice none 0 0, .slice ka kn kc]) := GPr.node (t := zT) hcz (Nat.zero_le _) HLS.out (vls_nil _ _) (zT_at _ _) HKS.out
      have hx8 := fill12 HX9.out (.int .i64 5) (.string c) (.string ⟨#[]⟩) (.slice la ln lc) (.slice none 0 0) (.int .i64 0) (.int .i64 0) (.string ⟨#[]⟩) (.int .i64 0) (.slice none 0 0) (.slice none 0 0) (.slice ka kn kc)
      obtain ⟨⟨y0, y1, y2, y3, y4, y5, y6, y7, y8, y9, y10, y11⟩, -⟩ := c12p hx8
      refine bodyPost_ret (v := .agg #[.int .i64 5, .string c, .string ⟨#[]⟩, .slice la ln lc, .slice none 0 0, .int .i64 0, .int .i64 0, .string ⟨#[]⟩, .int .i64 0, .slice none 0 0, .slice none 0 0, .slice ka kn kc]) (by simp [results, Tryz.results118, go_sem, y0, y1, y2, y3, y4, y5, y6, y7, y8, y9, y10, y11]) rfl ?_
      exact ⟨⟨_, rfl, (hg5.put12 hs1 (.int .i64 5) (.string c) (.string ⟨#[]⟩) (.slice la ln lc) (.slice none 0 0) (.int .i64 0) (.int .i64 0) (.string ⟨#[]⟩) (.int .i64 0) (.slice none 0 0) (.slice none 0 0) (.slice ka kn kc)).mono (Nat.le_of_lt hs1)⟩, HP.out.oth (X := w.heap.size) (fun j hj => put12_oth hj (.int .i64 5) (.string c) (.string ⟨#[]⟩) (.slice la ln lc) (.slice none 0 0) (.int .i64 0) (.int .i64 0) (.string ⟨#[]⟩) (.int .i64 0) (.slice none 0 0) (.slice none 0 0) (.slice ka kn kc)) (put12_size _ _ (.int .i64 5) (.string c) (.string ⟨#[]⟩) (.slice la ln lc) (.slice none 0 0) (.int .i64 0) (.int .i64 0) (.string ⟨#[]⟩) (.int .i64 0) (.slice none 0 0) (.slice none 0 0) (.slice ka kn kc)) (Nat.ne_of_gt hP) htb, ((But.of HB1.out).trans HB.out).put12 (Nat.le_refl _) (.int .i64 5) (.string c) (.string ⟨#[]⟩) (.slice la ln lc) (.slice none 0 0) (.int .i64 0) (.int .i64 0) (.string ⟨#[]⟩) (.int .i64 0) (.slice none 0 0) (.slice none 0 0) (.slice ka kn kc)⟩
    | false =>
     rw [if_neg (by decide)]
     show Calls _ _ _ _ (Parsed P tb E w ((need sLess ts).bind fun _ r => (plistUpTo (pval nameB) sMore g r).bind fun l r => PR.ok (Pr.mk 8 c ⟨#[]⟩ [] l zT []) r) _)
     cases h3 : need sLess ts with
     | bad er r =>
      show Calls _ _ _ _ (Parsed P tb E w (PR.bad er r) _)
      go_enter Tryz.func118, Tryz.ntmps118
      go_upto_region 1 with fail
      rw [HW1.out]
      go_wp2_with (first | (go_at_call 50; refine (noH HP HB).mono ?_; rintro _ wn ⟨rfl, HP, HB⟩) | (go_at_call 52; refine (expB HP HB h3).mono ?_; rintro _ wn ⟨rfl, HB⟩))
      exact ⟨rfl, rfl, (But.of HB1.out).trans HB.out⟩
     | ok un r3 =>
      have hl3 := need_le h3
      have hlg : r3.length < g := by omega
      show Calls _ _ _ _ (Parsed P tb E w ((plistUpTo (pval nameB) sMore g r3).bind fun l r => PR.ok (Pr.mk 8 c ⟨#[]⟩ [] l zT []) r) _)
      cases h4 : plistUpTo (pval nameB) sMore g r3 with
      | bad er r =>
       show Calls _ _ _ _ (Parsed P tb E w (PR.bad er r) _)
       go_enter Tryz.func118, Tryz.ntmps118
       go_upto_region 1 with fail
       rw [HW1.out]
       go_wp2_with (first | (go_at_call 50; refine (noH HP HB).mono ?_; rintro _ wn ⟨rfl, HP, HB⟩) | (go_at_call 52; refine (expH HP HB h3).mono ?_; rintro _ wn ⟨rfl, HP, HB⟩) | (go_at_call 141; refine (pupV_any P tb E _ B _ (HE.out.but HB.out hBP) hBP HP.out sMore (by decide +kernel) 142 #[.pointer (some ⟨P, 0, none⟩)] #[] enters_val (pval nameB) (n + 1) (by omega) (val_elem P tb E B hBP (n + 1)) pval_le g hlg).mono ?_; rw [h4]; rintro en wn ⟨rfl, hb⟩; replace HB := hid (HB.out.trans hb); clear hb))
       exact ⟨rfl, rfl, (But.of HB1.out).trans HB.out⟩
      | ok l r =>
       show Calls _ _ _ _ (Parsed P tb E w (PR.ok (Pr.mk 8 c ⟨#[]⟩ [] l zT []) r) _)
       go_enter Tryz.func118, Tryz.ntmps118
       go_upto_region 1 with fail
       rw [HW1.out]
       go_wp2_with (first | (go_at_call 50; refine (noH HP HB).mono ?_; rintro _ wn ⟨rfl, HP, HB⟩) | (go_at_call 52; refine (expH HP HB h3).mono ?_; rintro _ wn ⟨rfl, HP, HB⟩) | (go_at_call 141; refine (pupV_any P tb E _ B _ (HE.out.but HB.out hBP) hBP HP.out sMore (by decide +kernel) 142 #[.pointer (some ⟨P, 0, none⟩)] #[] enters_val (pval nameB) (n + 1) (by omega) (val_elem P tb E B hBP (n + 1)) pval_le g hlg).mono ?_; rw [h4]; rintro en wn ⟨⟨kv, rfl, hks⟩, hp, hb⟩; obtain ⟨ka, kn, kc, rfl, -⟩ := hks.open; have HPn := hid hp; have HKS := hid (VlSl.mono (C := fun k => W1.heap.size <= k /\ k < wn.heap.size) (fun k hk => ⟨Nat.le_trans HB.out.size hk.1, hk.2⟩) hks); have HBn := hid (HB.out.trans hb); clear hks; clear hp hb HP HB; have HP := HPn; have HB := HBn; clear HPn HBn; have hx9 := (HB.out.block w.heap.size hs1 (Nat.ne_of_gt hP)).trans HX1.out; obtain ⟨⟨q0, q1, q2, q3, q4, q5, q6, q7, q8, q9, q10, q11⟩, z0, z1, z2, z3, z4, z5, z6, z7, z8, z9, z10, z11⟩ := c12p hx9; have HX9 := hid hx9; clear hx9))
       have hg5 : GPr W1.heap.size wn (.mk 8 c ⟨#[]⟩ [] l zT []) (.agg #[.int .i64 8, .string c, .string ⟨#[]⟩, .slice none 0 0, .slice ka kn kc, .int .i64 0, .int .i64 0, .string ⟨#[]⟩, .int .i64 0, .slice none 0 0, .slice none 0 0, .slice none 0 0]) := GPr.node (t := zT) hcz (Nat.zero_le _) (strs_nil _ _) HKS.out (zT_at _ _) (prs_nil _ _)
       have hx8 := fill12 HX9.out (.int .i64 8) (.string c) (.string ⟨#[]⟩) (.slice none 0 0) (.slice ka kn kc) (.int .i64 0) (.int .i64 0) (.string ⟨#[]⟩) (.int .i64 0) (.slice none 0 0) (.slice none 0 0) (.slice none 0 0)
       obtain ⟨⟨y0, y1, y2, y3, y4, y5, y6, y7, y8, y9, y10, y11⟩, -⟩ := c12p hx8
       refine bodyPost_ret (v := .agg #[.int .i64 8, .string c, .string ⟨#[]⟩, .slice none 0 0, .slice ka kn kc, .int .i64 0, .int .i64 0, .string ⟨#[]⟩, .int .i64 0, .slice none 0 0, .slice none 0 0, .slice none 0 0]) (by simp [results, Tryz.results118, go_sem, y0, y1, y2, y3, y4, y5, y6, y7, y8, y9, y10, y11]) rfl ?_
       exact ⟨⟨_, rfl, (hg5.put12 hs1 (.int .i64 8) (.string c) (.string ⟨#[]⟩) (.slice none 0 0) (.slice ka kn kc) (.int .i64 0) (.int .i64 0) (.string ⟨#[]⟩) (.int .i64 0) (.slice none 0 0) (.slice none 0 0) (.slice none 0 0)).mono (Nat.le_of_lt hs1)⟩, HP.out.oth (X := w.heap.size) (fun j hj => put12_oth hj (.int .i64 8) (.string c) (.string ⟨#[]⟩) (.slice none 0 0) (.slice ka kn kc) (.int .i64 0) (.int .i64 0) (.string ⟨#[]⟩) (.int .i64 0) (.slice none 0 0) (.slice none 0 0) (.slice none 0 0)) (put12_size _ _ (.int .i64 8) (.string c) (.string ⟨#[]⟩) (.slice none 0 0) (.slice ka kn kc) (.int .i64 0) (.int .i64 0) (.string ⟨#[]⟩) (.int .i64 0) (.slice none 0 0) (.slice none 0 0) (.slice none 0 0)) (Nat.ne_of_gt hP) htb, ((But.of HB1.out).trans HB.out).put12 (Nat.le_refl _) (.int .i64 8) (.string c) (.string ⟨#[]⟩) (.slice none 0 0) (.slice ka kn kc) (.int .i64 0) (.int .i64 0) (.string ⟨#[]⟩) (.int .i64 0) (.slice none 0 0) (.slice none 0 0) (.slice none 0 0)⟩
end Go.Proofs.YtejaboajgecpaaaGreatDoor
