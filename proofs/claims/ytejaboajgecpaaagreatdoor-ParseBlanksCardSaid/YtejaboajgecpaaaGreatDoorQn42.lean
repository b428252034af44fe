/- Parsing: lemmas. -/
import Derived.Test.YtejaboajgecpaaaGreatDoorQn41
import Derived.Test.YtejaboajgecpaaaGreatDoorRows
import Derived.LaidLaws
import Derived.LaidMore
import Derived.MakeChecks
import Derived.OpenShut
import Derived.ChangeArms
import Derived.Stop.LaidErr
set_option maxHeartbeats 16000000
set_option maxRecDepth 100000
namespace Go.Proofs.YtejaboajgecpaaaGreatDoor
open Go.Lib (hid)
open Go.RowKit Go.Deep Go.Shelf
theorem mem41 {s : ByteArray} : s.data.toList.contains 41 = true ↔ ∃ (j : Nat) (h : j < s.size), s[j] = 41 := by
 rw [List.contains_iff_mem]
 constructor
 ·intro h
  obtain ⟨j, hj, e⟩ := List.getElem_of_mem h
  exact ⟨j, hj, e⟩
 ·rintro ⟨j, h, e⟩
  rw [<- e]
  exact List.getElem_mem (l := s.data.toList) (n := j) h
theorem psplit_any (s : ByteArray) (hsz : s.size <= 9223372036854775807) (w : World) : Calls Tryz.prog 21 #[.string s] w fun e w' => e = .returned (.bool (s.data.toList.contains 41)) /\ Below w.heap.size w w' := by
 go_enter Tryz.func21, Tryz.ntmps21
 go_wp2_with fail
 go_loopw [3] (fun n wr => ∃ k : Nat, k <= s.size /\ n = .int .i64 k /\ Hid (∀ (j : Nat) (h : j < s.size), j < k -> s[j] ≠ 41) /\ Hid (Below w.heap.size w wr)) (fun n _ => s.size - (intOf n).toNat)
 case atStart => exact ⟨0, by omega, rfl, hid (fun j _ h => by omega), hid (Below.refl _ _)⟩
 case round =>
  obtain ⟨k, hk, rfl, ha, hb⟩ := hrel
  by_cases hlt : k < s.size
  ·have hk0 : (0 : Int) <= (k : Int) := Int.natCast_nonneg _
   have hk3 : (k : Int) < ((s.size : Nat) : Int) := by omega
   by_cases hd : (((s[k]'hlt).toNat : Int) == 41) = true
   ·have HR : Hid (s.data.toList.contains 41 = true) := hid (mem41.2 ⟨k, hlt, by
     have h : ((s[k]'hlt).toNat : Int) = 41 := by simpa using hd
     exact UInt8.toNat_inj.1 (by show (s[k]'hlt).toNat = 41; omega)⟩)
    go_wp2_with fail
    go_ret
    exact ⟨Tok.ret_bool HR.out.symm, hb.out⟩
   ·have hd' : (((s[k]'hlt).toNat : Int) == 41) = false := by simpa using hd
    have hnext : ∀ (j : Nat) (h : j < s.size), j < k + 1 -> s[j] ≠ 41 := fun j h hj => by
     by_cases e : j = k
     ·subst e
      intro e
      rw [e] at hd'
      exact absurd hd' (by decide)
     ·exact ha.out j h (by omega)
    clear hd
    go_wp2_with fail
    go_roundw
    case rel => exact ⟨k + 1, by omega, by go_num, hid hnext, hb⟩
    case measure => simp [intOf]; omega
  ·have HR : Hid (s.data.toList.contains 41 = false) := hid (by
    cases h : s.data.toList.contains 41 with
    | false => rfl
    | true =>
     obtain ⟨j, hj, e⟩ := mem41.1 h
     exact absurd e (ha.out j hj (by omega)))
   go_wp2_with fail
   go_ret
   exact ⟨Tok.ret_bool HR.out.symm, hb.out⟩
def zPr : Pr := .mk 0 ⟨#[]⟩ ⟨#[]⟩ [] [] zT []
def valG : Pg ⊕ (Int × Int) -> Pg | .inl x => x | .inr _ => ⟨[], zPr⟩
def valP : Pr ⊕ (Int × Int) -> Pr | .inl x => x | .inr _ => zPr
def errOf {α : Type} : α ⊕ (Int × Int) -> Int | .inl _ => 0 | .inr (e, _) => e
def plcOf {α : Type} : α ⊕ (Int × Int) -> Int | .inl _ => 0 | .inr (_, p) => p
theorem zPr_at (b : Nat) (w : World) : GPr b w zPr (.agg #[.int .i64 0, .string ⟨#[]⟩, .string ⟨#[]⟩, .slice none 0 0, .slice none 0 0, .int .i64 0, .int .i64 0, .string ⟨#[]⟩, .int .i64 0, .slice none 0 0, .slice none 0 0, .slice none 0 0]) := GPr.node (t := zT) (Nat.zero_le _) (Nat.zero_le _) (strs_nil _ _) (vls_nil _ _) (zT_at b w) ⟨.inl ⟨⟨_, _, rfl⟩, rfl⟩, Nat.zero_le _⟩
theorem zPg_at (b : Nat) (w : World) : GPg b w ⟨[], zPr⟩ (.agg #[.slice none 0 0, .int .i64 0, .string ⟨#[]⟩, .string ⟨#[]⟩, .slice none 0 0, .slice none 0 0, .int .i64 0, .int .i64 0, .string ⟨#[]⟩, .int .i64 0, .slice none 0 0, .slice none 0 0, .slice none 0 0]) := ⟨_, _, _, _, _, _, rfl, ⟨.inl ⟨⟨_, _, rfl⟩, rfl⟩, Nat.zero_le _⟩, zPr_at b w⟩
theorem wres_pg {q : Pg ⊕ (Int × Int)} {W w' : World} {e : Ending} (h : WRes W q GPg (.agg #[.slice none 0 0, .int .i64 0, .string ⟨#[]⟩, .string ⟨#[]⟩, .slice none 0 0, .slice none 0 0, .int .i64 0, .int .i64 0, .string ⟨#[]⟩, .int .i64 0, .slice none 0 0, .slice none 0 0, .slice none 0 0]) e w') : (∃ v, e = .returned (.tuple #[v, .agg #[.int .i64 (errOf q), .int .i64 (plcOf q)]]) /\ GPg W.heap.size w' (valG q) v) /\ Below W.heap.size W w' := by
 match q with
 | .inl x => exact h
 | .inr (er, p) => exact ⟨⟨_, h.1, zPg_at _ _⟩, h.2⟩
theorem wres_pr {q : Pr ⊕ (Int × Int)} {W w' : World} {e : Ending} (h : WRes W q GPr (.agg #[.int .i64 0, .string ⟨#[]⟩, .string ⟨#[]⟩, .slice none 0 0, .slice none 0 0, .int .i64 0, .int .i64 0, .string ⟨#[]⟩, .int .i64 0, .slice none 0 0, .slice none 0 0, .slice none 0 0]) e w') : (∃ v, e = .returned (.tuple #[v, .agg #[.int .i64 (errOf q), .int .i64 (plcOf q)]]) /\ GPr W.heap.size w' (valP q) v) /\ Below W.heap.size W w' := by
 match q with
 | .inl x => exact h
 | .inr (er, p) => exact ⟨⟨_, h.1, zPr_at _ _⟩, h.2⟩
theorem GPr.to_ {b : Nat} {w w' : World} {t : Pr} {v : Value} (h : GPr b w t v) (hb : Below w.heap.size w w') : GPr b w' t v :=
 (PrVal.keep (fun k _ hk ho _ => (hb.block k hk.2).trans ho) h).mono (fun _ hk => ⟨hk.1, Nat.lt_of_lt_of_le hk.2 hb.size⟩)
theorem GPg.to_ {b : Nat} {w w' : World} {t : Pg} {v : Value} (h : GPg b w t v) (hb : Below w.heap.size w w') : GPg b w' t v :=
 (PgVal.keep (fun k _ hk ho _ => (hb.block k hk.2).trans ho) h).mono (fun _ hk => ⟨hk.1, Nat.lt_of_lt_of_le hk.2 hb.size⟩)
theorem ParseBlanks_any (s : ByteArray) (hs : s.size <= maxLen) (B : Nat) (w : World) (he : Tok.Env B w) : Calls Tryz.prog 6 #[.string s] w fun e w' => e = .returned (.bool true) /\ Below w.heap.size w w' := by
 have HAW := hid (fun W (hW : Below w.heap.size w W) => pawake_any B W (tok_env he hW))
 have HE := hid (fun W (hW : Below w.heap.size w W) => tok_env he hW)
 have HSP := hid (fun W => psplit_any s (by unfold maxLen at hs; omega) W)
 have HB : Hid (Below w.heap.size w w) := hid (Below.refl _ _)
 clear he hs
 by_cases h1 : s.size <= 3000
 case neg =>
  have d1 : decide ((3000 : Int) < (s.size : Int)) = true := by simp; omega
  go_enter Tryz.func6, Tryz.ntmps6
  go_wp2_with (go_at_call 8; refine (HAW.out _ HB.out).mono ?_; rintro en wa ⟨rfl, hb⟩; replace HB := hid (below_seq HB.out hb); clear hb)
  go_ret
  exact ⟨rfl, HB.out⟩
 have d1 : decide ((3000 : Int) < (s.size : Int)) = false := by simp; omega
 obtain ⟨r, hr⟩ := scans_ex s
 match r, hr with
 | .inr (er, p), hr =>
  have n1 : (er != 0) = true := by simpa using hr.ne
  have HTK := hid (fun W => hr.refBad W)
  clear hr
  go_enter Tryz.func6, Tryz.ntmps6
  go_wp2_with (first | (go_at_call 8; refine (HAW.out _ HB.out).mono ?_; rintro en wa ⟨rfl, hb⟩; replace HB := hid (below_seq HB.out hb); clear hb) | (go_at_call 19; refine (HTK.out _).mono ?_; rintro en wt ⟨rfl, hb⟩; replace HB := hid (below_seq HB.out hb); clear hb))
  go_ret
  exact ⟨rfl, HB.out⟩
 | .inl I, hr =>
  have HTK := hid (fun W => hr.refOK W)
  have hjl := join_len hr h1
  have hil := hr.len
  obtain ⟨t, ht⟩ := ex1 (Tok.txt (Tok.joinL I))
  have htd : t.data.toList = Tok.joinL I := by rw [<- ht]; exact List.toList_toArray
  have htz : t.size <= 6000 := by
   have h : t.data.toList.length = t.size := rfl
   rw [htd] at h
   omega
  have hd2 : ((⟨#[35, 32, 120, 10]⟩ : ByteArray) ++ t).data.toList = preB ++ Tok.joinL I := by rw [ByteArray.data_append, Array.toList_append, htd]
  have hd3 : ((⟨#[40, 32]⟩ : ByteArray) ++ ((⟨#[35, 32, 120, 10]⟩ : ByteArray) ++ t) ++ (⟨#[32, 41]⟩ : ByteArray)).data.toList = [40, 32] ++ (preB ++ Tok.joinL I) ++ [32, 41] := by rw [ByteArray.data_append, ByteArray.data_append, Array.toList_append, Array.toList_append, hd2]
  obtain ⟨J, hJ, hJs⟩ := joined_scans hr h1 _ hd2
  obtain ⟨po, K, hK, hpo, hKs⟩ := paren_scans hr h1 _ hd3
  have HJO : Hid (∀ v W, Tok.Holds W v I -> Calls Tryz.prog 20 #[v] W fun e w' => e = .returned (.string t) /\ Below W.heap.size W w') := hid (fun v W h => (Tok.rjoin_holds v I W h (by omega) (by omega)).mono (by rintro e w' ⟨rfl, hb⟩; rw [ht]; exact ⟨rfl, hb.below _⟩))
  obtain ⟨c, hc⟩ := ex1 (s.data.toList.contains 41)
  have hNS : ∀ x ∈ I, c = false -> ((tkOf x).t.toList == sShut.toList) = false := by
   intro x hx hcf
   cases hh : ((tkOf x).t.toList == sShut.toList) with
   | false => rfl
   | true =>
    have h := ba_eq hh
    have hx' : x ∈ Tok.items (s.size + 1) s.data.toList (Lx.skipG false s.data.toList) := by rw [show Tok.items (s.size + 1) s.data.toList (Lx.skipG false s.data.toList) = I from hr.2.1]; exact hx
    have hm := items_sub _ _ _ x hx' 41 (by rw [show x.t = sShut from h]; simp)
    rw [List.contains_iff_mem.2 hm] at hc
    rw [<- hc] at hcf
    cases hcf
  rw [hc] at HSP
  have hpw := paren_whole (NS := c = false) s ((⟨#[40, 32]⟩ : ByteArray) ++ ((⟨#[35, 32, 120, 10]⟩ : ByteArray) ++ t) ++ (⟨#[32, 41]⟩ : ByteArray)) I po K hpo (strip_sq I K hNS hKs)
  have hbw := blank_whole s ((⟨#[35, 32, 120, 10]⟩ : ByteArray) ++ t) I J (strip_s0 I J hJs)
  obtain ⟨g1, hg1⟩ : ∃ q, wholeE fProg Pg.tooBig s (.inl I) = q := ⟨_, rfl⟩
  obtain ⟨g2, hg2⟩ : ∃ q, wholeE fProg Pg.tooBig ((⟨#[35, 32, 120, 10]⟩ : ByteArray) ++ t) (.inl J) = q := ⟨_, rfl⟩
  obtain ⟨q1, hq1⟩ : ∃ q, wholeE fProc bigP s (.inl I) = q := ⟨_, rfl⟩
  obtain ⟨q2, hq2⟩ : ∃ q, wholeE fProc bigP ((⟨#[40, 32]⟩ : ByteArray) ++ ((⟨#[35, 32, 120, 10]⟩ : ByteArray) ++ t) ++ (⟨#[32, 41]⟩ : ByteArray)) (.inl (po :: K)) = q := ⟨_, rfl⟩
  rw [hg1, hg2] at hbw
  rw [hq1, hq2] at hpw
  have hG : valG g1 = valG g2 /\ errOf g1 = errOf g2 := by
   match g1, hbw with
   | .inl x, hbw => rw [hbw]; exact ⟨rfl, rfl⟩
   | .inr (e, p), hbw => obtain ⟨_, p', rfl⟩ := hbw; exact ⟨rfl, rfl⟩
  have hP : (errOf q1 = errOf q2 /\ valP q1 = valP q2) \/ (errOf q1 ≠ errOf q2 /\ errOf q1 ≠ 0 /\ errOf q2 ≠ 0) \/ (errOf q1 ≠ errOf q2 /\ errOf q1 ≠ 0 /\ errOf q2 = 0 /\ c = true) := by
   obtain ⟨p1, p2, p3⟩ := hpw
   match q1, p1, p2, p3 with
   | .inl x, _, p2, _ => rw [p2 x rfl]; exact .inl ⟨rfl, rfl⟩
   | .inr (e, p), p1, _, p3 =>
    have he := p1 e p rfl
    match q2, p3 with
    | .inr (e', p'), p3 =>
     by_cases h : e = e'
     ·exact .inl ⟨h, rfl⟩
     ·by_cases h0 : e' = 0
      ·refine .inr (.inr ⟨h, he, h0, ?_⟩)
       cases hcc : c with
       | true => rfl
       | false =>
        obtain ⟨e2, p2, e3, hne⟩ := p3 hcc e p rfl
        simp only [Sum.inr.injEq, Prod.mk.injEq] at e3
        exact absurd (e3.1 ▸ h0) (by rw [<- e3.1] at hne; exact fun _ => hne h0)
      ·exact .inr (.inl ⟨h, he, h0⟩)
    | .inl y, p3 =>
     refine .inr (.inr ⟨he, he, rfl, ?_⟩)
     cases hcc : c with
     | true => rfl
     | false =>
      obtain ⟨e2, p2, e3, _⟩ := p3 hcc e p rfl
      cases e3
  have HG1 := hid (fun W (hW : Below w.heap.size w W) => (pProgram_any s _ hr B W (HE.out W hW)))
  have HG2 := hid (fun W (hW : Below w.heap.size w W) => (pProgram_any _ _ hJ B W (HE.out W hW)))
  have HP1 := hid (fun W (hW : Below w.heap.size w W) => (pProcess_any s _ hr B W (HE.out W hW)))
  have HP2 := hid (fun W (hW : Below w.heap.size w W) => (pProcess_any _ _ hK B W (HE.out W hW)))
  rw [hg1] at HG1
  rw [hg2] at HG2
  rw [hq1] at HP1
  rw [hq2] at HP2
  obtain ⟨gv, hgv⟩ : ∃ g, valG g1 = g := ⟨_, rfl⟩
  obtain ⟨fe, hfe⟩ : ∃ g, errOf g1 = g := ⟨_, rfl⟩
  obtain ⟨he, hhe⟩ : ∃ g, errOf q1 = g := ⟨_, rfl⟩
  obtain ⟨ie, hie⟩ : ∃ g, errOf q2 = g := ⟨_, rfl⟩
  obtain ⟨cv, hcv⟩ : ∃ g, valP q1 = g := ⟨_, rfl⟩
  obtain ⟨dv, hdv⟩ : ∃ g, valP q2 = g := ⟨_, rfl⟩
  have K1 := hid (And.intro hgv hfe)
  have K2 := hid (And.intro (hG.1.symm.trans hgv) (hG.2.symm.trans hfe))
  have K3 := hid (And.intro hcv hhe)
  have K4 := hid (And.intro hdv hie)
  rw [hhe, hie, hcv, hdv] at hP
  clear hjl hil ht htd hd2 hd3 hJ hJs hK hpo hKs hNS hpw hbw hg1 hg2 hq1 hq2 hG hgv hfe hhe hie hcv hdv hr hc HE
  go_enter Tryz.func6, Tryz.ntmps6
  go_upto_region 6 with (first | (go_at_call 8; refine (HAW.out _ HB.out).mono ?_; rintro en wa ⟨rfl, hb⟩; replace HB := hid (below_seq HB.out hb); clear hb) | (go_at_call 19; refine (HTK.out _).mono ?_; rintro en wt ⟨v, rfl, hrow, hb⟩; have HH := hid (Tok.holds_of_row hrow); replace HB := hid (below_seq HB.out hb); clear hb hrow))
  go_upto_region 8 with (first | (go_at_call 20; refine (HJO.out _ _ HH.out).mono ?_; rintro en wj ⟨rfl, hb⟩; replace HB := hid (below_seq HB.out hb); clear hb) | (go_at_call 9; refine (HG1.out _ HB.out).mono ?_; intro en w1 hres; obtain ⟨⟨v1, rfl, hg⟩, hb⟩ := wres_pg hres; rw [K1.out.1] at hg; rw [K1.out.2]; obtain ⟨p1, hp1⟩ : ∃ p, plcOf g1 = p := ⟨_, rfl⟩; rw [hp1]; obtain ⟨da1, dn1, dc1, la1, ln1, lc1, aa1, an1, ac1, ta1, tn1, tc1, ua1, un1, uc1, ka1, kn1, kc1, rfl⟩ := PgVal.open13 hg; have HV1 := hid hg; replace HB := hid (below_seq HB.out hb); clear hb hg hp1 hres))
  obtain ⟨a1, ha1⟩ : ∃ a, w1.heap.size = a := ⟨_, rfl⟩
  have htw := two_new w1 #[.slice da1 dn1 dc1, .int .i64 gv.m.k, .string gv.m.c, .string gv.m.x, .slice la1 ln1 lc1, .slice aa1 an1 ac1, .int .i64 gv.m.t.k, .int .i64 gv.m.t.p, .string gv.m.t.n, .int .i64 gv.m.t.s, .slice ta1 tn1 tc1, .slice ua1 un1 uc1, .slice ka1 kn1 kc1] #[.int .i64 fe, .int .i64 p1] 33 36
  obtain ⟨W1, hW1⟩ : ∃ W, (w1.alloc (.cells #[.slice da1 dn1 dc1, .int .i64 gv.m.k, .string gv.m.c, .string gv.m.x, .slice la1 ln1 lc1, .slice aa1 an1 ac1, .int .i64 gv.m.t.k, .int .i64 gv.m.t.p, .string gv.m.t.n, .int .i64 gv.m.t.s, .slice ta1 tn1 tc1, .slice ua1 un1 uc1, .slice ka1 kn1 kc1] 33)).alloc (.cells #[.int .i64 fe, .int .i64 p1] 36) = W := ⟨_, rfl⟩
  rw [hW1, ha1] at htw
  rw [hW1]
  rw [ha1]
  have HC1 := hid (htw.2.2.mono (Nat.le_of_eq ha1))
  replace HB := hid (below_seq HB.out HC1.out)
  clear ha1 hW1
  have HX1 := hid htw
  clear htw
  go_upto_region 9 with (go_at_call 9; refine (HG2.out _ HB.out).mono ?_; intro en w2 hres; obtain ⟨⟨v2, rfl, hg⟩, hb⟩ := wres_pg hres; rw [K2.out.1] at hg; rw [K2.out.2]; obtain ⟨p2, hp2⟩ : ∃ p, plcOf g2 = p := ⟨_, rfl⟩; rw [hp2]; obtain ⟨da2, dn2, dc2, la2, ln2, lc2, aa2, an2, ac2, ta2, tn2, tc2, ua2, un2, uc2, ka2, kn2, kc2, rfl⟩ := PgVal.open13 hg; have HV2 := hid hg; have HD2 := hid hb; replace HB := hid (below_seq HB.out hb); clear hb hg hp2 hres)
  obtain ⟨a2, ha2⟩ : ∃ a, w2.heap.size = a := ⟨_, rfl⟩
  have htw := two_new w2 #[.slice da2 dn2 dc2, .int .i64 gv.m.k, .string gv.m.c, .string gv.m.x, .slice la2 ln2 lc2, .slice aa2 an2 ac2, .int .i64 gv.m.t.k, .int .i64 gv.m.t.p, .string gv.m.t.n, .int .i64 gv.m.t.s, .slice ta2 tn2 tc2, .slice ua2 un2 uc2, .slice ka2 kn2 kc2] #[.int .i64 fe, .int .i64 p2] 33 36
  obtain ⟨W2, hW2⟩ : ∃ W, (w2.alloc (.cells #[.slice da2 dn2 dc2, .int .i64 gv.m.k, .string gv.m.c, .string gv.m.x, .slice la2 ln2 lc2, .slice aa2 an2 ac2, .int .i64 gv.m.t.k, .int .i64 gv.m.t.p, .string gv.m.t.n, .int .i64 gv.m.t.s, .slice ta2 tn2 tc2, .slice ua2 un2 uc2, .slice ka2 kn2 kc2] 33)).alloc (.cells #[.int .i64 fe, .int .i64 p2] 36) = W := ⟨_, rfl⟩
  rw [hW2, ha2] at htw
  rw [hW2]
  rw [ha2]
  have HC2 := hid (htw.2.2.mono (Nat.le_of_eq ha2))
  replace HB := hid (below_seq HB.out HC2.out)
  clear ha2 hW2
  have HX2 := hid htw
  clear htw
  go_upto_region 10 with (go_at_call 13; refine (HP1.out _ HB.out).mono ?_; intro en w3 hres; obtain ⟨⟨v3, rfl, hg⟩, hb⟩ := wres_pr hres; rw [K3.out.1] at hg; rw [K3.out.2]; obtain ⟨p3, hp3⟩ : ∃ p, plcOf q1 = p := ⟨_, rfl⟩; rw [hp3]; obtain ⟨la3, ln3, lc3, aa3, an3, ac3, ta3, tn3, tc3, ua3, un3, uc3, ka3, kn3, kc3, rfl⟩ := PrVal.open hg; have HV3 := hid hg; have HD3 := hid hb; replace HB := hid (below_seq HB.out hb); clear hb hg hp3 hres)
  obtain ⟨a3, ha3⟩ : ∃ a, w3.heap.size = a := ⟨_, rfl⟩
  have htw := two_new w3 #[.int .i64 cv.k, .string cv.c, .string cv.x, .slice la3 ln3 lc3, .slice aa3 an3 ac3, .int .i64 cv.t.k, .int .i64 cv.t.p, .string cv.t.n, .int .i64 cv.t.s, .slice ta3 tn3 tc3, .slice ua3 un3 uc3, .slice ka3 kn3 kc3] #[.int .i64 he, .int .i64 p3] 31 36
  obtain ⟨W3, hW3⟩ : ∃ W, (w3.alloc (.cells #[.int .i64 cv.k, .string cv.c, .string cv.x, .slice la3 ln3 lc3, .slice aa3 an3 ac3, .int .i64 cv.t.k, .int .i64 cv.t.p, .string cv.t.n, .int .i64 cv.t.s, .slice ta3 tn3 tc3, .slice ua3 un3 uc3, .slice ka3 kn3 kc3] 31)).alloc (.cells #[.int .i64 he, .int .i64 p3] 36) = W := ⟨_, rfl⟩
  rw [hW3, ha3] at htw
  rw [hW3]
  rw [ha3]
  have HC3 := hid (htw.2.2.mono (Nat.le_of_eq ha3))
  replace HB := hid (below_seq HB.out HC3.out)
  clear ha3 hW3
  have HX3 := hid htw
  clear htw
  go_upto_region 11 with (go_at_call 13; refine (HP2.out _ HB.out).mono ?_; intro en w4 hres; obtain ⟨⟨v4, rfl, hg⟩, hb⟩ := wres_pr hres; rw [K4.out.1] at hg; rw [K4.out.2]; obtain ⟨p4, hp4⟩ : ∃ p, plcOf q2 = p := ⟨_, rfl⟩; rw [hp4]; obtain ⟨la4, ln4, lc4, aa4, an4, ac4, ta4, tn4, tc4, ua4, un4, uc4, ka4, kn4, kc4, rfl⟩ := PrVal.open hg; have HV4 := hid hg; have HD4 := hid hb; replace HB := hid (below_seq HB.out hb); clear hb hg hp4 hres)
  obtain ⟨a4, ha4⟩ : ∃ a, w4.heap.size = a := ⟨_, rfl⟩
  have htw := two_new w4 #[.int .i64 dv.k, .string dv.c, .string dv.x, .slice la4 ln4 lc4, .slice aa4 an4 ac4, .int .i64 dv.t.k, .int .i64 dv.t.p, .string dv.t.n, .int .i64 dv.t.s, .slice ta4 tn4 tc4, .slice ua4 un4 uc4, .slice ka4 kn4 kc4] #[.int .i64 ie, .int .i64 p4] 31 36
  obtain ⟨W4, hW4⟩ : ∃ W, (w4.alloc (.cells #[.int .i64 dv.k, .string dv.c, .string dv.x, .slice la4 ln4 lc4, .slice aa4 an4 ac4, .int .i64 dv.t.k, .int .i64 dv.t.p, .string dv.t.n, .int .i64 dv.t.s, .slice ta4 tn4 tc4, .slice ua4 un4 uc4, .slice ka4 kn4 kc4] 31)).alloc (.cells #[.int .i64 ie, .int .i64 p4] 36) = W := ⟨_, rfl⟩
  rw [hW4, ha4] at htw
  rw [hW4]
  rw [ha4]
  have HC4 := hid (htw.2.2.mono (Nat.le_of_eq ha4))
  replace HB := hid (below_seq HB.out HC4.out)
  clear ha4 hW4
  have HX4 := hid htw
  clear htw
  have h34 : Below W3.heap.size W3 W4 := below_seq HD4.out HC4.out
  have h24 : Below W2.heap.size W2 W4 := below_seq (below_seq HD3.out HC3.out) h34
  have h14 : Below W1.heap.size W1 W4 := below_seq (below_seq HD2.out HC2.out) h24
  have x1 := (h14.block _ (Array.getElem?_eq_some_iff.1 HX1.out.1).1).trans HX1.out.1
  have y1 := (h14.block _ (Array.getElem?_eq_some_iff.1 HX1.out.2.1).1).trans HX1.out.2.1
  have x2 := (h24.block _ (Array.getElem?_eq_some_iff.1 HX2.out.1).1).trans HX2.out.1
  have y2 := (h24.block _ (Array.getElem?_eq_some_iff.1 HX2.out.2.1).1).trans HX2.out.2.1
  have x3 := (h34.block _ (Array.getElem?_eq_some_iff.1 HX3.out.1).1).trans HX3.out.1
  have y3 := (h34.block _ (Array.getElem?_eq_some_iff.1 HX3.out.2.1).1).trans HX3.out.2.1
  have x4 := HX4.out.1
  have y4 := HX4.out.2.1
  have e1 : W4.cell? ⟨a1 + 1, 0, none⟩ = some (.int .i64 fe) := by simp only [World.cell?, y1]; rfl
  have e2 : W4.cell? ⟨a2 + 1, 0, none⟩ = some (.int .i64 fe) := by simp only [World.cell?, y2]; rfl
  have b0 : (fe == fe) = true := by simp
  have c1_0 : W4.cell? ⟨a1, 0, none⟩ = some (.slice da1 dn1 dc1) := by simp only [World.cell?, x1]; rfl
  have c1_1 : W4.cell? ⟨a1, 1, none⟩ = some (.int .i64 gv.m.k) := by simp only [World.cell?, x1]; rfl
  have c1_2 : W4.cell? ⟨a1, 2, none⟩ = some (.string gv.m.c) := by simp only [World.cell?, x1]; rfl
  have c1_3 : W4.cell? ⟨a1, 3, none⟩ = some (.string gv.m.x) := by simp only [World.cell?, x1]; rfl
  have c1_4 : W4.cell? ⟨a1, 4, none⟩ = some (.slice la1 ln1 lc1) := by simp only [World.cell?, x1]; rfl
  have c1_5 : W4.cell? ⟨a1, 5, none⟩ = some (.slice aa1 an1 ac1) := by simp only [World.cell?, x1]; rfl
  have c1_6 : W4.cell? ⟨a1, 6, none⟩ = some (.int .i64 gv.m.t.k) := by simp only [World.cell?, x1]; rfl
  have c1_7 : W4.cell? ⟨a1, 7, none⟩ = some (.int .i64 gv.m.t.p) := by simp only [World.cell?, x1]; rfl
  have c1_8 : W4.cell? ⟨a1, 8, none⟩ = some (.string gv.m.t.n) := by simp only [World.cell?, x1]; rfl
  have c1_9 : W4.cell? ⟨a1, 9, none⟩ = some (.int .i64 gv.m.t.s) := by simp only [World.cell?, x1]; rfl
  have c1_10 : W4.cell? ⟨a1, 10, none⟩ = some (.slice ta1 tn1 tc1) := by simp only [World.cell?, x1]; rfl
  have c1_11 : W4.cell? ⟨a1, 11, none⟩ = some (.slice ua1 un1 uc1) := by simp only [World.cell?, x1]; rfl
  have c1_12 : W4.cell? ⟨a1, 12, none⟩ = some (.slice ka1 kn1 kc1) := by simp only [World.cell?, x1]; rfl
  have c2_0 : W4.cell? ⟨a2, 0, none⟩ = some (.slice da2 dn2 dc2) := by simp only [World.cell?, x2]; rfl
  have c2_1 : W4.cell? ⟨a2, 1, none⟩ = some (.int .i64 gv.m.k) := by simp only [World.cell?, x2]; rfl
  have c2_2 : W4.cell? ⟨a2, 2, none⟩ = some (.string gv.m.c) := by simp only [World.cell?, x2]; rfl
  have c2_3 : W4.cell? ⟨a2, 3, none⟩ = some (.string gv.m.x) := by simp only [World.cell?, x2]; rfl
  have c2_4 : W4.cell? ⟨a2, 4, none⟩ = some (.slice la2 ln2 lc2) := by simp only [World.cell?, x2]; rfl
  have c2_5 : W4.cell? ⟨a2, 5, none⟩ = some (.slice aa2 an2 ac2) := by simp only [World.cell?, x2]; rfl
  have c2_6 : W4.cell? ⟨a2, 6, none⟩ = some (.int .i64 gv.m.t.k) := by simp only [World.cell?, x2]; rfl
  have c2_7 : W4.cell? ⟨a2, 7, none⟩ = some (.int .i64 gv.m.t.p) := by simp only [World.cell?, x2]; rfl
  have c2_8 : W4.cell? ⟨a2, 8, none⟩ = some (.string gv.m.t.n) := by simp only [World.cell?, x2]; rfl
  have c2_9 : W4.cell? ⟨a2, 9, none⟩ = some (.int .i64 gv.m.t.s) := by simp only [World.cell?, x2]; rfl
  have c2_10 : W4.cell? ⟨a2, 10, none⟩ = some (.slice ta2 tn2 tc2) := by simp only [World.cell?, x2]; rfl
  have c2_11 : W4.cell? ⟨a2, 11, none⟩ = some (.slice ua2 un2 uc2) := by simp only [World.cell?, x2]; rfl
  have c2_12 : W4.cell? ⟨a2, 12, none⟩ = some (.slice ka2 kn2 kc2) := by simp only [World.cell?, x2]; rfl
  have HLAT : Hid (∀ W, Below W4.heap.size W4 W -> W.cell? ⟨a3, 0, none⟩ = some (.int .i64 cv.k) /\ W.cell? ⟨a3, 1, none⟩ = some (.string cv.c) /\ W.cell? ⟨a3, 2, none⟩ = some (.string cv.x) /\ W.cell? ⟨a3, 3, none⟩ = some (.slice la3 ln3 lc3) /\ W.cell? ⟨a3, 4, none⟩ = some (.slice aa3 an3 ac3) /\ W.cell? ⟨a3, 5, none⟩ = some (.int .i64 cv.t.k) /\ W.cell? ⟨a3, 6, none⟩ = some (.int .i64 cv.t.p) /\ W.cell? ⟨a3, 7, none⟩ = some (.string cv.t.n) /\ W.cell? ⟨a3, 8, none⟩ = some (.int .i64 cv.t.s) /\ W.cell? ⟨a3, 9, none⟩ = some (.slice ta3 tn3 tc3) /\ W.cell? ⟨a3, 10, none⟩ = some (.slice ua3 un3 uc3) /\ W.cell? ⟨a3, 11, none⟩ = some (.slice ka3 kn3 kc3) /\ W.cell? ⟨a4, 0, none⟩ = some (.int .i64 dv.k) /\ W.cell? ⟨a4, 1, none⟩ = some (.string dv.c) /\ W.cell? ⟨a4, 2, none⟩ = some (.string dv.x) /\ W.cell? ⟨a4, 3, none⟩ = some (.slice la4 ln4 lc4) /\ W.cell? ⟨a4, 4, none⟩ = some (.slice aa4 an4 ac4) /\ W.cell? ⟨a4, 5, none⟩ = some (.int .i64 dv.t.k) /\ W.cell? ⟨a4, 6, none⟩ = some (.int .i64 dv.t.p) /\ W.cell? ⟨a4, 7, none⟩ = some (.string dv.t.n) /\ W.cell? ⟨a4, 8, none⟩ = some (.int .i64 dv.t.s) /\ W.cell? ⟨a4, 9, none⟩ = some (.slice ta4 tn4 tc4) /\ W.cell? ⟨a4, 10, none⟩ = some (.slice ua4 un4 uc4) /\ W.cell? ⟨a4, 11, none⟩ = some (.slice ka4 kn4 kc4) /\ W.cell? ⟨a3 + 1, 0, none⟩ = some (.int .i64 he) /\ W.cell? ⟨a4 + 1, 0, none⟩ = some (.int .i64 ie)) := hid (fun W hW => ⟨by simp only [World.cell?, (hW.block _ (gl x3)).trans x3]; rfl, by simp only [World.cell?, (hW.block _ (gl x3)).trans x3]; rfl, by simp only [World.cell?, (hW.block _ (gl x3)).trans x3]; rfl, by simp only [World.cell?, (hW.block _ (gl x3)).trans x3]; rfl, by simp only [World.cell?, (hW.block _ (gl x3)).trans x3]; rfl, by simp only [World.cell?, (hW.block _ (gl x3)).trans x3]; rfl, by simp only [World.cell?, (hW.block _ (gl x3)).trans x3]; rfl, by simp only [World.cell?, (hW.block _ (gl x3)).trans x3]; rfl, by simp only [World.cell?, (hW.block _ (gl x3)).trans x3]; rfl, by simp only [World.cell?, (hW.block _ (gl x3)).trans x3]; rfl, by simp only [World.cell?, (hW.block _ (gl x3)).trans x3]; rfl, by simp only [World.cell?, (hW.block _ (gl x3)).trans x3]; rfl, by simp only [World.cell?, (hW.block _ (gl x4)).trans x4]; rfl, by simp only [World.cell?, (hW.block _ (gl x4)).trans x4]; rfl, by simp only [World.cell?, (hW.block _ (gl x4)).trans x4]; rfl, by simp only [World.cell?, (hW.block _ (gl x4)).trans x4]; rfl, by simp only [World.cell?, (hW.block _ (gl x4)).trans x4]; rfl, by simp only [World.cell?, (hW.block _ (gl x4)).trans x4]; rfl, by simp only [World.cell?, (hW.block _ (gl x4)).trans x4]; rfl, by simp only [World.cell?, (hW.block _ (gl x4)).trans x4]; rfl, by simp only [World.cell?, (hW.block _ (gl x4)).trans x4]; rfl, by simp only [World.cell?, (hW.block _ (gl x4)).trans x4]; rfl, by simp only [World.cell?, (hW.block _ (gl x4)).trans x4]; rfl, by simp only [World.cell?, (hW.block _ (gl x4)).trans x4]; rfl, by simp only [World.cell?, (hW.block _ (gl y3)).trans y3]; rfl, by simp only [World.cell?, (hW.block _ (gl y4)).trans y4]; rfl⟩)
  have l1 := (HV1.out.to_ HC1.out).to_ h14
  have l2 := (HV2.out.to_ HC2.out).to_ h24
  have l3 := (HV3.out.to_ HC3.out).to_ h34
  have l4 := HV4.out.to_ HC4.out
  have HS := hid (rsameProgram_any (fun k => k < W4.heap.size) gv gv _ _ W4 (fun _ h => h) (PgVal.mono (fun _ h => h.2) l1) (PgVal.mono (fun _ h => h.2) l2))
  rw [eqG_self] at HS
  have HT := hid (fun W (hW : Below W4.heap.size W4 W) => rpsame_any (fun k => k < W.heap.size) cv dv _ _ W (fun _ h => h) (PrVal.mono (fun _ h => h.2) (l3.to_ hW)) (PrVal.mono (fun _ h => h.2) (l4.to_ hW)))
  clear h34 h24 h14 x1 y1 x2 y2 x3 y3 x4 y4 l1 l2 l3 l4
  obtain ⟨be, hbe⟩ : ∃ b, eqP cv dv = b := ⟨_, rfl⟩
  rw [hbe] at HT
  rcases hP with ⟨k1, k2⟩ | ⟨k1, k2, k3⟩ | ⟨k1, k2, k3, k4⟩
  ·obtain rfl : be = true := by rw [<- hbe, k2]; exact eqP_self _
   subst k1
   have b1 : (he == he) = true := by simp
   clear hbe k2
   go_wp2_with (first | (go_at_call 11; refine HS.out.mono ?_; rintro en w5 ⟨rfl, hb⟩; obtain ⟨c3_0, c3_1, c3_2, c3_3, c3_4, c3_5, c3_6, c3_7, c3_8, c3_9, c3_10, c3_11, c4_0, c4_1, c4_2, c4_3, c4_4, c4_5, c4_6, c4_7, c4_8, c4_9, c4_10, c4_11, e3, e4⟩ := HLAT.out _ hb; have HL5 := hid hb; replace HB := hid (below_seq HB.out hb); clear hb) | (go_at_call 15; refine (HT.out _ HL5.out).mono ?_; rintro en w6 ⟨rfl, hb⟩; replace HB := hid (below_seq HB.out hb); clear hb))
   go_ret
   exact ⟨rfl, HB.out⟩
  ·have b1 : (he == ie) = false := by simpa using k1
   have b2 : (he != 0) = true := by simpa using k2
   have b3 : (ie != 0) = true := by simpa using k3
   clear hbe k1 k2 k3
   go_wp2_with (first | (go_at_call 11; refine HS.out.mono ?_; rintro en w5 ⟨rfl, hb⟩; obtain ⟨c3_0, c3_1, c3_2, c3_3, c3_4, c3_5, c3_6, c3_7, c3_8, c3_9, c3_10, c3_11, c4_0, c4_1, c4_2, c4_3, c4_4, c4_5, c4_6, c4_7, c4_8, c4_9, c4_10, c4_11, e3, e4⟩ := HLAT.out _ hb; have HL5 := hid hb; replace HB := hid (below_seq HB.out hb); clear hb) | (go_at_call 15; refine (HT.out _ HL5.out).mono ?_; rintro en w6 ⟨rfl, hb⟩; replace HB := hid (below_seq HB.out hb); clear hb))
   go_ret
   exact ⟨rfl, HB.out⟩
  ·subst k4
   have b1 : (he == ie) = false := by simpa using k1
   have b2 : (he != 0) = true := by simpa using k2
   have b3 : (ie != 0) = false := by simpa using k3
   clear hbe k1 k2 k3
   go_wp2_with (first | (go_at_call 11; refine HS.out.mono ?_; rintro en w5 ⟨rfl, hb⟩; obtain ⟨c3_0, c3_1, c3_2, c3_3, c3_4, c3_5, c3_6, c3_7, c3_8, c3_9, c3_10, c3_11, c4_0, c4_1, c4_2, c4_3, c4_4, c4_5, c4_6, c4_7, c4_8, c4_9, c4_10, c4_11, e3, e4⟩ := HLAT.out _ hb; have HL5 := hid hb; replace HB := hid (below_seq HB.out hb); clear hb) | (go_at_call 15; refine (HT.out _ HL5.out).mono ?_; rintro en w6 ⟨rfl, hb⟩; replace HB := hid (below_seq HB.out hb); clear hb) | (go_at_call 21; refine (HSP.out _).mono ?_; rintro en wb ⟨rfl, hb⟩; replace HB := hid (below_seq HB.out hb); clear hb))
   go_ret
   exact ⟨rfl, HB.out⟩
end Go.Proofs.YtejaboajgecpaaaGreatDoor
namespace Go.Proofs.YtejaboajgecpaaaGreatDoor
open Go.RowKit Go.ChangeShapes Tok
abbrev seatLaid : List (String × DataW Unit) := Rows.parseTypesRow.laid
theorem one_reads {P : Program} {w : World} : ∀ {l : List (String × DataW Unit)} {ps : List MemPlace}, DataW.LaidVars P w l ps -> ∀ n d, (n, d) ∈ l ->
 ∃ g t cs fuel p, P.globalNamed n = some g /\ (P.globals[g]?).map (·.type) = some t /\ w.var? P n = some cs /\ DataW.trod (fun _ => ()) P w 0 (fun _ => true) false fuel t cs.toList = some (d, p)
 | [], _, _, _, _, hm => by cases hm
 | (n', d') :: r, ps, h, n, d, hm => by
  obtain ⟨g, t, cs, fuel, p, q, h1, h2, h3, h4, h5, _⟩ := h
  rcases List.mem_cons.1 hm with e | e
  ·cases e
   exact ⟨g, t, cs, fuel, p, h1, h2, h3, h4⟩
  ·exact one_reads h5 n d e
theorem iface_reads {H : Type} {enc : TypeId × Value -> H} {P : Program} {w : World} {base : Nat} {sp : Nat -> Bool} {held : Bool} {fuel : Nat} {t : TypeId} {ms : Array (String × TypeId)} {cs : List Value} {nm : String} {d : DataW H} {p : List MemPlace}
 (ht : P.underlying t = some (.interface ms)) (h : DataW.trod enc P w base sp held fuel t cs = some (.iface nm d, p)) : ∃ u v, cs = [.iface u v] := by
 cases fuel with
 | zero => simp [DataW.trod] at h
 | succ fuel =>
  unfold DataW.trod at h
  rw [ht] at h
  split at h <;> first | (rename_i heq; cases heq; done) | skip
  all_goals (first | (cases h; done) | exact ⟨_, _, rfl⟩ | skip)
theorem strs_read {H : Type} {enc : TypeId × Value -> H} {P : Program} {w : World} {base : Nat} {sp : Nat -> Bool} {held : Bool} {fuel : Nat} {t e : TypeId} {n : Nat} {cs : List Value} {ls : List (List UInt8)} {p : List MemPlace}
 (ht : P.underlying t = some (.array n e)) (he : P.underlying e = some .string) (hce : P.cellsOf e = 1) (hct : P.cellsOf t = n)
 (h : DataW.trod enc P w base sp held fuel t cs = some (.agg (ls.map fun l => .lit (.string l)), p)) : cs = ls.map fun l => Value.string ⟨l.toArray⟩ := by
 obtain ⟨xs, m, _, hx, hlen, hxl, hat⟩ := DataW.trod_array ht h
 have hxs : xs.map (·.1) = ls.map fun l => (DataW.lit (.string l) : DataW H) := by
  have := congrArg Prod.fst hx
  simpa using this.symm
 have hll : ls.length = n := by
  have := congrArg List.length hxs
  simp at this; omega
 apply List.ext_getElem?
 intro i
 by_cases hi : i < n
 ·have hf := hat i hi
  rw [hce, Nat.mul_one] at hf
  obtain ⟨x, hxi⟩ : ∃ x, xs[i]? = some x := ⟨_, List.getElem?_eq_getElem (by omega)⟩
  rw [hxi] at hf
  obtain ⟨s, hc, rfl, _⟩ := DataW.trod_string he hf
  have h1 : cs[i]? = some (.string s) := by
   have := congrArg (·[0]?) hc
   simpa [List.getElem?_take, List.getElem?_drop] using this
  have h2 : (xs.map (·.1))[i]? = some (DataW.lit (.string s.data.toList) : DataW H) := by simp [hxi]
  rw [hxs] at h2
  simp only [List.getElem?_map, Option.map_eq_some_iff, DataW.lit.injEq, Lit.string.injEq] at h2
  obtain ⟨l, hl, hls⟩ := h2
  rw [h1, List.getElem?_map, hl, hls]
  rfl
 ·rw [List.getElem?_eq_none (by omega), List.getElem?_eq_none (by simp; omega)]
theorem rangeType : (Tryz.prog.globals[3]?).map (·.type) = some 177 := by kernel_rfl
theorem wordsType : (Tryz.prog.globals[0]?).map (·.type) = some 180 := by kernel_rfl
theorem cellsStr : Tryz.prog.cellsOf 9 = 1 := by kernel_rfl
theorem cellsWords : Tryz.prog.cellsOf 180 = 10 := by kernel_rfl
theorem errIface : ∃ ms, Tryz.prog.underlying 177 = some (.interface ms) := ⟨_, Tryz.underlying177⟩
theorem env_of_laid {W : World} (h : laidMetH Tryz.prog seatLaid W) : Tok.Env W.heap.size W := by
 rw [MakeChecks.laidMetH_plain _ _ _ (by kernel_rfl)] at h
 obtain ⟨ps, hv, _⟩ := h
 obtain ⟨g, t, cs, fuel, p, hg, ht, hvar, hd⟩ := one_reads hv "strconv.ErrRange" Rows.laid_strconv_ErrRange (by simp [seatLaid, Rows.parseTypesRow])
 obtain rfl := Option.some.inj (gRange.symm.trans hg)
 obtain rfl := Option.some.inj (rangeType.symm.trans ht)
 obtain ⟨ms, hms⟩ := errIface
 obtain ⟨u, v, hcs⟩ := iface_reads hms hd
 obtain ⟨g', t', cs', fuel', p', hg', ht', hvar', hd'⟩ := one_reads hv "duologue/lex.keywords" Rows.laid_duologue_lex_keywords (by simp [seatLaid, Rows.parseTypesRow])
 obtain rfl := Option.some.inj (gWords.symm.trans hg')
 obtain rfl := Option.some.inj (wordsType.symm.trans ht')
 have hws := strs_read (ls := [[100, 101, 102], [109, 97, 105, 110], [115, 116, 111, 112], [110, 101, 119], [105, 110, 116], [98, 111, 111, 108], [101, 110, 100], [114, 101, 99], [116, 114, 117, 101], [102, 97, 108, 115, 101]]) kwU Tryz.underlying9 cellsStr cellsWords hd'
 have lt : ∀ {n : String} {g : Nat} {cs : Array Value}, Tryz.prog.globalNamed n = some g -> W.var? Tryz.prog n = some cs -> g < W.heap.size := by
  intro n g cs hg hv
  unfold World.var? at hv
  simp only [hg, Option.bind_some] at hv
  rcases Nat.lt_or_ge g W.heap.size with h' | h'
  ·exact h'
  ·rw [Array.getElem?_eq_none h'] at hv; cases hv
 refine ⟨⟨u, v, ?_⟩, ?_, ⟨lt gRange hvar, lt gWords hvar'⟩, Nat.le_refl _⟩
 ·rw [hvar]; obtain ⟨l⟩ := cs; simp at hcs; rw [hcs]
 ·rw [hvar']; obtain ⟨l⟩ := cs'; simp only at hws; rw [hws]; rfl
theorem door_met (os : Os) (args : Array Value) : laidMetH Tryz.prog seatLaid ((World.doorLaid Tryz.prog 4000 os).forCall (fun _ _ => 0) ⟨#[], args, []⟩).memory :=
 laidMetH_of_parts3 (fuel := 10) (laidMet_of_run' 10 (by kernel_rfl) (by kernel_rfl)) (by kernel_rfl) (by kernel_rfl)
end Go.Proofs.YtejaboajgecpaaaGreatDoor
