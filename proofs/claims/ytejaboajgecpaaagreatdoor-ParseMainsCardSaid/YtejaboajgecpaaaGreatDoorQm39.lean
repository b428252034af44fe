/- Parsing: lemmas. -/
import Derived.Test.YtejaboajgecpaaaGreatDoorQm38
import Derived.Test.YtejaboajgecpaaaGreatDoorRows
import Derived.LaidLaws
import Derived.LaidMore
import Derived.MakeChecks
import Derived.OpenShut
import Derived.ChangeArms
import Derived.Stop.LaidErr
set_option maxHeartbeats 16000000
set_option maxRecDepth 100000
namespace Go.Proofs.YtejaboajgecpaaaGreatDoor
open Go.Lib (hid)
open Go.RowKit Go.Deep Go.Shelf
theorem mem59 {s : ByteArray} : s.data.toList.contains 59 = true ↔ ∃ (j : Nat) (h : j < s.size), s[j] = 59 := by
 rw [List.contains_iff_mem]
 constructor
 ·intro h
  obtain ⟨j, hj, e⟩ := List.getElem_of_mem h
  exact ⟨j, hj, e⟩
 ·rintro ⟨j, h, e⟩
  rw [<- e]
  exact List.getElem_mem (l := s.data.toList) (n := j) h
theorem psplit2_any (s : ByteArray) (hsz : s.size <= 9223372036854775807) (w : World) : Calls Tryz.prog 22 #[.string s] w fun e w' => e = .returned (.bool (s.data.toList.contains 59)) /\ Below w.heap.size w w' := by
 go_enter Tryz.func22, Tryz.ntmps22
 go_wp2_with fail
 go_loopw [3] (fun n wr => ∃ k : Nat, k <= s.size /\ n = .int .i64 k /\ Hid (∀ (j : Nat) (h : j < s.size), j < k -> s[j] ≠ 59) /\ Hid (Below w.heap.size w wr)) (fun n _ => s.size - (intOf n).toNat)
 case atStart => exact ⟨0, by omega, rfl, hid (fun j _ h => by omega), hid (Below.refl _ _)⟩
 case round =>
  obtain ⟨k, hk, rfl, ha, hb⟩ := hrel
  by_cases hlt : k < s.size
  ·have hk0 : (0 : Int) <= (k : Int) := Int.natCast_nonneg _
   have hk3 : (k : Int) < ((s.size : Nat) : Int) := by omega
   by_cases hd : (((s[k]'hlt).toNat : Int) == 59) = true
   ·have HR : Hid (s.data.toList.contains 59 = true) := hid (mem59.2 ⟨k, hlt, by
     have h : ((s[k]'hlt).toNat : Int) = 59 := by simpa using hd
     exact UInt8.toNat_inj.1 (by show (s[k]'hlt).toNat = 59; omega)⟩)
    go_wp2_with fail
    go_ret
    exact ⟨Tok.ret_bool HR.out.symm, hb.out⟩
   ·have hd' : (((s[k]'hlt).toNat : Int) == 59) = false := by simpa using hd
    have hnext : ∀ (j : Nat) (h : j < s.size), j < k + 1 -> s[j] ≠ 59 := fun j h hj => by
     by_cases e : j = k
     ·subst e
      intro e
      rw [e] at hd'
      exact absurd hd' (by decide)
     ·exact ha.out j h (by omega)
    clear hd
    go_wp2_with fail
    go_roundw
    case rel => exact ⟨k + 1, by omega, by go_num, hid hnext, hb⟩
    case measure => simp [intOf]; omega
  ·have HR : Hid (s.data.toList.contains 59 = false) := hid (by
    cases h : s.data.toList.contains 59 with
    | false => rfl
    | true =>
     obtain ⟨j, hj, e⟩ := mem59.1 h
     exact absurd e (ha.out j hj (by omega)))
   go_wp2_with fail
   go_ret
   exact ⟨Tok.ret_bool HR.out.symm, hb.out⟩
theorem xpg {b : Nat} {w : World} {x : Pr} {v : Value} (h : GPg b w ⟨[], x⟩ v) : ∃ da dc la ln lc aa an ac ta tn tc ua un uc ka kn kc, v = .agg #[.slice da 0 dc, .int .i64 x.k, .string x.c, .string x.x, .slice la ln lc, .slice aa an ac, .int .i64 x.t.k, .int .i64 x.t.p, .string x.t.n, .int .i64 x.t.s, .slice ta tn tc, .slice ua un uc, .slice ka kn kc] /\ GPr b w x (.agg #[.int .i64 x.k, .string x.c, .string x.x, .slice la ln lc, .slice aa an ac, .int .i64 x.t.k, .int .i64 x.t.p, .string x.t.n, .int .i64 x.t.s, .slice ta tn tc, .slice ua un uc, .slice ka kn kc]) := by
 obtain ⟨da, dn, dc, la, ln, lc, aa, an, ac, ta, tn, tc, ua, un, uc, ka, kn, kc, e⟩ := PgVal.open13 h
 obtain ⟨dv, lv, av, tl, tk, kv, e2, hd, hp⟩ := h
 rw [e] at e2
 simp only [Value.agg.injEq, Array.mk.injEq, List.cons.injEq, and_true, true_and] at e2
 obtain ⟨ed, el, ea, et, eu, ek⟩ := e2
 subst ed
 obtain ⟨a, n, c, e3, hn, _⟩ := hd.open
 simp only [Value.slice.injEq] at e3
 obtain ⟨rfl, rfl, rfl⟩ := e3
 have h0 : dn = 0 := hn.out
 subst h0
 rw [<- el, <- ea, <- et, <- eu, <- ek] at hp
 exact ⟨_, _, _, _, _, _, _, _, _, _, _, _, _, _, _, _, _, e, hp⟩
theorem GPr.to_ {b : Nat} {w w' : World} {t : Pr} {v : Value} (h : GPr b w t v) (hb : Below w.heap.size w w') : GPr b w' t v :=
 (PrVal.keep (fun k _ hk ho _ => (hb.block k hk.2).trans ho) h).mono (fun _ hk => ⟨hk.1, Nat.lt_of_lt_of_le hk.2 hb.size⟩)
theorem ParseMains_any (s : ByteArray) (hs : s.size <= maxLen) (B : Nat) (w : World) (he : Tok.Env B w) : Calls Tryz.prog 7 #[.string s] w fun e w' => e = .returned (.bool true) /\ Below w.heap.size w w' := by
 have HAW := hid (fun W (hW : Below w.heap.size w W) => pawake_any B W (tok_env he hW))
 have HE := hid (fun W (hW : Below w.heap.size w W) => tok_env he hW)
 have HSP := hid (fun W => psplit2_any s (by unfold maxLen at hs; omega) W)
 have HB : Hid (Below w.heap.size w w) := hid (Below.refl _ _)
 clear he hs
 by_cases h1 : s.size <= 3000
 case neg =>
  have d1 : decide ((3000 : Int) < (s.size : Int)) = true := by simp; omega
  go_enter Tryz.func7, Tryz.ntmps7
  go_wp2_with (go_at_call 8; refine (HAW.out _ HB.out).mono ?_; rintro en wa ⟨rfl, hb⟩; replace HB := hid (below_seq HB.out hb); clear hb)
  go_ret
  exact ⟨rfl, HB.out⟩
 have d1 : decide ((3000 : Int) < (s.size : Int)) = false := by simp; omega
 obtain ⟨c, hc⟩ := ex1 (s.data.toList.contains 59)
 rw [hc] at HSP
 cases c with
 | true =>
  clear hc
  go_enter Tryz.func7, Tryz.ntmps7
  go_wp2_with (first | (go_at_call 8; refine (HAW.out _ HB.out).mono ?_; rintro en wa ⟨rfl, hb⟩; replace HB := hid (below_seq HB.out hb); clear hb) | (go_at_call 22; refine (HSP.out _).mono ?_; rintro en wb ⟨rfl, hb⟩; replace HB := hid (below_seq HB.out hb); clear hb))
  go_ret
  exact ⟨rfl, HB.out⟩
 | false =>
  have h59 : (59 : UInt8) ∉ s.data.toList := fun h => by rw [List.contains_iff_mem.2 h] at hc; cases hc
  obtain ⟨r, hr⟩ := scans_ex s
  have hap : ((⟨#[109, 97, 105, 110, 32, 61, 32]⟩ : ByteArray) ++ s ++ (⟨#[10, 59]⟩ : ByteArray)).data.toList = preL ++ (s.data.toList ++ [10, 59]) := by rw [ByteArray.data_append, ByteArray.data_append]; simp
  have hms := main_scans s ((⟨#[109, 97, 105, 110, 32, 61, 32]⟩ : ByteArray) ++ s ++ (⟨#[10, 59]⟩ : ByteArray)) hap h1 h59 r hr
  have hlen : ((⟨#[109, 97, 105, 110, 32, 61, 32]⟩ : ByteArray) ++ s ++ (⟨#[10, 59]⟩ : ByteArray)).size <= 281474976710656 := by
   have h : ((⟨#[109, 97, 105, 110, 32, 61, 32]⟩ : ByteArray) ++ s ++ (⟨#[10, 59]⟩ : ByteArray)).data.toList.length = ((⟨#[109, 97, 105, 110, 32, 61, 32]⟩ : ByteArray) ++ s ++ (⟨#[10, 59]⟩ : ByteArray)).size := rfl
   have h2 : s.data.toList.length = s.size := rfl
   rw [<- h, hap]; simp; omega
  have HT := hid (fun W (hW : Below w.heap.size w W) => pProcess_any s r hr B W (HE.out W hW))
  have HGG : Hid (∀ r', Scans ((⟨#[109, 97, 105, 110, 32, 61, 32]⟩ : ByteArray) ++ s ++ (⟨#[10, 59]⟩ : ByteArray)) r' -> ∀ W, Below w.heap.size w W -> Calls Tryz.prog 9 #[.string ((⟨#[109, 97, 105, 110, 32, 61, 32]⟩ : ByteArray) ++ s ++ (⟨#[10, 59]⟩ : ByteArray))] W (WRes W (wholeE fProg Pg.tooBig ((⟨#[109, 97, 105, 110, 32, 61, 32]⟩ : ByteArray) ++ s ++ (⟨#[10, 59]⟩ : ByteArray)) r') GPg (.agg #[.slice none 0 0, .int .i64 0, .string ⟨#[]⟩, .string ⟨#[]⟩, .slice none 0 0, .slice none 0 0, .int .i64 0, .int .i64 0, .string ⟨#[]⟩, .int .i64 0, .slice none 0 0, .slice none 0 0, .slice none 0 0]))) := hid (fun r' hr' W hW => pProgram_any _ r' hr' B W (HE.out W hW))
  clear hc h59 hr hap HE
  have HLEN := hid hlen
  have key : (∃ e p p', wholeE fProc bigP s r = .inr (e, p) /\ e ≠ 0 /\ ∀ W, Below w.heap.size w W -> Calls Tryz.prog 9 #[.string ((⟨#[109, 97, 105, 110, 32, 61, 32]⟩ : ByteArray) ++ s ++ (⟨#[10, 59]⟩ : ByteArray))] W (WRes W (.inr (e, p')) GPg (.agg #[.slice none 0 0, .int .i64 0, .string ⟨#[]⟩, .string ⟨#[]⟩, .slice none 0 0, .slice none 0 0, .int .i64 0, .int .i64 0, .string ⟨#[]⟩, .int .i64 0, .slice none 0 0, .slice none 0 0, .slice none 0 0]))) \/ ∃ x, wholeE fProc bigP s r = .inl x /\ ∀ W, Below w.heap.size w W -> Calls Tryz.prog 9 #[.string ((⟨#[109, 97, 105, 110, 32, 61, 32]⟩ : ByteArray) ++ s ++ (⟨#[10, 59]⟩ : ByteArray))] W (WRes W (.inl ⟨[], x⟩) GPg (.agg #[.slice none 0 0, .int .i64 0, .string ⟨#[]⟩, .string ⟨#[]⟩, .slice none 0 0, .slice none 0 0, .int .i64 0, .int .i64 0, .string ⟨#[]⟩, .int .i64 0, .slice none 0 0, .slice none 0 0, .slice none 0 0])) := by
   rcases hms with ⟨e, p, p', rfl, hs'⟩ | ⟨I, m1, m2, J, rfl, hs', e1, e2, hsim⟩
   ·exact .inl ⟨e, p, p', rfl, hs'.ne, fun W hW => HGG.out _ hs' W hW⟩
   ·have hw := main_whole s ((⟨#[109, 97, 105, 110, 32, 61, 32]⟩ : ByteArray) ++ s ++ (⟨#[10, 59]⟩ : ByteArray)) I m1 m2 J e1 e2 hsim
    cases hq : wholeE fProc bigP s (.inl I) with
    | inr z =>
     obtain ⟨e, p⟩ := z
     rw [hq] at hw
     obtain ⟨hne, p', hp'⟩ := hw
     exact .inl ⟨e, p, p', rfl, hne, fun W hW => by have h := HGG.out _ hs' W hW; rw [hp'] at h; exact h⟩
    | inl x =>
     rw [hq] at hw
     exact .inr ⟨x, rfl, fun W hW => by have h := HGG.out _ hs' W hW; rw [hw] at h; exact h⟩
  clear hms HGG hlen
  rcases key with ⟨er, p, p', hq, hne, hG⟩ | ⟨x, hq, hG⟩
  ·rw [hq] at HT
   have HG := hid hG
   have n1 : (er != 0) = true := by simpa using hne
   have n2 : (er == 0) = false := by simpa using hne
   clear hq hG hne
   go_enter Tryz.func7, Tryz.ntmps7
   go_upto_region 4 with (first | (go_at_call 8; refine (HAW.out _ HB.out).mono ?_; rintro en wa ⟨rfl, hb⟩; replace HB := hid (below_seq HB.out hb); clear hb) | (go_at_call 22; refine (HSP.out _).mono ?_; rintro en wb ⟨rfl, hb⟩; replace HB := hid (below_seq HB.out hb); clear hb) | (go_at_call 13; refine (HT.out _ HB.out).mono ?_; rintro en w1 ⟨rfl, hb⟩; replace HB := hid (below_seq HB.out hb); clear hb))
   obtain ⟨a1, ha1⟩ : ∃ a, w1.heap.size = a := ⟨_, rfl⟩
   have htw := two_new w1 #[.int .i64 0, .string ⟨#[]⟩, .string ⟨#[]⟩, .slice none 0 0, .slice none 0 0, .int .i64 0, .int .i64 0, .string ⟨#[]⟩, .int .i64 0, .slice none 0 0, .slice none 0 0, .slice none 0 0] #[.int .i64 er, .int .i64 p] 31 36
   obtain ⟨W1, hW1⟩ : ∃ W, (w1.alloc (.cells z12 31)).alloc (.cells #[.int .i64 er, .int .i64 p] 36) = W := ⟨_, rfl⟩
   rw [hW1, ha1] at htw
   rw [hW1]
   rw [ha1]
   have HC1 := hid (htw.2.2.mono (Nat.le_of_eq ha1))
   replace HB := hid (below_seq HB.out HC1.out)
   clear ha1 hW1
   have HX1 := hid htw
   clear htw
   go_upto_region 5 with (go_at_call 9; refine (HG.out _ HB.out).mono ?_; rintro en w2 ⟨rfl, hb⟩; have HD2 := hid hb; replace HB := hid (below_seq HB.out hb); clear hb)
   obtain ⟨a2, ha2⟩ : ∃ a, w2.heap.size = a := ⟨_, rfl⟩
   have htw := two_new w2 #[.slice none 0 0, .int .i64 0, .string ⟨#[]⟩, .string ⟨#[]⟩, .slice none 0 0, .slice none 0 0, .int .i64 0, .int .i64 0, .string ⟨#[]⟩, .int .i64 0, .slice none 0 0, .slice none 0 0, .slice none 0 0] #[.int .i64 er, .int .i64 p'] 33 36
   obtain ⟨W2, hW2⟩ : ∃ W, (w2.alloc (.cells z13 33)).alloc (.cells #[.int .i64 er, .int .i64 p'] 36) = W := ⟨_, rfl⟩
   rw [hW2, ha2] at htw
   rw [hW2]
   rw [ha2]
   have HC2 := hid (htw.2.2.mono (Nat.le_of_eq ha2))
   replace HB := hid (below_seq HB.out HC2.out)
   clear ha2 hW2
   have HX2 := hid htw
   clear htw
   have h12 : Below W1.heap.size W1 W2 := below_seq HD2.out HC2.out
   have q3 := (h12.block _ (Array.getElem?_eq_some_iff.1 HX1.out.2.1).1).trans HX1.out.2.1
   have q5 := HX2.out.1
   have q6 := HX2.out.2.1
   have f0 : W2.cell? ⟨a1 + 1, 0, none⟩ = some (.int .i64 er) := by simp only [World.cell?, q3]; rfl
   have g0 : W2.cell? ⟨a2 + 1, 0, none⟩ = some (.int .i64 er) := by simp only [World.cell?, q6]; rfl
   have d0 : W2.cell? ⟨a2, 0, none⟩ = some (.slice none 0 0) := by simp only [World.cell?, q5]; rfl
   clear q3 q5 q6 h12
   go_wp2_with fail
   go_ret
   exact ⟨by simp, HB.out⟩
  ·rw [hq] at HT
   have HG := hid hG
   clear hq hG
   go_enter Tryz.func7, Tryz.ntmps7
   go_upto_region 4 with (first | (go_at_call 8; refine (HAW.out _ HB.out).mono ?_; rintro en wa ⟨rfl, hb⟩; replace HB := hid (below_seq HB.out hb); clear hb) | (go_at_call 22; refine (HSP.out _).mono ?_; rintro en wb ⟨rfl, hb⟩; replace HB := hid (below_seq HB.out hb); clear hb) | (go_at_call 13; refine (HT.out _ HB.out).mono ?_; rintro en w1 ⟨⟨_, rfl, hg⟩, hb⟩; obtain ⟨la, ln, lc, aa, an, ac, ta, tn, tc, ua, un, uc, ka, kn, kc, rfl⟩ := PrVal.open hg; have HGP := hid hg; replace HB := hid (below_seq HB.out hb); clear hb hg))
   obtain ⟨a1, ha1⟩ : ∃ a, w1.heap.size = a := ⟨_, rfl⟩
   have htw := two_new w1 #[.int .i64 x.k, .string x.c, .string x.x, .slice la ln lc, .slice aa an ac, .int .i64 x.t.k, .int .i64 x.t.p, .string x.t.n, .int .i64 x.t.s, .slice ta tn tc, .slice ua un uc, .slice ka kn kc] #[.int .i64 0, .int .i64 0] 31 36
   obtain ⟨W1, hW1⟩ : ∃ W, (w1.alloc (.cells #[.int .i64 x.k, .string x.c, .string x.x, .slice la ln lc, .slice aa an ac, .int .i64 x.t.k, .int .i64 x.t.p, .string x.t.n, .int .i64 x.t.s, .slice ta tn tc, .slice ua un uc, .slice ka kn kc] 31)).alloc (.cells #[.int .i64 0, .int .i64 0] 36) = W := ⟨_, rfl⟩
   rw [hW1, ha1] at htw
   rw [hW1]
   rw [ha1]
   have HC1 := hid (htw.2.2.mono (Nat.le_of_eq ha1))
   replace HB := hid (below_seq HB.out HC1.out)
   clear ha1 hW1
   have HX1 := hid htw
   clear htw
   go_upto_region 5 with (go_at_call 9; refine (HG.out _ HB.out).mono ?_; rintro en w2 ⟨⟨_, rfl, hg⟩, hb⟩; obtain ⟨da, dc, la2, ln2, lc2, aa2, an2, ac2, ta2, tn2, tc2, ua2, un2, uc2, ka2, kn2, kc2, rfl, hgm⟩ := xpg hg; have HGM := hid hgm; have HD2 := hid hb; replace HB := hid (below_seq HB.out hb); clear hb hg hgm)
   obtain ⟨a2, ha2⟩ : ∃ a, w2.heap.size = a := ⟨_, rfl⟩
   have htw := two_new w2 #[.slice da 0 dc, .int .i64 x.k, .string x.c, .string x.x, .slice la2 ln2 lc2, .slice aa2 an2 ac2, .int .i64 x.t.k, .int .i64 x.t.p, .string x.t.n, .int .i64 x.t.s, .slice ta2 tn2 tc2, .slice ua2 un2 uc2, .slice ka2 kn2 kc2] #[.int .i64 0, .int .i64 0] 33 36
   obtain ⟨W2, hW2⟩ : ∃ W, (w2.alloc (.cells #[.slice da 0 dc, .int .i64 x.k, .string x.c, .string x.x, .slice la2 ln2 lc2, .slice aa2 an2 ac2, .int .i64 x.t.k, .int .i64 x.t.p, .string x.t.n, .int .i64 x.t.s, .slice ta2 tn2 tc2, .slice ua2 un2 uc2, .slice ka2 kn2 kc2] 33)).alloc (.cells #[.int .i64 0, .int .i64 0] 36) = W := ⟨_, rfl⟩
   rw [hW2, ha2] at htw
   rw [hW2]
   rw [ha2]
   have HC2 := hid (htw.2.2.mono (Nat.le_of_eq ha2))
   replace HB := hid (below_seq HB.out HC2.out)
   clear ha2 hW2
   have HX2 := hid htw
   clear htw
   have h12 : Below W1.heap.size W1 W2 := below_seq HD2.out HC2.out
   have q1 := (h12.block _ (Array.getElem?_eq_some_iff.1 HX1.out.1).1).trans HX1.out.1
   have q3 := (h12.block _ (Array.getElem?_eq_some_iff.1 HX1.out.2.1).1).trans HX1.out.2.1
   have q5 := HX2.out.1
   have q6 := HX2.out.2.1
   have f0 : W2.cell? ⟨a1 + 1, 0, none⟩ = some (.int .i64 0) := by simp only [World.cell?, q3]; rfl
   have g0 : W2.cell? ⟨a2 + 1, 0, none⟩ = some (.int .i64 0) := by simp only [World.cell?, q6]; rfl
   have g1 : W2.cell? ⟨a2 + 1, 1, none⟩ = some (.int .i64 0) := by simp only [World.cell?, q6]; rfl
   have d0 : W2.cell? ⟨a2, 0, none⟩ = some (.slice da 0 dc) := by simp only [World.cell?, q5]; rfl
   obtain ⟨⟨u0, u1, u2, u3, u4, u5, u6, u7, u8, u9, u10, u11⟩, -⟩ := c12p q1
   have m1 : W2.cell? ⟨a2, 1, none⟩ = some (.int .i64 x.k) := by simp only [World.cell?, q5]; rfl
   have m2 : W2.cell? ⟨a2, 2, none⟩ = some (.string x.c) := by simp only [World.cell?, q5]; rfl
   have m3 : W2.cell? ⟨a2, 3, none⟩ = some (.string x.x) := by simp only [World.cell?, q5]; rfl
   have m4 : W2.cell? ⟨a2, 4, none⟩ = some (.slice la2 ln2 lc2) := by simp only [World.cell?, q5]; rfl
   have m5 : W2.cell? ⟨a2, 5, none⟩ = some (.slice aa2 an2 ac2) := by simp only [World.cell?, q5]; rfl
   have m6 : W2.cell? ⟨a2, 6, none⟩ = some (.int .i64 x.t.k) := by simp only [World.cell?, q5]; rfl
   have m7 : W2.cell? ⟨a2, 7, none⟩ = some (.int .i64 x.t.p) := by simp only [World.cell?, q5]; rfl
   have m8 : W2.cell? ⟨a2, 8, none⟩ = some (.string x.t.n) := by simp only [World.cell?, q5]; rfl
   have m9 : W2.cell? ⟨a2, 9, none⟩ = some (.int .i64 x.t.s) := by simp only [World.cell?, q5]; rfl
   have m10 : W2.cell? ⟨a2, 10, none⟩ = some (.slice ta2 tn2 tc2) := by simp only [World.cell?, q5]; rfl
   have m11 : W2.cell? ⟨a2, 11, none⟩ = some (.slice ua2 un2 uc2) := by simp only [World.cell?, q5]; rfl
   have m12 : W2.cell? ⟨a2, 12, none⟩ = some (.slice ka2 kn2 kc2) := by simp only [World.cell?, q5]; rfl
   have l1 := (HGP.out.to_ HC1.out).to_ h12
   have l2 := HGM.out.to_ HC2.out
   have HS := hid (rpsame_any (fun k => k < W2.heap.size) x _ _ _ W2 (fun _ h => h) (PrVal.mono (fun _ h => h.2) l1) (PrVal.mono (fun _ h => h.2) l2))
   rw [eqP_self] at HS
   have HD0 := hid (fun W (hW : Below W2.heap.size W2 W) => (hW.cell (p := ⟨a2, 0, none⟩) (gl q5)).trans d0)
   clear q1 q3 q5 q6 h12 l1 l2
   go_wp2_with (go_at_call 15; refine HS.out.mono ?_; rintro en w3 ⟨rfl, hb⟩; have d0 := HD0.out _ hb; replace HB := hid (below_seq HB.out hb); clear hb)
   go_ret
   exact ⟨rfl, HB.out⟩
end Go.Proofs.YtejaboajgecpaaaGreatDoor
namespace Go.Proofs.YtejaboajgecpaaaGreatDoor
open Go.RowKit Go.ChangeShapes Tok
abbrev seatLaid : List (String × DataW Unit) := Rows.parseTypesRow.laid
theorem one_reads {P : Program} {w : World} : ∀ {l : List (String × DataW Unit)} {ps : List MemPlace}, DataW.LaidVars P w l ps -> ∀ n d, (n, d) ∈ l ->
 ∃ g t cs fuel p, P.globalNamed n = some g /\ (P.globals[g]?).map (·.type) = some t /\ w.var? P n = some cs /\ DataW.trod (fun _ => ()) P w 0 (fun _ => true) false fuel t cs.toList = some (d, p)
 | [], _, _, _, _, hm => by cases hm
 | (n', d') :: r, ps, h, n, d, hm => by
  obtain ⟨g, t, cs, fuel, p, q, h1, h2, h3, h4, h5, _⟩ := h
  rcases List.mem_cons.1 hm with e | e
  ·cases e
   exact ⟨g, t, cs, fuel, p, h1, h2, h3, h4⟩
  ·exact one_reads h5 n d e
theorem iface_reads {H : Type} {enc : TypeId × Value -> H} {P : Program} {w : World} {base : Nat} {sp : Nat -> Bool} {held : Bool} {fuel : Nat} {t : TypeId} {ms : Array (String × TypeId)} {cs : List Value} {nm : String} {d : DataW H} {p : List MemPlace}
 (ht : P.underlying t = some (.interface ms)) (h : DataW.trod enc P w base sp held fuel t cs = some (.iface nm d, p)) : ∃ u v, cs = [.iface u v] := by
 cases fuel with
 | zero => simp [DataW.trod] at h
 | succ fuel =>
  unfold DataW.trod at h
  rw [ht] at h
  split at h <;> first | (rename_i heq; cases heq; done) | skip
  all_goals (first | (cases h; done) | exact ⟨_, _, rfl⟩ | skip)
theorem strs_read {H : Type} {enc : TypeId × Value -> H} {P : Program} {w : World} {base : Nat} {sp : Nat -> Bool} {held : Bool} {fuel : Nat} {t e : TypeId} {n : Nat} {cs : List Value} {ls : List (List UInt8)} {p : List MemPlace}
 (ht : P.underlying t = some (.array n e)) (he : P.underlying e = some .string) (hce : P.cellsOf e = 1) (hct : P.cellsOf t = n)
 (h : DataW.trod enc P w base sp held fuel t cs = some (.agg (ls.map fun l => .lit (.string l)), p)) : cs = ls.map fun l => Value.string ⟨l.toArray⟩ := by
 obtain ⟨xs, m, _, hx, hlen, hxl, hat⟩ := DataW.trod_array ht h
 have hxs : xs.map (·.1) = ls.map fun l => (DataW.lit (.string l) : DataW H) := by
  have := congrArg Prod.fst hx
  simpa using this.symm
 have hll : ls.length = n := by
  have := congrArg List.length hxs
  simp at this; omega
 apply List.ext_getElem?
 intro i
 by_cases hi : i < n
 ·have hf := hat i hi
  rw [hce, Nat.mul_one] at hf
  obtain ⟨x, hxi⟩ : ∃ x, xs[i]? = some x := ⟨_, List.getElem?_eq_getElem (by omega)⟩
  rw [hxi] at hf
  obtain ⟨s, hc, rfl, _⟩ := DataW.trod_string he hf
  have h1 : cs[i]? = some (.string s) := by
   have := congrArg (·[0]?) hc
   simpa [List.getElem?_take, List.getElem?_drop] using this
  have h2 : (xs.map (·.1))[i]? = some (DataW.lit (.string s.data.toList) : DataW H) := by simp [hxi]
  rw [hxs] at h2
  simp only [List.getElem?_map, Option.map_eq_some_iff, DataW.lit.injEq, Lit.string.injEq] at h2
  obtain ⟨l, hl, hls⟩ := h2
  rw [h1, List.getElem?_map, hl, hls]
  rfl
 ·rw [List.getElem?_eq_none (by omega), List.getElem?_eq_none (by simp; omega)]
theorem rangeType : (Tryz.prog.globals[3]?).map (·.type) = some 177 := by kernel_rfl
theorem wordsType : (Tryz.prog.globals[0]?).map (·.type) = some 180 := by kernel_rfl
theorem cellsStr : Tryz.prog.cellsOf 9 = 1 := by kernel_rfl
theorem cellsWords : Tryz.prog.cellsOf 180 = 10 := by kernel_rfl
theorem errIface : ∃ ms, Tryz.prog.underlying 177 = some (.interface ms) := ⟨_, Tryz.underlying177⟩
theorem env_of_laid {W : World} (h : laidMetH Tryz.prog seatLaid W) : Tok.Env W.heap.size W := by
 rw [MakeChecks.laidMetH_plain _ _ _ (by kernel_rfl)] at h
 obtain ⟨ps, hv, _⟩ := h
 obtain ⟨g, t, cs, fuel, p, hg, ht, hvar, hd⟩ := one_reads hv "strconv.ErrRange" Rows.laid_strconv_ErrRange (by simp [seatLaid, Rows.parseTypesRow])
 obtain rfl := Option.some.inj (gRange.symm.trans hg)
 obtain rfl := Option.some.inj (rangeType.symm.trans ht)
 obtain ⟨ms, hms⟩ := errIface
 obtain ⟨u, v, hcs⟩ := iface_reads hms hd
 obtain ⟨g', t', cs', fuel', p', hg', ht', hvar', hd'⟩ := one_reads hv "duologue/lex.keywords" Rows.laid_duologue_lex_keywords (by simp [seatLaid, Rows.parseTypesRow])
 obtain rfl := Option.some.inj (gWords.symm.trans hg')
 obtain rfl := Option.some.inj (wordsType.symm.trans ht')
 have hws := strs_read (ls := [[100, 101, 102], [109, 97, 105, 110], [115, 116, 111, 112], [110, 101, 119], [105, 110, 116], [98, 111, 111, 108], [101, 110, 100], [114, 101, 99], [116, 114, 117, 101], [102, 97, 108, 115, 101]]) kwU Tryz.underlying9 cellsStr cellsWords hd'
 have lt : ∀ {n : String} {g : Nat} {cs : Array Value}, Tryz.prog.globalNamed n = some g -> W.var? Tryz.prog n = some cs -> g < W.heap.size := by
  intro n g cs hg hv
  unfold World.var? at hv
  simp only [hg, Option.bind_some] at hv
  rcases Nat.lt_or_ge g W.heap.size with h' | h'
  ·exact h'
  ·rw [Array.getElem?_eq_none h'] at hv; cases hv
 refine ⟨⟨u, v, ?_⟩, ?_, ⟨lt gRange hvar, lt gWords hvar'⟩, Nat.le_refl _⟩
 ·rw [hvar]; obtain ⟨l⟩ := cs; simp at hcs; rw [hcs]
 ·rw [hvar']; obtain ⟨l⟩ := cs'; simp only at hws; rw [hws]; rfl
theorem door_met (os : Os) (args : Array Value) : laidMetH Tryz.prog seatLaid ((World.doorLaid Tryz.prog 4000 os).forCall (fun _ _ => 0) ⟨#[], args, []⟩).memory :=
 laidMetH_of_parts3 (fuel := 10) (laidMet_of_run' 10 (by kernel_rfl) (by kernel_rfl)) (by kernel_rfl) (by kernel_rfl)
end Go.Proofs.YtejaboajgecpaaaGreatDoor
