/- Parsing: lemmas. -/
import Derived.Test.YtejaboajgecpaaaGreatDoorQm36
set_option maxHeartbeats 16000000
set_option maxRecDepth 100000
namespace Go.Proofs.YtejaboajgecpaaaGreatDoor
open Go.RowKit Go.Deep Go.Shelf
abbrev xs1 : ByteArray := ⟨#[97, 33, 60, 49, 62, 46, 98, 46, 103, 111, 46, 115, 116, 111, 112, 32, 124, 32, 88, 60, 62]⟩
theorem xsc1 : Scans xs1 (.inl (its xs1)) := ⟨by decide, rfl, by decide +kernel⟩
abbrev xs2 : ByteArray := ⟨#[97, 33, 60, 49, 62]⟩
theorem xsc2 : Scans xs2 (.inl (its xs2)) := ⟨by decide, rfl, by decide +kernel⟩
abbrev xs3 : ByteArray := ⟨#[100, 101, 102, 32, 88, 40, 97, 58, 32, 33, 51, 32, 105, 110, 116, 46, 114, 101, 99, 32, 116, 46, 63, 116, 43, 50, 46, 116, 41, 32, 61, 32, 115, 116, 111, 112, 59, 32, 109, 97, 105, 110, 32, 61, 32, 88, 60, 62, 59]⟩
theorem xsc3 : Scans xs3 (.inl (its xs3)) := ⟨by decide, rfl, by decide +kernel⟩
abbrev xs4 : ByteArray := ⟨#[43, 55, 123, 108, 58, 32, 101, 110, 100, 125]⟩
theorem xsc4 : Scans xs4 (.inl (its xs4)) := ⟨by decide, rfl, by decide +kernel⟩
abbrev xp1 : Pr := (Pr.mk 7 ⟨#[]⟩ ⟨#[]⟩ [] [] (.mk 0 0 ⟨#[]⟩ 0 [] []) [Pr.mk 2 ⟨#[97]⟩ ⟨#[]⟩ [] [⟨2, ⟨#[]⟩, 1⟩] (.mk 0 0 ⟨#[]⟩ 0 [] []) [Pr.mk 4 ⟨#[98]⟩ ⟨#[]⟩ [⟨#[103, 111]⟩] [] (.mk 0 0 ⟨#[]⟩ 0 [] []) [(Pr.mk 1 ⟨#[]⟩ ⟨#[]⟩ [] [] (.mk 0 0 ⟨#[]⟩ 0 [] []) [])]], (Pr.mk 8 ⟨#[88]⟩ ⟨#[]⟩ [] [] (.mk 0 0 ⟨#[]⟩ 0 [] []) [])])
abbrev xp3 : Pg := (Pg.mk [⟨⟨#[88]⟩, [⟨⟨#[97]⟩, (Ty.mk 4 3 ⟨#[]⟩ 0 [] [.mk 1 0 ⟨#[]⟩ 0 [] [], .mk 8 0 ⟨#[116]⟩ 0 [] [.mk 5 0 ⟨#[]⟩ 0 [] [.mk 9 0 ⟨#[116]⟩ 2 [] [], .mk 9 0 ⟨#[116]⟩ 0 [] []]]])⟩], (Pr.mk 1 ⟨#[]⟩ ⟨#[]⟩ [] [] (.mk 0 0 ⟨#[]⟩ 0 [] []) [])⟩] (Pr.mk 8 ⟨#[88]⟩ ⟨#[]⟩ [] [] (.mk 0 0 ⟨#[]⟩ 0 [] []) []))
abbrev xp4 : Ty := (Ty.mk 6 7 ⟨#[]⟩ 0 [⟨#[108]⟩] [.mk 3 0 ⟨#[]⟩ 0 [] []])
theorem xw1 : wholeE fProc bigP xs1 (.inl (its xs1)) = .inl xp1 := by kernel_rfl
theorem xw2 : wholeE fProc bigP xs2 (.inl (its xs2)) = .inr (1, 5) := by kernel_rfl
theorem xw3 : wholeE fProg Pg.tooBig xs3 (.inl (its xs3)) = .inl xp3 := by kernel_rfl
theorem xw4 : wholeE fType Ty.tooBig xs4 (.inl (its xs4)) = .inl xp4 := by kernel_rfl
end Go.Proofs.YtejaboajgecpaaaGreatDoor
namespace Go.Proofs.YtejaboajgecpaaaGreatDoor
open Go.Lib (hid)
open Go.RowKit Go.Deep Go.Shelf
theorem xf1 {b : Nat} {w : World} {v : Value} (h : GPr b w xp1 v) : ∃ la ln lc aa an ac ta tn tc ua un uc kb ko kc, v = .agg #[.int .i64 7, .string ⟨#[]⟩, .string ⟨#[]⟩, .slice la ln lc, .slice aa an ac, .int .i64 0, .int .i64 0, .string ⟨#[]⟩, .int .i64 0, .slice ta tn tc, .slice ua un uc, .slice (some ⟨kb, ko, none⟩) 2 kc] /\ kb < w.heap.size /\ w.cell? ⟨kb, ko, none⟩ = some (.int .i64 2) /\ w.cell? ⟨kb, ko + 12 + 1, none⟩ = some (.string ⟨#[88]⟩) := by
 obtain ⟨la, ln, lc, aa, an, ac, ta, tn, tc, ua, un, uc, ka, kn, kc, e⟩ := PrVal.open h
 obtain ⟨lv, av, tl, tk, kv, e2, _, _, _, _, hk, _⟩ := h
 rw [e] at e2
 simp only [prAgg, Value.agg.injEq, Array.mk.injEq, List.cons.injEq, and_true, true_and] at e2
 obtain ⟨-, -, -, -, ekv⟩ := e2
 subst ekv
 rcases hk with ⟨_, h0⟩ | ⟨kb, ko, c, ek, hB, hps⟩
 ·exact absurd h0 (by simp [Pr.ps])
 ·simp only [Value.slice.injEq] at ek
  obtain ⟨rfl, rfl, rfl⟩ := ek
  dsimp only [xp1, Pr.ps] at hps
  simp only [PrsAt] at hps
  obtain ⟨p1, p2, _⟩ := hps
  exact ⟨la, ln, lc, aa, an, ac, ta, tn, tc, ua, un, uc, kb, ko, kc, e, hB.2, (PrAt.eq.1 p1).2.2.1.1, (PrAt.eq.1 p2).2.2.1.2.1⟩
theorem xf3 {b : Nat} {w : World} {v : Value} (h : GPg b w xp3 v) : ∃ db dd dc la ln lc aa an ac ta tn tc ua un uc ka kn kc mb mo mc, v = .agg #[.slice (some ⟨db, dd, none⟩) 1 dc, .int .i64 8, .string ⟨#[88]⟩, .string ⟨#[]⟩, .slice la ln lc, .slice aa an ac, .int .i64 0, .int .i64 0, .string ⟨#[]⟩, .int .i64 0, .slice ta tn tc, .slice ua un uc, .slice ka kn kc] /\ db < w.heap.size /\ w.cell? ⟨db, dd + 1, none⟩ = some (.slice (some ⟨mb, mo, none⟩) 1 mc) /\ mb < w.heap.size /\ w.cell? ⟨mb, mo + 1 + 1, none⟩ = some (.int .i64 3) := by
 obtain ⟨da, dn, dc, la, ln, lc, aa, an, ac, ta, tn, tc, ua, un, uc, ka, kn, kc, e⟩ := PgVal.open13 h
 obtain ⟨dv, lv, av, tl, tk, kv, e2, hd, _⟩ := h
 rw [e] at e2
 simp only [Value.agg.injEq, Array.mk.injEq, List.cons.injEq, and_true, true_and] at e2
 obtain ⟨ed, -⟩ := e2
 subst ed
 rcases hd with ⟨⟨_, h0⟩ | ⟨db, dd, c, ek, hB, hps⟩, _⟩
 ·cases h0
 ·simp only [Value.slice.injEq] at ek
  obtain ⟨rfl, rfl, rfl⟩ := ek
  obtain ⟨_, _, ⟨mv, hm, hms⟩, _⟩ := hps 0 _ rfl
  rcases hms with ⟨⟨_, h0⟩ | ⟨mb, mo, mc, rfl, hmB, hpm⟩, _⟩
  ·cases h0
  ·obtain ⟨_, _, ht⟩ := hpm 0 _ rfl
   refine ⟨db, dd, dc, la, ln, lc, aa, an, ac, ta, tn, tc, ua, un, uc, ka, kn, kc, mb, mo, mc, e, hB.2, ?_, hmB.2, ?_⟩
   ·have := hm; rw [show dd + 0 * 14 + 1 = dd + 1 by omega] at this; exact this
   ·have := (TyAt.eq.1 ht).2.2.1.2.1; rw [show mo + 0 * 7 + 1 + 1 = mo + 1 + 1 by omega] at this; exact this
theorem xf4 {b : Nat} {w : World} {v : Value} (h : GTy b w xp4 v) : ∃ la ln lc ka kn kc, v = .agg #[.int .i64 6, .int .i64 7, .string ⟨#[]⟩, .int .i64 0, .slice la ln lc, .slice ka kn kc] := TyVal.open6 h
theorem two_new (w : World) (c1 c2 : Array Value) (t1 t2 : TypeId) : ((w.alloc (.cells c1 t1)).alloc (.cells c2 t2)).heap[w.heap.size]? = some (.cells c1 t1 (0, 0)) /\ ((w.alloc (.cells c1 t1)).alloc (.cells c2 t2)).heap[w.heap.size + 1]? = some (.cells c2 t2 (0, 0)) /\ Below w.heap.size w ((w.alloc (.cells c1 t1)).alloc (.cells c2 t2)) := by
 refine ⟨(Below.heap_alloc _ _ _ (by rw [World.size_alloc]; omega)).trans (World.alloc_heap_new _ _), ?_, ((Below.refl _ _).alloc (Nat.le_refl _) _).alloc (by simp) _⟩
 have h := World.alloc_heap_new (w.alloc (.cells c1 t1)) (.cells c2 t2)
 rw [World.size_alloc] at h
 exact h
theorem pawake_any (B : Nat) (w : World) (he : Tok.Env B w) : Calls Tryz.prog 8 #[] w fun e w' => e = .returned (.bool true) /\ Below w.heap.size w w' := by
 have HE := hid (fun W (hW : Below w.heap.size w W) => tok_env he hW)
 have HBS : Hid (Below w.heap.size w w) := hid (Below.refl _ _)
 clear he
 go_enter Tryz.func8, Tryz.ntmps8
 go_upto_region 2 with (go_at_call 13; refine (pProcess_any _ _ xsc1 B _ (HE.out _ HBS.out)).mono ?_; rw [xw1]; rintro en w1 ⟨⟨_, rfl, hg⟩, hb⟩; obtain ⟨la, ln, lc, aa, an, ac, ta, tn, tc, ua, un, uc, kb, ko, kc, rfl, hkb, hk1, hk2⟩ := xf1 hg; have HK1 := hid (And.intro hkb (And.intro hk1 hk2)); clear hkb hk1 hk2 hg; have HBn := hid (below_seq HBS.out hb); clear hb HBS; have HBS := HBn; clear HBn)
 obtain ⟨a1, ha1⟩ : ∃ a, w1.heap.size = a := ⟨_, rfl⟩
 have htw := two_new w1 #[.int .i64 7, .string ⟨#[]⟩, .string ⟨#[]⟩, .slice la ln lc, .slice aa an ac, .int .i64 0, .int .i64 0, .string ⟨#[]⟩, .int .i64 0, .slice ta tn tc, .slice ua un uc, .slice (some ⟨kb, ko, none⟩) 2 kc] #[.int .i64 0, .int .i64 0] 31 36
 obtain ⟨W1, hW1⟩ : ∃ W, (w1.alloc (.cells #[.int .i64 7, .string ⟨#[]⟩, .string ⟨#[]⟩, .slice la ln lc, .slice aa an ac, .int .i64 0, .int .i64 0, .string ⟨#[]⟩, .int .i64 0, .slice ta tn tc, .slice ua un uc, .slice (some ⟨kb, ko, none⟩) 2 kc] 31)).alloc (.cells #[.int .i64 0, .int .i64 0] 36) = W := ⟨_, rfl⟩
 rw [hW1, ha1] at htw
 rw [hW1]
 rw [ha1]
 have HA1 := hid ha1
 have HBn := hid (below_seq HBS.out (htw.2.2.mono (Nat.le_of_eq ha1)))
 clear HBS ha1 hW1
 have HBS := HBn
 clear HBn
 have HX1 := hid htw
 clear htw
 go_upto_region 3 with (go_at_call 13; refine (pProcess_any _ _ xsc2 B _ (HE.out _ HBS.out)).mono ?_; rw [xw2]; rintro en w2 ⟨rfl, hb⟩; have HC2 := hid hb; have HBn := hid (below_seq HBS.out hb); clear hb HBS; have HBS := HBn; clear HBn)
 obtain ⟨a2, ha2⟩ : ∃ a, w2.heap.size = a := ⟨_, rfl⟩
 have htw := two_new w2 #[.int .i64 0, .string ⟨#[]⟩, .string ⟨#[]⟩, .slice none 0 0, .slice none 0 0, .int .i64 0, .int .i64 0, .string ⟨#[]⟩, .int .i64 0, .slice none 0 0, .slice none 0 0, .slice none 0 0] #[.int .i64 1, .int .i64 5] 31 36
 obtain ⟨W2, hW2⟩ : ∃ W, (w2.alloc (.cells z12 31)).alloc (.cells #[.int .i64 1, .int .i64 5] 36) = W := ⟨_, rfl⟩
 rw [hW2, ha2] at htw
 rw [hW2]
 rw [ha2]
 have HA2 := hid ha2
 have HBn := hid (below_seq HBS.out (htw.2.2.mono (Nat.le_of_eq ha2)))
 clear HBS ha2 hW2
 have HBS := HBn
 clear HBn
 have HX2 := hid htw
 clear htw
 go_upto_region 4 with (go_at_call 9; refine (pProgram_any _ _ xsc3 B _ (HE.out _ HBS.out)).mono ?_; rw [xw3]; rintro en w3 ⟨⟨_, rfl, hg⟩, hb⟩; have HC3 := hid hb; obtain ⟨db, dd, dc, la3, ln3, lc3, aa3, an3, ac3, ta3, tn3, tc3, ua3, un3, uc3, ka3, kn3, kc3, mb, mo, mc, rfl, hdb, hd1, hmb, hm1⟩ := xf3 hg; have HK3 := hid (And.intro hdb (And.intro hd1 (And.intro hmb hm1))); clear hdb hd1 hmb hm1 hg; have HBn := hid (below_seq HBS.out hb); clear hb HBS; have HBS := HBn; clear HBn)
 obtain ⟨a3, ha3⟩ : ∃ a, w3.heap.size = a := ⟨_, rfl⟩
 have htw := two_new w3 #[.slice (some ⟨db, dd, none⟩) 1 dc, .int .i64 8, .string ⟨#[88]⟩, .string ⟨#[]⟩, .slice la3 ln3 lc3, .slice aa3 an3 ac3, .int .i64 0, .int .i64 0, .string ⟨#[]⟩, .int .i64 0, .slice ta3 tn3 tc3, .slice ua3 un3 uc3, .slice ka3 kn3 kc3] #[.int .i64 0, .int .i64 0] 33 36
 obtain ⟨W3, hW3⟩ : ∃ W, (w3.alloc (.cells #[.slice (some ⟨db, dd, none⟩) 1 dc, .int .i64 8, .string ⟨#[88]⟩, .string ⟨#[]⟩, .slice la3 ln3 lc3, .slice aa3 an3 ac3, .int .i64 0, .int .i64 0, .string ⟨#[]⟩, .int .i64 0, .slice ta3 tn3 tc3, .slice ua3 un3 uc3, .slice ka3 kn3 kc3] 33)).alloc (.cells #[.int .i64 0, .int .i64 0] 36) = W := ⟨_, rfl⟩
 rw [hW3, ha3] at htw
 rw [hW3]
 rw [ha3]
 have HA3 := hid ha3
 have HBn := hid (below_seq HBS.out (htw.2.2.mono (Nat.le_of_eq ha3)))
 clear HBS ha3 hW3
 have HBS := HBn
 clear HBn
 have HX3 := hid htw
 clear htw
 go_upto_region 5 with (go_at_call 16; refine (pType_any _ _ xsc4 B _ (HE.out _ HBS.out)).mono ?_; rw [xw4]; rintro en w4 ⟨⟨_, rfl, hg⟩, hb⟩; have HC4 := hid hb; obtain ⟨la4, ln4, lc4, ka4, kn4, kc4, rfl⟩ := xf4 hg; clear hg; have HBn := hid (below_seq HBS.out hb); clear hb HBS; have HBS := HBn; clear HBn)
 obtain ⟨a4, ha4⟩ : ∃ a, w4.heap.size = a := ⟨_, rfl⟩
 have htw := two_new w4 #[.int .i64 6, .int .i64 7, .string ⟨#[]⟩, .int .i64 0, .slice la4 ln4 lc4, .slice ka4 kn4 kc4] #[.int .i64 0, .int .i64 0] 28 36
 obtain ⟨W4, hW4⟩ : ∃ W, (w4.alloc (.cells #[.int .i64 6, .int .i64 7, .string ⟨#[]⟩, .int .i64 0, .slice la4 ln4 lc4, .slice ka4 kn4 kc4] 28)).alloc (.cells #[.int .i64 0, .int .i64 0] 36) = W := ⟨_, rfl⟩
 rw [hW4, ha4] at htw
 rw [hW4]
 rw [ha4]
 have HA4 := hid ha4
 have HBn := hid (below_seq HBS.out (htw.2.2.mono (Nat.le_of_eq ha4)))
 clear HBS ha4 hW4
 have HBS := HBn
 clear HBn
 have HX4 := hid htw
 clear htw
 have h34 : Below W3.heap.size W3 W4 := HC4.out.trans (HX4.out.2.2.mono (Nat.le_trans HC4.out.size (Nat.le_of_eq HA4.out)))
 have h3e : Below w3.heap.size w3 W4 := below_seq (HX3.out.2.2.mono (Nat.le_of_eq HA3.out)) h34
 have h2e : Below W2.heap.size W2 W4 := below_seq HC3.out h3e
 have h1e : Below W1.heap.size W1 W4 := below_seq (below_seq HC2.out (HX2.out.2.2.mono (Nat.le_of_eq HA2.out))) h2e
 have h0e : Below w1.heap.size w1 W4 := below_seq (HX1.out.2.2.mono (Nat.le_of_eq HA1.out)) h1e
 have q1 := (h1e.block _ (Array.getElem?_eq_some_iff.1 HX1.out.1).1).trans HX1.out.1
 have q2 := (h1e.block _ (Array.getElem?_eq_some_iff.1 HX1.out.2.1).1).trans HX1.out.2.1
 have q4 := (h2e.block _ (Array.getElem?_eq_some_iff.1 HX2.out.2.1).1).trans HX2.out.2.1
 have q5 := (h34.block _ (Array.getElem?_eq_some_iff.1 HX3.out.1).1).trans HX3.out.1
 have q6 := (h34.block _ (Array.getElem?_eq_some_iff.1 HX3.out.2.1).1).trans HX3.out.2.1
 have q7 := HX4.out.1
 have q8 := HX4.out.2.1
 have c10 : W4.cell? ⟨a1, 0, none⟩ = some (.int .i64 7) := by simp only [World.cell?, q1]; rfl
 have c11 : W4.cell? ⟨a1, 11, none⟩ = some (.slice (some ⟨kb, ko, none⟩) 2 kc) := by simp only [World.cell?, q1]; rfl
 have c20 : W4.cell? ⟨a1 + 1, 0, none⟩ = some (.int .i64 0) := by simp only [World.cell?, q2]; rfl
 have c21 : W4.cell? ⟨a1 + 1, 1, none⟩ = some (.int .i64 0) := by simp only [World.cell?, q2]; rfl
 have c40 : W4.cell? ⟨a2 + 1, 0, none⟩ = some (.int .i64 1) := by simp only [World.cell?, q4]; rfl
 have c41 : W4.cell? ⟨a2 + 1, 1, none⟩ = some (.int .i64 5) := by simp only [World.cell?, q4]; rfl
 have c50 : W4.cell? ⟨a3, 0, none⟩ = some (.slice (some ⟨db, dd, none⟩) 1 dc) := by simp only [World.cell?, q5]; rfl
 have c51 : W4.cell? ⟨a3, 1, none⟩ = some (.int .i64 8) := by simp only [World.cell?, q5]; rfl
 have c60 : W4.cell? ⟨a3 + 1, 0, none⟩ = some (.int .i64 0) := by simp only [World.cell?, q6]; rfl
 have c61 : W4.cell? ⟨a3 + 1, 1, none⟩ = some (.int .i64 0) := by simp only [World.cell?, q6]; rfl
 have c71 : W4.cell? ⟨a4, 1, none⟩ = some (.int .i64 7) := by simp only [World.cell?, q7]; rfl
 have c80 : W4.cell? ⟨a4 + 1, 0, none⟩ = some (.int .i64 0) := by simp only [World.cell?, q8]; rfl
 have c81 : W4.cell? ⟨a4 + 1, 1, none⟩ = some (.int .i64 0) := by simp only [World.cell?, q8]; rfl
 have k1 := (h0e.cell (p := ⟨kb, ko, none⟩) HK1.out.1).trans HK1.out.2.1
 have k2 := (h0e.cell (p := ⟨kb, ko + 12 + 1, none⟩) HK1.out.1).trans HK1.out.2.2
 have d1 := (h3e.cell (p := ⟨db, dd + 1, none⟩) HK3.out.1).trans HK3.out.2.1
 have m1 := (h3e.cell (p := ⟨mb, mo + 1 + 1, none⟩) HK3.out.2.2.1).trans HK3.out.2.2.2
 clear q1 q2 q4 q5 q6 q7 q8 h34 h3e h2e h1e h0e HX1 HX2 HX3 HX4 HK1 HK3 HC2 HC3 HC4 HA1 HA2 HA3 HA4 HE
 go_upto_region 7 with fail
 go_wp2_with fail
 go_ret
 exact ⟨rfl, HBS.out⟩
end Go.Proofs.YtejaboajgecpaaaGreatDoor
namespace Go.Proofs.YtejaboajgecpaaaGreatDoor
def Sim : List Tk -> List Tk -> Prop
 | [], [e] => e.t = sSemi /\ e.k = 3
 | x :: r, y :: q => (x.t.toList == sSemi.toList) = false /\ x.k = y.k /\ x.t = y.t /\ x.v = y.v /\ Sim r q
 | _, _ => False
theorem sim_nil {ts : List Tk} (h : Sim [] ts) : ∃ e, ts = [e] /\ e.t = sSemi /\ e.k = 3 := by
 match ts, h with
 | [e], h => exact ⟨e, rfl, h⟩
theorem sim_cons {x : Tk} {r ts : List Tk} (h : Sim (x :: r) ts) : ∃ y q, ts = y :: q /\ x.k = y.k /\ x.t = y.t /\ x.v = y.v /\ Sim r q := by
 match ts, h with
 | y :: q, h => exact ⟨y, q, rfl, h.2⟩
theorem sim_semi {x : Tk} {r ts : List Tk} (h : Sim (x :: r) ts) : (x.t.toList == sSemi.toList) = false := by
 match ts, h with
 | y :: q, h => exact h.1
theorem sim_hd {s : ByteArray} (hs : (sSemi.toList == s.toList) = false) : ∀ {ts ts' : List Tk}, Sim ts ts' -> hd s ts' = hd s ts
 | [], ts', h => by
  obtain ⟨e, rfl, he, _⟩ := sim_nil h
  show (e.t.toList == s.toList) = false
  rw [he]; exact hs
 | x :: r, ts', h => by
  obtain ⟨y, q, rfl, _, e, _⟩ := sim_cons h
  show (y.t.toList == s.toList) = (x.t.toList == s.toList)
  rw [e]
theorem sim_tail {s : ByteArray} : ∀ {ts ts' : List Tk}, Sim ts ts' -> hd s ts = true -> Sim ts.tail ts'.tail /\ ts.tail.length + 1 = ts.length
 | [], _, _, h => by cases h
 | x :: r, ts', h, _ => by
  obtain ⟨y, q, rfl, _, _, _, h⟩ := sim_cons h
  exact ⟨h, rfl⟩
def Sm {α : Type} (n : Nat) (A B : PR α) : Prop := match A, B with
 | .ok x r, .ok y q => x = y /\ Sim r q /\ r.length <= n
 | .bad e _, .bad e' _ => e = e' /\ e ≠ 0
 | _, _ => False
section
variable {α β : Type} {n m : Nat}
theorem Sm.ok {x : α} {r q : List Tk} (h : Sim r q) (hl : r.length <= n) : Sm n (.ok x r) (.ok x q) := ⟨rfl, h, hl⟩
theorem Sm.bad {e : Int} {r q : List Tk} (he : e ≠ 0 := by decide) : Sm n (.bad e r : PR α) (.bad e q) := ⟨rfl, he⟩
theorem Sm.bind {A B : PR α} {F G : α -> List Tk -> PR β} (h : Sm n A B) (k : ∀ x r q, Sim r q -> r.length <= n -> Sm m (F x r) (G x q)) : Sm m (A.bind F) (B.bind G) := by
 match A, B, h with
 | .ok x r, .ok y q, h =>
  obtain ⟨rfl, h1, h2⟩ := h
  exact k x r q h1 h2
 | .bad e r, .bad e' q, h => exact h
theorem Sm.mono {A B : PR α} (h : Sm n A B) (hm : n <= m) : Sm m A B := by
 match A, B, h with
 | .ok x r, .ok y q, h => exact ⟨h.1, h.2.1, Nat.le_trans h.2.2 hm⟩
 | .bad e r, .bad e' q, h => exact h
theorem Sm.ite {s : ByteArray} {ts ts' : List Tk} {A A' B B' : PR α} (hs : (sSemi.toList == s.toList) = false) (h : Sim ts ts') (hy : hd s ts = true -> Sm n A A') (hn : Sm n B B') : Sm n (if hd s ts = true then A else B) (if hd s ts' = true then A' else B') := by
 rw [sim_hd hs h]
 cases hh : hd s ts with
 | true => exact hy hh
 | false => exact hn
end
def Simu {α : Type} (n : Nat) (F G : List Tk -> PR α) : Prop := ∀ ts ts', Sim ts ts' -> ts.length <= n -> Sm (ts.length - 1) (F ts) (G ts')
section
variable {α : Type}
theorem sim_need {s : ByteArray} (hs : (sSemi.toList == s.toList) = false) (n : Nat) : Simu n (need s) (need s) := by
 intro ts ts' h _
 unfold need
 refine Sm.ite hs h (fun hh => ?_) Sm.bad
 obtain ⟨h1, h2⟩ := sim_tail h hh
 exact Sm.ok h1 (by omega)
theorem sim_name (n : Nat) : Simu n (pname nameB) (pname nameB) := by
 intro ts ts' h _
 match ts, h with
 | [], h =>
  obtain ⟨e, rfl, he, _⟩ := sim_nil h
  have hn : nameB e.t = false := by rw [he]; decide +kernel
  rw [pname, pname, if_neg (by rw [hn]; simp)]
  exact Sm.bad
 | x :: r, h =>
  obtain ⟨y, q, rfl, _, ht, _, h⟩ := sim_cons h
  rw [pname, pname, ht]
  split
  ·exact Sm.ok h (by simp)
  ·exact Sm.bad
theorem sim_number (n : Nat) : Simu n pnumber pnumber := by
 intro ts ts' h _
 match ts, h with
 | [], h =>
  obtain ⟨e, rfl, _, hk⟩ := sim_nil h
  rw [pnumber, pnumber, if_pos (.inl (by rw [hk]; decide))]
  exact Sm.bad
 | x :: r, h =>
  obtain ⟨y, q, rfl, hk, _, hv, h⟩ := sim_cons h
  rw [pnumber, pnumber, hk, hv]
  split
  ·exact Sm.bad
  ·split
   ·exact Sm.bad
   ·exact Sm.ok h (by simp)
theorem sim_prio {ts ts' : List Tk} (h : Sim ts ts') : Sm ts.length (pprio ts) (pprio ts') := by
 match ts, h with
 | [], h =>
  obtain ⟨e, rfl, ht, hk⟩ := sim_nil h
  rw [pprio, pprio, if_pos (by rw [hk]; decide)]
  exact ⟨rfl, ⟨ht, hk⟩, Nat.le_refl _⟩
 | x :: r, h =>
  have h0 := h
  obtain ⟨y, q, rfl, hk, _, _, _⟩ := sim_cons h
  rw [pprio, pprio, hk]
  split
  ·exact Sm.ok h0 (Nat.le_refl _)
  ·exact (sim_number _ _ _ h0 (Nat.le_refl _)).mono (by omega)
theorem sim_val (n : Nat) : Simu n (pval nameB) (pval nameB) := by
 intro ts ts' h _
 match ts, h with
 | [], h =>
  obtain ⟨e, rfl, ht, hk⟩ := sim_nil h
  rw [pval, pval, if_neg (by rw [ht]; decide +kernel), if_neg (by rw [ht]; decide +kernel), if_neg (by rw [hk]; decide), if_neg (by rw [ht]; decide +kernel)]
  exact Sm.bad
 | x :: r, h =>
  obtain ⟨y, q, rfl, hk, ht, hv, h⟩ := sim_cons h
  rw [pval, pval, hk, ht, hv]
  repeat' split
  all_goals first | exact Sm.ok h (by simp) | exact Sm.bad
theorem sim_list {n : Nat} {F G : List Tk -> PR α} (hF : Simu n F G) : ∀ (g g' : Nat) (ts ts' : List Tk), Sim ts ts' -> ts.length <= n -> ts.length < g -> ts.length < g' -> Sm (ts.length - 1) (plist F g ts) (plist G g' ts')
 | 0, _, _, _, _, _, h, _ => by omega
 | _ + 1, 0, _, _, _, _, _, h => by omega
 | g + 1, g' + 1, ts, ts', h, hn, h1, h2 => by
  rw [plist, plist]
  refine (hF ts ts' h hn).bind fun x r q hs hl => ?_
  refine Sm.ite (by decide +kernel) hs (fun hh => ?_) (Sm.ok hs hl)
  obtain ⟨h3, h4⟩ := sim_tail hs hh
  refine (sim_list hF g g' _ _ h3 (by omega) (by omega) (by omega)).bind fun l r2 q2 hs2 hl2 => Sm.ok hs2 (by omega)
theorem sim_case {n : Nat} {F G : List Tk -> PR α} (hF : Simu n F G) : Simu n (pcase nameB F) (pcase nameB G) := by
 intro ts ts' h hn
 refine (sim_name n ts ts' h hn).bind fun x r q hs hl => (sim_need (by decide +kernel) n r q hs (by omega)).bind fun _ r2 q2 hs2 hl2 => (hF r2 q2 hs2 (by omega)).bind fun y r3 q3 hs3 hl3 => Sm.ok hs3 (by omega)
theorem sim_cases {n : Nat} {F G : List Tk -> PR α} (hF : Simu n F G) (g g' : Nat) (hg : n < g) (hg' : n < g') : Simu n (pcases nameB F g) (pcases nameB G g') := by
 intro ts ts' h hn
 refine (sim_need (by decide +kernel) n ts ts' h hn).bind fun _ r q hs hl => (sim_list (sim_case hF) g g' r q hs (by omega) (by omega) (by omega)).bind fun l r2 q2 hs2 hl2 => (sim_need (by decide +kernel) n r2 q2 hs2 (by omega)).bind fun _ r3 q3 hs3 hl3 => Sm.ok hs3 (by omega)
theorem sim_upto {n : Nat} {F G : List Tk -> PR α} {s : ByteArray} (hsm : (sSemi.toList == s.toList) = false) (hF : Simu n F G) (g g' : Nat) (hg : n < g) (hg' : n < g') : Simu n (plistUpTo F s g) (plistUpTo G s g') := by
 intro ts ts' h hn
 unfold plistUpTo
 refine Sm.ite hsm h (fun hh => ?_) ?_
 ·obtain ⟨h1, h2⟩ := sim_tail h hh
  exact Sm.ok h1 (by omega)
 ·refine (sim_list hF g g' ts ts' h hn (by omega) (by omega)).bind fun l r q hs hl => (sim_need hsm n r q hs (by omega)).bind fun _ r2 q2 hs2 hl2 => Sm.ok hs2 (by omega)
end
theorem sim_var (n : Nat) : Simu n (pvar nameB) (pvar nameB) := by
 intro ts ts' h hn
 refine (sim_name n ts ts' h hn).bind fun x r q hs hl => ?_
 refine Sm.ite (by decide +kernel) hs (fun hh => ?_) (Sm.ok hs hl)
 obtain ⟨h1, h2⟩ := sim_tail hs hh
 exact (sim_number n _ _ h1 (by omega)).bind fun y r2 q2 hs2 hl2 => Sm.ok hs2 (by omega)
section
variable {n : Nat} {S T : List Tk -> PR Ty}
theorem sim_any (hS : Simu n S T) : Simu n (panyS S) (panyS T) := by
 intro ts ts' h hn
 unfold panyS
 refine Sm.ite (by decide +kernel) h (fun hh => ?_) (Sm.ite (by decide +kernel) h (fun hh => ?_) (hS ts ts' h hn))
 ·obtain ⟨h1, h2⟩ := sim_tail h hh; exact Sm.ok h1 (by omega)
 ·obtain ⟨h1, h2⟩ := sim_tail h hh; exact Sm.ok h1 (by omega)
theorem sim_pay (hS : Simu n S T) : Simu n (ppayS S) (ppayS T) := by
 intro ts ts' h hn
 unfold ppayS
 rw [sim_hd (s := sBang) (by decide +kernel) h, sim_hd (s := sAsk) (by decide +kernel) h, sim_hd (s := sPlus) (by decide +kernel) h, sim_hd (s := sAnd) (by decide +kernel) h, sim_hd (s := sRec) (by decide +kernel) h]
 split
 ·exact Sm.bad
 ·exact sim_any hS ts ts' h hn
theorem sim_exch (hS : Simu n S T) (k : Int) {ts ts' : List Tk} (h : Sim ts ts') (hn : ts.length <= n) : Sm (ts.length - 1) (pexchS S k ts) (pexchS T k ts') := by
 refine (sim_prio h).bind fun p r q hs hl => (sim_pay hS r q hs (by omega)).bind fun t r2 q2 hs2 hl2 => (sim_need (by decide +kernel) n r2 q2 hs2 (by omega)).bind fun _ r3 q3 hs3 hl3 => (hS r3 q3 hs3 (by omega)).bind fun u r4 q4 hs4 hl4 => Sm.ok hs4 (by omega)
theorem sim_choice (hS : Simu n S T) (g g' : Nat) (hg : n < g) (hg' : n < g') (k : Int) {ts ts' : List Tk} (h : Sim ts ts') (hn : ts.length <= n) : Sm (ts.length - 1) (pchoiceS nameB S g k ts) (pchoiceS nameB T g' k ts') := by
 refine (sim_prio h).bind fun p r q hs hl => (sim_cases hS g g' hg hg' r q hs (by omega)).bind fun l r2 q2 hs2 hl2 => Sm.ok hs2 (by omega)
theorem sim_rec (hS : Simu n S T) : Simu n (precS nameB S) (precS nameB T) := by
 intro ts ts' h hn
 refine (sim_name n ts ts' h hn).bind fun x r q hs hl => (sim_need (by decide +kernel) n r q hs (by omega)).bind fun _ r2 q2 hs2 hl2 => (hS r2 q2 hs2 (by omega)).bind fun t r3 q3 hs3 hl3 => Sm.ok hs3 (by omega)
end
theorem sim_sess : ∀ (f f' n : Nat), n < f -> n < f' -> Simu n (psess nameB f) (psess nameB f')
 | 0, _, _, h, _ => by omega
 | _ + 1, 0, _, _, h => by omega
 | f + 1, f' + 1, n, h1, h2 => by
  intro ts ts' h hn
  rw [psess, psess]
  have ih : ∀ m, m < ts.length -> Simu m (psess nameB f) (psess nameB f') := fun m hm => sim_sess f f' m (by omega) (by omega)
  refine Sm.ite (by decide +kernel) h (fun hh => ?_) (Sm.ite (by decide +kernel) h (fun hh => ?_) (Sm.ite (by decide +kernel) h (fun hh => ?_) (Sm.ite (by decide +kernel) h (fun hh => ?_) (Sm.ite (by decide +kernel) h (fun hh => ?_) (Sm.ite (by decide +kernel) h (fun hh => ?_) (Sm.ite (by decide +kernel) h (fun hh => ?_) (sim_var n ts ts' h hn)))))))
  all_goals obtain ⟨h3, h4⟩ := sim_tail h hh
  ·exact Sm.ok h3 (by omega)
  ·exact (sim_exch (ih ts.tail.length (by omega)) 4 h3 (Nat.le_refl _)).mono (by omega)
  ·exact (sim_exch (ih ts.tail.length (by omega)) 5 h3 (Nat.le_refl _)).mono (by omega)
  ·exact (sim_choice (ih ts.tail.length (by omega)) f f' (by omega) (by omega) 6 h3 (Nat.le_refl _)).mono (by omega)
  ·exact (sim_choice (ih ts.tail.length (by omega)) f f' (by omega) (by omega) 7 h3 (Nat.le_refl _)).mono (by omega)
  ·exact (sim_rec (ih ts.tail.length (by omega)) _ _ h3 (Nat.le_refl _)).mono (by omega)
  ·exact (ih ts.tail.length (by omega) _ _ h3 (Nat.le_refl _)).bind fun t r q hs hl => (sim_need (by decide +kernel) ts.length r q hs (by omega)).bind fun _ r2 q2 hs2 hl2 => Sm.ok hs2 (by omega)
section
variable {n : Nat} {S S' P P' : List Tk -> PR Pr}
theorem sim_rest (hS : Simu n S S') : Simu n (prestS S) (prestS S') := by
 intro ts ts' h hn
 exact (sim_need (by decide +kernel) n ts ts' h hn).bind fun _ r q hs hl => (hS r q hs (by omega)).mono (by omega)
theorem sim_send (hS : Simu n S S') (c : ByteArray) : Simu n (psendS nameB S c) (psendS nameB S' c) := by
 intro ts ts' h hn
 exact (sim_need (by decide +kernel) n ts ts' h hn).bind fun _ r q hs hl => (sim_val n r q hs (by omega)).bind fun v r2 q2 hs2 hl2 => (sim_need (by decide +kernel) n r2 q2 hs2 (by omega)).bind fun _ r3 q3 hs3 hl3 => (sim_rest hS r3 q3 hs3 (by omega)).bind fun p r4 q4 hs4 hl4 => Sm.ok hs4 (by omega)
theorem sim_recv (hS : Simu n S S') (c : ByteArray) : Simu n (precvS nameB S c) (precvS nameB S' c) := by
 intro ts ts' h hn
 exact (sim_need (by decide +kernel) n ts ts' h hn).bind fun _ r q hs hl => (sim_name n r q hs (by omega)).bind fun v r2 q2 hs2 hl2 => (sim_need (by decide +kernel) n r2 q2 hs2 (by omega)).bind fun _ r3 q3 hs3 hl3 => (sim_rest hS r3 q3 hs3 (by omega)).bind fun p r4 q4 hs4 hl4 => Sm.ok hs4 (by omega)
theorem sim_sel (hS : Simu n S S') (c : ByteArray) : Simu n (pselS nameB S c) (pselS nameB S' c) := by
 intro ts ts' h hn
 exact (sim_name n ts ts' h hn).bind fun l r q hs hl => (sim_rest hS r q hs (by omega)).bind fun p r4 q4 hs4 hl4 => Sm.ok hs4 (by omega)
theorem sim_bra (hP : Simu n P P') (g g' : Nat) (hg : n < g) (hg' : n < g') (c : ByteArray) : Simu n (pbraS nameB P g c) (pbraS nameB P' g' c) := by
 intro ts ts' h hn
 exact (sim_cases hP g g' hg hg' ts ts' h hn).bind fun l r q hs hl => Sm.ok hs hl
theorem sim_call (g g' : Nat) (hg : n < g) (hg' : n < g') (c : ByteArray) : Simu n (pcallS nameB g c) (pcallS nameB g' c) := by
 intro ts ts' h hn
 exact (sim_need (by decide +kernel) n ts ts' h hn).bind fun _ r q hs hl => (sim_upto (by decide +kernel) (sim_val n) g g' hg hg' r q hs (by omega)).bind fun l r2 q2 hs2 hl2 => Sm.ok hs2 (by omega)
theorem sim_new {T T' : List Tk -> PR Ty} (hT : Simu n T T') (hS : Simu n S S') : Simu n (pnewS nameB T S) (pnewS nameB T' S') := by
 intro ts ts' h hn
 exact (sim_need (by decide +kernel) n ts ts' h hn).bind fun _ r q hs hl => (sim_name n r q hs (by omega)).bind fun a r2 q2 hs2 hl2 => (sim_need (by decide +kernel) n r2 q2 hs2 (by omega)).bind fun _ r3 q3 hs3 hl3 =>
  (sim_name n r3 q3 hs3 (by omega)).bind fun b r4 q4 hs4 hl4 => (sim_need (by decide +kernel) n r4 q4 hs4 (by omega)).bind fun _ r5 q5 hs5 hl5 => (hT r5 q5 hs5 (by omega)).bind fun t r6 q6 hs6 hl6 => (sim_need (by decide +kernel) n r6 q6 hs6 (by omega)).bind fun _ r7 q7 hs7 hl7 => (hS r7 q7 hs7 (by omega)).bind fun p r8 q8 hs8 hl8 => Sm.ok hs8 (by omega)
theorem sim_named (hP : Simu n P P') (hS : Simu n S S') (g g' : Nat) (hg : n < g) (hg' : n < g') (c : ByteArray) : Simu n (pnamedS nameB P S g c) (pnamedS nameB P' S' g' c) := by
 intro ts ts' h hn
 unfold pnamedS
 refine Sm.ite (by decide +kernel) h (fun hh => ?_) (Sm.ite (by decide +kernel) h (fun hh => ?_) (Sm.ite (by decide +kernel) h (fun hh => ?_) (Sm.ite (by decide +kernel) h (fun hh => ?_) (sim_call g g' hg hg' c ts ts' h hn))))
 all_goals obtain ⟨h3, h4⟩ := sim_tail h hh
 ·exact (sim_send hS c _ _ h3 (by omega)).mono (by omega)
 ·exact (sim_recv hS c _ _ h3 (by omega)).mono (by omega)
 ·exact (sim_sel hS c _ _ h3 (by omega)).mono (by omega)
 ·exact (sim_bra hP g g' hg hg' c _ _ h3 (by omega)).mono (by omega)
end
theorem Simu.par {n : Nat} {F G : List Tk -> PR (List Pr)} (h : Simu n F G) : Simu n (fun r => (F r).bind fun l r => .ok (parOf l) r) (fun r => (G r).bind fun l r => .ok (parOf l) r) :=
 fun ts ts' hs hn => (h ts ts' hs hn).bind fun _ _ _ hs hl => Sm.ok hs hl
theorem sim_parts : ∀ (f f' : Nat) (b : Bool) (n : Nat), 2 * n + (if b = true then 2 else 1) <= f -> 2 * n + (if b = true then 2 else 1) <= f' -> Simu n (pparts nameB f b) (pparts nameB f' b)
 | 0, _, b, n, h, _ => by cases b <;> simp at h
 | _ + 1, 0, b, n, _, h => by cases b <;> simp at h
 | f + 1, f' + 1, false, n, h1, h2 => by
  simp only [Bool.false_eq_true, if_false] at h1 h2
  intro ts ts' h hn
  rw [pparts, pparts]
  have hP : ∀ m, m + 1 <= n -> Simu m (pparts nameB f true) (pparts nameB f' true) := fun m hm => sim_parts f f' true m (by simp; omega) (by simp; omega)
  have hS : ∀ m, m + 1 <= n -> Simu m (pparts nameB f false) (pparts nameB f' false) := fun m hm => sim_parts f f' false m (by simp; omega) (by simp; omega)
  have hT : ∀ m, m + 1 <= n -> Simu m (psess nameB f) (psess nameB f') := fun m hm => sim_sess f f' m (by omega) (by omega)
  refine Sm.ite (by decide +kernel) h (fun hh => ?_) (Sm.ite (by decide +kernel) h (fun hh => ?_) (Sm.ite (by decide +kernel) h (fun hh => ?_) ?_))
  ·obtain ⟨h3, h4⟩ := sim_tail h hh
   exact Sm.ok h3 (by omega)
  ·obtain ⟨h3, h4⟩ := sim_tail h hh
   exact (hP ts.tail.length (by omega) _ _ h3 (Nat.le_refl _)).bind fun l r q hs hl => (sim_need (by decide +kernel) n r q hs (by omega)).bind fun _ r2 q2 hs2 hl2 => Sm.ok hs2 (by omega)
  ·obtain ⟨h3, h4⟩ := sim_tail h hh
   exact (sim_new (hT ts.tail.length (by omega)) (hS ts.tail.length (by omega)).par _ _ h3 (Nat.le_refl _)).bind fun p r q hs hl => Sm.ok hs (by omega)
  ·by_cases h0 : ts.length = 0
   ·obtain rfl : ts = [] := List.length_eq_zero_iff.1 h0
    obtain ⟨e, rfl, he, _⟩ := sim_nil h
    have hn2 : nameB e.t = false := by rw [he]; decide +kernel
    rw [pname, pname, if_neg (by rw [hn2]; simp)]
    exact ⟨rfl, by decide⟩
   ·refine (sim_name n ts ts' h hn).bind fun c r q hs hl => ?_
    exact (sim_named (hP r.length (by omega)).par (hS r.length (by omega)).par f f' (by omega) (by omega) c r q hs (Nat.le_refl _)).bind fun p r2 q2 hs2 hl2 => Sm.ok hs2 (by omega)
 | f + 1, f' + 1, true, n, h1, h2 => by
  simp only [if_true] at h1 h2
  intro ts ts' h hn
  rw [pparts, pparts]
  have hP : ∀ m, m + 1 <= n -> Simu m (pparts nameB f true) (pparts nameB f' true) := fun m hm => sim_parts f f' true m (by simp; omega) (by simp; omega)
  refine Sm.bind (n := ts.length - 1) (Sm.ite (by decide +kernel) h (fun hh => ?_) (sim_parts f f' false n (by simp; omega) (by simp; omega) ts ts' h hn)) fun l r q hs hl => ?_
  ·obtain ⟨h3, h4⟩ := sim_tail h hh
   exact (hP ts.tail.length (by omega) _ _ h3 (Nat.le_refl _)).bind fun l r q hs hl => (sim_need (by decide +kernel) n r q hs (by omega)).bind fun _ r2 q2 hs2 hl2 => Sm.ok hs2 (by omega)
  ·refine Sm.ite (by decide +kernel) hs (fun hh => ?_) (Sm.ok hs hl)
   obtain ⟨h3, h4⟩ := sim_tail hs hh
   exact (hP r.tail.length (by omega) _ _ h3 (Nat.le_refl _)).bind fun m r2 q2 hs2 hl2 => Sm.ok hs2 (by omega)
theorem sim_proc (f f' n : Nat) (h : 2 * n + 2 <= f) (h' : 2 * n + 2 <= f') : Simu n (pproc nameB f) (pproc nameB f') := (sim_parts f f' true n (by simp; omega) (by simp; omega)).par
end Go.Proofs.YtejaboajgecpaaaGreatDoor
