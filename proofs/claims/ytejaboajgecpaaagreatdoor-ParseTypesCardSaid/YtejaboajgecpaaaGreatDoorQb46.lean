/- Parsing: lemmas. -/
import Derived.Test.YtejaboajgecpaaaGreatDoorQb45
set_option maxHeartbeats 16000000
set_option maxRecDepth 100000
namespace Go.Proofs.YtejaboajgecpaaaGreatDoor
open Go.RowKit Go.Deep Go.Shelf
theorem rtype_any (hSess : ∀ R la all E f, SessR R la all E (psess nameB f) f) (s : ByteArray) (r : List Tok.Item ⊕ (Int × Int)) (hr : Scans s r) (w : World) :
 Calls Tryz.prog 17 #[.string s] w (RRes w (wholeE fType Ty.tooBig s r) GTy (.agg #[.int .i64 0, .int .i64 0, .string ⟨#[]⟩, .int .i64 0, .slice none 0 0, .slice none 0 0])) := by
 match r with
 | .inr (e, p) => exact rtypeA s _ hr (panyS (psess nameB (0 + 1))) w (fun R la all W h => rdany_any R la all _ _ W h 0 1 (hSess R la all _ _) (by show 0 < 1; omega)) e p rfl
 | .inl I =>
  have hcall : ∀ (R : Nat) (la : Option Addr) (all : List Tk) (W : World), RdIs R la all (s.size : Int) (stOf (.inl I)) W -> Calls Tryz.prog 38 #[.pointer (some ⟨R, 0, none⟩)] W (Red R la all (s.size : Int) W (panyS (psess nameB ((I.map tkOf).length + 1 + 1))) (stOf (.inl I)) (GTy W.heap.size)) := fun R la all W h => rdany_any R la all _ _ W h ((I.map tkOf).length + 1) ((I.map tkOf).length + 1 + 1) (hSess R la all _ _) (by show (I.map tkOf).length + 1 < _; omega)
  cases hF : panyS (psess nameB ((I.map tkOf).length + 1 + 1)) (I.map tkOf) with
  | bad e rr =>
   have hE : wholeE fType Ty.tooBig s (.inl I) = .inr (e, posE (s.size : Int) rr) := by
    show pfin fType Ty.tooBig (s.size : Int) (I.map tkOf) = _
    unfold pfin
    rw [show fType (I.map tkOf) = .bad e rr from hF]
   rw [hE]
   exact rtypeA s _ hr _ w hcall e _ (stepPR_bad _ hF)
  | ok x rr =>
   have hm := (pany_meas (psess_meas _) _ _ _ hF).2
   have hl := hr.len
   rw [List.length_map] at hm
   have hd := Ty.depth_le_size x
   have hB := rtypeB s _ hr _ w hcall x rr (stepPR_ok _ hF) (valPR_ok hF) (by omega) (by omega)
   have hE : wholeE fType Ty.tooBig s (.inl I) = (match stFin (s.size : Int) (!x.tooBig) (.inl rr) with | .inr z => .inr z | .inl _ => .inl x) := by
    show pfin fType Ty.tooBig (s.size : Int) (I.map tkOf) = _
    unfold pfin
    rw [show fType (I.map tkOf) = .ok x rr from hF]
    cases rr with
    | nil => show (if x.tooBig = true then _ else _) = _; cases x.tooBig <;> rfl
    | cons y q => rfl
   rw [hE]
   exact hB
theorem sess_knot (R : Nat) (la : Option Addr) (all : List Tk) (E : Int) (hLab : ∀ g, SessR R la all E (psess nameB g) g -> LabR R la all E (psess nameB g) g g) : ∀ f, SessR R la all E (psess nameB f) f
 | 0, _, _, _, h => absurd h (Nat.not_lt_zero _)
 | f + 1, st, W, h, hl => by
  match st with
  | .inr z => exact rdsess_err R la all E z _ W h
  | .inl ts =>
   have hl : ts.length + 1 < f + 1 := hl
   obtain ⟨g, rfl⟩ : ∃ g, f = g + 1 := ⟨f - 1, by omega⟩
   have ih := sess_knot R la all E hLab (g + 1)
   exact rdsess_any R la all E ts W h g (by omega) ih (hLab (g + 1) ih)
end Go.Proofs.YtejaboajgecpaaaGreatDoor
namespace Go.Proofs.YtejaboajgecpaaaGreatDoor
open Go.Lib (hid)
open Go.RowKit Go.Deep Go.Shelf
theorem xf1 {b : Nat} {w : World} {v : Value} (h : GPr b w xp1 v) : ∃ la ln lc aa an ac ta tn tc ua un uc kb ko kc, v = .agg #[.int .i64 7, .string ⟨#[]⟩, .string ⟨#[]⟩, .slice la ln lc, .slice aa an ac, .int .i64 0, .int .i64 0, .string ⟨#[]⟩, .int .i64 0, .slice ta tn tc, .slice ua un uc, .slice (some ⟨kb, ko, none⟩) 2 kc] /\ kb < w.heap.size /\ w.cell? ⟨kb, ko, none⟩ = some (.int .i64 2) /\ w.cell? ⟨kb, ko + 12 + 1, none⟩ = some (.string ⟨#[88]⟩) := by
 obtain ⟨la, ln, lc, aa, an, ac, ta, tn, tc, ua, un, uc, ka, kn, kc, e⟩ := PrVal.open h
 obtain ⟨lv, av, tl, tk, kv, e2, _, _, _, _, hk, _⟩ := h
 rw [e] at e2
 simp only [prAgg, Value.agg.injEq, Array.mk.injEq, List.cons.injEq, and_true, true_and] at e2
 obtain ⟨-, -, -, -, ekv⟩ := e2
 subst ekv
 rcases hk with ⟨_, h0⟩ | ⟨kb, ko, c, ek, hB, hps⟩
 ·exact absurd h0 (by simp [Pr.ps])
 ·simp only [Value.slice.injEq] at ek
  obtain ⟨rfl, rfl, rfl⟩ := ek
  dsimp only [xp1, Pr.ps] at hps
  simp only [PrsAt] at hps
  obtain ⟨p1, p2, _⟩ := hps
  exact ⟨la, ln, lc, aa, an, ac, ta, tn, tc, ua, un, uc, kb, ko, kc, e, hB.2, (PrAt.eq.1 p1).2.2.1.1, (PrAt.eq.1 p2).2.2.1.2.1⟩
theorem xf3 {b : Nat} {w : World} {v : Value} (h : GPg b w xp3 v) : ∃ db dd dc la ln lc aa an ac ta tn tc ua un uc ka kn kc mb mo mc, v = .agg #[.slice (some ⟨db, dd, none⟩) 1 dc, .int .i64 8, .string ⟨#[88]⟩, .string ⟨#[]⟩, .slice la ln lc, .slice aa an ac, .int .i64 0, .int .i64 0, .string ⟨#[]⟩, .int .i64 0, .slice ta tn tc, .slice ua un uc, .slice ka kn kc] /\ db < w.heap.size /\ w.cell? ⟨db, dd + 1, none⟩ = some (.slice (some ⟨mb, mo, none⟩) 1 mc) /\ mb < w.heap.size /\ w.cell? ⟨mb, mo + 1 + 1, none⟩ = some (.int .i64 3) := by
 obtain ⟨da, dn, dc, la, ln, lc, aa, an, ac, ta, tn, tc, ua, un, uc, ka, kn, kc, e⟩ := PgVal.open13 h
 obtain ⟨dv, lv, av, tl, tk, kv, e2, hd, _⟩ := h
 rw [e] at e2
 simp only [Value.agg.injEq, Array.mk.injEq, List.cons.injEq, and_true, true_and] at e2
 obtain ⟨ed, -⟩ := e2
 subst ed
 rcases hd with ⟨⟨_, h0⟩ | ⟨db, dd, c, ek, hB, hps⟩, _⟩
 ·cases h0
 ·simp only [Value.slice.injEq] at ek
  obtain ⟨rfl, rfl, rfl⟩ := ek
  obtain ⟨_, _, ⟨mv, hm, hms⟩, _⟩ := hps 0 _ rfl
  rcases hms with ⟨⟨_, h0⟩ | ⟨mb, mo, mc, rfl, hmB, hpm⟩, _⟩
  ·cases h0
  ·obtain ⟨_, _, ht⟩ := hpm 0 _ rfl
   refine ⟨db, dd, dc, la, ln, lc, aa, an, ac, ta, tn, tc, ua, un, uc, ka, kn, kc, mb, mo, mc, e, hB.2, ?_, hmB.2, ?_⟩
   ·have := hm; rw [show dd + 0 * 14 + 1 = dd + 1 by omega] at this; exact this
   ·have := (TyAt.eq.1 ht).2.2.1.2.1; rw [show mo + 0 * 7 + 1 + 1 = mo + 1 + 1 by omega] at this; exact this
theorem xf4 {b : Nat} {w : World} {v : Value} (h : GTy b w xp4 v) : ∃ la ln lc ka kn kc, v = .agg #[.int .i64 6, .int .i64 7, .string ⟨#[]⟩, .int .i64 0, .slice la ln lc, .slice ka kn kc] := TyVal.open6 h
theorem two_new (w : World) (c1 c2 : Array Value) (t1 t2 : TypeId) : ((w.alloc (.cells c1 t1)).alloc (.cells c2 t2)).heap[w.heap.size]? = some (.cells c1 t1 (0, 0)) /\ ((w.alloc (.cells c1 t1)).alloc (.cells c2 t2)).heap[w.heap.size + 1]? = some (.cells c2 t2 (0, 0)) /\ Below w.heap.size w ((w.alloc (.cells c1 t1)).alloc (.cells c2 t2)) := by
 refine ⟨(Below.heap_alloc _ _ _ (by rw [World.size_alloc]; omega)).trans (World.alloc_heap_new _ _), ?_, ((Below.refl _ _).alloc (Nat.le_refl _) _).alloc (by simp) _⟩
 have h := World.alloc_heap_new (w.alloc (.cells c1 t1)) (.cells c2 t2)
 rw [World.size_alloc] at h
 exact h
theorem pawake_any (B : Nat) (w : World) (he : Tok.Env B w) : Calls Tryz.prog 8 #[] w fun e w' => e = .returned (.bool true) /\ Below w.heap.size w w' := by
 have HE := hid (fun W (hW : Below w.heap.size w W) => tok_env he hW)
 have HBS : Hid (Below w.heap.size w w) := hid (Below.refl _ _)
 clear he
 go_enter Tryz.func8, Tryz.ntmps8
 go_upto_region 2 with (go_at_call 13; refine (pProcess_any _ _ xsc1 B _ (HE.out _ HBS.out)).mono ?_; rw [xw1]; rintro en w1 ⟨⟨_, rfl, hg⟩, hb⟩; obtain ⟨la, ln, lc, aa, an, ac, ta, tn, tc, ua, un, uc, kb, ko, kc, rfl, hkb, hk1, hk2⟩ := xf1 hg; have HK1 := hid (And.intro hkb (And.intro hk1 hk2)); clear hkb hk1 hk2 hg; have HBn := hid (below_seq HBS.out hb); clear hb HBS; have HBS := HBn; clear HBn)
 obtain ⟨a1, ha1⟩ : ∃ a, w1.heap.size = a := ⟨_, rfl⟩
 have htw := two_new w1 #[.int .i64 7, .string ⟨#[]⟩, .string ⟨#[]⟩, .slice la ln lc, .slice aa an ac, .int .i64 0, .int .i64 0, .string ⟨#[]⟩, .int .i64 0, .slice ta tn tc, .slice ua un uc, .slice (some ⟨kb, ko, none⟩) 2 kc] #[.int .i64 0, .int .i64 0] 31 36
 obtain ⟨W1, hW1⟩ : ∃ W, (w1.alloc (.cells #[.int .i64 7, .string ⟨#[]⟩, .string ⟨#[]⟩, .slice la ln lc, .slice aa an ac, .int .i64 0, .int .i64 0, .string ⟨#[]⟩, .int .i64 0, .slice ta tn tc, .slice ua un uc, .slice (some ⟨kb, ko, none⟩) 2 kc] 31)).alloc (.cells #[.int .i64 0, .int .i64 0] 36) = W := ⟨_, rfl⟩
 rw [hW1, ha1] at htw
 rw [hW1]
 rw [ha1]
 have HA1 := hid ha1
 have HBn := hid (below_seq HBS.out (htw.2.2.mono (Nat.le_of_eq ha1)))
 clear HBS ha1 hW1
 have HBS := HBn
 clear HBn
 have HX1 := hid htw
 clear htw
 go_upto_region 3 with (go_at_call 13; refine (pProcess_any _ _ xsc2 B _ (HE.out _ HBS.out)).mono ?_; rw [xw2]; rintro en w2 ⟨rfl, hb⟩; have HC2 := hid hb; have HBn := hid (below_seq HBS.out hb); clear hb HBS; have HBS := HBn; clear HBn)
 obtain ⟨a2, ha2⟩ : ∃ a, w2.heap.size = a := ⟨_, rfl⟩
 have htw := two_new w2 #[.int .i64 0, .string ⟨#[]⟩, .string ⟨#[]⟩, .slice none 0 0, .slice none 0 0, .int .i64 0, .int .i64 0, .string ⟨#[]⟩, .int .i64 0, .slice none 0 0, .slice none 0 0, .slice none 0 0] #[.int .i64 1, .int .i64 5] 31 36
 obtain ⟨W2, hW2⟩ : ∃ W, (w2.alloc (.cells z12 31)).alloc (.cells #[.int .i64 1, .int .i64 5] 36) = W := ⟨_, rfl⟩
 rw [hW2, ha2] at htw
 rw [hW2]
 rw [ha2]
 have HA2 := hid ha2
 have HBn := hid (below_seq HBS.out (htw.2.2.mono (Nat.le_of_eq ha2)))
 clear HBS ha2 hW2
 have HBS := HBn
 clear HBn
 have HX2 := hid htw
 clear htw
 go_upto_region 4 with (go_at_call 9; refine (pProgram_any _ _ xsc3 B _ (HE.out _ HBS.out)).mono ?_; rw [xw3]; rintro en w3 ⟨⟨_, rfl, hg⟩, hb⟩; have HC3 := hid hb; obtain ⟨db, dd, dc, la3, ln3, lc3, aa3, an3, ac3, ta3, tn3, tc3, ua3, un3, uc3, ka3, kn3, kc3, mb, mo, mc, rfl, hdb, hd1, hmb, hm1⟩ := xf3 hg; have HK3 := hid (And.intro hdb (And.intro hd1 (And.intro hmb hm1))); clear hdb hd1 hmb hm1 hg; have HBn := hid (below_seq HBS.out hb); clear hb HBS; have HBS := HBn; clear HBn)
 obtain ⟨a3, ha3⟩ : ∃ a, w3.heap.size = a := ⟨_, rfl⟩
 have htw := two_new w3 #[.slice (some ⟨db, dd, none⟩) 1 dc, .int .i64 8, .string ⟨#[88]⟩, .string ⟨#[]⟩, .slice la3 ln3 lc3, .slice aa3 an3 ac3, .int .i64 0, .int .i64 0, .string ⟨#[]⟩, .int .i64 0, .slice ta3 tn3 tc3, .slice ua3 un3 uc3, .slice ka3 kn3 kc3] #[.int .i64 0, .int .i64 0] 33 36
 obtain ⟨W3, hW3⟩ : ∃ W, (w3.alloc (.cells #[.slice (some ⟨db, dd, none⟩) 1 dc, .int .i64 8, .string ⟨#[88]⟩, .string ⟨#[]⟩, .slice la3 ln3 lc3, .slice aa3 an3 ac3, .int .i64 0, .int .i64 0, .string ⟨#[]⟩, .int .i64 0, .slice ta3 tn3 tc3, .slice ua3 un3 uc3, .slice ka3 kn3 kc3] 33)).alloc (.cells #[.int .i64 0, .int .i64 0] 36) = W := ⟨_, rfl⟩
 rw [hW3, ha3] at htw
 rw [hW3]
 rw [ha3]
 have HA3 := hid ha3
 have HBn := hid (below_seq HBS.out (htw.2.2.mono (Nat.le_of_eq ha3)))
 clear HBS ha3 hW3
 have HBS := HBn
 clear HBn
 have HX3 := hid htw
 clear htw
 go_upto_region 5 with (go_at_call 16; refine (pType_any _ _ xsc4 B _ (HE.out _ HBS.out)).mono ?_; rw [xw4]; rintro en w4 ⟨⟨_, rfl, hg⟩, hb⟩; have HC4 := hid hb; obtain ⟨la4, ln4, lc4, ka4, kn4, kc4, rfl⟩ := xf4 hg; clear hg; have HBn := hid (below_seq HBS.out hb); clear hb HBS; have HBS := HBn; clear HBn)
 obtain ⟨a4, ha4⟩ : ∃ a, w4.heap.size = a := ⟨_, rfl⟩
 have htw := two_new w4 #[.int .i64 6, .int .i64 7, .string ⟨#[]⟩, .int .i64 0, .slice la4 ln4 lc4, .slice ka4 kn4 kc4] #[.int .i64 0, .int .i64 0] 28 36
 obtain ⟨W4, hW4⟩ : ∃ W, (w4.alloc (.cells #[.int .i64 6, .int .i64 7, .string ⟨#[]⟩, .int .i64 0, .slice la4 ln4 lc4, .slice ka4 kn4 kc4] 28)).alloc (.cells #[.int .i64 0, .int .i64 0] 36) = W := ⟨_, rfl⟩
 rw [hW4, ha4] at htw
 rw [hW4]
 rw [ha4]
 have HA4 := hid ha4
 have HBn := hid (below_seq HBS.out (htw.2.2.mono (Nat.le_of_eq ha4)))
 clear HBS ha4 hW4
 have HBS := HBn
 clear HBn
 have HX4 := hid htw
 clear htw
 have h34 : Below W3.heap.size W3 W4 := HC4.out.trans (HX4.out.2.2.mono (Nat.le_trans HC4.out.size (Nat.le_of_eq HA4.out)))
 have h3e : Below w3.heap.size w3 W4 := below_seq (HX3.out.2.2.mono (Nat.le_of_eq HA3.out)) h34
 have h2e : Below W2.heap.size W2 W4 := below_seq HC3.out h3e
 have h1e : Below W1.heap.size W1 W4 := below_seq (below_seq HC2.out (HX2.out.2.2.mono (Nat.le_of_eq HA2.out))) h2e
 have h0e : Below w1.heap.size w1 W4 := below_seq (HX1.out.2.2.mono (Nat.le_of_eq HA1.out)) h1e
 have q1 := (h1e.block _ (Array.getElem?_eq_some_iff.1 HX1.out.1).1).trans HX1.out.1
 have q2 := (h1e.block _ (Array.getElem?_eq_some_iff.1 HX1.out.2.1).1).trans HX1.out.2.1
 have q4 := (h2e.block _ (Array.getElem?_eq_some_iff.1 HX2.out.2.1).1).trans HX2.out.2.1
 have q5 := (h34.block _ (Array.getElem?_eq_some_iff.1 HX3.out.1).1).trans HX3.out.1
 have q6 := (h34.block _ (Array.getElem?_eq_some_iff.1 HX3.out.2.1).1).trans HX3.out.2.1
 have q7 := HX4.out.1
 have q8 := HX4.out.2.1
 have c10 : W4.cell? ⟨a1, 0, none⟩ = some (.int .i64 7) := by simp only [World.cell?, q1]; rfl
 have c11 : W4.cell? ⟨a1, 11, none⟩ = some (.slice (some ⟨kb, ko, none⟩) 2 kc) := by simp only [World.cell?, q1]; rfl
 have c20 : W4.cell? ⟨a1 + 1, 0, none⟩ = some (.int .i64 0) := by simp only [World.cell?, q2]; rfl
 have c21 : W4.cell? ⟨a1 + 1, 1, none⟩ = some (.int .i64 0) := by simp only [World.cell?, q2]; rfl
 have c40 : W4.cell? ⟨a2 + 1, 0, none⟩ = some (.int .i64 1) := by simp only [World.cell?, q4]; rfl
 have c41 : W4.cell? ⟨a2 + 1, 1, none⟩ = some (.int .i64 5) := by simp only [World.cell?, q4]; rfl
 have c50 : W4.cell? ⟨a3, 0, none⟩ = some (.slice (some ⟨db, dd, none⟩) 1 dc) := by simp only [World.cell?, q5]; rfl
 have c51 : W4.cell? ⟨a3, 1, none⟩ = some (.int .i64 8) := by simp only [World.cell?, q5]; rfl
 have c60 : W4.cell? ⟨a3 + 1, 0, none⟩ = some (.int .i64 0) := by simp only [World.cell?, q6]; rfl
 have c61 : W4.cell? ⟨a3 + 1, 1, none⟩ = some (.int .i64 0) := by simp only [World.cell?, q6]; rfl
 have c71 : W4.cell? ⟨a4, 1, none⟩ = some (.int .i64 7) := by simp only [World.cell?, q7]; rfl
 have c80 : W4.cell? ⟨a4 + 1, 0, none⟩ = some (.int .i64 0) := by simp only [World.cell?, q8]; rfl
 have c81 : W4.cell? ⟨a4 + 1, 1, none⟩ = some (.int .i64 0) := by simp only [World.cell?, q8]; rfl
 have k1 := (h0e.cell (p := ⟨kb, ko, none⟩) HK1.out.1).trans HK1.out.2.1
 have k2 := (h0e.cell (p := ⟨kb, ko + 12 + 1, none⟩) HK1.out.1).trans HK1.out.2.2
 have d1 := (h3e.cell (p := ⟨db, dd + 1, none⟩) HK3.out.1).trans HK3.out.2.1
 have m1 := (h3e.cell (p := ⟨mb, mo + 1 + 1, none⟩) HK3.out.2.2.1).trans HK3.out.2.2.2
 clear q1 q2 q4 q5 q6 q7 q8 h34 h3e h2e h1e h0e HX1 HX2 HX3 HX4 HK1 HK3 HC2 HC3 HC4 HA1 HA2 HA3 HA4 HE
 go_upto_region 7 with fail
 go_wp2_with fail
 go_ret
 exact ⟨rfl, HBS.out⟩
end Go.Proofs.YtejaboajgecpaaaGreatDoor
namespace Go.Proofs.YtejaboajgecpaaaGreatDoor
open Go.RowKit Go.Deep Go.Shelf
theorem arr_size (w : World) : (sizeOf 3).run Tryz.prog w = .ok 1 w := by kernel_rfl
theorem arr_part0 (w : World) (a b : Int) : (part 3 #[.int .i64 a, .int .i64 b] 0).run Tryz.prog w = .ok (.int .i64 a) w := by kernel_rfl
theorem arr_part1 (w : World) (a b : Int) : (part 3 #[.int .i64 a, .int .i64 b] 1).run Tryz.prog w = .ok (.int .i64 b) w := by kernel_rfl
theorem arr2_in (w : World) (d : Nat) (a b : Int) : (Op.equalIn (d + 1 + 1) 42 (.agg #[.int .i64 a, .int .i64 b]) (.agg #[.int .i64 a, .int .i64 b])).run Tryz.prog w = .ok true w := by
 rw [Op.equalIn]
 simp only [Sem.run_bind, run_underlying Tryz.underlying42, Result.andThen_ok, arr_size]
 rw [Std.Legacy.Range.forIn_eq_forIn_range']
 simp [List.range', arr_part0, arr_part1, run_equalIn_int, Tryz.underlying3]
theorem arr2_eq (w : World) (a b : Int) : (binOp .eql 42 (.agg #[.int .i64 a, .int .i64 b]) (.agg #[.int .i64 a, .int .i64 b])).run Tryz.prog w = .ok (.bool true) w := by
 rw [run_eql_struct, show (10000 : Nat) = 9998 + 1 + 1 from rfl, arr2_in]
 rfl
end Go.Proofs.YtejaboajgecpaaaGreatDoor
namespace Go.Proofs.YtejaboajgecpaaaGreatDoor
theorem choice_step (E : Int) (S : List Tk -> PR Ty) (g : Nat) (k : Int) (st : RS) : stepPR E (pchoiceS nameB S g k) st = stepPR E (need sKet) (stepPR E (plist (pcase nameB S) g) (stepPR E (need sBra) (stepPR E pprio st))) /\
 ∀ y, valPR (pchoiceS nameB S g k) st = some y -> ∃ p l, valPR pprio st = some p /\ valPR (plist (pcase nameB S) g) (stepPR E (need sBra) (stepPR E pprio st)) = some l /\ Ty.mk k p ⟨#[]⟩ 0 (l.map (·.1)) (l.map (·.2)) = y := by
 have hc : ∀ st, stepPR E (pcases nameB S g) st = stepPR E (need sKet) (stepPR E (plist (pcase nameB S) g) (stepPR E (need sBra) st)) := fun st =>
  step_bind (X := fun s => stepPR E (need sKet) (stepPR E (plist (pcase nameB S) g) s)) (fun _ => step_bind (X := fun s => stepPR E (need sKet) s) (fun l => step_bind (X := fun s => s) (fun _ => step_ok _ _ _) (fun _ => rfl)) (fun _ => rfl)) (fun _ => rfl)
 constructor
 ·exact step_bind (X := fun s => stepPR E (need sKet) (stepPR E (plist (pcase nameB S) g) (stepPR E (need sBra) s))) (fun p => (step_bind (X := fun s => s) (fun l => step_ok _ _ _) (fun _ => rfl)).trans (hc _)) (fun _ => rfl)
 ·intro y hy
  obtain ⟨p, h1, h2⟩ := val_bind E hy
  obtain ⟨l, h3, h4⟩ := val_bind E h2
  obtain ⟨_, _, h6⟩ := val_bind E h3
  obtain ⟨m, h7, h8⟩ := val_bind E h6
  obtain ⟨_, _, h10⟩ := val_bind E h8
  obtain rfl : m = l := val_ok h10
  exact ⟨p, m, h1, h7, val_ok h4⟩
theorem pcase_step {α : Type} (E : Int) (F : List Tk -> PR α) (st : RS) : stepPR E (pcase nameB F) st = stepPR E F (stepPR E (need sColon) (stepPR E (pname nameB) st)) /\
 ∀ y, valPR (pcase nameB F) st = some y -> valPR (pname nameB) st = some y.1 /\ valPR F (stepPR E (need sColon) (stepPR E (pname nameB) st)) = some y.2 := by
 constructor
 ·exact step_bind (X := fun s => stepPR E F (stepPR E (need sColon) s)) (fun _ => step_bind (X := fun s => stepPR E F s) (fun l => step_bind (X := fun s => s) (fun _ => step_ok _ _ _) (fun _ => rfl)) (fun _ => rfl)) (fun _ => rfl)
 ·intro y hy
  obtain ⟨n, h1, h2⟩ := val_bind E hy
  obtain ⟨_, _, h4⟩ := val_bind E h2
  obtain ⟨x, h5, h6⟩ := val_bind E h4
  have e := val_ok h6
  subst e
  exact ⟨h1, h5⟩
theorem plist_more {α : Type} (E : Int) (F : List Tk -> PR α) (g : Nat) (st : RS) (h : stHd sComma (stepPR E F st) = true) : stepPR E (plist F (g + 1)) st = stepPR E (plist F g) (stepPR E (need sComma) (stepPR E F st)) /\
 ∀ l, valPR (plist F (g + 1)) st = some l -> ∃ x m, valPR F st = some x /\ valPR (plist F g) (stepPR E (need sComma) (stepPR E F st)) = some m /\ l = x :: m := by
 constructor
 ·exact step_bind (X := fun s => stepPR E (plist F g) (stepPR E (need sComma) s)) (fun a => (step_take (P := fun ts => (plist F g ts).bind _) h).trans (step_bind (X := fun s => s) (fun _ => step_ok _ _ _) (fun _ => rfl))) (fun _ => rfl)
 ·intro l hl
  obtain ⟨x, h1, h2⟩ := val_bind E hl
  rw [val_take (P := fun ts => (plist F g ts).bind _) E h] at h2
  obtain ⟨m, h3, h4⟩ := val_bind E h2
  exact ⟨x, m, h1, h3, (val_ok h4).symm⟩
theorem plist_last {α : Type} (E : Int) (F : List Tk -> PR α) (g : Nat) (st : RS) (h : stHd sComma (stepPR E F st) = false) : stepPR E (plist F (g + 1)) st = stepPR E F st /\
 ∀ l, valPR (plist F (g + 1)) st = some l -> ∃ x, valPR F st = some x /\ l = [x] := by
 constructor
 ·exact step_bind (X := fun s => s) (fun a => (step_skip h).trans (step_ok _ _ _)) (fun _ => rfl)
 ·intro l hl
  obtain ⟨x, h1, h2⟩ := val_bind E hl
  rw [val_skip h] at h2
  exact ⟨x, h1, (val_ok h2).symm⟩
structure LabLeft (E : Int) (S : List Tk -> PR Ty) (g : Nat) (st : RS) (ls : List ByteArray) (us : List Ty) (g2 : Nat) (st2 : RS) : Prop where
 len : ls.length = us.length
 fuel : st2.len < g2
 step : stepPR E (plist (pcase nameB S) g) st = stepPR E (plist (pcase nameB S) g2) st2
 val : ∀ l, valPR (plist (pcase nameB S) g) st = some l -> ∃ m, valPR (plist (pcase nameB S) g2) st2 = some m /\ l.map (·.1) = ls ++ m.map (·.1) /\ l.map (·.2) = us ++ m.map (·.2)
theorem LabLeft.start (E : Int) (S : List Tk -> PR Ty) (g : Nat) (st : RS) (h : st.len < g) : LabLeft E S g st [] [] g st := ⟨rfl, h, rfl, fun l hl => ⟨l, hl, rfl, rfl⟩⟩
theorem LabLeft.more {E : Int} {S : List Tk -> PR Ty} {g g2 : Nat} {st st2 : RS} {ls : List ByteArray} {us : List Ty} (h : LabLeft E S g st ls us (g2 + 1) st2) {n : ByteArray} {u : Ty}
 (hn : ∀ y, valPR (pname nameB) st2 = some y -> n = y) (hu : ∀ y, valPR S (stepPR E (need sColon) (stepPR E (pname nameB) st2)) = some y -> u = y)
 (hc : stHd sComma (stepPR E (pcase nameB S) st2) = true) (hl : (stepPR E (need sComma) (stepPR E (pcase nameB S) st2)).len < g2) :
 LabLeft E S g st (ls ++ [n]) (us ++ [u]) g2 (stepPR E (need sComma) (stepPR E (pcase nameB S) st2)) := by
 obtain ⟨h1, h2⟩ := plist_more E (pcase nameB S) g2 st2 hc
 refine ⟨by simp [h.len], hl, h.step.trans h1, fun l hl => ?_⟩
 obtain ⟨m, hm, e1, e2⟩ := h.val l hl
 obtain ⟨x, m2, h3, h4, rfl⟩ := h2 m hm
 obtain ⟨h5, h6⟩ := (pcase_step E S st2).2 x h3
 refine ⟨m2, h4, ?_, ?_⟩
 ·rw [e1, hn _ h5]; simp
 ·rw [e2, hu _ h6]; simp
theorem LabLeft.last {E : Int} {S : List Tk -> PR Ty} {g g2 : Nat} {st st2 : RS} {ls : List ByteArray} {us : List Ty} (h : LabLeft E S g st ls us (g2 + 1) st2) {n : ByteArray} {u : Ty}
 (hn : ∀ y, valPR (pname nameB) st2 = some y -> n = y) (hu : ∀ y, valPR S (stepPR E (need sColon) (stepPR E (pname nameB) st2)) = some y -> u = y)
 (hc : stHd sComma (stepPR E (pcase nameB S) st2) = false) :
 stepPR E (plist (pcase nameB S) g) st = stepPR E (pcase nameB S) st2 /\ ∀ l, valPR (plist (pcase nameB S) g) st = some l -> l.map (·.1) = ls ++ [n] /\ l.map (·.2) = us ++ [u] := by
 obtain ⟨h1, h2⟩ := plist_last E (pcase nameB S) g2 st2 hc
 refine ⟨h.step.trans h1, fun l hl => ?_⟩
 obtain ⟨m, hm, e1, e2⟩ := h.val l hl
 obtain ⟨x, h3, rfl⟩ := h2 m hm
 obtain ⟨h5, h6⟩ := (pcase_step E S st2).2 x h3
 rw [e1, e2, hn _ h5, hu _ h6]
 exact ⟨rfl, rfl⟩
theorem LabLeft.err {E : Int} {S : List Tk -> PR Ty} {g g2 : Nat} {st : RS} {z : Int × Int} {ls : List ByteArray} {us : List Ty} (h : LabLeft E S g st ls us g2 (.inr z)) :
 stepPR E (plist (pcase nameB S) g) st = .inr z /\ ∀ l, valPR (plist (pcase nameB S) g) st = some l -> l.map (·.1) = ls /\ l.map (·.2) = us :=
 ⟨h.step, fun l hl => by obtain ⟨m, hm, _⟩ := h.val l hl; cases hm⟩
end Go.Proofs.YtejaboajgecpaaaGreatDoor
