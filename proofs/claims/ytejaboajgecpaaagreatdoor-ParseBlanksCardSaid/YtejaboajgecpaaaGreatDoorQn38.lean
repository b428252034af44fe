/- Parsing: lemmas. -/
import Derived.Test.YtejaboajgecpaaaGreatDoorQn37
set_option maxHeartbeats 16000000
set_option maxRecDepth 100000
namespace Go.Proofs.YtejaboajgecpaaaGreatDoor
open Go.Lib (hid)
open Go.RowKit Go.Deep Go.Shelf
theorem xf1 {b : Nat} {w : World} {v : Value} (h : GPr b w xp1 v) : ∃ la ln lc aa an ac ta tn tc ua un uc kb ko kc, v = .agg #[.int .i64 7, .string ⟨#[]⟩, .string ⟨#[]⟩, .slice la ln lc, .slice aa an ac, .int .i64 0, .int .i64 0, .string ⟨#[]⟩, .int .i64 0, .slice ta tn tc, .slice ua un uc, .slice (some ⟨kb, ko, none⟩) 2 kc] /\ kb < w.heap.size /\ w.cell? ⟨kb, ko, none⟩ = some (.int .i64 2) /\ w.cell? ⟨kb, ko + 12 + 1, none⟩ = some (.string ⟨#[88]⟩) := by
 obtain ⟨la, ln, lc, aa, an, ac, ta, tn, tc, ua, un, uc, ka, kn, kc, e⟩ := PrVal.open h
 obtain ⟨lv, av, tl, tk, kv, e2, _, _, _, _, hk, _⟩ := h
 rw [e] at e2
 simp only [prAgg, Value.agg.injEq, Array.mk.injEq, List.cons.injEq, and_true, true_and] at e2
 obtain ⟨-, -, -, -, ekv⟩ := e2
 subst ekv
 rcases hk with ⟨_, h0⟩ | ⟨kb, ko, c, ek, hB, hps⟩
 ·exact absurd h0 (by simp [Pr.ps])
 ·simp only [Value.slice.injEq] at ek
  obtain ⟨rfl, rfl, rfl⟩ := ek
  dsimp only [xp1, Pr.ps] at hps
  simp only [PrsAt] at hps
  obtain ⟨p1, p2, _⟩ := hps
  exact ⟨la, ln, lc, aa, an, ac, ta, tn, tc, ua, un, uc, kb, ko, kc, e, hB.2, (PrAt.eq.1 p1).2.2.1.1, (PrAt.eq.1 p2).2.2.1.2.1⟩
theorem xf3 {b : Nat} {w : World} {v : Value} (h : GPg b w xp3 v) : ∃ db dd dc la ln lc aa an ac ta tn tc ua un uc ka kn kc mb mo mc, v = .agg #[.slice (some ⟨db, dd, none⟩) 1 dc, .int .i64 8, .string ⟨#[88]⟩, .string ⟨#[]⟩, .slice la ln lc, .slice aa an ac, .int .i64 0, .int .i64 0, .string ⟨#[]⟩, .int .i64 0, .slice ta tn tc, .slice ua un uc, .slice ka kn kc] /\ db < w.heap.size /\ w.cell? ⟨db, dd + 1, none⟩ = some (.slice (some ⟨mb, mo, none⟩) 1 mc) /\ mb < w.heap.size /\ w.cell? ⟨mb, mo + 1 + 1, none⟩ = some (.int .i64 3) := by
 obtain ⟨da, dn, dc, la, ln, lc, aa, an, ac, ta, tn, tc, ua, un, uc, ka, kn, kc, e⟩ := PgVal.open13 h
 obtain ⟨dv, lv, av, tl, tk, kv, e2, hd, _⟩ := h
 rw [e] at e2
 simp only [Value.agg.injEq, Array.mk.injEq, List.cons.injEq, and_true, true_and] at e2
 obtain ⟨ed, -⟩ := e2
 subst ed
 rcases hd with ⟨⟨_, h0⟩ | ⟨db, dd, c, ek, hB, hps⟩, _⟩
 ·cases h0
 ·simp only [Value.slice.injEq] at ek
  obtain ⟨rfl, rfl, rfl⟩ := ek
  obtain ⟨_, _, ⟨mv, hm, hms⟩, _⟩ := hps 0 _ rfl
  rcases hms with ⟨⟨_, h0⟩ | ⟨mb, mo, mc, rfl, hmB, hpm⟩, _⟩
  ·cases h0
  ·obtain ⟨_, _, ht⟩ := hpm 0 _ rfl
   refine ⟨db, dd, dc, la, ln, lc, aa, an, ac, ta, tn, tc, ua, un, uc, ka, kn, kc, mb, mo, mc, e, hB.2, ?_, hmB.2, ?_⟩
   ·have := hm; rw [show dd + 0 * 14 + 1 = dd + 1 by omega] at this; exact this
   ·have := (TyAt.eq.1 ht).2.2.1.2.1; rw [show mo + 0 * 7 + 1 + 1 = mo + 1 + 1 by omega] at this; exact this
theorem xf4 {b : Nat} {w : World} {v : Value} (h : GTy b w xp4 v) : ∃ la ln lc ka kn kc, v = .agg #[.int .i64 6, .int .i64 7, .string ⟨#[]⟩, .int .i64 0, .slice la ln lc, .slice ka kn kc] := TyVal.open6 h
theorem two_new (w : World) (c1 c2 : Array Value) (t1 t2 : TypeId) : ((w.alloc (.cells c1 t1)).alloc (.cells c2 t2)).heap[w.heap.size]? = some (.cells c1 t1 (0, 0)) /\ ((w.alloc (.cells c1 t1)).alloc (.cells c2 t2)).heap[w.heap.size + 1]? = some (.cells c2 t2 (0, 0)) /\ Below w.heap.size w ((w.alloc (.cells c1 t1)).alloc (.cells c2 t2)) := by
 refine ⟨(Below.heap_alloc _ _ _ (by rw [World.size_alloc]; omega)).trans (World.alloc_heap_new _ _), ?_, ((Below.refl _ _).alloc (Nat.le_refl _) _).alloc (by simp) _⟩
 have h := World.alloc_heap_new (w.alloc (.cells c1 t1)) (.cells c2 t2)
 rw [World.size_alloc] at h
 exact h
theorem pawake_any (B : Nat) (w : World) (he : Tok.Env B w) : Calls Tryz.prog 8 #[] w fun e w' => e = .returned (.bool true) /\ Below w.heap.size w w' := by
 have HE := hid (fun W (hW : Below w.heap.size w W) => tok_env he hW)
 have HBS : Hid (Below w.heap.size w w) := hid (Below.refl _ _)
 clear he
 go_enter Tryz.func8, Tryz.ntmps8
 go_upto_region 2 with (go_at_call 13; refine (pProcess_any _ _ xsc1 B _ (HE.out _ HBS.out)).mono ?_; rw [xw1]; rintro en w1 ⟨⟨_, rfl, hg⟩, hb⟩; obtain ⟨la, ln, lc, aa, an, ac, ta, tn, tc, ua, un, uc, kb, ko, kc, rfl, hkb, hk1, hk2⟩ := xf1 hg; have HK1 := hid (And.intro hkb (And.intro hk1 hk2)); clear hkb hk1 hk2 hg; have HBn := hid (below_seq HBS.out hb); clear hb HBS; have HBS := HBn; clear HBn)
 obtain ⟨a1, ha1⟩ : ∃ a, w1.heap.size = a := ⟨_, rfl⟩
 have htw := two_new w1 #[.int .i64 7, .string ⟨#[]⟩, .string ⟨#[]⟩, .slice la ln lc, .slice aa an ac, .int .i64 0, .int .i64 0, .string ⟨#[]⟩, .int .i64 0, .slice ta tn tc, .slice ua un uc, .slice (some ⟨kb, ko, none⟩) 2 kc] #[.int .i64 0, .int .i64 0] 31 36
 obtain ⟨W1, hW1⟩ : ∃ W, (w1.alloc (.cells #[.int .i64 7, .string ⟨#[]⟩, .string ⟨#[]⟩, .slice la ln lc, .slice aa an ac, .int .i64 0, .int .i64 0, .string ⟨#[]⟩, .int .i64 0, .slice ta tn tc, .slice ua un uc, .slice (some ⟨kb, ko, none⟩) 2 kc] 31)).alloc (.cells #[.int .i64 0, .int .i64 0] 36) = W := ⟨_, rfl⟩
 rw [hW1, ha1] at htw
 rw [hW1]
 rw [ha1]
 have HA1 := hid ha1
 have HBn := hid (below_seq HBS.out (htw.2.2.mono (Nat.le_of_eq ha1)))
 clear HBS ha1 hW1
 have HBS := HBn
 clear HBn
 have HX1 := hid htw
 clear htw
 go_upto_region 3 with (go_at_call 13; refine (pProcess_any _ _ xsc2 B _ (HE.out _ HBS.out)).mono ?_; rw [xw2]; rintro en w2 ⟨rfl, hb⟩; have HC2 := hid hb; have HBn := hid (below_seq HBS.out hb); clear hb HBS; have HBS := HBn; clear HBn)
 obtain ⟨a2, ha2⟩ : ∃ a, w2.heap.size = a := ⟨_, rfl⟩
 have htw := two_new w2 #[.int .i64 0, .string ⟨#[]⟩, .string ⟨#[]⟩, .slice none 0 0, .slice none 0 0, .int .i64 0, .int .i64 0, .string ⟨#[]⟩, .int .i64 0, .slice none 0 0, .slice none 0 0, .slice none 0 0] #[.int .i64 1, .int .i64 5] 31 36
 obtain ⟨W2, hW2⟩ : ∃ W, (w2.alloc (.cells z12 31)).alloc (.cells #[.int .i64 1, .int .i64 5] 36) = W := ⟨_, rfl⟩
 rw [hW2, ha2] at htw
 rw [hW2]
 rw [ha2]
 have HA2 := hid ha2
 have HBn := hid (below_seq HBS.out (htw.2.2.mono (Nat.le_of_eq ha2)))
 clear HBS ha2 hW2
 have HBS := HBn
 clear HBn
 have HX2 := hid htw
 clear htw
 go_upto_region 4 with (go_at_call 9; refine (pProgram_any _ _ xsc3 B _ (HE.out _ HBS.out)).mono ?_; rw [xw3]; rintro en w3 ⟨⟨_, rfl, hg⟩, hb⟩; have HC3 := hid hb; obtain ⟨db, dd, dc, la3, ln3, lc3, aa3, an3, ac3, ta3, tn3, tc3, ua3, un3, uc3, ka3, kn3, kc3, mb, mo, mc, rfl, hdb, hd1, hmb, hm1⟩ := xf3 hg; have HK3 := hid (And.intro hdb (And.intro hd1 (And.intro hmb hm1))); clear hdb hd1 hmb hm1 hg; have HBn := hid (below_seq HBS.out hb); clear hb HBS; have HBS := HBn; clear HBn)
 obtain ⟨a3, ha3⟩ : ∃ a, w3.heap.size = a := ⟨_, rfl⟩
 have htw := two_new w3 #[.slice (some ⟨db, dd, none⟩) 1 dc, .int .i64 8, .string ⟨#[88]⟩, .string ⟨#[]⟩, .slice la3 ln3 lc3, .slice aa3 an3 ac3, .int .i64 0, .int .i64 0, .string ⟨#[]⟩, .int .i64 0, .slice ta3 tn3 tc3, .slice ua3 un3 uc3, .slice ka3 kn3 kc3] #[.int .i64 0, .int .i64 0] 33 36
 obtain ⟨W3, hW3⟩ : ∃ W, (w3.alloc (.cells #[.slice (some ⟨db, dd, none⟩) 1 dc, .int .i64 8, .string ⟨#[88]⟩, .string ⟨#[]⟩, .slice la3 ln3 lc3, .slice aa3 an3 ac3, .int .i64 0, .int .i64 0, .string ⟨#[]⟩, .int .i64 0, .slice ta3 tn3 tc3, .slice ua3 un3 uc3, .slice ka3 kn3 kc3] 33)).alloc (.cells #[.int .i64 0, .int .i64 0] 36) = W := ⟨_, rfl⟩
 rw [hW3, ha3] at htw
 rw [hW3]
 rw [ha3]
 have HA3 := hid ha3
 have HBn := hid (below_seq HBS.out (htw.2.2.mono (Nat.le_of_eq ha3)))
 clear HBS ha3 hW3
 have HBS := HBn
 clear HBn
 have HX3 := hid htw
 clear htw
 go_upto_region 5 with (go_at_call 16; refine (pType_any _ _ xsc4 B _ (HE.out _ HBS.out)).mono ?_; rw [xw4]; rintro en w4 ⟨⟨_, rfl, hg⟩, hb⟩; have HC4 := hid hb; obtain ⟨la4, ln4, lc4, ka4, kn4, kc4, rfl⟩ := xf4 hg; clear hg; have HBn := hid (below_seq HBS.out hb); clear hb HBS; have HBS := HBn; clear HBn)
 obtain ⟨a4, ha4⟩ : ∃ a, w4.heap.size = a := ⟨_, rfl⟩
 have htw := two_new w4 #[.int .i64 6, .int .i64 7, .string ⟨#[]⟩, .int .i64 0, .slice la4 ln4 lc4, .slice ka4 kn4 kc4] #[.int .i64 0, .int .i64 0] 28 36
 obtain ⟨W4, hW4⟩ : ∃ W, (w4.alloc (.cells #[.int .i64 6, .int .i64 7, .string ⟨#[]⟩, .int .i64 0, .slice la4 ln4 lc4, .slice ka4 kn4 kc4] 28)).alloc (.cells #[.int .i64 0, .int .i64 0] 36) = W := ⟨_, rfl⟩
 rw [hW4, ha4] at htw
 rw [hW4]
 rw [ha4]
 have HA4 := hid ha4
 have HBn := hid (below_seq HBS.out (htw.2.2.mono (Nat.le_of_eq ha4)))
 clear HBS ha4 hW4
 have HBS := HBn
 clear HBn
 have HX4 := hid htw
 clear htw
 have h34 : Below W3.heap.size W3 W4 := HC4.out.trans (HX4.out.2.2.mono (Nat.le_trans HC4.out.size (Nat.le_of_eq HA4.out)))
 have h3e : Below w3.heap.size w3 W4 := below_seq (HX3.out.2.2.mono (Nat.le_of_eq HA3.out)) h34
 have h2e : Below W2.heap.size W2 W4 := below_seq HC3.out h3e
 have h1e : Below W1.heap.size W1 W4 := below_seq (below_seq HC2.out (HX2.out.2.2.mono (Nat.le_of_eq HA2.out))) h2e
 have h0e : Below w1.heap.size w1 W4 := below_seq (HX1.out.2.2.mono (Nat.le_of_eq HA1.out)) h1e
 have q1 := (h1e.block _ (Array.getElem?_eq_some_iff.1 HX1.out.1).1).trans HX1.out.1
 have q2 := (h1e.block _ (Array.getElem?_eq_some_iff.1 HX1.out.2.1).1).trans HX1.out.2.1
 have q4 := (h2e.block _ (Array.getElem?_eq_some_iff.1 HX2.out.2.1).1).trans HX2.out.2.1
 have q5 := (h34.block _ (Array.getElem?_eq_some_iff.1 HX3.out.1).1).trans HX3.out.1
 have q6 := (h34.block _ (Array.getElem?_eq_some_iff.1 HX3.out.2.1).1).trans HX3.out.2.1
 have q7 := HX4.out.1
 have q8 := HX4.out.2.1
 have c10 : W4.cell? ⟨a1, 0, none⟩ = some (.int .i64 7) := by simp only [World.cell?, q1]; rfl
 have c11 : W4.cell? ⟨a1, 11, none⟩ = some (.slice (some ⟨kb, ko, none⟩) 2 kc) := by simp only [World.cell?, q1]; rfl
 have c20 : W4.cell? ⟨a1 + 1, 0, none⟩ = some (.int .i64 0) := by simp only [World.cell?, q2]; rfl
 have c21 : W4.cell? ⟨a1 + 1, 1, none⟩ = some (.int .i64 0) := by simp only [World.cell?, q2]; rfl
 have c40 : W4.cell? ⟨a2 + 1, 0, none⟩ = some (.int .i64 1) := by simp only [World.cell?, q4]; rfl
 have c41 : W4.cell? ⟨a2 + 1, 1, none⟩ = some (.int .i64 5) := by simp only [World.cell?, q4]; rfl
 have c50 : W4.cell? ⟨a3, 0, none⟩ = some (.slice (some ⟨db, dd, none⟩) 1 dc) := by simp only [World.cell?, q5]; rfl
 have c51 : W4.cell? ⟨a3, 1, none⟩ = some (.int .i64 8) := by simp only [World.cell?, q5]; rfl
 have c60 : W4.cell? ⟨a3 + 1, 0, none⟩ = some (.int .i64 0) := by simp only [World.cell?, q6]; rfl
 have c61 : W4.cell? ⟨a3 + 1, 1, none⟩ = some (.int .i64 0) := by simp only [World.cell?, q6]; rfl
 have c71 : W4.cell? ⟨a4, 1, none⟩ = some (.int .i64 7) := by simp only [World.cell?, q7]; rfl
 have c80 : W4.cell? ⟨a4 + 1, 0, none⟩ = some (.int .i64 0) := by simp only [World.cell?, q8]; rfl
 have c81 : W4.cell? ⟨a4 + 1, 1, none⟩ = some (.int .i64 0) := by simp only [World.cell?, q8]; rfl
 have k1 := (h0e.cell (p := ⟨kb, ko, none⟩) HK1.out.1).trans HK1.out.2.1
 have k2 := (h0e.cell (p := ⟨kb, ko + 12 + 1, none⟩) HK1.out.1).trans HK1.out.2.2
 have d1 := (h3e.cell (p := ⟨db, dd + 1, none⟩) HK3.out.1).trans HK3.out.2.1
 have m1 := (h3e.cell (p := ⟨mb, mo + 1 + 1, none⟩) HK3.out.2.2.1).trans HK3.out.2.2.2
 clear q1 q2 q4 q5 q6 q7 q8 h34 h3e h2e h1e h0e HX1 HX2 HX3 HX4 HK1 HK3 HC2 HC3 HC4 HA1 HA2 HA3 HA4 HE
 go_upto_region 7 with fail
 go_wp2_with fail
 go_ret
 exact ⟨rfl, HBS.out⟩
end Go.Proofs.YtejaboajgecpaaaGreatDoor
namespace Go.Proofs.YtejaboajgecpaaaGreatDoor
def S0 : List Tk -> List Tk -> Prop
 | [], [] => True
 | x :: r, y :: q => x.k = y.k /\ x.t = y.t /\ x.v = y.v /\ S0 r q
 | _, _ => False
theorem S0.refl : ∀ ts, S0 ts ts
 | [] => trivial
 | _ :: r => ⟨rfl, rfl, rfl, S0.refl r⟩
theorem s0_nil {ts : List Tk} (h : S0 [] ts) : ts = [] := by
 match ts, h with
 | [], _ => rfl
theorem s0_cons {x : Tk} {r ts : List Tk} (h : S0 (x :: r) ts) : ∃ y q, ts = y :: q /\ x.k = y.k /\ x.t = y.t /\ x.v = y.v /\ S0 r q := by
 match ts, h with
 | y :: q, h => exact ⟨y, q, rfl, h⟩
theorem s0_hd {s : ByteArray} : ∀ {ts ts' : List Tk}, S0 ts ts' -> hd s ts' = hd s ts
 | [], ts', h => by rw [s0_nil h]
 | x :: r, ts', h => by
  obtain ⟨y, q, rfl, _, e, _⟩ := s0_cons h
  show (y.t.toList == s.toList) = (x.t.toList == s.toList)
  rw [e]
theorem s0_tail {s : ByteArray} : ∀ {ts ts' : List Tk}, S0 ts ts' -> hd s ts = true -> S0 ts.tail ts'.tail /\ ts.tail.length + 1 = ts.length
 | [], _, _, h => by cases h
 | x :: r, ts', h, _ => by
  obtain ⟨y, q, rfl, _, _, _, h⟩ := s0_cons h
  exact ⟨h, rfl⟩
def C0 {α : Type} (n : Nat) (A B : PR α) : Prop := match A, B with
 | .ok x r, .ok y q => x = y /\ S0 r q /\ r.length <= n
 | .bad e _, .bad e' _ => e = e' /\ e ≠ 0
 | _, _ => False
section
variable {α β : Type} {n m : Nat}
theorem C0.ok {x : α} {r q : List Tk} (h : S0 r q) (hl : r.length <= n) : C0 n (.ok x r) (.ok x q) := ⟨rfl, h, hl⟩
theorem C0.bad {e : Int} {r q : List Tk} (he : e ≠ 0 := by decide) : C0 n (.bad e r : PR α) (.bad e q) := ⟨rfl, he⟩
theorem C0.mono {A B : PR α} (h : C0 n A B) (hm : n <= m) : C0 m A B := by
 match A, B, h with
 | .ok x r, .ok y q, h => exact ⟨h.1, h.2.1, Nat.le_trans h.2.2 hm⟩
 | .bad e r, .bad e' q, h => exact h
theorem C0.ite {s : ByteArray} {ts ts' : List Tk} {A A' B B' : PR α} (h : S0 ts ts') (hy : hd s ts = true -> C0 n A A') (hn : C0 n B B') : C0 n (if hd s ts = true then A else B) (if hd s ts' = true then A' else B') := by
 rw [s0_hd h]
 cases hh : hd s ts with
 | true => exact hy hh
 | false => exact hn
end
def Con {α : Type} (F : List Tk -> PR α) : Prop := ∀ ts ts', S0 ts ts' -> C0 ts.length (F ts) (F ts')
section
variable {α β : Type}
theorem Con.ok (x : α) : Con (fun r => .ok x r) := fun _ _ h => C0.ok h (Nat.le_refl _)
theorem Con.bind {A : List Tk -> PR α} {B : α -> List Tk -> PR β} (hA : Con A) (hB : ∀ x, Con (B x)) : Con (fun ts => (A ts).bind B) := by
 intro ts ts' h
 have ha := hA ts ts' h
 show C0 _ ((A ts).bind B) ((A ts').bind B)
 match A ts, A ts', ha with
 | .ok x r, .ok y q, ha =>
  obtain ⟨rfl, h1, h2⟩ := ha
  exact (hB x r q h1).mono h2
 | .bad e r, .bad e' q, ha => exact ha
theorem Con.ite {s : ByteArray} {A B : List Tk -> PR α} (hA : Con A) (hB : Con B) : Con (fun ts => if hd s ts = true then A ts.tail else B ts) := by
 intro ts ts' h
 refine C0.ite h (fun hh => ?_) (hB ts ts' h)
 obtain ⟨h1, h2⟩ := s0_tail h hh
 exact (hA _ _ h1).mono (by omega)
end
theorem con_need (s : ByteArray) : Con (need s) := by
 intro ts ts' h
 unfold need
 refine C0.ite h (fun hh => ?_) C0.bad
 obtain ⟨h1, h2⟩ := s0_tail h hh
 exact C0.ok h1 (by omega)
theorem con_name : Con (pname nameB) := by
 intro ts ts' h
 match ts, h with
 | [], h => rw [s0_nil h]; exact C0.bad
 | x :: r, h =>
  obtain ⟨y, q, rfl, _, ht, _, h⟩ := s0_cons h
  rw [pname, pname, ht]
  split
  ·exact C0.ok h (by simp)
  ·exact C0.bad
theorem con_number : Con pnumber := by
 intro ts ts' h
 match ts, h with
 | [], h => rw [s0_nil h]; exact C0.bad
 | x :: r, h =>
  obtain ⟨y, q, rfl, hk, _, hv, h⟩ := s0_cons h
  rw [pnumber, pnumber, hk, hv]
  split
  ·exact C0.bad
  ·split
   ·exact C0.bad
   ·exact C0.ok h (by simp)
theorem con_prio : Con pprio := by
 intro ts ts' h
 match ts, h with
 | [], h => rw [s0_nil h]; exact C0.ok (S0.refl _) (Nat.le_refl _)
 | x :: r, h =>
  have h0 := h
  obtain ⟨y, q, rfl, hk, _, _, _⟩ := s0_cons h
  rw [pprio, pprio, hk]
  split
  ·exact C0.ok h0 (Nat.le_refl _)
  ·exact con_number _ _ h0
theorem con_val : Con (pval nameB) := by
 intro ts ts' h
 match ts, h with
 | [], h => rw [s0_nil h]; exact C0.bad
 | x :: r, h =>
  obtain ⟨y, q, rfl, hk, ht, hv, h⟩ := s0_cons h
  rw [pval, pval, hk, ht, hv]
  repeat' split
  all_goals first | exact C0.ok h (by simp) | exact C0.bad
section
variable {α : Type} {F : List Tk -> PR α}
theorem con_list (hF : Con F) : ∀ g, Con (plist F g)
 | 0 => fun _ _ _ => C0.bad
 | g + 1 => Con.bind hF fun x => Con.ite (A := fun ts => (plist F g ts).bind fun l r => .ok (x :: l) r) (B := fun r => .ok [x] r) (Con.bind (con_list hF g) fun l => Con.ok (x :: l)) (Con.ok [x])
theorem con_case (hF : Con F) : Con (pcase nameB F) := Con.bind con_name fun _ => Con.bind (con_need _) fun _ => Con.bind hF fun _ => Con.ok _
theorem con_cases (hF : Con F) (g : Nat) : Con (pcases nameB F g) := Con.bind (con_need _) fun _ => Con.bind (con_list (con_case hF) g) fun _ => Con.bind (con_need _) fun _ => Con.ok _
theorem con_upto (hF : Con F) (s : ByteArray) (g : Nat) : Con (plistUpTo F s g) := Con.ite (A := fun r => .ok [] r) (B := fun ts => (plist F g ts).bind fun l r => (need s r).bind fun _ r => .ok l r) (Con.ok []) (Con.bind (con_list hF g) fun _ => Con.bind (con_need _) fun _ => Con.ok _)
end
theorem con_var : Con (pvar nameB) := Con.bind con_name fun n => Con.ite (s := sPlus) (A := fun r => (pnumber r).bind fun s r => .ok (Ty.mk 9 0 n s [] []) r) (B := fun r => .ok (Ty.mk 9 0 n 0 [] []) r) (Con.bind con_number fun s => Con.ok (Ty.mk 9 0 n s [] [])) (Con.ok _)
section
variable {S : List Tk -> PR Ty}
theorem con_any (hS : Con S) : Con (panyS S) := Con.ite (s := sInt) (A := fun r => .ok (Ty.mk 1 0 ⟨#[]⟩ 0 [] []) r) (B := fun ts => if hd sBool ts = true then .ok (Ty.mk 2 0 ⟨#[]⟩ 0 [] []) ts.tail else S ts) (Con.ok (Ty.mk 1 0 ⟨#[]⟩ 0 [] [])) (Con.ite (s := sBool) (A := fun r => .ok (Ty.mk 2 0 ⟨#[]⟩ 0 [] []) r) (Con.ok (Ty.mk 2 0 ⟨#[]⟩ 0 [] [])) hS)
theorem con_pay (hS : Con S) : Con (ppayS S) := by
 intro ts ts' h
 unfold ppayS
 rw [s0_hd (s := sBang) h, s0_hd (s := sAsk) h, s0_hd (s := sPlus) h, s0_hd (s := sAnd) h, s0_hd (s := sRec) h]
 split
 ·exact C0.bad
 ·exact con_any hS ts ts' h
theorem con_exch (hS : Con S) (k : Int) : Con (pexchS S k) := Con.bind con_prio fun _ => Con.bind (con_pay hS) fun _ => Con.bind (con_need _) fun _ => Con.bind hS fun _ => Con.ok _
theorem con_choice (hS : Con S) (g : Nat) (k : Int) : Con (pchoiceS nameB S g k) := Con.bind con_prio fun _ => Con.bind (con_cases hS g) fun _ => Con.ok _
theorem con_rec (hS : Con S) : Con (precS nameB S) := Con.bind con_name fun _ => Con.bind (con_need _) fun _ => Con.bind hS fun _ => Con.ok _
end
theorem con_sess : ∀ f, Con (psess nameB f)
 | 0 => fun _ _ _ => C0.bad
 | f + 1 => by
  intro ts ts' h
  have ih := con_sess f
  rw [psess, psess]
  refine C0.ite h (fun hh => ?_) (C0.ite h (fun hh => ?_) (C0.ite h (fun hh => ?_) (C0.ite h (fun hh => ?_) (C0.ite h (fun hh => ?_) (C0.ite h (fun hh => ?_) (C0.ite h (fun hh => ?_) (con_var ts ts' h)))))))
  all_goals obtain ⟨h3, h4⟩ := s0_tail h hh
  ·exact C0.ok h3 (by omega)
  ·exact (con_exch ih 4 _ _ h3).mono (by omega)
  ·exact (con_exch ih 5 _ _ h3).mono (by omega)
  ·exact (con_choice ih f 6 _ _ h3).mono (by omega)
  ·exact (con_choice ih f 7 _ _ h3).mono (by omega)
  ·exact (con_rec ih _ _ h3).mono (by omega)
  ·exact ((Con.bind ih fun t => Con.bind (con_need sShut) fun _ => Con.ok t) _ _ h3).mono (by omega)
section
variable {S P : List Tk -> PR Pr}
theorem con_rest (hS : Con S) : Con (prestS S) := Con.bind (con_need _) fun _ => hS
theorem con_send (hS : Con S) (c : ByteArray) : Con (psendS nameB S c) := Con.bind (con_need _) fun _ => Con.bind con_val fun _ => Con.bind (con_need _) fun _ => Con.bind (con_rest hS) fun _ => Con.ok _
theorem con_recv (hS : Con S) (c : ByteArray) : Con (precvS nameB S c) := Con.bind (con_need _) fun _ => Con.bind con_name fun _ => Con.bind (con_need _) fun _ => Con.bind (con_rest hS) fun _ => Con.ok _
theorem con_sel (hS : Con S) (c : ByteArray) : Con (pselS nameB S c) := Con.bind con_name fun _ => Con.bind (con_rest hS) fun _ => Con.ok _
theorem con_bra (hP : Con P) (g : Nat) (c : ByteArray) : Con (pbraS nameB P g c) := Con.bind (con_cases hP g) fun _ => Con.ok _
theorem con_call (g : Nat) (c : ByteArray) : Con (pcallS nameB g c) := Con.bind (con_need _) fun _ => Con.bind (con_upto con_val _ g) fun _ => Con.ok _
theorem con_new {T : List Tk -> PR Ty} (hT : Con T) (hS : Con S) : Con (pnewS nameB T S) := Con.bind (con_need _) fun _ => Con.bind con_name fun _ => Con.bind (con_need _) fun _ => Con.bind con_name fun _ => Con.bind (con_need _) fun _ => Con.bind hT fun _ => Con.bind (con_need _) fun _ => Con.bind hS fun _ => Con.ok _
theorem con_named (hP : Con P) (hS : Con S) (g : Nat) (c : ByteArray) : Con (pnamedS nameB P S g c) := by
 intro ts ts' h
 unfold pnamedS
 refine C0.ite h (fun hh => ?_) (C0.ite h (fun hh => ?_) (C0.ite h (fun hh => ?_) (C0.ite h (fun hh => ?_) (con_call g c ts ts' h))))
 all_goals obtain ⟨h3, h4⟩ := s0_tail h hh
 ·exact (con_send hS c _ _ h3).mono (by omega)
 ·exact (con_recv hS c _ _ h3).mono (by omega)
 ·exact (con_sel hS c _ _ h3).mono (by omega)
 ·exact (con_bra hP g c _ _ h3).mono (by omega)
end
theorem Con.par {F : List Tk -> PR (List Pr)} (h : Con F) : Con (fun r => (F r).bind fun l r => .ok (parOf l) r) := Con.bind h fun _ => Con.ok _
theorem con_parts : ∀ f b, Con (pparts nameB f b)
 | 0, _ => fun _ _ _ => C0.bad
 | f + 1, false => by
  intro ts ts' h
  rw [pparts, pparts]
  refine C0.ite h (fun hh => ?_) (C0.ite h (fun hh => ?_) (C0.ite h (fun hh => ?_) ?_))
  ·obtain ⟨h3, h4⟩ := s0_tail h hh
   exact C0.ok h3 (by omega)
  ·obtain ⟨h3, h4⟩ := s0_tail h hh
   exact ((Con.bind (con_parts f true) fun l => Con.bind (con_need sShut) fun _ => Con.ok [parOf l]) _ _ h3).mono (by omega)
  ·obtain ⟨h3, h4⟩ := s0_tail h hh
   exact ((Con.bind (con_new (con_sess f) (con_parts f false).par) fun p => Con.ok [p]) _ _ h3).mono (by omega)
  ·exact (Con.bind con_name fun c => Con.bind (con_named (con_parts f true).par (con_parts f false).par f c) fun p => Con.ok [p]) _ _ h
 | f + 1, true => by
  have h1 : Con (fun ts => if hd sOpen ts = true then (pparts nameB f true ts.tail).bind fun l r => (need sShut r).bind fun _ r => .ok l r else pparts nameB f false ts) := Con.ite (A := fun ts => (pparts nameB f true ts).bind fun l r => (need sShut r).bind fun _ r => .ok l r) (Con.bind (con_parts f true) fun l => Con.bind (con_need sShut) fun _ => Con.ok l) (con_parts f false)
  have h2 := Con.bind h1 fun l => Con.ite (s := sBar) (A := fun r => (pparts nameB f true r).bind fun m r => .ok (l ++ m) r) (B := fun r => .ok l r) (Con.bind (con_parts f true) fun m => Con.ok (l ++ m)) (Con.ok l)
  intro ts ts' h
  rw [pparts, pparts]
  exact h2 ts ts' h
theorem con_proc (f : Nat) : Con (pproc nameB f) := (con_parts f true).par
theorem con_body (f : Nat) : Con (pbody nameB f) := Con.bind (con_need _) fun _ => Con.bind (con_proc f) fun _ => Con.bind (con_need _) fun _ => Con.ok _
theorem con_param (f : Nat) : Con (pparam nameB f) := Con.bind con_name fun _ => Con.bind (con_need _) fun _ => Con.bind (con_any (con_sess f)) fun _ => Con.ok _
theorem con_def (f : Nat) : Con (pdef nameB f) := Con.bind con_name fun _ => Con.bind (con_need _) fun _ => Con.bind (con_upto (con_param f) _ f) fun _ => Con.bind (con_body f) fun _ => Con.ok _
theorem con_defs (f : Nat) : ∀ g, Con (pdefs nameB f g)
 | 0 => fun _ _ _ => C0.bad
 | g + 1 => by
  intro ts ts' h
  rw [pdefs, pdefs]
  refine C0.ite h (fun hh => ?_) (C0.ok h (Nat.le_refl _))
  obtain ⟨h3, h4⟩ := s0_tail h hh
  exact ((Con.bind (con_def f) fun d => Con.bind (con_defs f g) fun l => Con.ok (d :: l)) _ _ h3).mono (by omega)
theorem con_prog (f : Nat) : Con (pprog nameB f) := Con.bind (con_defs f f) fun _ => Con.bind (con_need _) fun _ => Con.bind (con_body f) fun _ => Con.ok _
end Go.Proofs.YtejaboajgecpaaaGreatDoor
