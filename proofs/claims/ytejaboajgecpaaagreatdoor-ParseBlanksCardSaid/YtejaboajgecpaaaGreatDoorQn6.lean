/- Parsing: lemmas. -/
import Derived.Test.YtejaboajgecpaaaGreatDoorQn5
import Derived.Defers
import Derived.Recover
set_option maxHeartbeats 16000000
set_option maxRecDepth 100000
namespace Go.Proofs.YtejaboajgecpaaaGreatDoor
open Go.RowKit Go.Deep Go.Shelf
theorem fault_assert (e p : Int) (w : World) : (Instr.typeAssert (.iface 36 (.agg #[.int .i64 e, .int .i64 p])) 20 36 false).run Tryz.prog w = .ok (.agg #[.int .i64 e, .int .i64 p]) w := by kernel_rfl
theorem catchT_panicking (X : Nat) (e p e0 p0 : Int) (older : List PanicEntry) (w : World) (hX : w.heap[X]? = some (.cells #[.int .i64 e0, .int .i64 p0] 36 (0, 0))) :
 CallsD Tryz.prog 67 #[.pointer (some ⟨X, 0, none⟩)] (.panicking ({ v := .iface 36 (.agg #[.int .i64 e, .int .i64 p]), recovered := false } :: older)) w fun en u' w' =>
  en = .returned (.tuple #[]) /\ u' = .panicking ({ v := .iface 36 (.agg #[.int .i64 e, .int .i64 p]), recovered := true } :: older) /\ w' = (w.setCell ⟨X, 0, none⟩ (.int .i64 e)).setCell ⟨X, 1, none⟩ (.int .i64 p) := by
 have c0 : w.cell? ⟨X, 0, none⟩ = some (.int .i64 e0) := by simp [World.cell?, hX]
 have c1 : w.cell? ⟨X, 1, none⟩ = some (.int .i64 p0) := by simp [World.cell?, hX]
 have f0 := frozen_of_block hX 0
 have f1 := frozen_of_block hX 1
 have hta := fault_assert
 clear hX
 refine callsD_of_wpS Tryz.func67 rfl fun c₀ cs hu => ?_
 apply wpS_seq
 apply wpS_region
 simp [wpOpsS, go_sem, recoverD, hu, Tryz.ntmps67, Exit.thenS]
 refine wpS_of_wp ?_
 simp only [List.setIfInBounds_toArray, Array.replicate_succ, Array.replicate_zero, List.push_toArray, List.append_toArray, List.nil_append, List.cons_append, List.set_cons_succ, List.set_cons_zero]
 go_wp2_with fail
 simp [bodyPostS, results, Tryz.results67]
theorem catchT_idle (X : Nat) (w : World) :
 CallsD Tryz.prog 67 #[.pointer (some ⟨X, 0, none⟩)] .returning w fun en u' w' => en = .returned (.tuple #[]) /\ u' = .returning /\ w' = w := by
 refine callsD_of_wpS Tryz.func67 rfl fun c₀ cs hu => ?_
 apply wpS_seq
 apply wpS_region
 simp [wpOpsS, go_sem, recoverD, hu, Tryz.ntmps67, Exit.thenS]
 refine wpS_of_wp ?_
 simp only [List.setIfInBounds_toArray, Array.replicate_succ, Array.replicate_zero, List.push_toArray, List.append_toArray, List.nil_append, List.cons_append, List.set_cons_succ, List.set_cons_zero]
 go_wp2_with fail
 cases c₀
 simp_all [bodyPostS, results, Tryz.results67]
theorem catchP_panicking (X : Nat) (e p e0 p0 : Int) (older : List PanicEntry) (w : World) (hX : w.heap[X]? = some (.cells #[.int .i64 e0, .int .i64 p0] 36 (0, 0))) :
 CallsD Tryz.prog 64 #[.pointer (some ⟨X, 0, none⟩)] (.panicking ({ v := .iface 36 (.agg #[.int .i64 e, .int .i64 p]), recovered := false } :: older)) w fun en u' w' =>
  en = .returned (.tuple #[]) /\ u' = .panicking ({ v := .iface 36 (.agg #[.int .i64 e, .int .i64 p]), recovered := true } :: older) /\ w' = (w.setCell ⟨X, 0, none⟩ (.int .i64 e)).setCell ⟨X, 1, none⟩ (.int .i64 p) := by
 have c0 : w.cell? ⟨X, 0, none⟩ = some (.int .i64 e0) := by simp [World.cell?, hX]
 have c1 : w.cell? ⟨X, 1, none⟩ = some (.int .i64 p0) := by simp [World.cell?, hX]
 have f0 := frozen_of_block hX 0
 have f1 := frozen_of_block hX 1
 have hta := fault_assert
 clear hX
 refine callsD_of_wpS Tryz.func64 rfl fun c₀ cs hu => ?_
 apply wpS_seq
 apply wpS_region
 simp [wpOpsS, go_sem, recoverD, hu, Tryz.ntmps64, Exit.thenS]
 refine wpS_of_wp ?_
 simp only [List.setIfInBounds_toArray, Array.replicate_succ, Array.replicate_zero, List.push_toArray, List.append_toArray, List.nil_append, List.cons_append, List.set_cons_succ, List.set_cons_zero]
 go_wp2_with fail
 simp [bodyPostS, results, Tryz.results64]
theorem catchP_idle (X : Nat) (w : World) :
 CallsD Tryz.prog 64 #[.pointer (some ⟨X, 0, none⟩)] .returning w fun en u' w' => en = .returned (.tuple #[]) /\ u' = .returning /\ w' = w := by
 refine callsD_of_wpS Tryz.func64 rfl fun c₀ cs hu => ?_
 apply wpS_seq
 apply wpS_region
 simp [wpOpsS, go_sem, recoverD, hu, Tryz.ntmps64, Exit.thenS]
 refine wpS_of_wp ?_
 simp only [List.setIfInBounds_toArray, Array.replicate_succ, Array.replicate_zero, List.push_toArray, List.append_toArray, List.nil_append, List.cons_append, List.set_cons_succ, List.set_cons_zero]
 go_wp2_with fail
 cases c₀
 simp_all [bodyPostS, results, Tryz.results64]
theorem catchG_panicking (X : Nat) (e p e0 p0 : Int) (older : List PanicEntry) (w : World) (hX : w.heap[X]? = some (.cells #[.int .i64 e0, .int .i64 p0] 36 (0, 0))) :
 CallsD Tryz.prog 47 #[.pointer (some ⟨X, 0, none⟩)] (.panicking ({ v := .iface 36 (.agg #[.int .i64 e, .int .i64 p]), recovered := false } :: older)) w fun en u' w' =>
  en = .returned (.tuple #[]) /\ u' = .panicking ({ v := .iface 36 (.agg #[.int .i64 e, .int .i64 p]), recovered := true } :: older) /\ w' = (w.setCell ⟨X, 0, none⟩ (.int .i64 e)).setCell ⟨X, 1, none⟩ (.int .i64 p) := by
 have c0 : w.cell? ⟨X, 0, none⟩ = some (.int .i64 e0) := by simp [World.cell?, hX]
 have c1 : w.cell? ⟨X, 1, none⟩ = some (.int .i64 p0) := by simp [World.cell?, hX]
 have f0 := frozen_of_block hX 0
 have f1 := frozen_of_block hX 1
 have hta := fault_assert
 clear hX
 refine callsD_of_wpS Tryz.func47 rfl fun c₀ cs hu => ?_
 apply wpS_seq
 apply wpS_region
 simp [wpOpsS, go_sem, recoverD, hu, Tryz.ntmps47, Exit.thenS]
 refine wpS_of_wp ?_
 simp only [List.setIfInBounds_toArray, Array.replicate_succ, Array.replicate_zero, List.push_toArray, List.append_toArray, List.nil_append, List.cons_append, List.set_cons_succ, List.set_cons_zero]
 go_wp2_with fail
 simp [bodyPostS, results, Tryz.results47]
theorem catchG_idle (X : Nat) (w : World) :
 CallsD Tryz.prog 47 #[.pointer (some ⟨X, 0, none⟩)] .returning w fun en u' w' => en = .returned (.tuple #[]) /\ u' = .returning /\ w' = w := by
 refine callsD_of_wpS Tryz.func47 rfl fun c₀ cs hu => ?_
 apply wpS_seq
 apply wpS_region
 simp [wpOpsS, go_sem, recoverD, hu, Tryz.ntmps47, Exit.thenS]
 refine wpS_of_wp ?_
 simp only [List.setIfInBounds_toArray, Array.replicate_succ, Array.replicate_zero, List.push_toArray, List.append_toArray, List.nil_append, List.cons_append, List.set_cons_succ, List.set_cons_zero]
 go_wp2_with fail
 cases c₀
 simp_all [bodyPostS, results, Tryz.results47]
end Go.Proofs.YtejaboajgecpaaaGreatDoor
namespace Go.Proofs.YtejaboajgecpaaaGreatDoor
open Go.Lib (hid)
open Go.RowKit Go.Shelf
def GU (_ : World) (_ : Unit) (v : Value) : Prop := v = .tuple #[]
def GStr (_ : World) (s : ByteArray) (v : Value) : Prop := v = .string s /\ s.size <= maxLen
def GInt (_ : World) (x : Int) (v : Value) : Prop := v = .int .i64 x
theorem PaIs.lt {P tb : Nat} {E : Int} {ts : List Tk} {w : World} (h : PaIs P tb E ts w) : P < w.heap.size := by
 obtain ⟨o, cap, h1, _⟩ := h
 exact (gl h1)
theorem Env.but {B P : Nat} {w w' : World} (h : Env B w) (k : But P w w') (hP : B <= P) : Env B w' := h.below (k.below hP h.size)
theorem expect_any (P tb : Nat) (E : Int) (s : ByteArray) (hs : ((⟨#[]⟩ : ByteArray).toList == s.toList) = false) (ts : List Tk) (w : World) (h : PaIs P tb E ts w) :
 Calls Tryz.prog 52 #[.pointer (some ⟨P, 0, none⟩), .string s] w (Parsed P tb E w (need s ts) GU) := by
 have HT := hid (take_any P tb E s hs ts w h)
 unfold need
 clear h
 cases hh : hd s ts with
 | true =>
  rw [hh] at HT
  clear hh
  go_enter Tryz.func52, Tryz.ntmps52
  go_wp2_with (go_at_call 50; refine HT.out.mono ?_; rintro en w1 ⟨rfl, hp1, hb1⟩; have HP1 := hid hp1; have HB1 := hid hb1; clear hp1 hb1)
  go_end0
  exact ⟨⟨_, rfl, rfl⟩, by simpa using HP1.out, HB1.out⟩
 | false =>
  rw [hh] at HT
  clear hh
  go_enter Tryz.func52, Tryz.ntmps52
  go_wp2_with (first | (go_at_call 50; refine HT.out.mono ?_; rintro en w1 ⟨rfl, hp1, hb1⟩; have HP1 : Hid (PaIs P tb E ts w1) := hid (by simpa using hp1); have HB1 := hid hb1; clear hp1 hb1) | (go_at_call 49; refine (fail_any P tb E ts 1 _ HP1.out).mono ?_; rintro en w2 ⟨rfl, hb2⟩; have HB2 := hid hb2; clear hb2))
  exact ⟨rfl, rfl, HB1.out.trans HB2.out⟩
theorem expectEnd_any (P tb : Nat) (E : Int) (ts : List Tk) (w : World) (h : PaIs P tb E ts w) :
 Calls Tryz.prog 48 #[.pointer (some ⟨P, 0, none⟩)] w (Parsed P tb E w (if ts = [] then .ok () [] else .bad 1 ts) GU) := by
 have HH := hid h
 obtain ⟨o, cap, c0, -, -, -, -, -, -, hl⟩ := head_tk h
 have HF := hid (fail_any P tb E ts 1 w h)
 clear h
 cases ts with
 | nil =>
  rw [if_pos rfl]
  go_enter Tryz.func48, Tryz.ntmps48
  go_wp2_with fail
  go_end0
  exact ⟨⟨_, rfl, rfl⟩, HH.out, But.refl _ _⟩
 | cons x r =>
  rw [if_neg (by simp)]
  obtain ⟨n, hn⟩ := ex1 (r.length)
  rw [List.length_cons, hn] at c0 hl
  have hd : decide (1 < n + 1 + 1) = true := by simp
  have hd' : decide ((1 : Int) < (n : Int) + 1 + 1) = true := by simp; omega
  clear hn
  go_enter Tryz.func48, Tryz.ntmps48
  go_wp2_with (go_at_call 49; refine HF.out.mono ?_; rintro en w2 ⟨rfl, hb2⟩; have HB2 := hid hb2; clear hb2)
  exact ⟨rfl, rfl, HB2.out⟩
theorem pname_any (P tb : Nat) (E : Int) (ts : List Tk) (B : Nat) (w : World) (he : Env B w) (h : PaIs P tb E ts w) :
 Calls Tryz.prog 78 #[.pointer (some ⟨P, 0, none⟩)] w (Parsed P tb E w (pname nameB ts) GStr) := by
 have HN := hid (next_any P tb E ts w h)
 have HE := hid he
 have hf1 := tk_text
 have HH := hid h
 obtain ⟨_, _, _, _, hz, _⟩ := head_tk h
 clear h he
 cases ts with
 | nil =>
  have hn : nameB (hdTk E []).t = false := show nameB ⟨#[]⟩ = false by decide +kernel
  have HNM := hid (fun W hW => name_any (hdTk E []).t hz B W hW)
  rw [hn] at HNM
  clear hn
  obtain ⟨x, hx⟩ := ex1 (hdTk E [])
  rw [hx] at HN HNM hz
  clear hx
  go_enter Tryz.func78, Tryz.ntmps78
  go_wp2_with (first | (go_at_call 76; refine HN.out.mono ?_; rintro en w1 ⟨rfl, hb1⟩; have HB1 := hid hb1; have HP1 := hid (HH.out.to HB1.out); clear hb1) | (go_at_call 108; refine (HNM.out _ (HE.out.to HB1.out)).mono ?_; rintro en w2 ⟨rfl, rfl⟩) | (go_at_call 49; refine (fail_any P tb E [] 1 _ HP1.out).mono ?_; rintro en w8 ⟨rfl, hb8⟩; have HB8 := hid hb8; clear hb8))
  exact ⟨rfl, rfl, (But.of HB1.out).trans HB8.out⟩
 | cons x r =>
  have hz' : x.t.size <= maxLen := hz
  obtain ⟨b, hb⟩ := ex1 (nameB x.t)
  have HNM := hid (fun W hW => name_any x.t hz' B W hW)
  rw [hb] at HNM
  replace HN : Hid (Calls Tryz.prog 76 #[.pointer (some ⟨P, 0, none⟩)] w fun e w' => e = .returned (tkV x) /\ Below w.heap.size w w') := HN
  cases b with
  | true =>
   have e : pname nameB (x :: r) = .ok x.t r := by rw [pname, if_pos hb]
   rw [e]
   clear e hb hz
   go_enter Tryz.func78, Tryz.ntmps78
   go_wp2_with (first | (go_at_call 76; refine HN.out.mono ?_; rintro en w1 ⟨rfl, hb1⟩; have HB1 := hid hb1; have HP1 := hid (HH.out.to HB1.out); clear hb1) | (go_at_call 108; refine (HNM.out _ (HE.out.to HB1.out)).mono ?_; rintro en w2 ⟨rfl, rfl⟩) | (go_at_call 77; refine (skip_any P tb E x r _ HP1.out).mono ?_; rintro en w9 ⟨rfl, hp9, hb9⟩; have HP9 := hid hp9; have HB9 := hid hb9; clear hp9 hb9))
   go_ret
   exact ⟨⟨_, rfl, rfl, hz'⟩, HP9.out, (But.of HB1.out).trans HB9.out⟩
  | false =>
   have e : pname nameB (x :: r) = .bad 1 (x :: r) := by rw [pname, if_neg (by rw [hb]; simp)]
   rw [e]
   clear e hb hz
   go_enter Tryz.func78, Tryz.ntmps78
   go_wp2_with (first | (go_at_call 76; refine HN.out.mono ?_; rintro en w1 ⟨rfl, hb1⟩; have HB1 := hid hb1; have HP1 := hid (HH.out.to HB1.out); clear hb1) | (go_at_call 108; refine (HNM.out _ (HE.out.to HB1.out)).mono ?_; rintro en w2 ⟨rfl, rfl⟩) | (go_at_call 49; refine (fail_any P tb E (x :: r) 1 _ HP1.out).mono ?_; rintro en w8 ⟨rfl, hb8⟩; have HB8 := hid hb8; clear hb8))
   exact ⟨rfl, rfl, (But.of HB1.out).trans HB8.out⟩
theorem pnumber_any (P tb : Nat) (E : Int) (ts : List Tk) (w : World) (h : PaIs P tb E ts w) :
 Calls Tryz.prog 123 #[.pointer (some ⟨P, 0, none⟩)] w (Parsed P tb E w (pnumber ts) GInt) := by
 have HN := hid (next_any P tb E ts w h)
 have HH := hid h
 clear h
 obtain ⟨⟨k, t, v, a⟩, hx⟩ : ∃ x, hdTk E ts = x := ⟨_, rfl⟩
 rw [hx] at HN
 by_cases hk : k = 2
 case neg =>
  have e : pnumber ts = .bad 1 ts := by
   cases ts with
   | nil => rfl
   | cons y r => obtain rfl : y = ⟨k, t, v, a⟩ := hx; rw [pnumber, if_pos (.inl hk)]
  rw [e]
  have hk1 : (k == 2) = false := by simpa using hk
  have hk2 : (k != 2) = true := by simpa using hk
  clear e hk hx
  go_enter Tryz.func123, Tryz.ntmps123
  go_upto_region 2 with (go_at_call 76; refine HN.out.mono ?_; rintro en w1 ⟨rfl, hb1⟩; have HB1 := hid hb1; have HP1 := hid (HH.out.to HB1.out); clear hb1)
  obtain ⟨W2, hW2⟩ := ex1 (w1.alloc (.cells #[.int .i64 k, .string t, .int .i64 v, .int .i64 a] 99))
  have hb2 := (made hW2).1
  have x2 := (made hW2).2
  obtain ⟨⟨c0, c1, c2, c3⟩, -⟩ := c4 x2
  have HP2 := hid (HP1.out.to hb2)
  have HB2 := hid hb2
  have HX2 := hid x2
  have hne : w1.heap.size ≠ P := fun e => by have := HH.out.lt; have := HB1.out.size; omega
  have hs2 : w1.heap.size < W2.heap.size := (gl x2)
  rw [hW2]
  clear hW2 hb2 x2
  go_wp2_with (go_at_call 49; refine (fail_any P tb E ts 1 _ HP2.out).mono ?_; rintro en w8 ⟨rfl, hb8⟩; have HB8 := hid hb8; clear hb8)
  exact ⟨rfl, rfl, ((But.of HB1.out).to HB2.out).trans HB8.out⟩
 subst hk
 match ts, hx, HN, HH with
 | [], hx, _, _ => exact absurd (show (0 : Int) = 2 from congrArg Tk.k hx) (by decide)
 | y :: r, hx, HN, HH =>
  obtain rfl : y = ⟨2, t, v, a⟩ := hx
  clear hx
  by_cases hv : v < 0
  ·have e : pnumber (⟨2, t, v, a⟩ :: r) = .bad 1 (⟨2, t, v, a⟩ :: r) := by rw [pnumber, if_pos (.inr hv)]
   rw [e]
   have hv1 : decide (v < 0) = true := decide_eq_true hv
   clear e hv
   go_enter Tryz.func123, Tryz.ntmps123
   go_upto_region 2 with (go_at_call 76; refine HN.out.mono ?_; rintro en w1 ⟨rfl, hb1⟩; have HB1 := hid hb1; have HP1 := hid (HH.out.to HB1.out); clear hb1)
   obtain ⟨W2, hW2⟩ := ex1 (w1.alloc (.cells #[.int .i64 2, .string t, .int .i64 v, .int .i64 a] 99))
   have hb2 := (made hW2).1
   have x2 := (made hW2).2
   obtain ⟨⟨c0, c1, c2, c3⟩, -⟩ := c4 x2
   have HP2 := hid (HP1.out.to hb2)
   have HB2 := hid hb2
   have HX2 := hid x2
   have hne : w1.heap.size ≠ P := fun e => by have := HH.out.lt; have := HB1.out.size; omega
   have hs2 : w1.heap.size < W2.heap.size := (gl x2)
   rw [hW2]
   clear hW2 hb2 x2
   go_wp2_with (go_at_call 49; refine (fail_any P tb E _ 1 _ HP2.out).mono ?_; rintro en w8 ⟨rfl, hb8⟩; have HB8 := hid hb8; clear hb8)
   exact ⟨rfl, rfl, ((But.of HB1.out).to HB2.out).trans HB8.out⟩
  have hv1 : decide (v < 0) = false := decide_eq_false hv
  by_cases hm : 1000000 < v
  ·have e : pnumber (⟨2, t, v, a⟩ :: r) = .bad 2 (⟨2, t, v, a⟩ :: r) := by rw [pnumber, if_neg (fun h => h.elim (fun h => h rfl) hv), if_pos hm]
   rw [e]
   have hm1 : decide (1000000 < v) = true := decide_eq_true hm
   clear e hv hm
   go_enter Tryz.func123, Tryz.ntmps123
   go_upto_region 2 with (go_at_call 76; refine HN.out.mono ?_; rintro en w1 ⟨rfl, hb1⟩; have HB1 := hid hb1; have HP1 := hid (HH.out.to HB1.out); clear hb1)
   obtain ⟨W2, hW2⟩ := ex1 (w1.alloc (.cells #[.int .i64 2, .string t, .int .i64 v, .int .i64 a] 99))
   have hb2 := (made hW2).1
   have x2 := (made hW2).2
   obtain ⟨⟨c0, c1, c2, c3⟩, -⟩ := c4 x2
   have HP2 := hid (HP1.out.to hb2)
   have HB2 := hid hb2
   have HX2 := hid x2
   have hne : w1.heap.size ≠ P := fun e => by have := HH.out.lt; have := HB1.out.size; omega
   have hs2 : w1.heap.size < W2.heap.size := (gl x2)
   rw [hW2]
   clear hW2 hb2 x2
   go_wp2_with (go_at_call 49; refine (fail_any P tb E _ 2 _ HP2.out).mono ?_; rintro en w8 ⟨rfl, hb8⟩; have HB8 := hid hb8; clear hb8)
   exact ⟨rfl, rfl, ((But.of HB1.out).to HB2.out).trans HB8.out⟩
  ·have e : pnumber (⟨2, t, v, a⟩ :: r) = .ok v r := by rw [pnumber, if_neg (fun h => h.elim (fun h => h rfl) hv), if_neg hm]
   rw [e]
   have hm1 : decide (1000000 < v) = false := decide_eq_false hm
   clear e hv hm
   go_enter Tryz.func123, Tryz.ntmps123
   go_upto_region 2 with (go_at_call 76; refine HN.out.mono ?_; rintro en w1 ⟨rfl, hb1⟩; have HB1 := hid hb1; have HP1 := hid (HH.out.to HB1.out); clear hb1)
   obtain ⟨W2, hW2⟩ := ex1 (w1.alloc (.cells #[.int .i64 2, .string t, .int .i64 v, .int .i64 a] 99))
   have hb2 := (made hW2).1
   have x2 := (made hW2).2
   obtain ⟨⟨c0, c1, c2, c3⟩, -⟩ := c4 x2
   have HP2 := hid (HP1.out.to hb2)
   have HB2 := hid hb2
   have HX2 := hid x2
   have hne : w1.heap.size ≠ P := fun e => by have := HH.out.lt; have := HB1.out.size; omega
   have hs2 : w1.heap.size < W2.heap.size := (gl x2)
   rw [hW2]
   clear hW2 hb2 x2
   go_wp2_with (go_at_call 77; refine (skip_any P tb E _ r _ HP2.out).mono ?_; rintro en w9 ⟨rfl, hp9, hb9⟩; have HP9 := hid hp9; have HB9 := hid hb9; have d2 := (hb9.cell (p := ⟨w1.heap.size, 2, none⟩) hs2 hne).trans c2; clear hp9 hb9)
   go_ret
   exact ⟨⟨_, rfl, rfl⟩, HP9.out, ((But.of HB1.out).to HB2.out).trans HB9.out⟩
theorem pprio_any (P tb : Nat) (E : Int) (ts : List Tk) (w : World) (h : PaIs P tb E ts w) :
 Calls Tryz.prog 120 #[.pointer (some ⟨P, 0, none⟩)] w (Parsed P tb E w (pprio ts) GInt) := by
 have HN := hid (next_any P tb E ts w h)
 have hf0 := tk_kind
 have HH := hid h
 clear h
 obtain ⟨⟨k, t, v, a⟩, hx⟩ : ∃ x, hdTk E ts = x := ⟨_, rfl⟩
 rw [hx] at HN
 by_cases hk : k = 2
 case neg =>
  have e : pprio ts = .ok 0 ts := by
   cases ts with
   | nil => rfl
   | cons y r => obtain rfl : y = ⟨k, t, v, a⟩ := hx; rw [pprio, if_pos hk]
  rw [e]
  have hk1 : (k == 2) = false := by simpa using hk
  have hk2 : (k != 2) = true := by simpa using hk
  clear e hk hx
  go_enter Tryz.func120, Tryz.ntmps120
  go_wp2_with (go_at_call 76; refine HN.out.mono ?_; rintro en w1 ⟨rfl, hb1⟩; have HB1 := hid hb1; have HP1 := hid (HH.out.to HB1.out); clear hb1)
  go_ret
  exact ⟨⟨_, rfl, rfl⟩, HP1.out, But.of HB1.out⟩
 subst hk
 match ts, hx, HN, HH with
 | [], hx, _, _ => exact absurd (show (0 : Int) = 2 from congrArg Tk.k hx) (by decide)
 | y :: r, hx, HN, HH =>
  obtain rfl : y = ⟨2, t, v, a⟩ := hx
  clear hx
  have e : pprio (⟨2, t, v, a⟩ :: r) = pnumber (⟨2, t, v, a⟩ :: r) := by rw [pprio, if_neg (fun h => h rfl)]
  rw [e]
  clear e
  cases hr : pnumber (⟨2, t, v, a⟩ :: r) with
  | ok y s =>
   go_enter Tryz.func120, Tryz.ntmps120
   go_wp2_with (first | (go_at_call 76; refine HN.out.mono ?_; rintro en w1 ⟨rfl, hb1⟩; have HB1 := hid hb1; have HP1 := hid (HH.out.to HB1.out); clear hb1) | (go_at_call 123; refine (pnumber_any P tb E _ _ HP1.out).mono ?_; rw [hr]; rintro en w7 ⟨⟨_, rfl, rfl⟩, hp7, hb7⟩; have HP7 := hid hp7; have HB7 := hid hb7; clear hp7 hb7))
   go_ret
   exact ⟨⟨_, rfl, rfl⟩, HP7.out, (But.of HB1.out).trans HB7.out⟩
  | bad er s =>
   go_enter Tryz.func120, Tryz.ntmps120
   go_wp2_with (first | (go_at_call 76; refine HN.out.mono ?_; rintro en w1 ⟨rfl, hb1⟩; have HB1 := hid hb1; have HP1 := hid (HH.out.to HB1.out); clear hb1) | (go_at_call 123; refine (pnumber_any P tb E _ _ HP1.out).mono ?_; rw [hr]; rintro en w7 ⟨rfl, hb7⟩; have HB7 := hid hb7; clear hb7))
   exact ⟨rfl, rfl, (But.of HB1.out).trans HB7.out⟩
end Go.Proofs.YtejaboajgecpaaaGreatDoor
