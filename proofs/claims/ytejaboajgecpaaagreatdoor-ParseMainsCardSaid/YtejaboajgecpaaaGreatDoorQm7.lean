/- Parsing: lemmas. -/
import Derived.Test.YtejaboajgecpaaaGreatDoorQm5
import Derived.Test.YtejaboajgecpaaaGreatDoorQm6
import Derived.BigRegion
import Derived.Deep.Cut
import Derived.Deep.RegionWith
import Derived.Defers
import Derived.Recover
set_option maxHeartbeats 16000000
set_option maxRecDepth 100000
namespace Go.Proofs.YtejaboajgecpaaaGreatDoor
open Go.Lib (hid)
open Go.RowKit Go.Shelf
structure But (P : Nat) (w w' : World) : Prop where
 os : w'.os = w.os
 tape : w'.tape = w.tape
 output : w'.output = w.output
 size : w.heap.size <= w'.heap.size
 block : ∀ k, k < w.heap.size -> k ≠ P -> w'.heap[k]? = w.heap[k]?
section
variable {P : Nat} {w w' w'' : World}
theorem But.refl (P : Nat) (w : World) : But P w w := ⟨rfl, rfl, rfl, Nat.le_refl _, fun _ _ _ => rfl⟩
theorem But.trans (h : But P w w') (k : But P w' w'') : But P w w'' := ⟨k.os.trans h.os, k.tape.trans h.tape, k.output.trans h.output, Nat.le_trans h.size k.size, fun j hj hn => (k.block j (Nat.lt_of_lt_of_le hj h.size) hn).trans (h.block j hj hn)⟩
theorem But.of (h : Below w.heap.size w w') : But P w w' := ⟨h.os, h.tape, h.output, h.size, fun j hj _ => h.block j hj⟩
theorem But.to (h : But P w w') (k : Below w'.heap.size w' w'') : But P w w'' := h.trans (But.of k)
theorem But.set (h : But P w w') (i : Nat) (v : Value) : But P w (w'.setCell ⟨P, i, none⟩ v) := ⟨h.os, h.tape, h.output, by simpa [World.setCell] using h.size, fun j hj hn => (Below.heap_setCell _ _ _ j hn).trans (h.block j hj hn)⟩
theorem But.below {B : Nat} (h : But P w w') (hP : B <= P) (hB : B <= w.heap.size) : Below B w w' := ⟨h.os, h.tape, h.output, h.size, fun j hj => h.block j (by omega) (by omega)⟩
theorem But.keeps {B : Nat -> Prop} (h : But P w w') (hB : ∀ k, B k -> k < w.heap.size /\ k ≠ P) : Keeps B w w' := fun k _ hk ho _ => (h.block k (hB k hk).1 (hB k hk).2).trans ho
theorem But.cell (h : But P w w') {p : Addr} (hp : p.block < w.heap.size) (hn : p.block ≠ P) : w'.cell? p = w.cell? p := by
 simp only [World.cell?, h.block _ hp hn]
end
def endTk (E : Int) : Tk := ⟨0, ⟨#[]⟩, 0, E⟩
def hdTk (E : Int) : List Tk -> Tk
 | [] => endTk E
 | x :: _ => x
abbrev tkV (x : Tk) : Value := .agg #[.int .i64 x.k, .string x.t, .int .i64 x.v, .int .i64 x.a]
def TkRow (w : World) (b o : Nat) (xs : List Tk) : Prop := ∀ (j : Nat) (x : Tk), xs[j]? = some x -> x.t.size <= maxLen /\ w.cell? ⟨b, o + j * 4, none⟩ = some (.int .i64 x.k) /\ w.cell? ⟨b, o + j * 4 + 1, none⟩ = some (.string x.t) /\ w.cell? ⟨b, o + j * 4 + 2, none⟩ = some (.int .i64 x.v) /\ w.cell? ⟨b, o + j * 4 + 3, none⟩ = some (.int .i64 x.a)
def PaIs (P tb : Nat) (E : Int) (ts : List Tk) (w : World) : Prop :=
 ∃ o cap, w.heap[P]? = some (.cells #[.slice (some ⟨tb, o, none⟩) (ts.length + 1) cap] 101 (0, 0)) /\ tb < w.heap.size /\ tb ≠ P /\ ts.length + 1 <= cap /\ ts.length <= 1000000 /\ TkRow w tb o (ts ++ [endTk E])
theorem PaIs.to {P tb : Nat} {E : Int} {ts : List Tk} {w w' : World} (h : PaIs P tb E ts w) (k : Below w.heap.size w w') : PaIs P tb E ts w' := by
 obtain ⟨o, cap, h1, h2, h3, h4, h5, h6⟩ := h
 have hP := (gl h1)
 refine ⟨o, cap, (k.block P hP).trans h1, Nat.lt_of_lt_of_le h2 k.size, h3, h4, h5, fun j x hj => ?_⟩
 obtain ⟨e0, e1, e2, e3, e4⟩ := h6 j x hj
 exact ⟨e0, (k.cell (p := ⟨tb, _, none⟩) h2).trans e1, (k.cell (p := ⟨tb, _, none⟩) h2).trans e2, (k.cell (p := ⟨tb, _, none⟩) h2).trans e3, (k.cell (p := ⟨tb, _, none⟩) h2).trans e4⟩
def posE (E : Int) (ts : List Tk) : Int := (hdTk E ts).a
abbrev faultP (e p : Int) : List PanicEntry := [{ v := .iface 36 (.agg #[.int .i64 e, .int .i64 p]), recovered := false }]
def Parsed {α : Type} (P tb : Nat) (E : Int) (w : World) (r : PR α) (G : World -> α -> Value -> Prop) (e : Ending) (w' : World) : Prop :=
 match r with
 | .ok x ts => (∃ v, e = .returned v /\ G w' x v) /\ PaIs P tb E ts w' /\ But P w w'
 | .bad err ts => e = .panicked (faultP err (posE E ts)) /\ But P w w'
theorem head_tk {P tb : Nat} {E : Int} {ts : List Tk} {w : World} (h : PaIs P tb E ts w) : ∃ o cap, w.cell? ⟨P, 0, none⟩ = some (.slice (some ⟨tb, o, none⟩) (ts.length + 1) cap) /\ w.frozen? ⟨P, 0, none⟩ = false /\ (hdTk E ts).t.size <= maxLen /\ w.cell? ⟨tb, o, none⟩ = some (.int .i64 (hdTk E ts).k) /\ w.cell? ⟨tb, o + 1, none⟩ = some (.string (hdTk E ts).t) /\ w.cell? ⟨tb, o + 2, none⟩ = some (.int .i64 (hdTk E ts).v) /\ w.cell? ⟨tb, o + 3, none⟩ = some (.int .i64 (hdTk E ts).a) /\ ts.length <= 1000000 := by
 obtain ⟨o, cap, h1, h2, h3, h4, h5, h6⟩ := h
 have hh : (ts ++ [endTk E])[0]? = some (hdTk E ts) := by cases ts <;> rfl
 obtain ⟨e0, e1, e2, e3, e4⟩ := h6 0 _ hh
 refine ⟨o, cap, by simp [World.cell?, h1], frozen_of_block h1 0, e0, by simpa using e1, by simpa using e2, by simpa using e3, by simpa using e4, h5⟩
theorem tk_text (x : Tk) (w : World) : (Instr.field 99 (tkV x) 1).run Tryz.prog w = .ok (.string x.t) w := by kernel_rfl
theorem tk_kind (x : Tk) (w : World) : (Instr.field 99 (tkV x) 0).run Tryz.prog w = .ok (.int .i64 x.k) w := by kernel_rfl
theorem tk_at (x : Tk) (w : World) : (Instr.field 99 (tkV x) 3).run Tryz.prog w = .ok (.int .i64 x.a) w := by kernel_rfl
theorem c4 {w : World} {X : Nat} {T : TypeId} {a b c d : Value} (h : w.heap[X]? = some (.cells #[a, b, c, d] T (0, 0))) : (w.cell? ⟨X, 0, none⟩ = some a /\ w.cell? ⟨X, 1, none⟩ = some b /\ w.cell? ⟨X, 2, none⟩ = some c /\ w.cell? ⟨X, 3, none⟩ = some d) /\ w.frozen? ⟨X, 0, none⟩ = false /\ w.frozen? ⟨X, 1, none⟩ = false /\ w.frozen? ⟨X, 2, none⟩ = false /\ w.frozen? ⟨X, 3, none⟩ = false := by
 refine ⟨⟨?_, ?_, ?_, ?_⟩, frozen_of_block h 0, frozen_of_block h 1, frozen_of_block h 2, frozen_of_block h 3⟩ <;> simp [World.cell?, h]
theorem fill4 {w : World} {X : Nat} {T : TypeId} {a b c d : Value} (h : w.heap[X]? = some (.cells #[a, b, c, d] T (0, 0))) (a' b' c' d' : Value) : ((((w.setCell ⟨X, 0, none⟩ a').setCell ⟨X, 1, none⟩ b').setCell ⟨X, 2, none⟩ c').setCell ⟨X, 3, none⟩ d').heap[X]? = some (.cells #[a', b', c', d'] T (0, 0)) := set_block (set_block (set_block (set_block h 0 a') 1 b') 2 c') 3 d'
theorem next_any (P tb : Nat) (E : Int) (ts : List Tk) (w : World) (h : PaIs P tb E ts w) :
 Calls Tryz.prog 76 #[.pointer (some ⟨P, 0, none⟩)] w fun e w' => e = .returned (tkV (hdTk E ts)) /\ Below w.heap.size w w' := by
 obtain ⟨W1, hW1⟩ := ex1 (w.alloc (.cells #[.int .i64 0, .string ⟨#[]⟩, .int .i64 0, .int .i64 0] 99))
 have hb1 := (made hW1).1
 have x1 := (made hW1).2
 obtain ⟨o, cap, c0, -, hz, t0, t1, t2, t3, hl⟩ := head_tk (h.to hb1)
 obtain ⟨x, hx⟩ := ex1 (hdTk E ts)
 rw [hx] at t0 t1 t2 t3 hz |-
 obtain ⟨n, hn⟩ := ex1 (ts.length)
 rw [hn] at c0 hl
 have HW1 := hid hW1
 have HB1 := hid hb1
 have HX1 := hid x1
 obtain ⟨⟨y0, y1, y2, y3⟩, z0, z1, z2, z3⟩ := c4 x1
 clear hW1 hb1 x1 h hx hn
 go_enter Tryz.func76, Tryz.ntmps76
 go_upto_region 1 with fail
 rw [HW1.out]
 go_wp2_with fail
 obtain ⟨⟨q0, q1, q2, q3⟩, _⟩ := c4 (fill4 HX1.out (.int .i64 x.k) (.string x.t) (.int .i64 x.v) (.int .i64 x.a))
 refine bodyPost_ret (v := tkV x) (by simp [results, Tryz.results76, go_sem, q0, q1, q2, q3]) rfl ?_
 exact ⟨rfl, (((HB1.out.setCell (p := ⟨w.heap.size, 0, none⟩) (Nat.le_refl _) _).setCell (p := ⟨w.heap.size, 1, none⟩) (Nat.le_refl _) _).setCell (p := ⟨w.heap.size, 2, none⟩) (Nat.le_refl _) _).setCell (p := ⟨w.heap.size, 3, none⟩) (Nat.le_refl _) _⟩
theorem skip_any (P tb : Nat) (E : Int) (x : Tk) (ts : List Tk) (w : World) (h : PaIs P tb E (x :: ts) w) :
 Calls Tryz.prog 77 #[.pointer (some ⟨P, 0, none⟩)] w fun e w' => e = .returned (.tuple #[]) /\ PaIs P tb E ts w' /\ But P w w' := by
 obtain ⟨o, cap, h1, h2, h3, h4, h5, h6⟩ := h
 have c0 : w.cell? ⟨P, 0, none⟩ = some (.slice (some ⟨tb, o, none⟩) (ts.length + 1 + 1) cap) := by simp [World.cell?, h1]
 have f0 := frozen_of_block h1 0
 rw [List.length_cons] at h4 h5
 obtain ⟨n, hn⟩ := ex1 (ts.length)
 rw [hn] at c0 h4 h5
 have HX := hid h1
 have H6 := hid h6
 have HN := hid hn
 clear h1 h6 hn
 go_enter Tryz.func77, Tryz.ntmps77
 go_wp2_with fail
 go_end0
 refine ⟨rfl, ⟨o + 4, cap - 1, ?_, by simpa [World.setCell] using h2, h3, by rw [HN.out]; omega, by rw [HN.out]; omega, fun j y hj => ?_⟩, (But.refl P w).set 0 _⟩
 ·rw [HN.out]; exact set_block HX.out 0 _
 ·obtain ⟨e0, e1, e2, e3, e4⟩ := H6.out (j + 1) y (by simpa using hj)
  have hk : ∀ i, (w.setCell ⟨P, 0, none⟩ (.slice (some ⟨tb, o + 4, none⟩) (n + 1) (cap - 1))).cell? ⟨tb, i, none⟩ = w.cell? ⟨tb, i, none⟩ := fun i => by
   have h : (w.setCell ⟨P, 0, none⟩ (.slice (some ⟨tb, o + 4, none⟩) (n + 1) (cap - 1))).heap[tb]? = w.heap[tb]? := Below.heap_setCell _ _ _ tb h3
   simp only [World.cell?, h]
  have ea : o + 4 + j * 4 = o + (j + 1) * 4 := by omega
  refine ⟨e0, ?_, ?_, ?_, ?_⟩
  ·rw [hk, ea]; exact e1
  ·rw [hk, ea]; exact e2
  ·rw [hk, ea]; exact e3
  ·rw [hk, ea]; exact e4
theorem fail_any (P tb : Nat) (E : Int) (ts : List Tk) (err : Int) (w : World) (h : PaIs P tb E ts w) :
 Calls Tryz.prog 49 #[.pointer (some ⟨P, 0, none⟩), .int .i64 err] w fun e w' => e = .panicked (faultP err (posE E ts)) /\ But P w w' := by
 have HN := hid (next_any P tb E ts w h)
 have hf0 := tk_kind
 have hf1 := tk_text
 have hf3 := tk_at
 clear h
 go_enter Tryz.func49, Tryz.ntmps49
 go_wp2_with (go_at_call 76; refine HN.out.mono ?_; rintro en w1 ⟨rfl, hb1⟩; have HB1 := hid hb1; clear hb1)
 exact ⟨rfl, rfl, But.of HB1.out⟩
theorem take_any (P tb : Nat) (E : Int) (s : ByteArray) (hs : ((⟨#[]⟩ : ByteArray).toList == s.toList) = false) (ts : List Tk) (w : World) (h : PaIs P tb E ts w) :
 Calls Tryz.prog 50 #[.pointer (some ⟨P, 0, none⟩), .string s] w fun e w' => e = .returned (.bool (hd s ts)) /\ PaIs P tb E (if hd s ts = true then ts.tail else ts) w' /\ But P w w' := by
 have HN := hid (next_any P tb E ts w h)
 have hf0 := tk_kind
 have hf1 := tk_text
 have hf3 := tk_at
 have HH := hid h
 have h0 := h
 obtain ⟨_, _, _, _, hz, _⟩ := head_tk h
 clear h
 cases hh : hd s ts with
 | false =>
  have hne : ((hdTk E ts).t.toList == s.toList) = false := by
   cases ts with
   | nil => exact hs
   | cons x r => exact hh
  obtain ⟨x, hx⟩ := ex1 (hdTk E ts)
  rw [hx] at hne HN hz
  clear hh hx
  go_enter Tryz.func50, Tryz.ntmps50
  go_wp2_with (go_at_call 76; refine HN.out.mono ?_; rintro en w1 ⟨rfl, hb1⟩; have HB1 := hid hb1; clear hb1)
  go_ret
  exact ⟨rfl, by simpa using HH.out.to HB1.out, But.of HB1.out⟩
 | true =>
  match ts, h0, hh with
  | x :: r, h0, hh =>
   have hne : (x.t.toList == s.toList) = true := hh
   have HX := hid h0
   have HNX : Hid (Calls Tryz.prog 76 #[.pointer (some ⟨P, 0, none⟩)] w fun e w' => e = .returned (tkV x) /\ Below w.heap.size w w') := HN
   clear hh h0 HN
   go_enter Tryz.func50, Tryz.ntmps50
   go_wp2_with (first | (go_at_call 76; refine HNX.out.mono ?_; rintro en w1 ⟨rfl, hb1⟩; have HB1 := hid hb1; clear hb1) | (go_at_call 77; refine (skip_any P tb E x r _ (HX.out.to HB1.out)).mono ?_; rintro en w2 ⟨rfl, hp2, hb2⟩; have HP2 := hid hp2; have HB2 := hid hb2; clear hp2 hb2))
   go_ret
   exact ⟨rfl, by simpa using HP2.out, (But.of HB1.out).trans HB2.out⟩
end Go.Proofs.YtejaboajgecpaaaGreatDoor
namespace Go.Proofs.YtejaboajgecpaaaGreatDoor
open Go.RowKit Go.Deep Go.Shelf
theorem fault_assert (e p : Int) (w : World) : (Instr.typeAssert (.iface 36 (.agg #[.int .i64 e, .int .i64 p])) 20 36 false).run Tryz.prog w = .ok (.agg #[.int .i64 e, .int .i64 p]) w := by kernel_rfl
theorem catchT_panicking (X : Nat) (e p e0 p0 : Int) (older : List PanicEntry) (w : World) (hX : w.heap[X]? = some (.cells #[.int .i64 e0, .int .i64 p0] 36 (0, 0))) :
 CallsD Tryz.prog 67 #[.pointer (some ⟨X, 0, none⟩)] (.panicking ({ v := .iface 36 (.agg #[.int .i64 e, .int .i64 p]), recovered := false } :: older)) w fun en u' w' =>
  en = .returned (.tuple #[]) /\ u' = .panicking ({ v := .iface 36 (.agg #[.int .i64 e, .int .i64 p]), recovered := true } :: older) /\ w' = (w.setCell ⟨X, 0, none⟩ (.int .i64 e)).setCell ⟨X, 1, none⟩ (.int .i64 p) := by
 have c0 : w.cell? ⟨X, 0, none⟩ = some (.int .i64 e0) := by simp [World.cell?, hX]
 have c1 : w.cell? ⟨X, 1, none⟩ = some (.int .i64 p0) := by simp [World.cell?, hX]
 have f0 := frozen_of_block hX 0
 have f1 := frozen_of_block hX 1
 have hta := fault_assert
 clear hX
 refine callsD_of_wpS Tryz.func67 rfl fun c₀ cs hu => ?_
 apply wpS_seq
 apply wpS_region
 simp [wpOpsS, go_sem, recoverD, hu, Tryz.ntmps67, Exit.thenS]
 refine wpS_of_wp ?_
 simp only [List.setIfInBounds_toArray, Array.replicate_succ, Array.replicate_zero, List.push_toArray, List.append_toArray, List.nil_append, List.cons_append, List.set_cons_succ, List.set_cons_zero]
 go_wp2_with fail
 simp [bodyPostS, results, Tryz.results67]
theorem catchT_idle (X : Nat) (w : World) :
 CallsD Tryz.prog 67 #[.pointer (some ⟨X, 0, none⟩)] .returning w fun en u' w' => en = .returned (.tuple #[]) /\ u' = .returning /\ w' = w := by
 refine callsD_of_wpS Tryz.func67 rfl fun c₀ cs hu => ?_
 apply wpS_seq
 apply wpS_region
 simp [wpOpsS, go_sem, recoverD, hu, Tryz.ntmps67, Exit.thenS]
 refine wpS_of_wp ?_
 simp only [List.setIfInBounds_toArray, Array.replicate_succ, Array.replicate_zero, List.push_toArray, List.append_toArray, List.nil_append, List.cons_append, List.set_cons_succ, List.set_cons_zero]
 go_wp2_with fail
 cases c₀
 simp_all [bodyPostS, results, Tryz.results67]
theorem catchP_panicking (X : Nat) (e p e0 p0 : Int) (older : List PanicEntry) (w : World) (hX : w.heap[X]? = some (.cells #[.int .i64 e0, .int .i64 p0] 36 (0, 0))) :
 CallsD Tryz.prog 64 #[.pointer (some ⟨X, 0, none⟩)] (.panicking ({ v := .iface 36 (.agg #[.int .i64 e, .int .i64 p]), recovered := false } :: older)) w fun en u' w' =>
  en = .returned (.tuple #[]) /\ u' = .panicking ({ v := .iface 36 (.agg #[.int .i64 e, .int .i64 p]), recovered := true } :: older) /\ w' = (w.setCell ⟨X, 0, none⟩ (.int .i64 e)).setCell ⟨X, 1, none⟩ (.int .i64 p) := by
 have c0 : w.cell? ⟨X, 0, none⟩ = some (.int .i64 e0) := by simp [World.cell?, hX]
 have c1 : w.cell? ⟨X, 1, none⟩ = some (.int .i64 p0) := by simp [World.cell?, hX]
 have f0 := frozen_of_block hX 0
 have f1 := frozen_of_block hX 1
 have hta := fault_assert
 clear hX
 refine callsD_of_wpS Tryz.func64 rfl fun c₀ cs hu => ?_
 apply wpS_seq
 apply wpS_region
 simp [wpOpsS, go_sem, recoverD, hu, Tryz.ntmps64, Exit.thenS]
 refine wpS_of_wp ?_
 simp only [List.setIfInBounds_toArray, Array.replicate_succ, Array.replicate_zero, List.push_toArray, List.append_toArray, List.nil_append, List.cons_append, List.set_cons_succ, List.set_cons_zero]
 go_wp2_with fail
 simp [bodyPostS, results, Tryz.results64]
theorem catchP_idle (X : Nat) (w : World) :
 CallsD Tryz.prog 64 #[.pointer (some ⟨X, 0, none⟩)] .returning w fun en u' w' => en = .returned (.tuple #[]) /\ u' = .returning /\ w' = w := by
 refine callsD_of_wpS Tryz.func64 rfl fun c₀ cs hu => ?_
 apply wpS_seq
 apply wpS_region
 simp [wpOpsS, go_sem, recoverD, hu, Tryz.ntmps64, Exit.thenS]
 refine wpS_of_wp ?_
 simp only [List.setIfInBounds_toArray, Array.replicate_succ, Array.replicate_zero, List.push_toArray, List.append_toArray, List.nil_append, List.cons_append, List.set_cons_succ, List.set_cons_zero]
 go_wp2_with fail
 cases c₀
 simp_all [bodyPostS, results, Tryz.results64]
theorem catchG_panicking (X : Nat) (e p e0 p0 : Int) (older : List PanicEntry) (w : World) (hX : w.heap[X]? = some (.cells #[.int .i64 e0, .int .i64 p0] 36 (0, 0))) :
 CallsD Tryz.prog 47 #[.pointer (some ⟨X, 0, none⟩)] (.panicking ({ v := .iface 36 (.agg #[.int .i64 e, .int .i64 p]), recovered := false } :: older)) w fun en u' w' =>
  en = .returned (.tuple #[]) /\ u' = .panicking ({ v := .iface 36 (.agg #[.int .i64 e, .int .i64 p]), recovered := true } :: older) /\ w' = (w.setCell ⟨X, 0, none⟩ (.int .i64 e)).setCell ⟨X, 1, none⟩ (.int .i64 p) := by
 have c0 : w.cell? ⟨X, 0, none⟩ = some (.int .i64 e0) := by simp [World.cell?, hX]
 have c1 : w.cell? ⟨X, 1, none⟩ = some (.int .i64 p0) := by simp [World.cell?, hX]
 have f0 := frozen_of_block hX 0
 have f1 := frozen_of_block hX 1
 have hta := fault_assert
 clear hX
 refine callsD_of_wpS Tryz.func47 rfl fun c₀ cs hu => ?_
 apply wpS_seq
 apply wpS_region
 simp [wpOpsS, go_sem, recoverD, hu, Tryz.ntmps47, Exit.thenS]
 refine wpS_of_wp ?_
 simp only [List.setIfInBounds_toArray, Array.replicate_succ, Array.replicate_zero, List.push_toArray, List.append_toArray, List.nil_append, List.cons_append, List.set_cons_succ, List.set_cons_zero]
 go_wp2_with fail
 simp [bodyPostS, results, Tryz.results47]
theorem catchG_idle (X : Nat) (w : World) :
 CallsD Tryz.prog 47 #[.pointer (some ⟨X, 0, none⟩)] .returning w fun en u' w' => en = .returned (.tuple #[]) /\ u' = .returning /\ w' = w := by
 refine callsD_of_wpS Tryz.func47 rfl fun c₀ cs hu => ?_
 apply wpS_seq
 apply wpS_region
 simp [wpOpsS, go_sem, recoverD, hu, Tryz.ntmps47, Exit.thenS]
 refine wpS_of_wp ?_
 simp only [List.setIfInBounds_toArray, Array.replicate_succ, Array.replicate_zero, List.push_toArray, List.append_toArray, List.nil_append, List.cons_append, List.set_cons_succ, List.set_cons_zero]
 go_wp2_with fail
 cases c₀
 simp_all [bodyPostS, results, Tryz.results47]
end Go.Proofs.YtejaboajgecpaaaGreatDoor
namespace Go.Proofs.YtejaboajgecpaaaGreatDoor
open Go.Lib (hid)
open Go.RowKit Go.Shelf
def GU (_ : World) (_ : Unit) (v : Value) : Prop := v = .tuple #[]
def GStr (_ : World) (s : ByteArray) (v : Value) : Prop := v = .string s /\ s.size <= maxLen
def GInt (_ : World) (x : Int) (v : Value) : Prop := v = .int .i64 x
theorem PaIs.lt {P tb : Nat} {E : Int} {ts : List Tk} {w : World} (h : PaIs P tb E ts w) : P < w.heap.size := by
 obtain ⟨o, cap, h1, _⟩ := h
 exact (gl h1)
theorem Env.but {B P : Nat} {w w' : World} (h : Env B w) (k : But P w w') (hP : B <= P) : Env B w' := h.below (k.below hP h.size)
theorem expect_any (P tb : Nat) (E : Int) (s : ByteArray) (hs : ((⟨#[]⟩ : ByteArray).toList == s.toList) = false) (ts : List Tk) (w : World) (h : PaIs P tb E ts w) :
 Calls Tryz.prog 52 #[.pointer (some ⟨P, 0, none⟩), .string s] w (Parsed P tb E w (need s ts) GU) := by
 have HT := hid (take_any P tb E s hs ts w h)
 unfold need
 clear h
 cases hh : hd s ts with
 | true =>
  rw [hh] at HT
  clear hh
  go_enter Tryz.func52, Tryz.ntmps52
  go_wp2_with (go_at_call 50; refine HT.out.mono ?_; rintro en w1 ⟨rfl, hp1, hb1⟩; have HP1 := hid hp1; have HB1 := hid hb1; clear hp1 hb1)
  go_end0
  exact ⟨⟨_, rfl, rfl⟩, by simpa using HP1.out, HB1.out⟩
 | false =>
  rw [hh] at HT
  clear hh
  go_enter Tryz.func52, Tryz.ntmps52
  go_wp2_with (first | (go_at_call 50; refine HT.out.mono ?_; rintro en w1 ⟨rfl, hp1, hb1⟩; have HP1 : Hid (PaIs P tb E ts w1) := hid (by simpa using hp1); have HB1 := hid hb1; clear hp1 hb1) | (go_at_call 49; refine (fail_any P tb E ts 1 _ HP1.out).mono ?_; rintro en w2 ⟨rfl, hb2⟩; have HB2 := hid hb2; clear hb2))
  exact ⟨rfl, rfl, HB1.out.trans HB2.out⟩
theorem expectEnd_any (P tb : Nat) (E : Int) (ts : List Tk) (w : World) (h : PaIs P tb E ts w) :
 Calls Tryz.prog 48 #[.pointer (some ⟨P, 0, none⟩)] w (Parsed P tb E w (if ts = [] then .ok () [] else .bad 1 ts) GU) := by
 have HH := hid h
 obtain ⟨o, cap, c0, -, -, -, -, -, -, hl⟩ := head_tk h
 have HF := hid (fail_any P tb E ts 1 w h)
 clear h
 cases ts with
 | nil =>
  rw [if_pos rfl]
  go_enter Tryz.func48, Tryz.ntmps48
  go_wp2_with fail
  go_end0
  exact ⟨⟨_, rfl, rfl⟩, HH.out, But.refl _ _⟩
 | cons x r =>
  rw [if_neg (by simp)]
  obtain ⟨n, hn⟩ := ex1 (r.length)
  rw [List.length_cons, hn] at c0 hl
  have hd : decide (1 < n + 1 + 1) = true := by simp
  have hd' : decide ((1 : Int) < (n : Int) + 1 + 1) = true := by simp; omega
  clear hn
  go_enter Tryz.func48, Tryz.ntmps48
  go_wp2_with (go_at_call 49; refine HF.out.mono ?_; rintro en w2 ⟨rfl, hb2⟩; have HB2 := hid hb2; clear hb2)
  exact ⟨rfl, rfl, HB2.out⟩
theorem pname_any (P tb : Nat) (E : Int) (ts : List Tk) (B : Nat) (w : World) (he : Env B w) (h : PaIs P tb E ts w) :
 Calls Tryz.prog 78 #[.pointer (some ⟨P, 0, none⟩)] w (Parsed P tb E w (pname nameB ts) GStr) := by
 have HN := hid (next_any P tb E ts w h)
 have HE := hid he
 have hf1 := tk_text
 have HH := hid h
 obtain ⟨_, _, _, _, hz, _⟩ := head_tk h
 clear h he
 cases ts with
 | nil =>
  have hn : nameB (hdTk E []).t = false := show nameB ⟨#[]⟩ = false by decide +kernel
  have HNM := hid (fun W hW => name_any (hdTk E []).t hz B W hW)
  rw [hn] at HNM
  clear hn
  obtain ⟨x, hx⟩ := ex1 (hdTk E [])
  rw [hx] at HN HNM hz
  clear hx
  go_enter Tryz.func78, Tryz.ntmps78
  go_wp2_with (first | (go_at_call 76; refine HN.out.mono ?_; rintro en w1 ⟨rfl, hb1⟩; have HB1 := hid hb1; have HP1 := hid (HH.out.to HB1.out); clear hb1) | (go_at_call 108; refine (HNM.out _ (HE.out.to HB1.out)).mono ?_; rintro en w2 ⟨rfl, rfl⟩) | (go_at_call 49; refine (fail_any P tb E [] 1 _ HP1.out).mono ?_; rintro en w8 ⟨rfl, hb8⟩; have HB8 := hid hb8; clear hb8))
  exact ⟨rfl, rfl, (But.of HB1.out).trans HB8.out⟩
 | cons x r =>
  have hz' : x.t.size <= maxLen := hz
  obtain ⟨b, hb⟩ := ex1 (nameB x.t)
  have HNM := hid (fun W hW => name_any x.t hz' B W hW)
  rw [hb] at HNM
  replace HN : Hid (Calls Tryz.prog 76 #[.pointer (some ⟨P, 0, none⟩)] w fun e w' => e = .returned (tkV x) /\ Below w.heap.size w w') := HN
  cases b with
  | true =>
   have e : pname nameB (x :: r) = .ok x.t r := by rw [pname, if_pos hb]
   rw [e]
   clear e hb hz
   go_enter Tryz.func78, Tryz.ntmps78
   go_wp2_with (first | (go_at_call 76; refine HN.out.mono ?_; rintro en w1 ⟨rfl, hb1⟩; have HB1 := hid hb1; have HP1 := hid (HH.out.to HB1.out); clear hb1) | (go_at_call 108; refine (HNM.out _ (HE.out.to HB1.out)).mono ?_; rintro en w2 ⟨rfl, rfl⟩) | (go_at_call 77; refine (skip_any P tb E x r _ HP1.out).mono ?_; rintro en w9 ⟨rfl, hp9, hb9⟩; have HP9 := hid hp9; have HB9 := hid hb9; clear hp9 hb9))
   go_ret
   exact ⟨⟨_, rfl, rfl, hz'⟩, HP9.out, (But.of HB1.out).trans HB9.out⟩
  | false =>
   have e : pname nameB (x :: r) = .bad 1 (x :: r) := by rw [pname, if_neg (by rw [hb]; simp)]
   rw [e]
   clear e hb hz
   go_enter Tryz.func78, Tryz.ntmps78
   go_wp2_with (first | (go_at_call 76; refine HN.out.mono ?_; rintro en w1 ⟨rfl, hb1⟩; have HB1 := hid hb1; have HP1 := hid (HH.out.to HB1.out); clear hb1) | (go_at_call 108; refine (HNM.out _ (HE.out.to HB1.out)).mono ?_; rintro en w2 ⟨rfl, rfl⟩) | (go_at_call 49; refine (fail_any P tb E (x :: r) 1 _ HP1.out).mono ?_; rintro en w8 ⟨rfl, hb8⟩; have HB8 := hid hb8; clear hb8))
   exact ⟨rfl, rfl, (But.of HB1.out).trans HB8.out⟩
theorem pnumber_any (P tb : Nat) (E : Int) (ts : List Tk) (w : World) (h : PaIs P tb E ts w) :
 Calls Tryz.prog 123 #[.pointer (some ⟨P, 0, none⟩)] w (Parsed P tb E w (pnumber ts) GInt) := by
 have HN := hid (next_any P tb E ts w h)
 have HH := hid h
 clear h
 obtain ⟨⟨k, t, v, a⟩, hx⟩ : ∃ x, hdTk E ts = x := ⟨_, rfl⟩
 rw [hx] at HN
 by_cases hk : k = 2
 case neg =>
  have e : pnumber ts = .bad 1 ts := by
   cases ts with
   | nil => rfl
   | cons y r => obtain rfl : y = ⟨k, t, v, a⟩ := hx; rw [pnumber, if_pos (.inl hk)]
  rw [e]
  have hk1 : (k == 2) = false := by simpa using hk
  have hk2 : (k != 2) = true := by simpa using hk
  clear e hk hx
  go_enter Tryz.func123, Tryz.ntmps123
  go_upto_region 2 with (go_at_call 76; refine HN.out.mono ?_; rintro en w1 ⟨rfl, hb1⟩; have HB1 := hid hb1; have HP1 := hid (HH.out.to HB1.out); clear hb1)
  obtain ⟨W2, hW2⟩ := ex1 (w1.alloc (.cells #[.int .i64 k, .string t, .int .i64 v, .int .i64 a] 99))
  have hb2 := (made hW2).1
  have x2 := (made hW2).2
  obtain ⟨⟨c0, c1, c2, c3⟩, -⟩ := c4 x2
  have HP2 := hid (HP1.out.to hb2)
  have HB2 := hid hb2
  have HX2 := hid x2
  have hne : w1.heap.size ≠ P := fun e => by have := HH.out.lt; have := HB1.out.size; omega
  have hs2 : w1.heap.size < W2.heap.size := (gl x2)
  rw [hW2]
  clear hW2 hb2 x2
  go_wp2_with (go_at_call 49; refine (fail_any P tb E ts 1 _ HP2.out).mono ?_; rintro en w8 ⟨rfl, hb8⟩; have HB8 := hid hb8; clear hb8)
  exact ⟨rfl, rfl, ((But.of HB1.out).to HB2.out).trans HB8.out⟩
 subst hk
 match ts, hx, HN, HH with
 | [], hx, _, _ => exact absurd (show (0 : Int) = 2 from congrArg Tk.k hx) (by decide)
 | y :: r, hx, HN, HH =>
  obtain rfl : y = ⟨2, t, v, a⟩ := hx
  clear hx
  by_cases hv : v < 0
  ·have e : pnumber (⟨2, t, v, a⟩ :: r) = .bad 1 (⟨2, t, v, a⟩ :: r) := by rw [pnumber, if_pos (.inr hv)]
   rw [e]
   have hv1 : decide (v < 0) = true := decide_eq_true hv
   clear e hv
   go_enter Tryz.func123, Tryz.ntmps123
   go_upto_region 2 with (go_at_call 76; refine HN.out.mono ?_; rintro en w1 ⟨rfl, hb1⟩; have HB1 := hid hb1; have HP1 := hid (HH.out.to HB1.out); clear hb1)
   obtain ⟨W2, hW2⟩ := ex1 (w1.alloc (.cells #[.int .i64 2, .string t, .int .i64 v, .int .i64 a] 99))
   have hb2 := (made hW2).1
   have x2 := (made hW2).2
   obtain ⟨⟨c0, c1, c2, c3⟩, -⟩ := c4 x2
   have HP2 := hid (HP1.out.to hb2)
   have HB2 := hid hb2
   have HX2 := hid x2
   have hne : w1.heap.size ≠ P := fun e => by have := HH.out.lt; have := HB1.out.size; omega
   have hs2 : w1.heap.size < W2.heap.size := (gl x2)
   rw [hW2]
   clear hW2 hb2 x2
   go_wp2_with (go_at_call 49; refine (fail_any P tb E _ 1 _ HP2.out).mono ?_; rintro en w8 ⟨rfl, hb8⟩; have HB8 := hid hb8; clear hb8)
   exact ⟨rfl, rfl, ((But.of HB1.out).to HB2.out).trans HB8.out⟩
  have hv1 : decide (v < 0) = false := decide_eq_false hv
  by_cases hm : 1000000 < v
  ·have e : pnumber (⟨2, t, v, a⟩ :: r) = .bad 2 (⟨2, t, v, a⟩ :: r) := by rw [pnumber, if_neg (fun h => h.elim (fun h => h rfl) hv), if_pos hm]
   rw [e]
   have hm1 : decide (1000000 < v) = true := decide_eq_true hm
   clear e hv hm
   go_enter Tryz.func123, Tryz.ntmps123
   go_upto_region 2 with (go_at_call 76; refine HN.out.mono ?_; rintro en w1 ⟨rfl, hb1⟩; have HB1 := hid hb1; have HP1 := hid (HH.out.to HB1.out); clear hb1)
   obtain ⟨W2, hW2⟩ := ex1 (w1.alloc (.cells #[.int .i64 2, .string t, .int .i64 v, .int .i64 a] 99))
   have hb2 := (made hW2).1
   have x2 := (made hW2).2
   obtain ⟨⟨c0, c1, c2, c3⟩, -⟩ := c4 x2
   have HP2 := hid (HP1.out.to hb2)
   have HB2 := hid hb2
   have HX2 := hid x2
   have hne : w1.heap.size ≠ P := fun e => by have := HH.out.lt; have := HB1.out.size; omega
   have hs2 : w1.heap.size < W2.heap.size := (gl x2)
   rw [hW2]
   clear hW2 hb2 x2
   go_wp2_with (go_at_call 49; refine (fail_any P tb E _ 2 _ HP2.out).mono ?_; rintro en w8 ⟨rfl, hb8⟩; have HB8 := hid hb8; clear hb8)
   exact ⟨rfl, rfl, ((But.of HB1.out).to HB2.out).trans HB8.out⟩
  ·have e : pnumber (⟨2, t, v, a⟩ :: r) = .ok v r := by rw [pnumber, if_neg (fun h => h.elim (fun h => h rfl) hv), if_neg hm]
   rw [e]
   have hm1 : decide (1000000 < v) = false := decide_eq_false hm
   clear e hv hm
   go_enter Tryz.func123, Tryz.ntmps123
   go_upto_region 2 with (go_at_call 76; refine HN.out.mono ?_; rintro en w1 ⟨rfl, hb1⟩; have HB1 := hid hb1; have HP1 := hid (HH.out.to HB1.out); clear hb1)
   obtain ⟨W2, hW2⟩ := ex1 (w1.alloc (.cells #[.int .i64 2, .string t, .int .i64 v, .int .i64 a] 99))
   have hb2 := (made hW2).1
   have x2 := (made hW2).2
   obtain ⟨⟨c0, c1, c2, c3⟩, -⟩ := c4 x2
   have HP2 := hid (HP1.out.to hb2)
   have HB2 := hid hb2
   have HX2 := hid x2
   have hne : w1.heap.size ≠ P := fun e => by have := HH.out.lt; have := HB1.out.size; omega
   have hs2 : w1.heap.size < W2.heap.size := (gl x2)
   rw [hW2]
   clear hW2 hb2 x2
   go_wp2_with (go_at_call 77; refine (skip_any P tb E _ r _ HP2.out).mono ?_; rintro en w9 ⟨rfl, hp9, hb9⟩; have HP9 := hid hp9; have HB9 := hid hb9; have d2 := (hb9.cell (p := ⟨w1.heap.size, 2, none⟩) hs2 hne).trans c2; clear hp9 hb9)
   go_ret
   exact ⟨⟨_, rfl, rfl⟩, HP9.out, ((But.of HB1.out).to HB2.out).trans HB9.out⟩
theorem pprio_any (P tb : Nat) (E : Int) (ts : List Tk) (w : World) (h : PaIs P tb E ts w) :
 Calls Tryz.prog 120 #[.pointer (some ⟨P, 0, none⟩)] w (Parsed P tb E w (pprio ts) GInt) := by
 have HN := hid (next_any P tb E ts w h)
 have hf0 := tk_kind
 have HH := hid h
 clear h
 obtain ⟨⟨k, t, v, a⟩, hx⟩ : ∃ x, hdTk E ts = x := ⟨_, rfl⟩
 rw [hx] at HN
 by_cases hk : k = 2
 case neg =>
  have e : pprio ts = .ok 0 ts := by
   cases ts with
   | nil => rfl
   | cons y r => obtain rfl : y = ⟨k, t, v, a⟩ := hx; rw [pprio, if_pos hk]
  rw [e]
  have hk1 : (k == 2) = false := by simpa using hk
  have hk2 : (k != 2) = true := by simpa using hk
  clear e hk hx
  go_enter Tryz.func120, Tryz.ntmps120
  go_wp2_with (go_at_call 76; refine HN.out.mono ?_; rintro en w1 ⟨rfl, hb1⟩; have HB1 := hid hb1; have HP1 := hid (HH.out.to HB1.out); clear hb1)
  go_ret
  exact ⟨⟨_, rfl, rfl⟩, HP1.out, But.of HB1.out⟩
 subst hk
 match ts, hx, HN, HH with
 | [], hx, _, _ => exact absurd (show (0 : Int) = 2 from congrArg Tk.k hx) (by decide)
 | y :: r, hx, HN, HH =>
  obtain rfl : y = ⟨2, t, v, a⟩ := hx
  clear hx
  have e : pprio (⟨2, t, v, a⟩ :: r) = pnumber (⟨2, t, v, a⟩ :: r) := by rw [pprio, if_neg (fun h => h rfl)]
  rw [e]
  clear e
  cases hr : pnumber (⟨2, t, v, a⟩ :: r) with
  | ok y s =>
   go_enter Tryz.func120, Tryz.ntmps120
   go_wp2_with (first | (go_at_call 76; refine HN.out.mono ?_; rintro en w1 ⟨rfl, hb1⟩; have HB1 := hid hb1; have HP1 := hid (HH.out.to HB1.out); clear hb1) | (go_at_call 123; refine (pnumber_any P tb E _ _ HP1.out).mono ?_; rw [hr]; rintro en w7 ⟨⟨_, rfl, rfl⟩, hp7, hb7⟩; have HP7 := hid hp7; have HB7 := hid hb7; clear hp7 hb7))
   go_ret
   exact ⟨⟨_, rfl, rfl⟩, HP7.out, (But.of HB1.out).trans HB7.out⟩
  | bad er s =>
   go_enter Tryz.func120, Tryz.ntmps120
   go_wp2_with (first | (go_at_call 76; refine HN.out.mono ?_; rintro en w1 ⟨rfl, hb1⟩; have HB1 := hid hb1; have HP1 := hid (HH.out.to HB1.out); clear hb1) | (go_at_call 123; refine (pnumber_any P tb E _ _ HP1.out).mono ?_; rw [hr]; rintro en w7 ⟨rfl, hb7⟩; have HB7 := hid hb7; clear hb7))
   exact ⟨rfl, rfl, (But.of HB1.out).trans HB7.out⟩
end Go.Proofs.YtejaboajgecpaaaGreatDoor
