/- Parsing: lemmas. -/
import Derived.Test.YtejaboajgecpaaaGreatDoorQn6
set_option maxHeartbeats 16000000
set_option maxRecDepth 100000
namespace Go.Proofs.YtejaboajgecpaaaGreatDoor
open Go.Lib (hid)
open Go.RowKit Go.Shelf
theorem take_no (P tb : Nat) (E : Int) (s : ByteArray) (hs : ((⟨#[]⟩ : ByteArray).toList == s.toList) = false) (ts : List Tk) (w : World) (hh : hd s ts = false) (h : PaIs P tb E ts w) :
 Calls Tryz.prog 50 #[.pointer (some ⟨P, 0, none⟩), .string s] w fun e w' => e = .returned (.bool false) /\ PaIs P tb E ts w' /\ But P w w' := by
 have h := take_any P tb E s hs ts w h
 rw [hh] at h
 exact h
theorem take_yes (P tb : Nat) (E : Int) (s : ByteArray) (hs : ((⟨#[]⟩ : ByteArray).toList == s.toList) = false) (ts : List Tk) (w : World) (hh : hd s ts = true) (h : PaIs P tb E ts w) :
 Calls Tryz.prog 50 #[.pointer (some ⟨P, 0, none⟩), .string s] w fun e w' => e = .returned (.bool true) /\ PaIs P tb E ts.tail w' /\ But P w w' := by
 have h := take_any P tb E s hs ts w h
 rw [hh] at h
 exact h
def GTy (b : Nat) (w' : World) (t : Ty) (v : Value) : Prop := TyVal (fun k => b <= k /\ k < w'.heap.size) w' v t
theorem noH {P tb : Nat} {E : Int} {s : ByteArray} {W1 W : World} {ts : List Tk} (HP : Hid (PaIs P tb E ts W)) (HB : Hid (But P W1 W)) (hs : ((⟨#[]⟩ : ByteArray).toList == s.toList) = false := by decide +kernel) (hh : hd s ts = false := by assumption) : Calls Tryz.prog 50 #[.pointer (some ⟨P, 0, none⟩), .string s] W fun e w' => e = .returned (.bool false) /\ Hid (PaIs P tb E ts w') /\ Hid (But P W1 w') := (take_no P tb E s hs ts W hh HP.out).mono (by rintro e w' ⟨rfl, hp, hb⟩; exact ⟨rfl, hid hp, hid (HB.out.trans hb)⟩)
theorem yesH {P tb : Nat} {E : Int} {s : ByteArray} {W1 W : World} {ts : List Tk} (HP : Hid (PaIs P tb E ts W)) (HB : Hid (But P W1 W)) (hs : ((⟨#[]⟩ : ByteArray).toList == s.toList) = false := by decide +kernel) (hh : hd s ts = true := by assumption) : Calls Tryz.prog 50 #[.pointer (some ⟨P, 0, none⟩), .string s] W fun e w' => e = .returned (.bool true) /\ Hid (PaIs P tb E ts.tail w') /\ Hid (But P W1 w') := (take_yes P tb E s hs ts W hh HP.out).mono (by rintro e w' ⟨rfl, hp, hb⟩; exact ⟨rfl, hid hp, hid (HB.out.trans hb)⟩)
theorem expH {P tb : Nat} {E : Int} {s : ByteArray} {W1 W : World} {ts r : List Tk} {u : Unit} (HP : Hid (PaIs P tb E ts W)) (HB : Hid (But P W1 W)) (h : need s ts = .ok u r) (hs : ((⟨#[]⟩ : ByteArray).toList == s.toList) = false := by decide +kernel) : Calls Tryz.prog 52 #[.pointer (some ⟨P, 0, none⟩), .string s] W fun e w' => e = .returned (.tuple #[]) /\ Hid (PaIs P tb E r w') /\ Hid (But P W1 w') := (expect_any P tb E s hs ts W HP.out).mono (by rw [h]; rintro e w' ⟨⟨_, rfl, rfl⟩, hp, hb⟩; exact ⟨rfl, hid hp, hid (HB.out.trans hb)⟩)
theorem expB {P tb : Nat} {E er : Int} {s : ByteArray} {W1 W : World} {ts r : List Tk} (HP : Hid (PaIs P tb E ts W)) (HB : Hid (But P W1 W)) (h : need s ts = .bad er r) (hs : ((⟨#[]⟩ : ByteArray).toList == s.toList) = false := by decide +kernel) : Calls Tryz.prog 52 #[.pointer (some ⟨P, 0, none⟩), .string s] W fun e w' => e = .panicked (faultP er (posE E r)) /\ Hid (But P W1 w') := (expect_any P tb E s hs ts W HP.out).mono (by rw [h]; rintro e w' ⟨rfl, hb⟩; exact ⟨rfl, hid (HB.out.trans hb)⟩)
theorem namH {P tb B : Nat} {E : Int} {x : ByteArray} {W1 W : World} {ts r : List Tk} (he : Env B W) (HP : Hid (PaIs P tb E ts W)) (HB : Hid (But P W1 W)) (h : pname nameB ts = .ok x r) : Calls Tryz.prog 78 #[.pointer (some ⟨P, 0, none⟩)] W fun e w' => e = .returned (.string x) /\ x.size <= maxLen /\ Hid (PaIs P tb E r w') /\ Hid (But P W1 w') := (pname_any P tb E ts B W he HP.out).mono (by rw [h]; rintro e w' ⟨⟨_, rfl, rfl, hz⟩, hp, hb⟩; exact ⟨rfl, hz, hid hp, hid (HB.out.trans hb)⟩)
theorem namB {P tb B : Nat} {E er : Int} {W1 W : World} {ts r : List Tk} (he : Env B W) (HP : Hid (PaIs P tb E ts W)) (HB : Hid (But P W1 W)) (h : pname nameB ts = .bad er r) : Calls Tryz.prog 78 #[.pointer (some ⟨P, 0, none⟩)] W fun e w' => e = .panicked (faultP er (posE E r)) /\ Hid (But P W1 w') := (pname_any P tb E ts B W he HP.out).mono (by rw [h]; rintro e w' ⟨rfl, hb⟩; exact ⟨rfl, hid (HB.out.trans hb)⟩)
theorem GTy.open {b : Nat} {w' : World} {t : Ty} {v : Value} (h : GTy b w' t v) : ∃ la ln lc ka kn kc, v = .agg #[.int .i64 t.k, .int .i64 t.p, .string t.n, .int .i64 t.s, .slice la ln lc, .slice ka kn kc] := by
 obtain ⟨lv, kv, rfl, _, hl, hk⟩ := h
 obtain ⟨la, ln, lc, rfl, _⟩ := hl.open
 obtain ⟨ka, kn, kc, rfl, _⟩ := hk.open
 exact ⟨_, _, _, _, _, _, rfl⟩
theorem GTy.but {b P : Nat} {w w' : World} {t : Ty} {v : Value} (h : GTy b w t v) (hb : But P w w') (hP : P < b) : GTy b w' t v :=
 (TyVal.keep (hb.keeps (fun k hk => ⟨hk.2, by omega⟩)) h).mono (fun k hk => ⟨hk.1, Nat.lt_of_lt_of_le hk.2 hb.size⟩)
theorem GTy.mono {b c : Nat} {w : World} {t : Ty} {v : Value} (h : GTy b w t v) (hc : c <= b) : GTy c w t v := TyVal.mono (fun _ hk => ⟨Nat.le_trans hc hk.1, hk.2⟩) h
theorem GTy.leaf (b : Nat) (w : World) (k p s : Int) (n : ByteArray) (hn : n.size <= maxLen) : GTy b w (.mk k p n s [] []) (.agg #[.int .i64 k, .int .i64 p, .string n, .int .i64 s, .slice none 0 0, .slice none 0 0]) :=
 ⟨_, _, rfl, hn, ⟨.inl ⟨⟨_, _, rfl⟩, rfl⟩, Nat.zero_le _, fun s hs => by cases hs⟩, ⟨.inl ⟨⟨_, _, rfl⟩, rfl⟩, Nat.zero_le _⟩⟩
theorem c6 {w : World} {X : Nat} {T : TypeId} {a b c d e f : Value} (h : w.heap[X]? = some (.cells #[a, b, c, d, e, f] T (0, 0))) : (w.cell? ⟨X, 0, none⟩ = some a /\ w.cell? ⟨X, 1, none⟩ = some b /\ w.cell? ⟨X, 2, none⟩ = some c /\ w.cell? ⟨X, 3, none⟩ = some d /\ w.cell? ⟨X, 4, none⟩ = some e /\ w.cell? ⟨X, 5, none⟩ = some f) /\ w.frozen? ⟨X, 0, none⟩ = false /\ w.frozen? ⟨X, 1, none⟩ = false /\ w.frozen? ⟨X, 2, none⟩ = false /\ w.frozen? ⟨X, 3, none⟩ = false /\ w.frozen? ⟨X, 4, none⟩ = false /\ w.frozen? ⟨X, 5, none⟩ = false := by
 refine ⟨⟨?_, ?_, ?_, ?_, ?_, ?_⟩, frozen_of_block h 0, frozen_of_block h 1, frozen_of_block h 2, frozen_of_block h 3, frozen_of_block h 4, frozen_of_block h 5⟩ <;> simp [World.cell?, h]
abbrev put6 (w : World) (X : Nat) (a b c d e f : Value) : World := (((((w.setCell ⟨X, 0, none⟩ a).setCell ⟨X, 1, none⟩ b).setCell ⟨X, 2, none⟩ c).setCell ⟨X, 3, none⟩ d).setCell ⟨X, 4, none⟩ e).setCell ⟨X, 5, none⟩ f
theorem fill6 {w : World} {X : Nat} {T : TypeId} {a b c d e f : Value} (h : w.heap[X]? = some (.cells #[a, b, c, d, e, f] T (0, 0))) (a' b' c' d' e' f' : Value) : (put6 w X a' b' c' d' e' f').heap[X]? = some (.cells #[a', b', c', d', e', f'] T (0, 0)) := set_block (set_block (set_block (set_block (set_block (set_block h 0 a') 1 b') 2 c') 3 d') 4 e') 5 f'
theorem oth1 (w : World) {X k : Nat} (i : Nat) (v : Value) (h : k ≠ X) : (w.setCell ⟨X, i, none⟩ v).heap[k]? = w.heap[k]? := Below.heap_setCell _ _ _ k h
theorem put6_oth {w : World} {X k : Nat} (h : k ≠ X) (a b c d e f : Value) : (put6 w X a b c d e f).heap[k]? = w.heap[k]? := by
 rw [oth1 _ _ _ h, oth1 _ _ _ h, oth1 _ _ _ h, oth1 _ _ _ h, oth1 _ _ _ h, oth1 _ _ _ h]
theorem put6_size (w : World) (X : Nat) (a b c d e f : Value) : (put6 w X a b c d e f).heap.size = w.heap.size := by simp [put6, World.setCell]
theorem PaIs.tlt {P tb : Nat} {E : Int} {ts : List Tk} {w : World} (h : PaIs P tb E ts w) : tb < w.heap.size := h.choose_spec.choose_spec.2.1
theorem But.setX {P X : Nat} {w w' : World} (h : But P w w') (hX : w.heap.size <= X) (i : Nat) (v : Value) : But P w (w'.setCell ⟨X, i, none⟩ v) :=
 ⟨h.os, h.tape, h.output, by simpa [World.setCell] using h.size, fun j hj hn => (Below.heap_setCell _ _ _ j (show j ≠ X by omega)).trans (h.block j hj hn)⟩
theorem But.put6 {P X : Nat} {w w' : World} (h : But P w w') (hX : w.heap.size <= X) (a b c d e f : Value) : But P w (put6 w' X a b c d e f) :=
 (((((h.setX hX 0 a).setX hX 1 b).setX hX 2 c).setX hX 3 d).setX hX 4 e).setX hX 5 f
theorem PaIs.oth {P X tb : Nat} {E : Int} {ts : List Tk} {w w' : World} (h : PaIs P tb E ts w) (hk : ∀ k, k ≠ X -> w'.heap[k]? = w.heap[k]?) (hs : w'.heap.size = w.heap.size) (hX : X ≠ P) (hne : tb ≠ X) : PaIs P tb E ts w' := by
 obtain ⟨o, cap, h1, h2, h3, h4, h5, h6⟩ := h
 refine ⟨o, cap, (hk P (Ne.symm hX)).trans h1, by rw [hs]; exact h2, h3, h4, h5, fun j x hj => ?_⟩
 obtain ⟨e0, e1, e2, e3, e4⟩ := h6 j x hj
 have hb := hk tb hne
 exact ⟨e0, by simpa only [World.cell?, hb] using e1, by simpa only [World.cell?, hb] using e2, by simpa only [World.cell?, hb] using e3, by simpa only [World.cell?, hb] using e4⟩
theorem pvar_any (P tb : Nat) (E : Int) (ts : List Tk) (B : Nat) (w : World) (he : Env B w) (h : PaIs P tb E ts w) :
 Calls Tryz.prog 96 #[.pointer (some ⟨P, 0, none⟩)] w (Parsed P tb E w (pvar nameB ts) (GTy w.heap.size)) := by
 obtain ⟨W1, hW1⟩ := ex1 (w.alloc (.cells z6 28))
 have hb1 := (made hW1).1
 have x1 := (made hW1).2
 have hs1 : w.heap.size < W1.heap.size := (gl x1)
 have hP : P < w.heap.size := h.lt
 have htb : tb ≠ w.heap.size := Nat.ne_of_lt h.tlt
 have HTB := hid h.tlt
 have HP : Hid (PaIs P tb E ts W1) := hid (h.to hb1)
 have HB : Hid (But P W1 W1) := hid (But.refl _ _)
 have HW1 := hid hW1
 have HB1 := hid hb1
 have HX1 := hid x1
 have HE := hid (he.to hb1)
 clear hW1 hb1 x1 he h
 unfold pvar
 cases hn : pname nameB ts with
 | bad er r =>
  show Calls _ _ _ _ (Parsed P tb E w (.bad er r) _)
  go_enter Tryz.func96, Tryz.ntmps96
  go_upto_region 1 with fail
  rw [HW1.out]
  go_wp2_with (go_at_call 78; refine (namB HE.out HP HB hn).mono ?_; rintro _ wn ⟨rfl, HB⟩)
  exact ⟨rfl, rfl, (But.of HB1.out).trans HB.out⟩
 | ok n r =>
  have hstart : ∀ (Q : Prop), Q -> Q := fun _ q => q
  cases hpl : hd sPlus r with
  | false =>
   show Calls _ _ _ _ (Parsed P tb E w (if hd sPlus r = true then _ else PR.ok (Ty.mk 9 0 n 0 [] []) r) _)
   rw [if_neg (by rw [hpl]; simp)]
   go_enter Tryz.func96, Tryz.ntmps96
   go_upto_region 1 with fail
   rw [HW1.out]
   go_upto_region 2 with (go_at_call 78; refine (namH HE.out HP HB hn).mono ?_; rintro _ w2 ⟨rfl, hnz, HP, HB⟩)
   obtain ⟨W3, hW3⟩ := ex1 (w2.alloc (.cells #[.int .i64 9, .int .i64 0, .string n, .int .i64 0, .slice none 0 0, .slice none 0 0] 28))
   have hb3 := (made hW3).1
   have x3 := (made hW3).2
   have hl3 : w2.heap.size < W3.heap.size := (gl x3)
   have hsz2 : w.heap.size < w2.heap.size := Nat.lt_of_lt_of_le hs1 HB.out.size
   have hn3 : w2.heap.size ≠ P := by omega
   have hl13 : W1.heap.size <= w2.heap.size := HB.out.size
   have HPn := hid (HP.out.to hb3)
   have HBn := hid (HB.out.to hb3)
   have HC : Hid (But P W3 W3) := hid (But.refl _ _)
   have HX3 := hid x3
   rw [hW3]
   clear HP HB hW3 hb3 x3
   have HP := HPn
   have HB := HBn
   clear HPn HBn
   go_upto_region 4 with (go_at_call 50; refine (take_no P tb E _ (by decide +kernel) _ _ (by assumption) HP.out).mono ?_; rintro en wn ⟨rfl, hp, hb⟩; replace HP := hid hp; replace HB := hid (HB.out.trans hb); replace HC := hid (HC.out.trans hb); clear hp hb)
   have hx3 := (HC.out.block w2.heap.size hl3 hn3).trans HX3.out
   obtain ⟨⟨d0, d1, d2, d3, d4, d5⟩, -⟩ := c6 hx3
   clear hx3
   have hx9 : wn.heap[w.heap.size]? = some (.cells z6 28 (0, 0)) := (HB.out.block w.heap.size hs1 (Nat.ne_of_gt hP)).trans HX1.out
   obtain ⟨⟨q0, q1, q2, q3, q4, q5⟩, z0, z1, z2, z3, z4, z5⟩ := c6 hx9
   have HX9 := hid hx9
   clear hx9
   go_wp2_with fail
   have hx8 := fill6 HX9.out (.int .i64 9) (.int .i64 0) (.string n) (.int .i64 0) (.slice none 0 0) (.slice none 0 0)
   obtain ⟨⟨y0, y1, y2, y3, y4, y5⟩, -⟩ := c6 hx8
   refine bodyPost_ret (v := .agg #[.int .i64 9, .int .i64 0, .string n, .int .i64 0, .slice none 0 0, .slice none 0 0]) (by simp [results, Tryz.results96, go_sem, y0, y1, y2, y3, y4, y5]) rfl ?_
   refine ⟨⟨_, rfl, GTy.leaf _ _ 9 0 0 n hnz⟩, HP.out.oth (X := w.heap.size) (fun j hj => put6_oth hj (.int .i64 9) (.int .i64 0) (.string n) (.int .i64 0) (.slice none 0 0) (.slice none 0 0)) (put6_size _ _ (.int .i64 9) (.int .i64 0) (.string n) (.int .i64 0) (.slice none 0 0) (.slice none 0 0)) (Nat.ne_of_gt hP) htb, ((But.of HB1.out).trans HB.out).put6 (Nat.le_refl _) (.int .i64 9) (.int .i64 0) (.string n) (.int .i64 0) (.slice none 0 0) (.slice none 0 0)⟩
  | true =>
   cases hs : pnumber r.tail with
   | bad er r2 =>
    show Calls _ _ _ _ (Parsed P tb E w (if hd sPlus r = true then (pnumber r.tail).bind _ else _) _)
    rw [if_pos hpl, hs]
    show Calls _ _ _ _ (Parsed P tb E w (PR.bad er r2) _)
    go_enter Tryz.func96, Tryz.ntmps96
    go_upto_region 1 with fail
    rw [HW1.out]
    go_upto_region 2 with (go_at_call 78; refine (namH HE.out HP HB hn).mono ?_; rintro _ w2 ⟨rfl, hnz, HP, HB⟩)
    obtain ⟨W3, hW3⟩ := ex1 (w2.alloc (.cells #[.int .i64 9, .int .i64 0, .string n, .int .i64 0, .slice none 0 0, .slice none 0 0] 28))
    have hb3 := (made hW3).1
    have x3 := (made hW3).2
    have hl3 : w2.heap.size < W3.heap.size := (gl x3)
    have hsz2 : w.heap.size < w2.heap.size := Nat.lt_of_lt_of_le hs1 HB.out.size
    have hn3 : w2.heap.size ≠ P := by omega
    have hl13 : W1.heap.size <= w2.heap.size := HB.out.size
    have HPn := hid (HP.out.to hb3)
    have HBn := hid (HB.out.to hb3)
    have HC : Hid (But P W3 W3) := hid (But.refl _ _)
    have HX3 := hid x3
    rw [hW3]
    clear HP HB hW3 hb3 x3
    have HP := HPn
    have HB := HBn
    clear HPn HBn
    go_wp2_with (first | (go_at_call 50; refine (take_yes P tb E _ (by decide +kernel) _ _ (by assumption) HP.out).mono ?_; rintro en wn ⟨rfl, hp, hb⟩; replace HP := hid hp; replace HB := hid (HB.out.trans hb); replace HC := hid (HC.out.trans hb); clear hp hb) | (go_at_call 123; refine (pnumber_any P tb E _ _ HP.out).mono ?_; rw [hs]; rintro en wn ⟨rfl, hb⟩; replace HB := hid (HB.out.trans hb); clear hb))
    exact ⟨rfl, rfl, (But.of HB1.out).trans HB.out⟩
   | ok sh r2 =>
    show Calls _ _ _ _ (Parsed P tb E w (if hd sPlus r = true then (pnumber r.tail).bind _ else _) _)
    rw [if_pos hpl, hs]
    show Calls _ _ _ _ (Parsed P tb E w (PR.ok (Ty.mk 9 0 n sh [] []) r2) _)
    go_enter Tryz.func96, Tryz.ntmps96
    go_upto_region 1 with fail
    rw [HW1.out]
    go_upto_region 2 with (go_at_call 78; refine (namH HE.out HP HB hn).mono ?_; rintro _ w2 ⟨rfl, hnz, HP, HB⟩)
    obtain ⟨W3, hW3⟩ := ex1 (w2.alloc (.cells #[.int .i64 9, .int .i64 0, .string n, .int .i64 0, .slice none 0 0, .slice none 0 0] 28))
    have hb3 := (made hW3).1
    have x3 := (made hW3).2
    have hl3 : w2.heap.size < W3.heap.size := (gl x3)
    have hsz2 : w.heap.size < w2.heap.size := Nat.lt_of_lt_of_le hs1 HB.out.size
    have hn3 : w2.heap.size ≠ P := by omega
    have hl13 : W1.heap.size <= w2.heap.size := HB.out.size
    have HPn := hid (HP.out.to hb3)
    have HBn := hid (HB.out.to hb3)
    have HC : Hid (But P W3 W3) := hid (But.refl _ _)
    have HX3 := hid x3
    rw [hW3]
    clear HP HB hW3 hb3 x3
    have HP := HPn
    have HB := HBn
    clear HPn HBn
    go_upto_region 4 with (first | (go_at_call 50; refine (take_yes P tb E _ (by decide +kernel) _ _ (by assumption) HP.out).mono ?_; rintro en wn ⟨rfl, hp, hb⟩; replace HP := hid hp; replace HB := hid (HB.out.trans hb); replace HC := hid (HC.out.trans hb); clear hp hb) | (go_at_call 123; refine (pnumber_any P tb E _ _ HP.out).mono ?_; rw [hs]; rintro en wn ⟨⟨_, rfl, rfl⟩, hp, hb⟩; replace HP := hid hp; replace HB := hid (HB.out.trans hb); replace HC := hid (HC.out.trans hb); clear hp hb; have hx3 := (HC.out.block w2.heap.size hl3 hn3).trans HX3.out; obtain ⟨⟨d0, d1, d2, d3, d4, d5⟩, g0, g1, g2, g3, g4, g5⟩ := c6 hx3; have HX3n := hid hx3; clear hx3))
    obtain ⟨W5, hW5⟩ := ex1 (wn.setCell ⟨w2.heap.size, 3, none⟩ (.int .i64 sh))
    have hk5 : ∀ k, k ≠ w2.heap.size -> W5.heap[k]? = wn.heap[k]? := fun k hk => by rw [<- hW5]; exact oth1 _ _ _ hk
    have hs5 : W5.heap.size = wn.heap.size := by rw [<- hW5]; simp [World.setCell]
    have HPn : Hid (PaIs P tb E r2 W5) := hid (HP.out.oth hk5 hs5 hn3 (Nat.ne_of_lt (Nat.lt_trans HTB.out hsz2)))
    have HBn : Hid (But P W1 W5) := hid (by rw [<- hW5]; exact HB.out.setX hl13 3 _)
    have hx3 : W5.heap[w2.heap.size]? = some (.cells #[.int .i64 9, .int .i64 0, .string n, .int .i64 sh, .slice none 0 0, .slice none 0 0] 28 (0, 0)) := by rw [<- hW5]; exact set_block HX3n.out 3 _
    rw [hW5]
    clear hW5 hk5 hs5 d0 d1 d2 d3 d4 d5 g0 g1 g2 g3 g4 g5 HP HB
    have HP := HPn
    have HB := HBn
    clear HPn HBn
    obtain ⟨⟨d0, d1, d2, d3, d4, d5⟩, -⟩ := c6 hx3
    clear hx3
    have hx9 : W5.heap[w.heap.size]? = some (.cells z6 28 (0, 0)) := (HB.out.block w.heap.size hs1 (Nat.ne_of_gt hP)).trans HX1.out
    obtain ⟨⟨q0, q1, q2, q3, q4, q5⟩, z0, z1, z2, z3, z4, z5⟩ := c6 hx9
    have HX9 := hid hx9
    clear hx9
    go_wp2_with fail
    have hx8 := fill6 HX9.out (.int .i64 9) (.int .i64 0) (.string n) (.int .i64 sh) (.slice none 0 0) (.slice none 0 0)
    obtain ⟨⟨y0, y1, y2, y3, y4, y5⟩, -⟩ := c6 hx8
    refine bodyPost_ret (v := .agg #[.int .i64 9, .int .i64 0, .string n, .int .i64 sh, .slice none 0 0, .slice none 0 0]) (by simp [results, Tryz.results96, go_sem, y0, y1, y2, y3, y4, y5]) rfl ?_
    refine ⟨⟨_, rfl, GTy.leaf _ _ 9 0 sh n hnz⟩, HP.out.oth (X := w.heap.size) (fun j hj => put6_oth hj (.int .i64 9) (.int .i64 0) (.string n) (.int .i64 sh) (.slice none 0 0) (.slice none 0 0)) (put6_size _ _ (.int .i64 9) (.int .i64 0) (.string n) (.int .i64 sh) (.slice none 0 0) (.slice none 0 0)) (Nat.ne_of_gt hP) htb, ((But.of HB1.out).trans HB.out).put6 (Nat.le_refl _) (.int .i64 9) (.int .i64 0) (.string n) (.int .i64 sh) (.slice none 0 0) (.slice none 0 0)⟩
end Go.Proofs.YtejaboajgecpaaaGreatDoor
