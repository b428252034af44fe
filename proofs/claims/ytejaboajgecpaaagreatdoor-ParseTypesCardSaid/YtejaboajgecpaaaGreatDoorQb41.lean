/- Parsing: lemmas. -/
import Derived.Test.YtejaboajgecpaaaGreatDoorQb40
set_option maxHeartbeats 16000000
set_option maxRecDepth 100000
namespace Go.Proofs.YtejaboajgecpaaaGreatDoor
open Go.Lib (hid)
open Go.RowKit Go.Deep Go.Shelf
theorem step_ok {α : Type} (E : Int) (x : α) (st : RS) : stepPR E (fun r => .ok x r) st = st := by cases st <;> rfl
theorem val_ok {α : Type} {x y : α} {st : RS} (h : valPR (fun r => .ok x r) st = some y) : x = y := by
 cases st with
 | inr z => cases h
 | inl ts => injection h
theorem step_bind {α β : Type} {E : Int} {A : List Tk -> PR α} {B : α -> List Tk -> PR β} {st : RS} (X : RS -> RS) (hB : ∀ a, stepPR E (B a) (stepPR E A st) = X (stepPR E A st)) (hX : ∀ z, X (.inr z) = .inr z) :
 stepPR E (fun ts => (A ts).bind B) st = X (stepPR E A st) := by
 match st with
 | .inr z => exact (hX z).symm
 | .inl ts =>
  cases h : A ts with
  | bad e r =>
   rw [stepPR_bad E h, hX]
   exact stepPR_bad E (by show (A ts).bind B = _; rw [h]; rfl)
  | ok a r =>
   have hB := hB a
   rw [stepPR_ok E h] at hB |-
   rw [<- hB]
   unfold stepPR
   dsimp only
   rw [h]
   rfl
theorem val_bind {α β : Type} (E : Int) {A : List Tk -> PR α} {B : α -> List Tk -> PR β} {st : RS} {y : β} (h : valPR (fun ts => (A ts).bind B) st = some y) :
 ∃ a, valPR A st = some a /\ valPR (B a) (stepPR E A st) = some y := by
 match st with
 | .inr z => cases h
 | .inl ts =>
  cases hA : A ts with
  | bad e r =>
   rw [valPR_bad (show (A ts).bind B = .bad e r by rw [hA]; rfl)] at h
   cases h
  | ok a r =>
   refine ⟨a, valPR_ok hA, ?_⟩
   rw [stepPR_ok E hA]
   have e : valPR (fun ts => (A ts).bind B) (.inl ts) = valPR (B a) (.inl r) := by
    unfold valPR
    dsimp only
    rw [hA]
    rfl
   rw [<- e]; exact h
def stHd (s : ByteArray) : RS -> Bool
 | .inl ts => hd s ts
 | .inr _ => false
theorem stText_hd {s : ByteArray} (hs : ((⟨#[]⟩ : ByteArray).toList == s.toList) = false) (st : RS) : ((stText st).toList == s.toList) = stHd s st := by
 match st with
 | .inr z => exact hs
 | .inl [] => exact hs
 | .inl (x :: r) => rfl
theorem step_take {α : Type} {E : Int} {s : ByteArray} {P Q : List Tk -> PR α} {st : RS} (h : stHd s st = true) : stepPR E (fun ts => if hd s ts = true then P ts.tail else Q ts) st = stepPR E P (stepPR E (need s) st) := by
 match st with
 | .inr z => cases h
 | .inl ts =>
  have h : hd s ts = true := h
  rw [stepPR_ok E (show need s ts = .ok () ts.tail from if_pos h)]
  unfold stepPR
  dsimp only
  rw [if_pos h]
theorem step_skip {α : Type} {E : Int} {s : ByteArray} {P Q : List Tk -> PR α} {st : RS} (h : stHd s st = false) : stepPR E (fun ts => if hd s ts = true then P ts else Q ts) st = stepPR E Q st := by
 match st with
 | .inr z => rfl
 | .inl ts =>
  have h : ¬ hd s ts = true := by rw [show hd s ts = false from h]; simp
  unfold stepPR
  dsimp only
  rw [if_neg h]
theorem val_take {α : Type} (E : Int) {s : ByteArray} {P Q : List Tk -> PR α} {st : RS} (h : stHd s st = true) : valPR (fun ts => if hd s ts = true then P ts.tail else Q ts) st = valPR P (stepPR E (need s) st) := by
 match st with
 | .inr z => cases h
 | .inl ts =>
  have h : hd s ts = true := h
  rw [stepPR_ok E (show need s ts = .ok () ts.tail from if_pos h)]
  unfold valPR
  dsimp only
  rw [if_pos h]
theorem val_skip {α : Type} {s : ByteArray} {P Q : List Tk -> PR α} {st : RS} (h : stHd s st = false) : valPR (fun ts => if hd s ts = true then P ts else Q ts) st = valPR Q st := by
 match st with
 | .inr z => rfl
 | .inl ts =>
  have h : ¬ hd s ts = true := by rw [show hd s ts = false from h]; simp
  unfold valPR
  dsimp only
  rw [if_neg h]
def LaLt (la : Option Addr) (all : List Tk) (n : Nat) : Prop := ∀ (j : Nat) (x : Tk), all[j]? = some x -> ∀ g o, la = some ⟨g, o, none⟩ -> g < n
theorem RdIs.la {R : Nat} {la : Option Addr} {all : List Tk} {E : Int} {st : RS} {w : World} (h : RdIs R la all E st w) : LaLt la all w.heap.size := by
 obtain ⟨cap, a, p, e, h1, h2, h3, h4⟩ := h
 intro j x hj g o hla
 obtain ⟨_, g', o', e0, e1, _⟩ := h3 j x hj
 rw [hla] at e0
 injection e0 with e0
 injection e0 with e0 _ _
 omega
theorem RdIs.oth {R X : Nat} {la : Option Addr} {all : List Tk} {E : Int} {st : RS} {w w' : World} (h : RdIs R la all E st w) (hk : ∀ k, k ≠ X -> w'.heap[k]? = w.heap[k]?) (hs : w'.heap.size = w.heap.size) (hX : R < X) (hne : LaLt la all X) : RdIs R la all E st w' := by
 obtain ⟨cap, a, p, e, h1, h2, h3, h4⟩ := h
 refine ⟨cap, a, p, e, (hk R (Nat.ne_of_lt hX)).trans h1, h2, fun j x hj => ?_, h4⟩
 obtain ⟨h0, g, o, e0, e1, e2, c0, c1, c2, c3⟩ := h3 j x hj
 have hb := hk g (Nat.ne_of_lt (hne j x hj g o e0))
 exact ⟨h0, g, o, e0, by rw [hs]; exact e1, e2, by simpa only [World.cell?, hb] using c0, by simpa only [World.cell?, hb] using c1, by simpa only [World.cell?, hb] using c2, by simpa only [World.cell?, hb] using c3⟩
theorem LaLt.mono {la : Option Addr} {all : List Tk} {n m : Nat} (h : LaLt la all n) (hm : n <= m) : LaLt la all m := fun j x hj g o e => Nat.lt_of_lt_of_le (h j x hj g o e) hm
theorem RdIs.put6 {R X : Nat} {la : Option Addr} {all : List Tk} {E : Int} {st : RS} {w : World} (h : RdIs R la all E st w) (hX : R < X) (hne : LaLt la all X) (a b c d e f : Value) : RdIs R la all E st (put6 w X a b c d e f) :=
 h.oth (fun _ hj => put6_oth hj a b c d e f) (put6_size _ _ a b c d e f) hX hne
theorem var_step {st : RS} (E : Int) (h : stHd sPlus (stepPR E (pname nameB) st) = false) : stepPR E (pvar nameB) st = stepPR E (pname nameB) st /\ ∀ y, valPR (pvar nameB) st = some y -> ∃ n, valPR (pname nameB) st = some n /\ Ty.mk 9 0 n 0 [] [] = y := by
 constructor
 ·exact step_bind (X := fun s => s) (fun a => (step_skip h).trans (step_ok _ _ _)) (fun _ => rfl)
 ·intro y hy
  obtain ⟨n, h1, h2⟩ := val_bind E hy
  rw [val_skip h] at h2
  exact ⟨n, h1, val_ok h2⟩
theorem var_step2 {st : RS} (E : Int) (h : stHd sPlus (stepPR E (pname nameB) st) = true) : stepPR E (pvar nameB) st = stepPR E pnumber (stepPR E (need sPlus) (stepPR E (pname nameB) st)) /\ ∀ y, valPR (pvar nameB) st = some y -> ∃ n s, valPR (pname nameB) st = some n /\ valPR pnumber (stepPR E (need sPlus) (stepPR E (pname nameB) st)) = some s /\ Ty.mk 9 0 n s [] [] = y := by
 constructor
 ·exact step_bind (X := fun s => stepPR E pnumber (stepPR E (need sPlus) s)) (fun a => (step_take (P := fun ts => (pnumber ts).bind _) h).trans (step_bind (X := fun s => s) (fun _ => step_ok _ _ _) (fun _ => rfl))) (fun _ => rfl)
 ·intro y hy
  obtain ⟨n, h1, h2⟩ := val_bind E hy
  rw [val_take (P := fun ts => (pnumber ts).bind _) E h] at h2
  obtain ⟨s, h3, h4⟩ := val_bind E h2
  exact ⟨n, s, h1, h3, val_ok h4⟩
theorem rdvar_any (R : Nat) (la : Option Addr) (all : List Tk) (E : Int) (st : RS) (w : World) (h : RdIs R la all E st w) :
 Calls Tryz.prog 100 #[.pointer (some ⟨R, 0, none⟩)] w (Red R la all E w (pvar nameB) st (GTy w.heap.size)) := by
 obtain ⟨W1, hW1⟩ := ex1 (w.alloc (.cells z6 28))
 have hb1 := (made hW1).1
 have x1 := (made hW1).2
 have hs1 : w.heap.size < W1.heap.size := (gl x1)
 have hR : R < w.heap.size := h.lt
 have HLA := hid h.la
 have HP : Hid (RdIs R la all E st W1) := hid (h.to hb1)
 have HB : Hid (But R W1 W1) := hid (But.refl _ _)
 have HW1 := hid hW1
 have HB1 := hid hb1
 have HX1 := hid x1
 clear hW1 hb1 x1 h
 cases hq : stHd sPlus (stepPR E (pname nameB) st) with
 | false =>
  obtain ⟨he1, he2⟩ := var_step E hq
  unfold Red
  rw [he1]
  have HE := hid he2
  have hq2 : ((stText (stepPR E (pname nameB) st)).toList == [43]) = false := by rw [<- (show sPlus.toList = [43] by decide +kernel)]; exact (stText_hd (by decide +kernel) _).trans hq
  obtain ⟨t1, ht1⟩ := ex1 (stText (stepPR E (pname nameB) st))
  have HT1 := hid ht1
  rw [ht1] at hq2
  clear he1 he2 ht1 hq
  go_enter Tryz.func100, Tryz.ntmps100
  go_upto_region 1 with fail
  rw [HW1.out]
  go_upto_region 2 with (go_at_call 60; refine (rdname_any R _ all E _ _ HP.out).mono ?_; rintro en wn ⟨⟨_, n, rfl, ⟨rfl, hnz⟩, hv⟩, hp, hb⟩; have HNZ := hid hnz; have HVn := hid hv; clear hv hnz; replace HP := hid hp; replace HB := hid (HB.out.trans hb); clear hp hb)
  obtain ⟨W3, hW3⟩ := ex1 (wn.alloc (.cells #[.int .i64 9, .int .i64 0, .string n, .int .i64 0, .slice none 0 0, .slice none 0 0] 28))
  have hbx := (made hW3).1
  have xx := (made hW3).2
  have hlx : wn.heap.size < W3.heap.size := (gl xx)
  have hsx : W1.heap.size <= wn.heap.size := HB.out.size
  have hnx : wn.heap.size ≠ R := by omega
  have HPn := hid (HP.out.to hbx)
  have HBn := hid (HB.out.to hbx)
  have HC : Hid (But R W3 W3) := hid (But.refl _ _)
  have HXX := hid xx
  rw [hW3]
  clear HP HB hW3 hbx xx
  have HP := HPn
  have HB := HBn
  clear HPn HBn
  go_upto_region 5 with (go_at_call 58; refine (text_any R _ all E _ _ HP.out).mono ?_; rw [HT1.out]; rintro en wm ⟨rfl, hb⟩; replace HP := hid (HP.out.to hb); replace HB := hid (HB.out.to hb); replace HC := hid (HC.out.to hb); clear hb)
  have hx3 := (HC.out.block wn.heap.size hlx hnx).trans HXX.out
  obtain ⟨⟨d0, d1, d2, d3, d4, d5⟩, -⟩ := c6 hx3
  clear hx3
  have hx9 : wm.heap[w.heap.size]? = some (.cells z6 28 (0, 0)) := (HB.out.block w.heap.size hs1 (Nat.ne_of_gt hR)).trans HX1.out
  obtain ⟨⟨q0, q1, q2, q3, q4, q5⟩, z0, z1, z2, z3, z4, z5⟩ := c6 hx9
  have HX9 := hid hx9
  clear hx9
  go_wp2_with fail
  have hx8 := fill6 HX9.out (.int .i64 9) (.int .i64 0) (.string n) (.int .i64 0) (.slice none 0 0) (.slice none 0 0)
  obtain ⟨⟨y0, y1, y2, y3, y4, y5⟩, -⟩ := c6 hx8
  refine bodyPost_ret (v := .agg #[.int .i64 9, .int .i64 0, .string n, .int .i64 0, .slice none 0 0, .slice none 0 0]) (by simp [results, Tryz.results100, go_sem, y0, y1, y2, y3, y4, y5]) rfl ?_
  refine ⟨⟨_, Ty.mk 9 0 n 0 [] [], rfl, GTy.leaf _ _ 9 0 0 n HNZ.out, fun y hy => by obtain ⟨n', h1, rfl⟩ := HE.out y hy; rw [HVn.out n' h1]⟩, HP.out.put6 hR HLA.out (.int .i64 9) (.int .i64 0) (.string n) (.int .i64 0) (.slice none 0 0) (.slice none 0 0), ((But.of HB1.out).trans HB.out).put6 (Nat.le_refl _) (.int .i64 9) (.int .i64 0) (.string n) (.int .i64 0) (.slice none 0 0) (.slice none 0 0)⟩
 | true =>
  obtain ⟨he1, he2⟩ := var_step2 E hq
  unfold Red
  rw [he1]
  have HE := hid he2
  have hq2 : ((stText (stepPR E (pname nameB) st)).toList == [43]) = true := by rw [<- (show sPlus.toList = [43] by decide +kernel)]; exact (stText_hd (by decide +kernel) _).trans hq
  obtain ⟨t1, ht1⟩ := ex1 (stText (stepPR E (pname nameB) st))
  have HT1 := hid ht1
  rw [ht1] at hq2
  clear he1 he2 ht1 hq
  go_enter Tryz.func100, Tryz.ntmps100
  go_upto_region 1 with fail
  rw [HW1.out]
  go_upto_region 2 with (go_at_call 60; refine (rdname_any R _ all E _ _ HP.out).mono ?_; rintro en wn ⟨⟨_, n, rfl, ⟨rfl, hnz⟩, hv⟩, hp, hb⟩; have HNZ := hid hnz; have HVn := hid hv; clear hv hnz; replace HP := hid hp; replace HB := hid (HB.out.trans hb); clear hp hb)
  obtain ⟨W3, hW3⟩ := ex1 (wn.alloc (.cells #[.int .i64 9, .int .i64 0, .string n, .int .i64 0, .slice none 0 0, .slice none 0 0] 28))
  have hbx := (made hW3).1
  have xx := (made hW3).2
  have hlx : wn.heap.size < W3.heap.size := (gl xx)
  have hsx : W1.heap.size <= wn.heap.size := HB.out.size
  have hnx : wn.heap.size ≠ R := by omega
  have HPn := hid (HP.out.to hbx)
  have HBn := hid (HB.out.to hbx)
  have HC : Hid (But R W3 W3) := hid (But.refl _ _)
  have HXX := hid xx
  rw [hW3]
  clear HP HB hW3 hbx xx
  have HP := HPn
  have HB := HBn
  clear HPn HBn
  go_upto_region 4 with (first | (go_at_call 58; refine (text_any R _ all E _ _ HP.out).mono ?_; rw [HT1.out]; rintro en wm ⟨rfl, hb⟩; replace HP := hid (HP.out.to hb); replace HB := hid (HB.out.to hb); replace HC := hid (HC.out.to hb); clear hb) | (go_at_call 59; refine (need_any R _ all E _ (by decide +kernel) _ _ HP.out).mono ?_; rintro en wo ⟨rfl, hp, hb⟩; replace HP := hid hp; replace HB := hid (HB.out.trans hb); replace HC := hid (HC.out.trans hb); clear hp hb))
  go_upto_region 5 with (go_at_call 127; refine (small_any R _ all E _ _ HP.out).mono ?_; rintro en wp ⟨⟨_, sh, rfl, rfl, hv⟩, hp, hb⟩; have HVsh := hid hv; clear hv; replace HP := hid hp; replace HB := hid (HB.out.trans hb); replace HC := hid (HC.out.trans hb); clear hp hb; have hx3 := (HC.out.block wn.heap.size hlx hnx).trans HXX.out; obtain ⟨⟨e0, e1, e2, e3, e4, e5⟩, g0, g1, g2, g3, g4, g5⟩ := c6 hx3; have HX3 := hid hx3; clear hx3)
  obtain ⟨W6, hW6⟩ := ex1 (wp.setCell ⟨wn.heap.size, 3, none⟩ (.int .i64 sh))
  have hx6 : W6.heap[wn.heap.size]? = some (.cells #[.int .i64 9, .int .i64 0, .string n, .int .i64 sh, .slice none 0 0, .slice none 0 0] 28 (0, 0)) := by rw [<- hW6]; exact set_block HX3.out 3 _
  have HPn : Hid (RdIs R la all E _ W6) := hid (by rw [<- hW6]; exact HP.out.oth (X := wn.heap.size) (fun j hj => oth1 _ _ _ hj) (by simp [World.setCell]) (by omega) (HLA.out.mono (by omega)))
  have HBn : Hid (But R W1 W6) := hid (by rw [<- hW6]; exact HB.out.setX hsx 3 _)
  rw [hW6]
  clear HP HB HC hW6 e0 e1 e2 e3 e4 e5 g0 g1 g2 g3 g4 g5
  have HP := HPn
  have HB := HBn
  clear HPn HBn
  obtain ⟨⟨d0, d1, d2, d3, d4, d5⟩, -⟩ := c6 hx6
  clear hx6
  have hx9 : W6.heap[w.heap.size]? = some (.cells z6 28 (0, 0)) := (HB.out.block w.heap.size hs1 (Nat.ne_of_gt hR)).trans HX1.out
  obtain ⟨⟨q0, q1, q2, q3, q4, q5⟩, z0, z1, z2, z3, z4, z5⟩ := c6 hx9
  have HX9 := hid hx9
  clear hx9
  go_wp2_with fail
  have hx8 := fill6 HX9.out (.int .i64 9) (.int .i64 0) (.string n) (.int .i64 sh) (.slice none 0 0) (.slice none 0 0)
  obtain ⟨⟨y0, y1, y2, y3, y4, y5⟩, -⟩ := c6 hx8
  refine bodyPost_ret (v := .agg #[.int .i64 9, .int .i64 0, .string n, .int .i64 sh, .slice none 0 0, .slice none 0 0]) (by simp [results, Tryz.results100, go_sem, y0, y1, y2, y3, y4, y5]) rfl ?_
  refine ⟨⟨_, Ty.mk 9 0 n sh [] [], rfl, GTy.leaf _ _ 9 0 sh n HNZ.out, fun y hy => by obtain ⟨n', s', h1, h2, rfl⟩ := HE.out y hy; rw [HVn.out n' h1, HVsh.out s' h2]⟩, HP.out.put6 hR HLA.out (.int .i64 9) (.int .i64 0) (.string n) (.int .i64 sh) (.slice none 0 0) (.slice none 0 0), ((But.of HB1.out).trans HB.out).put6 (Nat.le_refl _) (.int .i64 9) (.int .i64 0) (.string n) (.int .i64 sh) (.slice none 0 0) (.slice none 0 0)⟩
end Go.Proofs.YtejaboajgecpaaaGreatDoor
