/- Parsing: lemmas. -/
import Derived.Test.YtejaboajgecpaaaGreatDoorQn7
set_option maxHeartbeats 16000000
set_option maxRecDepth 100000
namespace Go.Proofs.YtejaboajgecpaaaGreatDoor
open Go.Lib (hid)
open Go.RowKit Go.Shelf
def GVl (_ : World) (x : Vl) (v : Value) : Prop := v = .agg #[.int .i64 x.k, .string x.n, .int .i64 x.x] /\ x.n.size <= maxLen
theorem c3 {w : World} {X : Nat} {T : TypeId} {a b c : Value} (h : w.heap[X]? = some (.cells #[a, b, c] T (0, 0))) : (w.cell? ⟨X, 0, none⟩ = some a /\ w.cell? ⟨X, 1, none⟩ = some b /\ w.cell? ⟨X, 2, none⟩ = some c) /\ w.frozen? ⟨X, 0, none⟩ = false /\ w.frozen? ⟨X, 1, none⟩ = false /\ w.frozen? ⟨X, 2, none⟩ = false := by
 refine ⟨⟨?_, ?_, ?_⟩, frozen_of_block h 0, frozen_of_block h 1, frozen_of_block h 2⟩ <;> simp [World.cell?, h]
abbrev put3 (w : World) (X : Nat) (a b c : Value) : World := ((w.setCell ⟨X, 0, none⟩ a).setCell ⟨X, 1, none⟩ b).setCell ⟨X, 2, none⟩ c
theorem fill3 {w : World} {X : Nat} {T : TypeId} {a b c : Value} (h : w.heap[X]? = some (.cells #[a, b, c] T (0, 0))) (a' b' c' : Value) : (put3 w X a' b' c').heap[X]? = some (.cells #[a', b', c'] T (0, 0)) := set_block (set_block (set_block h 0 a') 1 b') 2 c'
theorem put3_oth {w : World} {X k : Nat} (h : k ≠ X) (a b c : Value) : (put3 w X a b c).heap[k]? = w.heap[k]? := by
 rw [oth1 _ _ _ h, oth1 _ _ _ h, oth1 _ _ _ h]
theorem put3_size (w : World) (X : Nat) (a b c : Value) : (put3 w X a b c).heap.size = w.heap.size := by simp [put3, World.setCell]
theorem But.put3 {P X : Nat} {w w' : World} (h : But P w w') (hX : w.heap.size <= X) (a b c : Value) : But P w (put3 w' X a b c) := ((h.setX hX 0 a).setX hX 1 b).setX hX 2 c
theorem pval_name {isN : ByteArray -> Bool} {E : Int} {ts : List Tk} (h1 : hd sTrue ts = false) (h2 : hd sFalse ts = false) (hk : (hdTk E ts).k ≠ 2) : pval isN ts = (pname isN ts).bind fun n r => .ok (⟨1, n, 0⟩ : Vl) r := by
 cases ts with
 | nil => rfl
 | cons x r =>
  rw [pval, if_neg (by rw [show (x.t.toList == sTrue.toList) = false from h1]; simp), if_neg (by rw [show (x.t.toList == sFalse.toList) = false from h2]; simp), if_neg (show ¬ x.k = 2 from hk), pname]
  split <;> rfl
theorem pval_any (P tb : Nat) (E : Int) (ts : List Tk) (B : Nat) (w : World) (he : Env B w) (hBP : B <= P) (h : PaIs P tb E ts w) :
 Calls Tryz.prog 142 #[.pointer (some ⟨P, 0, none⟩)] w (Parsed P tb E w (pval nameB ts) GVl) := by
 obtain ⟨W1, hW1⟩ := ex1 (w.alloc (.cells #[.int .i64 0, .string ⟨#[]⟩, .int .i64 0] 82))
 have hb1 := (made hW1).1
 have x1 := (made hW1).2
 have hs1 : w.heap.size < W1.heap.size := (gl x1)
 have hP : P < w.heap.size := h.lt
 have htb : tb ≠ w.heap.size := Nat.ne_of_lt h.tlt
 have HTB := hid h.tlt
 have HP : Hid (PaIs P tb E ts W1) := hid (h.to hb1)
 have HB : Hid (But P W1 W1) := hid (But.refl _ _)
 have HW1 := hid hW1
 have HB1 := hid hb1
 have HX1 := hid x1
 have HE := hid (he.to hb1)
 have HN := hid (next_any P tb E ts W1 HP.out)
 clear hW1 hb1 x1 he h
 cases h1 : hd sTrue ts with
 | true =>
  have hv : pval nameB ts = .ok ⟨3, ⟨#[]⟩, 1⟩ ts.tail := by
   cases ts with
   | nil => cases h1
   | cons x r => rw [pval, if_pos (show (x.t.toList == sTrue.toList) = true from h1)]; rfl
  rw [hv]
  obtain ⟨⟨k, u, v, a⟩, hx⟩ : ∃ x, hdTk E ts = x := ⟨_, rfl⟩
  rw [hx] at HN
  clear hx hv
  go_enter Tryz.func142, Tryz.ntmps142
  go_upto_region 1 with fail
  rw [HW1.out]
  go_upto_region 2 with (go_at_call 76; refine HN.out.mono ?_; rintro en w2 ⟨rfl, hb⟩; replace HP := hid (HP.out.to hb); replace HB := hid (HB.out.to hb); clear hb)
  obtain ⟨W3, hW3⟩ := ex1 (w2.alloc (.cells #[.int .i64 k, .string u, .int .i64 v, .int .i64 a] 99))
  have hb3 := (made hW3).1
  have x3 := (made hW3).2
  have hl3 : w2.heap.size < W3.heap.size := (gl x3)
  have hsz2 : w.heap.size < w2.heap.size := Nat.lt_of_lt_of_le hs1 HB.out.size
  have hn3 : w2.heap.size ≠ P := by omega
  have HPn := hid (HP.out.to hb3)
  have HBn := hid (HB.out.to hb3)
  have HC : Hid (But P W3 W3) := hid (But.refl _ _)
  have HX3 := hid x3
  rw [hW3]
  clear HP HB hW3 hb3 x3
  have HP := HPn
  have HB := HBn
  clear HPn HBn
  go_wp2_with (go_at_call 50; refine (take_yes P tb E _ (by decide +kernel) _ _ (by assumption) HP.out).mono ?_; rintro en wn ⟨rfl, hp, hb⟩; replace HP := hid hp; replace HB := hid (HB.out.trans hb); replace HC := hid (HC.out.trans hb); clear hp hb; have hx9 := (HB.out.block w.heap.size hs1 (Nat.ne_of_gt hP)).trans HX1.out; obtain ⟨⟨q0, q1, q2⟩, z0, z1, z2⟩ := c3 hx9; have HX9 := hid hx9; clear hx9)
  have hx8 := fill3 HX9.out (.int .i64 3) (.string ⟨#[]⟩) (.int .i64 1)
  obtain ⟨⟨y0, y1, y2⟩, -⟩ := c3 hx8
  refine bodyPost_ret (v := .agg #[.int .i64 3, .string ⟨#[]⟩, .int .i64 1]) (by simp [results, Tryz.results142, go_sem, y0, y1, y2]) rfl ?_
  exact ⟨⟨_, rfl, rfl, Nat.zero_le _⟩, HP.out.oth (X := w.heap.size) (fun j hj => put3_oth hj (.int .i64 3) (.string ⟨#[]⟩) (.int .i64 1)) (put3_size _ _ (.int .i64 3) (.string ⟨#[]⟩) (.int .i64 1)) (Nat.ne_of_gt hP) htb, ((But.of HB1.out).trans HB.out).put3 (Nat.le_refl _) (.int .i64 3) (.string ⟨#[]⟩) (.int .i64 1)⟩
 | false =>
  cases h2 : hd sFalse ts with
  | true =>
   have hv : pval nameB ts = .ok ⟨3, ⟨#[]⟩, 0⟩ ts.tail := by
    cases ts with
    | nil => cases h2
    | cons x r => rw [pval, if_neg (by rw [show (x.t.toList == sTrue.toList) = false from h1]; simp), if_pos (show (x.t.toList == sFalse.toList) = true from h2)]; rfl
   rw [hv]
   obtain ⟨⟨k, u, v, a⟩, hx⟩ : ∃ x, hdTk E ts = x := ⟨_, rfl⟩
   rw [hx] at HN
   clear hx hv
   go_enter Tryz.func142, Tryz.ntmps142
   go_upto_region 1 with fail
   rw [HW1.out]
   go_upto_region 2 with (go_at_call 76; refine HN.out.mono ?_; rintro en w2 ⟨rfl, hb⟩; replace HP := hid (HP.out.to hb); replace HB := hid (HB.out.to hb); clear hb)
   obtain ⟨W3, hW3⟩ := ex1 (w2.alloc (.cells #[.int .i64 k, .string u, .int .i64 v, .int .i64 a] 99))
   have hb3 := (made hW3).1
   have x3 := (made hW3).2
   have hl3 : w2.heap.size < W3.heap.size := (gl x3)
   have hsz2 : w.heap.size < w2.heap.size := Nat.lt_of_lt_of_le hs1 HB.out.size
   have hn3 : w2.heap.size ≠ P := by omega
   have HPn := hid (HP.out.to hb3)
   have HBn := hid (HB.out.to hb3)
   have HC : Hid (But P W3 W3) := hid (But.refl _ _)
   have HX3 := hid x3
   rw [hW3]
   clear HP HB hW3 hb3 x3
   have HP := HPn
   have HB := HBn
   clear HPn HBn
   go_wp2_with (first | (go_at_call 50; refine (take_no P tb E _ (by decide +kernel) _ _ (by assumption) HP.out).mono ?_; rintro en wn ⟨rfl, hp, hb⟩; replace HP := hid hp; replace HB := hid (HB.out.trans hb); replace HC := hid (HC.out.trans hb); clear hp hb) | (go_at_call 50; refine (take_yes P tb E _ (by decide +kernel) _ _ (by assumption) HP.out).mono ?_; rintro en wn ⟨rfl, hp, hb⟩; replace HP := hid hp; replace HB := hid (HB.out.trans hb); replace HC := hid (HC.out.trans hb); clear hp hb; have hx9 := (HB.out.block w.heap.size hs1 (Nat.ne_of_gt hP)).trans HX1.out; obtain ⟨⟨q0, q1, q2⟩, z0, z1, z2⟩ := c3 hx9; have HX9 := hid hx9; clear hx9))
   have hx8 := fill3 HX9.out (.int .i64 3) (.string ⟨#[]⟩) (.int .i64 0)
   obtain ⟨⟨y0, y1, y2⟩, -⟩ := c3 hx8
   refine bodyPost_ret (v := .agg #[.int .i64 3, .string ⟨#[]⟩, .int .i64 0]) (by simp [results, Tryz.results142, go_sem, y0, y1, y2]) rfl ?_
   exact ⟨⟨_, rfl, rfl, Nat.zero_le _⟩, HP.out.oth (X := w.heap.size) (fun j hj => put3_oth hj (.int .i64 3) (.string ⟨#[]⟩) (.int .i64 0)) (put3_size _ _ (.int .i64 3) (.string ⟨#[]⟩) (.int .i64 0)) (Nat.ne_of_gt hP) htb, ((But.of HB1.out).trans HB.out).put3 (Nat.le_refl _) (.int .i64 3) (.string ⟨#[]⟩) (.int .i64 0)⟩
  | false =>
   obtain ⟨⟨k, u, v, a⟩, hx⟩ : ∃ x, hdTk E ts = x := ⟨_, rfl⟩
   rw [hx] at HN
   by_cases hk : k = 2
   case neg =>
    rw [pval_name (E := E) h1 h2 (by rw [hx]; exact hk)]
    have hk1 : (k == 2) = false := by simpa using hk
    clear hx hk
    cases hn : pname nameB ts with
    | bad er r =>
     show Calls _ _ _ _ (Parsed P tb E w (PR.bad er r) _)
     go_enter Tryz.func142, Tryz.ntmps142
     go_upto_region 1 with fail
     rw [HW1.out]
     go_upto_region 2 with (go_at_call 76; refine HN.out.mono ?_; rintro en w2 ⟨rfl, hb⟩; replace HP := hid (HP.out.to hb); replace HB := hid (HB.out.to hb); clear hb)
     obtain ⟨W3, hW3⟩ := ex1 (w2.alloc (.cells #[.int .i64 k, .string u, .int .i64 v, .int .i64 a] 99))
     have hb3 := (made hW3).1
     have x3 := (made hW3).2
     have hl3 : w2.heap.size < W3.heap.size := (gl x3)
     have hsz2 : w.heap.size < w2.heap.size := Nat.lt_of_lt_of_le hs1 HB.out.size
     have hn3 : w2.heap.size ≠ P := by omega
     have HPn := hid (HP.out.to hb3)
     have HBn := hid (HB.out.to hb3)
     have HC : Hid (But P W3 W3) := hid (But.refl _ _)
     have HX3 := hid x3
     rw [hW3]
     clear HP HB hW3 hb3 x3
     have HP := HPn
     have HB := HBn
     clear HPn HBn
     go_wp2_with (first | (go_at_call 50; refine (take_no P tb E _ (by decide +kernel) _ _ (by assumption) HP.out).mono ?_; rintro en wn ⟨rfl, hp, hb⟩; replace HP := hid hp; replace HB := hid (HB.out.trans hb); replace HC := hid (HC.out.trans hb); clear hp hb; obtain ⟨⟨d0, d1, d2, d3⟩, -⟩ := c4 ((HC.out.block w2.heap.size hl3 hn3).trans HX3.out)) | (go_at_call 78; refine (namB (HE.out.but HB.out hBP) HP HB hn).mono ?_; rintro _ wn ⟨rfl, HB⟩))
     exact ⟨rfl, rfl, (But.of HB1.out).trans HB.out⟩
    | ok n r =>
     show Calls _ _ _ _ (Parsed P tb E w (PR.ok (⟨1, n, 0⟩ : Vl) r) _)
     go_enter Tryz.func142, Tryz.ntmps142
     go_upto_region 1 with fail
     rw [HW1.out]
     go_upto_region 2 with (go_at_call 76; refine HN.out.mono ?_; rintro en w2 ⟨rfl, hb⟩; replace HP := hid (HP.out.to hb); replace HB := hid (HB.out.to hb); clear hb)
     obtain ⟨W3, hW3⟩ := ex1 (w2.alloc (.cells #[.int .i64 k, .string u, .int .i64 v, .int .i64 a] 99))
     have hb3 := (made hW3).1
     have x3 := (made hW3).2
     have hl3 : w2.heap.size < W3.heap.size := (gl x3)
     have hsz2 : w.heap.size < w2.heap.size := Nat.lt_of_lt_of_le hs1 HB.out.size
     have hn3 : w2.heap.size ≠ P := by omega
     have HPn := hid (HP.out.to hb3)
     have HBn := hid (HB.out.to hb3)
     have HC : Hid (But P W3 W3) := hid (But.refl _ _)
     have HX3 := hid x3
     rw [hW3]
     clear HP HB hW3 hb3 x3
     have HP := HPn
     have HB := HBn
     clear HPn HBn
     go_wp2_with (first | (go_at_call 50; refine (take_no P tb E _ (by decide +kernel) _ _ (by assumption) HP.out).mono ?_; rintro en wn ⟨rfl, hp, hb⟩; replace HP := hid hp; replace HB := hid (HB.out.trans hb); replace HC := hid (HC.out.trans hb); clear hp hb; obtain ⟨⟨d0, d1, d2, d3⟩, -⟩ := c4 ((HC.out.block w2.heap.size hl3 hn3).trans HX3.out)) | (go_at_call 78; refine (pname_any P tb E _ B _ (HE.out.but HB.out hBP) HP.out).mono ?_; rw [hn]; rintro en wn ⟨⟨_, rfl, rfl, hnz⟩, hp, hb⟩; replace HP := hid hp; replace HB := hid (HB.out.trans hb); replace HC := hid (HC.out.trans hb); clear hp hb; have hx9 := (HB.out.block w.heap.size hs1 (Nat.ne_of_gt hP)).trans HX1.out; obtain ⟨⟨q0, q1, q2⟩, z0, z1, z2⟩ := c3 hx9; have HX9 := hid hx9; clear hx9))
     have hx8 := fill3 HX9.out (.int .i64 1) (.string n) (.int .i64 0)
     obtain ⟨⟨y0, y1, y2⟩, -⟩ := c3 hx8
     refine bodyPost_ret (v := .agg #[.int .i64 1, .string n, .int .i64 0]) (by simp [results, Tryz.results142, go_sem, y0, y1, y2]) rfl ?_
     exact ⟨⟨_, rfl, rfl, hnz⟩, HP.out.oth (X := w.heap.size) (fun j hj => put3_oth hj (.int .i64 1) (.string n) (.int .i64 0)) (put3_size _ _ (.int .i64 1) (.string n) (.int .i64 0)) (Nat.ne_of_gt hP) htb, ((But.of HB1.out).trans HB.out).put3 (Nat.le_refl _) (.int .i64 1) (.string n) (.int .i64 0)⟩
   subst hk
   match ts, hx, HN, HP, h1, h2 with
   | [], hx, _, _, _, _ => exact absurd (show (0 : Int) = 2 from congrArg Tk.k hx) (by decide)
   | y :: r, hx, HN, HP, h1, h2 =>
    obtain rfl : y = ⟨2, u, v, a⟩ := hx
    have hv : pval nameB (⟨2, u, v, a⟩ :: r) = .ok ⟨2, ⟨#[]⟩, v⟩ r := by
     rw [pval, if_neg (by rw [show (u.toList == sTrue.toList) = false from h1]; simp), if_neg (by rw [show (u.toList == sFalse.toList) = false from h2]; simp), if_pos rfl]
    rw [hv]
    clear hx hv
    go_enter Tryz.func142, Tryz.ntmps142
    go_upto_region 1 with fail
    rw [HW1.out]
    go_upto_region 2 with (go_at_call 76; refine HN.out.mono ?_; rintro en w2 ⟨rfl, hb⟩; replace HP := hid (HP.out.to hb); replace HB := hid (HB.out.to hb); clear hb)
    obtain ⟨W3, hW3⟩ := ex1 (w2.alloc (.cells #[.int .i64 2, .string u, .int .i64 v, .int .i64 a] 99))
    have hb3 := (made hW3).1
    have x3 := (made hW3).2
    have hl3 : w2.heap.size < W3.heap.size := (gl x3)
    have hsz2 : w.heap.size < w2.heap.size := Nat.lt_of_lt_of_le hs1 HB.out.size
    have hn3 : w2.heap.size ≠ P := by omega
    have HPn := hid (HP.out.to hb3)
    have HBn := hid (HB.out.to hb3)
    have HC : Hid (But P W3 W3) := hid (But.refl _ _)
    have HX3 := hid x3
    rw [hW3]
    clear HP HB hW3 hb3 x3
    have HP := HPn
    have HB := HBn
    clear HPn HBn
    go_wp2_with (first | (go_at_call 50; refine (take_no P tb E _ (by decide +kernel) _ _ (by assumption) HP.out).mono ?_; rintro en wn ⟨rfl, hp, hb⟩; replace HP := hid hp; replace HB := hid (HB.out.trans hb); replace HC := hid (HC.out.trans hb); clear hp hb; obtain ⟨⟨d0, d1, d2, d3⟩, -⟩ := c4 ((HC.out.block w2.heap.size hl3 hn3).trans HX3.out)) | (go_at_call 77; refine (skip_any P tb E _ r _ HP.out).mono ?_; rintro en wn ⟨rfl, hp, hb⟩; replace HP := hid hp; replace HB := hid (HB.out.trans hb); replace HC := hid (HC.out.trans hb); clear hp hb; obtain ⟨⟨d0, d1, d2, d3⟩, -⟩ := c4 ((HC.out.block w2.heap.size hl3 hn3).trans HX3.out); have hx9 := (HB.out.block w.heap.size hs1 (Nat.ne_of_gt hP)).trans HX1.out; obtain ⟨⟨q0, q1, q2⟩, z0, z1, z2⟩ := c3 hx9; have HX9 := hid hx9; clear hx9))
    have hx8 := fill3 HX9.out (.int .i64 2) (.string ⟨#[]⟩) (.int .i64 v)
    obtain ⟨⟨y0, y1, y2⟩, -⟩ := c3 hx8
    refine bodyPost_ret (v := .agg #[.int .i64 2, .string ⟨#[]⟩, .int .i64 v]) (by simp [results, Tryz.results142, go_sem, y0, y1, y2]) rfl ?_
    exact ⟨⟨_, rfl, rfl, Nat.zero_le _⟩, HP.out.oth (X := w.heap.size) (fun j hj => put3_oth hj (.int .i64 2) (.string ⟨#[]⟩) (.int .i64 v)) (put3_size _ _ (.int .i64 2) (.string ⟨#[]⟩) (.int .i64 v)) (Nat.ne_of_gt hP) htb, ((But.of HB1.out).trans HB.out).put3 (Nat.le_refl _) (.int .i64 2) (.string ⟨#[]⟩) (.int .i64 v)⟩
end Go.Proofs.YtejaboajgecpaaaGreatDoor
