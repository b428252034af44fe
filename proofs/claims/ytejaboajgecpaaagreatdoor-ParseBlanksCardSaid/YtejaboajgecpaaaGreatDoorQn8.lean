/- Parsing: lemmas. -/
import Derived.Test.YtejaboajgecpaaaGreatDoorQn7
set_option maxHeartbeats 16000000
set_option maxRecDepth 100000
namespace Go.Proofs.YtejaboajgecpaaaGreatDoor
open Go.Lib (hid)
open Go.RowKit Go.Shelf
def SessOK (P tb : Nat) (E : Int) (B : Nat) (S : List Tk -> PR Ty) (n : Nat) : Prop := ∀ (ts : List Tk) (W : World), ts.length < n -> Env B W -> PaIs P tb E ts W -> Calls Tryz.prog 68 #[.pointer (some ⟨P, 0, none⟩)] W (Parsed P tb E W (S ts) (GTy W.heap.size))
theorem GTy.put6 {c X : Nat} {w : World} {t : Ty} {v : Value} (h : GTy c w t v) (hX : X < c) (a b c' d e f : Value) : GTy c (put6 w X a b c' d e f) t v :=
 (TyVal.keep (fun k o hk ho _ => (put6_oth (show k ≠ X from fun e => by have := hk.1; omega) a b c' d e f).trans ho) h).mono (fun _ hk => ⟨hk.1, by rw [put6_size]; exact hk.2⟩)
theorem hd_head {E : Int} {s : ByteArray} (hs : ((⟨#[]⟩ : ByteArray).toList == s.toList) = false) (ts : List Tk) : ((hdTk E ts).t.toList == s.toList) = hd s ts := by
 cases ts with
 | nil => exact hs
 | cons x r => rfl
theorem pname_le {isN : ByteArray -> Bool} {ts : List Tk} {x : ByteArray} {r : List Tk} (h : pname isN ts = .ok x r) : r.length < ts.length := by
 cases ts with
 | nil => cases h
 | cons y s =>
  rw [pname] at h
  split at h
  ·cases h; simp
  ·cases h
theorem need_le {s : ByteArray} {ts : List Tk} {x : Unit} {r : List Tk} (h : need s ts = .ok x r) : r.length < ts.length := by
 unfold need at h
 split at h
 ·next hh =>
  cases h
  cases ts with
  | nil => cases hh
  | cons y s => simp
 ·cases h
theorem tys_one {B : Nat -> Prop} {W : World} {b : Nat} {T : TypeId} {fr : Nat × Nat} {t : Ty} {la : Option Addr} {ln lc : Nat} {ka : Option Addr} {kn kc : Nat} (h : W.heap[b]? = some (.cells #[.int .i64 t.k, .int .i64 t.p, .string t.n, .int .i64 t.s, .slice la ln lc, .slice ka kn kc] T fr)) (hb : B b) (ht : TyVal B W (.agg #[.int .i64 t.k, .int .i64 t.p, .string t.n, .int .i64 t.s, .slice la ln lc, .slice ka kn kc]) t) : TySl B W (.slice (some ⟨b, 0, none⟩) 1 1) [t] := by
 have cell : ∀ i v, [Value.int .i64 t.k, .int .i64 t.p, .string t.n, .int .i64 t.s, .slice la ln lc, .slice ka kn kc][i]? = some v -> W.cell? ⟨b, i, none⟩ = some v := by
  intro i v hi
  simp only [World.cell?, h]
  simpa using hi
 have a1 : TyAt B W t b 0 := tyAt_of hb (cell 0 _ rfl) (cell 1 _ rfl) (cell 2 _ rfl) (cell 3 _ rfl) (cell 4 _ rfl) (cell 5 _ rfl) ht
 exact ⟨.inr ⟨b, 0, 1, rfl, hb, by simp only [TysAt]; exact ⟨a1, trivial⟩⟩, by simp [maxLen]⟩
theorem GTy.node {c : Nat} {w : World} {k p s : Int} {n : ByteArray} {ls : List ByteArray} {ts : List Ty} {lv kv : Value} (hn : n.size <= maxLen) (hl : StrSl (fun j => c <= j /\ j < w.heap.size) w lv ls) (hk : TySl (fun j => c <= j /\ j < w.heap.size) w kv ts) : GTy c w (.mk k p n s ls ts) (.agg #[.int .i64 k, .int .i64 p, .string n, .int .i64 s, lv, kv]) := ⟨_, _, rfl, hn, hl, hk⟩
theorem str_nil (B : Nat -> Prop) (w : World) : StrSl B w (.slice none 0 0) [] := ⟨.inl ⟨⟨_, _, rfl⟩, rfl⟩, Nat.zero_le _, fun s hs => by cases hs⟩
theorem pany_any (P tb : Nat) (E : Int) (ts : List Tk) (B : Nat) (w : World) (he : Env B w) (hBP : B <= P) (h : PaIs P tb E ts w) (S : List Tk -> PR Ty) (n : Nat) (hn : ts.length < n) (hS : SessOK P tb E B S n) :
 Calls Tryz.prog 36 #[.pointer (some ⟨P, 0, none⟩)] w (Parsed P tb E w (panyS S ts) (GTy w.heap.size)) := by
 obtain ⟨W1, hW1⟩ := ex1 (w.alloc (.cells z6 28))
 have hb1 := (made hW1).1
 have x1 := (made hW1).2
 have hs1 : w.heap.size < W1.heap.size := (gl x1)
 have hP : P < w.heap.size := h.lt
 have htb : tb ≠ w.heap.size := Nat.ne_of_lt h.tlt
 have HTB := hid h.tlt
 have HP : Hid (PaIs P tb E ts W1) := hid (h.to hb1)
 have HB : Hid (But P W1 W1) := hid (But.refl _ _)
 have HW1 := hid hW1
 have HB1 := hid hb1
 have HX1 := hid x1
 have HE := hid (he.to hb1)
 clear hW1 hb1 x1 he h
 unfold panyS
 have HS := hid hS
 clear hS
 cases h1 : hd sInt ts with
 | true =>
  rw [if_pos rfl]
  go_enter Tryz.func36, Tryz.ntmps36
  go_upto_region 1 with fail
  rw [HW1.out]
  go_wp2_with (go_at_call 50; refine (yesH HP HB).mono ?_; rintro _ wn ⟨rfl, HP, HB⟩; have hx9 := (HB.out.block w.heap.size hs1 (Nat.ne_of_gt hP)).trans HX1.out; obtain ⟨⟨q0, q1, q2, q3, q4, q5⟩, z0, z1, z2, z3, z4, z5⟩ := c6 hx9; have HX9 := hid hx9; clear hx9)
  have hx8 := fill6 HX9.out (.int .i64 1) (.int .i64 0) (.string ⟨#[]⟩) (.int .i64 0) (.slice none 0 0) (.slice none 0 0)
  obtain ⟨⟨y0, y1, y2, y3, y4, y5⟩, -⟩ := c6 hx8
  refine bodyPost_ret (v := .agg #[.int .i64 1, .int .i64 0, .string ⟨#[]⟩, .int .i64 0, .slice none 0 0, .slice none 0 0]) (by simp [results, Tryz.results36, go_sem, y0, y1, y2, y3, y4, y5]) rfl ?_
  exact ⟨⟨_, rfl, GTy.leaf _ _ 1 0 0 ⟨#[]⟩ (Nat.zero_le _)⟩, HP.out.oth (X := w.heap.size) (fun j hj => put6_oth hj (.int .i64 1) (.int .i64 0) (.string ⟨#[]⟩) (.int .i64 0) (.slice none 0 0) (.slice none 0 0)) (put6_size _ _ (.int .i64 1) (.int .i64 0) (.string ⟨#[]⟩) (.int .i64 0) (.slice none 0 0) (.slice none 0 0)) (Nat.ne_of_gt hP) htb, ((But.of HB1.out).trans HB.out).put6 (Nat.le_refl _) (.int .i64 1) (.int .i64 0) (.string ⟨#[]⟩) (.int .i64 0) (.slice none 0 0) (.slice none 0 0)⟩
 | false =>
  rw [if_neg (by decide)]
  cases h2 : hd sBool ts with
  | true =>
   rw [if_pos rfl]
   go_enter Tryz.func36, Tryz.ntmps36
   go_upto_region 1 with fail
   rw [HW1.out]
   go_wp2_with (first | (go_at_call 50; refine (noH HP HB).mono ?_; rintro _ wn ⟨rfl, HP, HB⟩) | (go_at_call 50; refine (yesH HP HB).mono ?_; rintro _ wn ⟨rfl, HP, HB⟩; have hx9 := (HB.out.block w.heap.size hs1 (Nat.ne_of_gt hP)).trans HX1.out; obtain ⟨⟨q0, q1, q2, q3, q4, q5⟩, z0, z1, z2, z3, z4, z5⟩ := c6 hx9; have HX9 := hid hx9; clear hx9))
   have hx8 := fill6 HX9.out (.int .i64 2) (.int .i64 0) (.string ⟨#[]⟩) (.int .i64 0) (.slice none 0 0) (.slice none 0 0)
   obtain ⟨⟨y0, y1, y2, y3, y4, y5⟩, -⟩ := c6 hx8
   refine bodyPost_ret (v := .agg #[.int .i64 2, .int .i64 0, .string ⟨#[]⟩, .int .i64 0, .slice none 0 0, .slice none 0 0]) (by simp [results, Tryz.results36, go_sem, y0, y1, y2, y3, y4, y5]) rfl ?_
   exact ⟨⟨_, rfl, GTy.leaf _ _ 2 0 0 ⟨#[]⟩ (Nat.zero_le _)⟩, HP.out.oth (X := w.heap.size) (fun j hj => put6_oth hj (.int .i64 2) (.int .i64 0) (.string ⟨#[]⟩) (.int .i64 0) (.slice none 0 0) (.slice none 0 0)) (put6_size _ _ (.int .i64 2) (.int .i64 0) (.string ⟨#[]⟩) (.int .i64 0) (.slice none 0 0) (.slice none 0 0)) (Nat.ne_of_gt hP) htb, ((But.of HB1.out).trans HB.out).put6 (Nat.le_refl _) (.int .i64 2) (.int .i64 0) (.string ⟨#[]⟩) (.int .i64 0) (.slice none 0 0) (.slice none 0 0)⟩
  | false =>
   rw [if_neg (by decide)]
   cases hr : S ts with
   | bad er r =>
    go_enter Tryz.func36, Tryz.ntmps36
    go_upto_region 1 with fail
    rw [HW1.out]
    go_wp2_with (first | (go_at_call 50; refine (noH HP HB).mono ?_; rintro _ wn ⟨rfl, HP, HB⟩) | (go_at_call 68; refine (HS.out _ _ hn (HE.out.but HB.out hBP) HP.out).mono ?_; rw [hr]; rintro en wn ⟨rfl, hb⟩; replace HB := hid (HB.out.trans hb); clear hb))
    exact ⟨rfl, rfl, (But.of HB1.out).trans HB.out⟩
   | ok t r =>
    go_enter Tryz.func36, Tryz.ntmps36
    go_upto_region 1 with fail
    rw [HW1.out]
    go_wp2_with (first | (go_at_call 50; refine (noH HP HB).mono ?_; rintro _ wn ⟨rfl, HP, HB⟩) | (go_at_call 68; refine (HS.out _ _ hn (HE.out.but HB.out hBP) HP.out).mono ?_; rw [hr]; rintro en wn ⟨⟨v, rfl, hg⟩, hp, hb⟩; obtain ⟨la, ln, lc, ka, kn, kc, rfl⟩ := hg.open; have HPn := hid hp; have HG := hid (hg.mono (show W1.heap.size <= _ from HB.out.size)); have HBn := hid (HB.out.trans hb); clear hg; clear hp hb HP HB; have HP := HPn; have HB := HBn; clear HPn HBn; have hx9 := (HB.out.block w.heap.size hs1 (Nat.ne_of_gt hP)).trans HX1.out; obtain ⟨⟨q0, q1, q2, q3, q4, q5⟩, z0, z1, z2, z3, z4, z5⟩ := c6 hx9; have HX9 := hid hx9; clear hx9))
    have hx8 := fill6 HX9.out (.int .i64 t.k) (.int .i64 t.p) (.string t.n) (.int .i64 t.s) (.slice la ln lc) (.slice ka kn kc)
    obtain ⟨⟨y0, y1, y2, y3, y4, y5⟩, -⟩ := c6 hx8
    refine bodyPost_ret (v := .agg #[.int .i64 t.k, .int .i64 t.p, .string t.n, .int .i64 t.s, .slice la ln lc, .slice ka kn kc]) (by simp [results, Tryz.results36, go_sem, y0, y1, y2, y3, y4, y5]) rfl ?_
    exact ⟨⟨_, rfl, (HG.out.put6 hs1 (.int .i64 t.k) (.int .i64 t.p) (.string t.n) (.int .i64 t.s) (.slice la ln lc) (.slice ka kn kc)).mono (Nat.le_of_lt hs1)⟩, HP.out.oth (X := w.heap.size) (fun j hj => put6_oth hj (.int .i64 t.k) (.int .i64 t.p) (.string t.n) (.int .i64 t.s) (.slice la ln lc) (.slice ka kn kc)) (put6_size _ _ (.int .i64 t.k) (.int .i64 t.p) (.string t.n) (.int .i64 t.s) (.slice la ln lc) (.slice ka kn kc)) (Nat.ne_of_gt hP) htb, ((But.of HB1.out).trans HB.out).put6 (Nat.le_refl _) (.int .i64 t.k) (.int .i64 t.p) (.string t.n) (.int .i64 t.s) (.slice la ln lc) (.slice ka kn kc)⟩
theorem ppay_any (P tb : Nat) (E : Int) (ts : List Tk) (B : Nat) (w : World) (he : Env B w) (hBP : B <= P) (h : PaIs P tb E ts w) (S : List Tk -> PR Ty) (n : Nat) (hn : ts.length < n) (hS : SessOK P tb E B S n) :
 Calls Tryz.prog 121 #[.pointer (some ⟨P, 0, none⟩)] w (Parsed P tb E w (ppayS S ts) (GTy w.heap.size)) := by
 obtain ⟨W1, hW1⟩ := ex1 (w.alloc (.cells z6 28))
 have hb1 := (made hW1).1
 have x1 := (made hW1).2
 have hs1 : w.heap.size < W1.heap.size := (gl x1)
 have hP : P < w.heap.size := h.lt
 have htb : tb ≠ w.heap.size := Nat.ne_of_lt h.tlt
 have HTB := hid h.tlt
 have HP : Hid (PaIs P tb E ts W1) := hid (h.to hb1)
 have HB : Hid (But P W1 W1) := hid (But.refl _ _)
 have HW1 := hid hW1
 have HB1 := hid hb1
 have HX1 := hid x1
 have HE := hid (he.to hb1)
 clear hW1 hb1 x1 he h
 unfold ppayS
 have HN := hid (next_any P tb E ts W1 HP.out)
 have HS := hid hS
 have hf1 := tk_text
 obtain ⟨_, _, _, _, hz, _⟩ := head_tk HP.out
 have u0 := hd_head (E := E) (s := sBang) (by decide +kernel) ts
 have u1 := hd_head (E := E) (s := sAsk) (by decide +kernel) ts
 have u2 := hd_head (E := E) (s := sPlus) (by decide +kernel) ts
 have u3 := hd_head (E := E) (s := sAnd) (by decide +kernel) ts
 have u4 := hd_head (E := E) (s := sRec) (by decide +kernel) ts
 obtain ⟨⟨k, u, v, a⟩, hx⟩ : ∃ x, hdTk E ts = x := ⟨_, rfl⟩
 rw [hx] at HN u0 u1 u2 u3 u4 hz
 simp only at u0 u1 u2 u3 u4 hz
 clear hS hx
 rw [show sBang.toList = [33] from by decide +kernel] at u0
 rw [show sAsk.toList = [63] from by decide +kernel] at u1
 rw [show sPlus.toList = [43] from by decide +kernel] at u2
 rw [show sAnd.toList = [38] from by decide +kernel] at u3
 rw [show sRec.toList = [114, 101, 99] from by decide +kernel] at u4
 cases h0 : hd sBang ts with
 | true =>
  rw [if_pos (by simp)]
  rw [h0] at u0
  go_enter Tryz.func121, Tryz.ntmps121
  go_upto_region 1 with fail
  rw [HW1.out]
  go_wp2_with (first | (go_at_call 76; refine HN.out.mono ?_; rintro en wn ⟨rfl, hp⟩; replace HP := hid (HP.out.to hp); replace HB := hid (HB.out.to hp); clear hp) | (go_at_call 49; refine (fail_any P tb E ts 1 _ HP.out).mono ?_; rintro en wn ⟨rfl, hb⟩; replace HB := hid (HB.out.trans hb); clear hb))
  exact ⟨rfl, rfl, (But.of HB1.out).trans HB.out⟩
 | false =>
  rw [h0] at u0
  cases h1 : hd sAsk ts with
  | true =>
   rw [if_pos (by simp)]
   rw [h1] at u1
   go_enter Tryz.func121, Tryz.ntmps121
   go_upto_region 1 with fail
   rw [HW1.out]
   go_wp2_with (first | (go_at_call 76; refine HN.out.mono ?_; rintro en wn ⟨rfl, hp⟩; replace HP := hid (HP.out.to hp); replace HB := hid (HB.out.to hp); clear hp) | (go_at_call 49; refine (fail_any P tb E ts 1 _ HP.out).mono ?_; rintro en wn ⟨rfl, hb⟩; replace HB := hid (HB.out.trans hb); clear hb))
   exact ⟨rfl, rfl, (But.of HB1.out).trans HB.out⟩
  | false =>
   rw [h1] at u1
   cases h2 : hd sPlus ts with
   | true =>
    rw [if_pos (by simp)]
    rw [h2] at u2
    go_enter Tryz.func121, Tryz.ntmps121
    go_upto_region 1 with fail
    rw [HW1.out]
    go_wp2_with (first | (go_at_call 76; refine HN.out.mono ?_; rintro en wn ⟨rfl, hp⟩; replace HP := hid (HP.out.to hp); replace HB := hid (HB.out.to hp); clear hp) | (go_at_call 49; refine (fail_any P tb E ts 1 _ HP.out).mono ?_; rintro en wn ⟨rfl, hb⟩; replace HB := hid (HB.out.trans hb); clear hb))
    exact ⟨rfl, rfl, (But.of HB1.out).trans HB.out⟩
   | false =>
    rw [h2] at u2
    cases h3 : hd sAnd ts with
    | true =>
     rw [if_pos (by simp)]
     rw [h3] at u3
     go_enter Tryz.func121, Tryz.ntmps121
     go_upto_region 1 with fail
     rw [HW1.out]
     go_wp2_with (first | (go_at_call 76; refine HN.out.mono ?_; rintro en wn ⟨rfl, hp⟩; replace HP := hid (HP.out.to hp); replace HB := hid (HB.out.to hp); clear hp) | (go_at_call 49; refine (fail_any P tb E ts 1 _ HP.out).mono ?_; rintro en wn ⟨rfl, hb⟩; replace HB := hid (HB.out.trans hb); clear hb))
     exact ⟨rfl, rfl, (But.of HB1.out).trans HB.out⟩
    | false =>
     rw [h3] at u3
     cases h4 : hd sRec ts with
     | true =>
      rw [if_pos (by simp)]
      rw [h4] at u4
      go_enter Tryz.func121, Tryz.ntmps121
      go_upto_region 1 with fail
      rw [HW1.out]
      go_wp2_with (first | (go_at_call 76; refine HN.out.mono ?_; rintro en wn ⟨rfl, hp⟩; replace HP := hid (HP.out.to hp); replace HB := hid (HB.out.to hp); clear hp) | (go_at_call 49; refine (fail_any P tb E ts 1 _ HP.out).mono ?_; rintro en wn ⟨rfl, hb⟩; replace HB := hid (HB.out.trans hb); clear hb))
      exact ⟨rfl, rfl, (But.of HB1.out).trans HB.out⟩
     | false =>
      rw [h4] at u4
      rw [if_neg (by simp)]
      cases hr : panyS S ts with
      | bad er r =>
       go_enter Tryz.func121, Tryz.ntmps121
       go_upto_region 1 with fail
       rw [HW1.out]
       go_wp2_with (first | (go_at_call 76; refine HN.out.mono ?_; rintro en wn ⟨rfl, hp⟩; replace HP := hid (HP.out.to hp); replace HB := hid (HB.out.to hp); clear hp) | (go_at_call 36; refine (pany_any P tb E _ B _ (HE.out.but HB.out hBP) hBP HP.out S n hn HS.out).mono ?_; rw [hr]; rintro en wn ⟨rfl, hb⟩; replace HB := hid (HB.out.trans hb); clear hb))
       exact ⟨rfl, rfl, (But.of HB1.out).trans HB.out⟩
      | ok t r =>
       go_enter Tryz.func121, Tryz.ntmps121
       go_upto_region 1 with fail
       rw [HW1.out]
       go_wp2_with (first | (go_at_call 76; refine HN.out.mono ?_; rintro en wn ⟨rfl, hp⟩; replace HP := hid (HP.out.to hp); replace HB := hid (HB.out.to hp); clear hp) | (go_at_call 36; refine (pany_any P tb E _ B _ (HE.out.but HB.out hBP) hBP HP.out S n hn HS.out).mono ?_; rw [hr]; rintro en wn ⟨⟨v, rfl, hg⟩, hp, hb⟩; obtain ⟨la, ln, lc, ka, kn, kc, rfl⟩ := hg.open; have HPn := hid hp; have HG := hid (hg.mono (show W1.heap.size <= _ from HB.out.size)); have HBn := hid (HB.out.trans hb); clear hg; clear hp hb HP HB; have HP := HPn; have HB := HBn; clear HPn HBn; have hx9 := (HB.out.block w.heap.size hs1 (Nat.ne_of_gt hP)).trans HX1.out; obtain ⟨⟨q0, q1, q2, q3, q4, q5⟩, z0, z1, z2, z3, z4, z5⟩ := c6 hx9; have HX9 := hid hx9; clear hx9))
       have hx8 := fill6 HX9.out (.int .i64 t.k) (.int .i64 t.p) (.string t.n) (.int .i64 t.s) (.slice la ln lc) (.slice ka kn kc)
       obtain ⟨⟨y0, y1, y2, y3, y4, y5⟩, -⟩ := c6 hx8
       refine bodyPost_ret (v := .agg #[.int .i64 t.k, .int .i64 t.p, .string t.n, .int .i64 t.s, .slice la ln lc, .slice ka kn kc]) (by simp [results, Tryz.results121, go_sem, y0, y1, y2, y3, y4, y5]) rfl ?_
       exact ⟨⟨_, rfl, (HG.out.put6 hs1 (.int .i64 t.k) (.int .i64 t.p) (.string t.n) (.int .i64 t.s) (.slice la ln lc) (.slice ka kn kc)).mono (Nat.le_of_lt hs1)⟩, HP.out.oth (X := w.heap.size) (fun j hj => put6_oth hj (.int .i64 t.k) (.int .i64 t.p) (.string t.n) (.int .i64 t.s) (.slice la ln lc) (.slice ka kn kc)) (put6_size _ _ (.int .i64 t.k) (.int .i64 t.p) (.string t.n) (.int .i64 t.s) (.slice la ln lc) (.slice ka kn kc)) (Nat.ne_of_gt hP) htb, ((But.of HB1.out).trans HB.out).put6 (Nat.le_refl _) (.int .i64 t.k) (.int .i64 t.p) (.string t.n) (.int .i64 t.s) (.slice la ln lc) (.slice ka kn kc)⟩
theorem prec_any (P tb : Nat) (E : Int) (ts : List Tk) (B : Nat) (w : World) (he : Env B w) (hBP : B <= P) (h : PaIs P tb E ts w) (S : List Tk -> PR Ty) (n : Nat) (hn : ts.length < n) (hS : SessOK P tb E B S n) :
 Calls Tryz.prog 95 #[.pointer (some ⟨P, 0, none⟩)] w (Parsed P tb E w (precS nameB S ts) (GTy w.heap.size)) := by
 obtain ⟨W1, hW1⟩ := ex1 (w.alloc (.cells z6 28))
 have hb1 := (made hW1).1
 have x1 := (made hW1).2
 have hs1 : w.heap.size < W1.heap.size := (gl x1)
 have hP : P < w.heap.size := h.lt
 have htb : tb ≠ w.heap.size := Nat.ne_of_lt h.tlt
 have HTB := hid h.tlt
 have HP : Hid (PaIs P tb E ts W1) := hid (h.to hb1)
 have HB : Hid (But P W1 W1) := hid (But.refl _ _)
 have HW1 := hid hW1
 have HB1 := hid hb1
 have HX1 := hid x1
 have HE := hid (he.to hb1)
 clear hW1 hb1 x1 he h
 unfold precS
 have HS := hid hS
 clear hS
 cases h1 : pname nameB ts with
 | bad er r =>
  show Calls _ _ _ _ (Parsed P tb E w (PR.bad er r) _)
  go_enter Tryz.func95, Tryz.ntmps95
  go_upto_region 1 with fail
  rw [HW1.out]
  go_wp2_with (go_at_call 78; refine (namB HE.out HP HB h1).mono ?_; rintro _ wn ⟨rfl, HB⟩)
  exact ⟨rfl, rfl, (But.of HB1.out).trans HB.out⟩
 | ok nm r1 =>
  have hl1 : r1.length < n := by have := pname_le h1; omega
  cases h2 : need sDot r1 with
  | bad er r =>
   show Calls _ _ _ _ (Parsed P tb E w ((need sDot r1).bind _) _)
   rw [h2]
   show Calls _ _ _ _ (Parsed P tb E w (PR.bad er r) _)
   go_enter Tryz.func95, Tryz.ntmps95
   go_upto_region 1 with fail
   rw [HW1.out]
   go_wp2_with (first | (go_at_call 78; refine (namH HE.out HP HB h1).mono ?_; rintro _ wn ⟨rfl, hnz, HP, HB⟩) | (go_at_call 52; refine (expB HP HB h2).mono ?_; rintro _ wn ⟨rfl, HB⟩))
   exact ⟨rfl, rfl, (But.of HB1.out).trans HB.out⟩
  | ok un r2 =>
   have hl2 : r2.length < n := by have := need_le h2; omega
   show Calls _ _ _ _ (Parsed P tb E w ((need sDot r1).bind _) _)
   rw [h2]
   cases hr : S r2 with
   | bad er r =>
    show Calls _ _ _ _ (Parsed P tb E w ((S r2).bind _) _)
    rw [hr]
    show Calls _ _ _ _ (Parsed P tb E w (PR.bad er r) _)
    go_enter Tryz.func95, Tryz.ntmps95
    go_upto_region 1 with fail
    rw [HW1.out]
    go_wp2_with (first | (go_at_call 78; refine (namH HE.out HP HB h1).mono ?_; rintro _ wn ⟨rfl, hnz, HP, HB⟩) | (go_at_call 52; refine (expH HP HB h2).mono ?_; rintro _ wn ⟨rfl, HP, HB⟩) | (go_at_call 68; refine (HS.out _ _ hl2 (HE.out.but HB.out hBP) HP.out).mono ?_; rw [hr]; rintro en wn ⟨rfl, hb⟩; replace HB := hid (HB.out.trans hb); clear hb))
    exact ⟨rfl, rfl, (But.of HB1.out).trans HB.out⟩
   | ok t r =>
    show Calls _ _ _ _ (Parsed P tb E w ((S r2).bind _) _)
    rw [hr]
    show Calls _ _ _ _ (Parsed P tb E w (PR.ok (Ty.mk 8 0 nm 0 [] [t]) r) _)
    go_enter Tryz.func95, Tryz.ntmps95
    go_upto_region 1 with fail
    rw [HW1.out]
    go_wp2_with (first | (go_at_call 78; refine (namH HE.out HP HB h1).mono ?_; rintro _ wn ⟨rfl, hnz, HP, HB⟩) | (go_at_call 52; refine (expH HP HB h2).mono ?_; rintro _ wn ⟨rfl, HP, HB⟩) | (go_at_call 68; refine (HS.out _ _ hl2 (HE.out.but HB.out hBP) HP.out).mono ?_; rw [hr]; rintro en wn ⟨⟨v, rfl, hg⟩, hp, hb⟩; obtain ⟨la, ln, lc, ka, kn, kc, rfl⟩ := hg.open; have HPn := hid hp; have HG := hid (hg.mono (show W1.heap.size <= _ from HB.out.size)); have HBn := hid (HB.out.trans hb); clear hg; clear hp hb HP HB; have HP := HPn; have HB := HBn; clear HPn HBn; have hb5 : Below wn.heap.size wn (wn.alloc (.cells #[.int .i64 t.k, .int .i64 t.p, .string t.n, .int .i64 t.s, .slice la ln lc, .slice ka kn kc] 28)) := (Below.refl _ _).alloc (Nat.le_refl _) _; have hx9 := (hb5.block _ (Nat.lt_of_lt_of_le hs1 HB.out.size)).trans ((HB.out.block w.heap.size hs1 (Nat.ne_of_gt hP)).trans HX1.out); obtain ⟨⟨q0, q1, q2, q3, q4, q5⟩, z0, z1, z2, z3, z4, z5⟩ := c6 hx9; have HX9 := hid hx9; have HB5 := hid hb5; clear hx9 hb5))
    have x5 : (wn.alloc (.cells #[.int .i64 t.k, .int .i64 t.p, .string t.n, .int .i64 t.s, .slice la ln lc, .slice ka kn kc] 28)).heap[wn.heap.size]? = some (.cells #[.int .i64 t.k, .int .i64 t.p, .string t.n, .int .i64 t.s, .slice la ln lc, .slice ka kn kc] 28 (0, 0)) := World.alloc_heap_new _ _
    obtain ⟨W5, hW5⟩ := ex1 (wn.alloc (.cells #[.int .i64 t.k, .int .i64 t.p, .string t.n, .int .i64 t.s, .slice la ln lc, .slice ka kn kc] 28))
    rw [hW5] at HX9 HB5 x5 |-
    clear hW5 q0 q1 q2 q3 q4 q5 z0 z1 z2 z3 z4 z5
    have hwn : W1.heap.size <= wn.heap.size := HB.out.size
    have hg5 : GTy W1.heap.size W5 (.mk 8 0 nm 0 [] [t]) (.agg #[.int .i64 8, .int .i64 0, .string nm, .int .i64 0, .slice none 0 0, .slice (some ⟨wn.heap.size, 0, none⟩) 1 1]) := GTy.node hnz (str_nil _ _) (tys_one x5 ⟨hwn, (gl x5)⟩ (HG.out.but (But.of (P := P) HB5.out) (Nat.lt_trans hP hs1)))
    have HPn := hid (HP.out.to HB5.out)
    have HBn := hid (HB.out.to HB5.out)
    clear HP HB
    have HP := HPn
    have HB := HBn
    have hx8 := fill6 HX9.out (.int .i64 8) (.int .i64 0) (.string nm) (.int .i64 0) (.slice none 0 0) (.slice (some ⟨wn.heap.size, 0, none⟩) 1 1)
    obtain ⟨⟨y0, y1, y2, y3, y4, y5⟩, -⟩ := c6 hx8
    refine bodyPost_ret (v := .agg #[.int .i64 8, .int .i64 0, .string nm, .int .i64 0, .slice none 0 0, .slice (some ⟨wn.heap.size, 0, none⟩) 1 1]) (by simp [results, Tryz.results95, go_sem, y0, y1, y2, y3, y4, y5]) rfl ?_
    exact ⟨⟨_, rfl, (hg5.put6 hs1 (.int .i64 8) (.int .i64 0) (.string nm) (.int .i64 0) (.slice none 0 0) (.slice (some ⟨wn.heap.size, 0, none⟩) 1 1)).mono (Nat.le_of_lt hs1)⟩, HP.out.oth (X := w.heap.size) (fun j hj => put6_oth hj (.int .i64 8) (.int .i64 0) (.string nm) (.int .i64 0) (.slice none 0 0) (.slice (some ⟨wn.heap.size, 0, none⟩) 1 1)) (put6_size _ _ (.int .i64 8) (.int .i64 0) (.string nm) (.int .i64 0) (.slice none 0 0) (.slice (some ⟨wn.heap.size, 0, none⟩) 1 1)) (Nat.ne_of_gt hP) htb, ((But.of HB1.out).trans HB.out).put6 (Nat.le_refl _) (.int .i64 8) (.int .i64 0) (.string nm) (.int .i64 0) (.slice none 0 0) (.slice (some ⟨wn.heap.size, 0, none⟩) 1 1)⟩
end Go.Proofs.YtejaboajgecpaaaGreatDoor
