/- Parsing: lemmas. -/
import Derived.Test.YtejaboajgecpaaaGreatDoorQn27
import Derived.Test.YtejaboajgecpaaaGreatDoorSh
import Derived.Lib.IndexLaws
set_option maxHeartbeats 16000000
set_option maxRecDepth 100000
namespace Go.Proofs.YtejaboajgecpaaaGreatDoor
open Go.Lib (hid)
open Go.RowKit Go.Deep Go.Shelf
def Ty.tooBig (t : Ty) : Bool := decide (100 < t.depth) || decide (10000 < t.size)
def Df.deep (d : Df) : Bool := d.ms.any (fun a => decide (100 < a.t.depth)) || d.b.deepP 100
def Pg.tooBig (g : Pg) : Bool := g.ds.any Df.deep || g.m.deepP 100 || decide (10000 < g.total)
theorem ttoo_any (B : Nat -> Prop) (t : Ty) (hsz : t.size <= 1000000) (v : Value) (w : World) (hB : Low B w) (hv : TyVal B w v t) :
 Calls Tryz.prog 37 #[v] w fun e w' => e = .returned (.bool t.tooBig) /\ Below w.heap.size w w' := by
 have HT := hid (fun (W : World) (hW : Below w.heap.size w W) => tdeep_any B t 100 100 rfl (by decide) v W (hB.le hW.size) (hv.keep (hW.keeps'.mono hB)))
 have HS := hid (fun (hdp : decide (100 < t.depth) = false) (W : World) (hW : Below w.heap.size w W) => tsize_any B t hsz (by have := of_decide_eq_false hdp; omega) v W (hB.le hW.size) (hv.keep (hW.keeps'.mono hB)))
 obtain ⟨la, ln, lc, ka, kn, kc, rfl⟩ := TyVal.open6 hv
 clear hv
 obtain ⟨W1, hW1⟩ := ex1 (w.alloc (.cells #[.int .i64 t.k, .int .i64 t.p, .string t.n, .int .i64 t.s, .slice la ln lc, .slice ka kn kc] 28))
 have hb1 := (made hW1).1
 have x1 := (made hW1).2
 have HW1 := hid hW1
 have HB1 := hid hb1
 have HX1 := hid x1
 obtain ⟨⟨q0, q1, q2, q3, q4, q5⟩, -⟩ := c6 x1
 have HT1 := hid (HT.out W1 hb1)
 clear hW1 hb1 x1
 unfold Ty.tooBig
 cases hdp : decide (100 < t.depth) with
 | true =>
  rw [hdp] at HT1
  go_enter Tryz.func37, Tryz.ntmps37
  go_upto_region 1 with fail
  rw [HW1.out]
  go_wp2_with (go_at_call 69; refine HT1.out.mono ?_; rintro e w3 ⟨rfl, hb⟩; have HB3 := hid hb; clear hb)
  go_ret
  exact ⟨rfl, below_seq HB1.out HB3.out⟩
 | false =>
  rw [hdp] at HT1
  rw [Bool.false_or]
  cases hd2 : decide (10000 < t.size) with
  | true =>
   have hd3 : decide ((10000 : Int) < (t.size : Int)) = true := by have := of_decide_eq_true hd2; simp; omega
   go_enter Tryz.func37, Tryz.ntmps37
   go_upto_region 1 with fail
   rw [HW1.out]
   go_wp2_with (first | (go_at_call 69; refine HT1.out.mono ?_; rintro e w3 ⟨rfl, hb⟩; have HB3 := hid hb; obtain ⟨⟨r0, r1, r2, r3, r4, r5⟩, -⟩ := c6 ((hb.block _ (gl HX1.out)).trans HX1.out); clear hb) | (go_at_call 70; refine (HS.out hdp w3 (below_seq HB1.out HB3.out)).mono ?_; rintro e w4 ⟨rfl, hb⟩; have HB4 := hid hb; clear hb))
   go_ret
   exact ⟨rfl, below_seq (below_seq HB1.out HB3.out) HB4.out⟩
  | false =>
   have hd3 : decide ((10000 : Int) < (t.size : Int)) = false := by have := of_decide_eq_false hd2; simp; omega
   go_enter Tryz.func37, Tryz.ntmps37
   go_upto_region 1 with fail
   rw [HW1.out]
   go_wp2_with (first | (go_at_call 69; refine HT1.out.mono ?_; rintro e w3 ⟨rfl, hb⟩; have HB3 := hid hb; obtain ⟨⟨r0, r1, r2, r3, r4, r5⟩, -⟩ := c6 ((hb.block _ (gl HX1.out)).trans HX1.out); clear hb) | (go_at_call 70; refine (HS.out hdp w3 (below_seq HB1.out HB3.out)).mono ?_; rintro e w4 ⟨rfl, hb⟩; have HB4 := hid hb; clear hb))
   go_ret
   exact ⟨rfl, below_seq (below_seq HB1.out HB3.out) HB4.out⟩
theorem mdeep_any (B : Nat -> Prop) (a : Pm) (v : Value) (w : World) (hB : Low B w) (hv : PmVal B w v a) :
 Calls Tryz.prog 83 #[v] w fun e w' => e = .returned (.bool (decide (100 < a.t.depth))) /\ Below w.heap.size w w' := by
 obtain ⟨tl, tk, rfl, _, ht⟩ := hv
 have HT := hid (fun (W : World) (hW : Below w.heap.size w W) => tdeep_any B a.t 100 100 rfl (by decide) _ W (hB.le hW.size) (ht.keep (hW.keeps'.mono hB)))
 obtain ⟨la, ln, lc, ka, kn, kc, rfl, rfl⟩ := ht.slices
 clear ht
 obtain ⟨W1, hW1⟩ := ex1 (w.alloc (.cells #[.string a.n, .int .i64 a.t.k, .int .i64 a.t.p, .string a.t.n, .int .i64 a.t.s, .slice la ln lc, .slice ka kn kc] 63))
 have hb1 := (made hW1).1
 have x1 := (made hW1).2
 have HW1 := hid hW1
 have HB1 := hid hb1
 obtain ⟨⟨q0, q1, q2, q3, q4, q5, q6⟩, -⟩ := c7p x1
 clear hW1 hb1 x1
 go_enter Tryz.func83, Tryz.ntmps83
 go_upto_region 1 with fail
 rw [HW1.out]
 go_wp2_with (go_at_call 69; refine (HT.out W1 HB1.out).mono ?_; rintro e w3 ⟨rfl, hb⟩; have HB3 := hid hb; clear hb)
 go_ret
 exact ⟨rfl, below_seq HB1.out HB3.out⟩
theorem enters_md : ∀ args w, (callFunc 83 args).run Tryz.prog w = .ok (.enter 83 args) w := enters_of Tryz.func83 (by kernel_rfl) rfl
theorem enters_dd : ∀ args w, (callFunc 55 args).run Tryz.prog w = .ok (.enter 55 args) w := enters_of Tryz.func55 (by kernel_rfl) rfl
theorem ddeep_any (B : Nat -> Prop) (d : Df) (v : Value) (w : World) (hB : Low B w) (hv : DfVal B w v d) :
 Calls Tryz.prog 55 #[v] w fun e w' => e = .returned (.bool d.deep) /\ Below w.heap.size w w' := by
 have hv0 := hv
 obtain ⟨ma, mn, mc, la, ln, lc, aa, an, ac, ta, tn, tc, ua, un, uc, ka, kn, kc, rfl⟩ := DfVal.open hv
 obtain ⟨mv, lv, av, tl, tk, kv, e, _, hm, hp⟩ := hv0
 simp only [Value.agg.injEq, Array.mk.injEq, List.cons.injEq, and_true, true_and] at e
 obtain ⟨rfl, rfl, rfl, rfl, rfl, rfl⟩ := e
 obtain ⟨W1, hW1⟩ := ex1 (w.alloc (.cells #[.string d.n, .slice ma mn mc, .int .i64 d.b.k, .string d.b.c, .string d.b.x, .slice la ln lc, .slice aa an ac, .int .i64 d.b.t.k, .int .i64 d.b.t.p, .string d.b.t.n, .int .i64 d.b.t.s, .slice ta tn tc, .slice ua un uc, .slice ka kn kc] 61))
 have hb1 := (made hW1).1
 have x1 := (made hW1).2
 have HM := hid (containsParam_any B d.ms (fun a => decide (100 < a.t.depth)) 83 #[] enters_md (.slice ma mn mc) W1 (hB.le hb1.size) (hm.keep (hb1.keeps'.mono hB)) (fun a _ v W hW hv => mdeep_any B a v W (hB.le (Nat.le_trans hb1.size hW.size)) hv))
 have HP := hid (fun (W : World) (hW : Below w.heap.size w W) => pdeep_any B d.b 100 100 rfl (by decide) _ W (hB.le hW.size) (hp.keep (hW.keeps'.mono hB)))
 have HW1 := hid hW1
 have HB1 := hid hb1
 have HX1 := hid x1
 obtain ⟨⟨q0, q1, q2, q3, q4, q5, q6, q7, q8, q9, q10, q11, q12, q13⟩, -⟩ := c14p x1
 have en := enters_md
 clear hv hm hp hW1 hb1 x1
 unfold Df.deep
 cases hdp : d.ms.any (fun a => decide (100 < a.t.depth)) with
 | true =>
  rw [hdp] at HM
  go_enter Tryz.func55, Tryz.ntmps55
  go_upto_region 1 with fail
  rw [HW1.out]
  go_wp2_with (go_at_call 82; refine HM.out.mono ?_; rintro e w3 ⟨rfl, hb⟩; have HB3 := hid hb; clear hb)
  go_ret
  exact ⟨rfl, below_seq HB1.out HB3.out⟩
 | false =>
  rw [hdp] at HM
  rw [Bool.false_or]
  go_enter Tryz.func55, Tryz.ntmps55
  go_upto_region 1 with fail
  rw [HW1.out]
  go_wp2_with (first | (go_at_call 82; refine HM.out.mono ?_; rintro e w3 ⟨rfl, hb⟩; have HB3 := hid hb; obtain ⟨⟨r0, r1, r2, r3, r4, r5, r6, r7, r8, r9, r10, r11, r12, r13⟩, -⟩ := c14p ((hb.block _ (gl HX1.out)).trans HX1.out); clear hb) | (go_at_call 56; refine (HP.out w3 (below_seq HB1.out HB3.out)).mono ?_; rintro e w4 ⟨rfl, hb⟩; have HB4 := hid hb; clear hb))
  go_ret
  exact ⟨rfl, below_seq (below_seq HB1.out HB3.out) HB4.out⟩
theorem gtoo_any (B : Nat -> Prop) (g : Pg) (hg : g.ds.any Df.deep = false -> g.m.deepP 100 = false -> GGood g /\ g.total <= 1000000000) (v : Value) (w : World) (hB : Low B w) (hv : PgVal B w v g) :
 Calls Tryz.prog 25 #[v] w fun e w' => e = .returned (.bool g.tooBig) /\ Below w.heap.size w w' := by
 have HTO := hid (fun (h1 : g.ds.any Df.deep = false) (h2 : g.m.deepP 100 = false) (W : World) (hW : Below w.heap.size w W) => ptotal_any B g (hg h1 h2).1 (hg h1 h2).2 v W (hB.le hW.size) (hv.keep (hW.keeps'.mono hB)))
 obtain ⟨dv, lv, av, tl, tk, kv, rfl, hd, hp⟩ := hv
 obtain ⟨da, dn, dc, rfl, _⟩ := hd.open
 obtain ⟨la, ln, lc, aa, an, ac, ta, tn, tc, ua, un, uc, ka, kn, kc, rfl, rfl, rfl, rfl, rfl⟩ := prv_slices hp
 obtain ⟨W1, hW1⟩ := ex1 (w.alloc (.cells #[.slice da dn dc, .int .i64 g.m.k, .string g.m.c, .string g.m.x, .slice la ln lc, .slice aa an ac, .int .i64 g.m.t.k, .int .i64 g.m.t.p, .string g.m.t.n, .int .i64 g.m.t.s, .slice ta tn tc, .slice ua un uc, .slice ka kn kc] 33))
 have hb1 := (made hW1).1
 have x1 := (made hW1).2
 have HM := hid (containsDef_any B g.ds Df.deep 55 #[] enters_dd (.slice da dn dc) W1 (hB.le hb1.size) (hd.keep (hb1.keeps'.mono hB)) (fun a _ v W hW hv => ddeep_any B a v W (hB.le (Nat.le_trans hb1.size hW.size)) hv))
 have HP := hid (fun (W : World) (hW : Below w.heap.size w W) => pdeep_any B g.m 100 100 rfl (by decide) _ W (hB.le hW.size) (hp.keep (hW.keeps'.mono hB)))
 have HW1 := hid hW1
 have HB1 := hid hb1
 have HX1 := hid x1
 obtain ⟨⟨q0, q1, q2, q3, q4, q5, q6, q7, q8, q9, q10, q11, q12⟩, -⟩ := c13p x1
 have en := enters_dd
 clear hd hp hW1 hb1 x1
 unfold Pg.tooBig
 cases hdp : g.ds.any Df.deep with
 | true =>
  rw [hdp] at HM
  rw [Bool.true_or, Bool.true_or]
  go_enter Tryz.func25, Tryz.ntmps25
  go_upto_region 1 with fail
  rw [HW1.out]
  go_wp2_with (go_at_call 54; refine HM.out.mono ?_; rintro e w3 ⟨rfl, hb⟩; have HB3 := hid hb; clear hb)
  go_ret
  exact ⟨rfl, below_seq HB1.out HB3.out⟩
 | false =>
  rw [hdp] at HM
  rw [Bool.false_or]
  cases hd2 : g.m.deepP 100 with
  | true =>
   rw [hd2] at HP
   rw [Bool.true_or]
   go_enter Tryz.func25, Tryz.ntmps25
   go_upto_region 1 with fail
   rw [HW1.out]
   go_wp2_with (first | (go_at_call 54; refine HM.out.mono ?_; rintro e w3 ⟨rfl, hb⟩; have HB3 := hid hb; obtain ⟨⟨r0, r1, r2, r3, r4, r5, r6, r7, r8, r9, r10, r11, r12⟩, -⟩ := c13p ((hb.block _ (gl HX1.out)).trans HX1.out); clear hb) | (go_at_call 56; refine (HP.out w3 (below_seq HB1.out HB3.out)).mono ?_; rintro e w4 ⟨rfl, hb⟩; have HB4 := hid hb; clear hb))
   go_ret
   exact ⟨rfl, below_seq (below_seq HB1.out HB3.out) HB4.out⟩
  | false =>
   rw [hd2] at HP
   rw [Bool.false_or]
   cases hd4 : decide (10000 < g.total) with
   | true =>
    have hd3 : decide ((10000 : Int) < (g.total : Int)) = true := by have := of_decide_eq_true hd4; simp; omega
    go_enter Tryz.func25, Tryz.ntmps25
    go_upto_region 1 with fail
    rw [HW1.out]
    go_wp2_with (first | (go_at_call 54; refine HM.out.mono ?_; rintro e w3 ⟨rfl, hb⟩; have HB3 := hid hb; obtain ⟨⟨r0, r1, r2, r3, r4, r5, r6, r7, r8, r9, r10, r11, r12⟩, -⟩ := c13p ((hb.block _ (gl HX1.out)).trans HX1.out); clear hb) | (go_at_call 56; refine (HP.out w3 (below_seq HB1.out HB3.out)).mono ?_; rintro e w4 ⟨rfl, hb⟩; have HB4 := hid hb; obtain ⟨⟨s0, s1, s2, s3, s4, s5, s6, s7, s8, s9, s10, s11, s12⟩, -⟩ := c13p ((hb.block _ (Nat.lt_of_lt_of_le (gl HX1.out) HB3.out.size)).trans ((HB3.out.block _ (gl HX1.out)).trans HX1.out)); clear hb) | (go_at_call 57; refine (HTO.out hdp hd2 w4 (below_seq (below_seq HB1.out HB3.out) HB4.out)).mono ?_; rintro e w5 ⟨rfl, hb⟩; have HB5 := hid hb; clear hb))
    go_ret
    exact ⟨rfl, below_seq (below_seq (below_seq HB1.out HB3.out) HB4.out) HB5.out⟩
   | false =>
    have hd3 : decide ((10000 : Int) < (g.total : Int)) = false := by have := of_decide_eq_false hd4; simp; omega
    go_enter Tryz.func25, Tryz.ntmps25
    go_upto_region 1 with fail
    rw [HW1.out]
    go_wp2_with (first | (go_at_call 54; refine HM.out.mono ?_; rintro e w3 ⟨rfl, hb⟩; have HB3 := hid hb; obtain ⟨⟨r0, r1, r2, r3, r4, r5, r6, r7, r8, r9, r10, r11, r12⟩, -⟩ := c13p ((hb.block _ (gl HX1.out)).trans HX1.out); clear hb) | (go_at_call 56; refine (HP.out w3 (below_seq HB1.out HB3.out)).mono ?_; rintro e w4 ⟨rfl, hb⟩; have HB4 := hid hb; obtain ⟨⟨s0, s1, s2, s3, s4, s5, s6, s7, s8, s9, s10, s11, s12⟩, -⟩ := c13p ((hb.block _ (Nat.lt_of_lt_of_le (gl HX1.out) HB3.out.size)).trans ((HB3.out.block _ (gl HX1.out)).trans HX1.out)); clear hb) | (go_at_call 57; refine (HTO.out hdp hd2 w4 (below_seq (below_seq HB1.out HB3.out) HB4.out)).mono ?_; rintro e w5 ⟨rfl, hb⟩; have HB5 := hid hb; clear hb))
    go_ret
    exact ⟨rfl, below_seq (below_seq (below_seq HB1.out HB3.out) HB4.out) HB5.out⟩
theorem prtoo_any (B : Nat -> Prop) (p : Pr) (hg : p.deepP 100 = false -> GGood ⟨[], p⟩ /\ (⟨[], p⟩ : Pg).total <= 1000000000) (v : Value) (w : World) (hB : Low B w) (hv : PrVal B w v p) :
 Calls Tryz.prog 32 #[v] w fun e w' => e = .returned (.bool (⟨[], p⟩ : Pg).tooBig) /\ Below w.heap.size w w' := by
 obtain ⟨la, ln, lc, aa, an, ac, ta, tn, tc, ua, un, uc, ka, kn, kc, rfl⟩ := PrVal.open hv
 have HG := hid (fun (W : World) (hW : Below w.heap.size w W) => gtoo_any B ⟨[], p⟩ (fun _ h => hg h) (.agg #[.slice none 0 0, .int .i64 p.k, .string p.c, .string p.x, .slice la ln lc, .slice aa an ac, .int .i64 p.t.k, .int .i64 p.t.p, .string p.t.n, .int .i64 p.t.s, .slice ta tn tc, .slice ua un uc, .slice ka kn kc]) W (hB.le hW.size) ⟨_, _, _, _, _, _, rfl, ⟨.inl ⟨⟨_, _, rfl⟩, rfl⟩, Nat.zero_le _⟩, hv.keep (hW.keeps'.mono hB)⟩)
 clear hv
 obtain ⟨W1, hW1⟩ := ex1 (w.alloc (.cells #[.int .i64 p.k, .string p.c, .string p.x, .slice la ln lc, .slice aa an ac, .int .i64 p.t.k, .int .i64 p.t.p, .string p.t.n, .int .i64 p.t.s, .slice ta tn tc, .slice ua un uc, .slice ka kn kc] 31))
 have hb1 := (made hW1).1
 have x1 := (made hW1).2
 have HW1 := hid hW1
 have HB1 := hid hb1
 obtain ⟨⟨q0, q1, q2, q3, q4, q5, q6, q7, q8, q9, q10, q11⟩, -⟩ := c12p x1
 clear hW1 hb1 x1
 go_enter Tryz.func32, Tryz.ntmps32
 go_upto_region 1 with fail
 rw [HW1.out]
 go_wp2_with (go_at_call 25; refine (HG.out W1 HB1.out).mono ?_; rintro e w3 ⟨rfl, hb⟩; have HB3 := hid hb; clear hb)
 go_ret
 exact ⟨rfl, below_seq HB1.out HB3.out⟩
end Go.Proofs.YtejaboajgecpaaaGreatDoor
namespace Go.Proofs.YtejaboajgecpaaaGreatDoor.Tok
open Go.Lib (hid)
open Go.RowKit
theorem ret_bool {a b : Bool} (h : a = b) : Ending.returned (.bool a) = .returned (.bool b) := by rw [h]
theorem ret_int {k : IntKind} {a b : Int} (h : a = b) : Ending.returned (.int k a) = .returned (.int k b) := by rw [h]
theorem letter_any (b : Int) (h0 : 0 <= b) (h1 : b < 256) (w : World) :
 Calls Tryz.prog 147 #[.int .u8 b] w fun e w' => e = .returned (.bool (Lx.letB b)) /\ w = w' := by
 go_enter Tryz.func147, Tryz.ntmps147
 go_wp2
 all_goals (go_ret; refine ⟨ret_bool ?_, rfl⟩; unfold Lx.letB; rw [Bool.eq_iff_iff]; simp; try omega)
theorem digit_any (b : Int) (h0 : 0 <= b) (h1 : b < 256) (w : World) :
 Calls Tryz.prog 148 #[.int .u8 b] w fun e w' => e = .returned (.bool (Lx.digB b)) /\ w = w' := by
 go_enter Tryz.func148, Tryz.ntmps148
 go_wp2
 all_goals (go_ret; refine ⟨ret_bool ?_, rfl⟩; unfold Lx.digB; rw [Bool.eq_iff_iff]; simp; try omega)
theorem toList_ne (s : ByteArray) (h : 0 < s.size) : ¬ s.toList = [] := by
 rw [Lib.toList_data]; intro e
 have h2 : s.data.toList.length = 0 := by rw [e]; rfl
 have h3 : s.data.toList.length = s.size := rfl
 omega
theorem toList_nil (s : ByteArray) (h : s.size = 0) : s.toList = [] := by
 rw [Lib.toList_data]; apply List.eq_nil_of_length_eq_zero; exact h
theorem list_cons (l : List UInt8) (h : 0 < l.length) : l = l[0] :: l.tail := by
 cases l with
 | nil => simp at h
 | cons c r => simp
theorem data_cons (s : ByteArray) (h : 0 < s.size) : s.data.toList = s[0] :: s.data.toList.tail := list_cons s.data.toList h
theorem byte_bd (c : UInt8) : 0 <= (c.toNat : Int) /\ (c.toNat : Int) < 256 := ⟨by omega, by have := c.toNat_lt; omega⟩
theorem letter_byte (c : UInt8) (w : World) :
 Calls Tryz.prog 147 #[.int .u8 (c.toNat : Int)] w fun e w' => e = .returned (.bool (Lx.letB (c.toNat : Int))) /\ w = w' :=
 letter_any _ (byte_bd c).1 (byte_bd c).2 w
theorem digit_byte (c : UInt8) (w : World) :
 Calls Tryz.prog 148 #[.int .u8 (c.toNat : Int)] w fun e w' => e = .returned (.bool (Lx.digB (c.toNat : Int))) /\ w = w' :=
 digit_any _ (byte_bd c).1 (byte_bd c).2 w
theorem wordLen_none (s : ByteArray) (h0 : s.toList = []) (w : World) :
 Calls Tryz.prog 131 #[.string s] w fun e w' => e = .returned (.int .i64 0) /\ w = w' := by
 go_enter Tryz.func131, Tryz.ntmps131
 go_wp2_with fail
 go_ret
 exact ⟨rfl, rfl⟩
theorem wordLen_no (s : ByteArray) (_h0 : ¬ s.toList = []) (h0' : s.toList.isEmpty = false) (h1 : 0 < s.size) (hl : Lx.letB (s[0].toNat : Int) = false) (w : World) :
 Calls Tryz.prog 131 #[.string s] w fun e w' => e = .returned (.int .i64 0) /\ w = w' := by
 go_enter Tryz.func131, Tryz.ntmps131
 go_wp2_with (go_at_call 147; refine (letter_byte _ _).mono ?_; rintro e w' ⟨rfl, rfl⟩)
 go_ret
 exact ⟨rfl, rfl⟩
def AllWc (s : ByteArray) (k : Nat) : Prop := ∀ j (h : j < s.size), 1 <= j -> j < k -> Lx.wcU s[j] = true
theorem wordLen_yes (s : ByteArray) (_h0 : ¬ s.toList = []) (h0' : s.toList.isEmpty = false) (h1 : 0 < s.size) (hs : s.size <= 9223372036854775807) (hl : Lx.letB (s[0].toNat : Int) = true) (w : World) :
 Calls Tryz.prog 131 #[.string s] w fun e w' => (∃ k : Nat, e = .returned (.int .i64 k) /\ 1 <= k /\ k <= s.size /\ AllWc s k /\ (∀ h : k < s.size, Lx.wcU s[k] = false)) /\ w = w' := by
 go_enter Tryz.func131, Tryz.ntmps131
 go_wp2_with (go_at_call 147; refine (letter_byte _ _).mono ?_; rintro e w' ⟨rfl, rfl⟩)
 go_loop [3] (fun n => ∃ k : Nat, 1 <= k /\ k <= s.size /\ n = .int .i64 k /\ AllWc s k) (fun n => s.size - (intOf n).toNat)
 case atStart => exact ⟨1, by omega, by omega, rfl, fun j _ h3 h4 => by omega⟩
 case round =>
  obtain ⟨k, hk1, hk2, rfl, ha⟩ := hrel
  by_cases hlt : k < s.size
  ·by_cases hw : Lx.wcU s[k] = true
   ·have hnext : AllWc s (k + 1) := by
     intro j hj h3 h4
     by_cases e : j = k
     ·subst e; exact hw
     ·exact ha j hj h3 (by omega)
    by_cases hle : Lx.letB (s[k].toNat : Int) = true
    ·clear hw
     go_wp2_with (first | (go_at_call 147; refine (letter_byte _ _).mono ?_; rintro e w' ⟨rfl, rfl⟩) | (go_at_call 148; refine (digit_byte _ _).mono ?_; rintro e w' ⟨rfl, rfl⟩))
     go_round
     case rel => exact ⟨k + 1, by omega, by omega, by go_num, hnext⟩
     case measure => simp [intOf]; omega
    ·have hle' : Lx.letB (s[k].toNat : Int) = false := by simpa using hle
     have hd : Lx.digB (s[k].toNat : Int) = true := by simpa [Lx.wcU, Lx.letU, Lx.digU, hle'] using hw
     clear hw hle
     go_wp2_with (first | (go_at_call 147; refine (letter_byte _ _).mono ?_; rintro e w' ⟨rfl, rfl⟩) | (go_at_call 148; refine (digit_byte _ _).mono ?_; rintro e w' ⟨rfl, rfl⟩))
     go_round
     case rel => exact ⟨k + 1, by omega, by omega, by go_num, hnext⟩
     case measure => simp [intOf]; omega
   ·have hw' : Lx.wcU s[k] = false := by simpa using hw
    have hle : Lx.letB (s[k].toNat : Int) = false := by simp [Lx.wcU, Lx.letU] at hw'; exact hw'.1
    have hd : Lx.digB (s[k].toNat : Int) = false := by simp [Lx.wcU, Lx.digU] at hw'; exact hw'.2
    clear hw
    have H := hid hw'
    clear hw'
    go_wp2_with (first | (go_at_call 147; refine (letter_byte _ _).mono ?_; rintro e w' ⟨rfl, rfl⟩) | (go_at_call 148; refine (digit_byte _ _).mono ?_; rintro e w' ⟨rfl, rfl⟩))
    go_ret
    exact ⟨⟨k, rfl, hk1, hk2, ha, fun _ => H.out⟩, rfl⟩
  ·go_wp2
   go_ret
   exact ⟨⟨k, rfl, hk1, hk2, ha, fun h => absurd h hlt⟩, rfl⟩
theorem wordLen_any (s : ByteArray) (hs : s.size <= maxLen) (w : World) :
 Calls Tryz.prog 131 #[.string s] w fun e w' => e = .returned (.int .i64 (Lx.wordLen s.data.toList)) /\ w = w' := by
 unfold maxLen at hs
 by_cases h1 : 0 < s.size
 ·have hc := data_cons s h1
  have h0 := toList_ne s h1
  have h0' : s.toList.isEmpty = false := by simpa using h0
  by_cases hl : Lx.letB (s[0].toNat : Int) = true
  ·refine (wordLen_yes s h0 h0' h1 (by omega) hl w).mono ?_
   rintro e w' ⟨⟨k, rfl, hk1, hk2, ha, hb⟩, rfl⟩
   refine ⟨ret_int ?_, rfl⟩
   rw [hc]; simp only [Lx.wordLen]
   rw [if_pos (show Lx.letU s[0] = true from hl)]
   have hz : s.data.toList.tail.length + 1 = s.size := by have := congrArg List.length hc; simp at this; simp; omega
   have : Lx.span Lx.wcU s.data.toList.tail = k - 1 := by
    refine Lx.span_eq _ _ _ (by omega) (fun j h hj => ?_) (fun h => ?_)
    ·have := ha (j + 1) (by omega) (by omega) (by omega)
     rw [List.getElem_tail]; exact this
    ·have := hb (by omega)
     rw [List.getElem_tail]
     have e : k - 1 + 1 = k := by omega
     simp only [e]; exact this
   omega
  ·have hl' : Lx.letB (s[0].toNat : Int) = false := by simpa using hl
   refine (wordLen_no s h0 h0' h1 hl' w).mono ?_
   rintro e w' ⟨rfl, rfl⟩
   refine ⟨ret_int ?_, rfl⟩
   rw [hc]; simp only [Lx.wordLen]
   rw [if_neg (by simpa [Lx.letU] using hl)]; rfl
 ·have h0 := toList_nil s (by omega)
  refine (wordLen_none s h0 w).mono ?_
  rintro e w' ⟨rfl, rfl⟩
  rw [Lib.toList_data] at h0
  refine ⟨ret_int ?_, rfl⟩
  rw [h0]; rfl
def ibv (s : ByteArray) (c : Int) : Int := Lib.indexByte s.data.toList c.toNat.toUInt8
theorem ib_any (s : ByteArray) (c : Int) (w : World) :
 Calls Tryz.prog 129 #[.string s, .int .u8 c] w fun e w' => e = .returned (.int .i64 (ibv s c)) /\ w = w' :=
 (Tryz.strings_IndexByte s c w).mono fun _ _ ⟨h1, h2⟩ => ⟨h1, h2.symm⟩
theorem index_span (c : UInt8) : ∀ l : List UInt8, Lib.indexByte l c = -1 /\ Lx.span (fun x => x != c) l = l.length \/ 0 <= Lib.indexByte l c /\ (Lx.span (fun x => x != c) l : Int) = Lib.indexByte l c
 | [] => by left; exact ⟨rfl, rfl⟩
 | b :: l => by
  have ih := index_span c l
  unfold Lib.indexByte
  rw [Lx.span_cons]
  by_cases h : b = c
  ·subst h; right; simp
  ·have h1 : (b == c) = false := by simpa using h
   have h2 : (b != c) = true := by simpa using h
   rw [h1, h2]
   rcases ih with ⟨e, hs⟩ | ⟨e, hs⟩
   ·left; rw [e, hs]; simp; omega
   ·right
    have : (Lib.indexByte l c == -1) = false := by simp; omega
    rw [this]; simp; omega
theorem commentLen_pos (s : ByteArray) (v : Int) (h : 0 <= v) (hv : ibv s 10 = v) (w : World) :
 Calls Tryz.prog 130 #[.string s] w fun e w' => e = .returned (.int .i64 v) /\ w = w' := by
 have H := hid hv
 clear hv
 go_enter Tryz.func130, Tryz.ntmps130
 go_wp2_with (go_at_call 129; refine (ib_any _ _ _).mono ?_; rintro e w' ⟨rfl, rfl⟩; rw [H.out])
 go_ret
 exact ⟨rfl, rfl⟩
theorem commentLen_neg (s : ByteArray) (v : Int) (h : v < 0) (hv : ibv s 10 = v) (w : World) :
 Calls Tryz.prog 130 #[.string s] w fun e w' => e = .returned (.int .i64 s.size) /\ w = w' := by
 have H := hid hv
 clear hv
 go_enter Tryz.func130, Tryz.ntmps130
 go_wp2_with (go_at_call 129; refine (ib_any _ _ _).mono ?_; rintro e w' ⟨rfl, rfl⟩; rw [H.out])
 go_ret
 exact ⟨rfl, rfl⟩
theorem commentLen_any (s : ByteArray) (w : World) :
 Calls Tryz.prog 130 #[.string s] w fun e w' => e = .returned (.int .i64 (Lx.commentLen s.data.toList)) /\ w = w' := by
 have e10 : (10 : Int).toNat.toUInt8 = 10 := by decide
 rcases index_span 10 s.data.toList with ⟨e, hs⟩ | ⟨e, hs⟩
 ·refine (commentLen_neg s (-1) (by omega) (by unfold ibv; rw [e10, e]) w).mono ?_
  rintro e w' ⟨rfl, rfl⟩
  refine ⟨ret_int ?_, rfl⟩
  unfold Lx.commentLen; rw [hs]; rfl
 ·refine (commentLen_pos s _ e (by unfold ibv; rw [e10]) w).mono ?_
  rintro e w' ⟨rfl, rfl⟩
  refine ⟨ret_int ?_, rfl⟩
  unfold Lx.commentLen; exact hs.symm
theorem byte_self (c : UInt8) : (c.toNat : Int).toNat.toUInt8 = c := by simp
theorem blank_ib (c : UInt8) : Lx.blank c = decide (0 <= ibv ⟨#[32, 9, 10, 13]⟩ (c.toNat : Int)) := by
 unfold ibv; rw [byte_self]
 have e : ∀ x : UInt8, (x == c) = (c == x) := fun x => by rw [Bool.eq_iff_iff]; simp only [beq_iff_eq]; exact eq_comm
 have hc : ∀ (b : UInt8) (l : List UInt8), (0 <= Lib.indexByte (b :: l) c) ↔ (c = b \/ 0 <= Lib.indexByte l c) := by
  intro b l
  have hg := Lib.indexByte_ge l c
  rw [Lib.indexByte, e]
  by_cases h : c = b
  ·simp [h]
  ·by_cases h2 : Lib.indexByte l c = -1
   ·simp [h, h2]
   ·simp [h, h2]; omega
 have hn : ¬ 0 <= Lib.indexByte [] c := by simp [Lib.indexByte]
 rw [Bool.eq_iff_iff]
 simp only [Lx.blank, Bool.or_eq_true, beq_iff_eq, decide_eq_true_eq, hc, hn, or_false, or_assoc]
def hpv (s p : ByteArray) : Bool := Lib.hasPrefix s.data.toList p.data.toList
theorem hp_any (s p : ByteArray) (b : Bool) (h : Hid (hpv s p = b)) (w : World) :
 Calls Tryz.prog 149 #[.string s, .string p] w fun e w' => e = .returned (.bool b) /\ w = w' :=
 (Tryz.strings_HasPrefix s p w).mono fun _ _ ⟨h1, h2⟩ => ⟨by rw [h1, <- h.out]; rfl, h2.symm⟩
theorem hpv_one (s : ByteArray) (x : UInt8) (h : 0 < s.size) : hpv s ⟨#[x]⟩ = (x == s[0]) := by
 unfold hpv; rw [data_cons s h]; simp [Lib.hasPrefix, List.isPrefixOf]
theorem hpv_none (s : ByteArray) (x : UInt8) (h : ¬ 0 < s.size) : hpv s ⟨#[x]⟩ = false := by
 unfold hpv
 have : s.data.toList = [] := by rw [<- Lib.toList_data]; exact toList_nil s (by omega)
 rw [this]; rfl
theorem numberLen_none (s : ByteArray) (h0 : s.size = 0) (w : World) :
 Calls Tryz.prog 132 #[.string s] w fun e w' => e = .returned (.int .i64 0) /\ w = w' := by
 have H1 := hid (hpv_none s 48 (by omega))
 have H2 := hid (hpv_none s 45 (by omega))
 go_enter Tryz.func132, Tryz.ntmps132
 go_wp2_with (go_at_call 149; refine (hp_any _ _ false (by assumption) _).mono ?_; rintro e w' ⟨rfl, rfl⟩)
 go_ret
 exact ⟨rfl, rfl⟩
theorem numberLen_zero (s : ByteArray) (h : 0 < s.size) (h0 : s[0] = 48) (w : World) :
 Calls Tryz.prog 132 #[.string s] w fun e w' => e = .returned (.int .i64 1) /\ w = w' := by
 have H1 := hid (show hpv s ⟨#[48]⟩ = true by rw [hpv_one s 48 h, h0]; rfl)
 clear h0
 go_enter Tryz.func132, Tryz.ntmps132
 go_wp2_with (go_at_call 149; refine (hp_any _ _ true (by assumption) _).mono ?_; rintro e w' ⟨rfl, rfl⟩)
 go_ret
 exact ⟨rfl, rfl⟩
def AllDig (s : ByteArray) (m k : Nat) : Prop := ∀ j (h : j < s.size), m <= j -> j < k -> Lx.digU s[j] = true
theorem numberLen_minus_no (s : ByteArray) (h : 0 < s.size) (h0 : s[0] = 45) (h1 : ∀ h : 1 < s.size, s[1] = 48 \/ Lx.digU s[1] = false) (w : World) :
 Calls Tryz.prog 132 #[.string s] w fun e w' => e = .returned (.int .i64 0) /\ w = w' := by
 have H1 := hid (show hpv s ⟨#[48]⟩ = false by rw [hpv_one s 48 h, h0]; rfl)
 have H2 := hid (show hpv s ⟨#[45]⟩ = true by rw [hpv_one s 45 h, h0]; rfl)
 clear h0
 by_cases hs : 1 < s.size
 ·rcases h1 hs with e | e
  ·have hb : ((s[1].toNat : Int) == 48) = true := by rw [e]; rfl
   clear h1 e
   go_enter Tryz.func132, Tryz.ntmps132
   go_wp2_with (go_at_call 149; refine (hp_any _ _ _ (by assumption) _).mono ?_; rintro e w' ⟨rfl, rfl⟩)
   go_ret
   exact ⟨rfl, rfl⟩
  ·have hb : Lx.digB (s[1].toNat : Int) = false := e
   have hb2 : ((s[1].toNat : Int) == 48) = false := by
    rw [beq_eq_false_iff_ne]; intro e2; rw [e2] at hb; exact absurd hb (by decide)
   clear h1 e
   go_enter Tryz.func132, Tryz.ntmps132
   go_wp2_with (first | (go_at_call 149; refine (hp_any _ _ _ (by assumption) _).mono ?_; rintro e w' ⟨rfl, rfl⟩) | (go_at_call 148; refine (digit_byte _ _).mono ?_; rintro e w' ⟨rfl, rfl⟩))
   go_ret
   exact ⟨rfl, rfl⟩
 ·clear h1
  have hb : ((1 : Int) == (s.size : Int)) = true := by rw [beq_iff_eq]; omega
  go_enter Tryz.func132, Tryz.ntmps132
  go_wp2_with (go_at_call 149; refine (hp_any _ _ _ (by assumption) _).mono ?_; rintro e w' ⟨rfl, rfl⟩)
  go_ret
  exact ⟨rfl, rfl⟩
theorem numberLen_plain_no (s : ByteArray) (h : 0 < s.size) (h0 : s[0] ≠ 48) (h1 : s[0] ≠ 45) (hd : Lx.digB (s[0].toNat : Int) = false) (w : World) :
 Calls Tryz.prog 132 #[.string s] w fun e w' => e = .returned (.int .i64 0) /\ w = w' := by
 have H1 := hid (show hpv s ⟨#[48]⟩ = false by rw [hpv_one s 48 h, beq_eq_false_iff_ne]; exact h0.symm)
 have H2 := hid (show hpv s ⟨#[45]⟩ = false by rw [hpv_one s 45 h, beq_eq_false_iff_ne]; exact h1.symm)
 have hb2 : ((s[0].toNat : Int) == 48) = false := by
  rw [beq_eq_false_iff_ne]; intro e2; rw [e2] at hd; exact absurd hd (by decide)
 clear h0 h1
 go_enter Tryz.func132, Tryz.ntmps132
 go_wp2_with (first | (go_at_call 149; refine (hp_any _ _ _ (by assumption) _).mono ?_; rintro e w' ⟨rfl, rfl⟩) | (go_at_call 148; refine (digit_byte _ _).mono ?_; rintro e w' ⟨rfl, rfl⟩))
 go_ret
 exact ⟨rfl, rfl⟩
end Go.Proofs.YtejaboajgecpaaaGreatDoor.Tok
