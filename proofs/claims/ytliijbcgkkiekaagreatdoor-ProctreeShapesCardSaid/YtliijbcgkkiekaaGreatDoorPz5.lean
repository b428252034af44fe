/- Processes: varIsOtherName, prefix, nodesAt. (and what follows from it) -/
import Derived.Test.YtliijbcgkkiekaaGreatDoorPz4

/- Processes: varIsOtherName, prefix, nodesAt. -/
namespace Go.Proofs.YtliijbcgkkiekaaGreatDoor
open Go.RowKit Go.Deep Go.Shelf

def prefixB (k : Int) : Bool := k == 2 || (k == 3 || (k == 4 || k == 5))
theorem prefix_any (k : Int) (w : World) : Calls Tryz.prog 37 #[.int .i64 k] w fun e w' => e = .returned (.bool (prefixB k)) ∧ w = w' := by
  unfold prefixB
  by_cases h2 : k = 2
  · subst h2
    go_enter Tryz.func37, Tryz.ntmps37
    go_wp2_with fail
    go_ret
    exact ⟨rfl, rfl⟩
  · have h2' : (k == 2) = false := by simpa using h2
    by_cases h3 : k = 3
    · subst h3
      go_enter Tryz.func37, Tryz.ntmps37
      go_wp2_with fail
      go_ret
      exact ⟨rfl, rfl⟩
    · have h3' : (k == 3) = false := by simpa using h3
      by_cases h4 : k = 4
      · subst h4
        go_enter Tryz.func37, Tryz.ntmps37
        go_wp2_with fail
        go_ret
        exact ⟨rfl, rfl⟩
      · have h4' : (k == 4) = false := by simpa using h4
        rw [h2', h3', h4', Bool.false_or, Bool.false_or, Bool.false_or]
        clear h2 h3 h4
        by_cases h5 : k = 5
        · subst h5
          go_enter Tryz.func37, Tryz.ntmps37
          go_wp2_with fail
          go_ret
          exact ⟨rfl, rfl⟩
        · have h5' : (k == 5) = false := by simpa using h5
          clear h5
          go_enter Tryz.func37, Tryz.ntmps37
          go_wp2_with fail
          go_ret
          exact ⟨ret_bool (by first | rfl | rw [h5']), rfl⟩

set_option maxHeartbeats 1000000 in
theorem varIsOtherName_any (S : Nat → Prop) (p : Pr) (b o E : Nat) (w : World) (hS : Low S w) (he : Env E w) (hp : PrAt S w p b o) :
    Calls Tryz.prog 55 #[.pointer (some ⟨b, o, none⟩)] w fun e w' => e = .returned (.bool (nameB p.x && !decide (p.x = p.c))) ∧ Below w.heap.size w w' := by
  obtain ⟨hSb, ⟨hc, hx⟩, ⟨c0, c1, c2⟩, _⟩ := PrAt.eq.1 hp
  have hbl := hS b hSb
  obtain ⟨nb, hnb⟩ : ∃ b, nameB p.x = b := ⟨_, rfl⟩
  have HN := Lib.hid (fun (W : World) (hW : Below w.heap.size w W) => tname_is p.x nb hnb hx E W (he.below (hW.mono he.size)))
  have HW0 : Hid (Below w.heap.size w w) := Lib.hid (Below.refl _ _)
  rw [hnb]
  have p1 : ∀ q : Later w.heap.size w, q.1.cell? ⟨b, o + 1, none⟩ = some (.string p.c) := fun q => (q.2.cell (p := ⟨b, _, none⟩) hbl).trans c1
  have p2 : ∀ q : Later w.heap.size w, q.1.cell? ⟨b, o + 2, none⟩ = some (.string p.x) := fun q => (q.2.cell (p := ⟨b, _, none⟩) hbl).trans c2
  clear hp hnb hc hx c0 c1 c2
  cases nb
  · rw [Bool.false_and]
    go_enter Tryz.func55, Tryz.ntmps55
    go_wp2_with fail
    refine wp_region_later w.heap.size w (by kernel_rfl) (by kernel_rfl) HW0.out ?_
    repeat (go_big_quiet_step ((go_at_call 64; exact later_call_same _ (HN.out _ (Subtype.property _)))))
    refine wpQuiet_nil ?_
    rintro _ ⟨⟨w5, hb5⟩, rfl⟩
    go_wp2_with fail
    go_ret
    exact ⟨rfl, hb5⟩
  · rw [Bool.true_and]
    by_cases heq : p.x = p.c
    · have h1 : (p.x.toList != p.c.toList) = false := by rw [heq]; simp
      have h2 : (p.x.toList == p.c.toList) = true := by rw [heq]; simp
      rw [decide_eq_true heq]
      clear heq
      go_enter Tryz.func55, Tryz.ntmps55
      go_wp2_with fail
      refine wp_region_later w.heap.size w (by kernel_rfl) (by kernel_rfl) HW0.out ?_
      repeat (go_big_quiet_step ((go_at_call 64; exact later_call_same _ (HN.out _ (Subtype.property _)))))
      refine wpQuiet_nil ?_
      rintro _ ⟨⟨w5, hb5⟩, rfl⟩
      go_wp2_with fail
      go_ret
      exact ⟨rfl, hb5⟩
    · have h1 := str_ne heq
      have h2 : (p.x.toList == p.c.toList) = false := by simpa using h1
      rw [decide_eq_false heq]
      clear heq
      go_enter Tryz.func55, Tryz.ntmps55
      go_wp2_with fail
      refine wp_region_later w.heap.size w (by kernel_rfl) (by kernel_rfl) HW0.out ?_
      repeat (go_big_quiet_step ((go_at_call 64; exact later_call_same _ (HN.out _ (Subtype.property _)))))
      refine wpQuiet_nil ?_
      rintro _ ⟨⟨w5, hb5⟩, rfl⟩
      go_wp2_with fail
      go_ret
      exact ⟨rfl, hb5⟩

def Pr.adds (p : Pr) : Nat := if p.k = 6 then 1 + p.t.size else 1
theorem nodesAt_any (S : Nat → Prop) (p : Pr) (b o : Nat) (w : World) (hS : Low S w) (hsz : p.t.size ≤ 1000000) (hdep : p.t.depth ≤ 1000) (hp : PrAt S w p b o) :
    Calls Tryz.prog 72 #[.pointer (some ⟨b, o, none⟩)] w fun e w' => e = .returned (.int .i64 p.adds) ∧ Below w.heap.size w w' := by
  obtain ⟨hSb, _, ⟨c0, _, _⟩, hty, _⟩ := PrAt.eq.1 hp
  obtain ⟨la, ln, lc, ka, kn, kc, ⟨d0, d1, d2, d3, d4, d5⟩, hv⟩ := hty.load'
  have HT := Lib.hid (tsize_any S p.t hsz hdep _ w hS hv)
  unfold Pr.adds
  obtain ⟨k, hk⟩ : ∃ k, p.k = k := ⟨_, rfl⟩
  obtain ⟨q, hq⟩ : ∃ q, p.t.size = q := ⟨_, rfl⟩
  rw [hq] at HT hsz ⊢
  rw [hk] at c0 ⊢
  clear hty hv hp hk hq hdep
  by_cases h6 : k = 6
  · subst h6
    rw [if_pos rfl]
    go_enter Tryz.func72, Tryz.ntmps72
    go_wp2_with (go_at_call 71; refine HT.out.mono ?_; rintro e w2 ⟨rfl, hb2⟩)
    go_ret
    exact ⟨ret_int (by simp), hb2⟩
  · have h6' : (k == 6) = false := by simpa using h6
    rw [if_neg h6]
    clear h6
    go_enter Tryz.func72, Tryz.ntmps72
    go_wp2_with fail
    go_ret
    exact ⟨rfl, Below.refl _ _⟩

end Go.Proofs.YtliijbcgkkiekaaGreatDoor

/- Processes: fieldFits and fits. -/
namespace Go.Proofs.YtliijbcgkkiekaaGreatDoor
open Go.RowKit Go.Deep Go.Shelf

set_option maxRecDepth 100000 in
theorem run_equalIn_func_nil (w : World) (d : Nat) : (Op.equalIn (d + 1) 56 .nilFunc .nilFunc).run Tryz.prog w = .ok true w := by
  simp [Op.equalIn, run_underlying Tryz.underlying56]
set_option maxRecDepth 100000 in
theorem run_equalIn_func_some (w : World) (d : Nat) (f : Nat) : (Op.equalIn (d + 1) 56 (.func (.func f) #[] #[]) .nilFunc).run Tryz.prog w = .ok false w := by
  simp [Op.equalIn, run_underlying Tryz.underlying56]
theorem eqNil (w : World) : (binOp .eql 56 .nilFunc .nilFunc).run Tryz.prog w = .ok (.bool true) w := by
  simp only [binOp]
  simp [Op.equal, Op.maxDepth, run_equalIn_func_nil w 9999]
theorem eqFn (f : Nat) (w : World) : (binOp .eql 56 (.func (.func f) #[] #[]) .nilFunc).run Tryz.prog w = .ok (.bool false) w := by
  simp only [binOp]
  simp [Op.equal, Op.maxDepth, run_equalIn_func_some w 9999]

theorem fieldFits_nil (a : Option Addr) (e : Bool) (w : World) : Calls Tryz.prog 61 #[.nilFunc, .pointer a, .bool e] w fun en w' => en = .returned (.bool e) ∧ Below w.heap.size w w' := by
  have hq := eqNil
  go_enter Tryz.func61, Tryz.ntmps61
  go_wp2_with fail
  go_ret
  exact ⟨rfl, Below.refl _ _⟩

theorem fieldFits_fn (f : Nat) (eg : ∀ args w, (callFunc f args).run Tryz.prog w = .ok (.enter f args) w) (a : Option Addr) (e r : Bool) (w : World)
    (hc : Calls Tryz.prog f #[.pointer a] w fun en w' => en = .returned (.bool r) ∧ Below w.heap.size w w') :
    Calls Tryz.prog 61 #[.func (.func f) #[] #[], .pointer a, .bool e] w fun en w' => en = .returned (.bool r) ∧ Below w.heap.size w w' := by
  have HC := Lib.hid hc
  clear hc
  have hq := eqFn f
  go_enter Tryz.func61, Tryz.ntmps61
  go_wp2_with fail
  refine HC.out.mono ?_
  rintro en w2 ⟨rfl, hb2⟩
  go_wp2_with fail
  go_ret
  exact ⟨rfl, hb2⟩

end Go.Proofs.YtliijbcgkkiekaaGreatDoor

/- Processes: fits. -/
namespace Go.Proofs.YtliijbcgkkiekaaGreatDoor
open Go.RowKit Go.Deep Go.Shelf

/-- What a check of a rule answers. -/
def Chk (w : World) (f : Value) (b o : Nat) (e r : Bool) : Prop := (∀ W, Below w.heap.size w W → Calls Tryz.prog 61 #[f, .pointer (some ⟨b, o, none⟩), .bool e] W fun en w' => en = .returned (.bool r) ∧ Below W.heap.size W w')
theorem Chk.to {w : World} {f : Value} {b o : Nat} {e r : Bool} (h : Chk w f b o e r) {W : World} (hW : Below w.heap.size w W) {e' : Bool} (he : e' = e) : Calls Tryz.prog 61 #[f, .pointer (some ⟨b, o, none⟩), .bool e'] W fun en w' => en = .returned (.bool r) ∧ Below W.heap.size W w' := by subst he; exact h W hW
theorem tyVal_zero (B : Nat → Prop) (w : World) : TyVal B w (.agg #[.int .i64 0, .int .i64 0, .string ⟨#[]⟩, .int .i64 0, .slice none 0 0, .slice none 0 0]) default :=
  ⟨.slice none 0 0, .slice none 0 0, rfl, Nat.zero_le _, ⟨.inl ⟨⟨_, _, rfl⟩, rfl⟩, by simp [maxLen, default, Ty.ls], by intro s hs; cases hs⟩, ⟨.inl ⟨⟨_, _, rfl⟩, rfl⟩, by simp [maxLen, default, Ty.ts]⟩⟩

theorem run_build0 (W : World) : (Instr.build 26 #[]).run Tryz.prog W = .ok (.agg #[.int .i64 0, .int .i64 0, .string ⟨#[]⟩, .int .i64 0, .slice none 0 0, .slice none 0 0]) W := by kernel_rfl

set_option maxHeartbeats 4000000 in
theorem pfits_any (S : Nat → Prop) (p : Pr) (b o : Nat) (f0 f1 f2 f3 f4 f5 : Value) (r0 r1 r2 r3 r4 r5 : Bool) (w : World) (hS : Low S w) (hp : PrAt S w p b o)
    (h0 : Chk w f0 b o p.c.toList.isEmpty r0) (h1 : Chk w f1 b o p.x.toList.isEmpty r1) (h2 : Chk w f2 b o (decide (p.ls.length = 0)) r2) (h3 : Chk w f3 b o (decide (p.vs.length = 0)) r3)
    (h4 : Chk w f4 b o (eqB p.t default) r4) (h5 : Chk w f5 b o (decide (p.ps.length = 0)) r5) :
    Calls Tryz.prog 26 #[.agg #[f0, f1, f2, f3, f4, f5], .pointer (some ⟨b, o, none⟩)] w fun e w' => e = .returned (.bool (r0 && (r1 && (r2 && (r3 && (r4 && r5)))))) ∧ Below w.heap.size w w' := by
  obtain ⟨hSb, _, ⟨_, c1, c2⟩, hty, lv, av, kv, c3, c4, c11, hl, ha, hk⟩ := PrAt.eq.1 hp
  have hbl := hS b hSb
  obtain ⟨pa, len, c, rfl, hlen, _⟩ := hk.open
  obtain ⟨la, ln, lc, rfl, hln, _⟩ := hl.open
  obtain ⟨aa, an, ac, rfl, han, _⟩ := ha.open
  obtain ⟨tla, tln, tlc, tka, tkn, tkc, ⟨d0, d1, d2, d3, d4, d5⟩, hv⟩ := hty.load'
  rw [← hlen.out] at h5
  rw [← hln.out] at h2
  rw [← han.out] at h3
  have hsame := fun (W : World) (hW : Below w.heap.size w W) => tsame_any S p.t default _ _ W (hS.le hW.size) (hv.to hS hW) (tyVal_zero S W)
  obtain ⟨e4, he4⟩ : ∃ e, eqB p.t default = e := ⟨_, rfl⟩
  rw [he4] at hsame h4
  have HS := Lib.hid hsame
  have H0 := Lib.hid h0
  have H1 := Lib.hid h1
  have H2 := Lib.hid h2
  have H3 := Lib.hid h3
  have H4 := Lib.hid h4
  have H5 := Lib.hid h5
  have HW0 : Hid (Below (w.heap.size + 1) (w.alloc (.cells #[f0, f1, f2, f3, f4, f5] 64)) (w.alloc (.cells #[f0, f1, f2, f3, f4, f5] 64))) := Lib.hid (Below.refl _ _)
  have HSZ : Hid (w.heap.size + 1 ≤ (w.alloc (.cells #[f0, f1, f2, f3, f4, f5] 64)).heap.size) := Lib.hid (by simp)
  have p1 : ∀ q : Later (w.heap.size + 1) (w.alloc (.cells #[f0, f1, f2, f3, f4, f5] 64)), q.1.cell? ⟨b, o + 1, none⟩ = some (.string p.c) := fun q => ((blk_below q.2).cell (p := ⟨b, _, none⟩) hbl).trans c1
  have p2 : ∀ q : Later (w.heap.size + 1) (w.alloc (.cells #[f0, f1, f2, f3, f4, f5] 64)), q.1.cell? ⟨b, o + 2, none⟩ = some (.string p.x) := fun q => ((blk_below q.2).cell (p := ⟨b, _, none⟩) hbl).trans c2
  have p3 : ∀ q : Later (w.heap.size + 1) (w.alloc (.cells #[f0, f1, f2, f3, f4, f5] 64)), q.1.cell? ⟨b, o + 3, none⟩ = some (.slice la ln lc) := fun q => ((blk_below q.2).cell (p := ⟨b, _, none⟩) hbl).trans c3
  have p4 : ∀ q : Later (w.heap.size + 1) (w.alloc (.cells #[f0, f1, f2, f3, f4, f5] 64)), q.1.cell? ⟨b, o + 4, none⟩ = some (.slice aa an ac) := fun q => ((blk_below q.2).cell (p := ⟨b, _, none⟩) hbl).trans c4
  have p5 : ∀ q : Later (w.heap.size + 1) (w.alloc (.cells #[f0, f1, f2, f3, f4, f5] 64)), q.1.cell? ⟨b, o + 11, none⟩ = some (.slice pa len c) := fun q => ((blk_below q.2).cell (p := ⟨b, _, none⟩) hbl).trans c11
  have t0 : ∀ q : Later (w.heap.size + 1) (w.alloc (.cells #[f0, f1, f2, f3, f4, f5] 64)), q.1.cell? ⟨b, o + 5, none⟩ = some (.int .i64 p.t.k) := fun q => ((blk_below q.2).cell (p := ⟨b, _, none⟩) hbl).trans d0
  have t1 : ∀ q : Later (w.heap.size + 1) (w.alloc (.cells #[f0, f1, f2, f3, f4, f5] 64)), q.1.cell? ⟨b, o + 5 + 1, none⟩ = some (.int .i64 p.t.p) := fun q => ((blk_below q.2).cell (p := ⟨b, _, none⟩) hbl).trans d1
  have t2 : ∀ q : Later (w.heap.size + 1) (w.alloc (.cells #[f0, f1, f2, f3, f4, f5] 64)), q.1.cell? ⟨b, o + 5 + 2, none⟩ = some (.string p.t.n) := fun q => ((blk_below q.2).cell (p := ⟨b, _, none⟩) hbl).trans d2
  have t3 : ∀ q : Later (w.heap.size + 1) (w.alloc (.cells #[f0, f1, f2, f3, f4, f5] 64)), q.1.cell? ⟨b, o + 5 + 3, none⟩ = some (.int .i64 p.t.s) := fun q => ((blk_below q.2).cell (p := ⟨b, _, none⟩) hbl).trans d3
  have t4 : ∀ q : Later (w.heap.size + 1) (w.alloc (.cells #[f0, f1, f2, f3, f4, f5] 64)), q.1.cell? ⟨b, o + 5 + 4, none⟩ = some (.slice tla tln tlc) := fun q => ((blk_below q.2).cell (p := ⟨b, _, none⟩) hbl).trans d4
  have t5 : ∀ q : Later (w.heap.size + 1) (w.alloc (.cells #[f0, f1, f2, f3, f4, f5] 64)), q.1.cell? ⟨b, o + 5 + 5, none⟩ = some (.slice tka tkn tkc) := fun q => ((blk_below q.2).cell (p := ⟨b, _, none⟩) hbl).trans d5
  have u0 : ∀ q : Later (w.heap.size + 1) (w.alloc (.cells #[f0, f1, f2, f3, f4, f5] 64)), q.1.cell? ⟨w.heap.size, 0, none⟩ = some f0 := fun q => blk_cell q.2 0 rfl
  have u1 : ∀ q : Later (w.heap.size + 1) (w.alloc (.cells #[f0, f1, f2, f3, f4, f5] 64)), q.1.cell? ⟨w.heap.size, 1, none⟩ = some f1 := fun q => blk_cell q.2 1 rfl
  have u2 : ∀ q : Later (w.heap.size + 1) (w.alloc (.cells #[f0, f1, f2, f3, f4, f5] 64)), q.1.cell? ⟨w.heap.size, 2, none⟩ = some f2 := fun q => blk_cell q.2 2 rfl
  have u3 : ∀ q : Later (w.heap.size + 1) (w.alloc (.cells #[f0, f1, f2, f3, f4, f5] 64)), q.1.cell? ⟨w.heap.size, 3, none⟩ = some f3 := fun q => blk_cell q.2 3 rfl
  have u4 : ∀ q : Later (w.heap.size + 1) (w.alloc (.cells #[f0, f1, f2, f3, f4, f5] 64)), q.1.cell? ⟨w.heap.size, 4, none⟩ = some f4 := fun q => blk_cell q.2 4 rfl
  have u5 : ∀ q : Later (w.heap.size + 1) (w.alloc (.cells #[f0, f1, f2, f3, f4, f5] 64)), q.1.cell? ⟨w.heap.size, 5, none⟩ = some f5 := fun q => blk_cell q.2 5 rfl
  have hbd := fun (q : Later (w.heap.size + 1) (w.alloc (.cells #[f0, f1, f2, f3, f4, f5] 64))) => run_build0 q.1
  clear h0 h1 h2 h3 h4 h5 hl ha hk hp hty hv hsame he4 c1 c2 c3 c4 c11 d0 d1 d2 d3 d4 d5 hlen hln han
  cases r0
  · rw [Bool.false_and]
    go_enter Tryz.func26, Tryz.ntmps26
    go_wp2_with fail
    refine wp_region_later (w.heap.size + 1) (w.alloc (.cells #[f0, f1, f2, f3, f4, f5] 64)) (by kernel_rfl) (by kernel_rfl) HW0.out ?_
    dsimp only [List.append]
    repeat (go_big_quiet_step (first | (go_at_call 61; with_reducible exact later_call _ HSZ.out (H0.out.to (blk_below (Subtype.property _)) (by first | rfl | (rw [Bool.eq_iff_iff]; simp))))  | (go_at_call 61; with_reducible exact later_call _ HSZ.out (H1.out.to (blk_below (Subtype.property _)) (by first | rfl | (rw [Bool.eq_iff_iff]; simp))))  | (go_at_call 61; with_reducible exact later_call _ HSZ.out (H2.out.to (blk_below (Subtype.property _)) (by first | rfl | (rw [Bool.eq_iff_iff]; simp))))  | (go_at_call 61; with_reducible exact later_call _ HSZ.out (H3.out.to (blk_below (Subtype.property _)) (by first | rfl | (rw [Bool.eq_iff_iff]; simp))))  | (go_at_call 61; with_reducible exact later_call _ HSZ.out (H4.out.to (blk_below (Subtype.property _)) (by first | rfl | (rw [Bool.eq_iff_iff]; simp))))  | (go_at_call 61; with_reducible exact later_call _ HSZ.out (H5.out.to (blk_below (Subtype.property _)) (by first | rfl | (rw [Bool.eq_iff_iff]; simp))))  | (go_at_call 62; exact later_call _ HSZ.out (HS.out _ (blk_below (Subtype.property _))))))
    refine wpQuiet_nil ?_
    rintro _ ⟨⟨w5, hb5⟩, rfl⟩
    clear u0 u1 u2 u3 u4 u5 p1 p2 p3 p4 p5 t0 t1 t2 t3 t4 t5 hbd
    go_wp2_with fail
    go_ret
    exact ⟨rfl, blk_below hb5⟩
  · rw [Bool.true_and]
    cases r1
    · rw [Bool.false_and]
      go_enter Tryz.func26, Tryz.ntmps26
      go_wp2_with fail
      refine wp_region_later (w.heap.size + 1) (w.alloc (.cells #[f0, f1, f2, f3, f4, f5] 64)) (by kernel_rfl) (by kernel_rfl) HW0.out ?_
      dsimp only [List.append]
      repeat (go_big_quiet_step (first | (go_at_call 61; with_reducible exact later_call _ HSZ.out (H0.out.to (blk_below (Subtype.property _)) (by first | rfl | (rw [Bool.eq_iff_iff]; simp))))  | (go_at_call 61; with_reducible exact later_call _ HSZ.out (H1.out.to (blk_below (Subtype.property _)) (by first | rfl | (rw [Bool.eq_iff_iff]; simp))))  | (go_at_call 61; with_reducible exact later_call _ HSZ.out (H2.out.to (blk_below (Subtype.property _)) (by first | rfl | (rw [Bool.eq_iff_iff]; simp))))  | (go_at_call 61; with_reducible exact later_call _ HSZ.out (H3.out.to (blk_below (Subtype.property _)) (by first | rfl | (rw [Bool.eq_iff_iff]; simp))))  | (go_at_call 61; with_reducible exact later_call _ HSZ.out (H4.out.to (blk_below (Subtype.property _)) (by first | rfl | (rw [Bool.eq_iff_iff]; simp))))  | (go_at_call 61; with_reducible exact later_call _ HSZ.out (H5.out.to (blk_below (Subtype.property _)) (by first | rfl | (rw [Bool.eq_iff_iff]; simp))))  | (go_at_call 62; exact later_call _ HSZ.out (HS.out _ (blk_below (Subtype.property _))))))
      refine wpQuiet_nil ?_
      rintro _ ⟨⟨w5, hb5⟩, rfl⟩
      clear u0 u1 u2 u3 u4 u5 p1 p2 p3 p4 p5 t0 t1 t2 t3 t4 t5 hbd
      go_wp2_with fail
      go_ret
      exact ⟨rfl, blk_below hb5⟩
    · rw [Bool.true_and]
      cases r2
      · rw [Bool.false_and]
        go_enter Tryz.func26, Tryz.ntmps26
        go_wp2_with fail
        refine wp_region_later (w.heap.size + 1) (w.alloc (.cells #[f0, f1, f2, f3, f4, f5] 64)) (by kernel_rfl) (by kernel_rfl) HW0.out ?_
        dsimp only [List.append]
        repeat (go_big_quiet_step (first | (go_at_call 61; with_reducible exact later_call _ HSZ.out (H0.out.to (blk_below (Subtype.property _)) (by first | rfl | (rw [Bool.eq_iff_iff]; simp))))  | (go_at_call 61; with_reducible exact later_call _ HSZ.out (H1.out.to (blk_below (Subtype.property _)) (by first | rfl | (rw [Bool.eq_iff_iff]; simp))))  | (go_at_call 61; with_reducible exact later_call _ HSZ.out (H2.out.to (blk_below (Subtype.property _)) (by first | rfl | (rw [Bool.eq_iff_iff]; simp))))  | (go_at_call 61; with_reducible exact later_call _ HSZ.out (H3.out.to (blk_below (Subtype.property _)) (by first | rfl | (rw [Bool.eq_iff_iff]; simp))))  | (go_at_call 61; with_reducible exact later_call _ HSZ.out (H4.out.to (blk_below (Subtype.property _)) (by first | rfl | (rw [Bool.eq_iff_iff]; simp))))  | (go_at_call 61; with_reducible exact later_call _ HSZ.out (H5.out.to (blk_below (Subtype.property _)) (by first | rfl | (rw [Bool.eq_iff_iff]; simp))))  | (go_at_call 62; exact later_call _ HSZ.out (HS.out _ (blk_below (Subtype.property _))))))
        refine wpQuiet_nil ?_
        rintro _ ⟨⟨w5, hb5⟩, rfl⟩
        clear u0 u1 u2 u3 u4 u5 p1 p2 p3 p4 p5 t0 t1 t2 t3 t4 t5 hbd
        go_wp2_with fail
        go_ret
        exact ⟨rfl, blk_below hb5⟩
      · rw [Bool.true_and]
        cases r3
        · rw [Bool.false_and]
          go_enter Tryz.func26, Tryz.ntmps26
          go_wp2_with fail
          refine wp_region_later (w.heap.size + 1) (w.alloc (.cells #[f0, f1, f2, f3, f4, f5] 64)) (by kernel_rfl) (by kernel_rfl) HW0.out ?_
          dsimp only [List.append]
          repeat (go_big_quiet_step (first | (go_at_call 61; with_reducible exact later_call _ HSZ.out (H0.out.to (blk_below (Subtype.property _)) (by first | rfl | (rw [Bool.eq_iff_iff]; simp))))  | (go_at_call 61; with_reducible exact later_call _ HSZ.out (H1.out.to (blk_below (Subtype.property _)) (by first | rfl | (rw [Bool.eq_iff_iff]; simp))))  | (go_at_call 61; with_reducible exact later_call _ HSZ.out (H2.out.to (blk_below (Subtype.property _)) (by first | rfl | (rw [Bool.eq_iff_iff]; simp))))  | (go_at_call 61; with_reducible exact later_call _ HSZ.out (H3.out.to (blk_below (Subtype.property _)) (by first | rfl | (rw [Bool.eq_iff_iff]; simp))))  | (go_at_call 61; with_reducible exact later_call _ HSZ.out (H4.out.to (blk_below (Subtype.property _)) (by first | rfl | (rw [Bool.eq_iff_iff]; simp))))  | (go_at_call 61; with_reducible exact later_call _ HSZ.out (H5.out.to (blk_below (Subtype.property _)) (by first | rfl | (rw [Bool.eq_iff_iff]; simp))))  | (go_at_call 62; exact later_call _ HSZ.out (HS.out _ (blk_below (Subtype.property _))))))
          refine wpQuiet_nil ?_
          rintro _ ⟨⟨w5, hb5⟩, rfl⟩
          clear u0 u1 u2 u3 u4 u5 p1 p2 p3 p4 p5 t0 t1 t2 t3 t4 t5 hbd
          go_wp2_with fail
          go_ret
          exact ⟨rfl, blk_below hb5⟩
        · rw [Bool.true_and]
          cases r4
          · rw [Bool.false_and]
            go_enter Tryz.func26, Tryz.ntmps26
            go_wp2_with fail
            refine wp_region_later (w.heap.size + 1) (w.alloc (.cells #[f0, f1, f2, f3, f4, f5] 64)) (by kernel_rfl) (by kernel_rfl) HW0.out ?_
            dsimp only [List.append]
            repeat (go_big_quiet_step (first | (go_at_call 61; with_reducible exact later_call _ HSZ.out (H0.out.to (blk_below (Subtype.property _)) (by first | rfl | (rw [Bool.eq_iff_iff]; simp))))  | (go_at_call 61; with_reducible exact later_call _ HSZ.out (H1.out.to (blk_below (Subtype.property _)) (by first | rfl | (rw [Bool.eq_iff_iff]; simp))))  | (go_at_call 61; with_reducible exact later_call _ HSZ.out (H2.out.to (blk_below (Subtype.property _)) (by first | rfl | (rw [Bool.eq_iff_iff]; simp))))  | (go_at_call 61; with_reducible exact later_call _ HSZ.out (H3.out.to (blk_below (Subtype.property _)) (by first | rfl | (rw [Bool.eq_iff_iff]; simp))))  | (go_at_call 61; with_reducible exact later_call _ HSZ.out (H4.out.to (blk_below (Subtype.property _)) (by first | rfl | (rw [Bool.eq_iff_iff]; simp))))  | (go_at_call 61; with_reducible exact later_call _ HSZ.out (H5.out.to (blk_below (Subtype.property _)) (by first | rfl | (rw [Bool.eq_iff_iff]; simp))))  | (go_at_call 62; exact later_call _ HSZ.out (HS.out _ (blk_below (Subtype.property _))))))
            refine wpQuiet_nil ?_
            rintro _ ⟨⟨w5, hb5⟩, rfl⟩
            clear u0 u1 u2 u3 u4 u5 p1 p2 p3 p4 p5 t0 t1 t2 t3 t4 t5 hbd
            go_wp2_with fail
            go_ret
            exact ⟨rfl, blk_below hb5⟩
          · rw [Bool.true_and]
            cases r5
            all_goals
              go_enter Tryz.func26, Tryz.ntmps26
              go_wp2_with fail
              refine wp_region_later (w.heap.size + 1) (w.alloc (.cells #[f0, f1, f2, f3, f4, f5] 64)) (by kernel_rfl) (by kernel_rfl) HW0.out ?_
              dsimp only [List.append]
              repeat (go_big_quiet_step (first | (go_at_call 61; with_reducible exact later_call _ HSZ.out (H0.out.to (blk_below (Subtype.property _)) (by first | rfl | (rw [Bool.eq_iff_iff]; simp))))  | (go_at_call 61; with_reducible exact later_call _ HSZ.out (H1.out.to (blk_below (Subtype.property _)) (by first | rfl | (rw [Bool.eq_iff_iff]; simp))))  | (go_at_call 61; with_reducible exact later_call _ HSZ.out (H2.out.to (blk_below (Subtype.property _)) (by first | rfl | (rw [Bool.eq_iff_iff]; simp))))  | (go_at_call 61; with_reducible exact later_call _ HSZ.out (H3.out.to (blk_below (Subtype.property _)) (by first | rfl | (rw [Bool.eq_iff_iff]; simp))))  | (go_at_call 61; with_reducible exact later_call _ HSZ.out (H4.out.to (blk_below (Subtype.property _)) (by first | rfl | (rw [Bool.eq_iff_iff]; simp))))  | (go_at_call 61; with_reducible exact later_call _ HSZ.out (H5.out.to (blk_below (Subtype.property _)) (by first | rfl | (rw [Bool.eq_iff_iff]; simp))))  | (go_at_call 62; exact later_call _ HSZ.out (HS.out _ (blk_below (Subtype.property _))))))
              refine wpQuiet_nil ?_
              rintro _ ⟨⟨w5, hb5⟩, rfl⟩
              clear u0 u1 u2 u3 u4 u5 p1 p2 p3 p4 p5 t0 t1 t2 t3 t4 t5 hbd
              go_wp2_with fail
              go_ret
              exact ⟨rfl, blk_below hb5⟩

end Go.Proofs.YtliijbcgkkiekaaGreatDoor

/- Processes: the program's table of rules, made. -/
namespace Go.Proofs.YtliijbcgkkiekaaGreatDoor
open Go.RowKit Go.Deep Go.Shelf

def pknK (k : Int) : Bool := decide (1 ≤ k) && decide (k ≤ 8)
def pruleVal (k : Int) : Value :=
  if k = 2 then .agg #[.func (.func 48) #[] #[], .nilFunc, .nilFunc, .func (.func 49) #[] #[], .nilFunc, .func (.func 50) #[] #[]]
  else if k = 3 then .agg #[.func (.func 48) #[] #[], .func (.func 51) #[] #[], .nilFunc, .nilFunc, .nilFunc, .func (.func 50) #[] #[]]
  else if k = 4 then .agg #[.func (.func 48) #[] #[], .nilFunc, .func (.func 52) #[] #[], .nilFunc, .nilFunc, .func (.func 50) #[] #[]]
  else if k = 5 then .agg #[.func (.func 48) #[] #[], .nilFunc, .func (.func 53) #[] #[], .nilFunc, .nilFunc, .func (.func 54) #[] #[]]
  else if k = 6 then .agg #[.func (.func 48) #[] #[], .func (.func 55) #[] #[], .nilFunc, .nilFunc, .func (.func 56) #[] #[], .func (.func 50) #[] #[]]
  else if k = 7 then .agg #[.nilFunc, .nilFunc, .nilFunc, .nilFunc, .nilFunc, .func (.func 57) #[] #[]]
  else if k = 8 then .agg #[.func (.func 48) #[] #[], .nilFunc, .nilFunc, .func (.func 58) #[] #[], .nilFunc, .nilFunc]
  else .agg #[.nilFunc, .nilFunc, .nilFunc, .nilFunc, .nilFunc, .nilFunc]
def pruleF : Lit → Option Value
  | .int .i64 k => if pknK k then some (pruleVal k) else none
  | _ => none
def PRulesAt (w : World) (b : Nat) : Prop := MapIs w 3 b 8 pruleF
theorem pruleInfo : (Tryz.prog.info? 64).map (fun i => (i.zero, i.size, i.bytes)) = some (some (.agg #[.nilFunc, .nilFunc, .nilFunc, .nilFunc, .nilFunc, .nilFunc]), 6, 48) := by kernel_rfl
theorem zero_prule (w : World) : (zeroValue 64).run Tryz.prog w = .ok (.agg #[.nilFunc, .nilFunc, .nilFunc, .nilFunc, .nilFunc, .nilFunc]) w := by
  obtain ⟨i0, hi, hz0, hz1, hz2⟩ := info_parts pruleInfo
  simp [zeroValue, typeInfo, hi, hz0]
theorem prule_unknown {k : Int} (h : pknK k = false) : pruleVal k = .agg #[.nilFunc, .nilFunc, .nilFunc, .nilFunc, .nilFunc, .nilFunc] := by
  have h1 : ¬ (1 ≤ k ∧ k ≤ 8) := by simpa [pknK] using h
  unfold pruleVal
  rw [if_neg (by omega), if_neg (by omega), if_neg (by omega), if_neg (by omega), if_neg (by omega), if_neg (by omega), if_neg (by omega)]
theorem PRulesAt.look_ok {w : World} {b : Nat} (h : PRulesAt w b) {k : Int} (h1 : -9223372036854775808 ≤ k) (h2 : k ≤ 9223372036854775807) : (Instr.lookup 58 (.map (some b)) (.int .i64 k) true).run Tryz.prog w = .ok (.tuple #[pruleVal k, .bool (pknK k)]) w := by
  rw [MapIs.look_ok h intKeyed Tryz.underlying58 (zero_prule w) (key_int h1 h2)]
  simp only [pruleF]
  cases hk : pknK k with
  | true => rfl
  | false => rw [prule_unknown hk]; rfl
theorem run_makeMap_prules (w : World) : (Instr.makeMap 58 none).run Tryz.prog w = .ok (.map (some w.heap.size)) (w.alloc (.map #[] 0)) := by
  simp [Instr.makeMap]

open Classical in
set_option maxHeartbeats 2000000 in
theorem prules_any (w : World) :
    Calls Tryz.prog 24 #[] w fun e w' => ∃ b, e = .returned (.map (some b)) ∧ PRulesAt w' b ∧ Below w.heap.size w w' ∧ w.heap.size ≤ b := by
  have hmk := run_makeMap_prules w
  have m0 := MapIs.made w 3
  obtain ⟨w1, u1, m1, g1⟩ := m0.put intKeyed Tryz.underlying58 (by unfold maxLen; omega) (key_int (a := 1) (by omega) (by omega)) trivial (val := .agg #[.nilFunc, .nilFunc, .nilFunc, .nilFunc, .nilFunc, .nilFunc])
  obtain ⟨w2, u2, m2, g2⟩ := m1.put intKeyed Tryz.underlying58 (by unfold maxLen; omega) (key_int (a := 2) (by omega) (by omega)) trivial (val := .agg #[.func (.func 48) #[] #[], .nilFunc, .nilFunc, .func (.func 49) #[] #[], .nilFunc, .func (.func 50) #[] #[]])
  obtain ⟨w3, u3, m3, g3⟩ := m2.put intKeyed Tryz.underlying58 (by unfold maxLen; omega) (key_int (a := 3) (by omega) (by omega)) trivial (val := .agg #[.func (.func 48) #[] #[], .func (.func 51) #[] #[], .nilFunc, .nilFunc, .nilFunc, .func (.func 50) #[] #[]])
  obtain ⟨w4, u4, m4, g4⟩ := m3.put intKeyed Tryz.underlying58 (by unfold maxLen; omega) (key_int (a := 4) (by omega) (by omega)) trivial (val := .agg #[.func (.func 48) #[] #[], .nilFunc, .func (.func 52) #[] #[], .nilFunc, .nilFunc, .func (.func 50) #[] #[]])
  obtain ⟨w5, u5, m5, g5⟩ := m4.put intKeyed Tryz.underlying58 (by unfold maxLen; omega) (key_int (a := 5) (by omega) (by omega)) trivial (val := .agg #[.func (.func 48) #[] #[], .nilFunc, .func (.func 53) #[] #[], .nilFunc, .nilFunc, .func (.func 54) #[] #[]])
  obtain ⟨w6, u6, m6, g6⟩ := m5.put intKeyed Tryz.underlying58 (by unfold maxLen; omega) (key_int (a := 6) (by omega) (by omega)) trivial (val := .agg #[.func (.func 48) #[] #[], .func (.func 55) #[] #[], .nilFunc, .nilFunc, .func (.func 56) #[] #[], .func (.func 50) #[] #[]])
  obtain ⟨w7, u7, m7, g7⟩ := m6.put intKeyed Tryz.underlying58 (by unfold maxLen; omega) (key_int (a := 7) (by omega) (by omega)) trivial (val := .agg #[.nilFunc, .nilFunc, .nilFunc, .nilFunc, .nilFunc, .func (.func 57) #[] #[]])
  obtain ⟨w8, u8, m8, g8⟩ := m7.put intKeyed Tryz.underlying58 (by unfold maxLen; omega) (key_int (a := 8) (by omega) (by omega)) trivial (val := .agg #[.func (.func 48) #[] #[], .nilFunc, .nilFunc, .func (.func 58) #[] #[], .nilFunc, .nilFunc])
  have hb0 : Below w.heap.size w (w.alloc (.map #[] 0)) := (Below.refl _ _).alloc (Nat.le_refl _) _
  have hb1 := hb0.grown g1 hb0.size (fun k e => by cases e; exact Nat.le_refl _)
  have hb2 := hb1.grown g2 hb1.size (fun k e => by cases e; exact Nat.le_refl _)
  have hb3 := hb2.grown g3 hb2.size (fun k e => by cases e; exact Nat.le_refl _)
  have hb4 := hb3.grown g4 hb3.size (fun k e => by cases e; exact Nat.le_refl _)
  have hb5 := hb4.grown g5 hb4.size (fun k e => by cases e; exact Nat.le_refl _)
  have hb6 := hb5.grown g6 hb5.size (fun k e => by cases e; exact Nat.le_refl _)
  have hb7 := hb6.grown g7 hb6.size (fun k e => by cases e; exact Nat.le_refl _)
  have hb8 := hb7.grown g8 hb7.size (fun k e => by cases e; exact Nat.le_refl _)
  have hr : PRulesAt w8 w.heap.size := by
    refine m8.congr (fun l => ?_)
    by_cases hl : ∃ k, l = .int .i64 k
    · obtain ⟨k, rfl⟩ := hl
      simp only [Lit.int.injEq, true_and, pruleF]
      by_cases hk : pknK k
      · rw [if_pos hk]
        have hk' : 1 ≤ k ∧ k ≤ 8 := by simpa [pknK] using hk
        have hcase : k = 1 ∨ k = 2 ∨ k = 3 ∨ k = 4 ∨ k = 5 ∨ k = 6 ∨ k = 7 ∨ k = 8 := by omega
        rcases hcase with rfl | rfl | rfl | rfl | rfl | rfl | rfl | rfl <;> simp [pruleVal]
      · rw [if_neg hk]
        have hk' : ¬ (1 ≤ k ∧ k ≤ 8) := by simpa [pknK] using hk
        rw [if_neg (by omega), if_neg (by omega), if_neg (by omega), if_neg (by omega), if_neg (by omega), if_neg (by omega), if_neg (by omega), if_neg (by omega)]
    · have hne : ∀ k, l ≠ .int .i64 k := fun k e => hl ⟨k, e⟩
      have hn : pruleF l = none := by
        unfold pruleF
        split
        · rename_i k; exact absurd rfl (hne k)
        · rfl
      rw [hn]
      simp only [hne, if_false]
  have HR := Lib.hid hr
  have HB := Lib.hid hb8
  clear m0 m1 m2 m3 m4 m5 m6 m7 m8 g1 g2 g3 g4 g5 g6 g7 g8 hb0 hb1 hb2 hb3 hb4 hb5 hb6 hb7 hb8 hr
  go_enter Tryz.func24, Tryz.ntmps24
  go_wp2_with fail
  go_ret
  exact ⟨_, rfl, HR.out, HB.out, Nat.le_refl _⟩

end Go.Proofs.YtliijbcgkkiekaaGreatDoor

/- Processes: what the rule of a kind says of a node. -/
namespace Go.Proofs.YtliijbcgkkiekaaGreatDoor
open Go.RowKit Go.Deep Go.Shelf

theorem chk_nil (w : World) (b o : Nat) (e : Bool) : Chk w .nilFunc b o e e := fun W _ => fieldFits_nil _ e W
theorem chk_fn {w : World} {b o : Nat} {e r : Bool} (f : Nat) (eg : ∀ args w, (callFunc f args).run Tryz.prog w = .ok (.enter f args) w) (h : ∀ W, Below w.heap.size w W → Calls Tryz.prog f #[.pointer (some ⟨b, o, none⟩)] W fun en w' => en = .returned (.bool r) ∧ Below W.heap.size W w') :
    Chk w (.func (.func f) #[] #[]) b o e r := fun W hW => fieldFits_fn f eg _ e r W (h W hW)

noncomputable def Pr.r0 (p : Pr) : Bool :=
  if p.k = 2 then (nameB p.c) else if p.k = 3 then (nameB p.c) else if p.k = 4 then (nameB p.c) else if p.k = 5 then (nameB p.c) else if p.k = 6 then (nameB p.c) else if p.k = 8 then (nameB p.c) else p.c.toList.isEmpty
noncomputable def Pr.r1 (p : Pr) : Bool :=
  if p.k = 3 then (nameB p.x) else if p.k = 6 then (nameB p.x && !decide (p.x = p.c)) else p.x.toList.isEmpty
noncomputable def Pr.r2 (p : Pr) : Bool :=
  if p.k = 4 then (decide (p.ls.length = 1) && labelsB p.ls) else if p.k = 5 then (labelsB p.ls && decide (0 < p.ls.length)) else decide (p.ls.length = 0)
noncomputable def Pr.r3 (p : Pr) : Bool :=
  if p.k = 2 then (decide (p.vs.length = 1) && vlsB p.vs) else if p.k = 8 then (vlsB p.vs) else decide (p.vs.length = 0)
noncomputable def Pr.r4 (p : Pr) : Bool :=
  if p.k = 6 then ((p.t.k != 1 && p.t.k != 2) && rightE p.t == 0) else eqB p.t default
noncomputable def Pr.r5 (p : Pr) : Bool :=
  if p.k = 2 then (decide (p.ps.length = 1)) else if p.k = 3 then (decide (p.ps.length = 1)) else if p.k = 4 then (decide (p.ps.length = 1)) else if p.k = 5 then (decide (p.ps.length = p.ls.length)) else if p.k = 6 then (decide (p.ps.length = 1)) else if p.k = 7 then (partsB p.ps) else decide (p.ps.length = 0)
/-- Is a node shaped as its kind asks? -/
noncomputable def Pr.shp (p : Pr) : Bool := p.r0 && (p.r1 && (p.r2 && (p.r3 && (p.r4 && p.r5))))

set_option maxHeartbeats 1000000 in
theorem pfits_shp (S : Nat → Prop) (p : Pr) (b o E : Nat) (w : World) (hS : Low S w) (he : Env E w) (hf : p.t.fine) (hdep : p.t.depth ≤ 1000) (hp : PrAt S w p b o) (hk : pknK p.k = true) :
    Calls Tryz.prog 26 #[pruleVal p.k, .pointer (some ⟨b, o, none⟩)] w fun e w' => e = .returned (.bool p.shp) ∧ Below w.heap.size w w' := by
  have K : ∀ W, Below w.heap.size w W → PrAt S W p b o := fun W hW => PrAt.keep (hW.keeps'.mono hS) _ _ _ hp
  have C_chanIsName : ∀ e, Chk w (.func (.func 48) #[] #[]) b o e (nameB p.c) := fun e => chk_fn _ (enters_of Tryz.func48 (by kernel_rfl) rfl) (fun W hW => chanIsName_any S p b o E W (he.below (hW.mono he.size)) (K W hW))
  have C_differentLabels : ∀ e, Chk w (.func (.func 53) #[] #[]) b o e (labelsB p.ls && decide (0 < p.ls.length)) := fun e => chk_fn _ (enters_of Tryz.func53 (by kernel_rfl) rfl) (fun W hW => differentLabels_any S p b o E W (hS.le hW.size) (he.below (hW.mono he.size)) (K W hW))
  have C_kidForEachLabel : ∀ e, Chk w (.func (.func 54) #[] #[]) b o e (decide (p.ps.length = p.ls.length)) := fun e => chk_fn _ (enters_of Tryz.func54 (by kernel_rfl) rfl) (fun W hW => kidForEachLabel_any S p b o W (K W hW))
  have C_oneKid : ∀ e, Chk w (.func (.func 50) #[] #[]) b o e (decide (p.ps.length = 1)) := fun e => chk_fn _ (enters_of Tryz.func50 (by kernel_rfl) rfl) (fun W hW => oneKid_any S p b o W (K W hW))
  have C_oneLabel : ∀ e, Chk w (.func (.func 52) #[] #[]) b o e (decide (p.ls.length = 1) && labelsB p.ls) := fun e => chk_fn _ (enters_of Tryz.func52 (by kernel_rfl) rfl) (fun W hW => oneLabel_any S p b o E W (he.below (hW.mono he.size)) (K W hW))
  have C_oneValue : ∀ e, Chk w (.func (.func 49) #[] #[]) b o e (decide (p.vs.length = 1) && vlsB p.vs) := fun e => chk_fn _ (enters_of Tryz.func49 (by kernel_rfl) rfl) (fun W hW => oneValue_any S p b o E W (hS.le hW.size) (he.below (hW.mono he.size)) (K W hW))
  have C_parts : ∀ e, Chk w (.func (.func 57) #[] #[]) b o e (partsB p.ps) := fun e => chk_fn _ (enters_of Tryz.func57 (by kernel_rfl) rfl) (fun W hW => (parts_any S p b o W (K W hW)).mono (fun _ _ ⟨h1, h2⟩ => ⟨h1, by subst h2; exact Below.refl _ _⟩))
  have C_rightSession : ∀ e, Chk w (.func (.func 56) #[] #[]) b o e ((p.t.k != 1 && p.t.k != 2) && rightE p.t == 0) := fun e => chk_fn _ (enters_of Tryz.func56 (by kernel_rfl) rfl) (fun W hW => rightSession_any S p b o E W (hS.le hW.size) (he.below (hW.mono he.size)) hf hdep (K W hW))
  have C_values : ∀ e, Chk w (.func (.func 58) #[] #[]) b o e (vlsB p.vs) := fun e => chk_fn _ (enters_of Tryz.func58 (by kernel_rfl) rfl) (fun W hW => values_any S p b o E W (hS.le hW.size) (he.below (hW.mono he.size)) (K W hW))
  have C_varIsName : ∀ e, Chk w (.func (.func 51) #[] #[]) b o e (nameB p.x) := fun e => chk_fn _ (enters_of Tryz.func51 (by kernel_rfl) rfl) (fun W hW => varIsName_any S p b o E W (he.below (hW.mono he.size)) (K W hW))
  have C_varIsOtherName : ∀ e, Chk w (.func (.func 55) #[] #[]) b o e (nameB p.x && !decide (p.x = p.c)) := fun e => chk_fn _ (enters_of Tryz.func55 (by kernel_rfl) rfl) (fun W hW => varIsOtherName_any S p b o E W (hS.le hW.size) (he.below (hW.mono he.size)) (K W hW))
  have hk' : 1 ≤ p.k ∧ p.k ≤ 8 := by simpa [pknK] using hk
  have hcase : p.k = 1 ∨ p.k = 2 ∨ p.k = 3 ∨ p.k = 4 ∨ p.k = 5 ∨ p.k = 6 ∨ p.k = 7 ∨ p.k = 8 := by omega
  unfold Pr.shp Pr.r0 Pr.r1 Pr.r2 Pr.r3 Pr.r4 Pr.r5
  rcases hcase with e | e | e | e | e | e | e | e
  · rw [e, show pruleVal 1 = .agg #[.nilFunc, .nilFunc, .nilFunc, .nilFunc, .nilFunc, .nilFunc] from by simp [pruleVal]]
    simp only [if_false, Int.reduceEq]
    exact pfits_any S p b o _ _ _ _ _ _ _ _ _ _ _ _ w hS hp (chk_nil _ _ _ _) (chk_nil _ _ _ _) (chk_nil _ _ _ _) (chk_nil _ _ _ _) (chk_nil _ _ _ _) (chk_nil _ _ _ _)
  · rw [e, show pruleVal 2 = .agg #[.func (.func 48) #[] #[], .nilFunc, .nilFunc, .func (.func 49) #[] #[], .nilFunc, .func (.func 50) #[] #[]] from by simp [pruleVal]]
    simp only [if_true, if_false, Int.reduceEq]
    exact pfits_any S p b o _ _ _ _ _ _ _ _ _ _ _ _ w hS hp (C_chanIsName _) (chk_nil _ _ _ _) (chk_nil _ _ _ _) (C_oneValue _) (chk_nil _ _ _ _) (C_oneKid _)
  · rw [e, show pruleVal 3 = .agg #[.func (.func 48) #[] #[], .func (.func 51) #[] #[], .nilFunc, .nilFunc, .nilFunc, .func (.func 50) #[] #[]] from by simp [pruleVal]]
    simp only [if_true, if_false, Int.reduceEq]
    exact pfits_any S p b o _ _ _ _ _ _ _ _ _ _ _ _ w hS hp (C_chanIsName _) (C_varIsName _) (chk_nil _ _ _ _) (chk_nil _ _ _ _) (chk_nil _ _ _ _) (C_oneKid _)
  · rw [e, show pruleVal 4 = .agg #[.func (.func 48) #[] #[], .nilFunc, .func (.func 52) #[] #[], .nilFunc, .nilFunc, .func (.func 50) #[] #[]] from by simp [pruleVal]]
    simp only [if_true, if_false, Int.reduceEq]
    exact pfits_any S p b o _ _ _ _ _ _ _ _ _ _ _ _ w hS hp (C_chanIsName _) (chk_nil _ _ _ _) (C_oneLabel _) (chk_nil _ _ _ _) (chk_nil _ _ _ _) (C_oneKid _)
  · rw [e, show pruleVal 5 = .agg #[.func (.func 48) #[] #[], .nilFunc, .func (.func 53) #[] #[], .nilFunc, .nilFunc, .func (.func 54) #[] #[]] from by simp [pruleVal]]
    simp only [if_true, if_false, Int.reduceEq]
    exact pfits_any S p b o _ _ _ _ _ _ _ _ _ _ _ _ w hS hp (C_chanIsName _) (chk_nil _ _ _ _) (C_differentLabels _) (chk_nil _ _ _ _) (chk_nil _ _ _ _) (C_kidForEachLabel _)
  · rw [e, show pruleVal 6 = .agg #[.func (.func 48) #[] #[], .func (.func 55) #[] #[], .nilFunc, .nilFunc, .func (.func 56) #[] #[], .func (.func 50) #[] #[]] from by simp [pruleVal]]
    simp only [if_true, if_false, Int.reduceEq]
    exact pfits_any S p b o _ _ _ _ _ _ _ _ _ _ _ _ w hS hp (C_chanIsName _) (C_varIsOtherName _) (chk_nil _ _ _ _) (chk_nil _ _ _ _) (C_rightSession _) (C_oneKid _)
  · rw [e, show pruleVal 7 = .agg #[.nilFunc, .nilFunc, .nilFunc, .nilFunc, .nilFunc, .func (.func 57) #[] #[]] from by simp [pruleVal]]
    simp only [if_true, if_false, Int.reduceEq]
    exact pfits_any S p b o _ _ _ _ _ _ _ _ _ _ _ _ w hS hp (chk_nil _ _ _ _) (chk_nil _ _ _ _) (chk_nil _ _ _ _) (chk_nil _ _ _ _) (chk_nil _ _ _ _) (C_parts _)
  · rw [e, show pruleVal 8 = .agg #[.func (.func 48) #[] #[], .nilFunc, .nilFunc, .func (.func 58) #[] #[], .nilFunc, .nilFunc] from by simp [pruleVal]]
    simp only [if_true, if_false, Int.reduceEq]
    exact pfits_any S p b o _ _ _ _ _ _ _ _ _ _ _ _ w hS hp (C_chanIsName _) (chk_nil _ _ _ _) (chk_nil _ _ _ _) (C_values _) (chk_nil _ _ _ _) (chk_nil _ _ _ _)

end Go.Proofs.YtliijbcgkkiekaaGreatDoor
