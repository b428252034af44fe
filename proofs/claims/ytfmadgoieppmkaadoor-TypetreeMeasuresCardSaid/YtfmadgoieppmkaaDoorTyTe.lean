/- Types: the second law of layer 2. -/
import Derived.Test.YtfmadgoieppmkaaDoorTyTd
namespace Go.Proofs.YtfmadgoieppmkaaDoor
open Go.RowKit Go.Deep Go.Shelf

theorem sess_l {W : World} {k p s : Int} {n : ByteArray} {lv kv : Value} {b : Bool} (hb : (k != 1 && k != 2) = b) : Calls Tryd.prog 20 #[.agg #[.int .i64 k, .int .i64 p, .string n, .int .i64 s, lv, kv]] W fun e w' => e = .returned (.bool b) ∧ Below W.heap.size W w' := by
  rw [← hb]; exact tsession_any k p s n lv kv W
theorem rsess_l {W : World} {k p s : Int} {n : ByteArray} {lv kv : Value} {b : Bool} (hb : (k != 1 && k != 2) = b) : Calls Tryd.prog 21 #[.agg #[.int .i64 k, .int .i64 p, .string n, .int .i64 s, lv, kv]] W fun e w' => e = .returned (.bool b) ∧ Below W.heap.size W w' := by
  rw [← hb]; exact rsession_any k p s n lv kv W
theorem six_two_below (w : World) (a0 a1 a2 a3 a4 a5 b0 b1 b2 b3 b4 b5 : Value) : Below w.heap.size w ((w.alloc (.cells #[a0, a1, a2, a3, a4, a5] 25)).alloc (.cells #[b0, b1, b2, b3, b4, b5] 25)) := box2_below w _ _

set_option maxHeartbeats 8000000 in
set_option maxRecDepth 100000 in
theorem TypetreeMeasures_any (t u : Ty) (v v' : Value) (E : Nat) (w : World) (he : Env E w) (h : Lies w v t) (h' : Lies w v' u) : Calls Tryd.prog 4 #[v, v'] w fun e w' => e = .returned (.bool true) ∧ Below w.heap.size w w' := by
  obtain ⟨la, ln, lc, ka, kn, kc, rfl⟩ := h.out
  obtain ⟨la', ln', lc', ka', kn', kc', rfl⟩ := h'.out
  have hb0 := six_two_below w (.int .i64 t.k) (.int .i64 t.p) (.string t.n) (.int .i64 t.s) (.slice la ln lc) (.slice ka kn kc) (.int .i64 u.k) (.int .i64 u.p) (.string u.n) (.int .i64 u.s) (.slice la' ln' lc') (.slice ka' kn' kc')
  have h6 := Six.two w (.int .i64 t.k) (.int .i64 t.p) (.string t.n) (.int .i64 t.s) (.slice la ln lc) (.slice ka kn kc) (.int .i64 u.k) (.int .i64 u.p) (.string u.n) (.int .i64 u.s) (.slice la' ln' lc') (.slice ka' kn' kc')
  have L0 := Lib.hid (h.to hb0)
  have L0' := Lib.hid (h'.to hb0)
  have H6 := Lib.hid h6.1
  have H6' := Lib.hid h6.2
  have HB0 := Lib.hid hb0
  have HE := Lib.hid (he.to hb0)
  obtain ⟨k, hk⟩ : ∃ k, t.k = k := ⟨_, rfl⟩
  obtain ⟨p, hp⟩ : ∃ p, t.p = p := ⟨_, rfl⟩
  obtain ⟨n, hn⟩ : ∃ n, t.n = n := ⟨_, rfl⟩
  obtain ⟨s, hs⟩ : ∃ s, t.s = s := ⟨_, rfl⟩
  obtain ⟨k', hk'⟩ : ∃ k, u.k = k := ⟨_, rfl⟩
  obtain ⟨p', hp'⟩ : ∃ p, u.p = p := ⟨_, rfl⟩
  obtain ⟨n', hn'⟩ : ∃ n, u.n = n := ⟨_, rfl⟩
  obtain ⟨s', hs'⟩ : ∃ s, u.s = s := ⟨_, rfl⟩
  rw [hk, hp, hn, hs, hk', hp', hn', hs'] at L0 L0' H6 H6' HB0 HE
  rw [hk, hp, hn, hs, hk', hp', hn', hs']
  clear h h' hb0 h6 he hk hp hn hs hk' hp' hn' hs'
  cases hfew : t.few 2000 with
  | false =>
    have HF := Lib.hid hfew
    clear hfew
    go_enter Tryd.func4, Tryd.ntmps4
    go_wp2_with fail
    refine (awake_any _ _ HE.out).mono ?_
    rintro e w1 ⟨rfl, hb1⟩
    obtain ⟨⟨c0, c1, c2, c3, c4, c5⟩, _⟩ := (H6.out.to hb1).cells
    go_wp2_with fail
    clear c0 c1 c2 c3 c4 c5
    refine (few_l (L0.out.to hb1) (by omega) HF.out).mono ?_
    rintro e w2 ⟨rfl, hb2⟩
    go_wp2_with fail
    refine (awake_any _ _ (HE.out.to (below_seq hb1 hb2))).mono ?_
    rintro e w3 ⟨rfl, hb3⟩
    go_wp2_with fail
    go_ret
    exact ⟨rfl, below_seq HB0.out (below_seq hb1 (below_seq hb2 hb3))⟩
  | true =>
    have HF := Lib.hid hfew
    have HFS := Lib.hid (few_size hfew)
    clear hfew
    cases hfew' : u.few 2000 with
    | false =>
      have HF' := Lib.hid hfew'
      clear hfew'
      go_enter Tryd.func4, Tryd.ntmps4
      go_wp2_with fail
      refine (awake_any _ _ HE.out).mono ?_
      rintro e w1 ⟨rfl, hb1⟩
      obtain ⟨⟨c0, c1, c2, c3, c4, c5⟩, _⟩ := (H6.out.to hb1).cells
      go_wp2_with fail
      clear c0 c1 c2 c3 c4 c5
      refine (few_l (L0.out.to hb1) (by omega) HF.out).mono ?_
      rintro e w2 ⟨rfl, hb2⟩
      have hb12 := below_seq hb1 hb2
      obtain ⟨⟨c0, c1, c2, c3, c4, c5⟩, _⟩ := (H6'.out.to hb12).cells
      go_wp2_with fail
      clear c0 c1 c2 c3 c4 c5
      refine (few_l (L0'.out.to hb12) (by omega) HF'.out).mono ?_
      rintro e w3 ⟨rfl, hb3⟩
      go_wp2_with fail
      refine (awake_any _ _ (HE.out.to (below_seq hb12 hb3))).mono ?_
      rintro e w4 ⟨rfl, hb4⟩
      go_wp2_with fail
      go_ret
      exact ⟨rfl, below_seq HB0.out (below_seq hb12 (below_seq hb3 hb4))⟩
    | true =>
      have HF' := Lib.hid hfew'
      have HFS' := Lib.hid (few_size hfew')
      clear hfew'
      obtain ⟨z, hz⟩ : ∃ z : Int, (t.size : Int) = z := ⟨_, rfl⟩
      obtain ⟨d, hd⟩ : ∃ d : Int, (t.depth : Int) = d := ⟨_, rfl⟩
      obtain ⟨b, hb⟩ : ∃ b, eqB t u = b := ⟨_, rfl⟩
      obtain ⟨c, hc⟩ : ∃ c, (k != 1 && k != 2) = c := ⟨_, rfl⟩
      have HZ := Lib.hid hz
      have HD := Lib.hid hd
      have HQ := Lib.hid hb
      have HC := Lib.hid hc
      clear hz hd hb hc
      go_enter Tryd.func4, Tryd.ntmps4
      go_wp2_with fail
      refine (awake_any _ _ HE.out).mono ?_
      rintro e w1 ⟨rfl, hb1⟩
      obtain ⟨⟨c0, c1, c2, c3, c4, c5⟩, _⟩ := (H6.out.to hb1).cells
      go_wp2_with fail
      clear c0 c1 c2 c3 c4 c5
      refine (few_l (L0.out.to hb1) (by omega) HF.out).mono ?_
      rintro e w2 ⟨rfl, hb2⟩
      have hb12 := below_seq hb1 hb2
      obtain ⟨⟨c0, c1, c2, c3, c4, c5⟩, _⟩ := (H6'.out.to hb12).cells
      go_wp2_with fail
      clear c0 c1 c2 c3 c4 c5
      refine (few_l (L0'.out.to hb12) (by omega) HF'.out).mono ?_
      rintro e w3 ⟨rfl, hb3⟩
      have hb13 := below_seq hb12 hb3
      go_wp2_with fail
      have s6 : ∀ q : Later w3.heap.size w3, Six q.1 w.heap.size (.int .i64 k) (.int .i64 p) (.string n) (.int .i64 s) (.slice la ln lc) (.slice ka kn kc) := fun q => (H6.out.to hb13).to q.2
      have s6' : ∀ q : Later w3.heap.size w3, Six q.1 (w.heap.size + 1) (.int .i64 k') (.int .i64 p') (.string n') (.int .i64 s') (.slice la' ln' lc') (.slice ka' kn' kc') := fun q => (H6'.out.to hb13).to q.2
      have c0 := fun q => (s6 q).cells.1.1
      have c1 := fun q => (s6 q).cells.1.2.1
      have c2 := fun q => (s6 q).cells.1.2.2.1
      have c3 := fun q => (s6 q).cells.1.2.2.2.1
      have c4 := fun q => (s6 q).cells.1.2.2.2.2.1
      have c5 := fun q => (s6 q).cells.1.2.2.2.2.2
      have c0' := fun q => (s6' q).cells.1.1
      have c1' := fun q => (s6' q).cells.1.2.1
      have c2' := fun q => (s6' q).cells.1.2.2.1
      have c3' := fun q => (s6' q).cells.1.2.2.2.1
      have c4' := fun q => (s6' q).cells.1.2.2.2.2.1
      have c5' := fun q => (s6' q).cells.1.2.2.2.2.2
      have HL : Hid (∀ q : Later w3.heap.size w3, Lies q.1 (.agg #[.int .i64 k, .int .i64 p, .string n, .int .i64 s, .slice la ln lc, .slice ka kn kc]) t) := Lib.hid (fun q => (L0.out.to hb13).to q.2)
      have HL' : Hid (∀ q : Later w3.heap.size w3, Lies q.1 (.agg #[.int .i64 k', .int .i64 p', .string n', .int .i64 s', .slice la' ln' lc', .slice ka' kn' kc']) u) := Lib.hid (fun q => (L0'.out.to hb13).to q.2)
      clear s6 s6'
      have HBB := Lib.hid (below_seq HB0.out hb13)
      clear hb1 hb2 hb3 hb12 hb13 HB0 L0 L0' H6 H6' HE HF HF'
      have X1 : Hid (∀ q : Later w3.heap.size w3, _) := Lib.hid (fun q => size_l (HL.out q) (by have := HFS.out; omega) (by have := HFS.out; omega) HZ.out)
      have X2 : Hid (∀ q : Later w3.heap.size w3, _) := Lib.hid (fun q => rsize_l (HL.out q) (by have := HFS.out; omega) HZ.out)
      have X3 : Hid (∀ q : Later w3.heap.size w3, _) := Lib.hid (fun q => depth_l (HL.out q) (by have := HFS.out; omega) HD.out)
      have X4 : Hid (∀ q : Later w3.heap.size w3, _) := Lib.hid (fun q => rdepth_l (HL.out q) (by have := HFS.out; omega) HD.out)
      have X5 : Hid (∀ q : Later w3.heap.size w3, _) := Lib.hid (fun q => same_l (HL.out q) (HL'.out q) HQ.out)
      have X6 : Hid (∀ q : Later w3.heap.size w3, _) := Lib.hid (fun q => same_l (HL'.out q) (HL.out q) ((eqB_comm _ _).trans HQ.out))
      have X7 : Hid (∀ q : Later w3.heap.size w3, _) := Lib.hid (fun q => same_l (HL.out q) (HL.out q) (eqB_self t))
      have X8 : Hid (∀ q : Later w3.heap.size w3, _) := Lib.hid (fun q => rsame_l (HL.out q) (HL'.out q) HQ.out)
      cases b <;> cases c
      all_goals
        refine wp_region_later w3.heap.size w3 (by kernel_rfl) (by kernel_rfl) (Below.refl _ _) ?_
        repeat (go_big_quiet_step (first
          | (go_at_call 14; exact later_call _ (Nat.le_refl _) (X1.out _))
          | (go_at_call 15; exact later_call _ (Nat.le_refl _) (X2.out _))
          | (go_at_call 16; exact later_call _ (Nat.le_refl _) (X3.out _))
          | (go_at_call 17; exact later_call _ (Nat.le_refl _) (X4.out _))
          | (go_at_call 18; first | with_reducible exact later_call _ (Nat.le_refl _) (X5.out _) | with_reducible exact later_call _ (Nat.le_refl _) (X6.out _) | with_reducible exact later_call _ (Nat.le_refl _) (X7.out _))
          | (go_at_call 19; exact later_call _ (Nat.le_refl _) (X8.out _))
          | (go_at_call 20; exact later_call _ (Nat.le_refl _) (sess_l HC.out))
          | (go_at_call 21; exact later_call _ (Nat.le_refl _) (rsess_l HC.out))))
        refine wpQuiet_nil ?_
        rintro _ ⟨⟨w5, hb5⟩, rfl⟩
        clear c0 c1 c2 c3 c4 c5 c0' c1' c2' c3' c4' c5'
        go_wp2_with fail
        go_ret
        exact ⟨rfl, below_seq HBB.out hb5⟩

end Go.Proofs.YtfmadgoieppmkaaDoor
