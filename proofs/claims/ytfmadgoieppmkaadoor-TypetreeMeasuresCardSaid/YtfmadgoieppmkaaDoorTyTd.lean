/- Types: the two laws of layer 2. -/
import Derived.Test.YtfmadgoieppmkaaDoorTyTc
namespace Go.Proofs.YtfmadgoieppmkaaDoor
open Go.RowKit Go.Deep Go.Shelf

theorem few_l {W : World} {v : Value} {t : Ty} {m : Nat} {b : Bool} (h : Lies W v t) (hm : m ≤ 1000000) (hb : t.few m = b) : Calls Tryd.prog 11 #[v, .int .i64 m] W fun e w' => e = .returned (.bool b) ∧ Below W.heap.size W w' := by
  rw [← hb]; exact rfew_any _ t m hm v W (lies_low W) h
theorem rright_l {W : World} {v : Value} {t : Ty} {c : Int} (h : Lies W v t) (hs : t.size ≤ 1000000) (hc : rightE t = c) : Calls Tryd.prog 13 #[v] W fun e w' => e = .returned (.int .i64 c) ∧ Below W.heap.size W w' := by
  rw [← hc]; exact rright_any _ t v W hs (lies_low W) h
theorem rsize_l {W : World} {v : Value} {t : Ty} {c : Int} (h : Lies W v t) (hs : t.size ≤ 1000000) (hc : (t.size : Int) = c) : Calls Tryd.prog 15 #[v] W fun e w' => e = .returned (.int .i64 c) ∧ Below W.heap.size W w' := by
  rw [← hc]; exact rsize_any _ t hs v W (lies_low W) h
theorem rdepth_l {W : World} {v : Value} {t : Ty} {c : Int} (h : Lies W v t) (hd : t.depth ≤ 1000000) (hc : (t.depth : Int) = c) : Calls Tryd.prog 17 #[v] W fun e w' => e = .returned (.int .i64 c) ∧ Below W.heap.size W w' := by
  rw [← hc]; exact rdepth_any _ t hd v W (lies_low W) h
theorem few_size {t : Ty} {m : Nat} (h : t.few m = true) : t.size ≤ m ∧ t.depth ≤ 150 := by simpa [Ty.few] using h
/-- A type, its two slices written out. -/
theorem Lies.out {w : World} {v : Value} {t : Ty} (h : Lies w v t) : ∃ (la : Option Addr) (ln lc : Nat) (ka : Option Addr) (kn kc : Nat), v = .agg #[.int .i64 t.k, .int .i64 t.p, .string t.n, .int .i64 t.s, .slice la ln lc, .slice ka kn kc] := by
  obtain ⟨lv, kv, rfl, _, hl, hk⟩ := h
  obtain ⟨pa, len, c, rfl, _⟩ := hk.open
  obtain ⟨la, ln, lc, rfl, _⟩ := hl.open
  exact ⟨_, _, _, _, _, _, rfl⟩

set_option maxHeartbeats 4000000 in
set_option maxRecDepth 100000 in
theorem TypetreeRight_any (t : Ty) (hf : t.fine) (v : Value) (E : Nat) (w : World) (he : Env E w) (h : Lies w v t) : Calls Tryd.prog 3 #[v] w fun e w' => e = .returned (.bool true) ∧ Below w.heap.size w w' := by
  obtain ⟨la, ln, lc, ka, kn, kc, rfl⟩ := h.out
  have hb0 := blkBelow w #[.int .i64 t.k, .int .i64 t.p, .string t.n, .int .i64 t.s, .slice la ln lc, .slice ka kn kc] 25
  have h6 := Six.new w (.int .i64 t.k) (.int .i64 t.p) (.string t.n) (.int .i64 t.s) (.slice la ln lc) (.slice ka kn kc)
  have L0 := Lib.hid (h.to hb0)
  have H6 := Lib.hid h6
  have HB0 := Lib.hid hb0
  have HE := Lib.hid (he.to hb0)
  obtain ⟨k, hk⟩ : ∃ k, t.k = k := ⟨_, rfl⟩
  obtain ⟨p, hp⟩ : ∃ p, t.p = p := ⟨_, rfl⟩
  obtain ⟨n, hn⟩ : ∃ n, t.n = n := ⟨_, rfl⟩
  obtain ⟨s, hs⟩ : ∃ s, t.s = s := ⟨_, rfl⟩
  rw [hk, hp, hn, hs] at L0 H6 HB0 HE ⊢
  clear h hb0 h6 he hk hp hn hs
  cases hfew : t.few 12000 with
  | false =>
    have HF := Lib.hid hfew
    clear hfew
    go_enter Tryd.func3, Tryd.ntmps3
    go_wp2_with fail
    refine (awake_any _ _ HE.out).mono ?_
    rintro e w1 ⟨rfl, hb1⟩
    obtain ⟨⟨c0, c1, c2, c3, c4, c5⟩, _⟩ := (H6.out.to hb1).cells
    go_wp2_with fail
    clear c0 c1 c2 c3 c4 c5
    refine (few_l (L0.out.to hb1) (by omega) HF.out).mono ?_
    rintro e w2 ⟨rfl, hb2⟩
    go_wp2_with fail
    refine (awake_any _ _ (HE.out.to (below_seq hb1 hb2))).mono ?_
    rintro e w3 ⟨rfl, hb3⟩
    go_wp2_with fail
    go_ret
    exact ⟨rfl, below_seq HB0.out (below_seq hb1 (below_seq hb2 hb3))⟩
  | true =>
    have HF := Lib.hid hfew
    have hsz := (few_size hfew).1
    have hdp := (few_size hfew).2
    obtain ⟨c, hc⟩ : ∃ c, rightE t = c := ⟨_, rfl⟩
    have HC := Lib.hid hc
    have HFi := Lib.hid hf
    clear hfew hc hf
    go_enter Tryd.func3, Tryd.ntmps3
    go_wp2_with fail
    refine (awake_any _ _ HE.out).mono ?_
    rintro e w1 ⟨rfl, hb1⟩
    obtain ⟨⟨c0, c1, c2, c3, c4, c5⟩, _⟩ := (H6.out.to hb1).cells
    go_wp2_with fail
    clear c0 c1 c2 c3 c4 c5
    refine (few_l (L0.out.to hb1) (by omega) HF.out).mono ?_
    rintro e w2 ⟨rfl, hb2⟩
    have hb12 := below_seq hb1 hb2
    go_wp2_with fail
    have s6 : ∀ q : Later w2.heap.size w2, Six q.1 w.heap.size (.int .i64 k) (.int .i64 p) (.string n) (.int .i64 s) (.slice la ln lc) (.slice ka kn kc) := fun q => (H6.out.to hb12).to q.2
    have c0 := fun q => (s6 q).cells.1.1
    have c1 := fun q => (s6 q).cells.1.2.1
    have c2 := fun q => (s6 q).cells.1.2.2.1
    have c3 := fun q => (s6 q).cells.1.2.2.2.1
    have c4 := fun q => (s6 q).cells.1.2.2.2.2.1
    have c5 := fun q => (s6 q).cells.1.2.2.2.2.2
    have HL : Hid (∀ q : Later w2.heap.size w2, Lies q.1 (.agg #[.int .i64 k, .int .i64 p, .string n, .int .i64 s, .slice la ln lc, .slice ka kn kc]) t) := Lib.hid (fun q => (L0.out.to hb12).to q.2)
    have HE2 : Hid (∀ q : Later w2.heap.size w2, Env E q.1) := Lib.hid (fun q => (HE.out.to hb12).to q.2)
    clear s6
    refine wp_region_later w2.heap.size w2 (by kernel_rfl) (by kernel_rfl) (Below.refl _ _) ?_
    repeat (go_big_quiet_step (first | (go_at_call 12; exact later_call _ (Nat.le_refl _) (right_l (HE2.out _) (HL.out _) HFi.out (by omega) HC.out)) | (go_at_call 13; exact later_call _ (Nat.le_refl _) (rright_l (HL.out _) (by omega) HC.out))))
    refine wpQuiet_nil ?_
    rintro _ ⟨⟨w5, hb5⟩, rfl⟩
    clear c0 c1 c2 c3 c4 c5
    go_wp2_with fail
    go_ret
    exact ⟨rfl, below_seq HB0.out (below_seq hb12 hb5)⟩

end Go.Proofs.YtfmadgoieppmkaaDoor
