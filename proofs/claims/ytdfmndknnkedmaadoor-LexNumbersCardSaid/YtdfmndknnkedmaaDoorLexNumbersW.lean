/- The law LexNumbers: the call returns true for every number. -/
import Derived.Test.YtdfmndknnkedmaaDoorLexR
namespace Go.Proofs.YtdfmndknnkedmaaDoor
open Go.RowKit Go.Shelf Go.Deep

theorem txt_app2 (l : List UInt8) (a : ByteArray) : txt l ++ a = txt (l ++ a.data.toList) := txt_app l a.data.toList

theorem tokN1 (n : Int) (h0 : -9223372036854775808 ≤ n) (h1 : n ≤ 9223372036854775807) (t : ByteArray) (ht : t = txt (Lib.itoa n)) (B : Nat) (w : World) (he : Env B w) :
    Calls Tryd.prog 9 #[.string t] w fun e W' => ∃ g cap, e = .returned (.tuple #[.slice (some ⟨g, 0, none⟩) 1 cap, .agg #[.int .i64 0, .int .i64 0]]) ∧ w.heap.size ≤ g ∧ g < W'.heap.size ∧ TokAt W' g 0 [⟨2, t, n, 0, 0, 0⟩] ∧ Below w.heap.size w W' := by
  have hl := Lib.itoa_length_le n h0 h1
  subst ht
  exact tokens_good (txt (Lib.itoa n)) (by rw [txt_size]; omega) _ (itemsN n h0 h1) (by intro x hx; rw [List.mem_singleton.1 hx]) (by simp) B w he
theorem tokN2 (n : Int) (h0 : -9223372036854775808 ≤ n) (h1 : n ≤ 9223372036854775807) (t : ByteArray) (ht : t = txt (Lib.itoa n)) (B : Nat) (w : World) (he : Env B w) :
    Calls Tryd.prog 9 #[.string (t ++ ⟨#[120, 49]⟩)] w fun e W' => ∃ g cap, e = .returned (.tuple #[.slice (some ⟨g, 0, none⟩) 2 cap, .agg #[.int .i64 0, .int .i64 0]]) ∧ w.heap.size ≤ g ∧ g < W'.heap.size ∧ TokAt W' g 0 [⟨2, t, n, 0, 0, 0⟩, ⟨1, ⟨#[120, 49]⟩, 0, t.size, 0, 0⟩] ∧ Below w.heap.size w W' := by
  have hl := Lib.itoa_length_le n h0 h1
  subst ht
  rw [txt_app2]
  exact tokens_good (txt (Lib.itoa n ++ [120, 49])) (by rw [txt_size]; simp; omega) _ (itemsN2 n h0 h1) (by
    intro x hx
    rcases List.mem_cons.1 hx with h | hx
    · rw [h]
    · rw [List.mem_singleton.1 hx]) (by simp) B w he

set_option maxHeartbeats 1000000 in
set_option maxRecDepth 100000 in
theorem LexNumbers_any (n : Int) (h0 : -9223372036854775808 ≤ n) (h1 : n ≤ 9223372036854775807) (B : Nat) (w : World) (he : Env B w) :
    Calls Tryd.prog 7 #[.int .i64 n] w fun e w' => e = .returned (.bool true) ∧ Below w.heap.size w w' := by
  obtain ⟨t, ht⟩ : ∃ t, Hid (t = txt (Lib.itoa n)) := ⟨_, Lib.hid rfl⟩
  have hts : t.size ≤ 21 := by rw [ht.out, txt_size]; exact Lib.itoa_length_le n h0 h1
  go_enter Tryd.func7, Tryd.ntmps7
  go_wp2_with fail
  refine (awake_any B w he).mono ?_
  rintro e w1 ⟨rfl, hb1⟩
  go_wp2_with fail
  refine (decimal_any n h0 h1 w1).mono ?_
  rintro e w2 ⟨rfl, rfl⟩
  rw [← ht.out]
  go_wp2_with fail
  refine (tokN1 n h0 h1 t ht.out B w1 (he.to hb1)).mono ?_
  rintro e w2 ⟨g1, cap1, rfl, hg1, hgl1, ht1, hb2⟩
  go_wp2_with fail
  have f1 := World.alloc_heap_new w2 (.cells #[.int .i64 0, .int .i64 0] 26)
  have ht1' := ht1.below hgl1 (blkBelow w2 #[.int .i64 0, .int .i64 0] 26)
  have hc2 := hb2.trans ((blkBelow w2 #[.int .i64 0, .int .i64 0] 26).mono hb2.size)
  have hl1 : g1 < (w2.alloc (.cells #[.int .i64 0, .int .i64 0] 26)).heap.size := by simp; omega
  generalize hn2 : w2.heap.size = n2 at *
  generalize hW2 : w2.alloc (.cells #[.int .i64 0, .int .i64 0] 26) = W2 at *
  clear hW2 hn2 ht1 hb2
  have he2 := hb1.trans (hc2.mono hb1.size)
  refine (tokN2 n h0 h1 t ht.out B W2 (he.to he2)).mono ?_
  rintro e w3 ⟨g2, cap2, rfl, hg2, hgl2, ht2, hb3⟩
  obtain ⟨a0, a1⟩ := two_cells (heap_to hb3 f1)
  have lf1 := (Array.getElem?_eq_some_iff.1 (heap_to hb3 f1)).1
  have lg1 : g1 < w3.heap.size := by have := hb3.size; omega
  obtain ⟨t0, t1, t2, t3⟩ := (ht1'.below hl1 hb3) 0 ⟨2, t, n, 0, 0, 0⟩ rfl
  obtain ⟨u0, u1, u2, u3⟩ := ht2 0 ⟨2, t, n, 0, 0, 0⟩ rfl
  obtain ⟨v0, v1, v2, v3⟩ := ht2 1 ⟨1, ⟨#[120, 49]⟩, 0, t.size, 0, 0⟩ rfl
  have HB := Lib.hid (he2.trans (hb3.mono he2.size))
  clear f1 ht1' hc2 he2 ht2 hb3 hb1
  go_wp2_with fail
  go_quiet (fail)
  go_wp2
  go_ret
  exact ⟨rfl, below_drewN (((HB.out.alloc HB.out.size _).alloc (by simp; have := HB.out.size; omega) _)) _⟩

end Go.Proofs.YtdfmndknnkedmaaDoor
