/- The law's fixed examples: awake returns true. -/
import Derived.Test.YtenhjddkocldaaaDoorLexO
namespace Go.Proofs.YtenhjddkocldaaaDoor
open Go.RowKit Go.Shelf Go.Deep

theorem tokA (B : Nat) (w : World) (he : Env B w) :
    Calls Tryd.prog 9 #[.string ⟨#[97, 33, 60, 45, 53, 62, 46, 115, 116, 111, 112, 32, 35, 32, 120]⟩] w fun e W' => ∃ g cap, e = .returned (.tuple #[.slice (some ⟨g, 0, none⟩) 7 cap, .agg #[.int .i64 0, .int .i64 0]]) ∧ w.heap.size ≤ g ∧ g < W'.heap.size ∧ TokAt W' g 0 xA ∧ Below w.heap.size w W' :=
  tokens_good sA (by decide) xA itA (by intro x hx; simp [xA] at hx; rcases hx with rfl | rfl | rfl | rfl | rfl | rfl | rfl <;> rfl) (by simp [xA]) B w he
theorem tokB (B : Nat) (w : World) (he : Env B w) :
    Calls Tryd.prog 9 #[.string ⟨#[97, 45, 98]⟩] w fun e W' => e = .returned (.tuple #[.slice none 0 0, .agg #[.int .i64 1, .int .i64 1]]) ∧ Below w.heap.size w W' :=
  tokens_bad ⟨#[97, 45, 98]⟩ (by decide) _ _ itB (by decide) B w he
theorem tokC (B : Nat) (w : World) (he : Env B w) :
    Calls Tryd.prog 9 #[.string ⟨#[57, 50, 50, 51, 51, 55, 50, 48, 51, 54, 56, 53, 52, 55, 55, 53, 56, 48, 56]⟩] w fun e W' => e = .returned (.tuple #[.slice none 0 0, .agg #[.int .i64 2, .int .i64 0]]) ∧ Below w.heap.size w W' :=
  tokens_bad ⟨#[57, 50, 50, 51, 51, 55, 50, 48, 51, 54, 56, 53, 52, 55, 55, 53, 56, 48, 56]⟩ (by decide) _ _ itC (by decide) B w he
theorem tokD (B : Nat) (w : World) (he : Env B w) :
    Calls Tryd.prog 9 #[.string ⟨#[32, 48, 48]⟩] w fun e W' => ∃ g cap, e = .returned (.tuple #[.slice (some ⟨g, 0, none⟩) 2 cap, .agg #[.int .i64 0, .int .i64 0]]) ∧ Below w.heap.size w W' :=
  (tokens_good ⟨#[32, 48, 48]⟩ (by decide) _ itD (by intro x hx; simp at hx; rcases hx with rfl | rfl <;> rfl) (by simp) B w he).mono fun e W' ⟨g, cap, h1, _, _, _, h5⟩ => ⟨g, cap, h1, h5⟩
theorem joinA (g cap : Nat) (w : World) (hg : g < w.heap.size) (ht : TokAt w g 0 xA) :
    Calls Tryd.prog 17 #[.slice (some ⟨g, 0, none⟩) 7 cap] w fun e w' => e = .returned (.string ⟨#[97, 32, 33, 32, 60, 32, 45, 53, 32, 62, 32, 46, 32, 115, 116, 111, 112]⟩) ∧ Below w.heap.size w w' := by
  have h := join_any g 0 cap xA w hg ht (by decide) (by rw [jA]; decide)
  rw [jA] at h; exact h
theorem kwRec (B : Nat) (w : World) (he : Env B w) : Calls Tryd.prog 13 #[.string ⟨#[114, 101, 99]⟩] w fun e w' => e = .returned (.bool true) ∧ w = w' :=
  kw_is _ true (Lib.hid (by kernel_rfl)) B w he
theorem nmRec1 (B : Nat) (w : World) (he : Env B w) : Calls Tryd.prog 15 #[.string ⟨#[114, 101, 99, 49]⟩] w fun e w' => e = .returned (.bool true) ∧ w = w' := by
  have h := name_any ⟨#[114, 101, 99, 49]⟩ (by decide) B w he
  have e : nameB ⟨#[114, 101, 99, 49]⟩ = true := by kernel_rfl
  rw [e] at h; exact h
theorem nmRec (B : Nat) (w : World) (he : Env B w) : Calls Tryd.prog 15 #[.string ⟨#[114, 101, 99]⟩] w fun e w' => e = .returned (.bool false) ∧ w = w' := by
  have h := name_any ⟨#[114, 101, 99]⟩ (by decide) B w he
  have e : nameB ⟨#[114, 101, 99]⟩ = false := by kernel_rfl
  rw [e] at h; exact h
theorem nmNil (B : Nat) (w : World) (he : Env B w) : Calls Tryd.prog 15 #[.string ⟨#[]⟩] w fun e w' => e = .returned (.bool false) ∧ w = w' := by
  have h := name_any ⟨#[]⟩ (by decide) B w he
  have e : nameB ⟨#[]⟩ = false := by kernel_rfl
  rw [e] at h; exact h

theorem heap_to {W W' : World} {b : Nat} {o : Obj} (hb : Below W.heap.size W W') (h : W.heap[b]? = some o) : W'.heap[b]? = some o := (hb.block b (Array.getElem?_eq_some_iff.1 h).1).trans h
theorem two_cells {W : World} {b : Nat} {x y : Value} {t : TypeId} {fr : Nat × Nat} (h : W.heap[b]? = some (.cells #[x, y] t fr)) : W.cell? ⟨b, 0, none⟩ = some x ∧ W.cell? ⟨b, 1, none⟩ = some y := by
  constructor <;> simp [World.cell?, h]

set_option maxHeartbeats 1000000 in
set_option maxRecDepth 100000 in
theorem awake_any (B : Nat) (w : World) (he : Env B w) :
    Calls Tryd.prog 8 #[] w fun e w' => e = .returned (.bool true) ∧ Below w.heap.size w w' := by
  go_enter Tryd.func8, Tryd.ntmps8
  go_wp2_with fail
  refine (tokA B w he).mono ?_
  rintro e w1 ⟨g, cap, rfl, hg, hgl, ht, hb1⟩
  go_wp2_with fail
  have f1 := World.alloc_heap_new w1 (.cells #[.int .i64 0, .int .i64 0] 26)
  have ht1 := ht.below hgl (blkBelow w1 #[.int .i64 0, .int .i64 0] 26)
  have hc1 := hb1.trans ((blkBelow w1 #[.int .i64 0, .int .i64 0] 26).mono hb1.size)
  have hl1 : g < (w1.alloc (.cells #[.int .i64 0, .int .i64 0] 26)).heap.size := by simp; omega
  generalize hn1 : w1.heap.size = n1 at *
  generalize hW1 : w1.alloc (.cells #[.int .i64 0, .int .i64 0] 26) = W1 at *
  clear hW1 hn1 ht hb1
  refine (tokB B W1 (he.to hc1)).mono ?_
  rintro e w2 ⟨rfl, hb2⟩
  go_wp2_with fail
  have f2 := World.alloc_heap_new w2 (.cells #[.int .i64 1, .int .i64 1] 26)
  have hc2 := hb2.trans ((blkBelow w2 #[.int .i64 1, .int .i64 1] 26).mono hb2.size)
  generalize hn2 : w2.heap.size = n2 at *
  generalize hW2 : w2.alloc (.cells #[.int .i64 1, .int .i64 1] 26) = W2 at *
  clear hW2 hn2 hb2
  have he2 := hc1.trans (hc2.mono hc1.size)
  refine (tokC B W2 (he.to he2)).mono ?_
  rintro e w3 ⟨rfl, hb3⟩
  go_wp2_with fail
  have f3 := World.alloc_heap_new w3 (.cells #[.int .i64 2, .int .i64 0] 26)
  have hc3 := hb3.trans ((blkBelow w3 #[.int .i64 2, .int .i64 0] 26).mono hb3.size)
  generalize hn3 : w3.heap.size = n3 at *
  generalize hW3 : w3.alloc (.cells #[.int .i64 2, .int .i64 0] 26) = W3 at *
  clear hW3 hn3 hb3
  have he3 := he2.trans (hc3.mono he2.size)
  refine (tokD B W3 (he.to he3)).mono ?_
  rintro e w4 ⟨g4, cap4, rfl, hb4⟩
  have F1 := heap_to hb4 (heap_to hc3 (heap_to hc2 f1))
  have F2 := heap_to hb4 (heap_to hc3 f2)
  have F3 := heap_to hb4 f3
  have l1 := (Array.getElem?_eq_some_iff.1 F1).1
  have l2 := (Array.getElem?_eq_some_iff.1 F2).1
  have l3 := (Array.getElem?_eq_some_iff.1 F3).1
  have HT4 := Lib.hid (((ht1.below hl1 hc2).below (by have := hc2.size; omega) hc3).below (by have := hc2.size; have := hc3.size; omega) hb4)
  obtain ⟨a0, a1⟩ := two_cells F1
  have G1 := Lib.hid F1
  have G2 := Lib.hid F2
  have G3 := Lib.hid F3
  have hgl4 : g < w4.heap.size := by have := hc2.size; have := hc3.size; have := hb4.size; omega
  have he4 := Lib.hid (he3.trans (hb4.mono he3.size))
  clear f1 f2 f3 F1 F2 F3 ht1 hc1 hc2 he2 hc3 he3 hb4
  go_wp2_with fail
  have f4 := World.alloc_heap_new w4 (.cells #[.int .i64 0, .int .i64 0] 26)
  have k4 := blkBelow w4 #[.int .i64 0, .int .i64 0] 26
  have hl5 : g < (w4.alloc (.cells #[.int .i64 0, .int .i64 0] 26)).heap.size := by simp; omega
  have ht5 := HT4.out.below hgl4 k4
  have HB5 := Lib.hid (he4.out.trans (k4.mono he4.out.size))
  have F2 := heap_to k4 G2.out
  have F3 := heap_to k4 G3.out
  generalize hn4 : w4.heap.size = n4 at *
  generalize hW4 : w4.alloc (.cells #[.int .i64 0, .int .i64 0] 26) = W4 at *
  clear hW4 hn4 k4 G1 G2 G3 HT4 he4 a0 a1
  refine (joinA g cap W4 hl5 ht5).mono ?_
  rintro e w5 ⟨rfl, hb5⟩
  obtain ⟨a0, a1⟩ := two_cells (heap_to hb5 F2)
  obtain ⟨b0, b1⟩ := two_cells (heap_to hb5 F3)
  obtain ⟨d0, d1⟩ := two_cells (heap_to hb5 f4)
  obtain ⟨t0, t1, t2, t3⟩ := (ht5.below hl5 hb5) 3 ⟨2, ⟨#[45, 53]⟩, -5, 3, 0, 0⟩ rfl
  have he5 := he.to (HB5.out.trans (hb5.mono HB5.out.size))
  have HB6 := Lib.hid (HB5.out.trans (hb5.mono HB5.out.size))
  clear F2 F3 f4 ht5 hb5 HB5
  go_wp2_with fail
  refine (kwRec B _ he5).mono ?_
  rintro e w' ⟨rfl, rfl⟩
  go_wp2_with fail
  refine (nmRec1 B _ he5).mono ?_
  rintro e w' ⟨rfl, rfl⟩
  go_wp2_with fail
  refine (nmRec B _ he5).mono ?_
  rintro e w' ⟨rfl, rfl⟩
  go_wp2_with fail
  refine (nmNil B _ he5).mono ?_
  rintro e w' ⟨rfl, rfl⟩
  go_wp2_with fail
  go_ret
  exact ⟨rfl, HB6.out⟩

end Go.Proofs.YtenhjddkocldaaaDoor
