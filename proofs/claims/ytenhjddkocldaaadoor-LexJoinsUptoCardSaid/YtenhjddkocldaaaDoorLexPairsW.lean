/- The law LexPairs: the call returns true for any two texts. -/
import Derived.Test.YtenhjddkocldaaaDoorLexS
import Derived.Test.YtenhjddkocldaaaDoorLexT
namespace Go.Proofs.YtenhjddkocldaaaDoor
open Go.RowKit Go.Shelf Go.Deep

/-- What Tokens returns, in one form: the fault, or the list of tokens. -/
theorem tokens_holds (s : ByteArray) (hs : s.size ≤ 65536) (xs : List Item) (hx : items (s.size + 1) s.data.toList (Lx.skipG false s.data.toList) = xs) (hok : ∀ x ∈ xs, x.e = 0) (B : Nat) (w : World) (he : Env B w) :
    Calls Tryd.prog 9 #[.string s] w fun e W' => ∃ v, e = .returned (.tuple #[v, .agg #[.int .i64 0, .int .i64 0]]) ∧ Holds W' v xs ∧ Below w.heap.size w W' := by
  refine (tokens_any s hs B w he).mono ?_
  rw [hx]
  rintro e W' ⟨⟨q, x, rfl, hxe, rfl⟩ | ⟨_, v, rfl, hrow, hnil⟩, hb⟩
  · exact absurd (hok x (by simp)) hxe
  · exact ⟨v, rfl, holds_of_row hrow, hb⟩

theorem nl_app (a b : ByteArray) : (a ++ (⟨#[10]⟩ : ByteArray) ++ b).data.toList = a.data.toList ++ 10 :: b.data.toList := by
  rw [ByteArray.data_append, ByteArray.data_append]; simp

theorem LexPairs_long (a b : ByteArray) (hs : 3000 < a.size ∨ a.size ≤ 3000 ∧ 3000 < b.size) (B : Nat) (w : World) (he : Env B w) :
    Calls Tryd.prog 6 #[.string a, .string b] w fun e w' => e = .returned (.bool true) ∧ Below w.heap.size w w' := by
  rcases hs with hs | ⟨hs, hs2⟩
  · have hd : decide ((3000 : Int) < (a.size : Int)) = true := by simp; omega
    go_enter Tryd.func6, Tryd.ntmps6
    go_wp2_with fail
    refine (awake_any B w he).mono ?_
    rintro e w1 ⟨rfl, hb1⟩
    go_wp2_with fail
    refine (awake_any B w1 (he.to hb1)).mono ?_
    rintro e w2 ⟨rfl, hb2⟩
    go_wp2_with fail
    go_ret
    exact ⟨rfl, hb1.trans (hb2.mono hb1.size)⟩
  · have hd : decide ((3000 : Int) < (a.size : Int)) = false := by simp; omega
    have hd2 : decide ((3000 : Int) < (b.size : Int)) = true := by simp; omega
    go_enter Tryd.func6, Tryd.ntmps6
    go_wp2_with fail
    refine (awake_any B w he).mono ?_
    rintro e w1 ⟨rfl, hb1⟩
    go_wp2_with fail
    refine (awake_any B w1 (he.to hb1)).mono ?_
    rintro e w2 ⟨rfl, hb2⟩
    go_wp2_with fail
    go_ret
    exact ⟨rfl, hb1.trans (hb2.mono hb1.size)⟩

theorem rowOf_len : ∀ ys : List Item, (rowOf ys).length = ys.length * 4
  | [] => rfl
  | y :: ys => by
    have e : rowOf (y :: ys) = cellsOf y ++ rowOf ys := by simp [rowOf]
    rw [e, List.length_append, rowOf_len ys, List.length_cons]; simp [cellsOf]; omega
theorem items_place : ∀ (f : Nat) (L : List UInt8) (a : Nat) (x : Item), x ∈ items f L a → x.e ≠ 0 → ∃ k : Nat, x.p = k ∧ k < L.length
  | 0, _, _, x, h, _ => by simp [items] at h
  | f + 1, L, a, x, h, hx => by
    by_cases ha : a < L.length
    · rcases tokL_cases L a ha with ⟨e, he, _⟩ | ⟨k, t, v, ht, htx, _, _⟩
      · rw [items_err f L a ha e he] at h
        rw [List.mem_singleton.1 h]; exact ⟨a, rfl, ha⟩
      · rw [items_tok f L a ha k t v ht htx] at h
        rcases List.mem_cons.1 h with h | h
        · exact absurd (by rw [h]) hx
        · exact items_place f L _ x h hx
    · rw [items_end _ _ _ ha] at h; cases h

/-- Tokens, at whatever text. -/
theorem tok_some (s : ByteArray) (hs : s.size ≤ 65536) (B : Nat) (w : World) (he : Env B w) :
    Calls Tryd.prog 9 #[.string s] w fun e W' => ∃ v ec pc, e = .returned (.tuple #[v, .agg #[.int .i64 ec, .int .i64 pc]]) ∧ Below w.heap.size w W' := by
  refine (tokens_any s hs B w he).mono ?_
  rintro e W' ⟨⟨q, x, _, _, rfl⟩ | ⟨_, v, rfl, _, _⟩, hb⟩
  · exact ⟨_, _, _, rfl, hb⟩
  · exact ⟨_, _, _, rfl, hb⟩

set_option maxHeartbeats 1000000 in
theorem LexPairs_first (a b : ByteArray) (ha : a.size ≤ 3000) (hb : b.size ≤ 3000) (ec pc : Int) (hne : ec ≠ 0) (B : Nat)
    (hT1 : ∀ w, Env B w → Calls Tryd.prog 9 #[.string a] w fun e W' => e = .returned (.tuple #[.slice none 0 0, .agg #[.int .i64 ec, .int .i64 pc]]) ∧ Below w.heap.size w W')
    (hT3 : ∀ w, Env B w → Calls Tryd.prog 9 #[.string (a ++ (⟨#[10]⟩ : ByteArray) ++ b)] w fun e W' => e = .returned (.tuple #[.slice none 0 0, .agg #[.int .i64 ec, .int .i64 pc]]) ∧ Below w.heap.size w W') (w : World) (he : Env B w) :
    Calls Tryd.prog 6 #[.string a, .string b] w fun e w' => e = .returned (.bool true) ∧ Below w.heap.size w w' := by
  have hd : decide ((3000 : Int) < (a.size : Int)) = false := by simp; omega
  have hd2 : decide ((3000 : Int) < (b.size : Int)) = false := by simp; omega
  have hnz : (ec != 0) = true := by simpa using hne
  have H1 := Lib.hid hT1
  have H3 := Lib.hid hT3
  clear hT1 hT3 hne
  go_enter Tryd.func6, Tryd.ntmps6
  go_wp2_with fail
  refine (awake_any B w he).mono ?_
  rintro e w1 ⟨rfl, hb1⟩
  go_wp2_with fail
  refine (H1.out w1 (he.to hb1)).mono ?_
  rintro e w2 ⟨rfl, hb2⟩
  go_wp2_with fail
  have f1 := World.alloc_heap_new w2 (.cells #[.int .i64 ec, .int .i64 pc] 26)
  have hc2 := hb1.trans ((hb2.trans ((blkBelow w2 #[.int .i64 ec, .int .i64 pc] 26).mono hb2.size)).mono hb1.size)
  generalize hn2 : w2.heap.size = n2 at *
  generalize hW2 : w2.alloc (.cells #[.int .i64 ec, .int .i64 pc] 26) = W2 at *
  clear hW2 hn2 hb2 hb1
  refine (tok_some b (by omega) B W2 (he.to hc2)).mono ?_
  rintro e w3 ⟨v3, e3, p3, rfl, hb3⟩
  go_wp2_with fail
  have f1' := heap_to (hb3.trans ((blkBelow w3 #[.int .i64 e3, .int .i64 p3] 26).mono hb3.size)) f1
  have hc3 := hc2.trans ((hb3.trans ((blkBelow w3 #[.int .i64 e3, .int .i64 p3] 26).mono hb3.size)).mono hc2.size)
  generalize hn3 : w3.heap.size = n3 at *
  generalize hW3 : w3.alloc (.cells #[.int .i64 e3, .int .i64 p3] 26) = W3 at *
  clear hW3 hn3 hb3 hc2 f1
  refine (H3.out W3 (he.to hc3)).mono ?_
  rintro e w4 ⟨rfl, hb4⟩
  obtain ⟨a0, a1⟩ := two_cells (heap_to hb4 f1')
  have l1 := (Array.getElem?_eq_some_iff.1 (heap_to hb4 f1')).1
  have HB := Lib.hid (hc3.trans (hb4.mono hc3.size))
  clear f1' hc3 hb4
  go_wp2_with fail
  go_ret
  exact ⟨rfl, HB.out.alloc HB.out.size _⟩

set_option maxHeartbeats 1000000 in
theorem LexPairs_second (a b : ByteArray) (ha : a.size ≤ 3000) (hb : b.size ≤ 3000) (xs : List Item) (ec : Int) (pc : Nat) (hpc : pc ≤ 3000) (hne : ec ≠ 0) (B : Nat)
    (hT1 : ∀ w, Env B w → Calls Tryd.prog 9 #[.string a] w fun e W' => ∃ v, e = .returned (.tuple #[v, .agg #[.int .i64 0, .int .i64 0]]) ∧ Holds W' v xs ∧ Below w.heap.size w W')
    (hT2 : ∀ w, Env B w → Calls Tryd.prog 9 #[.string b] w fun e W' => e = .returned (.tuple #[.slice none 0 0, .agg #[.int .i64 ec, .int .i64 pc]]) ∧ Below w.heap.size w W')
    (hT3 : ∀ w, Env B w → Calls Tryd.prog 9 #[.string (a ++ (⟨#[10]⟩ : ByteArray) ++ b)] w fun e W' => e = .returned (.tuple #[.slice none 0 0, .agg #[.int .i64 ec, .int .i64 ((pc : Int) + (a.size : Int) + 1)]]) ∧ Below w.heap.size w W') (w : World) (he : Env B w) :
    Calls Tryd.prog 6 #[.string a, .string b] w fun e w' => e = .returned (.bool true) ∧ Below w.heap.size w w' := by
  have hd : decide ((3000 : Int) < (a.size : Int)) = false := by simp; omega
  have hd2 : decide ((3000 : Int) < (b.size : Int)) = false := by simp; omega
  have hnz : (ec != 0) = true := by simpa using hne
  have H1 := Lib.hid hT1
  have H2 := Lib.hid hT2
  have H3 := Lib.hid hT3
  clear hT1 hT2 hT3 hne
  go_enter Tryd.func6, Tryd.ntmps6
  go_wp2_with fail
  refine (awake_any B w he).mono ?_
  rintro e w1 ⟨rfl, hb1⟩
  go_wp2_with fail
  refine (H1.out w1 (he.to hb1)).mono ?_
  rintro e w2 ⟨v1, rfl, _, hb2⟩
  go_wp2_with fail
  have f1 := World.alloc_heap_new w2 (.cells #[.int .i64 0, .int .i64 0] 26)
  have hc2 := hb1.trans ((hb2.trans ((blkBelow w2 #[.int .i64 0, .int .i64 0] 26).mono hb2.size)).mono hb1.size)
  generalize hn2 : w2.heap.size = n2 at *
  generalize hW2 : w2.alloc (.cells #[.int .i64 0, .int .i64 0] 26) = W2 at *
  clear hW2 hn2 hb2 hb1
  refine (H2.out W2 (he.to hc2)).mono ?_
  rintro e w3 ⟨rfl, hb3⟩
  go_wp2_with fail
  have f1' := heap_to (hb3.trans ((blkBelow w3 #[.int .i64 ec, .int .i64 pc] 26).mono hb3.size)) f1
  have f2 := World.alloc_heap_new w3 (.cells #[.int .i64 ec, .int .i64 pc] 26)
  have hc3 := hc2.trans ((hb3.trans ((blkBelow w3 #[.int .i64 ec, .int .i64 pc] 26).mono hb3.size)).mono hc2.size)
  generalize hn3 : w3.heap.size = n3 at *
  generalize hW3 : w3.alloc (.cells #[.int .i64 ec, .int .i64 pc] 26) = W3 at *
  clear hW3 hn3 hb3 hc2 f1
  refine (H3.out W3 (he.to hc3)).mono ?_
  rintro e w4 ⟨rfl, hb4⟩
  obtain ⟨a0, a1⟩ := two_cells (heap_to hb4 f1')
  have l1 := (Array.getElem?_eq_some_iff.1 (heap_to hb4 f1')).1
  obtain ⟨b0, b1⟩ := two_cells (heap_to hb4 f2)
  have l2 := (Array.getElem?_eq_some_iff.1 (heap_to hb4 f2)).1
  have HB := Lib.hid (hc3.trans (hb4.mono hc3.size))
  clear f1' f2 hc3 hb4
  go_wp2_with fail
  go_ret
  exact ⟨rfl, HB.out.alloc HB.out.size _⟩

set_option maxHeartbeats 2000000 in
set_option maxRecDepth 100000 in
theorem LexPairs_both (a b : ByteArray) (ha : a.size ≤ 3000) (hb : b.size ≤ 3000) (xs ys zs : List Item) (hxl : xs.length ≤ 3001) (hyl : ys.length ≤ 3001) (hzl : zs.length ≤ 10000) (hal : Alike (xs ++ ys) zs false) (B : Nat)
    (hT1 : ∀ w, Env B w → Calls Tryd.prog 9 #[.string a] w fun e W' => ∃ v, e = .returned (.tuple #[v, .agg #[.int .i64 0, .int .i64 0]]) ∧ Holds W' v xs ∧ Below w.heap.size w W')
    (hT2 : ∀ w, Env B w → Calls Tryd.prog 9 #[.string b] w fun e W' => ∃ v, e = .returned (.tuple #[v, .agg #[.int .i64 0, .int .i64 0]]) ∧ Holds W' v ys ∧ Below w.heap.size w W')
    (hT3 : ∀ w, Env B w → Calls Tryd.prog 9 #[.string (a ++ (⟨#[10]⟩ : ByteArray) ++ b)] w fun e W' => ∃ v, e = .returned (.tuple #[v, .agg #[.int .i64 0, .int .i64 0]]) ∧ Holds W' v zs ∧ Below w.heap.size w W') (w : World) (he : Env B w) :
    Calls Tryd.prog 6 #[.string a, .string b] w fun e w' => e = .returned (.bool true) ∧ Below w.heap.size w w' := by
  have hd : decide ((3000 : Int) < (a.size : Int)) = false := by simp; omega
  have hd2 : decide ((3000 : Int) < (b.size : Int)) = false := by simp; omega
  have H1 := Lib.hid hT1
  have H2 := Lib.hid hT2
  have H3 := Lib.hid hT3
  have HA := Lib.hid hal
  obtain ⟨i0, hi, hz0, hz1, hz2⟩ := info_parts rtokInfo
  clear hT1 hT2 hT3 hal
  go_enter Tryd.func6, Tryd.ntmps6
  go_wp2_with fail
  refine (awake_any B w he).mono ?_
  rintro e w1 ⟨rfl, hb1⟩
  go_wp2_with fail
  refine (H1.out w1 (he.to hb1)).mono ?_
  rintro e w2 ⟨v1, rfl, hx, hb2⟩
  go_wp2_with fail
  have f1 := World.alloc_heap_new w2 (.cells #[.int .i64 0, .int .i64 0] 26)
  have hx' := hx.below (blkBelow w2 #[.int .i64 0, .int .i64 0] 26)
  have hc2 := hb1.trans ((hb2.trans ((blkBelow w2 #[.int .i64 0, .int .i64 0] 26).mono hb2.size)).mono hb1.size)
  generalize hn2 : w2.heap.size = n2 at *
  generalize hW2 : w2.alloc (.cells #[.int .i64 0, .int .i64 0] 26) = W2 at *
  clear hW2 hn2 hb2 hb1 hx
  refine (H2.out W2 (he.to hc2)).mono ?_
  rintro e w3 ⟨v2, rfl, hy, hb3⟩
  go_wp2_with fail
  have hx3 := (hx'.below hb3).below (blkBelow w3 #[.int .i64 0, .int .i64 0] 26)
  have hy3 := hy.below (blkBelow w3 #[.int .i64 0, .int .i64 0] 26)
  have f1' := heap_to (hb3.trans ((blkBelow w3 #[.int .i64 0, .int .i64 0] 26).mono hb3.size)) f1
  have f2 := World.alloc_heap_new w3 (.cells #[.int .i64 0, .int .i64 0] 26)
  have hc3 := hc2.trans ((hb3.trans ((blkBelow w3 #[.int .i64 0, .int .i64 0] 26).mono hb3.size)).mono hc2.size)
  generalize hn3 : w3.heap.size = n3 at *
  generalize hW3 : w3.alloc (.cells #[.int .i64 0, .int .i64 0] 26) = W3 at *
  clear hW3 hn3 hb3 hc2 f1 hx' hy
  refine (H3.out W3 (he.to hc3)).mono ?_
  rintro e w4 ⟨v3, rfl, hz, hb4⟩
  obtain ⟨a0, a1⟩ := two_cells (heap_to hb4 f1')
  have l1 := (Array.getElem?_eq_some_iff.1 (heap_to hb4 f1')).1
  obtain ⟨b0, b1⟩ := two_cells (heap_to hb4 f2)
  have l2 := (Array.getElem?_eq_some_iff.1 (heap_to hb4 f2)).1
  have HB := Lib.hid (hc3.trans (hb4.mono hc3.size))
  have HX := Lib.hid (hx3.below hb4)
  have HY := Lib.hid (hy3.below hb4)
  have HZ := Lib.hid hz
  clear f1' f2 hc3 hb4 hx3 hy3 hz
  go_wp2_with fail
  have k4 := blkBelow w4 #[.int .i64 0, .int .i64 0] 26
  have hx4 := HX.out.below k4
  have hy4 := HY.out.below k4
  have hz4 := HZ.out.below k4
  have HB4 := Lib.hid (HB.out.trans (k4.mono HB.out.size))
  generalize w4.alloc (.cells #[.int .i64 0, .int .i64 0] 26) = W4 at *
  clear HX HY HZ HB k4 a0 a1 b0 b1
  refine (back_holds v1 xs (by omega) W4 hx4).mono ?_
  rintro e w5 ⟨u1, rfl, hr1, hb5⟩
  go_wp2_with fail
  refine (back_holds v2 ys (by omega) w5 (hy4.below hb5)).mono ?_
  rintro e w6 ⟨u2, rfl, hr2, hb6⟩
  have hb56 := hb5.trans (hb6.mono hb5.size)
  have hz6 := Lib.hid (hz4.below hb56)
  have hr16 := hr1.kept (grown_none hb6) (Classical.em _)
  have HB6 := Lib.hid (HB4.out.trans (hb56.mono HB4.out.size))
  have HZ4 := Lib.hid hz4
  have H56 := Lib.hid hb56
  have h46 := hb56.size
  have hr2n := hr2.2
  rcases hr2n with ⟨rfl, h0⟩ | ⟨g2, cap2, cur2, rfl, _⟩
  · have hys : ys = [] := List.eq_nil_of_length_eq_zero h0
    clear hr2 hr1 hb5 hb6 hb56 hx4 hy4 hz4
    have HYS := Lib.hid hys
    clear hys h0
    go_wp2_with (at_builtin; refine BigFrame.wpList_want (by rfl) (fun K hK => ?_); go_must (refine wp_append_nothing_more _ _ _ 29 rfl W4.heap.size 49 i0 4 Tryd.underlying29 hi u1 xs.length (rowOf xs) rfl hr16 0 rfl ?_); refine hK _ _ ?_; clear hK)
    have h46b : Below W4.heap.size W4 w6 := H56.out
    refine (back_holds v3 zs (by omega) w6 (HZ4.out.below h46b)).mono ?_
    rintro e w8 ⟨u3, rfl, hr3, hb8⟩
    have hA : Holds w8 u1 (xs ++ ys) := by
      have h := hr16.kept (grown_none hb8) (Classical.em _)
      rw [HYS.out, List.append_nil]; exact holds_of_row h
    have HA8 := Lib.hid hA
    have HZ8 := Lib.hid (holds_of_row hr3)
    have HB8 := Lib.hid (HB4.out.trans ((h46b.trans (hb8.mono h46b.size)).mono HB4.out.size))
    clear hA hr3 hb8 h46b hr16
    go_wp2_with fail
    refine (same_holds u1 u3 (xs ++ ys) zs false (by simp; omega) HA.out w8 HA8.out HZ8.out).mono ?_
    rintro e w9 ⟨rfl, nq, rfl⟩
    go_wp2_with fail
    go_ret
    exact ⟨rfl, below_drewN HB8.out nq⟩
  · have hc2 := hr2.cells (g := g2) rfl
    have ho2 : ∀ u ∈ rowOf ys, u.oneCell' = true := by
      intro u hu
      obtain ⟨x, _, hx⟩ := List.mem_flatMap.1 hu
      exact one4 x u hx
    clear hr2 hr1 hb5 hb6 hb56 hx4 hy4 hz4
    go_wp2_with (at_builtin; refine BigFrame.wpList_want (by rfl) (fun K hK => ?_); go_must (refine wp_append_own _ _ _ 29 rfl W4.heap.size 49 i0 (.agg #[.int .i64 0, .string ⟨#[]⟩, .int .i64 0, .int .i64 0]) 4 40 Tryd.underlying29 hi hz0 hz1 hz2 rfl (by decide) u1 xs.length (rowOf xs) rfl hr16 ⟨g2, 0, none⟩ ys.length cap2 (rowOf ys) rfl (rowOf_len ys) hc2 ho2 (by unfold maxLen; omega) (by omega) h46 ?_); intro v' w7 hown' hgrow _; refine hK _ _ ?_; clear hK)
    have h47 : Below W4.heap.size W4 w7 := H56.out.grown hgrow h46 (fun j ej => (ownsRow_block hr16 ej).1)
    refine (back_holds v3 zs (by omega) w7 (HZ4.out.below h47)).mono ?_
    rintro e w8 ⟨u3, rfl, hr3, hb8⟩
    have hA : Holds w8 v' (xs ++ ys) := by
      have h := hown'.kept (grown_none hb8) (Classical.em _)
      have e1 : rowOf xs ++ rowOf ys = rowOf (xs ++ ys) := by simp [rowOf]
      rw [e1, ← List.length_append] at h
      exact holds_of_row h
    have HA8 := Lib.hid hA
    have HZ8 := Lib.hid (holds_of_row hr3)
    have HB8 := Lib.hid (HB4.out.trans ((h47.trans (hb8.mono h47.size)).mono HB4.out.size))
    clear hA hr3 hb8 h47 hown' hgrow hr16
    go_wp2_with fail
    refine (same_holds v' u3 (xs ++ ys) zs false (by simp; omega) HA.out w8 HA8.out HZ8.out).mono ?_
    rintro e w9 ⟨rfl, nq, rfl⟩
    go_wp2_with fail
    go_ret
    exact ⟨rfl, below_drewN HB8.out nq⟩

theorem items_either (s : ByteArray) : (∃ q x, items (s.size + 1) s.data.toList (Lx.skipG false s.data.toList) = q ++ [x] ∧ x.e ≠ 0 ∧ ∀ y ∈ q, y.e = 0) ∨ ∀ x ∈ items (s.size + 1) s.data.toList (Lx.skipG false s.data.toList), x.e = 0 := by
  rcases items_three s with h | h | ⟨_, h⟩
  · exact .inl h
  · right; intro x hx; rw [h] at hx; cases hx
  · exact .inr h
theorem joinI_ok (xs ys : List Item) (h : ∀ x ∈ xs, x.e = 0) : joinI xs ys = xs ++ ys := by
  unfold joinI; rw [if_pos]; rw [List.all_eq_true]; intro x hx; rw [h x hx]; rfl
theorem joinI_bad (q ys : List Item) (x : Item) (h : x.e ≠ 0) : joinI (q ++ [x]) ys = q ++ [x] := by
  unfold joinI; rw [if_neg]; rw [List.all_eq_true]; intro hall
  have := hall x (by simp); simp at this; exact h this
theorem shift_ok (d : Nat) (x : Item) (h : x.e = 0) : shift d x = { x with a := x.a + d } := by unfold shift; rw [if_pos h]
theorem shift_bad (d : Nat) (x : Item) (h : x.e ≠ 0) : shift d x = { x with p := x.p + d } := by unfold shift; rw [if_neg h]

theorem LexPairs_any (a : ByteArray) (_ha : a.size ≤ maxLen) (b : ByteArray) (_hb : b.size ≤ maxLen) (B : Nat) (w : World) (he : Env B w) :
    Calls Tryd.prog 6 #[.string a, .string b] w fun e w' => e = .returned (.bool true) ∧ Below w.heap.size w w' := by
  by_cases hs : 3000 < a.size
  · exact LexPairs_long a b (.inl hs) B w he
  · by_cases hs2 : 3000 < b.size
    · exact LexPairs_long a b (.inr ⟨by omega, hs2⟩) B w he
    · have hla : a.data.toList.length = a.size := rfl
      have hlb : b.data.toList.length = b.size := rfl
      have hL := items_pair a.data.toList b.data.toList
      rw [← nl_app a b] at hL
      have hLs : (a ++ (⟨#[10]⟩ : ByteArray) ++ b).data.toList.length = (a ++ (⟨#[10]⟩ : ByteArray) ++ b).size := rfl
      have hsz : (a ++ (⟨#[10]⟩ : ByteArray) ++ b).size ≤ 6001 := by rw [← hLs, nl_app]; simp; omega
      rw [hLs, hla, hlb] at hL
      have hxl := items_len (a.size + 1) a.data.toList (Lx.skipG false a.data.toList)
      have hyl := items_len (b.size + 1) b.data.toList (Lx.skipG false b.data.toList)
      rcases items_either a with ⟨q, x, hx, hxe, _⟩ | hok
      · rw [hx, joinI_bad _ _ _ hxe] at hL
        exact LexPairs_first a b (by omega) (by omega) x.e x.p hxe B (fun w he => tokens_bad a (by omega) q x hx hxe B w he) (fun w he => tokens_bad _ (by omega) q x hL hxe B w he) w he
      · rw [joinI_ok _ _ hok] at hL
        rcases items_either b with ⟨q, x, hx, hxe, _⟩ | hok2
        · obtain ⟨k, hk, hkl⟩ := items_place _ _ _ x (by rw [hx]; simp) hxe
          rw [hx, List.map_append, List.map_cons, List.map_nil, shift_bad _ _ hxe, ← List.append_assoc] at hL
          refine LexPairs_second a b (by omega) (by omega) _ x.e k (by omega) hxe B (fun w he => tokens_holds a (by omega) _ rfl hok B w he) (fun w he => ?_) (fun w he => ?_) w he
          · have h := tokens_bad b (by omega) q x hx hxe B w he
            rw [hk] at h; exact h
          · have h := tokens_bad _ (by omega) _ _ hL hxe B w he
            have e : ((k : Int) + (a.size : Int) + 1) = x.p + ((a.size + 1 : Nat) : Int) := by rw [hk]; omega
            rw [e]; exact h
        · refine LexPairs_both a b (by omega) (by omega) _ _ _ (by omega) (by omega) ?_ ?_ B (fun w he => tokens_holds a (by omega) _ rfl hok B w he) (fun w he => tokens_holds b (by omega) _ rfl hok2 B w he) (fun w he => tokens_holds _ (by omega) _ hL ?_ B w he) w he
          · rw [List.length_append, List.length_map]; omega
          · refine ⟨by simp, fun k x y hx hy => ?_⟩
            rw [List.getElem?_append] at hx hy
            split at hx
            · rename_i h
              rw [if_pos h] at hy
              rw [hx] at hy; cases hy
              exact ⟨Eq.refl _, Eq.refl _, Eq.refl _, fun _ => Eq.refl _⟩
            · rename_i h
              rw [if_neg h, List.getElem?_map, hx] at hy
              simp only [Option.map_some, Option.some.injEq] at hy
              have hxe := hok2 x (List.mem_of_getElem? hx)
              rw [← hy, shift_ok _ _ hxe]
              exact ⟨Eq.refl _, Eq.refl _, Eq.refl _, fun h => by cases h⟩
          · intro x hx
            rcases List.mem_append.1 hx with h | h
            · exact hok x h
            · obtain ⟨y, hy, rfl⟩ := List.mem_map.1 h
              rw [shift_ok _ _ (hok2 y hy)]; exact hok2 y hy

end Go.Proofs.YtenhjddkocldaaaDoor
