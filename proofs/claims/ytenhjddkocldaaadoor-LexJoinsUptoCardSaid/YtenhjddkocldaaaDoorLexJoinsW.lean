/- The law LexJoins: its walk. -/
import Derived.Test.YtenhjddkocldaaaDoorLexJ3
namespace Go.Proofs.YtenhjddkocldaaaDoor
open Go.RowKit Go.Shelf Go.Deep

theorem alike_strip (xs ys : List Item) (h : ys.map strip = xs.map strip) : Alike xs ys false := by
  have hl : xs.length = ys.length := by have := congrArg List.length h; simpa using this.symm
  refine ⟨hl, fun k x y hx hy => ?_⟩
  have e := congrArg (fun l => l[k]?) h
  simp only [List.getElem?_map, hx, hy, Option.map_some, Option.some.injEq] at e
  unfold strip at e
  simp only [Prod.mk.injEq] at e
  exact ⟨e.1.symm, e.2.1.symm, e.2.2.1.symm, fun h => by cases h⟩

theorem tokens_fine (s : ByteArray) (hs : s.size ≤ 65536) (I : List Item) (hI : items (s.size + 1) s.data.toList (Lx.skipG false s.data.toList) = I) (hok : ∀ x ∈ I, x.e = 0) (B : Nat) (w : World) (he : Env B w) :
    Calls Tryd.prog 9 #[.string s] w (LP w I 0 0) := by
  refine (tokens_any s hs B w he).mono ?_
  rw [hI]
  rintro e W' ⟨⟨q, x, rfl, hxe, rfl⟩ | ⟨_, v, rfl, hrow, _⟩, hb⟩
  · exact absurd (hok x (by simp)) hxe
  · exact ⟨v, rfl, holds_of_row hrow, hb⟩

/-- The tokens of joined tokens. -/
theorem joined (I : List Item) (hal : ∀ x ∈ I, Alone x ∧ x.e = 0) (hlen : (joinL I).length ≤ 65536) : ∃ ys : List Item, Alike I ys false ∧ ys.length = I.length ∧
    ∀ (B : Nat) (w : World), Env B w → Calls Tryd.prog 9 #[.string (txt (joinL I))] w (LP w ys 0 0) := by
  obtain ⟨h0, hm⟩ := items_joined I hal ((joinL I).length + 1) (by omega)
  refine ⟨items ((joinL I).length + 1) (joinL I) 0, alike_strip _ _ hm, by have := congrArg List.length hm; simpa using this, fun B w he => ?_⟩
  refine tokens_fine (txt (joinL I)) (by exact hlen) _ (by show items ((joinL I).length + 1) (joinL I) (Lx.skipG false (joinL I)) = _; rw [h0]) (fun x hx => ?_) B w he
  obtain ⟨j, hj, e⟩ := List.mem_iff_getElem.1 hx
  have h := congrArg (fun l => l[j]?) hm
  simp only [List.getElem?_map, List.getElem?_eq_getElem hj, e, Option.map_some] at h
  cases hI : I[j]? with
  | none => rw [hI] at h; cases h
  | some z =>
    rw [hI] at h
    simp only [Option.map_some, Option.some.injEq] at h
    unfold strip at h
    simp only [Prod.mk.injEq] at h
    rw [h.2.2.2]
    exact (hal z (List.mem_of_getElem? hI)).2

theorem LexJoins_long (s : ByteArray) (p : Option Addr) (n c : Nat) (hs : 3000 < s.size ∨ s.size ≤ 3000 ∧ 100 < n) (B : Nat) (w : World) (he : Env B w) :
    Calls Tryd.prog 4 #[.string s, .slice p n c] w fun e w' => e = .returned (.bool true) ∧ Below w.heap.size w w' := by
  have hd : decide ((3000 : Int) < (s.size : Int)) = true ∨ decide ((3000 : Int) < (s.size : Int)) = false ∧ decide ((100 : Int) < (n : Int)) = true := by
    rcases hs with h | ⟨h, h2⟩
    · left; simp; omega
    · right; constructor <;> (simp; omega)
  clear hs
  rcases hd with hd | ⟨hd, hd2⟩
  all_goals (
    go_enter Tryd.func4, Tryd.ntmps4
    go_wp2_with fail
    refine (awake_any B w he).mono ?_
    rintro e w1 ⟨rfl, hb1⟩
    go_wp2_with fail
    refine (awake_any B w1 (he.to hb1)).mono ?_
    rintro e w2 ⟨rfl, hb2⟩
    go_wp2_with fail
    go_ret
    exact ⟨rfl, hb1.trans (hb2.mono hb1.size)⟩)

set_option maxHeartbeats 1000000 in
theorem LexJoins_bad (s : ByteArray) (p : Option Addr) (n c : Nat) (ls : List Item) (hn : n ≤ 100) (hln : ls.length = n) (hs : s.size ≤ 3000) (hjl : (joinL ls).length ≤ 140737488355328) (ec pc : Int) (hec : ec ≠ 0) (B : Nat)
    (hT : ∀ w, Env B w → Calls Tryd.prog 9 #[.string s] w fun e W' => e = .returned (.tuple #[.slice none 0 0, .agg #[.int .i64 ec, .int .i64 pc]]) ∧ Below w.heap.size w W')
    (w : World) (he : Env B w) (hl : Holds w (.slice p n c) ls) :
    Calls Tryd.prog 4 #[.string s, .slice p n c] w fun e w' => e = .returned (.bool true) ∧ Below w.heap.size w w' := by
  have hd : decide ((3000 : Int) < (s.size : Int)) = false := by simp; omega
  have hd2 : decide ((100 : Int) < (n : Int)) = false := by simp; omega
  have hce : (ec == (0 : Int)) = false := by rw [beq_eq_false_iff_ne]; exact hec
  have HT := Lib.hid hT
  have HL := Lib.hid hln
  have HJ := Lib.hid hjl
  clear hT hln hjl
  go_enter Tryd.func4, Tryd.ntmps4
  go_wp2_with fail
  refine (awake_any B w he).mono ?_
  rintro e w1 ⟨rfl, hb1⟩
  have hl1 := hl.below hb1
  clear hl
  go_wp2_with fail
  refine (HT.out w1 (he.to hb1)).mono ?_
  rintro e w2 ⟨rfl, hb2⟩
  have hl2 := Lib.hid (hl1.below hb2)
  have HB := Lib.hid (hb1.trans (hb2.mono hb1.size))
  clear hb1 hb2 hl1
  go_wp2_with fail
  have hl3 := Lib.hid (hl2.out.below (blkBelow w2 #[.int .i64 ec, .int .i64 pc] 26))
  have HB2 := Lib.hid (HB.out.alloc HB.out.size (.cells #[.int .i64 ec, .int .i64 pc] 26))
  generalize w2.alloc (.cells #[.int .i64 ec, .int .i64 pc] 26) = W2 at *
  refine (join_holds _ ls W2 hl3.out (by rw [HL.out]; omega) HJ.out).mono ?_
  rintro e x1 ⟨rfl, hc1⟩
  have hl6 := hl3.out.below hc1
  have HC1 := Lib.hid (HB2.out.trans (hc1.mono HB2.out.size))
  clear hc1
  go_wp2_with fail
  refine (back_holds _ ls (by rw [HL.out]; omega) x1 hl6).mono ?_
  rintro e x2 ⟨u9, rfl, hr9, hc2⟩
  have hu9 := holds_of_row hr9
  have HC2 := Lib.hid (HC1.out.trans (hc2.mono HC1.out.size))
  clear hc2 hr9 hl6
  go_wp2_with fail
  refine (rjoin_holds u9 ls x2 hu9 (by rw [HL.out]; omega) HJ.out).mono ?_
  rintro e x3 ⟨rfl, hd3⟩
  have HC3 := Lib.hid (HC2.out.trans (hd3.below _))
  go_wp2_with fail
  go_ret
  exact ⟨rfl, HC3.out⟩

set_option maxHeartbeats 2000000 in
theorem LexJoins_ok (s : ByteArray) (p : Option Addr) (n c : Nat) (ls : List Item) (hn : n ≤ 100) (hln : ls.length = n) (hs : s.size ≤ 3000) (hjl : (joinL ls).length ≤ 140737488355328) (I ys : List Item) (B : Nat)
    (hT : ∀ w, Env B w → Calls Tryd.prog 9 #[.string s] w (LP w I 0 0)) (hT2 : ∀ w, Env B w → Calls Tryd.prog 9 #[.string (txt (joinL I))] w (LP w ys 0 0))
    (hal : Alike I ys false) (hIl : I.length ≤ 1048576) (hyl : ys.length = I.length) (hIj : (joinL I).length ≤ 65536)
    (w : World) (he : Env B w) (hl : Holds w (.slice p n c) ls) :
    Calls Tryd.prog 4 #[.string s, .slice p n c] w fun e w' => e = .returned (.bool true) ∧ Below w.heap.size w w' := by
  have hd : decide ((3000 : Int) < (s.size : Int)) = false := by simp; omega
  have hd2 : decide ((100 : Int) < (n : Int)) = false := by simp; omega
  have HT := Lib.hid hT
  have HT2 := Lib.hid hT2
  have HL := Lib.hid hln
  have HJ := Lib.hid hjl
  have HA := Lib.hid hal
  have HI := Lib.hid hIl
  have HY := Lib.hid hyl
  have HIJ := Lib.hid hIj
  clear hT hT2 hln hjl hal hIl hyl hIj
  go_enter Tryd.func4, Tryd.ntmps4
  go_wp2_with fail
  refine (awake_any B w he).mono ?_
  rintro e w1 ⟨rfl, hb1⟩
  have hl1 := hl.below hb1
  clear hl
  go_wp2_with fail
  refine (HT.out w1 (he.to hb1)).mono ?_
  rintro e w2 ⟨v1, rfl, hv1, hb2⟩
  have k2 := blkBelow w2 #[.int .i64 0, .int .i64 0] 26
  have hl2 := Lib.hid ((hl1.below hb2).below k2)
  have hv2 := Lib.hid (hv1.below k2)
  have HB := Lib.hid (hb1.trans ((hb2.trans (k2.mono hb2.size)).mono hb1.size))
  clear hb1 hb2 hl1 hv1 k2
  go_wp2_with fail
  generalize w2.alloc (.cells #[.int .i64 0, .int .i64 0] 26) = W2 at *
  refine (join_holds v1 I W2 hv2.out HI.out (by have := HIJ.out; omega)).mono ?_
  rintro e w3 ⟨rfl, hb3⟩
  have hl3 := Lib.hid (hl2.out.below hb3)
  have hv3 := Lib.hid (hv2.out.below hb3)
  have HB3 := Lib.hid (HB.out.trans (hb3.mono HB.out.size))
  clear hb3
  go_wp2_with fail
  refine (HT2.out w3 (he.to HB3.out)).mono ?_
  rintro e w4 ⟨v4, rfl, hz4, hb4⟩
  have k4 := blkBelow w4 #[.int .i64 0, .int .i64 0] 26
  have hl4 := Lib.hid ((hl3.out.below hb4).below k4)
  have hv4 := Lib.hid ((hv3.out.below hb4).below k4)
  have hz5 := Lib.hid (hz4.below k4)
  have HB4 := Lib.hid (HB3.out.trans ((hb4.trans (k4.mono hb4.size)).mono HB3.out.size))
  clear hb4 k4 hz4
  go_wp2_with fail
  generalize w4.alloc (.cells #[.int .i64 0, .int .i64 0] 26) = W4 at *
  refine (back_holds v1 I HI.out W4 hv4.out).mono ?_
  rintro e w5 ⟨u1, rfl, hr1, hb5⟩
  have hu1 := holds_of_row hr1
  have hl5 := Lib.hid (hl4.out.below hb5)
  have hz6 := hz5.out.below hb5
  have HB5 := Lib.hid (HB4.out.trans (hb5.mono HB4.out.size))
  clear hb5 hr1
  go_wp2_with fail
  refine (back_holds v4 ys (by rw [HY.out]; exact HI.out) w5 hz6).mono ?_
  rintro e w6 ⟨u2, rfl, hr2, hb6⟩
  have hu2 := holds_of_row hr2
  have hu1' := hu1.below hb6
  have hl6 := Lib.hid (hl5.out.below hb6)
  have HB6 := Lib.hid (HB5.out.trans (hb6.mono HB5.out.size))
  clear hb6 hr2 hu1 hz6
  go_wp2_with fail
  refine (same_holds u1 u2 I ys false (by have := HI.out; omega) HA.out w6 hu1' hu2).mono ?_
  rintro e w7 ⟨rfl, nq, rfl⟩
  have hl7 := Lib.hid (hl6.out.below (below_drewN (Below.refl _ _) nq))
  have HB7 := Lib.hid (below_drewN HB6.out nq)
  generalize w6.drewN nq = W7 at *
  go_wp2_with fail
  refine (join_holds _ ls W7 hl7.out (by rw [HL.out]; omega) HJ.out).mono ?_
  rintro e x1 ⟨rfl, hc1⟩
  have hl6 := hl7.out.below hc1
  have HC1 := Lib.hid (HB7.out.trans (hc1.mono HB7.out.size))
  clear hc1
  go_wp2_with fail
  refine (back_holds _ ls (by rw [HL.out]; omega) x1 hl6).mono ?_
  rintro e x2 ⟨u9, rfl, hr9, hc2⟩
  have hu9 := holds_of_row hr9
  have HC2 := Lib.hid (HC1.out.trans (hc2.mono HC1.out.size))
  clear hc2 hr9 hl6
  go_wp2_with fail
  refine (rjoin_holds u9 ls x2 hu9 (by rw [HL.out]; omega) HJ.out).mono ?_
  rintro e x3 ⟨rfl, hd3⟩
  have HC3 := Lib.hid (HC2.out.trans (hd3.below _))
  go_wp2_with fail
  go_ret
  exact ⟨rfl, HC3.out⟩

/-- LexJoins, at every text and every list of tokens whose joined text is not too long. -/
theorem LexJoins_any (s : ByteArray) (p : Option Addr) (n c : Nat) (ls : List Item) (hln : ls.length = n) (hjl : n ≤ 100 → (joinL ls).length ≤ 140737488355328) (B : Nat) (w : World) (he : Env B w) (hl : Holds w (.slice p n c) ls) :
    Calls Tryd.prog 4 #[.string s, .slice p n c] w fun e w' => e = .returned (.bool true) ∧ Below w.heap.size w w' := by
  by_cases hs : 3000 < s.size
  · exact LexJoins_long s p n c (.inl hs) B w he
  · by_cases hn : 100 < n
    · exact LexJoins_long s p n c (.inr ⟨by omega, hn⟩) B w he
    · have hlen := items_len (s.size + 1) s.data.toList (Lx.skipG false s.data.toList)
      have hjn := items_joinlen (s.size + 1) s.data.toList (Lx.skipG false s.data.toList)
      have hsl : s.data.toList.length = s.size := rfl
      rcases items_either s with ⟨q, x, hx, hxe, _⟩ | hok
      · exact LexJoins_bad s p n c ls (by omega) hln (by omega) (hjl (by omega)) x.e x.p hxe B (fun w he => tokens_bad s (by omega) q x hx hxe B w he) w he hl
      · have hal := fun x hx => (⟨items_alone _ _ _ x hx (hok x hx), hok x hx⟩ : Alone x ∧ x.e = 0)
        obtain ⟨ys, h1, h2, h3⟩ := joined _ hal (by omega)
        exact LexJoins_ok s p n c ls (by omega) hln (by omega) (hjl (by omega)) _ ys B (fun w he => tokens_fine s (by omega) _ rfl hok B w he) (fun w he => h3 B w he) h1 (by omega) h2 (by omega) w he hl

end Go.Proofs.YtenhjddkocldaaaDoor
