/- The law LexTokens: its walk. -/
import Derived.Test.YtenhjddkocldaaaDoorLexZe
import Derived.Test.YtenhjddkocldaaaDoorLexPairsW
namespace Go.Proofs.YtenhjddkocldaaaDoor
open Go.RowKit Go.Shelf Go.Deep

def LP (w : World) (xs : List Item) (fe fp : Int) (e : Ending) (W' : World) : Prop := ∃ v, e = .returned (.tuple #[v, .agg #[.int .i64 fe, .int .i64 fp]]) ∧ Holds W' v xs ∧ Below w.heap.size w W'
def RP (w : World) (xs : List Item) (fe fp : Int) (e : Ending) (W' : World) : Prop := ∃ v, e = .returned (.tuple #[v, .int .i64 fe, .int .i64 fp]) ∧ Holds W' v xs ∧ Below w.heap.size w W'

set_option maxHeartbeats 400000 in
theorem rtokens_long (s : ByteArray) (hs : 65536 < s.size) (w : World) :
    Calls Tryd.prog 10 #[.string s] w fun e W' => e = .returned (.tuple #[.slice none 0 0, .int .i64 2, .int .i64 65536]) ∧ W' = w := by
  have hd : decide ((65536 : Int) < (s.size : Int)) = true := by simp; omega
  go_enter Tryd.func10, Tryd.ntmps10
  go_wp2
  exact bodyPost_ret (v := .tuple #[.slice none 0 0, .int .i64 2, .int .i64 65536]) (by simp [results, Tryd.results10, go_sem]) rfl ⟨rfl, rfl⟩

/-- Both find the same. -/
theorem both (s : ByteArray) : ∃ (xs : List Item) (fe fp : Int), xs.length ≤ 1048576 ∧
    (∀ (B : Nat) (w : World), Env B w → Calls Tryd.prog 9 #[.string s] w (LP w xs fe fp)) ∧
    (∀ w : World, Calls Tryd.prog 10 #[.string s] w (RP w xs fe fp)) := by
  by_cases hl : 65536 < s.size
  · refine ⟨[], 2, 65536, by simp, fun B w he => ?_, fun w => ?_⟩
    · refine (tokens_long s hl w).mono ?_
      rintro e w' ⟨rfl, hb⟩
      exact ⟨_, rfl, .inl ⟨rfl, rfl⟩, hb⟩
    · refine (rtokens_long s hl w).mono ?_
      rintro e w' ⟨rfl, rfl⟩
      exact ⟨_, rfl, .inl ⟨rfl, rfl⟩, Below.refl _ _⟩
  · have h6 : s.size ≤ 65536 := by omega
    have hlen := items_len (s.size + 1) s.data.toList (Lx.skipG false s.data.toList)
    rcases items_either s with ⟨q, x, hx, hxe, hq⟩ | hok
    · refine ⟨[], x.e, x.p, by simp, fun B w he => ?_, fun w => ?_⟩
      · refine (tokens_bad s h6 q x hx hxe B w he).mono ?_
        rintro e w' ⟨rfl, hb⟩
        exact ⟨_, rfl, .inl ⟨rfl, rfl⟩, hb⟩
      · refine (rtokens_any s h6 _ hx w).mono ?_
        rintro e w' ⟨⟨q', x', h, _, rfl⟩ | ⟨hall, _⟩, hb⟩
        · obtain ⟨_, h⟩ := List.append_inj' h rfl
          cases h
          exact ⟨_, rfl, .inl ⟨rfl, rfl⟩, hb⟩
        · exact absurd (hall x (by simp)) hxe
    · generalize hI : items (s.size + 1) s.data.toList (Lx.skipG false s.data.toList) = I at hok hlen
      refine ⟨I, 0, 0, by omega, fun B w he => ?_, fun w => ?_⟩
      · refine (tokens_any s h6 B w he).mono ?_
        rw [hI]
        rintro e W' ⟨⟨q, x, rfl, hxe, rfl⟩ | ⟨_, v, rfl, hrow, _⟩, hb⟩
        · exact absurd (hok x (by simp)) hxe
        · exact ⟨v, rfl, holds_of_row hrow, hb⟩
      · refine (rtokens_any s h6 _ hI w).mono ?_
        rintro e w' ⟨⟨q, x, rfl, hxe, rfl⟩ | ⟨_, v, rfl, hrow⟩, hb⟩
        · exact absurd (hok x (by simp)) hxe
        · exact ⟨v, rfl, holds_of_row hrow, hb⟩

set_option maxHeartbeats 400000 in
theorem LexTokens_mid (s : ByteArray) (hs : 3000 < s.size) (hs2 : s.size ≤ 65536) (B : Nat) (w : World) (he : Env B w) :
    Calls Tryd.prog 3 #[.string s] w fun e w' => e = .returned (.bool true) ∧ Below w.heap.size w w' := by
  have hd : decide ((3000 : Int) < (s.size : Int)) = true := by simp; omega
  have hd2 : decide ((s.size : Int) ≤ (65536 : Int)) = true := by simp; omega
  go_enter Tryd.func3, Tryd.ntmps3
  go_wp2_with fail
  refine (awake_any B w he).mono ?_
  rintro e w1 ⟨rfl, hb1⟩
  go_wp2_with fail
  refine (awake_any B w1 (he.to hb1)).mono ?_
  rintro e w2 ⟨rfl, hb2⟩
  go_wp2_with fail
  go_ret
  exact ⟨rfl, hb1.trans (hb2.mono hb1.size)⟩

set_option maxHeartbeats 2000000 in
theorem LexTokens_go (s : ByteArray) (hz : s.size ≤ maxLen) (hs : s.size ≤ 3000 ∨ 65536 < s.size) (B : Nat) (w : World) (he : Env B w) :
    Calls Tryd.prog 3 #[.string s] w fun e w' => e = .returned (.bool true) ∧ Below w.heap.size w w' := by
  obtain ⟨xs, fe, fp, hlen, hT, hR⟩ := both s
  have HT := Lib.hid hT
  have HR := Lib.hid hR
  have HZ := Lib.hid hz
  obtain ⟨b1, h1⟩ : ∃ b1, Hid (kwB 10 s = b1) := ⟨_, Lib.hid rfl⟩
  obtain ⟨b2, h2⟩ : ∃ b2, Hid (nameB s = b2) := ⟨_, Lib.hid rfl⟩
  have K1 := fun (w : World) (he : Env B w) => keyword_any s B w he
  have K2 := fun (w : World) => rkeyword_any s w
  have K3 := fun (w : World) (he : Env B w) => name_any s HZ.out B w he
  have K4 := fun (w : World) => rname_any s (Nat.le_trans HZ.out (by decide)) w
  rw [h1.out] at K1 K2
  rw [h2.out] at K3 K4
  have HK1 := Lib.hid K1
  have HK2 := Lib.hid K2
  have HK3 := Lib.hid K3
  have HK4 := Lib.hid K4
  clear hT hR K1 K2 K3 K4 hz
  have hcond : (decide ((3000 : Int) < (s.size : Int)) = false) ∨ (decide ((3000 : Int) < (s.size : Int)) = true ∧ decide ((s.size : Int) ≤ (65536 : Int)) = false) := by
    rcases hs with h | h
    · left; simp; omega
    · right; constructor <;> (simp; omega)
  clear hs
  rcases hcond with hd | ⟨hd, hd2⟩
  all_goals (
    go_enter Tryd.func3, Tryd.ntmps3
    go_wp2_with fail
    refine (awake_any B w he).mono ?_
    rintro e w1 ⟨rfl, hb1⟩
    go_wp2_with fail
    refine (HT.out B w1 (he.to hb1)).mono ?_
    rintro e w2 ⟨v1, rfl, hx, hb2⟩
    go_wp2_with fail
    have f1 := World.alloc_heap_new w2 (.cells #[.int .i64 fe, .int .i64 fp] 26)
    have hx' := hx.below (blkBelow w2 #[.int .i64 fe, .int .i64 fp] 26)
    have hc2 := hb1.trans ((hb2.trans ((blkBelow w2 #[.int .i64 fe, .int .i64 fp] 26).mono hb2.size)).mono hb1.size)
    generalize hn2 : w2.heap.size = n2 at *
    generalize hW2 : w2.alloc (.cells #[.int .i64 fe, .int .i64 fp] 26) = W2 at *
    clear hW2 hn2 hb2 hb1 hx
    refine (HR.out W2).mono ?_
    rintro e w3 ⟨v2, rfl, hy, hb3⟩
    have hx3 := hx'.below hb3
    have f3 := heap_to hb3 f1
    have hc3 := hc2.trans (hb3.mono hc2.size)
    clear f1 hx' hb3 hc2
    go_wp2_with fail
    refine (back_holds v1 xs hlen w3 hx3).mono ?_
    rintro e w4 ⟨u1, rfl, hr1, hb4⟩
    have hu4 := Lib.hid (holds_of_row hr1)
    have hy4 := Lib.hid (hy.below hb4)
    obtain ⟨a0, a1⟩ := two_cells (heap_to hb4 f3)
    have hc4 := Lib.hid (hc3.trans (hb4.mono hc3.size))
    clear f3 hc3 hb4 hr1 hy hx3
    go_wp2_with fail
    refine (same_holds u1 v2 xs xs true (by omega) (Alike.rfl xs true) w4 hu4.out hy4.out).mono ?_
    rintro e w5 ⟨rfl, nq, rfl⟩
    have hc5 := Lib.hid (below_drewN hc4.out nq)
    go_wp2_with fail
    refine (HK1.out _ (he.to hc5.out)).mono ?_
    rintro e w6 ⟨rfl, rfl⟩
    go_wp2_with fail
    refine (HK2.out _).mono ?_
    rintro e w7 ⟨rfl, hb7⟩
    have hc7 := Lib.hid (hc5.out.trans (hb7.mono hc5.out.size))
    clear hb7
    go_wp2_with fail
    refine (HK3.out _ (he.to hc7.out)).mono ?_
    rintro e w8 ⟨rfl, rfl⟩
    go_wp2_with fail
    refine (HK4.out _).mono ?_
    rintro e w9 ⟨rfl, hb9⟩
    have hc9 := Lib.hid (hc7.out.trans (hb9.mono hc7.out.size))
    clear hb9
    go_wp2_with fail
    go_ret
    exact ⟨rfl, hc9.out⟩)

theorem LexTokens_any (s : ByteArray) (hz : s.size ≤ maxLen) (B : Nat) (w : World) (he : Env B w) :
    Calls Tryd.prog 3 #[.string s] w fun e w' => e = .returned (.bool true) ∧ Below w.heap.size w w' := by
  by_cases h1 : s.size ≤ 3000
  · exact LexTokens_go s hz (.inl h1) B w he
  · by_cases h2 : 65536 < s.size
    · exact LexTokens_go s hz (.inr h2) B w he
    · exact LexTokens_mid s (by omega) (by omega) B w he

end Go.Proofs.YtenhjddkocldaaaDoor
