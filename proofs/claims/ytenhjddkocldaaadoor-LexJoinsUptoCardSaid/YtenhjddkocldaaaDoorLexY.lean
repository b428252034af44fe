/- The reference's longest token. -/
import Derived.Test.YtenhjddkocldaaaDoorLexX
namespace Go.Proofs.YtenhjddkocldaaaDoor
open Go.RowKit Go.Shelf Go.Deep

theorem take_at (s : ByteArray) (a k : Nat) : (s.extract a k).data.toList = (s.data.toList.drop a).take (k - a) := by
  rw [← Lib.toList_data, Lib.extract_toList]
theorem kind_is (s : ByteArray) (hs : Hid (s.size ≤ 9223372036854775807)) (a k m : Nat) (h : Hid (rKind ((s.data.toList.drop a).take (k - a)) = m)) (w : World) :
    Calls Tryd.prog 23 #[.string (s.extract a k)] w fun e w' => e = .returned (.int .i64 (m : Int)) ∧ Drew w w' := by
  have h1 := hs.out
  have := kind_any (s.extract a k) (by rw [ByteArray.size_extract]; omega) w
  rw [take_at, h.out] at this; exact this

/-- After a look at j beginnings, e is the length of the longest. -/
def Looked (l : List UInt8) (j e : Nat) : Prop := e = j ∧ j ≤ tl l ∨ j = 1 ∧ e = 0 ∧ rKind (l.take 1) = 0
theorem looked_hit {l : List UInt8} (L : Long l) {j e : Nat} (h : Looked l j e) (hj : j + 1 ≤ l.length) (hk : 0 < rKind (l.take (j + 1))) : Looked l (j + 1) (j + 1) := by
  rcases h with ⟨rfl, h⟩ | ⟨rfl, rfl, h⟩
  · left
    refine ⟨rfl, ?_⟩
    by_cases e0 : e = tl l
    · subst e0; have := L.stop hj; omega
    · omega
  · left
    refine ⟨rfl, ?_⟩
    by_cases h0 : tl l = 0
    · have : rKind (l.take (1 + 1)) = 0 := L.none h0 hj
      omega
    · by_cases h1 : tl l = 1
      · have := L.one h1; omega
      · omega
theorem looked_first {l : List UInt8} {e : Nat} (h : Looked l 0 e) (hk : rKind (l.take (0 + 1)) = 0) : Looked l 1 e := by
  rcases h with ⟨rfl, h⟩ | ⟨h, _⟩
  · exact .inr ⟨rfl, rfl, hk⟩
  · cases h
theorem looked_stop {l : List UInt8} (L : Long l) {j e : Nat} (h : Looked l j e) (hj : 1 ≤ j) (hk : rKind (l.take (j + 1)) = 0) : e = tl l := by
  rcases h with ⟨rfl, h⟩ | ⟨rfl, rfl, h⟩
  · by_cases e0 : e = tl l
    · exact e0
    · have := L.more (e + 1) (by omega) (by omega); omega
  · by_cases h0 : tl l = 0
    · exact h0.symm
    · by_cases h1 : tl l = 1
      · have := L.one h1; omega
      · have := L.more (1 + 1) (by omega) (by omega); omega
theorem looked_end {l : List UInt8} (L : Long l) {j e : Nat} (h : Looked l j e) (hj : l.length = j) : e = tl l := by
  have hle := L.le
  rcases h with ⟨rfl, h⟩ | ⟨rfl, rfl, h⟩
  · omega
  · by_cases h1 : tl l = 1
    · have := L.one h1; omega
    · omega

set_option maxHeartbeats 1000000 in
theorem longest_any (s : ByteArray) (hs : s.size ≤ 281474976710656) (a : Nat) (ha : a < s.size) (w : World) :
    Calls Tryd.prog 22 #[.string s, .int .i64 a] w fun e w' => e = .returned (.int .i64 ((a + tl (s.data.toList.drop a) : Nat) : Int)) ∧ Drew w w' := by
  have hS : Hid (s.size ≤ 9223372036854775807) := Lib.hid (by omega)
  have hlen : (s.data.toList.drop a).length = s.size - a := by rw [List.length_drop]; rfl
  have L := Lib.hid (long_any (s.data.toList.drop a) (fun h => by rw [h] at hlen; simp at hlen; omega))
  have HL := Lib.hid hlen
  clear hlen
  obtain ⟨l, hl⟩ : ∃ l, s.data.toList.drop a = l := ⟨_, rfl⟩
  have kd := fun (k m : Nat) (h : Hid (rKind (l.take (k - a)) = m)) (w : World) => kind_is s hS a k m (by rw [hl]; exact h) w
  rw [hl] at L HL ⊢
  clear hl
  go_enter Tryd.func22, Tryd.ntmps22
  go_wp2_with fail


  go_loopw [5, 6] (fun en n wr => ∃ j e : Nat, a + j ≤ s.size ∧ en = .int .i64 ((a + e : Nat) : Int) ∧ a + e ≤ s.size ∧ n = .int .i64 ((a + j + 1 : Nat) : Int) ∧ Hid (Looked l j e) ∧ Drew w wr) (fun _ n _ => s.size + 1 - (intOf n).toNat)
  case atStart => exact ⟨0, 0, by omega, rfl, by omega, by go_num, Lib.hid (.inl ⟨rfl, Nat.zero_le _⟩), (Drew.refl _)⟩
  case round =>
    obtain ⟨j, e, hj, rfl, he, rfl, hlk, hdr⟩ := hrel
    by_cases hlt : a + j < s.size
    · have hk0 : (0 : Int) ≤ ((a + j + 1 : Nat) : Int) := Int.natCast_nonneg _
      have hk3 : ((a + j + 1 : Nat) : Int) ≤ (s.size : Int) := by omega
      obtain ⟨m, hm⟩ : ∃ m, Hid (rKind (l.take (a + j + 1 - a)) = m) := ⟨_, Lib.hid rfl⟩
      have hm' : Hid (rKind (l.take (j + 1)) = m) := Lib.hid (by have := hm.out; rw [show a + j + 1 - a = j + 1 by omega] at this; exact this)
      by_cases hm0 : 0 < m
      · have hmd : decide ((0 : Int) < (m : Int)) = true := by simp; omega
        go_wp2_with (go_at_call 23; refine (kd (a + j + 1) m hm _).mono ?_; rintro e w' ⟨rfl, hd1⟩)
        go_roundw
        case rel => exact ⟨j + 1, j + 1, by omega, by go_num, by omega, by go_num, Lib.hid (looked_hit L.out hlk.out (by rw [HL.out]; omega) (by rw [hm'.out]; exact hm0)), hdr.trans hd1⟩
        case measure => simp [intOf]; omega
      · obtain rfl : m = 0 := by omega
        by_cases hj0 : j = 0
        · subst hj0
          go_wp2_with (go_at_call 23; refine (kd (a + 0 + 1) 0 hm _).mono ?_; rintro e w' ⟨rfl, hd1⟩)
          go_roundw
          case rel => exact ⟨1, e, by omega, by go_num, by omega, by go_num, Lib.hid (looked_first hlk.out hm'.out), hdr.trans hd1⟩
          case measure => simp [intOf]; omega
        · have hjd : decide ((a : Int) + 1 < ((a + j + 1 : Nat) : Int)) = true := by simp; omega
          obtain rfl := looked_stop L.out hlk.out (by omega) hm'.out
          go_wp2_with (go_at_call 23; refine (kd (a + j + 1) 0 hm _).mono ?_; rintro e w' ⟨rfl, hd1⟩)
          go_ret
          exact ⟨rfl, hdr.trans hd1⟩
    · obtain rfl := looked_end L.out hlk.out (by rw [HL.out]; omega)
      go_wp2_with fail
      go_ret
      exact ⟨rfl, hdr⟩

end Go.Proofs.YtenhjddkocldaaaDoor
