/- Types: the reference's measures. -/
import Derived.Test.YtjmnaibbljakaaaGreatDoorTyR
import Derived.Test.YtjmnaibbljakaaaGreatDoorTyM
import Derived.WalkKit
import Derived.WalkSpells
import Derived.WalkLawsBesides
import Derived.BigQuiet
import Derived.Deep.QuietTactic
namespace Go.Proofs.YtjmnaibbljakaaaGreatDoor
open Go.RowKit

theorem ret_int {k : IntKind} {a b : Int} (h : a = b) : Ending.returned (.int k a) = .returned (.int k b) := by rw [h]
theorem ret_val {a b : Int} (h : a = b) : Value.int .i64 a = .int .i64 b := by rw [h]
theorem ret_bool {a b : Bool} (h : a = b) : Ending.returned (.bool a) = .returned (.bool b) := by rw [h]

set_option maxHeartbeats 1000000 in
theorem rsize_step (B : Nat → Prop) (k p s : Int) (n : ByteArray) (lv kv : Value) (ts : List Ty) (hts : Ty.sizes ts ≤ 1000000)
    (ih : ∀ t ∈ ts, ∀ (v : Value) (w : World), Low B w → TyVal B w v t → Calls Tryz.prog 39 #[v] w fun e w' => e = .returned (.int .i64 t.size) ∧ Below w.heap.size w w')
    (w : World) (hB : Low B w) (hk : TySl B w kv ts) :
    Calls Tryz.prog 39 #[.agg #[.int .i64 k, .int .i64 p, .string n, .int .i64 s, lv, kv]] w fun e w' => e = .returned (.int .i64 ((Ty.sizes ts + 1 : Nat) : Int)) ∧ Below w.heap.size w w' := by
  obtain ⟨pa, len, c, rfl, hlen, hm, hget⟩ := hk.open
  have HG := Lib.hid hget
  clear hget hk
  go_enter Tryz.func39, Tryz.ntmps39
  go_wp2_with fail
  go_loopw [3, 4] (fun a i wr => ∃ j : Nat, i = .int .i64 j ∧ j ≤ len ∧ a = .int .i64 ((Ty.sizes (ts.take j) + 1 : Nat) : Int) ∧ Below (w.heap.size + 1) (w.alloc (.cells #[.int .i64 k, .int .i64 p, .string n, .int .i64 s, lv, .slice pa len c] 25)) wr) (fun _ i _ => len - (intOf i).toNat)
  case atStart => exact ⟨0, rfl, by omega, by simp [Ty.sizes], Below.refl _ _⟩
  case round =>
    obtain ⟨j, rfl, hj, rfl, hb⟩ := hrel
    have c5 := blk_cell hb 5 rfl
    have hw := blk_below hb
    by_cases hlt : j < len
    · obtain ⟨t, ht⟩ : ∃ t, ts[j]? = some t := ⟨_, List.getElem?_eq_getElem (by rw [← hlen.out]; exact hlt)⟩
      obtain ⟨kb, ko, rfl, hkb, hty⟩ := HG.out j t ht
      obtain ⟨lv', kv', ⟨d0, d1, d2, d3, d4, d5⟩, hval⟩ := (hty.keep (hw.keeps'.mono hB)).load
      have hsz := Ty.sizes_take ht
      have hle := Ty.sizes_take_le ts (j + 1)
      have IH := Lib.hid (ih t (List.mem_of_getElem? ht) _ wr (hB.le hw.size) hval)
      obtain ⟨a0, ha0⟩ : ∃ a0, Ty.sizes (ts.take j) + 1 = a0 := ⟨_, rfl⟩
      have HA := Lib.hid hsz
      have ha1 : a0 + t.size ≤ 1000001 := by omega
      have HA0 := Lib.hid ha0
      rw [ha0]
      clear hsz ha0 ht
      go_wp2_with (go_at_call 39; refine IH.out.mono ?_; rintro e w1 ⟨rfl, hb1⟩)
      go_roundw
      case rel => exact ⟨j + 1, by go_num, by omega, ret_val (by rw [HA.out]; have := HA0.out; omega), hb.trans (hb1.mono (by have := hb.size; simpa using this))⟩
      case measure => simp [intOf]; omega
    · obtain rfl : j = len := by omega
      go_wp2_with fail
      go_ret
      exact ⟨ret_int (by rw [List.take_of_length_le (by rw [hlen.out]; exact Nat.le_refl _)]), hw⟩

theorem rsize_any (B : Nat → Prop) : ∀ (t : Ty), t.size ≤ 1000000 → ∀ (v : Value) (w : World), Low B w → TyVal B w v t → Calls Tryz.prog 39 #[v] w fun e w' => e = .returned (.int .i64 t.size) ∧ Below w.heap.size w w' := by
  refine Ty.ind ?_
  intro k p n s ls ts ih hsz v w hB hv
  obtain ⟨lv, kv, rfl, _, _, hk⟩ := hv
  have h1 : Ty.sizes ts ≤ 1000000 := by rw [Ty.size_eq] at hsz; simp only [Ty.ts] at hsz; omega
  have := rsize_step B k p s n lv kv ts h1 (fun t ht => ih t ht (Nat.le_trans (Ty.size_mem ht) h1)) w hB hk
  rw [Ty.size_eq]; exact this

end Go.Proofs.YtjmnaibbljakaaaGreatDoor
