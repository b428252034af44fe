/- Graphs: the reference's Count and its reference of a type. (and what follows from it) -/
import Derived.Test.YtecdapihfiahiaaDoorPw3
import Derived.Deep.RegionWith
import Derived.WalkSpells

/- Graphs: the reference's Count and its reference of a type. -/
namespace Go.Proofs.YtecdapihfiahiaaDoor
open Go.RowKit Go.Deep Go.Shelf

set_option maxHeartbeats 2000000 in
theorem gcount_step (B : Nat → Prop) (k p s : Int) (n : ByteArray) (lv kv : Value) (ts : List Ty) (hts : Ty.sizes ts ≤ 1000000)
    (ih : ∀ t ∈ ts, ∀ (v : Value) (w : World), Low B w → TyVal B w v t → Calls Tryd.prog 17 #[v] w fun e w' => e = .returned (.int .i64 (t.gcnt : Int)) ∧ Below w.heap.size w w')
    (w : World) (hB : Low B w) (hk : TySl B w kv ts) :
    Calls Tryd.prog 17 #[.agg #[.int .i64 k, .int .i64 p, .string n, .int .i64 s, lv, kv]] w fun e w' => e = .returned (.int .i64 (((if k ≤ 7 then 1 else 0) + Ty.gcnts ts : Nat) : Int)) ∧ Below w.heap.size w w' := by
  obtain ⟨pa, len, c, rfl, hlen, hm, hget⟩ := hk.open
  have HG := Lib.hid hget
  clear hget hk
  obtain ⟨d, hd, hd1⟩ : ∃ d : Nat, (if k ≤ 7 then 1 else 0) = d ∧ d ≤ 1 := ⟨_, rfl, by split <;> omega⟩
  rw [hd]
  have HDD := Lib.hid hd
  clear hd
  by_cases h7 : k ≤ 7
  all_goals (
    have hkd : decide (k ≤ 7) = _ := rfl
    simp only [h7, decide_true, decide_false] at hkd
    go_enter Tryd.func17, Tryd.ntmps17
    go_wp2_with fail
    go_loopw [3, 4] (fun a i wr => ∃ j : Nat, i = .int .i64 j ∧ j ≤ len ∧ a = .int .i64 ((d + Ty.gcnts (ts.take j) : Nat) : Int) ∧ Below (w.heap.size + 1) (w.alloc (.cells #[.int .i64 k, .int .i64 p, .string n, .int .i64 s, lv, .slice pa len c] 47)) wr) (fun _ i _ => len - (intOf i).toNat)
    case atStart => exact ⟨0, rfl, by omega, ret_val (by rw [← HDD.out]; simp only [Ty.gcnts, List.take_zero, Nat.add_zero]; split <;> omega), Below.refl _ _⟩
    case round =>
      obtain ⟨j, rfl, hj, rfl, hb⟩ := hrel
      have c5 := blk_cell hb 5 rfl
      have hw := blk_below hb
      by_cases hlt : j < len
      · obtain ⟨t, ht⟩ : ∃ t, ts[j]? = some t := ⟨_, List.getElem?_eq_getElem (by rw [← hlen.out]; exact hlt)⟩
        obtain ⟨kb, ko, rfl, hkb, hty⟩ := HG.out j t ht
        obtain ⟨lv', kv', ⟨d0, d1, d2, d3, d4, d5⟩, hval⟩ := (hty.keep (hw.keeps'.mono hB)).load
        have hsz := Ty.gcnts_take ht
        have hle : Ty.gcnts (ts.take (j + 1)) ≤ 1000000 := Nat.le_trans (Ty.gcnts_le _) (Nat.le_trans (Ty.sizes_take_le ts (j + 1)) hts)
        have IH := Lib.hid (ih t (List.mem_of_getElem? ht) _ wr (hB.le hw.size) hval)
        obtain ⟨a0, ha0⟩ : ∃ a0, d + Ty.gcnts (ts.take j) = a0 := ⟨_, rfl⟩
        have HA := Lib.hid hsz
        have ha1 : a0 + t.gcnt ≤ 1000001 := by omega
        have HA0 := Lib.hid ha0
        rw [ha0]
        clear hsz ha0 ht hle
        go_wp2_with (go_at_call 17; refine IH.out.mono ?_; rintro e w1 ⟨rfl, hb1⟩)
        go_roundw
        case rel => exact ⟨j + 1, by go_num, by omega, ret_val (by rw [HA.out]; have := HA0.out; omega), hb.trans (hb1.mono (by have := hb.size; simpa using this))⟩
        case measure => simp [intOf]; omega
      · obtain rfl : j = len := by omega
        go_wp2_with fail
        go_ret
        exact ⟨ret_int (by rw [List.take_of_length_le (by rw [hlen.out]; exact Nat.le_refl _)]), hw⟩)
theorem gcount_any (B : Nat → Prop) : ∀ (t : Ty), t.size ≤ 1000000 → ∀ (v : Value) (w : World), Low B w → TyVal B w v t → Calls Tryd.prog 17 #[v] w fun e w' => e = .returned (.int .i64 (t.gcnt : Int)) ∧ Below w.heap.size w w' := by
  refine Ty.ind ?_
  intro k p n s ls ts ih hsz v w hB hv
  obtain ⟨lv, kv, rfl, _, _, hk⟩ := hv
  have h1 : Ty.sizes ts ≤ 1000000 := by rw [Ty.size_eq] at hsz; simp only [Ty.ts] at hsz; omega
  have := gcount_step B k p s n lv kv ts h1 (fun t ht => ih t ht (Nat.le_trans (Ty.size_mem ht) h1)) w hB hk
  rw [Ty.gcnt]; exact this

/-! ### reference -/
theorem lookE_names {x : ByteArray} {env : GEnv} : ∀ i, i ≤ env.length → (∀ j, i ≤ j → j < env.length → ∀ e, env[j]? = some e → e.1 ≠ x) → lookE x env = lookE x (env.take i) := by
  intro i hi h
  have hrest : lookE x (env.drop i) = none := by
    have : ∀ l : GEnv, (∀ e ∈ l, e.1 ≠ x) → lookE x l = none := by
      intro l
      induction l with
      | nil => intro _; rfl
      | cons a l ih =>
        intro hl
        obtain ⟨y, r⟩ := a
        rw [lookE, ih (fun e he => hl e (by simp [he]))]
        simp only []
        rw [if_neg (hl (y, r) (by simp))]
    refine this _ (fun e he => ?_)
    obtain ⟨j, hj⟩ := List.getElem?_of_mem he
    rw [List.getElem?_drop] at hj
    exact h (i + j) (by omega) (List.getElem?_eq_some_iff.1 hj).1 e hj
  have happ : ∀ (a b : GEnv), lookE x b = none → lookE x (a ++ b) = lookE x a := by
    intro a b hb
    induction a with
    | nil => rw [List.nil_append, hb]; rfl
    | cons c a ih => obtain ⟨y, r⟩ := c; rw [List.cons_append, lookE, lookE, ih]
  have := happ (env.take i) (env.drop i) hrest
  rwa [List.take_append_drop] at this
theorem lookE_hit {x : ByteArray} {env : GEnv} {i : Nat} {r : GRef} (h : env[i]? = some (x, r)) (hn : ∀ j, i < j → j < env.length → ∀ e, env[j]? = some e → e.1 ≠ x) : lookE x env = some r := by
  have hl := (List.getElem?_eq_some_iff.1 h).1
  rw [lookE_names (i + 1) (by omega) (fun j hj hjl e he => hn j (by omega) hjl e he), take_snoc_get h, lookE_snoc, if_pos rfl]
theorem lookE_miss {x : ByteArray} {env : GEnv} (hn : ∀ j, j < env.length → ∀ e, env[j]? = some e → e.1 ≠ x) : lookE x env = none := by
  rw [lookE_names 0 (by omega) (fun j _ hjl e he => hn j hjl e he)]; rfl
end Go.Proofs.YtecdapihfiahiaaDoor
