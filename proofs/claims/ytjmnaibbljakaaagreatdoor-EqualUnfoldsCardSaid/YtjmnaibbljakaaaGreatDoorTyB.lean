/- Types: the reference's depth, count and Few; both Sessions. -/
import Derived.Test.YtjmnaibbljakaaaGreatDoorTyA
namespace Go.Proofs.YtjmnaibbljakaaaGreatDoor
open Go.RowKit

set_option maxHeartbeats 1000000 in
theorem rdepth_step (B : Nat → Prop) (k p s : Int) (n : ByteArray) (lv kv : Value) (ts : List Ty) (hts : Ty.depths ts ≤ 1000000)
    (ih : ∀ t ∈ ts, ∀ (v : Value) (w : World), Low B w → TyVal B w v t → Calls Tryz.prog 38 #[v] w fun e w' => e = .returned (.int .i64 t.depth) ∧ Below w.heap.size w w')
    (w : World) (hB : Low B w) (hk : TySl B w kv ts) :
    Calls Tryz.prog 38 #[.agg #[.int .i64 k, .int .i64 p, .string n, .int .i64 s, lv, kv]] w fun e w' => e = .returned (.int .i64 ((Ty.depths ts + 1 : Nat) : Int)) ∧ Below w.heap.size w w' := by
  obtain ⟨pa, len, c, rfl, hlen, hm, hget⟩ := hk.open
  have HG := Lib.hid hget
  clear hget hk
  go_enter Tryz.func38, Tryz.ntmps38
  go_wp2_with fail
  go_loopw [3, 4] (fun a i wr => ∃ j : Nat, i = .int .i64 j ∧ j ≤ len ∧ a = .int .i64 ((Ty.depths (ts.take j) : Nat) : Int) ∧ Below (w.heap.size + 1) (w.alloc (.cells #[.int .i64 k, .int .i64 p, .string n, .int .i64 s, lv, .slice pa len c] 25)) wr) (fun _ i _ => len - (intOf i).toNat)
  case atStart => exact ⟨0, rfl, by omega, by simp [Ty.depths], Below.refl _ _⟩
  case round =>
    obtain ⟨j, rfl, hj, rfl, hb⟩ := hrel
    have c5 := blk_cell hb 5 rfl
    have hw := blk_below hb
    by_cases hlt : j < len
    · obtain ⟨t, ht⟩ : ∃ t, ts[j]? = some t := ⟨_, List.getElem?_eq_getElem (by rw [← hlen.out]; exact hlt)⟩
      obtain ⟨kb, ko, rfl, hkb, hty⟩ := HG.out j t ht
      obtain ⟨lv', kv', ⟨d0, d1, d2, d3, d4, d5⟩, hval⟩ := (hty.keep (hw.keeps'.mono hB)).load
      have hsz := Ty.depths_take ht
      have hle := Ty.depths_take_le ts (j + 1)
      have IH := Lib.hid (ih t (List.mem_of_getElem? ht) _ wr (hB.le hw.size) hval)
      obtain ⟨a0, ha0⟩ : ∃ a0, Ty.depths (ts.take j) = a0 := ⟨_, rfl⟩
      have HA := Lib.hid hsz
      have ha1 : max a0 t.depth ≤ 1000000 := by omega
      have HA0 := Lib.hid ha0
      rw [ha0]
      clear hsz ha0 ht
      go_wp2_with (go_at_call 38; refine IH.out.mono ?_; rintro e w1 ⟨rfl, hb1⟩)
      go_roundw
      case rel => exact ⟨j + 1, by go_num, by omega, ret_val (by rw [HA.out]; have := HA0.out; omega), hb.trans (hb1.mono (by have := hb.size; simpa using this))⟩
      case measure => simp [intOf]; omega
    · obtain rfl : j = len := by omega
      have hle := Ty.depths_take_le ts j
      go_wp2_with fail
      go_ret
      exact ⟨ret_int (by rw [List.take_of_length_le (by rw [hlen.out]; exact Nat.le_refl _)]; omega), hw⟩

theorem rdepth_any (B : Nat → Prop) : ∀ (t : Ty), t.depth ≤ 1000000 → ∀ (v : Value) (w : World), Low B w → TyVal B w v t → Calls Tryz.prog 38 #[v] w fun e w' => e = .returned (.int .i64 t.depth) ∧ Below w.heap.size w w' := by
  refine Ty.ind ?_
  intro k p n s ls ts ih hsz v w hB hv
  obtain ⟨lv, kv, rfl, _, _, hk⟩ := hv
  have h1 : Ty.depths ts ≤ 1000000 := by rw [Ty.depth_eq] at hsz; simp only [Ty.ts] at hsz; omega
  have := rdepth_step B k p s n lv kv ts h1 (fun t ht => ih t ht (Nat.le_trans (Ty.depth_mem ht) h1)) w hB hk
  rw [Ty.depth_eq]; exact this

/-! ### count -/
mutual
def Ty.cnt : Ty → Int → Int
  | .mk _ _ _ _ _ ts, m => Ty.cnts ts (m - 1)
def Ty.cnts : List Ty → Int → Int
  | [], m => m
  | t :: r, m => if 0 ≤ m then Ty.cnts r (t.cnt m) else m
end
theorem Ty.cnt_eq (t : Ty) (m : Int) : t.cnt m = Ty.cnts t.ts (m - 1) := by cases t; simp [Ty.cnt, Ty.ts]
theorem Ty.cnts_neg (ts : List Ty) (m : Int) (h : ¬ 0 ≤ m) : Ty.cnts ts m = m := by cases ts <;> simp [Ty.cnts, h]
mutual
theorem Ty.cnt_size : ∀ (t : Ty) (m : Int), 0 ≤ m → (t.size ≤ m → t.cnt m = m - t.size) ∧ (m < t.size → t.cnt m = -1)
  | .mk k p n s ls ts, m, h => by
    rw [Ty.cnt_eq, Ty.size_eq]; simp only [Ty.ts]
    by_cases h0 : m = 0
    · subst h0
      rw [Ty.cnts_neg _ _ (by omega)]
      exact ⟨fun h => by omega, fun _ => by omega⟩
    · have := Ty.cnts_size ts (m - 1) (by omega)
      exact ⟨fun h => by rw [this.1 (by omega)]; omega, fun h => this.2 (by omega)⟩
theorem Ty.cnts_size : ∀ (ts : List Ty) (m : Int), 0 ≤ m → (Ty.sizes ts ≤ m → Ty.cnts ts m = m - Ty.sizes ts) ∧ (m < Ty.sizes ts → Ty.cnts ts m = -1)
  | [], m, _ => by simp only [Ty.cnts, Ty.sizes]; exact ⟨fun _ => by omega, fun h => by omega⟩
  | t :: r, m, h => by
    simp only [Ty.cnts, Ty.sizes, if_pos h]
    have h1 := Ty.cnt_size t m h
    by_cases hm : (t.size : Int) ≤ m
    · rw [h1.1 hm]
      have h2 := Ty.cnts_size r (m - t.size) (by omega)
      exact ⟨fun h => by rw [h2.1 (by omega)]; omega, fun h => h2.2 (by omega)⟩
    · rw [h1.2 (by omega), Ty.cnts_neg _ _ (by omega)]
      exact ⟨fun h => by omega, fun _ => rfl⟩
end
theorem Ty.cnt_range (t : Ty) (m : Int) (h : 0 ≤ m) : -1 ≤ t.cnt m ∧ t.cnt m ≤ m := by
  have := Ty.cnt_size t m h
  by_cases hm : (t.size : Int) ≤ m
  · rw [this.1 hm]; omega
  · rw [this.2 (by omega)]; omega
/-- What is left of the list behind j rounds gives the same. -/
theorem Ty.cnts_drop {ts : List Ty} {j : Nat} {t : Ty} (h : ts[j]? = some t) (m : Int) (hm : 0 ≤ m) : Ty.cnts (ts.drop j) m = Ty.cnts (ts.drop (j + 1)) (t.cnt m) := by
  have hj := (List.getElem?_eq_some_iff.1 h).1
  have e : ts.drop j = t :: ts.drop (j + 1) := by rw [List.drop_eq_getElem_cons hj]; congr 1; exact (List.getElem?_eq_some_iff.1 h).2
  rw [e, Ty.cnts, if_pos hm]

set_option maxHeartbeats 1000000 in
theorem rcount_step (B : Nat → Prop) (k p s : Int) (n : ByteArray) (lv kv : Value) (ts : List Ty) (m : Int) (hm0 : 0 ≤ m) (hm1 : m ≤ 1000000)
    (ih : ∀ t ∈ ts, ∀ (m : Int), 0 ≤ m → m ≤ 1000000 → ∀ (v : Value) (w : World), Low B w → TyVal B w v t → Calls Tryz.prog 37 #[v, .int .i64 m] w fun e w' => e = .returned (.int .i64 (t.cnt m)) ∧ Below w.heap.size w w')
    (w : World) (hB : Low B w) (hk : TySl B w kv ts) :
    Calls Tryz.prog 37 #[.agg #[.int .i64 k, .int .i64 p, .string n, .int .i64 s, lv, kv], .int .i64 m] w fun e w' => e = .returned (.int .i64 (Ty.cnts ts (m - 1))) ∧ Below w.heap.size w w' := by
  obtain ⟨pa, len, c, rfl, hlen, hm, hget⟩ := hk.open
  have HG := Lib.hid hget
  clear hget hk
  go_enter Tryz.func37, Tryz.ntmps37
  go_wp2_with fail
  go_loopw [1, 5] (fun a i wr => ∃ (j : Nat) (q : Int), i = .int .i64 j ∧ j ≤ len ∧ a = .int .i64 q ∧ -1 ≤ q ∧ q ≤ 1000000 ∧ Hid (Ty.cnts (ts.drop j) q = Ty.cnts ts (m - 1)) ∧ Below (w.heap.size + 1) (w.alloc (.cells #[.int .i64 k, .int .i64 p, .string n, .int .i64 s, lv, .slice pa len c] 25)) wr) (fun _ i _ => len - (intOf i).toNat)
  case atStart => exact ⟨0, _, rfl, by omega, rfl, by omega, by omega, Lib.hid rfl, Below.refl _ _⟩
  case round =>
    obtain ⟨j, q, rfl, hj, rfl, hq0, hq1, HQ, hb⟩ := hrel
    have c5 := blk_cell hb 5 rfl
    have hw := blk_below hb
    by_cases hlt : j < len
    · by_cases hq : 0 ≤ q
      · obtain ⟨t, ht⟩ : ∃ t, ts[j]? = some t := ⟨_, List.getElem?_eq_getElem (by rw [← hlen.out]; exact hlt)⟩
        obtain ⟨kb, ko, rfl, hkb, hty⟩ := HG.out j t ht
        obtain ⟨lv', kv', ⟨d0, d1, d2, d3, d4, d5⟩, hval⟩ := (hty.keep (hw.keeps'.mono hB)).load
        have IH := Lib.hid (ih t (List.mem_of_getElem? ht) q hq hq1 _ wr (hB.le hw.size) hval)
        have HT := Lib.hid ((Ty.cnts_drop ht q hq).symm.trans HQ.out)
        have hr := t.cnt_range q hq
        clear ht
        go_wp2_with (go_at_call 37; refine IH.out.mono ?_; rintro e w1 ⟨rfl, hb1⟩)
        go_roundw
        case rel => exact ⟨j + 1, _, by go_num, by omega, rfl, hr.1, by omega, HT, hb.trans (hb1.mono (by have := hb.size; simpa using this))⟩
        case measure => simp [intOf]; omega
      · have hq' : decide (0 ≤ q) = false := by simpa using hq
        go_wp2_with fail
        go_ret
        exact ⟨ret_int (by rw [← HQ.out, Ty.cnts_neg _ _ (by omega)]), hw⟩
    · obtain rfl : j = len := by omega
      go_wp2_with fail
      go_ret
      exact ⟨ret_int (by rw [← HQ.out, List.drop_of_length_le (by rw [hlen.out]; exact Nat.le_refl _)]; simp [Ty.cnts]), hw⟩

theorem rcount_any (B : Nat → Prop) : ∀ (t : Ty) (m : Int), 0 ≤ m → m ≤ 1000000 → ∀ (v : Value) (w : World), Low B w → TyVal B w v t → Calls Tryz.prog 37 #[v, .int .i64 m] w fun e w' => e = .returned (.int .i64 (t.cnt m)) ∧ Below w.heap.size w w' := by
  refine Ty.ind ?_
  intro k p n s ls ts ih m h0 h1 v w hB hv
  obtain ⟨lv, kv, rfl, _, _, hk⟩ := hv
  rw [Ty.cnt_eq]
  exact rcount_step B k p s n lv kv ts m h0 h1 ih w hB hk

/-! ### Few -/
def Ty.few (t : Ty) (m : Nat) : Bool := decide (t.size ≤ m) && decide (t.depth ≤ 150)
mutual
theorem Ty.depth_le_size : ∀ t : Ty, t.depth ≤ t.size
  | .mk k p n s ls ts => by rw [Ty.depth_eq, Ty.size_eq]; have := Ty.depths_le_sizes ts; simp only [Ty.ts]; omega
theorem Ty.depths_le_sizes : ∀ ts : List Ty, Ty.depths ts ≤ Ty.sizes ts
  | [] => by simp [Ty.depths]
  | t :: r => by have := Ty.depth_le_size t; have := Ty.depths_le_sizes r; simp only [Ty.depths, Ty.sizes]; omega
end

set_option maxHeartbeats 1000000 in
theorem rfew_any (B : Nat → Prop) (t : Ty) (m : Nat) (hm : m ≤ 1000000) (v : Value) (w : World) (hB : Low B w) (hv : TyVal B w v t) :
    Calls Tryz.prog 21 #[v, .int .i64 m] w fun e w' => e = .returned (.bool (t.few m)) ∧ Below w.heap.size w w' := by
  have hv1 := hv
  obtain ⟨lv, kv, rfl, _⟩ := hv1
  have hv2 : TyVal B (w.alloc (.cells #[.int .i64 t.k, .int .i64 t.p, .string t.n, .int .i64 t.s, lv, kv] 25)) _ t := hv.to hB (blkBelow w _ _)
  have H1 := Lib.hid (rcount_any B t m (by omega) (by omega) _ _ (hB.le (by simp)) hv2)
  have hc := t.cnt_size m (by omega)
  have HV := Lib.hid hv2
  clear hv hv2
  by_cases hs : t.size ≤ m
  · have hd := Ty.depth_le_size t
    have e1 : t.cnt m = ((m - t.size : Nat) : Int) := by rw [hc.1 (by omega)]; omega
    rw [e1] at H1
    clear e1 hc
    have h0 : (0 : Int) ≤ ((m - t.size : Nat) : Int) := by omega
    obtain ⟨q, hq⟩ : ∃ q, m - t.size = q := ⟨_, rfl⟩
    rw [hq] at H1 h0
    clear hq
    by_cases hdd : t.depth ≤ 150
    all_goals
      have hr : t.few m = decide (t.depth ≤ 150) := by simp [Ty.few, hs]
      have HR := Lib.hid hr
      clear hr
      go_enter Tryz.func21, Tryz.ntmps21
      go_wp2_with (first | (go_at_call 37; refine H1.out.mono ?_; rintro e w1 ⟨rfl, hb1⟩; obtain ⟨hcl, hfz⟩ := bcell hb1) | (go_at_call 38; refine (rdepth_any B t (by omega) _ _ (hB.le (by have := hb1.size; simp at this; omega)) (HV.out.to (fun k hk => by have := hB k hk; simp; omega) hb1)).mono ?_; rintro e w2 ⟨rfl, hb2⟩))
      go_ret
      exact ⟨ret_bool (by rw [HR.out]; simp; try omega), below_seq (blkBelow w _ _) (below_seq hb1 hb2)⟩
  · have hr : t.few m = false := by simp [Ty.few, hs]
    rw [hc.2 (by omega)] at H1
    have HR := Lib.hid hr
    clear hr hc
    go_enter Tryz.func21, Tryz.ntmps21
    go_wp2_with (go_at_call 37; refine H1.out.mono ?_; rintro e w1 ⟨rfl, hb1⟩; obtain ⟨hcl, hfz⟩ := bcell hb1)
    go_ret
    exact ⟨ret_bool (by rw [HR.out]), below_seq (blkBelow w _ _) hb1⟩

/-! ### Session, action -/
def Ty.sess (t : Ty) : Bool := t.k != 1 && t.k != 2

set_option maxHeartbeats 400000 in
theorem rsession_any (k p s : Int) (n : ByteArray) (lv kv : Value) (w : World) :
    Calls Tryz.prog 59 #[.agg #[.int .i64 k, .int .i64 p, .string n, .int .i64 s, lv, kv]] w fun e w' => e = .returned (.bool (k != 1 && k != 2)) ∧ Below w.heap.size w w' := by
  by_cases h1 : k = 1
  · subst h1
    go_enter Tryz.func59, Tryz.ntmps59
    go_wp2_with fail
    go_ret
    exact ⟨rfl, blkBelow w _ _⟩
  · have h2 : (k != 1) = true := by simpa using h1
    go_enter Tryz.func59, Tryz.ntmps59
    go_wp2_with fail
    go_ret
    exact ⟨ret_bool (by rw [h2, Bool.true_and]), blkBelow w _ _⟩

def actB (k : Int) : Bool := decide (4 ≤ k) && decide (k ≤ 7)
end Go.Proofs.YtjmnaibbljakaaaGreatDoor
