/- Types: the reference's depth, count and Few; both Sessions. (and what follows from it) -/
import Derived.Test.YtliijbcgkkiekaaDoorPb1
import Derived.Lib.Strings
import Derived.StillTailTactics

/- Types: the reference's depth, count and Few; both Sessions. -/
namespace Go.Proofs.YtliijbcgkkiekaaDoor
open Go.RowKit

set_option maxHeartbeats 1000000 in
theorem rdepth_step (B : Nat → Prop) (k p s : Int) (n : ByteArray) (lv kv : Value) (ts : List Ty) (hts : Ty.depths ts ≤ 1000000)
    (ih : ∀ t ∈ ts, ∀ (v : Value) (w : World), Low B w → TyVal B w v t → Calls Tryd.prog 17 #[v] w fun e w' => e = .returned (.int .i64 t.depth) ∧ Below w.heap.size w w')
    (w : World) (hB : Low B w) (hk : TySl B w kv ts) :
    Calls Tryd.prog 17 #[.agg #[.int .i64 k, .int .i64 p, .string n, .int .i64 s, lv, kv]] w fun e w' => e = .returned (.int .i64 ((Ty.depths ts + 1 : Nat) : Int)) ∧ Below w.heap.size w w' := by
  obtain ⟨pa, len, c, rfl, hlen, hm, hget⟩ := hk.open
  have HG := Lib.hid hget
  clear hget hk
  go_enter Tryd.func17, Tryd.ntmps17
  go_wp2_with fail
  go_loopw [3, 4] (fun a i wr => ∃ j : Nat, i = .int .i64 j ∧ j ≤ len ∧ a = .int .i64 ((Ty.depths (ts.take j) : Nat) : Int) ∧ Below (w.heap.size + 1) (w.alloc (.cells #[.int .i64 k, .int .i64 p, .string n, .int .i64 s, lv, .slice pa len c] 25)) wr) (fun _ i _ => len - (intOf i).toNat)
  case atStart => exact ⟨0, rfl, by omega, by simp [Ty.depths], Below.refl _ _⟩
  case round =>
    obtain ⟨j, rfl, hj, rfl, hb⟩ := hrel
    have c5 := blk_cell hb 5 rfl
    have hw := blk_below hb
    by_cases hlt : j < len
    · obtain ⟨t, ht⟩ : ∃ t, ts[j]? = some t := ⟨_, List.getElem?_eq_getElem (by rw [← hlen.out]; exact hlt)⟩
      obtain ⟨kb, ko, rfl, hkb, hty⟩ := HG.out j t ht
      obtain ⟨lv', kv', ⟨d0, d1, d2, d3, d4, d5⟩, hval⟩ := (hty.keep (hw.keeps'.mono hB)).load
      have hsz := Ty.depths_take ht
      have hle := Ty.depths_take_le ts (j + 1)
      have IH := Lib.hid (ih t (List.mem_of_getElem? ht) _ wr (hB.le hw.size) hval)
      obtain ⟨a0, ha0⟩ : ∃ a0, Ty.depths (ts.take j) = a0 := ⟨_, rfl⟩
      have HA := Lib.hid hsz
      have ha1 : max a0 t.depth ≤ 1000000 := by omega
      have HA0 := Lib.hid ha0
      rw [ha0]
      clear hsz ha0 ht
      go_wp2_with (go_at_call 17; refine IH.out.mono ?_; rintro e w1 ⟨rfl, hb1⟩)
      go_roundw
      case rel => exact ⟨j + 1, by go_num, by omega, ret_val (by rw [HA.out]; have := HA0.out; omega), hb.trans (hb1.mono (by have := hb.size; simpa using this))⟩
      case measure => simp [intOf]; omega
    · obtain rfl : j = len := by omega
      have hle := Ty.depths_take_le ts j
      go_wp2_with fail
      go_ret
      exact ⟨ret_int (by rw [List.take_of_length_le (by rw [hlen.out]; exact Nat.le_refl _)]; omega), hw⟩

theorem rdepth_any (B : Nat → Prop) : ∀ (t : Ty), t.depth ≤ 1000000 → ∀ (v : Value) (w : World), Low B w → TyVal B w v t → Calls Tryd.prog 17 #[v] w fun e w' => e = .returned (.int .i64 t.depth) ∧ Below w.heap.size w w' := by
  refine Ty.ind ?_
  intro k p n s ls ts ih hsz v w hB hv
  obtain ⟨lv, kv, rfl, _, _, hk⟩ := hv
  have h1 : Ty.depths ts ≤ 1000000 := by rw [Ty.depth_eq] at hsz; simp only [Ty.ts] at hsz; omega
  have := rdepth_step B k p s n lv kv ts h1 (fun t ht => ih t ht (Nat.le_trans (Ty.depth_mem ht) h1)) w hB hk
  rw [Ty.depth_eq]; exact this

/-! ### count -/
mutual
def Ty.cnt : Ty → Int → Int
  | .mk _ _ _ _ _ ts, m => Ty.cnts ts (m - 1)
def Ty.cnts : List Ty → Int → Int
  | [], m => m
  | t :: r, m => if 0 ≤ m then Ty.cnts r (t.cnt m) else m
end
theorem Ty.cnt_eq (t : Ty) (m : Int) : t.cnt m = Ty.cnts t.ts (m - 1) := by cases t; simp [Ty.cnt, Ty.ts]
theorem Ty.cnts_neg (ts : List Ty) (m : Int) (h : ¬ 0 ≤ m) : Ty.cnts ts m = m := by cases ts <;> simp [Ty.cnts, h]
mutual
theorem Ty.cnt_size : ∀ (t : Ty) (m : Int), 0 ≤ m → (t.size ≤ m → t.cnt m = m - t.size) ∧ (m < t.size → t.cnt m = -1)
  | .mk k p n s ls ts, m, h => by
    rw [Ty.cnt_eq, Ty.size_eq]; simp only [Ty.ts]
    by_cases h0 : m = 0
    · subst h0
      rw [Ty.cnts_neg _ _ (by omega)]
      exact ⟨fun h => by omega, fun _ => by omega⟩
    · have := Ty.cnts_size ts (m - 1) (by omega)
      exact ⟨fun h => by rw [this.1 (by omega)]; omega, fun h => this.2 (by omega)⟩
theorem Ty.cnts_size : ∀ (ts : List Ty) (m : Int), 0 ≤ m → (Ty.sizes ts ≤ m → Ty.cnts ts m = m - Ty.sizes ts) ∧ (m < Ty.sizes ts → Ty.cnts ts m = -1)
  | [], m, _ => by simp only [Ty.cnts, Ty.sizes]; exact ⟨fun _ => by omega, fun h => by omega⟩
  | t :: r, m, h => by
    simp only [Ty.cnts, Ty.sizes, if_pos h]
    have h1 := Ty.cnt_size t m h
    by_cases hm : (t.size : Int) ≤ m
    · rw [h1.1 hm]
      have h2 := Ty.cnts_size r (m - t.size) (by omega)
      exact ⟨fun h => by rw [h2.1 (by omega)]; omega, fun h => h2.2 (by omega)⟩
    · rw [h1.2 (by omega), Ty.cnts_neg _ _ (by omega)]
      exact ⟨fun h => by omega, fun _ => rfl⟩
end
theorem Ty.cnt_range (t : Ty) (m : Int) (h : 0 ≤ m) : -1 ≤ t.cnt m ∧ t.cnt m ≤ m := by
  have := Ty.cnt_size t m h
  by_cases hm : (t.size : Int) ≤ m
  · rw [this.1 hm]; omega
  · rw [this.2 (by omega)]; omega
/-- What is left of the list behind j rounds gives the same. -/
theorem Ty.cnts_drop {ts : List Ty} {j : Nat} {t : Ty} (h : ts[j]? = some t) (m : Int) (hm : 0 ≤ m) : Ty.cnts (ts.drop j) m = Ty.cnts (ts.drop (j + 1)) (t.cnt m) := by
  have hj := (List.getElem?_eq_some_iff.1 h).1
  have e : ts.drop j = t :: ts.drop (j + 1) := by rw [List.drop_eq_getElem_cons hj]; congr 1; exact (List.getElem?_eq_some_iff.1 h).2
  rw [e, Ty.cnts, if_pos hm]

set_option maxHeartbeats 1000000 in
theorem rcount_step (B : Nat → Prop) (k p s : Int) (n : ByteArray) (lv kv : Value) (ts : List Ty) (m : Int) (hm0 : 0 ≤ m) (hm1 : m ≤ 1000000)
    (ih : ∀ t ∈ ts, ∀ (m : Int), 0 ≤ m → m ≤ 1000000 → ∀ (v : Value) (w : World), Low B w → TyVal B w v t → Calls Tryd.prog 47 #[v, .int .i64 m] w fun e w' => e = .returned (.int .i64 (t.cnt m)) ∧ Below w.heap.size w w')
    (w : World) (hB : Low B w) (hk : TySl B w kv ts) :
    Calls Tryd.prog 47 #[.agg #[.int .i64 k, .int .i64 p, .string n, .int .i64 s, lv, kv], .int .i64 m] w fun e w' => e = .returned (.int .i64 (Ty.cnts ts (m - 1))) ∧ Below w.heap.size w w' := by
  obtain ⟨pa, len, c, rfl, hlen, hm, hget⟩ := hk.open
  have HG := Lib.hid hget
  clear hget hk
  go_enter Tryd.func47, Tryd.ntmps47
  go_wp2_with fail
  go_loopw [1, 5] (fun a i wr => ∃ (j : Nat) (q : Int), i = .int .i64 j ∧ j ≤ len ∧ a = .int .i64 q ∧ -1 ≤ q ∧ q ≤ 1000000 ∧ Hid (Ty.cnts (ts.drop j) q = Ty.cnts ts (m - 1)) ∧ Below (w.heap.size + 1) (w.alloc (.cells #[.int .i64 k, .int .i64 p, .string n, .int .i64 s, lv, .slice pa len c] 25)) wr) (fun _ i _ => len - (intOf i).toNat)
  case atStart => exact ⟨0, _, rfl, by omega, rfl, by omega, by omega, Lib.hid rfl, Below.refl _ _⟩
  case round =>
    obtain ⟨j, q, rfl, hj, rfl, hq0, hq1, HQ, hb⟩ := hrel
    have c5 := blk_cell hb 5 rfl
    have hw := blk_below hb
    by_cases hlt : j < len
    · by_cases hq : 0 ≤ q
      · obtain ⟨t, ht⟩ : ∃ t, ts[j]? = some t := ⟨_, List.getElem?_eq_getElem (by rw [← hlen.out]; exact hlt)⟩
        obtain ⟨kb, ko, rfl, hkb, hty⟩ := HG.out j t ht
        obtain ⟨lv', kv', ⟨d0, d1, d2, d3, d4, d5⟩, hval⟩ := (hty.keep (hw.keeps'.mono hB)).load
        have IH := Lib.hid (ih t (List.mem_of_getElem? ht) q hq hq1 _ wr (hB.le hw.size) hval)
        have HT := Lib.hid ((Ty.cnts_drop ht q hq).symm.trans HQ.out)
        have hr := t.cnt_range q hq
        clear ht
        go_wp2_with (go_at_call 47; refine IH.out.mono ?_; rintro e w1 ⟨rfl, hb1⟩)
        go_roundw
        case rel => exact ⟨j + 1, _, by go_num, by omega, rfl, hr.1, by omega, HT, hb.trans (hb1.mono (by have := hb.size; simpa using this))⟩
        case measure => simp [intOf]; omega
      · have hq' : decide (0 ≤ q) = false := by simpa using hq
        go_wp2_with fail
        go_ret
        exact ⟨ret_int (by rw [← HQ.out, Ty.cnts_neg _ _ (by omega)]), hw⟩
    · obtain rfl : j = len := by omega
      go_wp2_with fail
      go_ret
      exact ⟨ret_int (by rw [← HQ.out, List.drop_of_length_le (by rw [hlen.out]; exact Nat.le_refl _)]; simp [Ty.cnts]), hw⟩

theorem rcount_any (B : Nat → Prop) : ∀ (t : Ty) (m : Int), 0 ≤ m → m ≤ 1000000 → ∀ (v : Value) (w : World), Low B w → TyVal B w v t → Calls Tryd.prog 47 #[v, .int .i64 m] w fun e w' => e = .returned (.int .i64 (t.cnt m)) ∧ Below w.heap.size w w' := by
  refine Ty.ind ?_
  intro k p n s ls ts ih m h0 h1 v w hB hv
  obtain ⟨lv, kv, rfl, _, _, hk⟩ := hv
  rw [Ty.cnt_eq]
  exact rcount_step B k p s n lv kv ts m h0 h1 ih w hB hk

/-! ### Few -/
def Ty.few (t : Ty) (m : Nat) : Bool := decide (t.size ≤ m) && decide (t.depth ≤ 150)
mutual
theorem Ty.depth_le_size : ∀ t : Ty, t.depth ≤ t.size
  | .mk k p n s ls ts => by rw [Ty.depth_eq, Ty.size_eq]; have := Ty.depths_le_sizes ts; simp only [Ty.ts]; omega
theorem Ty.depths_le_sizes : ∀ ts : List Ty, Ty.depths ts ≤ Ty.sizes ts
  | [] => by simp [Ty.depths]
  | t :: r => by have := Ty.depth_le_size t; have := Ty.depths_le_sizes r; simp only [Ty.depths, Ty.sizes]; omega
end

set_option maxHeartbeats 1000000 in
theorem rfew_any (B : Nat → Prop) (t : Ty) (m : Nat) (hm : m ≤ 1000000) (v : Value) (w : World) (hB : Low B w) (hv : TyVal B w v t) :
    Calls Tryd.prog 11 #[v, .int .i64 m] w fun e w' => e = .returned (.bool (t.few m)) ∧ Below w.heap.size w w' := by
  have hv1 := hv
  obtain ⟨lv, kv, rfl, _⟩ := hv1
  have hv2 : TyVal B (w.alloc (.cells #[.int .i64 t.k, .int .i64 t.p, .string t.n, .int .i64 t.s, lv, kv] 25)) _ t := hv.to hB (blkBelow w _ _)
  have H1 := Lib.hid (rcount_any B t m (by omega) (by omega) _ _ (hB.le (by simp)) hv2)
  have hc := t.cnt_size m (by omega)
  have HV := Lib.hid hv2
  clear hv hv2
  by_cases hs : t.size ≤ m
  · have hd := Ty.depth_le_size t
    have e1 : t.cnt m = ((m - t.size : Nat) : Int) := by rw [hc.1 (by omega)]; omega
    rw [e1] at H1
    clear e1 hc
    have h0 : (0 : Int) ≤ ((m - t.size : Nat) : Int) := by omega
    obtain ⟨q, hq⟩ : ∃ q, m - t.size = q := ⟨_, rfl⟩
    rw [hq] at H1 h0
    clear hq
    by_cases hdd : t.depth ≤ 150
    all_goals
      have hr : t.few m = decide (t.depth ≤ 150) := by simp [Ty.few, hs]
      have HR := Lib.hid hr
      clear hr
      go_enter Tryd.func11, Tryd.ntmps11
      go_wp2_with (first | (go_at_call 47; refine H1.out.mono ?_; rintro e w1 ⟨rfl, hb1⟩; obtain ⟨hcl, hfz⟩ := bcell hb1) | (go_at_call 17; refine (rdepth_any B t (by omega) _ _ (hB.le (by have := hb1.size; simp at this; omega)) (HV.out.to (fun k hk => by have := hB k hk; simp; omega) hb1)).mono ?_; rintro e w2 ⟨rfl, hb2⟩))
      go_ret
      exact ⟨ret_bool (by rw [HR.out]; simp; try omega), below_seq (blkBelow w _ _) (below_seq hb1 hb2)⟩
  · have hr : t.few m = false := by simp [Ty.few, hs]
    rw [hc.2 (by omega)] at H1
    have HR := Lib.hid hr
    clear hr hc
    go_enter Tryd.func11, Tryd.ntmps11
    go_wp2_with (go_at_call 47; refine H1.out.mono ?_; rintro e w1 ⟨rfl, hb1⟩; obtain ⟨hcl, hfz⟩ := bcell hb1)
    go_ret
    exact ⟨ret_bool (by rw [HR.out]), below_seq (blkBelow w _ _) hb1⟩

/-! ### Session, action -/
def Ty.sess (t : Ty) : Bool := t.k != 1 && t.k != 2

set_option maxHeartbeats 400000 in
theorem tsession_any (k p s : Int) (n : ByteArray) (lv kv : Value) (w : World) :
    Calls Tryd.prog 20 #[.agg #[.int .i64 k, .int .i64 p, .string n, .int .i64 s, lv, kv]] w fun e w' => e = .returned (.bool (k != 1 && k != 2)) ∧ Below w.heap.size w w' := by
  by_cases h1 : k = 1
  · subst h1
    go_enter Tryd.func20, Tryd.ntmps20
    go_wp2_with fail
    go_ret
    exact ⟨rfl, blkBelow w _ _⟩
  · have h2 : (k != 1) = true := by simpa using h1
    go_enter Tryd.func20, Tryd.ntmps20
    go_wp2_with fail
    go_ret
    exact ⟨ret_bool (by rw [h2, Bool.true_and]), blkBelow w _ _⟩
set_option maxHeartbeats 400000 in
theorem rsession_any (k p s : Int) (n : ByteArray) (lv kv : Value) (w : World) :
    Calls Tryd.prog 21 #[.agg #[.int .i64 k, .int .i64 p, .string n, .int .i64 s, lv, kv]] w fun e w' => e = .returned (.bool (k != 1 && k != 2)) ∧ Below w.heap.size w w' := by
  by_cases h1 : k = 1
  · subst h1
    go_enter Tryd.func21, Tryd.ntmps21
    go_wp2_with fail
    go_ret
    exact ⟨rfl, blkBelow w _ _⟩
  · have h2 : (k != 1) = true := by simpa using h1
    go_enter Tryd.func21, Tryd.ntmps21
    go_wp2_with fail
    go_ret
    exact ⟨ret_bool (by rw [h2, Bool.true_and]), blkBelow w _ _⟩

def actB (k : Int) : Bool := decide (4 ≤ k) && decide (k ≤ 7)
set_option maxHeartbeats 400000 in
theorem action_any (k : Int) (w : World) :
    Calls Tryd.prog 80 #[.int .i64 k] w fun e w' => e = .returned (.bool (actB k)) ∧ w = w' := by
  go_enter Tryd.func80, Tryd.ntmps80
  go_wp2
  all_goals (go_ret; refine ⟨ret_bool ?_, rfl⟩; unfold actB; rw [Bool.eq_iff_iff]; simp; try simp only [beq_iff_eq, beq_eq_false_iff_ne, ne_eq] at *; omega)

end Go.Proofs.YtliijbcgkkiekaaDoor

/- Types: sameness, by the reference. -/
namespace Go.Proofs.YtliijbcgkkiekaaDoor
open Go.RowKit

theorem str_ne {s s' : ByteArray} (h : s ≠ s') : (s.toList != s'.toList) = true := by
  simp only [bne_iff_ne, ne_eq]
  intro e
  apply h
  rw [Lib.toList_data, Lib.toList_data] at e
  obtain ⟨⟨a⟩⟩ := s
  obtain ⟨⟨b⟩⟩ := s'
  simp at e
  rw [e]

set_option maxHeartbeats 1000000 in
/-- Lists of texts, compared by the reference. -/
theorem rtexts_any (B : Nat → Prop) (v v' : Value) (ls ls' : List ByteArray) (w : World) (h : StrSl B w v ls) (h' : StrSl B w v' ls') :
    Calls Tryd.prog 56 #[v, v'] w fun e w' => e = .returned (.bool (decide (ls = ls'))) ∧ Drew w w' := by
  obtain ⟨pa, len, c, rfl, hlen, hm, hget⟩ := h.open
  obtain ⟨pa', len', c', rfl, hlen', hm', hget'⟩ := h'.open
  have HG := Lib.hid hget
  have HG' := Lib.hid hget'
  clear hget hget' h h'
  by_cases hl : len = len'
  · subst hl
    go_enter Tryd.func56, Tryd.ntmps56
    go_wp2_with fail
    go_loopw [5] (fun i wr => ∃ (j : Nat), i = .int .i64 j ∧ j ≤ len ∧ Hid (ls.take j = ls'.take j) ∧ Drew w wr) (fun i _ => len - (intOf i).toNat)
    case atStart => exact ⟨0, rfl, by omega, Lib.hid (by simp), Drew.refl _⟩
    case round =>
      obtain ⟨j, rfl, hj, HT, hd⟩ := hrel
      by_cases hlt : j < len
      · obtain ⟨s, hs⟩ : ∃ s, ls[j]? = some s := ⟨_, List.getElem?_eq_getElem (by rw [← hlen.out]; exact hlt)⟩
        obtain ⟨s', hs'⟩ : ∃ s', ls'[j]? = some s' := ⟨_, List.getElem?_eq_getElem (by rw [← hlen'.out]; exact hlt)⟩
        obtain ⟨_, kb, ko, rfl, hkb, hc⟩ := HG.out j s hs
        obtain ⟨_, kb', ko', rfl, hkb', hc'⟩ := HG'.out j s' hs'
        replace hc : wr.cell? ⟨kb, ko + j, none⟩ = some (.string s) := by obtain ⟨m, rfl⟩ := hd; exact hc
        replace hc' : wr.cell? ⟨kb', ko' + j, none⟩ = some (.string s') := by obtain ⟨m, rfl⟩ := hd; exact hc'
        by_cases hss : s = s'
        · subst hss
          have hn : Hid (ls.take (j + 1) = ls'.take (j + 1)) := Lib.hid (by rw [take_snoc_get hs, take_snoc_get hs', HT.out])
          clear hs hs'
          go_wp2_with fail
          go_quiet (fail)
          go_wp2_with fail
          go_roundw
          case rel => exact ⟨j + 1, by go_num, by omega, hn, hd.more _⟩
          case measure => simp [intOf]; omega
        · have hne : Hid (ls ≠ ls') := Lib.hid (fun e => hss (by rw [e, hs'] at hs; exact (Option.some.inj hs).symm))
          have hb1 := str_ne hss
          have hb2 : (s.toList == s'.toList) = false := by simpa using hb1
          clear hs hs' hss
          go_wp2_with fail
          go_quiet (fail)
          go_wp2_with fail
          go_ret
          exact ⟨ret_bool (by simp [hne.out]), hd.more _⟩
      · obtain rfl : j = len := by omega
        go_wp2_with fail
        go_ret
        refine ⟨ret_bool ?_, hd⟩
        have := HT.out
        rw [List.take_of_length_le (by rw [hlen.out]; exact Nat.le_refl _), List.take_of_length_le (by rw [hlen'.out]; exact Nat.le_refl _)] at this
        simp [this]
  · have hl' : (len != len') = true := by simpa using hl
    have hne : ls ≠ ls' := fun e => hl (by rw [hlen.out, hlen'.out, e])
    have HN := Lib.hid hne
    clear hne
    go_enter Tryd.func56, Tryd.ntmps56
    go_wp2_with fail
    go_ret
    exact ⟨ret_bool (by simp [HN.out]), Drew.refl _⟩

/-- Are two types the same? -/
noncomputable def eqB (t u : Ty) : Bool := @decide (t = u) (Classical.propDecidable _)
theorem eqB_true {t u : Ty} : eqB t u = true ↔ t = u := by unfold eqB; simp
theorem eqB_self (t : Ty) : eqB t t = true := eqB_true.2 rfl
theorem eqB_ne {t u : Ty} (h : t ≠ u) : eqB t u = false := by
  cases e : eqB t u with
  | false => rfl
  | true => exact absurd (eqB_true.1 e) h
theorem eqB_comm (t u : Ty) : eqB t u = eqB u t := by
  by_cases h : t = u
  · rw [h]
  · rw [eqB_ne h, eqB_ne (Ne.symm h)]

/-- The contract of a function that compares types, at one type for the first. -/
def SameAt (f : Nat) (B : Nat → Prop) (t : Ty) : Prop := ∀ (u : Ty) (v v' : Value) (w : World), Low B w → TyVal B w v t → TyVal B w v' u → Calls Tryd.prog f #[v, v'] w fun e w' => e = .returned (.bool (eqB t u)) ∧ Below w.heap.size w w'

abbrev cell6 (k p : Int) (n : ByteArray) (s : Int) (lv kv : Value) : Obj := .cells #[.int .i64 k, .int .i64 p, .string n, .int .i64 s, lv, kv] 25
/-- The world in which both parameters are boxed. -/
abbrev box2 (w : World) (k p : Int) (n : ByteArray) (s : Int) (lv kv : Value) (k' p' : Int) (n' : ByteArray) (s' : Int) (lv' kv' : Value) : World := (w.alloc (cell6 k p n s lv kv)).alloc (cell6 k' p' n' s' lv' kv')
theorem box2_below (w : World) (o o' : Obj) : Below w.heap.size w ((w.alloc o).alloc o') := ((Below.refl _ _).alloc (Nat.le_refl _) _).alloc (by simp) _

set_option maxHeartbeats 2000000 in
set_option maxRecDepth 100000 in
/-- A field parts: the answer is no. -/
theorem rsame_no (k p s k' p' s' : Int) (n n' : ByteArray) (lv kv lv' kv' : Value) (h : ¬ (k = k' ∧ p = p' ∧ n = n' ∧ s = s')) (w : World) :
    Calls Tryd.prog 19 #[.agg #[.int .i64 k, .int .i64 p, .string n, .int .i64 s, lv, kv], .agg #[.int .i64 k', .int .i64 p', .string n', .int .i64 s', lv', kv']] w fun e w' => e = .returned (.bool false) ∧ Below w.heap.size w w' := by
  by_cases h1 : k = k'
  · subst h1
    by_cases h2 : p = p'
    · subst h2
      by_cases h3 : n = n'
      · subst h3
        have h4 : (s != s') = true := by simp; intro e; exact h ⟨rfl, rfl, rfl, e⟩
        clear h
        go_enter Tryd.func19, Tryd.ntmps19
        go_wp2_with fail
        go_ret
        exact ⟨rfl, box2_below _ _ _⟩
      · have h4 := str_ne h3
        have h5 : (n.toList == n'.toList) = false := by simpa using h4
        clear h
        go_enter Tryd.func19, Tryd.ntmps19
        go_wp2_with fail
        go_ret
        exact ⟨rfl, box2_below _ _ _⟩
    · have h4 : (p != p') = true := by simpa using h2
      clear h
      go_enter Tryd.func19, Tryd.ntmps19
      go_wp2_with fail
      go_ret
      exact ⟨rfl, box2_below _ _ _⟩
  · have h4 : (k != k') = true := by simpa using h1
    clear h
    go_enter Tryd.func19, Tryd.ntmps19
    go_wp2_with fail
    go_ret
    exact ⟨rfl, box2_below _ _ _⟩

end Go.Proofs.YtliijbcgkkiekaaDoor

/- Types: sameness, by the reference: where the fields are the same. -/
namespace Go.Proofs.YtliijbcgkkiekaaDoor
open Go.RowKit

theorem lists_eq {α : Type} {l l' : List α} {n : Nat} (h : n = l.length) (h' : n = l'.length) (ht : l.take n = l'.take n) : l = l' := by
  rw [List.take_of_length_le (by omega), List.take_of_length_le (by omega)] at ht; exact ht

theorem box2_fst {w wr : World} {cs cs' : Array Value} {t t' : TypeId} (hb : Below (w.heap.size + 2) ((w.alloc (.cells cs t)).alloc (.cells cs' t')) wr) (j : Nat) {v : Value} (h : cs[j]? = some v) : wr.cell? ⟨w.heap.size, j, none⟩ = some v := by
  refine (hb.cell (p := ⟨w.heap.size, j, none⟩) (by simp)).trans ?_
  rw [(Below.refl _ _ |>.alloc (Nat.le_refl _) (.cells cs' t') : Below (w.alloc (.cells cs t)).heap.size (w.alloc (.cells cs t)) _).cell (by simp)]
  simp [h]
theorem box2_snd {w wr : World} {cs cs' : Array Value} {t t' : TypeId} (hb : Below (w.heap.size + 2) ((w.alloc (.cells cs t)).alloc (.cells cs' t')) wr) (j : Nat) {v : Value} (h : cs'[j]? = some v) : wr.cell? ⟨w.heap.size + 1, j, none⟩ = some v := by
  refine (hb.cell (p := ⟨w.heap.size + 1, j, none⟩) (by simp)).trans ?_
  have := blk_cell (w := w.alloc (.cells cs t)) (cs := cs') (t := t') (Below.refl _ _) j h
  simpa using this
theorem box2_low {w wr : World} {o o' : Obj} (hb : Below (w.heap.size + 2) ((w.alloc o).alloc o') wr) : Below w.heap.size w wr := (box2_below w o o').trans (hb.mono (by omega))

set_option maxHeartbeats 2000000 in
set_option maxRecDepth 100000 in
theorem rsame_kids (B : Nat → Prop) (k p s : Int) (n : ByteArray) (lv lv' kv kv' : Value) (ls ls' : List ByteArray) (ts ts' : List Ty) (ih : ∀ t ∈ ts, SameAt 19 B t) (w : World) (hB : Low B w)
    (hl : StrSl B w lv ls) (hl' : StrSl B w lv' ls') (hk : TySl B w kv ts) (hk' : TySl B w kv' ts') :
    Calls Tryd.prog 19 #[.agg #[.int .i64 k, .int .i64 p, .string n, .int .i64 s, lv, kv], .agg #[.int .i64 k, .int .i64 p, .string n, .int .i64 s, lv', kv']] w
      fun e w' => e = .returned (.bool (eqB (.mk k p n s ls ts) (.mk k p n s ls' ts'))) ∧ Below w.heap.size w w' := by
  obtain ⟨pa, len, c, rfl, hlen, hm, hget⟩ := hk.open
  obtain ⟨pa', len', c', rfl, hlen', hm', hget'⟩ := hk'.open
  have HG := Lib.hid hget
  have HG' := Lib.hid hget'
  have hb0 := box2_below w (cell6 k p n s lv (.slice pa len c)) (cell6 k p n s lv' (.slice pa' len' c'))
  have HT := Lib.hid (rtexts_any B lv lv' ls ls' (box2 w k p n s lv (.slice pa len c) k p n s lv' (.slice pa' len' c')) (hl.keep (hb0.keeps'.mono hB)) (hl'.keep (hb0.keeps'.mono hB)))
  clear hget hget' hk hk' hl hl' hb0
  by_cases he : ls = ls'
  · subst he
    rw [show decide (ls = ls) = true by simp] at HT
    by_cases hz : len = len'
    · subst hz
      go_enter Tryd.func19, Tryd.ntmps19
      go_wp2_with (go_at_call 56; refine HT.out.mono ?_; rintro e w1 ⟨rfl, nq, rfl⟩)
      clear HT
      generalize hW0 : ((box2 w k p n s lv (.slice pa len c) k p n s lv' (.slice pa' len c')).drewN nq) = W0
      have hB0 : Below (w.heap.size + 2) (box2 w k p n s lv (.slice pa len c) k p n s lv' (.slice pa' len c')) W0 := by rw [← hW0]; exact below_drewN (Below.refl _ _) _
      clear hW0
      go_loopw [5] (fun i wr => ∃ (j : Nat), i = .int .i64 j ∧ j ≤ len ∧ Hid (ts.take j = ts'.take j) ∧ Below (w.heap.size + 2) (box2 w k p n s lv (.slice pa len c) k p n s lv' (.slice pa' len c')) wr) (fun i _ => len - (intOf i).toNat)
      case atStart => exact ⟨0, rfl, by omega, Lib.hid (by simp), hB0⟩
      case round =>
        obtain ⟨j, rfl, hj, HT, hb⟩ := hrel
        have c5 := box2_fst hb 5 rfl
        have d5 := box2_snd hb 5 rfl
        have hw := box2_low hb
        by_cases hlt : j < len
        · obtain ⟨t, ht⟩ : ∃ t, ts[j]? = some t := ⟨_, List.getElem?_eq_getElem (by rw [← hlen.out]; exact hlt)⟩
          obtain ⟨t', ht'⟩ : ∃ t', ts'[j]? = some t' := ⟨_, List.getElem?_eq_getElem (by rw [← hlen'.out]; exact hlt)⟩
          obtain ⟨kb, ko, rfl, hkb, hty⟩ := HG.out j t ht
          obtain ⟨kb', ko', rfl, hkb', hty'⟩ := HG'.out j t' ht'
          obtain ⟨lv1, kv1, ⟨a0, a1, a2, a3, a4, a5⟩, hval⟩ := (hty.keep (hw.keeps'.mono hB)).load
          obtain ⟨lv2, kv2, ⟨b0, b1, b2, b3, b4, b5⟩, hval'⟩ := (hty'.keep (hw.keeps'.mono hB)).load
          have IH := Lib.hid (ih t (List.mem_of_getElem? ht) t' _ _ wr.drew (hB.le hw.size) (hval.to (hB.le hw.size) (Below.drew (Below.refl _ _))) (hval'.to (hB.le hw.size) (Below.drew (Below.refl _ _))))
          by_cases htt : t = t'
          · rw [eqB_true.2 htt] at IH
            have hn : Hid (ts.take (j + 1) = ts'.take (j + 1)) := Lib.hid (by rw [take_snoc_get ht, take_snoc_get ht', HT.out, htt])
            clear ht ht' htt hty hty' hval hval'
            go_wp2_with fail
            go_still_tail 10, (by kernel_rfl)
            change wpList _ _ _ _ _ wr.drew
            generalize hw2 : wr.drew = w2 at *
            have hb2 : Below (w.heap.size + 2) (box2 w k p n s lv (.slice (some ⟨kb, ko, none⟩) len c) k p n s lv' (.slice (some ⟨kb', ko', none⟩) len c')) w2 := by rw [← hw2]; exact hb.drew
            clear hw2
            go_wp2_with (go_at_call 19; refine IH.out.mono ?_; rintro e w3 ⟨rfl, hb3⟩)
            go_roundw
            case rel => exact ⟨j + 1, by go_num, by omega, hn, hb2.trans (hb3.mono (by have := hb2.size; simpa using this))⟩
            case measure => simp [intOf]; omega
          · rw [eqB_ne htt] at IH
            have hne : Hid (eqB (.mk k p n s ls ts) (.mk k p n s ls ts') = false) := Lib.hid (eqB_ne (fun e => htt (by cases e; rw [ht] at ht'; exact Option.some.inj ht')))
            clear ht ht' htt hty hty' hval hval'
            go_wp2_with fail
            go_still_tail 10, (by kernel_rfl)
            change wpList _ _ _ _ _ wr.drew
            generalize hw2 : wr.drew = w2 at *
            have hb2 : Below (w.heap.size + 2) (box2 w k p n s lv (.slice (some ⟨kb, ko, none⟩) len c) k p n s lv' (.slice (some ⟨kb', ko', none⟩) len c')) w2 := by rw [← hw2]; exact hb.drew
            clear hw2
            go_wp2_with (go_at_call 19; refine IH.out.mono ?_; rintro e w3 ⟨rfl, hb3⟩)
            go_ret
            exact ⟨ret_bool hne.out.symm, below_seq (box2_low hb2) hb3⟩
        · obtain rfl : j = len := by omega
          have hq : Hid (eqB (.mk k p n s ls ts) (.mk k p n s ls ts') = true) := Lib.hid (eqB_true.2 (by rw [lists_eq hlen.out hlen'.out HT.out]))
          go_wp2_with fail
          go_ret
          exact ⟨ret_bool hq.out.symm, hw⟩
    · have hz' : (len != len') = true := by simpa using hz
      have hne : Hid (eqB (.mk k p n s ls ts) (.mk k p n s ls ts') = false) := Lib.hid (eqB_ne (fun e => hz (by rw [hlen.out, hlen'.out]; cases e; rfl)))
      go_enter Tryd.func19, Tryd.ntmps19
      go_wp2_with (go_at_call 56; refine HT.out.mono ?_; rintro e w1 ⟨rfl, nq, rfl⟩)
      go_ret
      exact ⟨ret_bool hne.out.symm, below_drewN (box2_below _ _ _) _⟩
  · rw [show decide (ls = ls') = false by simpa using he] at HT
    have hne : Hid (eqB (.mk k p n s ls ts) (.mk k p n s ls' ts') = false) := Lib.hid (eqB_ne (fun e => he (by cases e; rfl)))
    clear he
    go_enter Tryd.func19, Tryd.ntmps19
    go_wp2_with (go_at_call 56; refine HT.out.mono ?_; rintro e w1 ⟨rfl, nq, rfl⟩)
    go_ret
    exact ⟨ret_bool hne.out.symm, below_drewN (box2_below _ _ _) _⟩

theorem rsame_any (B : Nat → Prop) : ∀ (t : Ty), SameAt 19 B t := by
  refine Ty.ind ?_
  intro k p n s ls ts ih u v v' w hB hv hv'
  obtain ⟨lv, kv, rfl, _, hl, hk⟩ := hv
  obtain ⟨k', p', n', s', ls', ts'⟩ := u
  obtain ⟨lv', kv', rfl, _, hl', hk'⟩ := hv'
  by_cases h : k = k' ∧ p = p' ∧ n = n' ∧ s = s'
  · obtain ⟨rfl, rfl, rfl, rfl⟩ := h
    exact rsame_kids B _ _ _ _ lv lv' kv kv' ls ls' ts ts' ih w hB hl hl' hk hk'
  · rw [eqB_ne (fun e => h (by cases e; exact ⟨rfl, rfl, rfl, rfl⟩))]
    exact rsame_no _ _ _ _ _ _ _ _ _ _ _ _ h w

end Go.Proofs.YtliijbcgkkiekaaDoor

/- Types: sameness, by the program. -/
namespace Go.Proofs.YtliijbcgkkiekaaDoor
open Go.RowKit

set_option maxHeartbeats 1000000 in
/-- slices.Equal, at lists of texts. -/
theorem tequal_any (B : Nat → Prop) (v v' : Value) (ls ls' : List ByteArray) (w : World) (h : StrSl B w v ls) (h' : StrSl B w v' ls') :
    Calls Tryd.prog 54 #[v, v'] w fun e w' => e = .returned (.bool (decide (ls = ls'))) ∧ Drew w w' := by
  obtain ⟨pa, len, c, rfl, hlen, hm, hget⟩ := h.open
  obtain ⟨pa', len', c', rfl, hlen', hm', hget'⟩ := h'.open
  have HG := Lib.hid hget
  have HG' := Lib.hid hget'
  clear hget hget' h h'
  by_cases hl : len = len'
  · subst hl
    go_enter Tryd.func54, Tryd.ntmps54
    go_wp2_with fail
    go_loopw [13] (fun i wr => ∃ (j : Nat), i = .int .i64 j ∧ j ≤ len ∧ Hid (ls.take j = ls'.take j) ∧ Drew w wr) (fun i _ => len - (intOf i).toNat)
    case atStart => exact ⟨0, rfl, by omega, Lib.hid (by simp), Drew.refl _⟩
    case round =>
      obtain ⟨j, rfl, hj, HT, hd⟩ := hrel
      by_cases hlt : j < len
      · obtain ⟨s, hs⟩ : ∃ s, ls[j]? = some s := ⟨_, List.getElem?_eq_getElem (by rw [← hlen.out]; exact hlt)⟩
        obtain ⟨s', hs'⟩ : ∃ s', ls'[j]? = some s' := ⟨_, List.getElem?_eq_getElem (by rw [← hlen'.out]; exact hlt)⟩
        obtain ⟨_, kb, ko, rfl, hkb, hc⟩ := HG.out j s hs
        replace hc : wr.cell? ⟨kb, ko + j, none⟩ = some (.string s) := by obtain ⟨m, rfl⟩ := hd; exact hc
        obtain ⟨_, kb', ko', rfl, hkb', hc'⟩ := HG'.out j s' hs'
        replace hc' : wr.cell? ⟨kb', ko' + j, none⟩ = some (.string s') := by obtain ⟨m, rfl⟩ := hd; exact hc'
        by_cases hss : s = s'
        · subst hss
          have hn : Hid (ls.take (j + 1) = ls'.take (j + 1)) := Lib.hid (by rw [take_snoc_get hs, take_snoc_get hs', HT.out])
          clear hs hs'
          go_wp2_with fail
          go_quiet (fail)
          go_wp2_with fail
          go_roundw
          case rel => exact ⟨j + 1, by go_num, by omega, hn, hd.more _⟩
          case measure => simp [intOf]; omega
        · have hne : Hid (ls ≠ ls') := Lib.hid (fun e => hss (by rw [e, hs'] at hs; exact (Option.some.inj hs).symm))
          have hb1 := str_ne hss
          have hb2 : (s.toList == s'.toList) = false := by simpa using hb1
          clear hs hs' hss
          go_wp2_with fail
          go_quiet (fail)
          go_wp2_with fail
          go_ret
          exact ⟨ret_bool (by simp [hne.out]), hd.more _⟩
      · obtain rfl : j = len := by omega
        go_wp2_with fail
        go_ret
        refine ⟨ret_bool ?_, hd⟩
        simp [lists_eq hlen.out hlen'.out HT.out]
  · have hl' : (len != len') = true := by simpa using hl
    have hne : ls ≠ ls' := fun e => hl (by rw [hlen.out, hlen'.out, e])
    have HN := Lib.hid hne
    clear hne
    go_enter Tryd.func54, Tryd.ntmps54
    go_wp2_with fail
    go_ret
    exact ⟨ret_bool (by simp [HN.out]), Drew.refl _⟩

noncomputable def eqL (ts ts' : List Ty) : Bool := @decide (ts = ts') (Classical.propDecidable _)
theorem eqL_true {t u : List Ty} : eqL t u = true ↔ t = u := by unfold eqL; simp
theorem eqL_ne {t u : List Ty} (h : t ≠ u) : eqL t u = false := by
  cases e : eqL t u with
  | false => rfl
  | true => exact absurd (eqL_true.1 e) h

set_option maxHeartbeats 2000000 in
set_option maxRecDepth 100000 in
/-- slices.EqualFunc, with Same. -/
theorem tequalf_any (B : Nat → Prop) (kv kv' : Value) (ts ts' : List Ty) (ih : ∀ t ∈ ts, SameAt 18 B t) (w : World) (hB : Low B w) (hk : TySl B w kv ts) (hk' : TySl B w kv' ts') :
    Calls Tryd.prog 55 #[kv, kv', .func (.func 18) #[] #[]] w fun e w' => e = .returned (.bool (eqL ts ts')) ∧ Below w.heap.size w w' := by
  obtain ⟨pa, len, c, rfl, hlen, hm, hget⟩ := hk.open
  obtain ⟨pa', len', c', rfl, hlen', hm', hget'⟩ := hk'.open
  have HG := Lib.hid hget
  have HG' := Lib.hid hget'
  clear hget hget' hk hk'
  by_cases hl : len = len'
  · subst hl
    go_enter Tryd.func55, Tryd.ntmps55
    go_wp2_with fail
    go_loopw [17] (fun i wr => ∃ (j : Nat), i = .int .i64 j ∧ j ≤ len ∧ Hid (ts.take j = ts'.take j) ∧ Below w.heap.size w wr) (fun i _ => len - (intOf i).toNat)
    case atStart => exact ⟨0, rfl, by omega, Lib.hid (by simp), Below.refl _ _⟩
    case round =>
      obtain ⟨j, rfl, hj, HT, hw⟩ := hrel
      by_cases hlt : j < len
      · obtain ⟨t, ht⟩ : ∃ t, ts[j]? = some t := ⟨_, List.getElem?_eq_getElem (by rw [← hlen.out]; exact hlt)⟩
        obtain ⟨t', ht'⟩ : ∃ t', ts'[j]? = some t' := ⟨_, List.getElem?_eq_getElem (by rw [← hlen'.out]; exact hlt)⟩
        obtain ⟨kb, ko, rfl, hkb, hty⟩ := HG.out j t ht
        obtain ⟨kb', ko', rfl, hkb', hty'⟩ := HG'.out j t' ht'
        obtain ⟨la, ln, lc, ka, kn, kc, ⟨a0, a1, a2, a3, a4, a5⟩, hval⟩ := (hty.keep (hw.keeps'.mono hB)).load'
        obtain ⟨la', ln', lc', ka', kn', kc', ⟨b0, b1, b2, b3, b4, b5⟩, hval'⟩ := (hty'.keep (hw.keeps'.mono hB)).load'
        have hbx := box2_below wr (cell6 t.k t.p t.n t.s (.slice la ln lc) (.slice ka kn kc)) (cell6 t'.k t'.p t'.n t'.s (.slice la' ln' lc') (.slice ka' kn' kc'))
        have e0 : (wr.alloc (cell6 t.k t.p t.n t.s (.slice la ln lc) (.slice ka kn kc))).cell? ⟨kb', ko' + j * 6, none⟩ = some (.int .i64 t'.k) := ((blkBelow wr _ _).cell (p := ⟨kb', _, none⟩) (hB.le hw.size _ hkb')).trans b0
        have e1 : (wr.alloc (cell6 t.k t.p t.n t.s (.slice la ln lc) (.slice ka kn kc))).cell? ⟨kb', ko' + j * 6 + 1, none⟩ = some (.int .i64 t'.p) := ((blkBelow wr _ _).cell (p := ⟨kb', _, none⟩) (hB.le hw.size _ hkb')).trans b1
        have e2 : (wr.alloc (cell6 t.k t.p t.n t.s (.slice la ln lc) (.slice ka kn kc))).cell? ⟨kb', ko' + j * 6 + 2, none⟩ = some (.string t'.n) := ((blkBelow wr _ _).cell (p := ⟨kb', _, none⟩) (hB.le hw.size _ hkb')).trans b2
        have e3 : (wr.alloc (cell6 t.k t.p t.n t.s (.slice la ln lc) (.slice ka kn kc))).cell? ⟨kb', ko' + j * 6 + 3, none⟩ = some (.int .i64 t'.s) := ((blkBelow wr _ _).cell (p := ⟨kb', _, none⟩) (hB.le hw.size _ hkb')).trans b3
        have e4 : (wr.alloc (cell6 t.k t.p t.n t.s (.slice la ln lc) (.slice ka kn kc))).cell? ⟨kb', ko' + j * 6 + 4, none⟩ = some (.slice la' ln' lc') := ((blkBelow wr _ _).cell (p := ⟨kb', _, none⟩) (hB.le hw.size _ hkb')).trans b4
        have e5 : (wr.alloc (cell6 t.k t.p t.n t.s (.slice la ln lc) (.slice ka kn kc))).cell? ⟨kb', ko' + j * 6 + 5, none⟩ = some (.slice ka' kn' kc') := ((blkBelow wr _ _).cell (p := ⟨kb', _, none⟩) (hB.le hw.size _ hkb')).trans b5
        have IH := Lib.hid (ih t (List.mem_of_getElem? ht) t' _ _ _ (hB.le (Nat.le_trans hw.size hbx.size)) (hval.to (hB.le hw.size) hbx) (hval'.to (hB.le hw.size) hbx))
        by_cases htt : t = t'
        · rw [eqB_true.2 htt] at IH
          have hn : Hid (ts.take (j + 1) = ts'.take (j + 1)) := Lib.hid (by rw [take_snoc_get ht, take_snoc_get ht', HT.out, htt])
          clear ht ht' htt hty hty' hval hval' b0 b1 b2 b3 b4 b5
          go_wp2_with (go_at_call 18; refine IH.out.mono ?_; rintro e w3 ⟨rfl, hb3⟩)
          go_roundw
          case rel => exact ⟨j + 1, by go_num, by omega, hn, below_seq hw (below_seq hbx hb3)⟩
          case measure => simp [intOf]; omega
        · rw [eqB_ne htt] at IH
          have hne : Hid (eqL ts ts' = false) := Lib.hid (eqL_ne (fun e => htt (by rw [e] at ht; rw [ht] at ht'; exact Option.some.inj ht')))
          clear ht ht' htt hty hty' hval hval' b0 b1 b2 b3 b4 b5
          go_wp2_with (go_at_call 18; refine IH.out.mono ?_; rintro e w3 ⟨rfl, hb3⟩)
          go_ret
          exact ⟨ret_bool hne.out.symm, below_seq hw (below_seq hbx hb3)⟩
      · obtain rfl : j = len := by omega
        have hq : Hid (eqL ts ts' = true) := Lib.hid (eqL_true.2 (lists_eq hlen.out hlen'.out HT.out))
        go_wp2_with fail
        go_ret
        exact ⟨ret_bool hq.out.symm, hw⟩
  · have hl' : (len != len') = true := by simpa using hl
    have hne : Hid (eqL ts ts' = false) := Lib.hid (eqL_ne (fun e => hl (by rw [hlen.out, hlen'.out, e])))
    go_enter Tryd.func55, Tryd.ntmps55
    go_wp2_with fail
    go_ret
    exact ⟨ret_bool hne.out.symm, Below.refl _ _⟩

end Go.Proofs.YtliijbcgkkiekaaDoor

/- Types: sameness, by the program: the whole. -/
namespace Go.Proofs.YtliijbcgkkiekaaDoor
open Go.RowKit

set_option maxHeartbeats 2000000 in
set_option maxRecDepth 100000 in
/-- A field parts: the answer is no. -/
theorem tsame_no (k p s k' p' s' : Int) (n n' : ByteArray) (lv kv lv' kv' : Value) (h : ¬ (k = k' ∧ p = p' ∧ n = n' ∧ s = s')) (w : World) :
    Calls Tryd.prog 18 #[.agg #[.int .i64 k, .int .i64 p, .string n, .int .i64 s, lv, kv], .agg #[.int .i64 k', .int .i64 p', .string n', .int .i64 s', lv', kv']] w fun e w' => e = .returned (.bool false) ∧ Below w.heap.size w w' := by
  by_cases h1 : k = k'
  · subst h1
    by_cases h2 : p = p'
    · subst h2
      by_cases h3 : n = n'
      · subst h3
        have h4 : (s == s') = false := by simp; intro e; exact h ⟨rfl, rfl, rfl, e⟩
        clear h
        go_enter Tryd.func18, Tryd.ntmps18
        go_wp2_with fail
        go_ret
        exact ⟨rfl, box2_below _ _ _⟩
      · have h4 := str_ne h3
        have h5 : (n.toList == n'.toList) = false := by simpa using h4
        clear h
        go_enter Tryd.func18, Tryd.ntmps18
        go_wp2_with fail
        go_ret
        exact ⟨rfl, box2_below _ _ _⟩
    · have h4 : (p == p') = false := by simpa using h2
      clear h
      go_enter Tryd.func18, Tryd.ntmps18
      go_wp2_with fail
      go_ret
      exact ⟨rfl, box2_below _ _ _⟩
  · have h4 : (k == k') = false := by simpa using h1
    clear h
    go_enter Tryd.func18, Tryd.ntmps18
    go_wp2_with fail
    go_ret
    exact ⟨rfl, box2_below _ _ _⟩

set_option maxHeartbeats 2000000 in
set_option maxRecDepth 100000 in
theorem tsame_kids (B : Nat → Prop) (k p s : Int) (n : ByteArray) (lv lv' kv kv' : Value) (ls ls' : List ByteArray) (ts ts' : List Ty) (ih : ∀ t ∈ ts, SameAt 18 B t) (w : World) (hB : Low B w)
    (hl : StrSl B w lv ls) (hl' : StrSl B w lv' ls') (hk : TySl B w kv ts) (hk' : TySl B w kv' ts') :
    Calls Tryd.prog 18 #[.agg #[.int .i64 k, .int .i64 p, .string n, .int .i64 s, lv, kv], .agg #[.int .i64 k, .int .i64 p, .string n, .int .i64 s, lv', kv']] w
      fun e w' => e = .returned (.bool (eqB (.mk k p n s ls ts) (.mk k p n s ls' ts'))) ∧ Below w.heap.size w w' := by
  have hb0 := box2_below w (cell6 k p n s lv kv) (cell6 k p n s lv' kv')
  have HT := Lib.hid (tequal_any B lv lv' ls ls' (box2 w k p n s lv kv k p n s lv' kv') (hl.keep (hb0.keeps'.mono hB)) (hl'.keep (hb0.keeps'.mono hB)))
  have hE : ∀ nq, Calls Tryd.prog 55 #[kv, kv', .func (.func 18) #[] #[]] ((box2 w k p n s lv kv k p n s lv' kv').drewN nq) fun e w' => e = .returned (.bool (eqL ts ts')) ∧ Below ((box2 w k p n s lv kv k p n s lv' kv').drewN nq).heap.size ((box2 w k p n s lv kv k p n s lv' kv').drewN nq) w' := fun nq =>
    tequalf_any B kv kv' ts ts' ih _ (hB.le hb0.size) (hk.keep ((below_drewN hb0 nq).keeps'.mono hB)) (hk'.keep ((below_drewN hb0 nq).keeps'.mono hB))
  have HE := Lib.hid hE
  clear hE hk hk' hl hl' hb0
  by_cases he : ls = ls'
  · subst he
    rw [show decide (ls = ls) = true by simp] at HT
    have hq : Hid (eqB (.mk k p n s ls ts) (.mk k p n s ls ts') = eqL ts ts') := Lib.hid (by
      by_cases h : ts = ts'
      · rw [h, eqB_self, eqL_true.2 rfl]
      · rw [eqL_ne h, eqB_ne (fun e => h (by cases e; rfl))])
    go_enter Tryd.func18, Tryd.ntmps18
    go_wp2_with (first | (go_at_call 54; refine HT.out.mono ?_; rintro e w1 ⟨rfl, nq, rfl⟩) | (go_at_call 55; refine (HE.out _).mono ?_; rintro e w2 ⟨rfl, hb2⟩))
    go_ret
    exact ⟨ret_bool hq.out.symm, below_seq (below_drewN (box2_below _ _ _) _) hb2⟩
  · rw [show decide (ls = ls') = false by simpa using he] at HT
    have hne : Hid (eqB (.mk k p n s ls ts) (.mk k p n s ls' ts') = false) := Lib.hid (eqB_ne (fun e => he (by cases e; rfl)))
    clear he
    go_enter Tryd.func18, Tryd.ntmps18
    go_wp2_with (go_at_call 54; refine HT.out.mono ?_; rintro e w1 ⟨rfl, nq, rfl⟩)
    go_ret
    exact ⟨ret_bool hne.out.symm, below_drewN (box2_below _ _ _) _⟩

theorem tsame_any (B : Nat → Prop) : ∀ (t : Ty), SameAt 18 B t := by
  refine Ty.ind ?_
  intro k p n s ls ts ih u v v' w hB hv hv'
  obtain ⟨lv, kv, rfl, _, hl, hk⟩ := hv
  obtain ⟨k', p', n', s', ls', ts'⟩ := u
  obtain ⟨lv', kv', rfl, _, hl', hk'⟩ := hv'
  by_cases h : k = k' ∧ p = p' ∧ n = n' ∧ s = s'
  · obtain ⟨rfl, rfl, rfl, rfl⟩ := h
    exact tsame_kids B _ _ _ _ lv lv' kv kv' ls ls' ts ts' ih w hB hl hl' hk hk'
  · rw [eqB_ne (fun e => h (by cases e; exact ⟨rfl, rfl, rfl, rfl⟩))]
    exact tsame_no _ _ _ _ _ _ _ _ _ _ _ _ h w

end Go.Proofs.YtliijbcgkkiekaaDoor
