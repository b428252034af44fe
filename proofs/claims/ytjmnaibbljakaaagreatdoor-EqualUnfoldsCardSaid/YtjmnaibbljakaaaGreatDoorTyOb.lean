/- Types: the reference's shape. -/
import Derived.Test.YtjmnaibbljakaaaGreatDoorTyOa
namespace Go.Proofs.YtjmnaibbljakaaaGreatDoor
open Go.RowKit

def prioB (n : Int) : Bool := decide (0 ≤ n) && decide (n ≤ 1000000)
set_option maxHeartbeats 400000 in
theorem rprio_any (n : Int) (w : World) : Calls Tryz.prog 73 #[.int .i64 n] w fun e w' => e = .returned (.bool (prioB n)) ∧ w = w' := by
  go_enter Tryz.func73, Tryz.ntmps73
  go_wp2
  all_goals (go_ret; refine ⟨ret_bool ?_, rfl⟩; unfold prioB; rw [Bool.eq_iff_iff]; simp; try omega)

/-- Has a node the fields of its kind? -/
def shapeC (k p s : Int) (n : ByteArray) (ls : List ByteArray) (m : Nat) : Bool :=
  if k = 1 ∨ k = 2 ∨ k = 3 then (p == 0) && (n.toList.isEmpty && ((s == 0) && (ls.isEmpty && decide (m = 0))))
  else if k = 4 ∨ k = 5 then prioB p && (n.toList.isEmpty && ((s == 0) && (ls.isEmpty && decide (m = 2))))
  else if k = 6 ∨ k = 7 then prioB p && (n.toList.isEmpty && ((s == 0) && (!ls.isEmpty && (labelsB ls && decide (m = ls.length)))))
  else if k = 8 then (p == 0) && (nameB n && ((s == 0) && (ls.isEmpty && decide (m = 1))))
  else if k = 9 then (p == 0) && (nameB n && (prioB s && (ls.isEmpty && decide (m = 0))))
  else false

set_option maxHeartbeats 2000000 in
set_option maxRecDepth 100000 in
theorem rshape_a (B : Nat → Prop) (k p s : Int) (n : ByteArray) (lv kv : Value) (ls : List ByteArray) (ts : List Ty) (hk : k = 1 ∨ k = 2 ∨ k = 3) (hn : n.size ≤ maxLen) (w : World) (hB : Low B w) (hl : StrSl B w lv ls) (hkv : TySl B w kv ts) :
    Calls Tryz.prog 58 #[.agg #[.int .i64 k, .int .i64 p, .string n, .int .i64 s, lv, kv]] w fun e w' => e = .returned (.bool (shapeC k p s n ls ts.length)) ∧ Below w.heap.size w w' := by
  have hs : shapeC k p s n ls ts.length = ((p == 0) && (n.toList.isEmpty && ((s == 0) && (ls.isEmpty && decide (ts.length = 0))))) := by rw [shapeC, if_pos hk]
  have hns : n.size ≤ 9223372036854775807 := by unfold maxLen at hn; omega
  have hlb : ∀ W, Below w.heap.size w W → Calls Tryz.prog 74 #[lv] W fun e w' => e = .returned (.bool (labelsB ls)) ∧ Below W.heap.size W w' := fun W hW => rlabels_any B lv ls W (hB.le hW.size) (hl.keep (hW.keeps'.mono hB))
  have HLB := Lib.hid hlb
  obtain ⟨pa, len, c, rfl, hlen, hm, hget⟩ := hkv.open
  obtain ⟨la, ln, lc, rfl, hlln, hlm, hlget⟩ := hl.open
  have hls : ls.isEmpty = decide (ln = 0) := by rw [hlln.out]; cases ls <;> simp
  rw [← hlen.out] at hs ⊢
  rw [hls] at hs
  rw [hs]
  clear hs hget hlget hl hkv hls hlb hn
  rcases hk with rfl | rfl | rfl
  all_goals
    go_enter Tryz.func58, Tryz.ntmps58
    go_wp2_with (fail)
    all_goals (go_ret; refine ⟨ret_bool ?_, ?_⟩; rotate_left; (first | exact blkBelow w _ _ | exact below_seq (blkBelow w _ _) (by assumption)); clear HLB; (try simp_all); (try (rw [Bool.eq_iff_iff]; simp)); (try omega))

set_option maxHeartbeats 2000000 in
set_option maxRecDepth 100000 in
theorem rshape_b (B : Nat → Prop) (k p s : Int) (n : ByteArray) (lv kv : Value) (ls : List ByteArray) (ts : List Ty) (hk : k = 4 ∨ k = 5) (hn : n.size ≤ maxLen) (w : World) (hB : Low B w) (hl : StrSl B w lv ls) (hkv : TySl B w kv ts) :
    Calls Tryz.prog 58 #[.agg #[.int .i64 k, .int .i64 p, .string n, .int .i64 s, lv, kv]] w fun e w' => e = .returned (.bool (shapeC k p s n ls ts.length)) ∧ Below w.heap.size w w' := by
  have hs : shapeC k p s n ls ts.length = (prioB p && (n.toList.isEmpty && ((s == 0) && (ls.isEmpty && decide (ts.length = 2))))) := by rw [shapeC, if_neg (by omega), if_pos hk]
  have hns : n.size ≤ 9223372036854775807 := by unfold maxLen at hn; omega
  have hlb : ∀ W, Below w.heap.size w W → Calls Tryz.prog 74 #[lv] W fun e w' => e = .returned (.bool (labelsB ls)) ∧ Below W.heap.size W w' := fun W hW => rlabels_any B lv ls W (hB.le hW.size) (hl.keep (hW.keeps'.mono hB))
  have HLB := Lib.hid hlb
  obtain ⟨pa, len, c, rfl, hlen, hm, hget⟩ := hkv.open
  obtain ⟨la, ln, lc, rfl, hlln, hlm, hlget⟩ := hl.open
  have hls : ls.isEmpty = decide (ln = 0) := by rw [hlln.out]; cases ls <;> simp
  rw [← hlen.out] at hs ⊢
  rw [hls] at hs
  rw [hs]
  clear hs hget hlget hl hkv hls hlb hn
  rcases hk with rfl | rfl
  all_goals
    go_enter Tryz.func58, Tryz.ntmps58
    go_wp2_with ((go_at_call 73; refine (rprio_any _ _).mono ?_; rintro e w1 ⟨rfl, rfl⟩))
    all_goals (go_ret; refine ⟨ret_bool ?_, ?_⟩; rotate_left; (first | exact blkBelow w _ _ | exact below_seq (blkBelow w _ _) (by assumption)); clear HLB; (try simp_all); (try (rw [Bool.eq_iff_iff]; simp)); (try omega))

set_option maxHeartbeats 2000000 in
set_option maxRecDepth 100000 in
theorem rshape_c (B : Nat → Prop) (k p s : Int) (n : ByteArray) (lv kv : Value) (ls : List ByteArray) (ts : List Ty) (hk : k = 6 ∨ k = 7) (hn : n.size ≤ maxLen) (w : World) (hB : Low B w) (hl : StrSl B w lv ls) (hkv : TySl B w kv ts) :
    Calls Tryz.prog 58 #[.agg #[.int .i64 k, .int .i64 p, .string n, .int .i64 s, lv, kv]] w fun e w' => e = .returned (.bool (shapeC k p s n ls ts.length)) ∧ Below w.heap.size w w' := by
  have hs : shapeC k p s n ls ts.length = (prioB p && (n.toList.isEmpty && ((s == 0) && (!ls.isEmpty && (labelsB ls && decide (ts.length = ls.length)))))) := by rw [shapeC, if_neg (by omega), if_neg (by omega), if_pos hk]
  have hns : n.size ≤ 9223372036854775807 := by unfold maxLen at hn; omega
  have hlb : ∀ W, Below w.heap.size w W → Calls Tryz.prog 74 #[lv] W fun e w' => e = .returned (.bool (labelsB ls)) ∧ Below W.heap.size W w' := fun W hW => rlabels_any B lv ls W (hB.le hW.size) (hl.keep (hW.keeps'.mono hB))
  have HLB := Lib.hid hlb
  obtain ⟨pa, len, c, rfl, hlen, hm, hget⟩ := hkv.open
  obtain ⟨la, ln, lc, rfl, hlln, hlm, hlget⟩ := hl.open
  have hls : ls.isEmpty = decide (ln = 0) := by rw [hlln.out]; cases ls <;> simp
  rw [← hlen.out] at hs ⊢
  rw [hls] at hs
  rw [← hlln.out] at hs
  rw [hs]
  clear hs hget hlget hl hkv hls hlb hn
  rcases hk with rfl | rfl
  all_goals
    go_enter Tryz.func58, Tryz.ntmps58
    go_wp2_with (first | (go_at_call 73; refine (rprio_any _ _).mono ?_; rintro e w1 ⟨rfl, rfl⟩) | (go_at_call 74; refine (HLB.out _ (blkBelow w _ _)).mono ?_; rintro e w2 ⟨rfl, hb2⟩; obtain ⟨hcl, hfz⟩ := bcell hb2))
    all_goals (go_ret; refine ⟨ret_bool ?_, ?_⟩; rotate_left; (first | exact blkBelow w _ _ | exact below_seq (blkBelow w _ _) (by assumption)); clear HLB; (try simp_all); (try (rw [Bool.eq_iff_iff]; simp)); (try omega))

set_option maxHeartbeats 2000000 in
set_option maxRecDepth 100000 in
theorem rshape_d (B : Nat → Prop) (k p s : Int) (n : ByteArray) (lv kv : Value) (ls : List ByteArray) (ts : List Ty) (hk : k = 8) (hn : n.size ≤ maxLen) (w : World) (hB : Low B w) (hl : StrSl B w lv ls) (hkv : TySl B w kv ts) :
    Calls Tryz.prog 58 #[.agg #[.int .i64 k, .int .i64 p, .string n, .int .i64 s, lv, kv]] w fun e w' => e = .returned (.bool (shapeC k p s n ls ts.length)) ∧ Below w.heap.size w w' := by
  have hs : shapeC k p s n ls ts.length = ((p == 0) && (nameB n && ((s == 0) && (ls.isEmpty && decide (ts.length = 1))))) := by rw [shapeC, if_neg (by omega), if_neg (by omega), if_neg (by omega), if_pos hk]
  have hns : n.size ≤ 9223372036854775807 := by unfold maxLen at hn; omega
  have hlb : ∀ W, Below w.heap.size w W → Calls Tryz.prog 74 #[lv] W fun e w' => e = .returned (.bool (labelsB ls)) ∧ Below W.heap.size W w' := fun W hW => rlabels_any B lv ls W (hB.le hW.size) (hl.keep (hW.keeps'.mono hB))
  have HLB := Lib.hid hlb
  obtain ⟨pa, len, c, rfl, hlen, hm, hget⟩ := hkv.open
  obtain ⟨la, ln, lc, rfl, hlln, hlm, hlget⟩ := hl.open
  have hls : ls.isEmpty = decide (ln = 0) := by rw [hlln.out]; cases ls <;> simp
  rw [← hlen.out] at hs ⊢
  rw [hls] at hs
  rw [hs]
  clear hs hget hlget hl hkv hls hlb hn
  subst hk
  all_goals
    go_enter Tryz.func58, Tryz.ntmps58
    go_wp2_with ((go_at_call 75; refine (rname_any _ hns _).mono ?_; rintro e w2 ⟨rfl, hb2⟩; obtain ⟨hcl, hfz⟩ := bcell hb2))
    all_goals (go_ret; refine ⟨ret_bool ?_, ?_⟩; rotate_left; (first | exact blkBelow w _ _ | exact below_seq (blkBelow w _ _) (by assumption)); clear HLB; (try simp_all); (try (rw [Bool.eq_iff_iff]; simp)); (try omega))

set_option maxHeartbeats 2000000 in
set_option maxRecDepth 100000 in
theorem rshape_e (B : Nat → Prop) (k p s : Int) (n : ByteArray) (lv kv : Value) (ls : List ByteArray) (ts : List Ty) (hk : k = 9) (hn : n.size ≤ maxLen) (w : World) (hB : Low B w) (hl : StrSl B w lv ls) (hkv : TySl B w kv ts) :
    Calls Tryz.prog 58 #[.agg #[.int .i64 k, .int .i64 p, .string n, .int .i64 s, lv, kv]] w fun e w' => e = .returned (.bool (shapeC k p s n ls ts.length)) ∧ Below w.heap.size w w' := by
  have hs : shapeC k p s n ls ts.length = ((p == 0) && (nameB n && (prioB s && (ls.isEmpty && decide (ts.length = 0))))) := by rw [shapeC, if_neg (by omega), if_neg (by omega), if_neg (by omega), if_neg (by omega), if_pos hk]
  have hns : n.size ≤ 9223372036854775807 := by unfold maxLen at hn; omega
  have hlb : ∀ W, Below w.heap.size w W → Calls Tryz.prog 74 #[lv] W fun e w' => e = .returned (.bool (labelsB ls)) ∧ Below W.heap.size W w' := fun W hW => rlabels_any B lv ls W (hB.le hW.size) (hl.keep (hW.keeps'.mono hB))
  have HLB := Lib.hid hlb
  obtain ⟨pa, len, c, rfl, hlen, hm, hget⟩ := hkv.open
  obtain ⟨la, ln, lc, rfl, hlln, hlm, hlget⟩ := hl.open
  have hls : ls.isEmpty = decide (ln = 0) := by rw [hlln.out]; cases ls <;> simp
  rw [← hlen.out] at hs ⊢
  rw [hls] at hs
  rw [hs]
  clear hs hget hlget hl hkv hls hlb hn
  subst hk
  all_goals
    go_enter Tryz.func58, Tryz.ntmps58
    go_wp2_with (first | (go_at_call 73; refine (rprio_any _ _).mono ?_; rintro e w1 ⟨rfl, rfl⟩) | (go_at_call 75; refine (rname_any _ hns _).mono ?_; rintro e w2 ⟨rfl, hb2⟩; obtain ⟨hcl, hfz⟩ := bcell hb2))
    all_goals (go_ret; refine ⟨ret_bool ?_, ?_⟩; rotate_left; (first | exact blkBelow w _ _ | exact below_seq (blkBelow w _ _) (by assumption)); clear HLB; (try simp_all); (try (rw [Bool.eq_iff_iff]; simp)); (try omega))

set_option maxHeartbeats 2000000 in
set_option maxRecDepth 100000 in
theorem rshape_f (B : Nat → Prop) (k p s : Int) (n : ByteArray) (lv kv : Value) (ls : List ByteArray) (ts : List Ty) (hk : k < 1 ∨ 9 < k) (hn : n.size ≤ maxLen) (w : World) (hB : Low B w) (hl : StrSl B w lv ls) (hkv : TySl B w kv ts) :
    Calls Tryz.prog 58 #[.agg #[.int .i64 k, .int .i64 p, .string n, .int .i64 s, lv, kv]] w fun e w' => e = .returned (.bool (shapeC k p s n ls ts.length)) ∧ Below w.heap.size w w' := by
  have hs : shapeC k p s n ls ts.length = (false) := by rw [shapeC, if_neg (by omega), if_neg (by omega), if_neg (by omega), if_neg (by omega), if_neg (by omega)]
  have hns : n.size ≤ 9223372036854775807 := by unfold maxLen at hn; omega
  have hlb : ∀ W, Below w.heap.size w W → Calls Tryz.prog 74 #[lv] W fun e w' => e = .returned (.bool (labelsB ls)) ∧ Below W.heap.size W w' := fun W hW => rlabels_any B lv ls W (hB.le hW.size) (hl.keep (hW.keeps'.mono hB))
  have HLB := Lib.hid hlb
  obtain ⟨pa, len, c, rfl, hlen, hm, hget⟩ := hkv.open
  obtain ⟨la, ln, lc, rfl, hlln, hlm, hlget⟩ := hl.open
  have hls : ls.isEmpty = decide (ln = 0) := by rw [hlln.out]; cases ls <;> simp
  rw [← hlen.out] at hs ⊢
  rw [hs]
  clear hs hget hlget hl hkv hls hlb hn
  have e1 : (k == 1) = false := by simp; omega
  have e2 : (k == 2) = false := by simp; omega
  have e3 : (k == 3) = false := by simp; omega
  have e4 : (k == 4) = false := by simp; omega
  have e5 : (k == 5) = false := by simp; omega
  have e6 : (k == 6) = false := by simp; omega
  have e7 : (k == 7) = false := by simp; omega
  have e8 : (k == 8) = false := by simp; omega
  have e9 : (k == 9) = false := by simp; omega
  clear hk
  all_goals
    go_enter Tryz.func58, Tryz.ntmps58
    go_wp2_with (fail)
    all_goals (go_ret; refine ⟨ret_bool ?_, ?_⟩; rotate_left; (first | exact blkBelow w _ _ | exact below_seq (blkBelow w _ _) (by assumption)); clear HLB; (try simp_all); (try (rw [Bool.eq_iff_iff]; simp)); (try omega))

theorem rshape_any (B : Nat → Prop) (k p s : Int) (n : ByteArray) (lv kv : Value) (ls : List ByteArray) (ts : List Ty) (hn : n.size ≤ maxLen) (w : World) (hB : Low B w) (hl : StrSl B w lv ls) (hkv : TySl B w kv ts) :
    Calls Tryz.prog 58 #[.agg #[.int .i64 k, .int .i64 p, .string n, .int .i64 s, lv, kv]] w fun e w' => e = .returned (.bool (shapeC k p s n ls ts.length)) ∧ Below w.heap.size w w' := by
  by_cases ha : k = 1 ∨ k = 2 ∨ k = 3
  · exact rshape_a B k p s n lv kv ls ts ha hn w hB hl hkv
  · by_cases hb : k = 4 ∨ k = 5
    · exact rshape_b B k p s n lv kv ls ts hb hn w hB hl hkv
    · by_cases hc : k = 6 ∨ k = 7
      · exact rshape_c B k p s n lv kv ls ts hc hn w hB hl hkv
      · by_cases hd : k = 8
        · exact rshape_d B k p s n lv kv ls ts hd hn w hB hl hkv
        · by_cases he : k = 9
          · exact rshape_e B k p s n lv kv ls ts he hn w hB hl hkv
          · exact rshape_f B k p s n lv kv ls ts (by omega) hn w hB hl hkv

end Go.Proofs.YtjmnaibbljakaaaGreatDoor
