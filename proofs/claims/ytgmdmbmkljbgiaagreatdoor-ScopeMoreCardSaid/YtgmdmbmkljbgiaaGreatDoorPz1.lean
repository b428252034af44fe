/- Types: the reference's labels and shapes. (and what follows from it) -/
import Derived.Test.YtgmdmbmkljbgiaaGreatDoorTyQ
import Derived.Deep.RegionHeld3
import Derived.Deep.RegionHeldLaw
import Derived.Deep.AppendLies
import Derived.Maps.OwnSet
import Derived.Maps.OwnOps

/- Types: the reference's labels and shapes. -/
namespace Go.Proofs.YtgmdmbmkljbgiaaGreatDoor
open Go.RowKit

/-- Is a text in a list? -/
def memB (s : ByteArray) (ls : List ByteArray) : Bool := ls.any fun x => decide (x = s)
theorem memB_true {s : ByteArray} {ls : List ByteArray} : memB s ls = true ↔ s ∈ ls := by
  unfold memB
  rw [List.any_eq_true]
  exact ⟨fun ⟨x, hx, he⟩ => by rw [← of_decide_eq_true he]; exact hx, fun h => ⟨s, h, by simp⟩⟩
theorem memB_false {s : ByteArray} {ls : List ByteArray} (h : s ∉ ls) : memB s ls = false := by
  cases e : memB s ls with
  | false => rfl
  | true => exact absurd (memB_true.1 e) h

set_option maxHeartbeats 1000000 in
theorem rin_any (B : Nat → Prop) (s : ByteArray) (v : Value) (ls : List ByteArray) (w : World) (h : StrSl B w v ls) :
    Calls Tryz.prog 118 #[.string s, v] w fun e w' => e = .returned (.bool (memB s ls)) ∧ w = w' := by
  obtain ⟨pa, len, c, rfl, hlen, hm, hget⟩ := h.open
  have HG := Lib.hid hget
  clear hget h
  go_enter Tryz.func118, Tryz.ntmps118
  go_wp2_with fail
  go_loop [5] (fun i => ∃ (j : Nat), i = .int .i64 j ∧ j ≤ len ∧ Hid (s ∉ ls.take j)) (fun i => len - (intOf i).toNat)
  case atStart => exact ⟨0, rfl, by omega, Lib.hid (by simp)⟩
  case round =>
    obtain ⟨j, rfl, hj, HT⟩ := hrel
    by_cases hlt : j < len
    · obtain ⟨x, hx⟩ : ∃ x, ls[j]? = some x := ⟨_, List.getElem?_eq_getElem (by rw [← hlen.out]; exact hlt)⟩
      obtain ⟨_, kb, ko, rfl, hkb, hc⟩ := HG.out j x hx
      by_cases he : x = s
      · subst he
        have hin : Hid (x ∈ ls) := Lib.hid (List.mem_of_getElem? hx)
        clear hx
        go_wp2_with fail
        go_ret
        exact ⟨ret_bool (memB_true.2 hin.out).symm, rfl⟩
      · have hn : Hid (s ∉ ls.take (j + 1)) := Lib.hid (by rw [take_snoc_get hx]; simp only [List.mem_append, List.mem_singleton, not_or]; exact ⟨HT.out, fun e => he e.symm⟩)
        have h1 := str_ne he
        have h2 : (x.toList == s.toList) = false := by simpa using h1
        clear hx he
        go_wp2_with fail
        go_round
        case rel => exact ⟨j + 1, by go_num, by omega, hn⟩
        case measure => simp [intOf]; omega
    · obtain rfl : j = len := by omega
      have hn : s ∉ ls := by have := HT.out; rwa [List.take_of_length_le (by rw [hlen.out]; exact Nat.le_refl _)] at this
      have HN := Lib.hid hn
      clear hn
      go_wp2_with fail
      go_ret
      exact ⟨ret_bool (memB_false HN.out).symm, rfl⟩

/-- Labels are names and different. -/
def labelsB (ls : List ByteArray) : Bool := ls.all nameB && decide ls.Nodup
theorem labelsB_snoc (l : List ByteArray) (s : ByteArray) : labelsB (l ++ [s]) = (labelsB l && (nameB s && !memB s l)) := by
  unfold labelsB
  rw [Bool.eq_iff_iff]
  have hm : (!memB s l) = true ↔ s ∉ l := by
    rw [Bool.not_eq_true', ← Bool.not_eq_true, memB_true]
  simp only [List.all_append, List.all_cons, List.all_nil, Bool.and_true, Bool.and_eq_true, decide_eq_true_eq, List.nodup_append, List.nodup_cons, List.not_mem_nil, not_false_iff, List.nodup_nil, and_true, List.mem_singleton, hm]
  constructor
  · rintro ⟨⟨h1, h2⟩, h3, h4⟩
    exact ⟨⟨h1, h3⟩, h2, fun h => h4.2 s h s rfl rfl⟩
  · rintro ⟨⟨h1, h2⟩, h3, h4⟩
    exact ⟨⟨h1, h3⟩, h2, trivial, fun a ha b hb e => h4 (by rw [← hb, ← e]; exact ha)⟩
theorem labelsB_prefix {l : List ByteArray} {j : Nat} (h : labelsB (l.take j) = false) : labelsB l = false := by
  unfold labelsB at h ⊢
  rw [Bool.and_eq_false_iff] at h ⊢
  rcases h with h | h
  · left
    rw [List.all_eq_false] at h ⊢
    obtain ⟨x, hx, hn⟩ := h
    exact ⟨x, List.mem_of_mem_take hx, hn⟩
  · right
    simp only [decide_eq_false_iff_not] at h ⊢
    exact fun hn => h (hn.sublist (List.take_sublist _ _))

theorem name_is (x : ByteArray) (b : Bool) (h : nameB x = b) (hx : x.size ≤ 9223372036854775807) (w : World) : Calls Tryz.prog 53 #[.string x] w fun e w' => e = .returned (.bool b) ∧ Below w.heap.size w w' := by
  rw [← h]; exact rname_any x hx w
theorem in_is (B : Nat → Prop) (x : ByteArray) (v : Value) (ls : List ByteArray) (b : Bool) (h : memB x ls = b) (R : World → Prop) (hs : ∀ w, R w → StrSl B w v ls) (w : World) (hr : R w) : Calls Tryz.prog 118 #[.string x, v] w fun e w' => e = .returned (.bool b) ∧ w = w' := by
  rw [← h]; exact rin_any B x v ls w (hs w hr)

set_option maxHeartbeats 2000000 in
set_option maxRecDepth 100000 in
theorem rlabels_any (B : Nat → Prop) (v : Value) (ls : List ByteArray) (w : World) (hB : Low B w) (h : StrSl B w v ls) :
    Calls Tryz.prog 100 #[v] w fun e w' => e = .returned (.bool (labelsB ls)) ∧ Below w.heap.size w w' := by
  have hsz := h.2
  obtain ⟨pa, len, c, rfl, hlen, hm, hget⟩ := h.open
  have hcap := h.cap_le
  have HG := Lib.hid hget
  have HS := Lib.hid hsz
  clear hget h hsz
  go_enter Tryz.func100, Tryz.ntmps100
  go_wp2_with fail
  go_loopw [3] (fun i wr => ∃ (j : Nat), i = .int .i64 j ∧ j ≤ len ∧ Hid (labelsB (ls.take j) = true) ∧ Below w.heap.size w wr) (fun i _ => len - (intOf i).toNat)
  case atStart => exact ⟨0, rfl, by omega, Lib.hid (by simp [labelsB]), Below.refl _ _⟩
  case round =>
    obtain ⟨j, rfl, hj, HT, hw⟩ := hrel
    by_cases hlt : j < len
    · obtain ⟨x, hx⟩ : ∃ x, ls[j]? = some x := ⟨_, List.getElem?_eq_getElem (by rw [← hlen.out]; exact hlt)⟩
      obtain ⟨hxs, kb, ko, rfl, hkb, hc⟩ := HG.out j x hx
      have hkw := hB kb hkb
      have hc0 := hc
      replace hc := (hw.cell (p := ⟨kb, ko + j, none⟩) hkw).trans hc
      have hsl : ∀ w2, Below w.heap.size w w2 → StrSl B w2 (.slice (some ⟨kb, ko, none⟩) j c) (ls.take j) := fun w2 hb2 => by
        refine ⟨.inr ⟨kb, ko, c, by rw [List.length_take, Nat.min_eq_left (by rw [← hlen.out]; omega)], hkb, by rw [List.length_take]; have := hlen.out; omega, fun i s hi => ?_⟩, by rw [List.length_take]; have := HS.out.1; omega, fun s hs => HS.out.2 s (List.mem_of_mem_take hs)⟩
        have hi' : ls[i]? = some s := by
          have hil := (List.getElem?_eq_some_iff.1 hi).1
          rw [List.getElem?_take] at hi
          split at hi
          · exact hi
          · cases hi
        obtain ⟨_, kb', ko', e, _, hc'⟩ := HG.out i s hi'
        simp only [Option.some.injEq, Addr.mk.injEq, and_true] at e
        obtain ⟨rfl, rfl⟩ := e
        exact (hb2.cell (p := ⟨kb, ko + i, none⟩) hkw).trans hc'
      have HSL := Lib.hid hsl
      clear hsl
      have hxs' : x.size ≤ 9223372036854775807 := by unfold maxLen at hxs; omega
      have HX := Lib.hid hx
      have hcl : ∀ q : Later w.heap.size w, q.1.cell? ⟨kb, ko + j, none⟩ = some (.string x) := fun q => (q.2.cell (p := ⟨kb, ko + j, none⟩) hkw).trans hc0
      have hj0 : (0 : Int) ≤ (j : Int) := by omega
      have hj1 : (j : Int) ≤ (len : Int) := by omega
      have hlc : len ≤ c := hcap
      clear hx hxs
      cases hn : nameB x with
      | false =>
        have hf : Hid (labelsB ls = false) := Lib.hid (labelsB_prefix (j := j + 1) (by rw [take_snoc_get HX.out, labelsB_snoc, hn]; simp))
        have HNM := Lib.hid (name_is x false hn hxs')
        have HIN := Lib.hid (in_is B x _ (ls.take j) _ rfl (fun w2 => Below w.heap.size w w2) HSL.out)
        clear hn
        go_wp2_with fail
        refine wp_region_later w.heap.size w (by kernel_rfl) (by kernel_rfl) hw ?_
        repeat (go_big_quiet_step (first | (go_at_call 53; exact later_call _ (Nat.le_refl _) (HNM.out _)) | (go_at_call 118; exact later_call_same _ (HIN.out _ (Subtype.property _)))))
        refine wpQuiet_nil ?_
        rintro _ ⟨⟨w5, hb5⟩, rfl⟩
        clear hcl hj0 hj1
        go_wp2_with fail
        go_ret
        exact ⟨ret_bool hf.out.symm, hb5⟩
      | true =>
        cases hmb : memB x (ls.take j) with
        | true =>
          have hf : Hid (labelsB ls = false) := Lib.hid (labelsB_prefix (j := j + 1) (by rw [take_snoc_get HX.out, labelsB_snoc, hmb]; simp))
          have HNM := Lib.hid (name_is x true hn hxs')
          have HIN := Lib.hid (in_is B x _ (ls.take j) true hmb (fun w2 => Below w.heap.size w w2) HSL.out)
          clear hn hmb
          go_wp2_with fail
          refine wp_region_later w.heap.size w (by kernel_rfl) (by kernel_rfl) hw ?_
          repeat (go_big_quiet_step (first | (go_at_call 53; exact later_call _ (Nat.le_refl _) (HNM.out _)) | (go_at_call 118; exact later_call_same _ (HIN.out _ (Subtype.property _)))))
          refine wpQuiet_nil ?_
          rintro _ ⟨⟨w5, hb5⟩, rfl⟩
          clear hcl hj0 hj1
          go_wp2_with fail
          go_ret
          exact ⟨ret_bool hf.out.symm, hb5⟩
        | false =>
          have hf : Hid (labelsB (ls.take (j + 1)) = true) := Lib.hid (by rw [take_snoc_get HX.out, labelsB_snoc, hn, hmb, HT.out]; rfl)
          have HNM := Lib.hid (name_is x true hn hxs')
          have HIN := Lib.hid (in_is B x _ (ls.take j) false hmb (fun w2 => Below w.heap.size w w2) HSL.out)
          clear hn hmb
          go_wp2_with fail
          refine wp_region_later w.heap.size w (by kernel_rfl) (by kernel_rfl) hw ?_
          repeat (go_big_quiet_step (first | (go_at_call 53; exact later_call _ (Nat.le_refl _) (HNM.out _)) | (go_at_call 118; exact later_call_same _ (HIN.out _ (Subtype.property _)))))
          refine wpQuiet_nil ?_
          rintro _ ⟨⟨w5, hb5⟩, rfl⟩
          clear hcl hj0 hj1
          go_wp2_with fail
          go_roundw
          case rel => exact ⟨j + 1, by go_num, by omega, hf, hb5⟩
          case measure => simp [intOf]; omega
    · obtain rfl : j = len := by omega
      have hn : labelsB ls = true := by have := HT.out; rwa [List.take_of_length_le (by rw [hlen.out]; exact Nat.le_refl _)] at this
      have HN := Lib.hid hn
      clear hn
      go_wp2_with fail
      go_ret
      exact ⟨ret_bool HN.out.symm, hw⟩

end Go.Proofs.YtgmdmbmkljbgiaaGreatDoor

/- Types: the reference's shape. -/
namespace Go.Proofs.YtgmdmbmkljbgiaaGreatDoor
open Go.RowKit

def prioB (n : Int) : Bool := decide (0 ≤ n) && decide (n ≤ 1000000)
set_option maxHeartbeats 400000 in
theorem rprio_any (n : Int) (w : World) : Calls Tryz.prog 104 #[.int .i64 n] w fun e w' => e = .returned (.bool (prioB n)) ∧ w = w' := by
  go_enter Tryz.func104, Tryz.ntmps104
  go_wp2
  all_goals (go_ret; refine ⟨ret_bool ?_, rfl⟩; unfold prioB; rw [Bool.eq_iff_iff]; simp; try omega)

/-- Has a node the fields of its kind? -/
def shapeC (k p s : Int) (n : ByteArray) (ls : List ByteArray) (m : Nat) : Bool :=
  if k = 1 ∨ k = 2 ∨ k = 3 then (p == 0) && (n.toList.isEmpty && ((s == 0) && (ls.isEmpty && decide (m = 0))))
  else if k = 4 ∨ k = 5 then prioB p && (n.toList.isEmpty && ((s == 0) && (ls.isEmpty && decide (m = 2))))
  else if k = 6 ∨ k = 7 then prioB p && (n.toList.isEmpty && ((s == 0) && (!ls.isEmpty && (labelsB ls && decide (m = ls.length)))))
  else if k = 8 then (p == 0) && (nameB n && ((s == 0) && (ls.isEmpty && decide (m = 1))))
  else if k = 9 then (p == 0) && (nameB n && (prioB s && (ls.isEmpty && decide (m = 0))))
  else false

set_option maxHeartbeats 2000000 in
set_option maxRecDepth 100000 in
theorem rshape_a (B : Nat → Prop) (k p s : Int) (n : ByteArray) (lv kv : Value) (ls : List ByteArray) (ts : List Ty) (hk : k = 1 ∨ k = 2 ∨ k = 3) (hn : n.size ≤ maxLen) (w : World) (hB : Low B w) (hl : StrSl B w lv ls) (hkv : TySl B w kv ts) :
    Calls Tryz.prog 70 #[.agg #[.int .i64 k, .int .i64 p, .string n, .int .i64 s, lv, kv]] w fun e w' => e = .returned (.bool (shapeC k p s n ls ts.length)) ∧ Below w.heap.size w w' := by
  have hs : shapeC k p s n ls ts.length = ((p == 0) && (n.toList.isEmpty && ((s == 0) && (ls.isEmpty && decide (ts.length = 0))))) := by rw [shapeC, if_pos hk]
  have hns : n.size ≤ 9223372036854775807 := by unfold maxLen at hn; omega
  have hlb : ∀ W, Below w.heap.size w W → Calls Tryz.prog 100 #[lv] W fun e w' => e = .returned (.bool (labelsB ls)) ∧ Below W.heap.size W w' := fun W hW => rlabels_any B lv ls W (hB.le hW.size) (hl.keep (hW.keeps'.mono hB))
  have HLB := Lib.hid hlb
  obtain ⟨pa, len, c, rfl, hlen, hm, hget⟩ := hkv.open
  obtain ⟨la, ln, lc, rfl, hlln, hlm, hlget⟩ := hl.open
  have hls : ls.isEmpty = decide (ln = 0) := by rw [hlln.out]; cases ls <;> simp
  rw [← hlen.out] at hs ⊢
  rw [hls] at hs
  rw [hs]
  clear hs hget hlget hl hkv hls hlb hn
  rcases hk with rfl | rfl | rfl
  all_goals
    go_enter Tryz.func70, Tryz.ntmps70
    go_wp2_with (fail)
    all_goals (go_ret; refine ⟨ret_bool ?_, ?_⟩; rotate_left; (first | exact blkBelow w _ _ | exact below_seq (blkBelow w _ _) (by assumption)); clear HLB; (try simp_all); (try (rw [Bool.eq_iff_iff]; simp)); (try omega))

set_option maxHeartbeats 2000000 in
set_option maxRecDepth 100000 in
theorem rshape_b (B : Nat → Prop) (k p s : Int) (n : ByteArray) (lv kv : Value) (ls : List ByteArray) (ts : List Ty) (hk : k = 4 ∨ k = 5) (hn : n.size ≤ maxLen) (w : World) (hB : Low B w) (hl : StrSl B w lv ls) (hkv : TySl B w kv ts) :
    Calls Tryz.prog 70 #[.agg #[.int .i64 k, .int .i64 p, .string n, .int .i64 s, lv, kv]] w fun e w' => e = .returned (.bool (shapeC k p s n ls ts.length)) ∧ Below w.heap.size w w' := by
  have hs : shapeC k p s n ls ts.length = (prioB p && (n.toList.isEmpty && ((s == 0) && (ls.isEmpty && decide (ts.length = 2))))) := by rw [shapeC, if_neg (by omega), if_pos hk]
  have hns : n.size ≤ 9223372036854775807 := by unfold maxLen at hn; omega
  have hlb : ∀ W, Below w.heap.size w W → Calls Tryz.prog 100 #[lv] W fun e w' => e = .returned (.bool (labelsB ls)) ∧ Below W.heap.size W w' := fun W hW => rlabels_any B lv ls W (hB.le hW.size) (hl.keep (hW.keeps'.mono hB))
  have HLB := Lib.hid hlb
  obtain ⟨pa, len, c, rfl, hlen, hm, hget⟩ := hkv.open
  obtain ⟨la, ln, lc, rfl, hlln, hlm, hlget⟩ := hl.open
  have hls : ls.isEmpty = decide (ln = 0) := by rw [hlln.out]; cases ls <;> simp
  rw [← hlen.out] at hs ⊢
  rw [hls] at hs
  rw [hs]
  clear hs hget hlget hl hkv hls hlb hn
  rcases hk with rfl | rfl
  all_goals
    go_enter Tryz.func70, Tryz.ntmps70
    go_wp2_with ((go_at_call 104; refine (rprio_any _ _).mono ?_; rintro e w1 ⟨rfl, rfl⟩))
    all_goals (go_ret; refine ⟨ret_bool ?_, ?_⟩; rotate_left; (first | exact blkBelow w _ _ | exact below_seq (blkBelow w _ _) (by assumption)); clear HLB; (try simp_all); (try (rw [Bool.eq_iff_iff]; simp)); (try omega))

set_option maxHeartbeats 2000000 in
set_option maxRecDepth 100000 in
theorem rshape_c (B : Nat → Prop) (k p s : Int) (n : ByteArray) (lv kv : Value) (ls : List ByteArray) (ts : List Ty) (hk : k = 6 ∨ k = 7) (hn : n.size ≤ maxLen) (w : World) (hB : Low B w) (hl : StrSl B w lv ls) (hkv : TySl B w kv ts) :
    Calls Tryz.prog 70 #[.agg #[.int .i64 k, .int .i64 p, .string n, .int .i64 s, lv, kv]] w fun e w' => e = .returned (.bool (shapeC k p s n ls ts.length)) ∧ Below w.heap.size w w' := by
  have hs : shapeC k p s n ls ts.length = (prioB p && (n.toList.isEmpty && ((s == 0) && (!ls.isEmpty && (labelsB ls && decide (ts.length = ls.length)))))) := by rw [shapeC, if_neg (by omega), if_neg (by omega), if_pos hk]
  have hns : n.size ≤ 9223372036854775807 := by unfold maxLen at hn; omega
  have hlb : ∀ W, Below w.heap.size w W → Calls Tryz.prog 100 #[lv] W fun e w' => e = .returned (.bool (labelsB ls)) ∧ Below W.heap.size W w' := fun W hW => rlabels_any B lv ls W (hB.le hW.size) (hl.keep (hW.keeps'.mono hB))
  have HLB := Lib.hid hlb
  obtain ⟨pa, len, c, rfl, hlen, hm, hget⟩ := hkv.open
  obtain ⟨la, ln, lc, rfl, hlln, hlm, hlget⟩ := hl.open
  have hls : ls.isEmpty = decide (ln = 0) := by rw [hlln.out]; cases ls <;> simp
  rw [← hlen.out] at hs ⊢
  rw [hls] at hs
  rw [← hlln.out] at hs
  rw [hs]
  clear hs hget hlget hl hkv hls hlb hn
  rcases hk with rfl | rfl
  all_goals
    go_enter Tryz.func70, Tryz.ntmps70
    go_wp2_with (first | (go_at_call 104; refine (rprio_any _ _).mono ?_; rintro e w1 ⟨rfl, rfl⟩) | (go_at_call 100; refine (HLB.out _ (blkBelow w _ _)).mono ?_; rintro e w2 ⟨rfl, hb2⟩; obtain ⟨hcl, hfz⟩ := bcell hb2))
    all_goals (go_ret; refine ⟨ret_bool ?_, ?_⟩; rotate_left; (first | exact blkBelow w _ _ | exact below_seq (blkBelow w _ _) (by assumption)); clear HLB; (try simp_all); (try (rw [Bool.eq_iff_iff]; simp)); (try omega))

set_option maxHeartbeats 2000000 in
set_option maxRecDepth 100000 in
theorem rshape_d (B : Nat → Prop) (k p s : Int) (n : ByteArray) (lv kv : Value) (ls : List ByteArray) (ts : List Ty) (hk : k = 8) (hn : n.size ≤ maxLen) (w : World) (hB : Low B w) (hl : StrSl B w lv ls) (hkv : TySl B w kv ts) :
    Calls Tryz.prog 70 #[.agg #[.int .i64 k, .int .i64 p, .string n, .int .i64 s, lv, kv]] w fun e w' => e = .returned (.bool (shapeC k p s n ls ts.length)) ∧ Below w.heap.size w w' := by
  have hs : shapeC k p s n ls ts.length = ((p == 0) && (nameB n && ((s == 0) && (ls.isEmpty && decide (ts.length = 1))))) := by rw [shapeC, if_neg (by omega), if_neg (by omega), if_neg (by omega), if_pos hk]
  have hns : n.size ≤ 9223372036854775807 := by unfold maxLen at hn; omega
  have hlb : ∀ W, Below w.heap.size w W → Calls Tryz.prog 100 #[lv] W fun e w' => e = .returned (.bool (labelsB ls)) ∧ Below W.heap.size W w' := fun W hW => rlabels_any B lv ls W (hB.le hW.size) (hl.keep (hW.keeps'.mono hB))
  have HLB := Lib.hid hlb
  obtain ⟨pa, len, c, rfl, hlen, hm, hget⟩ := hkv.open
  obtain ⟨la, ln, lc, rfl, hlln, hlm, hlget⟩ := hl.open
  have hls : ls.isEmpty = decide (ln = 0) := by rw [hlln.out]; cases ls <;> simp
  rw [← hlen.out] at hs ⊢
  rw [hls] at hs
  rw [hs]
  clear hs hget hlget hl hkv hls hlb hn
  subst hk
  all_goals
    go_enter Tryz.func70, Tryz.ntmps70
    go_wp2_with ((go_at_call 53; refine (rname_any _ hns _).mono ?_; rintro e w2 ⟨rfl, hb2⟩; obtain ⟨hcl, hfz⟩ := bcell hb2))
    all_goals (go_ret; refine ⟨ret_bool ?_, ?_⟩; rotate_left; (first | exact blkBelow w _ _ | exact below_seq (blkBelow w _ _) (by assumption)); clear HLB; (try simp_all); (try (rw [Bool.eq_iff_iff]; simp)); (try omega))

set_option maxHeartbeats 2000000 in
set_option maxRecDepth 100000 in
theorem rshape_e (B : Nat → Prop) (k p s : Int) (n : ByteArray) (lv kv : Value) (ls : List ByteArray) (ts : List Ty) (hk : k = 9) (hn : n.size ≤ maxLen) (w : World) (hB : Low B w) (hl : StrSl B w lv ls) (hkv : TySl B w kv ts) :
    Calls Tryz.prog 70 #[.agg #[.int .i64 k, .int .i64 p, .string n, .int .i64 s, lv, kv]] w fun e w' => e = .returned (.bool (shapeC k p s n ls ts.length)) ∧ Below w.heap.size w w' := by
  have hs : shapeC k p s n ls ts.length = ((p == 0) && (nameB n && (prioB s && (ls.isEmpty && decide (ts.length = 0))))) := by rw [shapeC, if_neg (by omega), if_neg (by omega), if_neg (by omega), if_neg (by omega), if_pos hk]
  have hns : n.size ≤ 9223372036854775807 := by unfold maxLen at hn; omega
  have hlb : ∀ W, Below w.heap.size w W → Calls Tryz.prog 100 #[lv] W fun e w' => e = .returned (.bool (labelsB ls)) ∧ Below W.heap.size W w' := fun W hW => rlabels_any B lv ls W (hB.le hW.size) (hl.keep (hW.keeps'.mono hB))
  have HLB := Lib.hid hlb
  obtain ⟨pa, len, c, rfl, hlen, hm, hget⟩ := hkv.open
  obtain ⟨la, ln, lc, rfl, hlln, hlm, hlget⟩ := hl.open
  have hls : ls.isEmpty = decide (ln = 0) := by rw [hlln.out]; cases ls <;> simp
  rw [← hlen.out] at hs ⊢
  rw [hls] at hs
  rw [hs]
  clear hs hget hlget hl hkv hls hlb hn
  subst hk
  all_goals
    go_enter Tryz.func70, Tryz.ntmps70
    go_wp2_with (first | (go_at_call 104; refine (rprio_any _ _).mono ?_; rintro e w1 ⟨rfl, rfl⟩) | (go_at_call 53; refine (rname_any _ hns _).mono ?_; rintro e w2 ⟨rfl, hb2⟩; obtain ⟨hcl, hfz⟩ := bcell hb2))
    all_goals (go_ret; refine ⟨ret_bool ?_, ?_⟩; rotate_left; (first | exact blkBelow w _ _ | exact below_seq (blkBelow w _ _) (by assumption)); clear HLB; (try simp_all); (try (rw [Bool.eq_iff_iff]; simp)); (try omega))

set_option maxHeartbeats 2000000 in
set_option maxRecDepth 100000 in
theorem rshape_f (B : Nat → Prop) (k p s : Int) (n : ByteArray) (lv kv : Value) (ls : List ByteArray) (ts : List Ty) (hk : k < 1 ∨ 9 < k) (hn : n.size ≤ maxLen) (w : World) (hB : Low B w) (hl : StrSl B w lv ls) (hkv : TySl B w kv ts) :
    Calls Tryz.prog 70 #[.agg #[.int .i64 k, .int .i64 p, .string n, .int .i64 s, lv, kv]] w fun e w' => e = .returned (.bool (shapeC k p s n ls ts.length)) ∧ Below w.heap.size w w' := by
  have hs : shapeC k p s n ls ts.length = (false) := by rw [shapeC, if_neg (by omega), if_neg (by omega), if_neg (by omega), if_neg (by omega), if_neg (by omega)]
  have hns : n.size ≤ 9223372036854775807 := by unfold maxLen at hn; omega
  have hlb : ∀ W, Below w.heap.size w W → Calls Tryz.prog 100 #[lv] W fun e w' => e = .returned (.bool (labelsB ls)) ∧ Below W.heap.size W w' := fun W hW => rlabels_any B lv ls W (hB.le hW.size) (hl.keep (hW.keeps'.mono hB))
  have HLB := Lib.hid hlb
  obtain ⟨pa, len, c, rfl, hlen, hm, hget⟩ := hkv.open
  obtain ⟨la, ln, lc, rfl, hlln, hlm, hlget⟩ := hl.open
  have hls : ls.isEmpty = decide (ln = 0) := by rw [hlln.out]; cases ls <;> simp
  rw [← hlen.out] at hs ⊢
  rw [hs]
  clear hs hget hlget hl hkv hls hlb hn
  have e1 : (k == 1) = false := by simp; omega
  have e2 : (k == 2) = false := by simp; omega
  have e3 : (k == 3) = false := by simp; omega
  have e4 : (k == 4) = false := by simp; omega
  have e5 : (k == 5) = false := by simp; omega
  have e6 : (k == 6) = false := by simp; omega
  have e7 : (k == 7) = false := by simp; omega
  have e8 : (k == 8) = false := by simp; omega
  have e9 : (k == 9) = false := by simp; omega
  clear hk
  all_goals
    go_enter Tryz.func70, Tryz.ntmps70
    go_wp2_with (fail)
    all_goals (go_ret; refine ⟨ret_bool ?_, ?_⟩; rotate_left; (first | exact blkBelow w _ _ | exact below_seq (blkBelow w _ _) (by assumption)); clear HLB; (try simp_all); (try (rw [Bool.eq_iff_iff]; simp)); (try omega))

theorem rshape_any (B : Nat → Prop) (k p s : Int) (n : ByteArray) (lv kv : Value) (ls : List ByteArray) (ts : List Ty) (hn : n.size ≤ maxLen) (w : World) (hB : Low B w) (hl : StrSl B w lv ls) (hkv : TySl B w kv ts) :
    Calls Tryz.prog 70 #[.agg #[.int .i64 k, .int .i64 p, .string n, .int .i64 s, lv, kv]] w fun e w' => e = .returned (.bool (shapeC k p s n ls ts.length)) ∧ Below w.heap.size w w' := by
  by_cases ha : k = 1 ∨ k = 2 ∨ k = 3
  · exact rshape_a B k p s n lv kv ls ts ha hn w hB hl hkv
  · by_cases hb : k = 4 ∨ k = 5
    · exact rshape_b B k p s n lv kv ls ts hb hn w hB hl hkv
    · by_cases hc : k = 6 ∨ k = 7
      · exact rshape_c B k p s n lv kv ls ts hc hn w hB hl hkv
      · by_cases hd : k = 8
        · exact rshape_d B k p s n lv kv ls ts hd hn w hB hl hkv
        · by_cases he : k = 9
          · exact rshape_e B k p s n lv kv ls ts he hn w hB hl hkv
          · exact rshape_f B k p s n lv kv ls ts (by omega) hn w hB hl hkv

end Go.Proofs.YtgmdmbmkljbgiaaGreatDoor

/- Types: right or not: both ways of asking agree (mathematics). -/
namespace Go.Proofs.YtgmdmbmkljbgiaaGreatDoor
open Go.RowKit

def sessK (k : Int) : Bool := k != 1 && k != 2
def Ty.shape (t : Ty) : Bool := shapeC t.k t.p t.s t.n t.ls t.ts.length

/-! ### The reference's way -/
def vR (names : List ByteArray) (g : Nat) (n : ByteArray) : Nat → Int
  | 0 => 4
  | i + 1 => if names[i]? = some n then (if i < g then 0 else 3) else vR names g n i
def varR (names : List ByteArray) (g : Nat) (n : ByteArray) : Int := vR names g n names.length
mutual
def nodeR (names : List ByteArray) (g : Nat) (se : Bool) : Ty → Int
  | .mk k p n s ls ts =>
    if shapeC k p s n ls ts.length = false ∨ (se = true ∧ sessK k = false) then 3
    else if k = 9 then varR names g n
    else if k = 8 then kidsR (names ++ [n]) g true 0 ts
    else kidsR names names.length (decide (5 < k)) 0 ts
def kidsR (names : List ByteArray) (g : Nat) (f : Bool) (i : Nat) : List Ty → Int
  | [] => 0
  | t :: r => if nodeR names g (f || decide (0 < i)) t = 0 then kidsR names g f (i + 1) r else nodeR names g (f || decide (0 < i)) t
end

/-! ### The program's way -/
/-- From the innermost node around outwards. -/
def vErr (n : ByteArray) : List Ty → Bool → Int
  | [], _ => 4
  | u :: r, g => if u.k = 8 ∧ u.n = n then (if g then 0 else 3) else vErr n r (g || actB u.k)
def paysK (k : Int) : Int := if k = 4 ∨ k = 5 then 1 else 0
def mayStandB (path : List Ty) (kid : Int) (k : Int) : Bool := sessK k || (match path.getLast? with | none => true | some u => decide (kid < paysK u.k))
def nodeErr (path : List Ty) (kid : Int) (t : Ty) : Int :=
  if t.shape = false ∨ mayStandB path kid t.k = false then 3 else if t.k = 9 then vErr t.n path.reverse false else 0
def firstE : List (List Ty × Int × Ty) → Int
  | [] => 0
  | x :: r => if nodeErr x.1 x.2.1 x.2.2 = 0 then firstE r else nodeErr x.1 x.2.1 x.2.2
theorem firstE_append (l r : List (List Ty × Int × Ty)) : firstE (l ++ r) = if firstE l = 0 then firstE r else firstE l := by
  induction l with
  | nil => simp [firstE]
  | cons x l ih =>
    simp only [List.cons_append, firstE, ih]
    by_cases h : nodeErr x.1 x.2.1 x.2.2 = 0
    · simp [h]
    · simp [h]

/-! ### They agree -/
/-- The names of the TRecs of a path, and how many of them an action follows. -/
def pathN (path : List Ty) : List ByteArray := (path.filter fun u => u.k == 8).map Ty.n
def pathG : List Ty → Nat → Nat → Nat
  | [], _, g => g
  | u :: r, m, g => if u.k = 8 then pathG r (m + 1) g else pathG r m m
def pathA (path : List Ty) : Nat := pathG path 0 0
theorem pathN_snoc (path : List Ty) (u : Ty) : pathN (path ++ [u]) = if u.k = 8 then pathN path ++ [u.n] else pathN path := by
  unfold pathN
  by_cases h : u.k = 8 <;> simp [List.filter_append, h]
theorem pathG_append (path : List Ty) (u : Ty) : ∀ m g, pathG (path ++ [u]) m g = if u.k = 8 then pathG path m g else m + (pathN path).length := by
  induction path with
  | nil => intro m g; by_cases h : u.k = 8 <;> simp [pathG, pathN, h]
  | cons v r ih =>
    intro m g
    rw [List.cons_append, pathG, pathG, ih, ih]
    by_cases hv : v.k = 8
    · have e : (pathN (v :: r)).length = (pathN r).length + 1 := by simp [pathN, hv]
      by_cases h : u.k = 8
      · simp [hv, h]
      · simp only [hv, h, if_true, if_false]; omega
    · have e : (pathN (v :: r)).length = (pathN r).length := by simp [pathN, hv]
      by_cases h : u.k = 8
      · simp [hv, h]
      · simp only [hv, h, if_false]; omega
theorem pathA_snoc (path : List Ty) (u : Ty) : pathA (path ++ [u]) = if u.k = 8 then pathA path else (pathN path).length := by
  unfold pathA; rw [pathG_append]; simp
theorem pathA_le (path : List Ty) : pathA path ≤ (pathN path).length := by
  rcases List.eq_nil_or_concat path with rfl | ⟨l, u, rfl⟩
  · simp [pathA, pathG]
  · have ih := pathA_le l
    rw [List.concat_eq_append, pathA_snoc, pathN_snoc]
    by_cases h : u.k = 8
    · simp only [h, if_true, List.length_append, List.length_cons, List.length_nil]; omega
    · simp [h]
termination_by path.length

theorem vR_prefix (l : List ByteArray) (x : ByteArray) (g : Nat) (n : ByteArray) : ∀ i, i ≤ l.length → vR (l ++ [x]) g n i = vR l g n i
  | 0, _ => rfl
  | i + 1, h => by rw [vR, vR, List.getElem?_append_left (by omega), vR_prefix l x g n i (by omega)]
theorem vR_snoc (l : List ByteArray) (x : ByteArray) (g : Nat) (n : ByteArray) : varR (l ++ [x]) g n = if x = n then (if l.length < g then 0 else 3) else varR l g n := by
  unfold varR
  rw [List.length_append, List.length_cons, List.length_nil, vR, List.getElem?_append_right (Nat.le_refl _), Nat.sub_self, vR_prefix l x g n _ (Nat.le_refl _)]
  by_cases h : x = n <;> simp [h]
theorem vR_all (l : List ByteArray) (n : ByteArray) : ∀ i g, i ≤ l.length → i ≤ g → vR l g n i = vR l i n i ∧ (vR l g n i = 0 ∨ vR l g n i = 4)
  | 0, g, _, _ => ⟨rfl, .inr rfl⟩
  | i + 1, g, h, hg => by
    have h1 := vR_all l n i g (by omega) (by omega)
    have h2 := vR_all l n i (i + 1) (by omega) (by omega)
    rw [vR, vR]
    by_cases e : l[i]? = some n
    · simp only [e, if_true]
      rw [if_pos (by omega), if_pos (by omega)]
      exact ⟨rfl, .inl rfl⟩
    · simp only [e, if_false]
      exact ⟨h1.1.trans h2.1.symm, h1.2⟩
/-- Nodes that stand around others are of the kinds that have Kids. -/
def Around (path : List Ty) : Prop := ∀ u ∈ path, u.k = 8 ∨ actB u.k = true
theorem vErr_true (n : ByteArray) : ∀ path : List Ty, vErr n path.reverse true = varR (pathN path) (pathN path).length n
  | path => by
    rcases List.eq_nil_or_concat path with rfl | ⟨l, u, rfl⟩
    · rfl
    · have ih := vErr_true n l
      rw [List.concat_eq_append, List.reverse_append, List.reverse_cons, List.reverse_nil, List.nil_append, List.singleton_append, vErr, pathN_snoc, Bool.true_or]
      by_cases h : u.k = 8
      · simp only [h, true_and, if_true]
        rw [vR_snoc, List.length_append, List.length_cons, List.length_nil]
        by_cases e : u.n = n
        · simp [e]
        · simp only [e, if_false, ih]
          unfold varR
          rw [(vR_all _ n _ (pathN l).length (Nat.le_refl _) (Nat.le_refl _)).1, ← (vR_all _ n _ ((pathN l).length + 0 + 1) (Nat.le_refl _) (by omega)).1]
      · simp only [h, false_and, if_false, ih]
termination_by path => path.length
theorem vErr_path (n : ByteArray) : ∀ path : List Ty, Around path → vErr n path.reverse false = varR (pathN path) (pathA path) n
  | path, ha => by
    rcases List.eq_nil_or_concat path with rfl | ⟨l, u, rfl⟩
    · rfl
    · rw [List.concat_eq_append] at ha ⊢
      have ih := vErr_path n l (fun v hv => ha v (by simp [hv]))
      rw [List.reverse_append, List.reverse_cons, List.reverse_nil, List.nil_append, List.singleton_append, vErr, pathN_snoc, pathA_snoc, Bool.false_or]
      by_cases h : u.k = 8
      · have hact : actB u.k = false := by rw [h]; rfl
        simp only [h, true_and, if_true]
        rw [vR_snoc]
        have := pathA_le l
        by_cases e : u.n = n
        · have hq : ¬ (pathN l).length < pathA l := by omega
          simp [e, hq]
        · simp only [e, if_false]; rw [show actB 8 = false from rfl, ih]
      · have hact : actB u.k = true := (ha u (by simp)).resolve_left h
        simp only [h, false_and, if_false, hact]
        exact vErr_true n l
termination_by path => path.length

theorem actB_iff (k : Int) : actB k = true ↔ k = 4 ∨ k = 5 ∨ k = 6 ∨ k = 7 := by
  unfold actB; simp; omega
/-- A node of the right shape that has Kids is of a kind that may stand around others. -/
theorem shape_around {t : Ty} (h : t.shape = true) (hk : t.ts ≠ []) : t.k = 8 ∨ actB t.k = true := by
  unfold Ty.shape shapeC at h
  have hm : t.ts.length ≠ 0 := fun e => hk (List.length_eq_zero_iff.1 e)
  rw [actB_iff]
  by_cases h1 : t.k = 1 ∨ t.k = 2 ∨ t.k = 3
  · rw [if_pos h1] at h; simp [hk] at h
  · rw [if_neg h1] at h
    by_cases h2 : t.k = 4 ∨ t.k = 5
    · omega
    · rw [if_neg h2] at h
      by_cases h3 : t.k = 6 ∨ t.k = 7
      · omega
      · rw [if_neg h3] at h
        by_cases h4 : t.k = 8
        · exact .inl h4
        · rw [if_neg h4] at h
          by_cases h5 : t.k = 9
          · rw [if_pos h5] at h; simp [hk] at h
          · rw [if_neg h5] at h; cases h

/-- Must the Kid at an index be a session type? -/
def needS (path : List Ty) (kid : Int) : Bool := match path.getLast? with | none => false | some u => !decide (kid < paysK u.k)
theorem mayStand_need (path : List Ty) (kid k : Int) : mayStandB path kid k = false ↔ (needS path kid = true ∧ sessK k = false) := by
  unfold mayStandB needS
  cases path.getLast? with
  | none => simp
  | some u => simp [and_comm]

theorem agree : ∀ (t : Ty) (path : List Ty) (kid : Int), Around path → firstE (preT path kid t) = nodeR (pathN path) (pathA path) (needS path kid) t := by
  refine Ty.ind ?_
  intro k p n s ls ts ih path kid hp
  rw [preT_eq, firstE]
  obtain ⟨t, ht⟩ : ∃ t, Ty.mk k p n s ls ts = t := ⟨_, rfl⟩
  have hts : ts = t.ts := by rw [← ht]; rfl
  have hR : nodeR (pathN path) (pathA path) (needS path kid) t = (if t.shape = false ∨ (needS path kid = true ∧ sessK t.k = false) then 3 else if t.k = 9 then varR (pathN path) (pathA path) t.n else if t.k = 8 then kidsR (pathN path ++ [t.n]) (pathA path) true 0 t.ts else kidsR (pathN path) (pathN path).length (decide (5 < t.k)) 0 t.ts) := by
    rw [← ht, nodeR]; rfl
  rw [ht, hR]
  simp only [nodeErr, mayStand_need]
  by_cases hbad : t.shape = false ∨ (needS path kid = true ∧ sessK t.k = false)
  · simp [hbad]
  · rw [if_neg hbad, if_neg hbad]
    have hsh : t.shape = true := by
      cases e : t.shape with
      | true => rfl
      | false => exact absurd (.inl e) hbad
    by_cases h9 : t.k = 9
    · rw [if_pos h9, if_pos h9, vErr_path t.n path hp]
      have h0 : t.ts = [] := by
        unfold Ty.shape shapeC at hsh
        rw [if_neg (by omega), if_neg (by omega), if_neg (by omega), if_neg (by omega), if_pos h9] at hsh
        simp at hsh
        exact hsh.2.2.2.2
      rw [h0]
      simp [preTs, firstE]
      intro h; exact h.symm
    · rw [if_neg h9, if_neg h9, if_pos rfl]
      have hkids : ∀ (l : List Ty) (i : Nat), (∀ u ∈ l, u ∈ ts) → l ≠ [] → firstE (preTs (path ++ [t]) i l) = kidsR (pathN (path ++ [t])) (pathA (path ++ [t])) (decide (5 < t.k)) i l := by
        intro l
        induction l with
        | nil => intro i _ h; exact absurd rfl h
        | cons u r ihl =>
          intro i hmem _
          have hne : t.ts ≠ [] := by rw [← hts]; intro e; have := hmem u (by simp); rw [e] at this; cases this
          have hA := shape_around hsh hne
          have har : Around (path ++ [t]) := fun v hv => by
            rcases List.mem_append.1 hv with hv | hv
            · exact hp v hv
            · simp at hv; rw [hv]; exact hA
          have hneed : needS (path ++ [t]) i = (decide (5 < t.k) || decide (0 < i)) := by
            unfold needS paysK
            rw [List.getLast?_append]
            simp only [List.getLast?_singleton, Option.some_or]
            rw [actB_iff] at hA
            by_cases h45 : t.k = 4 ∨ t.k = 5
            · rw [if_pos h45, show decide (5 < t.k) = false by simp; omega, Bool.false_or, Bool.eq_iff_iff]; simp; omega
            · rw [if_neg h45, show decide (5 < t.k) = true by simp; omega]; simp
          rw [preTs, firstE_append, kidsR, ih u (hmem u (by simp)) (path ++ [t]) i har, hneed]
          by_cases h0 : nodeR (pathN (path ++ [t])) (pathA (path ++ [t])) (decide (5 < t.k) || decide (0 < i)) u = 0
          · rw [if_pos h0, if_pos h0]
            cases r with
            | nil => rfl
            | cons v r => exact ihl (i + 1) (fun w hw => hmem w (by simp [hw])) (by simp)
          · rw [if_neg h0, if_neg h0]
      rw [← hts]
      by_cases hnil : ts = []
      · rw [hnil]; simp [preTs, firstE, kidsR]
      · have h := hkids ts 0 (fun _ h => h) hnil
        rw [show ((0 : Nat) : Int) = 0 from rfl] at h
        rw [h, pathN_snoc, pathA_snoc]
        by_cases h8 : t.k = 8
        · simp [h8]
        · simp [h8]

/-- What both return. -/
def rightE (t : Ty) : Int := if t.large then 2 else firstE (preT [] 0 t)
theorem rightE_eq (t : Ty) : rightE t = if t.large then 2 else nodeR [] 0 false t := by
  unfold rightE
  rw [agree t [] 0 (fun u hu => by cases hu)]
  rfl

end Go.Proofs.YtgmdmbmkljbgiaaGreatDoor

/- Types: the reference's walk over the nodes. -/
namespace Go.Proofs.YtgmdmbmkljbgiaaGreatDoor
open Go.RowKit

def NodeAt (t : Ty) : Prop := ∀ (B : Nat → Prop) (names : List ByteArray) (g : Nat) (se : Bool) (v nv : Value) (w : World), Low B w → TyVal B w v t → StrSl B w nv names → names.length + t.depth ≤ 1000 →
  Calls Tryz.prog 54 #[v, nv, .int .i64 g, .bool se] w fun e w' => e = .returned (.int .i64 (nodeR names g se t)) ∧ Below w.heap.size w w'

theorem rsess_is (k p s : Int) (n : ByteArray) (lv kv : Value) (b : Bool) (h : sessK k = b) (w : World) :
    Calls Tryz.prog 71 #[.agg #[.int .i64 k, .int .i64 p, .string n, .int .i64 s, lv, kv]] w fun e w' => e = .returned (.bool b) ∧ Below w.heap.size w w' := by
  rw [← h]; exact rsession_any k p s n lv kv w

set_option maxHeartbeats 2000000 in
set_option maxRecDepth 100000 in
theorem rnode_bad (B : Nat → Prop) (k p s : Int) (n : ByteArray) (lv kv nv : Value) (g : Nat) (se : Bool) (ls : List ByteArray) (ts : List Ty) (hn : n.size ≤ maxLen) (w : World) (hB : Low B w) (hl : StrSl B w lv ls) (hkv : TySl B w kv ts)
    (hbad : shapeC k p s n ls ts.length = false ∨ (se = true ∧ sessK k = false)) :
    Calls Tryz.prog 54 #[.agg #[.int .i64 k, .int .i64 p, .string n, .int .i64 s, lv, kv], nv, .int .i64 g, .bool se] w fun e w' => e = .returned (.int .i64 3) ∧ Below w.heap.size w w' := by
  obtain ⟨sh, hsh⟩ : ∃ b, shapeC k p s n ls ts.length = b := ⟨_, rfl⟩
  obtain ⟨sb, hsb⟩ : ∃ b, sessK k = b := ⟨_, rfl⟩
  have hS : ∀ W, Below w.heap.size w W → Calls Tryz.prog 70 #[.agg #[.int .i64 k, .int .i64 p, .string n, .int .i64 s, lv, kv]] W fun e w' => e = .returned (.bool sh) ∧ Below W.heap.size W w' := fun W hW => by
    rw [← hsh]; exact rshape_any B k p s n lv kv ls ts hn W (hB.le hW.size) (hl.keep (hW.keeps'.mono hB)) (hkv.keep (hW.keeps'.mono hB))
  have HS := Lib.hid hS
  have HN := Lib.hid (rsess_is k p s n lv kv sb hsb)
  obtain ⟨pa, len, c, rfl, hlen, hm, hget⟩ := hkv.open
  obtain ⟨la, ln, lc, rfl, hlln, hlm, hlget⟩ := hl.open
  rw [hsh, hsb] at hbad
  clear hget hlget hl hkv hS hn hlen hlln
  cases sh with
  | false =>
    go_enter Tryz.func54, Tryz.ntmps54
    go_wp2_with (go_at_call 70; refine (HS.out _ (blkBelow w _ _)).mono ?_; rintro e w2 ⟨rfl, hb2⟩; obtain ⟨hcl, hfz⟩ := bcell hb2)
    go_ret
    exact ⟨rfl, below_seq (blkBelow w _ _) hb2⟩
  | true =>
    obtain ⟨rfl, rfl⟩ : se = true ∧ sb = false := by simpa using hbad
    go_enter Tryz.func54, Tryz.ntmps54
    go_wp2_with (first | (go_at_call 70; refine (HS.out _ (blkBelow w _ _)).mono ?_; rintro e w2 ⟨rfl, hb2⟩; obtain ⟨hcl, hfz⟩ := bcell hb2) | (go_at_call 71; refine (HN.out _).mono ?_; rintro e w3 ⟨rfl, hb3⟩))
    go_ret
    exact ⟨rfl, below_seq (blkBelow w _ _) (below_seq hb2 hb3)⟩

set_option maxHeartbeats 2000000 in
set_option maxRecDepth 100000 in
theorem rnode_var (B : Nat → Prop) (k p s : Int) (n : ByteArray) (lv kv nv : Value) (names : List ByteArray) (g : Nat) (se : Bool) (ls : List ByteArray) (ts : List Ty) (hn : n.size ≤ maxLen) (w : World) (hB : Low B w) (hl : StrSl B w lv ls) (hkv : TySl B w kv ts) (hnv : StrSl B w nv names)
    (hk : k = 9) (hs : shapeC k p s n ls ts.length = true) :
    Calls Tryz.prog 54 #[.agg #[.int .i64 k, .int .i64 p, .string n, .int .i64 s, lv, kv], nv, .int .i64 g, .bool se] w fun e w' => e = .returned (.int .i64 (varR names g n)) ∧ Below w.heap.size w w' := by
  subst hk
  have hS : ∀ W, Below w.heap.size w W → Calls Tryz.prog 70 #[.agg #[.int .i64 9, .int .i64 p, .string n, .int .i64 s, lv, kv]] W fun e w' => e = .returned (.bool true) ∧ Below W.heap.size W w' := fun W hW => by
    rw [← hs]; exact rshape_any B 9 p s n lv kv ls ts hn W (hB.le hW.size) (hl.keep (hW.keeps'.mono hB)) (hkv.keep (hW.keeps'.mono hB))
  have HS := Lib.hid hS
  have HN := Lib.hid (rsess_is 9 p s n lv kv true rfl)
  obtain ⟨pa, len, c, rfl, hlen, hm, hget⟩ := hkv.open
  obtain ⟨la, ln, lc, rfl, hlln, hlm, hlget⟩ := hl.open
  obtain ⟨na, nn, nc, rfl, hnln, hnm, hnget⟩ := hnv.open
  have HG := Lib.hid hnget
  clear hget hlget hl hkv hS hlen hlln hs hnget hnv
  have HM := Lib.hid hnln.out
  generalize hT : 27 = T0
  cases se
  all_goals
    subst hT
    go_enter Tryz.func54, Tryz.ntmps54
    go_wp2_with (first | (go_at_call 70; refine (HS.out _ (blkBelow w _ _)).mono ?_; rintro e w2 ⟨rfl, hb2⟩; obtain ⟨hcl, hfz⟩ := bcell hb2) | (go_at_call 71; refine (HN.out _).mono ?_; rintro e w3 ⟨rfl, hb3⟩; obtain ⟨hcl3, hfz3⟩ := bcell (below_seq hb2 hb3)))
    clear HS HN hcl hfz
    try clear hcl3 hfz3
    go_loopw [9] (fun i wr => ∃ (j : Nat), i = .int .i64 ((j : Int) - 1) ∧ j ≤ nn ∧ Hid (vR names g n j = varR names g n) ∧ Below (w.heap.size + 1) (w.alloc (.cells #[.int .i64 9, .int .i64 p, .string n, .int .i64 s, .slice la ln lc, .slice pa len c] 27)) wr) (fun i _ => (intOf i + 1).toNat)
    case atStart => exact ⟨nn, rfl, by omega, Lib.hid (by unfold varR; rw [HM.out]), by first | (simpa using hb2) | (simpa using below_seq hb2 hb3)⟩
    case round =>
      obtain ⟨j, rfl, hj, HT, hb⟩ := hrel
      have c2 := blk_cell hb 2 rfl
      have hw := blk_below hb
      cases j with
      | zero =>
        go_wp2_with fail
        go_ret
        exact ⟨by rw [← HT.out]; rfl, hw⟩
      | succ j =>
        rw [show (((j + 1 : Nat) : Int) - 1) = (j : Int) by omega]
        obtain ⟨x, hx⟩ : ∃ x, names[j]? = some x := ⟨_, List.getElem?_eq_getElem (by rw [← hnln.out]; omega)⟩
        obtain ⟨_, kb, ko, rfl, hkb, hc⟩ := HG.out j x hx
        replace hc := (hw.cell (p := ⟨kb, ko + j, none⟩) (hB _ hkb)).trans hc
        by_cases he : x = n
        · subst he
          have HV := Lib.hid (HT.out.symm.trans (by rw [vR, hx, if_pos rfl]))
          clear hx
          by_cases hjg : j < g
          · rw [if_pos hjg] at HV
            go_wp2_with fail
            go_quiet (fail)
            go_wp2_with fail
            go_ret
            exact ⟨ret_int HV.out.symm, below_drewN hw _⟩
          · rw [if_neg hjg] at HV
            go_wp2_with fail
            go_quiet (fail)
            go_wp2_with fail
            go_ret
            exact ⟨ret_int HV.out.symm, below_drewN hw _⟩
        · have HV : Hid (vR names g n j = varR names g n) := Lib.hid (Eq.trans (by rw [vR, hx, if_neg (by simpa using he)]) HT.out)
          have h1 := str_ne he
          have h2 : (x.toList == n.toList) = false := by simpa using h1
          clear hx he
          go_wp2_with fail
          go_quiet (fail)
          go_wp2_with fail
          go_roundw
          case rel => exact ⟨j, rfl, by omega, HV, below_drewN hb _⟩
          case measure => (simp [intOf]) <;> omega

theorem kidsR_drop {names : List ByteArray} {g : Nat} {f : Bool} {ts : List Ty} {j : Nat} {t : Ty} (h : ts[j]? = some t) :
    kidsR names g f j (ts.drop j) = if nodeR names g (f || decide (0 < j)) t = 0 then kidsR names g f (j + 1) (ts.drop (j + 1)) else nodeR names g (f || decide (0 < j)) t := by
  have hj := (List.getElem?_eq_some_iff.1 h).1
  have e : ts.drop j = t :: ts.drop (j + 1) := by rw [List.drop_eq_getElem_cons hj]; congr 1; exact (List.getElem?_eq_some_iff.1 h).2
  rw [e, kidsR]
def box1 (w : World) (k p : Int) (n : ByteArray) (s : Int) (lv kv : Value) : World := w.alloc (.cells #[.int .i64 k, .int .i64 p, .string n, .int .i64 s, lv, kv] 27)
theorem box1_size (w : World) (k p : Int) (n : ByteArray) (s : Int) (lv kv : Value) : (box1 w k p n s lv kv).heap.size = w.heap.size + 1 := by simp [box1]

set_option maxHeartbeats 2000000 in
set_option maxRecDepth 100000 in
theorem rnode_kids (B : Nat → Prop) (k p s : Int) (n : ByteArray) (lv kv nv : Value) (names : List ByteArray) (g : Nat) (se : Bool) (ls : List ByteArray) (ts : List Ty) (hn : n.size ≤ maxLen) (w : World) (hB : Low B w) (hl : StrSl B w lv ls) (hkv : TySl B w kv ts) (hnv : StrSl B w nv names)
    (ih : ∀ t ∈ ts, NodeAt t) (hd : names.length + Ty.depths ts ≤ 1000) (hk : k ≠ 9 ∧ k ≠ 8) (hs : shapeC k p s n ls ts.length = true) (hse : se = true → sessK k = true) :
    Calls Tryz.prog 54 #[.agg #[.int .i64 k, .int .i64 p, .string n, .int .i64 s, lv, kv], nv, .int .i64 g, .bool se] w fun e w' => e = .returned (.int .i64 (kidsR names names.length (decide (5 < k)) 0 ts)) ∧ Below w.heap.size w w' := by
  have hS : ∀ W, Below w.heap.size w W → Calls Tryz.prog 70 #[.agg #[.int .i64 k, .int .i64 p, .string n, .int .i64 s, lv, kv]] W fun e w' => e = .returned (.bool true) ∧ Below W.heap.size W w' := fun W hW => by
    rw [← hs]; exact rshape_any B k p s n lv kv ls ts hn W (hB.le hW.size) (hl.keep (hW.keeps'.mono hB)) (hkv.keep (hW.keeps'.mono hB))
  have HS := Lib.hid hS
  obtain ⟨pa, len, c, rfl, hlen, hm, hget⟩ := hkv.open
  obtain ⟨la, ln, lc, rfl, hlln, hlm, hlget⟩ := hl.open
  have HNV := Lib.hid hnv
  have HIH := Lib.hid ih
  obtain ⟨na, nn, nc, rfl, hnln, hnm, hnget⟩ := hnv.open
  have HG := Lib.hid hget
  have HM := Lib.hid hnln.out
  obtain ⟨h9, h8⟩ := hk
  have e9 : (k == 9) = false := by simpa using h9
  have e8 : (k == 8) = false := by simpa using h8
  have HN := Lib.hid (fun h : se = true => rsess_is k p s n (.slice la ln lc) (.slice pa len c) true (hse h))
  have hd1 : nn ≤ 1000 := by rw [hnln.out]; omega
  have HD := Lib.hid hd
  clear hget hlget hl hkv hS hlln hs hnget hnv ih h9 h8 hn hse hd
  cases se
  all_goals
    go_enter Tryz.func54, Tryz.ntmps54
    go_wp2_with (first | (go_at_call 70; refine (HS.out _ (blkBelow w _ _)).mono ?_; rintro e w2 ⟨rfl, hb2⟩; obtain ⟨hcl, hfz⟩ := bcell hb2) | (go_at_call 71; refine (HN.out (by first | rfl | trivial) _).mono ?_; rintro e w3 ⟨rfl, hb3⟩; obtain ⟨hcl3, hfz3⟩ := bcell (below_seq hb2 hb3)))
    clear HS HN hcl hfz
    try clear hcl3 hfz3
    go_loopw [10] (fun i wr => ∃ (j : Nat), i = .int .i64 (j : Int) ∧ j ≤ len ∧ Hid (kidsR names names.length (decide (5 < k)) j (ts.drop j) = kidsR names names.length (decide (5 < k)) 0 ts) ∧ Below (w.heap.size + 1) (box1 w k p n s (.slice la ln lc) (.slice pa len c)) wr) (fun i _ => len - (intOf i).toNat)
    case atStart => exact ⟨0, rfl, by omega, Lib.hid rfl, by unfold box1; first | (simpa using hb2) | (simpa using below_seq hb2 hb3)⟩
    case round =>
      obtain ⟨j, rfl, hj, HT, hb⟩ := hrel
      have c5 := blk_cell hb 5 rfl
      have hw := blk_below hb
      by_cases hlt : j < len
      · obtain ⟨t, ht⟩ : ∃ t, ts[j]? = some t := ⟨_, List.getElem?_eq_getElem (by rw [← hlen.out]; exact hlt)⟩
        obtain ⟨kb, ko, rfl, hkb, hty⟩ := HG.out j t ht
        obtain ⟨la1, ln1, lc1, ka1, kn1, kc1, ⟨d0, d1, d2, d3, d4, d5⟩, hval⟩ := hty.load'
        obtain ⟨bb, hbb⟩ : ∃ bb, (decide (5 < k) || decide (0 < j)) = bb := ⟨_, rfl⟩
        obtain ⟨e0, he0⟩ : ∃ e0, nodeR names names.length bb t = e0 := ⟨_, rfl⟩
        have hstep := kidsR_drop (names := names) (g := names.length) (f := decide (5 < k)) ht
        rw [HT.out, hbb, he0] at hstep
        have IH : ∀ q : Later (w.heap.size + 1) (box1 w k p n s (.slice la ln lc) (.slice (some ⟨kb, ko, none⟩) len c)), Calls Tryz.prog 54 #[.agg #[.int .i64 t.k, .int .i64 t.p, .string t.n, .int .i64 t.s, .slice la1 ln1 lc1, .slice ka1 kn1 kc1], .slice na nn nc, .int .i64 nn, .bool bb] q.1 fun e w' => e = .returned (.int .i64 e0) ∧ Below q.1.heap.size q.1 w' := fun q => by
          have hq := blk_below q.2
          have := HIH.out t (List.mem_of_getElem? ht) B names nn bb _ _ q.1 (hB.le hq.size) (hval.keep (hq.keeps'.mono hB)) (HNV.out.keep (hq.keeps'.mono hB)) (by have := HD.out; have := Ty.depth_mem (List.mem_of_getElem? ht); omega)
          rw [HM.out, he0] at this
          rw [HM.out]; exact this
        have HI := Lib.hid IH
        have q5 : ∀ q : Later (w.heap.size + 1) (box1 w k p n s (.slice la ln lc) (.slice (some ⟨kb, ko, none⟩) len c)), q.1.cell? ⟨w.heap.size, 5, none⟩ = some (.slice (some ⟨kb, ko, none⟩) len c) := fun q => blk_cell q.2 5 rfl
        have q0 : ∀ q : Later (w.heap.size + 1) (box1 w k p n s (.slice la ln lc) (.slice (some ⟨kb, ko, none⟩) len c)), q.1.cell? ⟨w.heap.size, 0, none⟩ = some (.int .i64 k) := fun q => blk_cell q.2 0 rfl
        have p0 : ∀ q : Later (w.heap.size + 1) (box1 w k p n s (.slice la ln lc) (.slice (some ⟨kb, ko, none⟩) len c)), q.1.cell? ⟨kb, ko + j * 6, none⟩ = some (.int .i64 t.k) := fun q => ((blk_below q.2).cell (p := ⟨kb, _, none⟩) (hB _ hkb)).trans d0
        have p1 : ∀ q : Later (w.heap.size + 1) (box1 w k p n s (.slice la ln lc) (.slice (some ⟨kb, ko, none⟩) len c)), q.1.cell? ⟨kb, ko + j * 6 + 1, none⟩ = some (.int .i64 t.p) := fun q => ((blk_below q.2).cell (p := ⟨kb, _, none⟩) (hB _ hkb)).trans d1
        have p2 : ∀ q : Later (w.heap.size + 1) (box1 w k p n s (.slice la ln lc) (.slice (some ⟨kb, ko, none⟩) len c)), q.1.cell? ⟨kb, ko + j * 6 + 2, none⟩ = some (.string t.n) := fun q => ((blk_below q.2).cell (p := ⟨kb, _, none⟩) (hB _ hkb)).trans d2
        have p3 : ∀ q : Later (w.heap.size + 1) (box1 w k p n s (.slice la ln lc) (.slice (some ⟨kb, ko, none⟩) len c)), q.1.cell? ⟨kb, ko + j * 6 + 3, none⟩ = some (.int .i64 t.s) := fun q => ((blk_below q.2).cell (p := ⟨kb, _, none⟩) (hB _ hkb)).trans d3
        have p4 : ∀ q : Later (w.heap.size + 1) (box1 w k p n s (.slice la ln lc) (.slice (some ⟨kb, ko, none⟩) len c)), q.1.cell? ⟨kb, ko + j * 6 + 4, none⟩ = some (.slice la1 ln1 lc1) := fun q => ((blk_below q.2).cell (p := ⟨kb, _, none⟩) (hB _ hkb)).trans d4
        have p5 : ∀ q : Later (w.heap.size + 1) (box1 w k p n s (.slice la ln lc) (.slice (some ⟨kb, ko, none⟩) len c)), q.1.cell? ⟨kb, ko + j * 6 + 5, none⟩ = some (.slice ka1 kn1 kc1) := fun q => ((blk_below q.2).cell (p := ⟨kb, _, none⟩) (hB _ hkb)).trans d5
        have hkw := hB kb hkb
        have hj0 : (0 : Int) ≤ (j : Int) := by omega
        have hj1 : (j : Int) ≤ (len : Int) := by omega
        have HE := Lib.hid hstep
        clear d0 d1 d2 d3 d4 d5 hval hty IH he0 hstep ht
        have hsz1 : w.heap.size + 1 ≤ (box1 w k p n s (.slice la ln lc) (.slice (some ⟨kb, ko, none⟩) len c)).heap.size := by rw [box1_size]; omega
        by_cases hz : 0 < j
        · obtain rfl : bb = true := by rw [← hbb]; simp [hz]
          have hz' : decide ((0 : Int) < (j : Int)) = true := by simpa using hz
          clear hbb
          go_wp2_with fail
          refine wp_region_later (w.heap.size + 1) (box1 w k p n s (.slice la ln lc) (.slice (some ⟨kb, ko, none⟩) len c)) (by kernel_rfl) (by kernel_rfl) hb ?_
          repeat (go_big_quiet_step (first | (go_at_call 54; exact later_call _ hsz1 (HI.out _))))
          refine wpQuiet_nil ?_
          rintro _ ⟨⟨w5, hb5⟩, rfl⟩
          clear q0 q5 p0 p1 p2 p3 p4 p5 hj0 hj1 hz'
          by_cases h0 : e0 = 0
          · subst h0
            go_wp2_with fail
            go_roundw
            case rel => exact ⟨j + 1, by go_num, by omega, Lib.hid (by have := HE.out; rw [if_pos rfl] at this; exact this.symm), hb5⟩
            case measure => simp [intOf]; omega
          · have h1 : (e0 != 0) = true := by simpa using h0
            have HZ := Lib.hid h0
            clear h0
            go_wp2_with fail
            go_ret
            exact ⟨ret_int (by have := HE.out; rw [if_neg HZ.out] at this; exact this.symm), blk_below hb5⟩
        · have hz' : decide ((0 : Int) < (j : Int)) = false := by simp; omega
          have hbb' : decide (5 < k) = bb := by rw [← hbb]; simp [hz]
          have hz2 : decide (0 < j) = false := by simpa using hz
          clear hbb
          cases bb
          all_goals
            go_wp2_with fail
            refine wp_region_later (w.heap.size + 1) (box1 w k p n s (.slice la ln lc) (.slice (some ⟨kb, ko, none⟩) len c)) (by kernel_rfl) (by kernel_rfl) hb ?_
            repeat (go_big_quiet_step (first | (go_at_call 54; exact later_call _ hsz1 (HI.out _))))
            refine wpQuiet_nil ?_
            rintro _ ⟨⟨w5, hb5⟩, rfl⟩
            clear q0 q5 p0 p1 p2 p3 p4 p5 hj0 hj1 hz' hbb'
            by_cases h0 : e0 = 0
            · subst h0
              go_wp2_with fail
              go_roundw
              case rel => exact ⟨j + 1, by go_num, by omega, Lib.hid (by have := HE.out; rw [if_pos rfl] at this; exact this.symm), hb5⟩
              case measure => simp [intOf]; omega
            · have h1 : (e0 != 0) = true := by simpa using h0
              have HZ := Lib.hid h0
              clear h0
              go_wp2_with fail
              go_ret
              exact ⟨ret_int (by have := HE.out; rw [if_neg HZ.out] at this; exact this.symm), blk_below hb5⟩
      · obtain rfl : j = len := by omega
        go_wp2_with fail
        go_ret
        exact ⟨ret_int (by rw [← HT.out, List.drop_of_length_le (by rw [hlen.out]; exact Nat.le_refl _), kidsR]), hw⟩

end Go.Proofs.YtgmdmbmkljbgiaaGreatDoor

/- Types: the reference's walk at a TRec. -/
namespace Go.Proofs.YtgmdmbmkljbgiaaGreatDoor
open Go.RowKit

theorem strInfo' : (Tryz.prog.info? 9).map (fun i => (i.zero, i.size, i.bytes)) = some (some (.string ⟨#[]⟩), 1, 16) := by kernel_rfl

theorem fresh_row (w0 : World) (base : Nat) (h : base ≤ w0.heap.size) : (w0.alloc (.cells #[] 9)).ownsRow base 9 1 (.slice (some ⟨w0.heap.size, 0, none⟩) 0 0) 0 [] :=
  ⟨rfl, .inr ⟨w0.heap.size, 0, #[], rfl, h, heap_alloc_new w0 _, Nat.le_refl _, by unfold maxLen; omega, rfl, rfl⟩⟩

theorem strSl_of_row {w : World} {base g n cap : Nat} {ls : List ByteArray} (h : w.ownsRow base 9 1 (.slice (some ⟨g, 0, none⟩) n cap) n (ls.map .string)) (hn : n ≤ 1000000) (hs : ∀ s ∈ ls, s.size ≤ maxLen) : StrSl (fun k => k < w.heap.size) w (.slice (some ⟨g, 0, none⟩) n cap) ls := by
  have hl := h.1
  simp only [List.length_map, Nat.mul_one] at hl
  subst hl
  rcases h.2 with ⟨h, _⟩ | ⟨g', cap', cur, hv, hb, hg, hnc, hcm, hcs, htake⟩
  · cases h
  · simp only [Value.slice.injEq, Option.some.injEq, Addr.mk.injEq, and_true, true_and] at hv
    obtain ⟨rfl, rfl⟩ := hv
    have hlt : g < w.heap.size := by
      rcases Nat.lt_or_ge g w.heap.size with hlt | hge
      · exact hlt
      · rw [Array.getElem?_eq_none hge] at hg; cases hg
    refine ⟨.inr ⟨g, 0, cap, rfl, hlt, hnc, fun j s hj => ?_⟩, by unfold maxLen; omega, hs⟩
    rw [Nat.zero_add, cell_of_row w g j cur 9 (0, 0) hg]
    have e : (ls.map Value.string)[j]? = some (.string s) := by rw [List.getElem?_map, hj]; rfl
    rw [← htake, Nat.mul_one, List.getElem?_take] at e
    split at e
    · simpa using e
    · cases e

theorem fresh_row' (w0 : World) (base b : Nat) (hb : b = w0.heap.size) (h : base ≤ w0.heap.size) : (w0.alloc (.cells #[] 9)).ownsRow base 9 1 (.slice (some ⟨b, 0, none⟩) 0 0) 0 [] := by
  subst hb; exact fresh_row w0 base h

theorem run_append_empty (base : Nat) (ty : TypeId) (b0 c0 n0 : Nat) (xs : List Value) (w : World) (hown : w.ownsRow base 9 1 (.slice (some ⟨b0, 0, none⟩) n0 c0) n0 xs) (a : Option Addr) (c : Nat) :
    (Builtin.append_ #[23, 23] ty #[.slice (some ⟨b0, 0, none⟩) n0 c0, .slice a 0 c]).run Tryz.prog w = .ok (.slice (some ⟨b0, 0, none⟩) n0 c0) w := by
  obtain ⟨i0, hi, hz0, hz1, hz2⟩ := info_parts strInfo'
  have ht := Tryz.underlying23
  rcases hown.2 with ⟨e, _⟩ | ⟨g, cap, cur, e, _, _, hnc, _⟩
  · cases e
  · simp only [Value.slice.injEq] at e
    obtain ⟨_, _, rfl⟩ := e
    cases a with
    | none => simp [Builtin.append_, run_underlying ht, sizeOf, typeInfo, hi, Builtin.lenOf, Builtin.firstCells, hnc, storeCells]
    | some ad => simp [Builtin.append_, run_underlying ht, sizeOf, typeInfo, hi, Builtin.lenOf, Builtin.firstCells, hnc, storeCells, loadCells, loadCellsFrom]

/-- append of a list of texts to a row of one's own. -/
theorem run_append_strs (base : Nat) (ty : TypeId) (b0 c0 n0 : Nat) (xs : List Value) (w : World) (hown : w.ownsRow base 9 1 (.slice (some ⟨b0, 0, none⟩) n0 c0) n0 xs) (B : Nat → Prop) (na : Option Addr) (nn nc : Nat) (names : List ByteArray) (hnv : StrSl B w (.slice na nn nc) names) (h63 : n0 + nn ≤ 1000000) (hbase : base ≤ w.heap.size) :
    ∃ g cap w', (Builtin.append_ #[23, 23] ty #[.slice (some ⟨b0, 0, none⟩) n0 c0, .slice na nn nc]).run Tryz.prog w = .ok (.slice (some ⟨g, 0, none⟩) (n0 + nn) cap) w' ∧ w'.ownsRow base 9 1 (.slice (some ⟨g, 0, none⟩) (n0 + nn) cap) (n0 + nn) (xs ++ names.map .string) ∧ w.grownBy w' (some b0) := by
  obtain ⟨i0, hi, hz0, hz1, hz2⟩ := info_parts strInfo'
  rcases hnv.1 with ⟨⟨a, c, e⟩, rfl⟩ | ⟨b, o, c, e, _, _, hrow⟩
  · cases e
    refine ⟨b0, c0, w, run_append_empty base ty b0 c0 n0 xs w hown na nc, by simpa using hown, ⟨rfl, rfl, rfl, Nat.le_refl _, fun _ _ _ => rfl⟩⟩
  · cases e
    obtain ⟨v', w', hr, h2, h3, h4, _⟩ := run_append_own_at (P := Tryz.prog) w base 23 ty 9 i0 _ 1 16 Tryz.underlying23 hi hz0 hz1 hz2 rfl (by decide) _ _ xs hown ⟨b, o, none⟩ names.length nc (names.map .string) (by simp) (fun j u hj => by
      rw [List.getElem?_map] at hj
      cases hx : names[j]? with
      | none => simp [hx] at hj
      | some x => simp [hx] at hj; subst hj; have hc := hrow j x hx; cases j with | zero => simpa [Addr.add] using hc | succ j => simpa [Addr.add] using hc) (fun u hu => by
      obtain ⟨x, _, rfl⟩ := List.mem_map.1 hu; rfl) (by unfold maxLen; omega) (by omega) hbase
    rcases h2.2 with ⟨rfl, h0⟩ | ⟨g, cap, cur, rfl, r⟩
    · have := h4.1 rfl
      cases this.1
    · exact ⟨g, cap, w', hr, h2, h3⟩

theorem step_append_strs {ops : Array Oper} {o : Oper} {a : Act} {w : World} {K : Act → World → Prop} {Q : Exit → Act → World → Prop} {E : Prop} (hgd : o.guard = none) (s x : Operand)
    (ho : o.op = .call { callee := .builtin .append, args := #[s, x], argTypes := #[23, 23] })
    (base b0 c0 n0 : Nat) (xs : List Value) (hs : a.eval s = .slice (some ⟨b0, 0, none⟩) n0 c0) (hown : w.ownsRow base 9 1 (.slice (some ⟨b0, 0, none⟩) n0 c0) n0 xs)
    (B : Nat → Prop) (na : Option Addr) (nn nc : Nat) (names : List ByteArray) (hx : a.eval x = .slice na nn nc) (hnv : StrSl B w (.slice na nn nc) names) (h63 : n0 + nn ≤ 1000000) (m : Nat) (zs : List Value) (hm : n0 + nn = m) (hz : xs ++ names.map .string = zs) (hbase : base ≤ w.heap.size)
    (h : ∀ g cap w', w'.ownsRow base 9 1 (.slice (some ⟨g, 0, none⟩) m cap) m zs → w.grownBy w' (some b0) → K (a.put o.dst (.slice (some ⟨g, 0, none⟩) m cap)) w') :
    if Region.wanted o (yielded ops a.tmps) = true then Oper.wp Tryz.prog o a w K Q else E := by
  subst hm hz
  have hw : Region.wanted o (yielded ops a.tmps) = true := by simp [Region.wanted, hgd]
  rw [if_pos hw]
  obtain ⟨g, cap, w', hr, h2, h3⟩ := run_append_strs base o.type b0 c0 n0 xs w hown B na nn nc names hnv h63 hbase
  unfold Oper.wp execOp
  simp only [ho, resolve, invoke, builtin, Sem.run_bind, Sem.run_pure, Result.andThen_ok, List.map_toArray, List.map_cons, List.map_nil, hs, hx, hr]
  exact h g cap w' h2 h3

theorem own_block {W : World} {base : Nat} {e : TypeId} {size : Nat} {g n cap : Nat} {xs : List Value} (h : W.ownsRow base e size (.slice (some ⟨g, 0, none⟩) n cap) n xs) : base ≤ g ∧ g < W.heap.size := by
  rcases h.2 with ⟨h, _⟩ | ⟨g', cap', cur, hv, hb, hg, _⟩
  · cases h
  · simp only [Value.slice.injEq, Option.some.injEq, Addr.mk.injEq, and_true, true_and] at hv
    obtain ⟨rfl, _⟩ := hv
    refine ⟨hb, ?_⟩
    rcases Nat.lt_or_ge g W.heap.size with hlt | hge
    · exact hlt
    · rw [Array.getElem?_eq_none hge] at hg; cases hg
theorem strSl_one {W : World} {b : Nat} {n : ByteArray} (h : W.cell? ⟨b, 0, none⟩ = some (.string n)) (hn : n.size ≤ maxLen) : StrSl (fun _ => True) W (.slice (some ⟨b, 0, none⟩) 1 1) [n] :=
  ⟨.inr ⟨b, 0, 1, rfl, trivial, Nat.le_refl _, fun j s hj => by
    cases j with
    | zero => simp at hj; subst hj; exact h
    | succ j => simp at hj⟩, by simp [maxLen], fun s hs => by simp at hs; subst hs; exact hn⟩
theorem kidsR_one (names : List ByteArray) (g : Nat) (t : Ty) : kidsR names g true 0 [t] = nodeR names g true t := by
  simp only [kidsR, Bool.true_or]
  split
  · next h => exact h.symm
  · rfl

set_option maxHeartbeats 4000000 in
set_option maxRecDepth 100000 in
theorem rnode_rec (B : Nat → Prop) (k p s : Int) (n : ByteArray) (lv kv nv : Value) (names : List ByteArray) (g : Nat) (se : Bool) (ls : List ByteArray) (ts : List Ty) (hn : n.size ≤ maxLen) (w : World) (hB : Low B w) (hl : StrSl B w lv ls) (hkv : TySl B w kv ts) (hnv : StrSl B w nv names)
    (ih : ∀ t ∈ ts, NodeAt t) (hd : names.length + Ty.depths ts < 1000) (hk : k = 8) (hs : shapeC k p s n ls ts.length = true) :
    Calls Tryz.prog 54 #[.agg #[.int .i64 k, .int .i64 p, .string n, .int .i64 s, lv, kv], nv, .int .i64 g, .bool se] w fun e w' => e = .returned (.int .i64 (kidsR (names ++ [n]) g true 0 ts)) ∧ Below w.heap.size w w' := by
  subst hk
  have hS : ∀ W, Below w.heap.size w W → Calls Tryz.prog 70 #[.agg #[.int .i64 8, .int .i64 p, .string n, .int .i64 s, lv, kv]] W fun e w' => e = .returned (.bool true) ∧ Below W.heap.size W w' := fun W hW => by
    rw [← hs]; exact rshape_any B 8 p s n lv kv ls ts hn W (hB.le hW.size) (hl.keep (hW.keeps'.mono hB)) (hkv.keep (hW.keeps'.mono hB))
  have HS := Lib.hid hS
  have hone : ts.length = 1 := by
    rw [shapeC, if_neg (by omega), if_neg (by omega), if_neg (by omega), if_pos rfl] at hs; simp at hs; exact hs.2.2.2.2
  obtain ⟨t, rfl⟩ : ∃ t, ts = [t] := by
    match ts, hone with
    | [t], _ => exact ⟨t, rfl⟩
  obtain ⟨pa, len, c, rfl, hlen, hm, hget⟩ := hkv.open
  obtain ⟨la, ln, lc, rfl, hlln, hlm, hlget⟩ := hl.open
  have HN := Lib.hid (rsess_is 8 p s n (.slice la ln lc) (.slice pa len c) true rfl)
  have hlen1 : len = 1 := hlen.out
  subst hlen1
  obtain ⟨kb, ko, rfl, hkb, hty⟩ := hget 0 t rfl
  obtain ⟨la1, ln1, lc1, ka1, kn1, kc1, ⟨d0, d1, d2, d3, d4, d5⟩, hval⟩ := hty.load'
  have HNV := Lib.hid hnv
  obtain ⟨na, nn, nc, rfl, hnln, hnm, hnget⟩ := hnv.open
  simp only [Nat.zero_mul, Nat.add_zero] at d0 d1 d2 d3 d4 d5
  have IH := Lib.hid (ih t (by simp))
  have HD := Lib.hid hd
  clear hget hlget hl hkv hS hlln hs hnget hnv hlen hone ih hd
  have HNS := Lib.hid hn
  clear hn
  cases se
  all_goals
    go_enter Tryz.func54, Tryz.ntmps54
    go_wp2_with (first | (go_at_call 70; refine (HS.out _ (blkBelow w _ _)).mono ?_; rintro e w2 ⟨rfl, hb2⟩; obtain ⟨hcl, hfz⟩ := bcell hb2) | (go_at_call 71; refine (HN.out _).mono ?_; rintro e w3 ⟨rfl, hb3⟩; obtain ⟨hcl3, hfz3⟩ := bcell (below_seq hb2 hb3)))
    clear HS HN hcl hfz
    try clear hcl3 hfz3
    obtain ⟨W2, hW2, hbw⟩ : ∃ W2, W2 = (by first | exact w3 | exact w2) ∧ Below (w.heap.size + 1) (box1 w 8 p n s (.slice la ln lc) (.slice (some ⟨kb, ko, none⟩) 1 c)) W2 := ⟨_, rfl, by unfold box1; first | (simpa using below_seq hb2 hb3) | (simpa using hb2)⟩
    rw [← hW2]
    clear hW2 hb2
    try clear hb3
    have hkw := hB kb hkb
    have cells : ∀ W, Below (w.heap.size + 1) (box1 w 8 p n s (.slice la ln lc) (.slice (some ⟨kb, ko, none⟩) 1 c)) W → (W.cell? ⟨w.heap.size, 5, none⟩ = some (.slice (some ⟨kb, ko, none⟩) 1 c) ∧ W.cell? ⟨w.heap.size, 2, none⟩ = some (.string n) ∧ W.cell? ⟨kb, ko, none⟩ = some (.int .i64 t.k) ∧ W.cell? ⟨kb, ko + 1, none⟩ = some (.int .i64 t.p) ∧ W.cell? ⟨kb, ko + 2, none⟩ = some (.string t.n) ∧ W.cell? ⟨kb, ko + 3, none⟩ = some (.int .i64 t.s) ∧ W.cell? ⟨kb, ko + 4, none⟩ = some (.slice la1 ln1 lc1) ∧ W.cell? ⟨kb, ko + 5, none⟩ = some (.slice ka1 kn1 kc1)) ∧ Hid (Below (w.heap.size + 1) (box1 w 8 p n s (.slice la ln lc) (.slice (some ⟨kb, ko, none⟩) 1 c)) W) := fun W hW =>
      ⟨⟨blk_cell hW 5 rfl, blk_cell hW 2 rfl, ((blk_below hW).cell (p := ⟨kb, _, none⟩) hkw).trans d0, ((blk_below hW).cell (p := ⟨kb, _, none⟩) hkw).trans d1, ((blk_below hW).cell (p := ⟨kb, _, none⟩) hkw).trans d2, ((blk_below hW).cell (p := ⟨kb, _, none⟩) hkw).trans d3, ((blk_below hW).cell (p := ⟨kb, _, none⟩) hkw).trans d4, ((blk_below hW).cell (p := ⟨kb, _, none⟩) hkw).trans d5⟩, Lib.hid hW⟩
    obtain ⟨⟨f5, f2, g0, g1, g2, g3, g4, g5⟩, HB⟩ := cells W2 hbw
    have CE := Lib.hid cells
    have hsz2 : w.heap.size + 1 ≤ W2.heap.size := by have := hbw.size; rwa [box1_size] at this
    clear cells d0 d1 d2 d3 d4 d5 hbw
    have HNK : Hid (∀ W, Below (w.heap.size + 1) (box1 w 8 p n s (.slice la ln lc) (.slice (some ⟨kb, ko, none⟩) 1 c)) W → StrSl B W (.slice na nn nc) names) := Lib.hid (fun W hW => HNV.out.keep ((blk_below hW).keeps'.mono hB))
    have hnn : 0 + nn ≤ 1000000 := by have := HD.out; have := hnln.out; omega
    have hnn1 : nn + 1 ≤ 1000000 := by have := HD.out; have := hnln.out; omega
    have HC : Hid (∀ (W6 : World) (g2 cap2 : Nat), Below (w.heap.size + 1) (box1 w 8 p n s (.slice la ln lc) (.slice (some ⟨kb, ko, none⟩) 1 c)) W6 → W6.ownsRow (w.heap.size + 1) 9 1 (.slice (some ⟨g2, 0, none⟩) (nn + 1) cap2) (nn + 1) ((names ++ [n]).map .string) →
        Calls Tryz.prog 54 #[.agg #[.int .i64 t.k, .int .i64 t.p, .string t.n, .int .i64 t.s, .slice la1 ln1 lc1, .slice ka1 kn1 kc1], .slice (some ⟨g2, 0, none⟩) (nn + 1) cap2, .int .i64 g, .bool true] W6 fun e w' => e = .returned (.int .i64 (kidsR (names ++ [n]) g true 0 [t])) ∧ Below W6.heap.size W6 w') := Lib.hid (fun W6 g2 cap2 hB6 ho6 => by
      have hq := blk_below hB6
      rw [kidsR_one]
      refine IH.out (fun k => k < W6.heap.size) (names ++ [n]) g true _ _ W6 (fun _ h => h) ((hval.keep (hq.keeps'.mono hB)).mono (fun k hk => Nat.lt_of_lt_of_le (hB k hk) hq.size)) (strSl_of_row ho6 hnn1 (fun x hx => ?_)) ?_
      · rcases List.mem_append.1 hx with hx | hx
        · exact HNV.out.2.2 x hx
        · simp at hx; subst hx; exact HNS.out
      · have := HD.out; simp [Ty.depths] at this ⊢; omega)
    go_region_held_law (fun W => W.cell? ⟨w.heap.size, 5, none⟩ = some (.slice (some ⟨kb, ko, none⟩) 1 c) ∧ W.cell? ⟨w.heap.size, 2, none⟩ = some (.string n) ∧ W.cell? ⟨kb, ko, none⟩ = some (.int .i64 t.k) ∧ W.cell? ⟨kb, ko + 1, none⟩ = some (.int .i64 t.p) ∧ W.cell? ⟨kb, ko + 2, none⟩ = some (.string t.n) ∧ W.cell? ⟨kb, ko + 3, none⟩ = some (.int .i64 t.s) ∧ W.cell? ⟨kb, ko + 4, none⟩ = some (.slice la1 ln1 lc1) ∧ W.cell? ⟨kb, ko + 5, none⟩ = some (.slice ka1 kn1 kc1))
      (first | go_keep | exact (CE.out _ HB3.out).1 | exact (CE.out _ HB2.out).1 | exact (CE.out _ HB1.out).1 | fail)
      (first
        | (refine step_append_strs (by rfl) _ _ (by rfl) (w.heap.size + 1) W2.heap.size 0 0 [] ?_ ?_ B na nn nc names ?_ ?_ hnn nn (names.map .string) (Nat.zero_add nn) (List.nil_append _) ?_ ?_
           · rfl
           · (repeat (first | (with_reducible refine fresh_row' _ _ _ ?_ ?_ <;> first | omega | rfl | (simp; omega) | (simp; done)) | with_reducible refine World.ownsRow.alloc ?_ _ | with_reducible refine World.ownsRow.drew ?_))
           · rfl
           · exact HNK.out _ (by (repeat (first | with_reducible exact HB.out | with_reducible apply Below.drew | (with_reducible refine Below.alloc ?_ ?_ _; rotate_left; (first | omega | (simp; omega) | (simp; done))))))
           · (simp; omega)
           intro g1 cap1 w5 hown1 hgrow
           have HB1 := Lib.hid (Below.grown (B := w.heap.size + 1) (a := box1 w 8 p n s (.slice la ln lc) (.slice (some ⟨kb, ko, none⟩) 1 c)) (by (repeat (first | with_reducible exact HB.out | with_reducible apply Below.drew | (with_reducible refine Below.alloc ?_ ?_ _; rotate_left; (first | omega | (simp; omega) | (simp; done)))))) hgrow (by simp; omega) (fun k e => by cases e; omega))
           have hz5 : W2.heap.size ≤ w5.heap.size := Nat.le_trans (by first | (simp; done) | (simp; omega)) hgrow.size)
        | (refine step_append_strs (by rfl) _ _ (by rfl) (w.heap.size + 1) (W2.heap.size + 1) 0 0 [] ?_ ?_ B na nn nc names ?_ ?_ hnn nn (names.map .string) (Nat.zero_add nn) (List.nil_append _) ?_ ?_
           · rfl
           · (repeat (first | (with_reducible refine fresh_row' _ _ _ ?_ ?_ <;> first | omega | rfl | (simp; omega) | (simp; done)) | with_reducible refine World.ownsRow.alloc ?_ _ | with_reducible refine World.ownsRow.drew ?_))
           · rfl
           · exact HNK.out _ (by (repeat (first | with_reducible exact HB.out | with_reducible apply Below.drew | (with_reducible refine Below.alloc ?_ ?_ _; rotate_left; (first | omega | (simp; omega) | (simp; done))))))
           · (simp; omega)
           intro g1 cap1 w5 hown1 hgrow
           have HB1 := Lib.hid (Below.grown (B := w.heap.size + 1) (a := box1 w 8 p n s (.slice la ln lc) (.slice (some ⟨kb, ko, none⟩) 1 c)) (by (repeat (first | with_reducible exact HB.out | with_reducible apply Below.drew | (with_reducible refine Below.alloc ?_ ?_ _; rotate_left; (first | omega | (simp; omega) | (simp; done)))))) hgrow (by simp; omega) (fun k e => by cases e; omega))
           have hz5 : W2.heap.size ≤ w5.heap.size := Nat.le_trans (by first | (simp; done) | (simp; omega)) hgrow.size)
        | (refine step_append_strs (by rfl) _ _ (by rfl) (w.heap.size + 1) g1 cap1 nn (names.map .string) ?_ ?_ (fun _ => True) (some ⟨w5.heap.size, 0, none⟩) 1 1 [n] ?_ ?_ hnn1 (nn + 1) ((names ++ [n]).map .string) rfl (by rw [List.map_append]) ?_ ?_
           · rfl
           · (first | exact hown1 | exact hown1.drew | exact (hown1.alloc _).drew | exact (hown1.alloc _))
           · rfl
           · (refine strSl_one ?_ HNS.out; first | (simp; done) | (exact hgrow.cell (by simp) (by simp)) | (exact hgrow.cell (by simp) (by simp; omega)) | (simp; exact hgrow.cell (by simp) (by simp)))
           · (first | omega | (simp; omega))
           intro g2 cap2 w6 hown2 hgrow2
           have HB2 := Lib.hid (Below.grown (B := w.heap.size + 1) (a := box1 w 8 p n s (.slice la ln lc) (.slice (some ⟨kb, ko, none⟩) 1 c)) (by (repeat (first | with_reducible exact HB1.out | with_reducible apply Below.drew | (with_reducible refine Below.alloc ?_ ?_ _; rotate_left; (first | omega | (simp; omega) | (simp; done)))))) hgrow2 (by first | omega | (simp; omega)) (fun k e => by cases e; exact (own_block hown1).1))
           have hz6 : w5.heap.size ≤ w6.heap.size := Nat.le_trans (by first | (simp; done) | (simp; omega)) hgrow2.size)
        | (refine step_append_strs (by rfl) _ _ (by rfl) (w.heap.size + 1) g1 cap1 nn (names.map .string) ?_ ?_ (fun _ => True) (some ⟨W2.heap.size, 0, none⟩) 1 1 [n] ?_ ?_ hnn1 (nn + 1) ((names ++ [n]).map .string) rfl (by rw [List.map_append]) ?_ ?_
           · rfl
           · (first | exact hown1 | exact hown1.drew | exact (hown1.alloc _).drew | exact (hown1.alloc _))
           · rfl
           · (refine strSl_one ?_ HNS.out; first | (simp; done) | (exact hgrow.cell (by simp) (by simp)) | (exact hgrow.cell (by simp) (by simp; omega)) | (simp; exact hgrow.cell (by simp) (by simp)))
           · (first | omega | (simp; omega))
           intro g2 cap2 w6 hown2 hgrow2
           have HB2 := Lib.hid (Below.grown (B := w.heap.size + 1) (a := box1 w 8 p n s (.slice la ln lc) (.slice (some ⟨kb, ko, none⟩) 1 c)) (by (repeat (first | with_reducible exact HB1.out | with_reducible apply Below.drew | (with_reducible refine Below.alloc ?_ ?_ _; rotate_left; (first | omega | (simp; omega) | (simp; done)))))) hgrow2 (by first | omega | (simp; omega)) (fun k e => by cases e; exact (own_block hown1).1))
           have hz6 : w5.heap.size ≤ w6.heap.size := Nat.le_trans (by first | (simp; done) | (simp; omega)) hgrow2.size)
        | (refine step_append_strs (by rfl) _ _ (by rfl) (w.heap.size + 1) g1 cap1 nn (names.map .string) ?_ ?_ (fun _ => True) (some ⟨(W2.heap.size + 1), 0, none⟩) 1 1 [n] ?_ ?_ hnn1 (nn + 1) ((names ++ [n]).map .string) rfl (by rw [List.map_append]) ?_ ?_
           · rfl
           · (first | exact hown1 | exact hown1.drew | exact (hown1.alloc _).drew | exact (hown1.alloc _))
           · rfl
           · (refine strSl_one ?_ HNS.out; first | (simp; done) | (exact hgrow.cell (by simp) (by simp)) | (exact hgrow.cell (by simp) (by simp; omega)) | (simp; exact hgrow.cell (by simp) (by simp)))
           · (first | omega | (simp; omega))
           intro g2 cap2 w6 hown2 hgrow2
           have HB2 := Lib.hid (Below.grown (B := w.heap.size + 1) (a := box1 w 8 p n s (.slice la ln lc) (.slice (some ⟨kb, ko, none⟩) 1 c)) (by (repeat (first | with_reducible exact HB1.out | with_reducible apply Below.drew | (with_reducible refine Below.alloc ?_ ?_ _; rotate_left; (first | omega | (simp; omega) | (simp; done)))))) hgrow2 (by first | omega | (simp; omega)) (fun k e => by cases e; exact (own_block hown1).1))
           have hz6 : w5.heap.size ≤ w6.heap.size := Nat.le_trans (by first | (simp; done) | (simp; omega)) hgrow2.size)
        | (go_simp
           go_at_call 54
           refine (HC.out _ _ _ (by (repeat (first | with_reducible exact HB2.out | with_reducible apply Below.drew | (with_reducible refine Below.alloc ?_ ?_ _; rotate_left; (first | omega | (simp; omega) | (simp; done)))))) (by first | exact hown2 | exact hown2.drew)).mono ?_
           rintro e w7 ⟨rfl, hb7⟩
           dsimp only
           have HB3 := Lib.hid (Below.trans (by (repeat (first | with_reducible exact HB2.out | with_reducible apply Below.drew | (with_reducible refine Below.alloc ?_ ?_ _; rotate_left; (first | omega | (simp; omega) | (simp; done))))) : Below (w.heap.size + 1) (box1 w 8 p n s (.slice la ln lc) (.slice (some ⟨kb, ko, none⟩) 1 c)) _) (hb7.mono (by first | omega | (simp; omega)))))
        | fail)
    all_goals (go_wp2_with fail)
    all_goals go_ret
    all_goals exact ⟨rfl, blk_below HB3.out⟩

theorem rnode_any : ∀ t : Ty, NodeAt t := by
  refine Ty.ind ?_
  intro k p n s ls ts ih B names g se v nv w hB hv hnv hd
  obtain ⟨lv, kv, rfl, hn, hl, hkv⟩ := hv
  simp only [Ty.k, Ty.p, Ty.n, Ty.s, Ty.ls, Ty.ts] at hn hl hkv ⊢
  rw [Ty.depth_eq] at hd
  simp only [Ty.ts] at hd
  rw [nodeR]
  by_cases hbad : shapeC k p s n ls ts.length = false ∨ (se = true ∧ sessK k = false)
  · rw [if_pos hbad]
    exact rnode_bad B k p s n lv kv nv g se ls ts hn w hB hl hkv hbad
  · rw [if_neg hbad]
    have hs : shapeC k p s n ls ts.length = true := by
      cases e : shapeC k p s n ls ts.length with
      | true => rfl
      | false => exact absurd (.inl e) hbad
    have hse : se = true → sessK k = true := fun h => by
      cases e : sessK k with
      | true => rfl
      | false => exact absurd (.inr ⟨h, e⟩) hbad
    by_cases h9 : k = 9
    · rw [if_pos h9]
      exact rnode_var B k p s n lv kv nv names g se ls ts hn w hB hl hkv hnv h9 hs
    · rw [if_neg h9]
      by_cases h8 : k = 8
      · rw [if_pos h8]
        exact rnode_rec B k p s n lv kv nv names g se ls ts hn w hB hl hkv hnv ih (by omega) h8 hs
      · rw [if_neg h8]
        exact rnode_kids B k p s n lv kv nv names g se ls ts hn w hB hl hkv hnv ih (by omega) ⟨h9, h8⟩ hs hse

end Go.Proofs.YtgmdmbmkljbgiaaGreatDoor

/- Types: the reference's Right. -/
namespace Go.Proofs.YtgmdmbmkljbgiaaGreatDoor
open Go.RowKit

set_option maxHeartbeats 1000000 in
theorem rright_any (B : Nat → Prop) (t : Ty) (v : Value) (w : World) (hsz : t.size ≤ 1000000) (hB : Low B w) (hv : TyVal B w v t) :
    Calls Tryz.prog 36 #[v] w fun e w' => e = .returned (.int .i64 (rightE t)) ∧ Below w.heap.size w w' := by
  have hds := t.depth_le_size
  have HDp := Lib.hid (fun W (hW : Below w.heap.size w W) => rdepth_any B t (by omega) v W (hB.le hW.size) (hv.keep (hW.keeps'.mono hB)))
  have HSz := Lib.hid (fun W (hW : Below w.heap.size w W) => rsize_any B t hsz v W (hB.le hW.size) (hv.keep (hW.keeps'.mono hB)))
  have HNd := Lib.hid (fun W (hW : Below w.heap.size w W) (hd : t.depth ≤ 100) => rnode_any t B [] 0 false v (.slice none 0 0) W (hB.le hW.size) (hv.keep (hW.keeps'.mono hB)) ⟨.inl ⟨⟨_, _, rfl⟩, rfl⟩, by simp [maxLen], fun s hs => by cases hs⟩ (by simp; omega))
  rw [rightE_eq]
  obtain ⟨lv, kv, rfl, hn, hl, hk⟩ := hv
  obtain ⟨pa, len, c, rfl, hlen, hm, hget⟩ := hk.open
  obtain ⟨la, ln, lc, rfl, hlln, hlm, hlget⟩ := hl.open
  obtain ⟨d, hd⟩ : ∃ d, t.depth = d := ⟨_, rfl⟩
  obtain ⟨z, hz⟩ : ∃ z, t.size = z := ⟨_, rfl⟩
  have HL1 : Hid (100 < d → t.large = true) := Lib.hid (fun h => by simp [Ty.large]; omega)
  have HL2 : Hid (10000 < z → t.large = true) := Lib.hid (fun h => by simp [Ty.large]; omega)
  have HL3 : Hid (¬ 100 < d → ¬ 10000 < z → t.large = false) := Lib.hid (fun h h' => by simp [Ty.large]; omega)
  rw [hd] at HDp HNd hds
  rw [hz] at HSz hsz hds
  clear hget hlget hl hk hlen hlln hn hd hz hB
  have b0 := blkBelow w #[.int .i64 t.k, .int .i64 t.p, .string t.n, .int .i64 t.s, .slice la ln lc, .slice pa len c] 27
  have HB0 := Lib.hid b0
  clear b0
  by_cases h1 : 100 < d
  · have h1' : decide ((100 : Int) < (d : Int)) = true := by simp; omega
    rw [HL1.out h1, if_pos rfl]
    go_enter Tryz.func36, Tryz.ntmps36
    go_wp2_with (go_at_call 44; refine (HDp.out _ HB0.out).mono ?_; rintro e w2 ⟨rfl, hb2⟩; obtain ⟨hcl, hfz⟩ := bcell hb2)
    go_ret
    exact ⟨rfl, below_seq HB0.out hb2⟩
  · have h1' : decide ((100 : Int) < (d : Int)) = false := by simp; omega
    by_cases h2 : 10000 < z
    · have h2' : decide ((10000 : Int) < (z : Int)) = true := by simp; omega
      rw [HL2.out h2, if_pos rfl]
      go_enter Tryz.func36, Tryz.ntmps36
      go_wp2_with (first | (go_at_call 44; refine (HDp.out _ HB0.out).mono ?_; rintro e w2 ⟨rfl, hb2⟩; obtain ⟨hcl, hfz⟩ := bcell hb2) | (go_at_call 33; refine (HSz.out _ (below_seq HB0.out hb2)).mono ?_; rintro e w3 ⟨rfl, hb3⟩; obtain ⟨hcl3, hfz3⟩ := bcell (below_seq hb2 hb3)))
      go_ret
      exact ⟨rfl, below_seq HB0.out (below_seq hb2 hb3)⟩
    · have h2' : decide ((10000 : Int) < (z : Int)) = false := by simp; omega
      rw [HL3.out h1 h2, if_neg (by decide)]
      go_enter Tryz.func36, Tryz.ntmps36
      go_wp2_with (first | (go_at_call 44; refine (HDp.out _ HB0.out).mono ?_; rintro e w2 ⟨rfl, hb2⟩; obtain ⟨hcl, hfz⟩ := bcell hb2) | (go_at_call 33; refine (HSz.out _ (below_seq HB0.out hb2)).mono ?_; rintro e w3 ⟨rfl, hb3⟩; obtain ⟨hcl3, hfz3⟩ := bcell (below_seq hb2 hb3)) | (go_at_call 54; refine (HNd.out _ (below_seq HB0.out (below_seq hb2 hb3)) (by omega)).mono ?_; rintro e w4 ⟨rfl, hb4⟩))
      go_ret
      exact ⟨rfl, below_seq HB0.out (below_seq hb2 (below_seq hb3 hb4))⟩

end Go.Proofs.YtgmdmbmkljbgiaaGreatDoor

/- Types: the program's small checks. -/
namespace Go.Proofs.YtgmdmbmkljbgiaaGreatDoor
open Go.RowKit

def numB (n : Int) (has : Bool) : Bool := if has then prioB n else n == 0
set_option maxHeartbeats 400000 in
theorem numberFits_any (n : Int) (has : Bool) (w : World) : Calls Tryz.prog 119 #[.int .i64 n, .bool has] w fun e w' => e = .returned (.bool (numB n has)) ∧ w = w' := by
  cases has
  · go_enter Tryz.func119, Tryz.ntmps119
    go_wp2
    all_goals (go_ret; refine ⟨ret_bool ?_, rfl⟩; simp [numB])
  · go_enter Tryz.func119, Tryz.ntmps119
    go_wp2
    all_goals (go_ret; refine ⟨ret_bool ?_, rfl⟩; unfold numB prioB; rw [Bool.eq_iff_iff]; simp; try omega)

def namB (s : ByteArray) (has : Bool) : Bool := if has then nameB s else s.toList.isEmpty
set_option maxHeartbeats 400000 in
theorem nameFits_any (s : ByteArray) (has : Bool) (hs : s.size ≤ maxLen) (E : Nat) (w : World) (he : Env E w) : Calls Tryz.prog 120 #[.string s, .bool has] w fun e w' => e = .returned (.bool (namB s has)) ∧ w = w' := by
  cases has
  · go_enter Tryz.func120, Tryz.ntmps120
    go_wp2
    all_goals (go_ret; refine ⟨ret_bool ?_, rfl⟩; first | rfl | simp [namB])
  · go_enter Tryz.func120, Tryz.ntmps120
    go_wp2_with (go_at_call 61; refine (name_any s hs E _ he).mono ?_; rintro e w2 ⟨rfl, rfl⟩)
    go_ret
    exact ⟨rfl, rfl⟩

end Go.Proofs.YtgmdmbmkljbgiaaGreatDoor

/- Types: the program's differentNames. -/
namespace Go.Proofs.YtgmdmbmkljbgiaaGreatDoor
open Go.RowKit

theorem run_makeMap_hint (n : Int) (w : World) : (Instr.makeMap 67 (some (.int .i64 n))).run Tryz.prog w = .ok (.map (some w.heap.size)) (w.alloc (.map #[] 0)) := by
  have ht := Tryz.underlying67
  simp [Instr.makeMap, run_underlying ht, asInt, asIntOf]

theorem boolInfo' : (Tryz.prog.info? 4).map (fun i => (i.zero, i.size, i.bytes)) = some (some (.bool false), 1, 1) := by kernel_rfl
theorem zero_bool (w : World) : (zeroValue 4).run Tryz.prog w = .ok (.bool false) w := by
  obtain ⟨i0, hi, hz0, hz1, hz2⟩ := info_parts boolInfo'
  simp [zeroValue, typeInfo, hi, hz0]
set_option maxRecDepth 100000 in
theorem plainElem_bool_inv {v : Value} {b : Bool} {ps : List MemPlace} (h : plainElem (H := Unit) Tryz.prog 4 v = some (.lit (.bool b), ps)) : v = .bool b := by
  unfold plainElem at h
  rw [Tryz.underlying4] at h
  cases v <;> simp at h
  rw [h.1]

/-- A map that tells which texts have been seen. -/
def Seen (w : World) (b j : Nat) (l : List ByteArray) : Prop := ∃ D : DataW Unit, w.ownsMap Tryz.prog 9 (plainElem Tryz.prog 4) b j D ∧ ∀ s : ByteArray, D.atKey (.string s.data.toList) (.lit (.bool false)) = .lit (.bool (memB s l))
theorem Seen.look {w : World} {b j : Nat} {l : List ByteArray} (h : Seen w b j l) {s : ByteArray} (hs : s.size ≤ maxLen) : (Instr.lookup 67 (.map (some b)) (.string s) false).run Tryz.prog w = .ok (.bool (memB s l)) w := by
  obtain ⟨D, ho, hat⟩ := h
  obtain ⟨v, ps, hr, hv⟩ := ho.lookup (Maps.string_keyed Tryz.underlying9) Tryz.underlying67 (zero_bool w) (plainElem_bool Tryz.underlying4 false) (Go.WideMaps.keyOf_string_mk Tryz.underlying9 hs)
  rw [hat] at hv
  rw [hr, plainElem_bool_inv hv]
theorem Seen.put {w : World} {b j : Nat} {l : List ByteArray} (h : Seen w b j l) (hj : j < maxLen) {s : ByteArray} (hs : s.size ≤ maxLen) :
    ∃ w', (Instr.mapUpdate 67 (.map (some b)) (.string s) (.bool true)).run Tryz.prog w = .ok () w' ∧ Seen w' b (j + 1) (l ++ [s]) ∧ w.grownBy w' (some b) := by
  obtain ⟨D, ho, hat⟩ := h
  obtain ⟨w', hr, ho', ht⟩ := ho.store (Maps.string_keyed Tryz.underlying9) Tryz.underlying67 hj (Go.WideMaps.keyOf_string_mk Tryz.underlying9 hs) (plainElem_bool Tryz.underlying4 true)
  refine ⟨w', hr, ⟨_, ho', fun x => ?_⟩, ht.grown⟩
  by_cases e : x = s
  · subst e
    rw [Maps.atKey_put_same ho.isMap (by first | trivial | simp [WideAt.IsKeyLit])]
    have : memB x (l ++ [x]) = true := memB_true.2 (by simp)
    rw [this]
  · rw [Maps.atKey_put_other (fun h => e (by
      have := Lit.string.inj h
      cases x; cases s; simp at this; congr 1)), hat]
    unfold memB
    have e' : decide (s = x) = false := by simpa using fun h => e h.symm
    simp [e']

set_option maxHeartbeats 2000000 in
theorem differentNames_any (B : Nat → Prop) (v : Value) (ls : List ByteArray) (E : Nat) (w : World) (hB : Low B w) (he : Env E w) (h : StrSl B w v ls) :
    Calls Tryz.prog 125 #[v] w fun e w' => e = .returned (.bool (labelsB ls)) ∧ Below w.heap.size w w' := by
  have hsz := h.2
  obtain ⟨pa, len, c, rfl, hlen, hm, hget⟩ := h.open
  have HG := Lib.hid hget
  have HS := Lib.hid hsz
  clear hget h hsz
  have hmk := run_makeMap_hint
  go_enter Tryz.func125, Tryz.ntmps125
  go_wp2_with fail
  go_loopw [11] (fun i wr => ∃ (j : Nat), i = .int .i64 (j : Int) ∧ j ≤ len ∧ Hid (labelsB (ls.take j) = true) ∧ Hid (Seen wr w.heap.size j (ls.take j)) ∧ Below w.heap.size w wr) (fun i _ => len - (intOf i).toNat)
  case atStart => exact ⟨0, rfl, by omega, Lib.hid (by simp [labelsB]), Lib.hid ⟨_, World.ownsMap_made w _ _ _, fun s => rfl⟩, (Below.refl _ _).alloc (Nat.le_refl _) _⟩
  case round =>
    obtain ⟨j, rfl, hj, HT, HSE, hw⟩ := hrel
    by_cases hlt : j < len
    · obtain ⟨x, hx⟩ : ∃ x, ls[j]? = some x := ⟨_, List.getElem?_eq_getElem (by rw [← hlen.out]; exact hlt)⟩
      obtain ⟨hxs, kb, ko, rfl, hkb, hc⟩ := HG.out j x hx
      replace hc := (hw.cell (p := ⟨kb, ko + j, none⟩) (hB kb hkb)).trans hc
      have hj' : j < maxLen := by unfold maxLen; omega
      have hlk := HSE.out.look hxs
      have HE := Lib.hid (he.below (hw.mono he.size))
      have HX := Lib.hid hx
      cases hmb : memB x (ls.take j) with
      | true =>
        have hf : Hid (labelsB ls = false) := Lib.hid (labelsB_prefix (j := j + 1) (by rw [take_snoc_get HX.out, labelsB_snoc, hmb]; simp))
        rw [hmb] at hlk
        clear hx hmb
        go_wp2_with fail
        go_ret
        exact ⟨ret_bool hf.out.symm, hw⟩
      | false =>
        rw [hmb] at hlk
        have HNM := Lib.hid (name_any x hxs E wr HE.out)
        cases hn : nameB x with
        | false =>
          have hf : Hid (labelsB ls = false) := Lib.hid (labelsB_prefix (j := j + 1) (by rw [take_snoc_get HX.out, labelsB_snoc, hn]; simp))
          rw [hn] at HNM
          clear hx hmb hn
          go_wp2_with (go_at_call 61; refine HNM.out.mono ?_; rintro e w2 ⟨rfl, rfl⟩)
          go_ret
          exact ⟨ret_bool hf.out.symm, hw⟩
        | true =>
          have hf : Hid (labelsB (ls.take (j + 1)) = true) := Lib.hid (by rw [take_snoc_get HX.out, labelsB_snoc, hn, hmb, HT.out]; rfl)
          rw [hn] at HNM
          obtain ⟨w1, hup, hse1, hgr⟩ := HSE.out.put hj' hxs
          have hse2 : Hid (Seen w1 w.heap.size (j + 1) (ls.take (j + 1))) := Lib.hid (by rw [take_snoc_get HX.out]; exact hse1)
          have hw1 : Hid (Below w.heap.size w w1) := Lib.hid (hw.grown hgr hw.size (fun k e => by cases e; exact Nat.le_refl _))
          clear hx hmb hn hse1 hgr
          go_wp2_with (go_at_call 61; refine HNM.out.mono ?_; rintro e w2 ⟨rfl, rfl⟩)
          go_roundw
          case rel => exact ⟨j + 1, by go_num, by omega, hf, hse2, hw1.out⟩
          case measure => (simp [intOf]) <;> omega
    · obtain rfl : j = len := by omega
      have hn : labelsB ls = true := by have := HT.out; rwa [List.take_of_length_le (by rw [hlen.out]; exact Nat.le_refl _)] at this
      have HN := Lib.hid hn
      clear hn
      go_wp2_with fail
      go_ret
      exact ⟨ret_bool HN.out.symm, hw⟩

end Go.Proofs.YtgmdmbmkljbgiaaGreatDoor
