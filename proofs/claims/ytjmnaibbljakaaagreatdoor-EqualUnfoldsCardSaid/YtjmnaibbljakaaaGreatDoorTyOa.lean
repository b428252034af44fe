/- Types: the reference's labels and shapes. -/
import Derived.Test.YtjmnaibbljakaaaGreatDoorTyQ
namespace Go.Proofs.YtjmnaibbljakaaaGreatDoor
open Go.RowKit

/-- Is a text in a list? -/
def memB (s : ByteArray) (ls : List ByteArray) : Bool := ls.any fun x => decide (x = s)
theorem memB_true {s : ByteArray} {ls : List ByteArray} : memB s ls = true ↔ s ∈ ls := by
  unfold memB
  rw [List.any_eq_true]
  exact ⟨fun ⟨x, hx, he⟩ => by rw [← of_decide_eq_true he]; exact hx, fun h => ⟨s, h, by simp⟩⟩
theorem memB_false {s : ByteArray} {ls : List ByteArray} (h : s ∉ ls) : memB s ls = false := by
  cases e : memB s ls with
  | false => rfl
  | true => exact absurd (memB_true.1 e) h

set_option maxHeartbeats 1000000 in
theorem rin_any (B : Nat → Prop) (s : ByteArray) (v : Value) (ls : List ByteArray) (w : World) (h : StrSl B w v ls) :
    Calls Tryz.prog 86 #[.string s, v] w fun e w' => e = .returned (.bool (memB s ls)) ∧ w = w' := by
  obtain ⟨pa, len, c, rfl, hlen, hm, hget⟩ := h.open
  have HG := Lib.hid hget
  clear hget h
  go_enter Tryz.func86, Tryz.ntmps86
  go_wp2_with fail
  go_loop [5] (fun i => ∃ (j : Nat), i = .int .i64 j ∧ j ≤ len ∧ Hid (s ∉ ls.take j)) (fun i => len - (intOf i).toNat)
  case atStart => exact ⟨0, rfl, by omega, Lib.hid (by simp)⟩
  case round =>
    obtain ⟨j, rfl, hj, HT⟩ := hrel
    by_cases hlt : j < len
    · obtain ⟨x, hx⟩ : ∃ x, ls[j]? = some x := ⟨_, List.getElem?_eq_getElem (by rw [← hlen.out]; exact hlt)⟩
      obtain ⟨_, kb, ko, rfl, hkb, hc⟩ := HG.out j x hx
      by_cases he : x = s
      · subst he
        have hin : Hid (x ∈ ls) := Lib.hid (List.mem_of_getElem? hx)
        clear hx
        go_wp2_with fail
        go_ret
        exact ⟨ret_bool (memB_true.2 hin.out).symm, rfl⟩
      · have hn : Hid (s ∉ ls.take (j + 1)) := Lib.hid (by rw [take_snoc_get hx]; simp only [List.mem_append, List.mem_singleton, not_or]; exact ⟨HT.out, fun e => he e.symm⟩)
        have h1 := str_ne he
        have h2 : (x.toList == s.toList) = false := by simpa using h1
        clear hx he
        go_wp2_with fail
        go_round
        case rel => exact ⟨j + 1, by go_num, by omega, hn⟩
        case measure => simp [intOf]; omega
    · obtain rfl : j = len := by omega
      have hn : s ∉ ls := by have := HT.out; rwa [List.take_of_length_le (by rw [hlen.out]; exact Nat.le_refl _)] at this
      have HN := Lib.hid hn
      clear hn
      go_wp2_with fail
      go_ret
      exact ⟨ret_bool (memB_false HN.out).symm, rfl⟩

/-- Labels are names and different. -/
def labelsB (ls : List ByteArray) : Bool := ls.all nameB && decide ls.Nodup
theorem labelsB_snoc (l : List ByteArray) (s : ByteArray) : labelsB (l ++ [s]) = (labelsB l && (nameB s && !memB s l)) := by
  unfold labelsB
  rw [Bool.eq_iff_iff]
  have hm : (!memB s l) = true ↔ s ∉ l := by
    rw [Bool.not_eq_true', ← Bool.not_eq_true, memB_true]
  simp only [List.all_append, List.all_cons, List.all_nil, Bool.and_true, Bool.and_eq_true, decide_eq_true_eq, List.nodup_append, List.nodup_cons, List.not_mem_nil, not_false_iff, List.nodup_nil, and_true, List.mem_singleton, hm]
  constructor
  · rintro ⟨⟨h1, h2⟩, h3, h4⟩
    exact ⟨⟨h1, h3⟩, h2, fun h => h4.2 s h s rfl rfl⟩
  · rintro ⟨⟨h1, h2⟩, h3, h4⟩
    exact ⟨⟨h1, h3⟩, h2, trivial, fun a ha b hb e => h4 (by rw [← hb, ← e]; exact ha)⟩
theorem labelsB_prefix {l : List ByteArray} {j : Nat} (h : labelsB (l.take j) = false) : labelsB l = false := by
  unfold labelsB at h ⊢
  rw [Bool.and_eq_false_iff] at h ⊢
  rcases h with h | h
  · left
    rw [List.all_eq_false] at h ⊢
    obtain ⟨x, hx, hn⟩ := h
    exact ⟨x, List.mem_of_mem_take hx, hn⟩
  · right
    simp only [decide_eq_false_iff_not] at h ⊢
    exact fun hn => h (hn.sublist (List.take_sublist _ _))

theorem name_is (x : ByteArray) (b : Bool) (h : nameB x = b) (hx : x.size ≤ 9223372036854775807) (w : World) : Calls Tryz.prog 75 #[.string x] w fun e w' => e = .returned (.bool b) ∧ Below w.heap.size w w' := by
  rw [← h]; exact rname_any x hx w
theorem in_is (B : Nat → Prop) (x : ByteArray) (v : Value) (ls : List ByteArray) (b : Bool) (h : memB x ls = b) (R : World → Prop) (hs : ∀ w, R w → StrSl B w v ls) (w : World) (hr : R w) : Calls Tryz.prog 86 #[.string x, v] w fun e w' => e = .returned (.bool b) ∧ w = w' := by
  rw [← h]; exact rin_any B x v ls w (hs w hr)

set_option maxHeartbeats 2000000 in
set_option maxRecDepth 100000 in
theorem rlabels_any (B : Nat → Prop) (v : Value) (ls : List ByteArray) (w : World) (hB : Low B w) (h : StrSl B w v ls) :
    Calls Tryz.prog 74 #[v] w fun e w' => e = .returned (.bool (labelsB ls)) ∧ Below w.heap.size w w' := by
  have hsz := h.2
  obtain ⟨pa, len, c, rfl, hlen, hm, hget⟩ := h.open
  have hcap := h.cap_le
  have HG := Lib.hid hget
  have HS := Lib.hid hsz
  clear hget h hsz
  go_enter Tryz.func74, Tryz.ntmps74
  go_wp2_with fail
  go_loopw [3] (fun i wr => ∃ (j : Nat), i = .int .i64 j ∧ j ≤ len ∧ Hid (labelsB (ls.take j) = true) ∧ Below w.heap.size w wr) (fun i _ => len - (intOf i).toNat)
  case atStart => exact ⟨0, rfl, by omega, Lib.hid (by simp [labelsB]), Below.refl _ _⟩
  case round =>
    obtain ⟨j, rfl, hj, HT, hw⟩ := hrel
    by_cases hlt : j < len
    · obtain ⟨x, hx⟩ : ∃ x, ls[j]? = some x := ⟨_, List.getElem?_eq_getElem (by rw [← hlen.out]; exact hlt)⟩
      obtain ⟨hxs, kb, ko, rfl, hkb, hc⟩ := HG.out j x hx
      have hkw := hB kb hkb
      have hc0 := hc
      replace hc := (hw.cell (p := ⟨kb, ko + j, none⟩) hkw).trans hc
      have hsl : ∀ w2, Below w.heap.size w w2 → StrSl B w2 (.slice (some ⟨kb, ko, none⟩) j c) (ls.take j) := fun w2 hb2 => by
        refine ⟨.inr ⟨kb, ko, c, by rw [List.length_take, Nat.min_eq_left (by rw [← hlen.out]; omega)], hkb, by rw [List.length_take]; have := hlen.out; omega, fun i s hi => ?_⟩, by rw [List.length_take]; have := HS.out.1; omega, fun s hs => HS.out.2 s (List.mem_of_mem_take hs)⟩
        have hi' : ls[i]? = some s := by
          have hil := (List.getElem?_eq_some_iff.1 hi).1
          rw [List.getElem?_take] at hi
          split at hi
          · exact hi
          · cases hi
        obtain ⟨_, kb', ko', e, _, hc'⟩ := HG.out i s hi'
        simp only [Option.some.injEq, Addr.mk.injEq, and_true] at e
        obtain ⟨rfl, rfl⟩ := e
        exact (hb2.cell (p := ⟨kb, ko + i, none⟩) hkw).trans hc'
      have HSL := Lib.hid hsl
      clear hsl
      have hxs' : x.size ≤ 9223372036854775807 := by unfold maxLen at hxs; omega
      have HX := Lib.hid hx
      have hcl : ∀ q : Later w.heap.size w, q.1.cell? ⟨kb, ko + j, none⟩ = some (.string x) := fun q => (q.2.cell (p := ⟨kb, ko + j, none⟩) hkw).trans hc0
      have hj0 : (0 : Int) ≤ (j : Int) := by omega
      have hj1 : (j : Int) ≤ (len : Int) := by omega
      have hlc : len ≤ c := hcap
      clear hx hxs
      cases hn : nameB x with
      | false =>
        have hf : Hid (labelsB ls = false) := Lib.hid (labelsB_prefix (j := j + 1) (by rw [take_snoc_get HX.out, labelsB_snoc, hn]; simp))
        have HNM := Lib.hid (name_is x false hn hxs')
        have HIN := Lib.hid (in_is B x _ (ls.take j) _ rfl (fun w2 => Below w.heap.size w w2) HSL.out)
        clear hn
        go_wp2_with fail
        refine wp_region_later w.heap.size w (by kernel_rfl) (by kernel_rfl) hw ?_
        repeat (go_big_quiet_step (first | (go_at_call 75; exact later_call _ (Nat.le_refl _) (HNM.out _)) | (go_at_call 86; exact later_call_same _ (HIN.out _ (Subtype.property _)))))
        refine wpQuiet_nil ?_
        rintro _ ⟨⟨w5, hb5⟩, rfl⟩
        clear hcl hj0 hj1
        go_wp2_with fail
        go_ret
        exact ⟨ret_bool hf.out.symm, hb5⟩
      | true =>
        cases hmb : memB x (ls.take j) with
        | true =>
          have hf : Hid (labelsB ls = false) := Lib.hid (labelsB_prefix (j := j + 1) (by rw [take_snoc_get HX.out, labelsB_snoc, hmb]; simp))
          have HNM := Lib.hid (name_is x true hn hxs')
          have HIN := Lib.hid (in_is B x _ (ls.take j) true hmb (fun w2 => Below w.heap.size w w2) HSL.out)
          clear hn hmb
          go_wp2_with fail
          refine wp_region_later w.heap.size w (by kernel_rfl) (by kernel_rfl) hw ?_
          repeat (go_big_quiet_step (first | (go_at_call 75; exact later_call _ (Nat.le_refl _) (HNM.out _)) | (go_at_call 86; exact later_call_same _ (HIN.out _ (Subtype.property _)))))
          refine wpQuiet_nil ?_
          rintro _ ⟨⟨w5, hb5⟩, rfl⟩
          clear hcl hj0 hj1
          go_wp2_with fail
          go_ret
          exact ⟨ret_bool hf.out.symm, hb5⟩
        | false =>
          have hf : Hid (labelsB (ls.take (j + 1)) = true) := Lib.hid (by rw [take_snoc_get HX.out, labelsB_snoc, hn, hmb, HT.out]; rfl)
          have HNM := Lib.hid (name_is x true hn hxs')
          have HIN := Lib.hid (in_is B x _ (ls.take j) false hmb (fun w2 => Below w.heap.size w w2) HSL.out)
          clear hn hmb
          go_wp2_with fail
          refine wp_region_later w.heap.size w (by kernel_rfl) (by kernel_rfl) hw ?_
          repeat (go_big_quiet_step (first | (go_at_call 75; exact later_call _ (Nat.le_refl _) (HNM.out _)) | (go_at_call 86; exact later_call_same _ (HIN.out _ (Subtype.property _)))))
          refine wpQuiet_nil ?_
          rintro _ ⟨⟨w5, hb5⟩, rfl⟩
          clear hcl hj0 hj1
          go_wp2_with fail
          go_roundw
          case rel => exact ⟨j + 1, by go_num, by omega, hf, hb5⟩
          case measure => simp [intOf]; omega
    · obtain rfl : j = len := by omega
      have hn : labelsB ls = true := by have := HT.out; rwa [List.take_of_length_le (by rw [hlen.out]; exact Nat.le_refl _)] at this
      have HN := Lib.hid hn
      clear hn
      go_wp2_with fail
      go_ret
      exact ⟨ret_bool HN.out.symm, hw⟩

end Go.Proofs.YtjmnaibbljakaaaGreatDoor
