/- Types: the program's differentNames. -/
import Derived.Test.YtfmadgoieppmkaaDoorTyRa
import Derived.Maps.OwnSet
import Derived.Maps.OwnOps
namespace Go.Proofs.YtfmadgoieppmkaaDoor
open Go.RowKit

theorem run_makeMap_hint (n : Int) (w : World) : (Instr.makeMap 95 (some (.int .i64 n))).run Tryd.prog w = .ok (.map (some w.heap.size)) (w.alloc (.map #[] 0)) := by
  have ht := Tryd.underlying95
  simp [Instr.makeMap, run_underlying ht, asInt, asIntOf]

theorem boolInfo' : (Tryd.prog.info? 4).map (fun i => (i.zero, i.size, i.bytes)) = some (some (.bool false), 1, 1) := by kernel_rfl
theorem zero_bool (w : World) : (zeroValue 4).run Tryd.prog w = .ok (.bool false) w := by
  obtain ⟨i0, hi, hz0, hz1, hz2⟩ := info_parts boolInfo'
  simp [zeroValue, typeInfo, hi, hz0]
set_option maxRecDepth 100000 in
theorem plainElem_bool_inv {v : Value} {b : Bool} {ps : List MemPlace} (h : plainElem (H := Unit) Tryd.prog 4 v = some (.lit (.bool b), ps)) : v = .bool b := by
  unfold plainElem at h
  rw [Tryd.underlying4] at h
  cases v <;> simp at h
  rw [h.1]

/-- A map that tells which texts have been seen. -/
def Seen (w : World) (b j : Nat) (l : List ByteArray) : Prop := ∃ D : DataW Unit, w.ownsMap Tryd.prog 9 (plainElem Tryd.prog 4) b j D ∧ ∀ s : ByteArray, D.atKey (.string s.data.toList) (.lit (.bool false)) = .lit (.bool (memB s l))
theorem Seen.look {w : World} {b j : Nat} {l : List ByteArray} (h : Seen w b j l) {s : ByteArray} (hs : s.size ≤ maxLen) : (Instr.lookup 95 (.map (some b)) (.string s) false).run Tryd.prog w = .ok (.bool (memB s l)) w := by
  obtain ⟨D, ho, hat⟩ := h
  obtain ⟨v, ps, hr, hv⟩ := ho.lookup (Maps.string_keyed Tryd.underlying9) Tryd.underlying95 (zero_bool w) (plainElem_bool Tryd.underlying4 false) (Go.WideMaps.keyOf_string_mk Tryd.underlying9 hs)
  rw [hat] at hv
  rw [hr, plainElem_bool_inv hv]
theorem Seen.put {w : World} {b j : Nat} {l : List ByteArray} (h : Seen w b j l) (hj : j < maxLen) {s : ByteArray} (hs : s.size ≤ maxLen) :
    ∃ w', (Instr.mapUpdate 95 (.map (some b)) (.string s) (.bool true)).run Tryd.prog w = .ok () w' ∧ Seen w' b (j + 1) (l ++ [s]) ∧ w.grownBy w' (some b) := by
  obtain ⟨D, ho, hat⟩ := h
  obtain ⟨w', hr, ho', ht⟩ := ho.store (Maps.string_keyed Tryd.underlying9) Tryd.underlying95 hj (Go.WideMaps.keyOf_string_mk Tryd.underlying9 hs) (plainElem_bool Tryd.underlying4 true)
  refine ⟨w', hr, ⟨_, ho', fun x => ?_⟩, ht.grown⟩
  by_cases e : x = s
  · subst e
    rw [Maps.atKey_put_same ho.isMap (by first | trivial | simp [WideAt.IsKeyLit])]
    have : memB x (l ++ [x]) = true := memB_true.2 (by simp)
    rw [this]
  · rw [Maps.atKey_put_other (fun h => e (by
      have := Lit.string.inj h
      cases x; cases s; simp at this; congr 1)), hat]
    unfold memB
    have e' : decide (s = x) = false := by simpa using fun h => e h.symm
    simp [e']

set_option maxHeartbeats 2000000 in
theorem differentNames_any (B : Nat → Prop) (v : Value) (ls : List ByteArray) (E : Nat) (w : World) (hB : Low B w) (he : Env E w) (h : StrSl B w v ls) :
    Calls Tryd.prog 125 #[v] w fun e w' => e = .returned (.bool (labelsB ls)) ∧ Below w.heap.size w w' := by
  have hsz := h.2
  obtain ⟨pa, len, c, rfl, hlen, hm, hget⟩ := h.open
  have HG := Lib.hid hget
  have HS := Lib.hid hsz
  clear hget h hsz
  have hmk := run_makeMap_hint
  go_enter Tryd.func125, Tryd.ntmps125
  go_wp2_with fail
  go_loopw [11] (fun i wr => ∃ (j : Nat), i = .int .i64 (j : Int) ∧ j ≤ len ∧ Hid (labelsB (ls.take j) = true) ∧ Hid (Seen wr w.heap.size j (ls.take j)) ∧ Below w.heap.size w wr) (fun i _ => len - (intOf i).toNat)
  case atStart => exact ⟨0, rfl, by omega, Lib.hid (by simp [labelsB]), Lib.hid ⟨_, World.ownsMap_made w _ _ _, fun s => rfl⟩, (Below.refl _ _).alloc (Nat.le_refl _) _⟩
  case round =>
    obtain ⟨j, rfl, hj, HT, HSE, hw⟩ := hrel
    by_cases hlt : j < len
    · obtain ⟨x, hx⟩ : ∃ x, ls[j]? = some x := ⟨_, List.getElem?_eq_getElem (by rw [← hlen.out]; exact hlt)⟩
      obtain ⟨hxs, kb, ko, rfl, hkb, hc⟩ := HG.out j x hx
      replace hc := (hw.cell (p := ⟨kb, ko + j, none⟩) (hB kb hkb)).trans hc
      have hj' : j < maxLen := by unfold maxLen; omega
      have hlk := HSE.out.look hxs
      have HE := Lib.hid (he.below (hw.mono he.size))
      have HX := Lib.hid hx
      cases hmb : memB x (ls.take j) with
      | true =>
        have hf : Hid (labelsB ls = false) := Lib.hid (labelsB_prefix (j := j + 1) (by rw [take_snoc_get HX.out, labelsB_snoc, hmb]; simp))
        rw [hmb] at hlk
        clear hx hmb
        go_wp2_with fail
        go_ret
        exact ⟨ret_bool hf.out.symm, hw⟩
      | false =>
        rw [hmb] at hlk
        have HNM := Lib.hid (name_any x hxs E wr HE.out)
        cases hn : nameB x with
        | false =>
          have hf : Hid (labelsB ls = false) := Lib.hid (labelsB_prefix (j := j + 1) (by rw [take_snoc_get HX.out, labelsB_snoc, hn]; simp))
          rw [hn] at HNM
          clear hx hmb hn
          go_wp2_with (go_at_call 124; refine HNM.out.mono ?_; rintro e w2 ⟨rfl, rfl⟩)
          go_ret
          exact ⟨ret_bool hf.out.symm, hw⟩
        | true =>
          have hf : Hid (labelsB (ls.take (j + 1)) = true) := Lib.hid (by rw [take_snoc_get HX.out, labelsB_snoc, hn, hmb, HT.out]; rfl)
          rw [hn] at HNM
          obtain ⟨w1, hup, hse1, hgr⟩ := HSE.out.put hj' hxs
          have hse2 : Hid (Seen w1 w.heap.size (j + 1) (ls.take (j + 1))) := Lib.hid (by rw [take_snoc_get HX.out]; exact hse1)
          have hw1 : Hid (Below w.heap.size w w1) := Lib.hid (hw.grown hgr hw.size (fun k e => by cases e; exact Nat.le_refl _))
          clear hx hmb hn hse1 hgr
          go_wp2_with (go_at_call 124; refine HNM.out.mono ?_; rintro e w2 ⟨rfl, rfl⟩)
          go_roundw
          case rel => exact ⟨j + 1, by go_num, by omega, hf, hse2, hw1.out⟩
          case measure => (simp [intOf]) <;> omega
    · obtain rfl : j = len := by omega
      have hn : labelsB ls = true := by have := HT.out; rwa [List.take_of_length_le (by rw [hlen.out]; exact Nat.le_refl _)] at this
      have HN := Lib.hid hn
      clear hn
      go_wp2_with fail
      go_ret
      exact ⟨ret_bool HN.out.symm, hw⟩

end Go.Proofs.YtfmadgoieppmkaaDoor
