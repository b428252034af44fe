/- Types: sameness, by the program. -/
import Derived.Test.YtjmnaibbljakaaaGreatDoorTyD
namespace Go.Proofs.YtjmnaibbljakaaaGreatDoor
open Go.RowKit

set_option maxHeartbeats 1000000 in
/-- slices.Equal, at lists of texts. -/
theorem tequal_any (B : Nat → Prop) (v v' : Value) (ls ls' : List ByteArray) (w : World) (h : StrSl B w v ls) (h' : StrSl B w v' ls') :
    Calls Tryz.prog 46 #[v, v'] w fun e w' => e = .returned (.bool (decide (ls = ls'))) ∧ Drew w w' := by
  obtain ⟨pa, len, c, rfl, hlen, hm, hget⟩ := h.open
  obtain ⟨pa', len', c', rfl, hlen', hm', hget'⟩ := h'.open
  have HG := Lib.hid hget
  have HG' := Lib.hid hget'
  clear hget hget' h h'
  by_cases hl : len = len'
  · subst hl
    go_enter Tryz.func46, Tryz.ntmps46
    go_wp2_with fail
    go_loopw [13] (fun i wr => ∃ (j : Nat), i = .int .i64 j ∧ j ≤ len ∧ Hid (ls.take j = ls'.take j) ∧ Drew w wr) (fun i _ => len - (intOf i).toNat)
    case atStart => exact ⟨0, rfl, by omega, Lib.hid (by simp), Drew.refl _⟩
    case round =>
      obtain ⟨j, rfl, hj, HT, hd⟩ := hrel
      by_cases hlt : j < len
      · obtain ⟨s, hs⟩ : ∃ s, ls[j]? = some s := ⟨_, List.getElem?_eq_getElem (by rw [← hlen.out]; exact hlt)⟩
        obtain ⟨s', hs'⟩ : ∃ s', ls'[j]? = some s' := ⟨_, List.getElem?_eq_getElem (by rw [← hlen'.out]; exact hlt)⟩
        obtain ⟨_, kb, ko, rfl, hkb, hc⟩ := HG.out j s hs
        replace hc : wr.cell? ⟨kb, ko + j, none⟩ = some (.string s) := by obtain ⟨m, rfl⟩ := hd; exact hc
        obtain ⟨_, kb', ko', rfl, hkb', hc'⟩ := HG'.out j s' hs'
        replace hc' : wr.cell? ⟨kb', ko' + j, none⟩ = some (.string s') := by obtain ⟨m, rfl⟩ := hd; exact hc'
        by_cases hss : s = s'
        · subst hss
          have hn : Hid (ls.take (j + 1) = ls'.take (j + 1)) := Lib.hid (by rw [take_snoc_get hs, take_snoc_get hs', HT.out])
          clear hs hs'
          go_wp2_with fail
          go_quiet (fail)
          go_wp2_with fail
          go_roundw
          case rel => exact ⟨j + 1, by go_num, by omega, hn, hd.more _⟩
          case measure => simp [intOf]; omega
        · have hne : Hid (ls ≠ ls') := Lib.hid (fun e => hss (by rw [e, hs'] at hs; exact (Option.some.inj hs).symm))
          have hb1 := str_ne hss
          have hb2 : (s.toList == s'.toList) = false := by simpa using hb1
          clear hs hs' hss
          go_wp2_with fail
          go_quiet (fail)
          go_wp2_with fail
          go_ret
          exact ⟨ret_bool (by simp [hne.out]), hd.more _⟩
      · obtain rfl : j = len := by omega
        go_wp2_with fail
        go_ret
        refine ⟨ret_bool ?_, hd⟩
        simp [lists_eq hlen.out hlen'.out HT.out]
  · have hl' : (len != len') = true := by simpa using hl
    have hne : ls ≠ ls' := fun e => hl (by rw [hlen.out, hlen'.out, e])
    have HN := Lib.hid hne
    clear hne
    go_enter Tryz.func46, Tryz.ntmps46
    go_wp2_with fail
    go_ret
    exact ⟨ret_bool (by simp [HN.out]), Drew.refl _⟩

noncomputable def eqL (ts ts' : List Ty) : Bool := @decide (ts = ts') (Classical.propDecidable _)
theorem eqL_true {t u : List Ty} : eqL t u = true ↔ t = u := by unfold eqL; simp
theorem eqL_ne {t u : List Ty} (h : t ≠ u) : eqL t u = false := by
  cases e : eqL t u with
  | false => rfl
  | true => exact absurd (eqL_true.1 e) h

end Go.Proofs.YtjmnaibbljakaaaGreatDoor
