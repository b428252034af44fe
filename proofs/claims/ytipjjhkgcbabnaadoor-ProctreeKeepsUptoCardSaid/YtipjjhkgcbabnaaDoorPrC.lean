/- Processes: lists of values compared, by the program. -/
import Derived.Test.YtipjjhkgcbabnaaDoorPrM
import Derived.Test.YtipjjhkgcbabnaaDoorTyF
namespace Go.Proofs.YtipjjhkgcbabnaaDoor
open Go.RowKit

noncomputable def eqV (vs vs' : List Vl) : Bool := @decide (vs = vs') (Classical.propDecidable _)
theorem eqV_true {t u : List Vl} : eqV t u = true ↔ t = u := by unfold eqV; simp
theorem eqV_ne {t u : List Vl} (h : t ≠ u) : eqV t u = false := by
  cases e : eqV t u with
  | false => rfl
  | true => exact absurd (eqV_true.1 e) h

set_option maxHeartbeats 1000000 in
/-- slices.Equal, at lists of values. -/
theorem vequal_any (B : Nat → Prop) (v v' : Value) (ls ls' : List Vl) (w : World) (h : VlSl B w v ls) (h' : VlSl B w v' ls') :
    Calls Tryd.prog 97 #[v, v'] w fun e w' => e = .returned (.bool (eqV ls ls')) ∧ Drew w w' := by
  obtain ⟨pa, len, c, rfl, hlen, hm, hget⟩ := h.open
  obtain ⟨pa', len', c', rfl, hlen', hm', hget'⟩ := h'.open
  have HG := Lib.hid hget
  have HG' := Lib.hid hget'
  clear hget hget' h h'
  by_cases hl : len = len'
  · subst hl
    go_enter Tryd.func97, Tryd.ntmps97
    go_wp2_with fail
    go_loopw [13] (fun i wr => ∃ (j : Nat), i = .int .i64 j ∧ j ≤ len ∧ Hid (ls.take j = ls'.take j) ∧ Drew w wr) (fun i _ => len - (intOf i).toNat)
    case atStart => exact ⟨0, rfl, by omega, Lib.hid (by simp), Drew.refl _⟩
    case round =>
      obtain ⟨j, rfl, hj, HT, hd⟩ := hrel
      by_cases hlt : j < len
      · obtain ⟨s, hs⟩ : ∃ s, ls[j]? = some s := ⟨_, List.getElem?_eq_getElem (by rw [← hlen.out]; exact hlt)⟩
        obtain ⟨s', hs'⟩ : ∃ s', ls'[j]? = some s' := ⟨_, List.getElem?_eq_getElem (by rw [← hlen'.out]; exact hlt)⟩
        obtain ⟨_, kb, ko, rfl, hkb, hc⟩ := HG.out j s hs
        have hc0 : wr.cell? ⟨kb, ko + j * 3, none⟩ = some (.int .i64 s.k) := by obtain ⟨m, rfl⟩ := hd; exact hc.1
        have hc1 : wr.cell? ⟨kb, ko + j * 3 + 1, none⟩ = some (.string s.n) := by obtain ⟨m, rfl⟩ := hd; exact hc.2.1
        have hc2 : wr.cell? ⟨kb, ko + j * 3 + 2, none⟩ = some (.int .i64 s.x) := by obtain ⟨m, rfl⟩ := hd; exact hc.2.2
        obtain ⟨_, kb', ko', rfl, hkb', hc'⟩ := HG'.out j s' hs'
        have hc0' : wr.cell? ⟨kb', ko' + j * 3, none⟩ = some (.int .i64 s'.k) := by obtain ⟨m, rfl⟩ := hd; exact hc'.1
        have hc1' : wr.cell? ⟨kb', ko' + j * 3 + 1, none⟩ = some (.string s'.n) := by obtain ⟨m, rfl⟩ := hd; exact hc'.2.1
        have hc2' : wr.cell? ⟨kb', ko' + j * 3 + 2, none⟩ = some (.int .i64 s'.x) := by obtain ⟨m, rfl⟩ := hd; exact hc'.2.2
        clear hc hc'
        by_cases hss : s = s'
        · subst hss
          have hn : Hid (ls.take (j + 1) = ls'.take (j + 1)) := Lib.hid (by rw [take_snoc_get hs, take_snoc_get hs', HT.out])
          clear hs hs'
          go_wp2_with fail
          go_quiet (fail)
          go_wp2_with fail
          go_roundw
          case rel => exact ⟨j + 1, by go_num, by omega, hn, hd.more _⟩
          case measure => simp [intOf]; omega
        · have hne : Hid (ls ≠ ls') := Lib.hid (fun e => hss (by rw [e, hs'] at hs; exact (Option.some.inj hs).symm))
          clear hs hs'
          obtain ⟨k, n, x⟩ := s
          obtain ⟨k', n', x'⟩ := s'
          simp only at hc0 hc1 hc2 hc0' hc1' hc2'
          by_cases h1 : k = k'
          · subst h1
            by_cases h2 : n = n'
            · subst h2
              have h3 : (x == x') = false := by simp; intro e; exact hss (by rw [e])
              clear hss
              go_wp2_with fail
              go_quiet (fail)
              go_wp2_with fail
              go_ret
              exact ⟨ret_bool (eqV_ne hne.out).symm, hd.more _⟩
            · have h3 := str_ne h2
              have h4 : (n.toList == n'.toList) = false := by simpa using h3
              clear hss h2
              go_wp2_with fail
              go_quiet (fail)
              go_wp2_with fail
              go_ret
              exact ⟨ret_bool (eqV_ne hne.out).symm, hd.more _⟩
          · have h3 : (k == k') = false := by simpa using h1
            clear hss h1
            go_wp2_with fail
            go_quiet (fail)
            go_wp2_with fail
            go_ret
            exact ⟨ret_bool (eqV_ne hne.out).symm, hd.more _⟩
      · obtain rfl : j = len := by omega
        go_wp2_with fail
        go_ret
        refine ⟨ret_bool ?_, hd⟩
        rw [eqV_true.2 (lists_eq hlen.out hlen'.out HT.out)]
  · have hl' : (len != len') = true := by simpa using hl
    have hne : ls ≠ ls' := fun e => hl (by rw [hlen.out, hlen'.out, e])
    have HN := Lib.hid hne
    clear hne
    go_enter Tryd.func97, Tryd.ntmps97
    go_wp2_with fail
    go_ret
    exact ⟨ret_bool (eqV_ne HN.out).symm, Drew.refl _⟩

end Go.Proofs.YtipjjhkgcbabnaaDoor
