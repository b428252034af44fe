/- Types: sameness, by the reference. -/
import Derived.Test.YtjmnaibbljakaaaGreatDoorTyB
import Derived.Lib.Strings
namespace Go.Proofs.YtjmnaibbljakaaaGreatDoor
open Go.RowKit

theorem str_ne {s s' : ByteArray} (h : s ≠ s') : (s.toList != s'.toList) = true := by
  simp only [bne_iff_ne, ne_eq]
  intro e
  apply h
  rw [Lib.toList_data, Lib.toList_data] at e
  obtain ⟨⟨a⟩⟩ := s
  obtain ⟨⟨b⟩⟩ := s'
  simp at e
  rw [e]

set_option maxHeartbeats 1000000 in
/-- Lists of texts, compared by the reference. -/
theorem rtexts_any (B : Nat → Prop) (v v' : Value) (ls ls' : List ByteArray) (w : World) (h : StrSl B w v ls) (h' : StrSl B w v' ls') :
    Calls Tryz.prog 82 #[v, v'] w fun e w' => e = .returned (.bool (decide (ls = ls'))) ∧ Drew w w' := by
  obtain ⟨pa, len, c, rfl, hlen, hm, hget⟩ := h.open
  obtain ⟨pa', len', c', rfl, hlen', hm', hget'⟩ := h'.open
  have HG := Lib.hid hget
  have HG' := Lib.hid hget'
  clear hget hget' h h'
  by_cases hl : len = len'
  · subst hl
    go_enter Tryz.func82, Tryz.ntmps82
    go_wp2_with fail
    go_loopw [5] (fun i wr => ∃ (j : Nat), i = .int .i64 j ∧ j ≤ len ∧ Hid (ls.take j = ls'.take j) ∧ Drew w wr) (fun i _ => len - (intOf i).toNat)
    case atStart => exact ⟨0, rfl, by omega, Lib.hid (by simp), Drew.refl _⟩
    case round =>
      obtain ⟨j, rfl, hj, HT, hd⟩ := hrel
      by_cases hlt : j < len
      · obtain ⟨s, hs⟩ : ∃ s, ls[j]? = some s := ⟨_, List.getElem?_eq_getElem (by rw [← hlen.out]; exact hlt)⟩
        obtain ⟨s', hs'⟩ : ∃ s', ls'[j]? = some s' := ⟨_, List.getElem?_eq_getElem (by rw [← hlen'.out]; exact hlt)⟩
        obtain ⟨_, kb, ko, rfl, hkb, hc⟩ := HG.out j s hs
        obtain ⟨_, kb', ko', rfl, hkb', hc'⟩ := HG'.out j s' hs'
        replace hc : wr.cell? ⟨kb, ko + j, none⟩ = some (.string s) := by obtain ⟨m, rfl⟩ := hd; exact hc
        replace hc' : wr.cell? ⟨kb', ko' + j, none⟩ = some (.string s') := by obtain ⟨m, rfl⟩ := hd; exact hc'
        by_cases hss : s = s'
        · subst hss
          have hn : Hid (ls.take (j + 1) = ls'.take (j + 1)) := Lib.hid (by rw [take_snoc_get hs, take_snoc_get hs', HT.out])
          clear hs hs'
          go_wp2_with fail
          go_quiet (fail)
          go_wp2_with fail
          go_roundw
          case rel => exact ⟨j + 1, by go_num, by omega, hn, hd.more _⟩
          case measure => simp [intOf]; omega
        · have hne : Hid (ls ≠ ls') := Lib.hid (fun e => hss (by rw [e, hs'] at hs; exact (Option.some.inj hs).symm))
          have hb1 := str_ne hss
          have hb2 : (s.toList == s'.toList) = false := by simpa using hb1
          clear hs hs' hss
          go_wp2_with fail
          go_quiet (fail)
          go_wp2_with fail
          go_ret
          exact ⟨ret_bool (by simp [hne.out]), hd.more _⟩
      · obtain rfl : j = len := by omega
        go_wp2_with fail
        go_ret
        refine ⟨ret_bool ?_, hd⟩
        have := HT.out
        rw [List.take_of_length_le (by rw [hlen.out]; exact Nat.le_refl _), List.take_of_length_le (by rw [hlen'.out]; exact Nat.le_refl _)] at this
        simp [this]
  · have hl' : (len != len') = true := by simpa using hl
    have hne : ls ≠ ls' := fun e => hl (by rw [hlen.out, hlen'.out, e])
    have HN := Lib.hid hne
    clear hne
    go_enter Tryz.func82, Tryz.ntmps82
    go_wp2_with fail
    go_ret
    exact ⟨ret_bool (by simp [HN.out]), Drew.refl _⟩

/-- Are two types the same? -/
noncomputable def eqB (t u : Ty) : Bool := @decide (t = u) (Classical.propDecidable _)
theorem eqB_true {t u : Ty} : eqB t u = true ↔ t = u := by unfold eqB; simp
theorem eqB_self (t : Ty) : eqB t t = true := eqB_true.2 rfl
theorem eqB_ne {t u : Ty} (h : t ≠ u) : eqB t u = false := by
  cases e : eqB t u with
  | false => rfl
  | true => exact absurd (eqB_true.1 e) h
theorem eqB_comm (t u : Ty) : eqB t u = eqB u t := by
  by_cases h : t = u
  · rw [h]
  · rw [eqB_ne h, eqB_ne (Ne.symm h)]

/-- The contract of a function that compares types, at one type for the first. -/
def SameAt (f : Nat) (B : Nat → Prop) (t : Ty) : Prop := ∀ (u : Ty) (v v' : Value) (w : World), Low B w → TyVal B w v t → TyVal B w v' u → Calls Tryz.prog f #[v, v'] w fun e w' => e = .returned (.bool (eqB t u)) ∧ Below w.heap.size w w'

abbrev cell6 (k p : Int) (n : ByteArray) (s : Int) (lv kv : Value) : Obj := .cells #[.int .i64 k, .int .i64 p, .string n, .int .i64 s, lv, kv] 25
/-- The world in which both parameters are boxed. -/
abbrev box2 (w : World) (k p : Int) (n : ByteArray) (s : Int) (lv kv : Value) (k' p' : Int) (n' : ByteArray) (s' : Int) (lv' kv' : Value) : World := (w.alloc (cell6 k p n s lv kv)).alloc (cell6 k' p' n' s' lv' kv')
theorem box2_below (w : World) (o o' : Obj) : Below w.heap.size w ((w.alloc o).alloc o') := ((Below.refl _ _).alloc (Nat.le_refl _) _).alloc (by simp) _

set_option maxHeartbeats 2000000 in
set_option maxRecDepth 100000 in
/-- A field parts: the answer is no. -/
theorem rsame_no (k p s k' p' s' : Int) (n n' : ByteArray) (lv kv lv' kv' : Value) (h : ¬ (k = k' ∧ p = p' ∧ n = n' ∧ s = s')) (w : World) :
    Calls Tryz.prog 68 #[.agg #[.int .i64 k, .int .i64 p, .string n, .int .i64 s, lv, kv], .agg #[.int .i64 k', .int .i64 p', .string n', .int .i64 s', lv', kv']] w fun e w' => e = .returned (.bool false) ∧ Below w.heap.size w w' := by
  by_cases h1 : k = k'
  · subst h1
    by_cases h2 : p = p'
    · subst h2
      by_cases h3 : n = n'
      · subst h3
        have h4 : (s != s') = true := by simp; intro e; exact h ⟨rfl, rfl, rfl, e⟩
        clear h
        go_enter Tryz.func68, Tryz.ntmps68
        go_wp2_with fail
        go_ret
        exact ⟨rfl, box2_below _ _ _⟩
      · have h4 := str_ne h3
        have h5 : (n.toList == n'.toList) = false := by simpa using h4
        clear h
        go_enter Tryz.func68, Tryz.ntmps68
        go_wp2_with fail
        go_ret
        exact ⟨rfl, box2_below _ _ _⟩
    · have h4 : (p != p') = true := by simpa using h2
      clear h
      go_enter Tryz.func68, Tryz.ntmps68
      go_wp2_with fail
      go_ret
      exact ⟨rfl, box2_below _ _ _⟩
  · have h4 : (k != k') = true := by simpa using h1
    clear h
    go_enter Tryz.func68, Tryz.ntmps68
    go_wp2_with fail
    go_ret
    exact ⟨rfl, box2_below _ _ _⟩

end Go.Proofs.YtjmnaibbljakaaaGreatDoor
