/- Package lex: Join. -/
import Derived.Test.YtenhjddkocldaaaDoorLexK
import Derived.Laws.OwnMore
import Derived.Deep.OwnRows
namespace Go.Proofs.YtenhjddkocldaaaDoor
open Go.RowKit Go.Shelf Go.Deep

/-- The tokens xs lie from cell o of block g on. -/
def TokAt (w : World) (g o : Nat) (xs : List Item) : Prop :=
  ∀ (k : Nat) (x : Item), xs[k]? = some x → w.cell? ⟨g, o + k * 4, none⟩ = some (.int .i64 x.k) ∧ w.cell? ⟨g, o + k * 4 + 1, none⟩ = some (.string x.t) ∧ w.cell? ⟨g, o + k * 4 + 2, none⟩ = some (.int .i64 x.v) ∧ w.cell? ⟨g, o + k * 4 + 3, none⟩ = some (.int .i64 x.a)
def jRow (xs : List Item) (k : Nat) : List Value := (xs.take k).map (fun x => Value.string x.t) ++ List.replicate (xs.length - k) (.string ⟨#[]⟩)
theorem strInfo : (Tryd.prog.info? 9).map (fun i => (i.zero, i.size, i.bytes)) = some (some (.string ⟨#[]⟩), 1, 16) := by kernel_rfl

theorem jRow_len (xs : List Item) (k : Nat) (h : k ≤ xs.length) : (jRow xs k).length = xs.length := by simp [jRow]; omega
theorem jRow_at (xs : List Item) (k : Nat) (h : k < xs.length) : (jRow xs k)[k]? = some (.string ⟨#[]⟩) := by
  unfold jRow
  have e : ((xs.take k).map (fun x => Value.string x.t)).length = k := by rw [List.length_map, List.length_take]; omega
  rw [List.getElem?_append_right (by omega), e, Nat.sub_self, List.getElem?_replicate, if_pos (by omega)]
theorem jRow_set (xs : List Item) (k : Nat) (x : Item) (h : xs[k]? = some x) : (jRow xs k).set k (.string x.t) = jRow xs (k + 1) := by
  have hk : k < xs.length := (List.getElem?_eq_some_iff.1 h).1
  unfold jRow
  have el : ((xs.take k).map (fun x => Value.string x.t)).length = k := by rw [List.length_map, List.length_take]; omega
  have e : xs.length - k = (xs.length - (k + 1)) + 1 := by omega
  rw [List.set_append_right _ _ (by omega), el, Nat.sub_self, e, List.replicate_succ, List.set_cons_zero, List.take_add_one, h]
  simp
theorem jRow_all (xs : List Item) : jRow xs xs.length = (xs.map Item.t).map Value.string := by simp [jRow]

/-- The texts of tokens, joined. -/
def joinL (xs : List Item) : List UInt8 := Lib.join ((xs.map Item.t).map (·.data.toList)) [32]

set_option maxHeartbeats 1000000 in
theorem join_any (g o cap : Nat) (xs : List Item) (w : World) (hg : g < w.heap.size) (ht : TokAt w g o xs) (hn : xs.length ≤ 1048576) (hlen : (joinL xs).length ≤ 140737488355328) :
    Calls Tryd.prog 17 #[.slice (some ⟨g, o, none⟩) xs.length cap] w fun e w' => e = .returned (.string (txt (joinL xs))) ∧ Below w.heap.size w w' := by
  have hmk := run_make_row' (P := Tryd.prog) 53 9 (.string ⟨#[]⟩) 16 Tryd.underlying53 strInfo rfl .i64 .i64 xs.length (by omega) (by omega)
  obtain ⟨n, hn'⟩ : ∃ n, n = xs.length := ⟨_, rfl⟩
  rw [← hn'] at hmk ⊢ hn
  have HN := Lib.hid hn'
  have HL := Lib.hid hlen
  clear hn' hlen
  go_enter Tryd.func17, Tryd.ntmps17
  go_wp2_with fail
  go_loopw [11] (fun i wr => ∃ k : Nat, i = .int .i64 k ∧ k ≤ n ∧ wr.ownsRow w.heap.size 9 1 (.slice (some ⟨w.heap.size, 0, none⟩) n n) n (jRow xs k) ∧ Below w.heap.size w wr) (fun i _ => n - (intOf i).toNat)
  case atStart =>
    refine ⟨0, rfl, by omega, ?_, (Below.refl _ _).alloc (Nat.le_refl _) _⟩
    have h := World.ownsRow_lit (base := w.heap.size) (e := 9) (size := 1) w (madeCells #[.string ⟨#[]⟩] n) n (Nat.le_refl _) (by unfold maxLen; omega) (by have h := congrArg List.length (toList_madeCells_one (.string ⟨#[]⟩) n); rw [Array.length_toList, List.length_replicate] at h; omega)
    rw [toList_madeCells_one] at h
    have e : jRow xs 0 = List.replicate n (.string ⟨#[]⟩) := by simp [jRow, HN.out]
    rw [e]; exact h
  case round =>
    obtain ⟨k, rfl, hk, hrow, hB⟩ := hrel
    have hlw := (hrow.lt w.heap.size rfl).2
    by_cases hlt : k < n
    · obtain ⟨x, hx⟩ : ∃ x, xs[k]? = some x := ⟨_, List.getElem?_eq_getElem (by rw [← HN.out]; exact hlt)⟩
      have c0 := (hB.cell (p := ⟨g, o + k * 4, none⟩) hg).trans (ht k x hx).1
      have c1 := (hB.cell (p := ⟨g, o + k * 4 + 1, none⟩) hg).trans (ht k x hx).2.1
      have c2 := (hB.cell (p := ⟨g, o + k * 4 + 2, none⟩) hg).trans (ht k x hx).2.2.1
      have c3 := (hB.cell (p := ⟨g, o + k * 4 + 3, none⟩) hg).trans (ht k x hx).2.2.2
      have d0 : wr.cell? ⟨w.heap.size, k, none⟩ = some (.string ⟨#[]⟩) := (hrow.cellAt k (by omega)).trans (jRow_at xs k (by rw [← HN.out]; exact hlt))
      have d1 : wr.frozen? ⟨w.heap.size, k, none⟩ = false := hrow.frozenAt k
      have hst := (hrow.stored k (.string x.t)).1
      rw [jRow_set xs k x hx] at hst
      have HX := Lib.hid hx
      clear hx
      go_wp2_with fail
      go_roundw
      case rel => exact ⟨k + 1, by go_num, by omega, hst.alloc _, (hB.setCell (p := ⟨w.heap.size, k, none⟩) (Nat.le_refl _) _).alloc (by simp; omega) _⟩
      case measure => simp [intOf]; omega
    · obtain rfl : k = n := by omega
      have hcells : ∀ (j : Nat) x, (xs.map Item.t)[j]? = some x → wr.cell? ⟨w.heap.size, 0 + j, none⟩ = some (.string x) := by
        intro j x hj
        have hj' : j < xs.length := by have := (List.getElem?_eq_some_iff.1 hj).1; simpa using this
        rw [Nat.zero_add, hrow.cellAt j (by rw [Nat.mul_one, HN.out]; exact hj'), HN.out, jRow_all, List.getElem?_map, hj]; rfl
      have hJ : Calls Tryd.prog 27 #[.slice (some ⟨w.heap.size, 0, none⟩) k k, .string ⟨#[32]⟩] wr fun e w' => e = .returned (.string (txt (joinL xs))) ∧ Below wr.heap.size wr w' := by
        have h := Tryd.strings_Join w.heap.size 0 k (xs.map Item.t) ⟨#[32]⟩ wr hcells hlw (by rw [List.length_map, ← HN.out]; omega) (by rw [List.length_map, ← HN.out]; exact Nat.le_refl _) HL.out
        rw [List.length_map, ← HN.out] at h
        exact h
      clear hcells
      go_wp2_with (go_at_call 27; refine hJ.mono ?_; rintro e w' ⟨rfl, hb2⟩)
      go_ret
      exact ⟨rfl, hB.trans (hb2.mono (by omega))⟩

end Go.Proofs.YtenhjddkocldaaaDoor
