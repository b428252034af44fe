/- Types: lists mapped into new memory. -/
import Derived.Test.YtipjjhkgcbabnaaDoorTyF
import Derived.Laws.OwnMore
import Derived.Deep.OwnRows
import Derived.Maps.AppendAt
import Derived.Lib.SliceRun
namespace Go.Proofs.YtipjjhkgcbabnaaDoor
open Go.RowKit Go.Deep

/-- Blocks that are new between two sizes of the heap. -/
def Fresh (a b : Nat) : Nat → Prop := fun k => a ≤ k ∧ k < b
theorem Fresh.low {a : Nat} {w : World} : Low (Fresh a w.heap.size) w := fun _ h => h.2
theorem Fresh.mono {a b c d : Nat} (h1 : c ≤ a) (h2 : b ≤ d) : ∀ k, Fresh a b k → Fresh c d k := fun _ h => ⟨Nat.le_trans h1 h.1, Nat.lt_of_lt_of_le h.2 h2⟩

def sRow (ls : List ByteArray) (k : Nat) : List Value := (ls.take k).map Value.string ++ List.replicate (ls.length - k) (.string ⟨#[]⟩)
theorem strInfo : (Tryd.prog.info? 9).map (fun i => (i.zero, i.size, i.bytes)) = some (some (.string ⟨#[]⟩), 1, 16) := by kernel_rfl
theorem sRow_len (ls : List ByteArray) (k : Nat) (h : k ≤ ls.length) : (sRow ls k).length = ls.length := by simp [sRow]; omega
theorem sRow_at (ls : List ByteArray) (k : Nat) (h : k < ls.length) : (sRow ls k)[k]? = some (.string ⟨#[]⟩) := by
  unfold sRow
  have e : ((ls.take k).map Value.string).length = k := by rw [List.length_map, List.length_take]; omega
  rw [List.getElem?_append_right (by omega), e, Nat.sub_self, List.getElem?_replicate, if_pos (by omega)]
theorem sRow_set (ls : List ByteArray) (k : Nat) (x : ByteArray) (h : ls[k]? = some x) : (sRow ls k).set k (.string x) = sRow ls (k + 1) := by
  have hk : k < ls.length := (List.getElem?_eq_some_iff.1 h).1
  unfold sRow
  have el : ((ls.take k).map Value.string).length = k := by rw [List.length_map, List.length_take]; omega
  have e : ls.length - k = (ls.length - (k + 1)) + 1 := by omega
  rw [List.set_append_right _ _ (by omega), el, Nat.sub_self, e, List.replicate_succ, List.set_cons_zero, List.take_add_one, h]
  simp
theorem sRow_all (ls : List ByteArray) : sRow ls ls.length = ls.map Value.string := by simp [sRow]

set_option maxHeartbeats 400000 in
theorem ident_any (s : ByteArray) (w : World) : Calls Tryd.prog 103 #[.string s] w fun e w' => e = .returned (.string s) ∧ w = w' := by
  go_enter Tryd.func103, Tryd.ntmps103
  go_wp2
  go_ret
  exact ⟨rfl, rfl⟩

theorem eqS (a : Option Addr) (l c : Nat) (w : World) : (binOp .eql 22 (.slice a l c) (.slice none 0 0)).run Tryd.prog w = .ok (.bool a.isNone) w := Lib.run_eql_slice_nil w 22 9 a l c 0 0 Tryd.underlying22
theorem eqK (a : Option Addr) (l c : Nat) (w : World) : (binOp .eql 23 (.slice a l c) (.slice none 0 0)).run Tryd.prog w = .ok (.bool a.isNone) w := Lib.run_eql_slice_nil w 23 25 a l c 0 0 Tryd.underlying23

/-- What a copied list of texts is. -/
def StrRet (w : World) (ls : List ByteArray) (e : Ending) (w' : World) : Prop :=
  ∃ la ln lc, e = .returned (.slice la ln lc) ∧ StrSl (Fresh w.heap.size w'.heap.size) w' (.slice la ln lc) ls ∧ Below w.heap.size w w'

set_option maxHeartbeats 2000000 in
theorem mappedS_any (B : Nat → Prop) (v : Value) (ls : List ByteArray) (hn : ls.length ≤ 400000000) (w : World) (hB : Low B w) (h : StrSl B w v ls) :
    Calls Tryd.prog 102 #[v, .func (.func 103) #[] #[]] w (StrRet w ls) := by
  have hsz := h.2.2
  rcases h.parts with ⟨c, rfl, rfl⟩ | ⟨ad, c, rfl, hrow⟩
  · have hq := eqS none 0 c
    go_enter Tryd.func102, Tryd.ntmps102
    go_wp2_with fail
    go_ret
    exact ⟨_, _, _, rfl, ⟨.inl ⟨⟨_, _, rfl⟩, rfl⟩, by simp [maxLen], fun s hs => by cases hs⟩, Below.refl _ _⟩
  · obtain ⟨n, hn'⟩ : ∃ n, n = ls.length := ⟨_, rfl⟩
    have hmk := run_make_row' (P := Tryd.prog) 22 9 (.string ⟨#[]⟩) 16 Tryd.underlying22 strInfo rfl .i64 .i64 ls.length (by omega) (by omega)
    rw [← hn'] at hmk ⊢ hn
    have HN := Lib.hid hn'
    have HR := Lib.hid hrow
    have hq := eqS (some ad) n c
    clear hn' hrow h
    go_enter Tryd.func102, Tryd.ntmps102
    go_wp2_with fail
    go_loopw [15] (fun i wr => ∃ k : Nat, i = .int .i64 k ∧ k ≤ n ∧ wr.ownsRow w.heap.size 9 1 (.slice (some ⟨w.heap.size, 0, none⟩) n n) n (sRow ls k) ∧ Below w.heap.size w wr) (fun i _ => n - (intOf i).toNat)
    case atStart =>
      refine ⟨0, rfl, by omega, ?_, (Below.refl _ _).alloc (Nat.le_refl _) _⟩
      have h := World.ownsRow_lit (base := w.heap.size) (e := 9) (size := 1) w (madeCells #[.string ⟨#[]⟩] n) n (Nat.le_refl _) (by unfold maxLen; omega) (by have h := congrArg List.length (toList_madeCells_one (.string ⟨#[]⟩) n); rw [Array.length_toList, List.length_replicate] at h; omega)
      rw [toList_madeCells_one] at h
      have e : sRow ls 0 = List.replicate n (.string ⟨#[]⟩) := by simp [sRow, HN.out]
      rw [e]; exact h
    case round =>
      obtain ⟨k, rfl, hk, hrow, hb⟩ := hrel
      have hlw := (hrow.lt w.heap.size rfl).2
      by_cases hlt : k < n
      · obtain ⟨x, hx⟩ : ∃ x, ls[k]? = some x := ⟨_, List.getElem?_eq_getElem (by rw [← HN.out]; exact hlt)⟩
        obtain ⟨g, o, rfl, hg, hcx⟩ := HR.out k x hx
        have c0 := (hb.cell (p := ⟨g, o + k, none⟩) (hB g hg)).trans hcx
        clear hcx
        have d0 : wr.cell? ⟨w.heap.size, k, none⟩ = some (.string ⟨#[]⟩) := (hrow.cellAt k (by omega)).trans (sRow_at ls k (by rw [← HN.out]; exact hlt))
        have d1 : wr.frozen? ⟨w.heap.size, k, none⟩ = false := hrow.frozenAt k
        have hst := (hrow.stored k (.string x)).1
        rw [sRow_set ls k x hx] at hst
        clear hx
        go_wp2_with (go_at_call 103; refine (ident_any _ _).mono ?_; rintro e w1 ⟨rfl, rfl⟩)
        go_roundw
        case rel => exact ⟨k + 1, by go_num, by omega, hst, hb.setCell (p := ⟨w.heap.size, k, none⟩) (Nat.le_refl _) _⟩
        case measure => simp [intOf]; omega
      · obtain rfl : k = n := by omega
        clear hmk
        go_wp2_with fail
        go_ret
        refine ⟨_, _, _, rfl, ⟨.inr ⟨w.heap.size, 0, k, by rw [HN.out], ⟨Nat.le_refl _, hlw⟩, by rw [HN.out]; exact Nat.le_refl _, fun j s hj => ?_⟩, by unfold maxLen; have := HN.out; omega, hsz⟩, hb⟩
        have hj' : j < ls.length := (List.getElem?_eq_some_iff.1 hj).1
        rw [Nat.zero_add, hrow.cellAt j (by rw [Nat.mul_one, HN.out]; exact hj'), HN.out, sRow_all, List.getElem?_map, hj]; rfl

end Go.Proofs.YtipjjhkgcbabnaaDoor
