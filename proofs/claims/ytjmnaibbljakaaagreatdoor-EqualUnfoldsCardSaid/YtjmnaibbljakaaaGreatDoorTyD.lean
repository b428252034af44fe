/- Types: sameness, by the reference: where the fields are the same. -/
import Derived.Test.YtjmnaibbljakaaaGreatDoorTyC
import Derived.StillTailTactics
namespace Go.Proofs.YtjmnaibbljakaaaGreatDoor
open Go.RowKit

theorem lists_eq {α : Type} {l l' : List α} {n : Nat} (h : n = l.length) (h' : n = l'.length) (ht : l.take n = l'.take n) : l = l' := by
  rw [List.take_of_length_le (by omega), List.take_of_length_le (by omega)] at ht; exact ht

theorem box2_fst {w wr : World} {cs cs' : Array Value} {t t' : TypeId} (hb : Below (w.heap.size + 2) ((w.alloc (.cells cs t)).alloc (.cells cs' t')) wr) (j : Nat) {v : Value} (h : cs[j]? = some v) : wr.cell? ⟨w.heap.size, j, none⟩ = some v := by
  refine (hb.cell (p := ⟨w.heap.size, j, none⟩) (by simp)).trans ?_
  rw [(Below.refl _ _ |>.alloc (Nat.le_refl _) (.cells cs' t') : Below (w.alloc (.cells cs t)).heap.size (w.alloc (.cells cs t)) _).cell (by simp)]
  simp [h]
theorem box2_snd {w wr : World} {cs cs' : Array Value} {t t' : TypeId} (hb : Below (w.heap.size + 2) ((w.alloc (.cells cs t)).alloc (.cells cs' t')) wr) (j : Nat) {v : Value} (h : cs'[j]? = some v) : wr.cell? ⟨w.heap.size + 1, j, none⟩ = some v := by
  refine (hb.cell (p := ⟨w.heap.size + 1, j, none⟩) (by simp)).trans ?_
  have := blk_cell (w := w.alloc (.cells cs t)) (cs := cs') (t := t') (Below.refl _ _) j h
  simpa using this
theorem box2_low {w wr : World} {o o' : Obj} (hb : Below (w.heap.size + 2) ((w.alloc o).alloc o') wr) : Below w.heap.size w wr := (box2_below w o o').trans (hb.mono (by omega))

set_option maxHeartbeats 2000000 in
set_option maxRecDepth 100000 in
theorem rsame_kids (B : Nat → Prop) (k p s : Int) (n : ByteArray) (lv lv' kv kv' : Value) (ls ls' : List ByteArray) (ts ts' : List Ty) (ih : ∀ t ∈ ts, SameAt 68 B t) (w : World) (hB : Low B w)
    (hl : StrSl B w lv ls) (hl' : StrSl B w lv' ls') (hk : TySl B w kv ts) (hk' : TySl B w kv' ts') :
    Calls Tryz.prog 68 #[.agg #[.int .i64 k, .int .i64 p, .string n, .int .i64 s, lv, kv], .agg #[.int .i64 k, .int .i64 p, .string n, .int .i64 s, lv', kv']] w
      fun e w' => e = .returned (.bool (eqB (.mk k p n s ls ts) (.mk k p n s ls' ts'))) ∧ Below w.heap.size w w' := by
  obtain ⟨pa, len, c, rfl, hlen, hm, hget⟩ := hk.open
  obtain ⟨pa', len', c', rfl, hlen', hm', hget'⟩ := hk'.open
  have HG := Lib.hid hget
  have HG' := Lib.hid hget'
  have hb0 := box2_below w (cell6 k p n s lv (.slice pa len c)) (cell6 k p n s lv' (.slice pa' len' c'))
  have HT := Lib.hid (rtexts_any B lv lv' ls ls' (box2 w k p n s lv (.slice pa len c) k p n s lv' (.slice pa' len' c')) (hl.keep (hb0.keeps'.mono hB)) (hl'.keep (hb0.keeps'.mono hB)))
  clear hget hget' hk hk' hl hl' hb0
  by_cases he : ls = ls'
  · subst he
    rw [show decide (ls = ls) = true by simp] at HT
    by_cases hz : len = len'
    · subst hz
      go_enter Tryz.func68, Tryz.ntmps68
      go_wp2_with (go_at_call 82; refine HT.out.mono ?_; rintro e w1 ⟨rfl, nq, rfl⟩)
      clear HT
      generalize hW0 : ((box2 w k p n s lv (.slice pa len c) k p n s lv' (.slice pa' len c')).drewN nq) = W0
      have hB0 : Below (w.heap.size + 2) (box2 w k p n s lv (.slice pa len c) k p n s lv' (.slice pa' len c')) W0 := by rw [← hW0]; exact below_drewN (Below.refl _ _) _
      clear hW0
      go_loopw [5] (fun i wr => ∃ (j : Nat), i = .int .i64 j ∧ j ≤ len ∧ Hid (ts.take j = ts'.take j) ∧ Below (w.heap.size + 2) (box2 w k p n s lv (.slice pa len c) k p n s lv' (.slice pa' len c')) wr) (fun i _ => len - (intOf i).toNat)
      case atStart => exact ⟨0, rfl, by omega, Lib.hid (by simp), hB0⟩
      case round =>
        obtain ⟨j, rfl, hj, HT, hb⟩ := hrel
        have c5 := box2_fst hb 5 rfl
        have d5 := box2_snd hb 5 rfl
        have hw := box2_low hb
        by_cases hlt : j < len
        · obtain ⟨t, ht⟩ : ∃ t, ts[j]? = some t := ⟨_, List.getElem?_eq_getElem (by rw [← hlen.out]; exact hlt)⟩
          obtain ⟨t', ht'⟩ : ∃ t', ts'[j]? = some t' := ⟨_, List.getElem?_eq_getElem (by rw [← hlen'.out]; exact hlt)⟩
          obtain ⟨kb, ko, rfl, hkb, hty⟩ := HG.out j t ht
          obtain ⟨kb', ko', rfl, hkb', hty'⟩ := HG'.out j t' ht'
          obtain ⟨lv1, kv1, ⟨a0, a1, a2, a3, a4, a5⟩, hval⟩ := (hty.keep (hw.keeps'.mono hB)).load
          obtain ⟨lv2, kv2, ⟨b0, b1, b2, b3, b4, b5⟩, hval'⟩ := (hty'.keep (hw.keeps'.mono hB)).load
          have IH := Lib.hid (ih t (List.mem_of_getElem? ht) t' _ _ wr.drew (hB.le hw.size) (hval.to (hB.le hw.size) (Below.drew (Below.refl _ _))) (hval'.to (hB.le hw.size) (Below.drew (Below.refl _ _))))
          by_cases htt : t = t'
          · rw [eqB_true.2 htt] at IH
            have hn : Hid (ts.take (j + 1) = ts'.take (j + 1)) := Lib.hid (by rw [take_snoc_get ht, take_snoc_get ht', HT.out, htt])
            clear ht ht' htt hty hty' hval hval'
            go_wp2_with fail
            go_still_tail 10, (by kernel_rfl)
            change wpList _ _ _ _ _ wr.drew
            generalize hw2 : wr.drew = w2 at *
            have hb2 : Below (w.heap.size + 2) (box2 w k p n s lv (.slice (some ⟨kb, ko, none⟩) len c) k p n s lv' (.slice (some ⟨kb', ko', none⟩) len c')) w2 := by rw [← hw2]; exact hb.drew
            clear hw2
            go_wp2_with (go_at_call 68; refine IH.out.mono ?_; rintro e w3 ⟨rfl, hb3⟩)
            go_roundw
            case rel => exact ⟨j + 1, by go_num, by omega, hn, hb2.trans (hb3.mono (by have := hb2.size; simpa using this))⟩
            case measure => simp [intOf]; omega
          · rw [eqB_ne htt] at IH
            have hne : Hid (eqB (.mk k p n s ls ts) (.mk k p n s ls ts') = false) := Lib.hid (eqB_ne (fun e => htt (by cases e; rw [ht] at ht'; exact Option.some.inj ht')))
            clear ht ht' htt hty hty' hval hval'
            go_wp2_with fail
            go_still_tail 10, (by kernel_rfl)
            change wpList _ _ _ _ _ wr.drew
            generalize hw2 : wr.drew = w2 at *
            have hb2 : Below (w.heap.size + 2) (box2 w k p n s lv (.slice (some ⟨kb, ko, none⟩) len c) k p n s lv' (.slice (some ⟨kb', ko', none⟩) len c')) w2 := by rw [← hw2]; exact hb.drew
            clear hw2
            go_wp2_with (go_at_call 68; refine IH.out.mono ?_; rintro e w3 ⟨rfl, hb3⟩)
            go_ret
            exact ⟨ret_bool hne.out.symm, below_seq (box2_low hb2) hb3⟩
        · obtain rfl : j = len := by omega
          have hq : Hid (eqB (.mk k p n s ls ts) (.mk k p n s ls ts') = true) := Lib.hid (eqB_true.2 (by rw [lists_eq hlen.out hlen'.out HT.out]))
          go_wp2_with fail
          go_ret
          exact ⟨ret_bool hq.out.symm, hw⟩
    · have hz' : (len != len') = true := by simpa using hz
      have hne : Hid (eqB (.mk k p n s ls ts) (.mk k p n s ls ts') = false) := Lib.hid (eqB_ne (fun e => hz (by rw [hlen.out, hlen'.out]; cases e; rfl)))
      go_enter Tryz.func68, Tryz.ntmps68
      go_wp2_with (go_at_call 82; refine HT.out.mono ?_; rintro e w1 ⟨rfl, nq, rfl⟩)
      go_ret
      exact ⟨ret_bool hne.out.symm, below_drewN (box2_below _ _ _) _⟩
  · rw [show decide (ls = ls') = false by simpa using he] at HT
    have hne : Hid (eqB (.mk k p n s ls ts) (.mk k p n s ls' ts') = false) := Lib.hid (eqB_ne (fun e => he (by cases e; rfl)))
    clear he
    go_enter Tryz.func68, Tryz.ntmps68
    go_wp2_with (go_at_call 82; refine HT.out.mono ?_; rintro e w1 ⟨rfl, nq, rfl⟩)
    go_ret
    exact ⟨ret_bool hne.out.symm, below_drewN (box2_below _ _ _) _⟩

theorem rsame_any (B : Nat → Prop) : ∀ (t : Ty), SameAt 68 B t := by
  refine Ty.ind ?_
  intro k p n s ls ts ih u v v' w hB hv hv'
  obtain ⟨lv, kv, rfl, _, hl, hk⟩ := hv
  obtain ⟨k', p', n', s', ls', ts'⟩ := u
  obtain ⟨lv', kv', rfl, _, hl', hk'⟩ := hv'
  by_cases h : k = k' ∧ p = p' ∧ n = n' ∧ s = s'
  · obtain ⟨rfl, rfl, rfl, rfl⟩ := h
    exact rsame_kids B _ _ _ _ lv lv' kv kv' ls ls' ts ts' ih w hB hl hl' hk hk'
  · rw [eqB_ne (fun e => h (by cases e; exact ⟨rfl, rfl, rfl, rfl⟩))]
    exact rsame_no _ _ _ _ _ _ _ _ _ _ _ _ h w

end Go.Proofs.YtjmnaibbljakaaaGreatDoor
