/- Types: sameness, by the program. -/
import Derived.Test.YtgmdmbmkljbgiaaGreatDoorTyD
namespace Go.Proofs.YtgmdmbmkljbgiaaGreatDoor
open Go.RowKit

set_option maxHeartbeats 1000000 in
/-- slices.Equal, at lists of texts. -/
theorem tequal_any (B : Nat → Prop) (v v' : Value) (ls ls' : List ByteArray) (w : World) (h : StrSl B w v ls) (h' : StrSl B w v' ls') :
    Calls Tryz.prog 107 #[v, v'] w fun e w' => e = .returned (.bool (decide (ls = ls'))) ∧ Drew w w' := by
  obtain ⟨pa, len, c, rfl, hlen, hm, hget⟩ := h.open
  obtain ⟨pa', len', c', rfl, hlen', hm', hget'⟩ := h'.open
  have HG := Lib.hid hget
  have HG' := Lib.hid hget'
  clear hget hget' h h'
  by_cases hl : len = len'
  · subst hl
    go_enter Tryz.func107, Tryz.ntmps107
    go_wp2_with fail
    go_loopw [13] (fun i wr => ∃ (j : Nat), i = .int .i64 j ∧ j ≤ len ∧ Hid (ls.take j = ls'.take j) ∧ Drew w wr) (fun i _ => len - (intOf i).toNat)
    case atStart => exact ⟨0, rfl, by omega, Lib.hid (by simp), Drew.refl _⟩
    case round =>
      obtain ⟨j, rfl, hj, HT, hd⟩ := hrel
      by_cases hlt : j < len
      · obtain ⟨s, hs⟩ : ∃ s, ls[j]? = some s := ⟨_, List.getElem?_eq_getElem (by rw [← hlen.out]; exact hlt)⟩
        obtain ⟨s', hs'⟩ : ∃ s', ls'[j]? = some s' := ⟨_, List.getElem?_eq_getElem (by rw [← hlen'.out]; exact hlt)⟩
        obtain ⟨_, kb, ko, rfl, hkb, hc⟩ := HG.out j s hs
        replace hc : wr.cell? ⟨kb, ko + j, none⟩ = some (.string s) := by obtain ⟨m, rfl⟩ := hd; exact hc
        obtain ⟨_, kb', ko', rfl, hkb', hc'⟩ := HG'.out j s' hs'
        replace hc' : wr.cell? ⟨kb', ko' + j, none⟩ = some (.string s') := by obtain ⟨m, rfl⟩ := hd; exact hc'
        by_cases hss : s = s'
        · subst hss
          have hn : Hid (ls.take (j + 1) = ls'.take (j + 1)) := Lib.hid (by rw [take_snoc_get hs, take_snoc_get hs', HT.out])
          clear hs hs'
          go_wp2_with fail
          go_quiet (fail)
          go_wp2_with fail
          go_roundw
          case rel => exact ⟨j + 1, by go_num, by omega, hn, hd.more _⟩
          case measure => simp [intOf]; omega
        · have hne : Hid (ls ≠ ls') := Lib.hid (fun e => hss (by rw [e, hs'] at hs; exact (Option.some.inj hs).symm))
          have hb1 := str_ne hss
          have hb2 : (s.toList == s'.toList) = false := by simpa using hb1
          clear hs hs' hss
          go_wp2_with fail
          go_quiet (fail)
          go_wp2_with fail
          go_ret
          exact ⟨ret_bool (by simp [hne.out]), hd.more _⟩
      · obtain rfl : j = len := by omega
        go_wp2_with fail
        go_ret
        refine ⟨ret_bool ?_, hd⟩
        simp [lists_eq hlen.out hlen'.out HT.out]
  · have hl' : (len != len') = true := by simpa using hl
    have hne : ls ≠ ls' := fun e => hl (by rw [hlen.out, hlen'.out, e])
    have HN := Lib.hid hne
    clear hne
    go_enter Tryz.func107, Tryz.ntmps107
    go_wp2_with fail
    go_ret
    exact ⟨ret_bool (by simp [HN.out]), Drew.refl _⟩

noncomputable def eqL (ts ts' : List Ty) : Bool := @decide (ts = ts') (Classical.propDecidable _)
theorem eqL_true {t u : List Ty} : eqL t u = true ↔ t = u := by unfold eqL; simp
theorem eqL_ne {t u : List Ty} (h : t ≠ u) : eqL t u = false := by
  cases e : eqL t u with
  | false => rfl
  | true => exact absurd (eqL_true.1 e) h

set_option maxHeartbeats 2000000 in
set_option maxRecDepth 100000 in
/-- slices.EqualFunc, with Same. -/
theorem tequalf_any (B : Nat → Prop) (kv kv' : Value) (ts ts' : List Ty) (ih : ∀ t ∈ ts, SameAt 89 B t) (w : World) (hB : Low B w) (hk : TySl B w kv ts) (hk' : TySl B w kv' ts') :
    Calls Tryz.prog 108 #[kv, kv', .func (.func 89) #[] #[]] w fun e w' => e = .returned (.bool (eqL ts ts')) ∧ Below w.heap.size w w' := by
  obtain ⟨pa, len, c, rfl, hlen, hm, hget⟩ := hk.open
  obtain ⟨pa', len', c', rfl, hlen', hm', hget'⟩ := hk'.open
  have HG := Lib.hid hget
  have HG' := Lib.hid hget'
  clear hget hget' hk hk'
  by_cases hl : len = len'
  · subst hl
    go_enter Tryz.func108, Tryz.ntmps108
    go_wp2_with fail
    go_loopw [17] (fun i wr => ∃ (j : Nat), i = .int .i64 j ∧ j ≤ len ∧ Hid (ts.take j = ts'.take j) ∧ Below w.heap.size w wr) (fun i _ => len - (intOf i).toNat)
    case atStart => exact ⟨0, rfl, by omega, Lib.hid (by simp), Below.refl _ _⟩
    case round =>
      obtain ⟨j, rfl, hj, HT, hw⟩ := hrel
      by_cases hlt : j < len
      · obtain ⟨t, ht⟩ : ∃ t, ts[j]? = some t := ⟨_, List.getElem?_eq_getElem (by rw [← hlen.out]; exact hlt)⟩
        obtain ⟨t', ht'⟩ : ∃ t', ts'[j]? = some t' := ⟨_, List.getElem?_eq_getElem (by rw [← hlen'.out]; exact hlt)⟩
        obtain ⟨kb, ko, rfl, hkb, hty⟩ := HG.out j t ht
        obtain ⟨kb', ko', rfl, hkb', hty'⟩ := HG'.out j t' ht'
        obtain ⟨la, ln, lc, ka, kn, kc, ⟨a0, a1, a2, a3, a4, a5⟩, hval⟩ := (hty.keep (hw.keeps'.mono hB)).load'
        obtain ⟨la', ln', lc', ka', kn', kc', ⟨b0, b1, b2, b3, b4, b5⟩, hval'⟩ := (hty'.keep (hw.keeps'.mono hB)).load'
        have hbx := box2_below wr (cell6 t.k t.p t.n t.s (.slice la ln lc) (.slice ka kn kc)) (cell6 t'.k t'.p t'.n t'.s (.slice la' ln' lc') (.slice ka' kn' kc'))
        have e0 : (wr.alloc (cell6 t.k t.p t.n t.s (.slice la ln lc) (.slice ka kn kc))).cell? ⟨kb', ko' + j * 6, none⟩ = some (.int .i64 t'.k) := ((blkBelow wr _ _).cell (p := ⟨kb', _, none⟩) (hB.le hw.size _ hkb')).trans b0
        have e1 : (wr.alloc (cell6 t.k t.p t.n t.s (.slice la ln lc) (.slice ka kn kc))).cell? ⟨kb', ko' + j * 6 + 1, none⟩ = some (.int .i64 t'.p) := ((blkBelow wr _ _).cell (p := ⟨kb', _, none⟩) (hB.le hw.size _ hkb')).trans b1
        have e2 : (wr.alloc (cell6 t.k t.p t.n t.s (.slice la ln lc) (.slice ka kn kc))).cell? ⟨kb', ko' + j * 6 + 2, none⟩ = some (.string t'.n) := ((blkBelow wr _ _).cell (p := ⟨kb', _, none⟩) (hB.le hw.size _ hkb')).trans b2
        have e3 : (wr.alloc (cell6 t.k t.p t.n t.s (.slice la ln lc) (.slice ka kn kc))).cell? ⟨kb', ko' + j * 6 + 3, none⟩ = some (.int .i64 t'.s) := ((blkBelow wr _ _).cell (p := ⟨kb', _, none⟩) (hB.le hw.size _ hkb')).trans b3
        have e4 : (wr.alloc (cell6 t.k t.p t.n t.s (.slice la ln lc) (.slice ka kn kc))).cell? ⟨kb', ko' + j * 6 + 4, none⟩ = some (.slice la' ln' lc') := ((blkBelow wr _ _).cell (p := ⟨kb', _, none⟩) (hB.le hw.size _ hkb')).trans b4
        have e5 : (wr.alloc (cell6 t.k t.p t.n t.s (.slice la ln lc) (.slice ka kn kc))).cell? ⟨kb', ko' + j * 6 + 5, none⟩ = some (.slice ka' kn' kc') := ((blkBelow wr _ _).cell (p := ⟨kb', _, none⟩) (hB.le hw.size _ hkb')).trans b5
        have IH := Lib.hid (ih t (List.mem_of_getElem? ht) t' _ _ _ (hB.le (Nat.le_trans hw.size hbx.size)) (hval.to (hB.le hw.size) hbx) (hval'.to (hB.le hw.size) hbx))
        by_cases htt : t = t'
        · rw [eqB_true.2 htt] at IH
          have hn : Hid (ts.take (j + 1) = ts'.take (j + 1)) := Lib.hid (by rw [take_snoc_get ht, take_snoc_get ht', HT.out, htt])
          clear ht ht' htt hty hty' hval hval' b0 b1 b2 b3 b4 b5
          go_wp2_with (go_at_call 89; refine IH.out.mono ?_; rintro e w3 ⟨rfl, hb3⟩)
          go_roundw
          case rel => exact ⟨j + 1, by go_num, by omega, hn, below_seq hw (below_seq hbx hb3)⟩
          case measure => simp [intOf]; omega
        · rw [eqB_ne htt] at IH
          have hne : Hid (eqL ts ts' = false) := Lib.hid (eqL_ne (fun e => htt (by rw [e] at ht; rw [ht] at ht'; exact Option.some.inj ht')))
          clear ht ht' htt hty hty' hval hval' b0 b1 b2 b3 b4 b5
          go_wp2_with (go_at_call 89; refine IH.out.mono ?_; rintro e w3 ⟨rfl, hb3⟩)
          go_ret
          exact ⟨ret_bool hne.out.symm, below_seq hw (below_seq hbx hb3)⟩
      · obtain rfl : j = len := by omega
        have hq : Hid (eqL ts ts' = true) := Lib.hid (eqL_true.2 (lists_eq hlen.out hlen'.out HT.out))
        go_wp2_with fail
        go_ret
        exact ⟨ret_bool hq.out.symm, hw⟩
  · have hl' : (len != len') = true := by simpa using hl
    have hne : Hid (eqL ts ts' = false) := Lib.hid (eqL_ne (fun e => hl (by rw [hlen.out, hlen'.out, e])))
    go_enter Tryz.func108, Tryz.ntmps108
    go_wp2_with fail
    go_ret
    exact ⟨ret_bool hne.out.symm, Below.refl _ _⟩

end Go.Proofs.YtgmdmbmkljbgiaaGreatDoor
