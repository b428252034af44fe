/- Programs: sameness, by the program. (and what follows from it) -/
import Derived.Test.YtliijbcgkkiekaaDoorPb20
import Derived.Test.YtliijbcgkkiekaaDoorPb18
import Derived.Test.YtliijbcgkkiekaaDoorPb21

/- Programs: sameness, by the program. -/
namespace Go.Proofs.YtliijbcgkkiekaaDoor
open Go.RowKit Go.Deep Go.Shelf

abbrev cell13 (g : Pg) (dv lv av tl tk kv : Value) : Obj := .cells #[dv, .int .i64 g.m.k, .string g.m.c, .string g.m.x, lv, av, .int .i64 g.m.t.k, .int .i64 g.m.t.p, .string g.m.t.n, .int .i64 g.m.t.s, tl, tk, kv] 39
abbrev pgAgg (g : Pg) (dv lv av tl tk kv : Value) : Value := .agg #[dv, .int .i64 g.m.k, .string g.m.c, .string g.m.x, lv, av, .int .i64 g.m.t.k, .int .i64 g.m.t.p, .string g.m.t.n, .int .i64 g.m.t.s, tl, tk, kv]
/-- A program in a box of its own. -/
theorem boxed_pgAt {B S : Nat → Prop} {w W : World} {g : Pg} {dv lv av tl tk kv : Value} (hB : Low B w) (hd : DfSl B w dv g.ds) (hv : PrVal B w (prAgg g.m lv av tl tk kv) g.m) (hb : Below (w.heap.size + 1) (w.alloc (cell13 g dv lv av tl tk kv)) W) (hBS : ∀ k, B k → S k) (hS : S w.heap.size) : PgAt S W g w.heap.size 0 := by
  have hc : ∀ (j : Nat) (v : Value), #[dv, .int .i64 g.m.k, .string g.m.c, .string g.m.x, lv, av, .int .i64 g.m.t.k, .int .i64 g.m.t.p, .string g.m.t.n, .int .i64 g.m.t.s, tl, tk, kv][j]? = some v → W.cell? ⟨w.heap.size, j, none⟩ = some v := fun j v hj => blk_cell hb j hj
  refine ⟨hS, ⟨dv, hc 0 _ rfl, (hd.keep ((blk_below hb).keeps'.mono hB)).mono hBS⟩, prAt_of hS (hc 1 _ rfl) (hc 2 _ rfl) (hc 3 _ rfl) (hc 4 _ rfl) (hc 5 _ rfl) (hc 6 _ rfl) (hc 7 _ rfl) (hc 8 _ rfl) (hc 9 _ rfl) (hc 10 _ rfl) (hc 11 _ rfl) (hc 12 _ rfl) ?_⟩
  exact (hv.to hB (blk_below hb)).mono hBS

noncomputable def eqM (a a' : Pm) : Bool := decide (a.n = a'.n) && eqB a.t a'.t
theorem eqM_true {a a' : Pm} : eqM a a' = true ↔ a = a' := by
  unfold eqM; rw [Bool.and_eq_true, decide_eq_true_eq, eqB_true]; cases a; cases a'; simp
noncomputable def eqMs (p q : List Pm) : Bool := @decide (p = q) (Classical.propDecidable _)
theorem eqMs_true {p q : List Pm} : eqMs p q = true ↔ p = q := by unfold eqMs; simp
theorem eqMs_ne {p q : List Pm} (h : p ≠ q) : eqMs p q = false := by
  cases e : eqMs p q with
  | false => rfl
  | true => exact absurd (eqMs_true.1 e) h
noncomputable def eqD (a a' : Df) : Bool := decide (a.n = a'.n) && (eqMs a.ms a'.ms && eqP a.b a'.b)
theorem eqD_true {a a' : Df} : eqD a a' = true ↔ a = a' := by
  unfold eqD; rw [Bool.and_eq_true, Bool.and_eq_true, decide_eq_true_eq, eqMs_true, eqP_true]; cases a; cases a'; simp
noncomputable def eqDs (p q : List Df) : Bool := @decide (p = q) (Classical.propDecidable _)
theorem eqDs_true {p q : List Df} : eqDs p q = true ↔ p = q := by unfold eqDs; simp
theorem eqDs_ne {p q : List Df} (h : p ≠ q) : eqDs p q = false := by
  cases e : eqDs p q with
  | false => rfl
  | true => exact absurd (eqDs_true.1 e) h
noncomputable def eqG (a a' : Pg) : Bool := eqDs a.ds a'.ds && eqP a.m a'.m
theorem eqG_true {a a' : Pg} : eqG a a' = true ↔ a = a' := by
  unfold eqG; rw [Bool.and_eq_true, eqDs_true, eqP_true]; cases a; cases a'; simp
theorem eqG_self (g : Pg) : eqG g g = true := eqG_true.2 rfl
theorem eqM_ne {a a' : Pm} (h : a ≠ a') : eqM a a' = false := by
  cases e : eqM a a' with
  | false => rfl
  | true => exact absurd (eqM_true.1 e) h
theorem eqD_ne {a a' : Df} (h : a ≠ a') : eqD a a' = false := by
  cases e : eqD a a' with
  | false => rfl
  | true => exact absurd (eqD_true.1 e) h

set_option maxHeartbeats 2000000 in
set_option maxRecDepth 100000 in
theorem sameParam_any (B : Nat → Prop) (a a' : Pm) (b o b' o' : Nat) (w : World) (hB : Low B w) (hbB : B b) (hbB' : B b') (h : PmAt B w a b o) (h' : PmAt B w a' b' o') :
    Calls Tryd.prog 100 #[.pointer (some ⟨b, o, none⟩), .pointer (some ⟨b', o', none⟩)] w fun e w' => e = .returned (.bool (eqM a a')) ∧ Below w.heap.size w w' := by
  obtain ⟨_, c0, hty⟩ := h
  obtain ⟨_, c0', hty'⟩ := h'
  obtain ⟨la, ln, lc, ka, kn, kc, ⟨d0, d1, d2, d3, d4, d5⟩, hv⟩ := hty.load'
  obtain ⟨la', ln', lc', ka', kn', kc', ⟨d0', d1', d2', d3', d4', d5'⟩, hv'⟩ := hty'.load'
  have hb := hB b hbB
  have hb' := hB b' hbB'
  have lift : ∀ {v : Value} {x : Nat}, w.cell? ⟨b, x, none⟩ = some v → ∀ W, Below w.heap.size w W → W.cell? ⟨b, x, none⟩ = some v := fun h W hW => (hW.cell (p := ⟨b, _, none⟩) hb).trans h
  have lift' : ∀ {v : Value} {x : Nat}, w.cell? ⟨b', x, none⟩ = some v → ∀ W, Below w.heap.size w W → W.cell? ⟨b', x, none⟩ = some v := fun h W hW => (hW.cell (p := ⟨b', _, none⟩) hb').trans h
  obtain ⟨bt, hbt⟩ : ∃ x, eqB a.t a'.t = x := ⟨_, rfl⟩
  have HY : Hid (∀ W, Below w.heap.size w W → Calls Tryd.prog 18 #[.agg #[.int .i64 a.t.k, .int .i64 a.t.p, .string a.t.n, .int .i64 a.t.s, .slice la ln lc, .slice ka kn kc], .agg #[.int .i64 a'.t.k, .int .i64 a'.t.p, .string a'.t.n, .int .i64 a'.t.s, .slice la' ln' lc', .slice ka' kn' kc']] W fun e w' => e = .returned (.bool bt) ∧ Below W.heap.size W w') := Lib.hid (fun W hW => by
    rw [← hbt]; exact tsame_any B a.t a'.t _ _ W (hB.le hW.size) (hv.keep (hW.keeps'.mono hB)) (hv'.keep (hW.keeps'.mono hB)))
  have HEQ : Hid (eqM a a' = (decide (a.n = a'.n) && bt)) := Lib.hid (by unfold eqM; rw [hbt])
  rw [HEQ.out]
  obtain ⟨n, hn⟩ : ∃ n, a.n = n := ⟨_, rfl⟩
  obtain ⟨n', hn'⟩ : ∃ n, a'.n = n := ⟨_, rfl⟩
  rw [hn] at c0
  rw [hn'] at c0'
  rw [hn, hn']
  have e0 := fun q : Later w.heap.size w => lift c0 q.1 q.2
  have e0' := fun q : Later w.heap.size w => lift' c0' q.1 q.2
  have e1 : ∀ q : Later w.heap.size w, q.1.cell? ⟨b, o + 1, none⟩ = some (.int .i64 a.t.k) := fun q => lift d0 q.1 q.2
  have e1' : ∀ q : Later w.heap.size w, q.1.cell? ⟨b', o' + 1, none⟩ = some (.int .i64 a'.t.k) := fun q => lift' d0' q.1 q.2
  have e2 : ∀ q : Later w.heap.size w, q.1.cell? ⟨b, o + 2, none⟩ = some (.int .i64 a.t.p) := fun q => lift d1 q.1 q.2
  have e2' : ∀ q : Later w.heap.size w, q.1.cell? ⟨b', o' + 2, none⟩ = some (.int .i64 a'.t.p) := fun q => lift' d1' q.1 q.2
  have e3 : ∀ q : Later w.heap.size w, q.1.cell? ⟨b, o + 3, none⟩ = some (.string a.t.n) := fun q => lift d2 q.1 q.2
  have e3' : ∀ q : Later w.heap.size w, q.1.cell? ⟨b', o' + 3, none⟩ = some (.string a'.t.n) := fun q => lift' d2' q.1 q.2
  have e4 : ∀ q : Later w.heap.size w, q.1.cell? ⟨b, o + 4, none⟩ = some (.int .i64 a.t.s) := fun q => lift d3 q.1 q.2
  have e4' : ∀ q : Later w.heap.size w, q.1.cell? ⟨b', o' + 4, none⟩ = some (.int .i64 a'.t.s) := fun q => lift' d3' q.1 q.2
  have e5 : ∀ q : Later w.heap.size w, q.1.cell? ⟨b, o + 5, none⟩ = some (.slice la ln lc) := fun q => lift d4 q.1 q.2
  have e5' : ∀ q : Later w.heap.size w, q.1.cell? ⟨b', o' + 5, none⟩ = some (.slice la' ln' lc') := fun q => lift' d4' q.1 q.2
  have e6 : ∀ q : Later w.heap.size w, q.1.cell? ⟨b, o + 6, none⟩ = some (.slice ka kn kc) := fun q => lift d5 q.1 q.2
  have e6' : ∀ q : Later w.heap.size w, q.1.cell? ⟨b', o' + 6, none⟩ = some (.slice ka' kn' kc') := fun q => lift' d5' q.1 q.2
  clear hn hn' HEQ hbt hv hv' hty hty' lift lift' c0 c0' d0 d0' d1 d1' d2 d2' d3 d3' d4 d4' d5 d5'
  by_cases h1 : n = n'
  · subst h1
    rw [show decide (n = n) = true by simp, Bool.true_and]
    go_enter Tryd.func100, Tryd.ntmps100
    go_wp2_with fail
    refine wp_region_later w.heap.size w (by kernel_rfl) (by kernel_rfl) (Below.refl _ _) ?_
    repeat (go_big_quiet_step ((go_at_call 18; exact later_call _ (Nat.le_refl _) (HY.out _ (Subtype.property _)))))
    refine wpQuiet_nil ?_
    rintro _ ⟨⟨w5, hb5⟩, rfl⟩
    clear e0 e0' e1 e1' e2 e2' e3 e3' e4 e4' e5 e5' e6 e6'
    go_wp2_with fail
    go_ret
    exact ⟨rfl, hb5⟩
  · have h1' := str_ne h1
    have h1e : (n.toList == n'.toList) = false := by simpa using h1'
    rw [show decide (n = n') = false by simpa using h1, Bool.false_and]
    clear h1
    go_enter Tryd.func100, Tryd.ntmps100
    go_wp2_with fail
    refine wp_region_later w.heap.size w (by kernel_rfl) (by kernel_rfl) (Below.refl _ _) ?_
    repeat (go_big_quiet_step ((go_at_call 18; exact later_call _ (Nat.le_refl _) (HY.out _ (Subtype.property _)))))
    refine wpQuiet_nil ?_
    rintro _ ⟨⟨w5, hb5⟩, rfl⟩
    clear e0 e0' e1 e1' e2 e2' e3 e3' e4 e4' e5 e5' e6 e6'
    go_wp2_with fail
    go_ret
    exact ⟨rfl, hb5⟩

set_option maxHeartbeats 2000000 in
set_option maxRecDepth 100000 in
/-- sameLists, at other lists. -/
theorem psameMs_any (B : Nat → Prop) (kv kv' : Value) (ps ps' : List Pm) (w : World) (hB : Low B w) (hk : PmSl B w kv ps) (hk' : PmSl B w kv' ps') :
    Calls Tryd.prog 99 #[kv, kv', .func (.func 100) #[] #[]] w fun e w' => e = .returned (.bool (eqMs ps ps')) ∧ Below w.heap.size w w' := by
  obtain ⟨pa, len, c, rfl, hlen, hm, hget⟩ := hk.open
  obtain ⟨pa', len', c', rfl, hlen', hm', hget'⟩ := hk'.open
  have HG := Lib.hid hget
  have HG' := Lib.hid hget'
  clear hget hget' hk hk'
  by_cases hl : len = len'
  · subst hl
    go_enter Tryd.func99, Tryd.ntmps99
    go_wp2_with fail
    go_loopw [15] (fun i wr => ∃ (j : Nat), i = .int .i64 j ∧ j ≤ len ∧ Hid (ps.take j = ps'.take j) ∧ Below w.heap.size w wr) (fun i _ => len - (intOf i).toNat)
    case atStart => exact ⟨0, rfl, by omega, Lib.hid (by simp), Below.refl _ _⟩
    case round =>
      obtain ⟨j, rfl, hj, HT, hw⟩ := hrel
      by_cases hlt : j < len
      · obtain ⟨t, ht⟩ : ∃ t, ps[j]? = some t := ⟨_, List.getElem?_eq_getElem (by rw [← hlen.out]; exact hlt)⟩
        obtain ⟨t', ht'⟩ : ∃ t', ps'[j]? = some t' := ⟨_, List.getElem?_eq_getElem (by rw [← hlen'.out]; exact hlt)⟩
        obtain ⟨kb, ko, rfl, hkb, hty⟩ := HG.out j t ht
        obtain ⟨kb', ko', rfl, hkb', hty'⟩ := HG'.out j t' ht'
        have IH : Hid (∀ W, Below w.heap.size w W → Calls Tryd.prog 100 #[.pointer (some ⟨kb, ko + j * 7, none⟩), .pointer (some ⟨kb', ko' + j * 7, none⟩)] W fun e w' => e = .returned (.bool (eqM t t')) ∧ Below W.heap.size W w') :=
          Lib.hid (fun W hW => sameParam_any B t t' _ _ _ _ W (hB.le hW.size) hkb hkb' (PmAt.keep (hW.keeps'.mono hB) hkb hty) (PmAt.keep (hW.keeps'.mono hB) hkb' hty'))
        by_cases htt : t = t'
        · rw [eqM_true.2 htt] at IH
          have hn : Hid (ps.take (j + 1) = ps'.take (j + 1)) := Lib.hid (by rw [take_snoc_get ht, take_snoc_get ht', HT.out, htt])
          clear ht ht' htt hty hty'
          go_wp2_with fail
          refine wp_region_later wr.heap.size wr (by kernel_rfl) (by kernel_rfl) (Below.refl _ _) ?_
          repeat (go_big_quiet_step ((go_at_call 100; exact later_call _ (Nat.le_refl _) (IH.out _ (hw.trans (Below.mono (Subtype.property _) hw.size))))))
          refine wpQuiet_nil ?_
          rintro _ ⟨⟨w5, hb5⟩, rfl⟩
          go_wp2_with fail
          go_roundw
          case rel => exact ⟨j + 1, by go_num, by omega, hn, below_seq hw hb5⟩
          case measure => simp [intOf]; omega
        · rw [eqM_ne htt] at IH
          have hne : Hid (ps ≠ ps') := Lib.hid (fun e => htt (by rw [e, ht'] at ht; exact (Option.some.inj ht).symm))
          clear ht ht' htt hty hty'
          go_wp2_with fail
          refine wp_region_later wr.heap.size wr (by kernel_rfl) (by kernel_rfl) (Below.refl _ _) ?_
          repeat (go_big_quiet_step ((go_at_call 100; exact later_call _ (Nat.le_refl _) (IH.out _ (hw.trans (Below.mono (Subtype.property _) hw.size))))))
          refine wpQuiet_nil ?_
          rintro _ ⟨⟨w5, hb5⟩, rfl⟩
          go_wp2_with fail
          go_ret
          exact ⟨ret_bool (eqMs_ne hne.out).symm, below_seq hw hb5⟩
      · obtain rfl : j = len := by omega
        go_wp2_with fail
        go_ret
        refine ⟨ret_bool ?_, hw⟩
        rw [eqMs_true.2 (lists_eq hlen.out hlen'.out HT.out)]
  · have hl' : (len != len') = true := by simpa using hl
    have hne : ps ≠ ps' := fun e => hl (by rw [hlen.out, hlen'.out, e])
    have HN := Lib.hid hne
    clear hne
    go_enter Tryd.func99, Tryd.ntmps99
    go_wp2_with fail
    go_ret
    exact ⟨ret_bool (eqMs_ne HN.out).symm, Below.refl _ _⟩



set_option maxHeartbeats 2000000 in
set_option maxRecDepth 100000 in
theorem sameDef_any (B : Nat → Prop) (a a' : Df) (b o b' o' : Nat) (w : World) (hB : Low B w) (hbB : B b) (hbB' : B b') (h : DfAt B w a b o) (h' : DfAt B w a' b' o') :
    Calls Tryd.prog 65 #[.pointer (some ⟨b, o, none⟩), .pointer (some ⟨b', o', none⟩)] w fun e w' => e = .returned (.bool (eqD a a')) ∧ Below w.heap.size w w' := by
  obtain ⟨_, c0, ⟨mv, c1, hm⟩, hp⟩ := h
  obtain ⟨_, c0', ⟨mv', c1', hm'⟩, hp'⟩ := h'
  obtain ⟨ma, mn, mc, rfl, _⟩ := hm.open
  obtain ⟨ma', mn', mc', rfl, _⟩ := hm'.open
  have hb := hB b hbB
  have hb' := hB b' hbB'
  have lift : ∀ {v : Value} {x : Nat}, w.cell? ⟨b, x, none⟩ = some v → ∀ W, Below w.heap.size w W → W.cell? ⟨b, x, none⟩ = some v := fun h W hW => (hW.cell (p := ⟨b, _, none⟩) hb).trans h
  have lift' : ∀ {v : Value} {x : Nat}, w.cell? ⟨b', x, none⟩ = some v → ∀ W, Below w.heap.size w W → W.cell? ⟨b', x, none⟩ = some v := fun h W hW => (hW.cell (p := ⟨b', _, none⟩) hb').trans h
  obtain ⟨b1, hb1⟩ : ∃ x, eqMs a.ms a'.ms = x := ⟨_, rfl⟩
  obtain ⟨b2, hb2⟩ : ∃ x, eqP a.b a'.b = x := ⟨_, rfl⟩
  have HM : Hid (∀ W, Below w.heap.size w W → Calls Tryd.prog 99 #[.slice ma mn mc, .slice ma' mn' mc', .func (.func 100) #[] #[]] W fun e w' => e = .returned (.bool b1) ∧ Below W.heap.size W w') := Lib.hid (fun W hW => by
    rw [← hb1]; exact psameMs_any B _ _ a.ms a'.ms W (hB.le hW.size) (hm.keep (hW.keeps'.mono hB)) (hm'.keep (hW.keeps'.mono hB)))
  have HP : Hid (∀ W, Below w.heap.size w W → Calls Tryd.prog 63 #[.pointer (some ⟨b, o + 2, none⟩), .pointer (some ⟨b', o' + 2, none⟩)] W fun e w' => e = .returned (.bool b2) ∧ Below W.heap.size W w') := Lib.hid (fun W hW => by
    rw [← hb2]; exact psameP_any B a.b a'.b _ _ _ _ W (hB.le hW.size) (PrAt.keep (hW.keeps'.mono hB) _ _ _ hp) (PrAt.keep (hW.keeps'.mono hB) _ _ _ hp'))
  have HEQ : Hid (eqD a a' = (decide (a.n = a'.n) && (b1 && b2))) := Lib.hid (by unfold eqD; rw [hb1, hb2])
  rw [HEQ.out]
  obtain ⟨n, hn⟩ : ∃ n, a.n = n := ⟨_, rfl⟩
  obtain ⟨n', hn'⟩ : ∃ n, a'.n = n := ⟨_, rfl⟩
  rw [hn] at c0
  rw [hn'] at c0'
  rw [hn, hn']
  have e0 := fun q : Later w.heap.size w => lift c0 q.1 q.2
  have e0' := fun q : Later w.heap.size w => lift' c0' q.1 q.2
  have e1 := fun q : Later w.heap.size w => lift c1 q.1 q.2
  have e1' := fun q : Later w.heap.size w => lift' c1' q.1 q.2
  clear hn hn' HEQ hb1 hb2 hm hm' hp hp' lift lift' c0 c0' c1 c1'
  by_cases h1 : n = n'
  · subst h1
    rw [show decide (n = n) = true by simp, Bool.true_and]
    cases b1
    all_goals
      (try rw [Bool.false_and]); (try rw [Bool.true_and])
      go_enter Tryd.func65, Tryd.ntmps65
      go_wp2_with fail
      refine wp_region_later w.heap.size w (by kernel_rfl) (by kernel_rfl) (Below.refl _ _) ?_
      repeat (go_big_quiet_step (first | (go_at_call 99; exact later_call _ (Nat.le_refl _) (HM.out _ (Subtype.property _))) | (go_at_call 63; exact later_call _ (Nat.le_refl _) (HP.out _ (Subtype.property _)))))
      refine wpQuiet_nil ?_
      rintro _ ⟨⟨w5, hb5⟩, rfl⟩
      clear e0 e0' e1 e1'
      go_wp2_with fail
      go_ret
      exact ⟨rfl, hb5⟩
  · have h1' := str_ne h1
    have h1e : (n.toList == n'.toList) = false := by simpa using h1'
    rw [show decide (n = n') = false by simpa using h1, Bool.false_and]
    clear h1
    go_enter Tryd.func65, Tryd.ntmps65
    go_wp2_with fail
    refine wp_region_later w.heap.size w (by kernel_rfl) (by kernel_rfl) (Below.refl _ _) ?_
    repeat (go_big_quiet_step (first | (go_at_call 99; exact later_call _ (Nat.le_refl _) (HM.out _ (Subtype.property _))) | (go_at_call 63; exact later_call _ (Nat.le_refl _) (HP.out _ (Subtype.property _)))))
    refine wpQuiet_nil ?_
    rintro _ ⟨⟨w5, hb5⟩, rfl⟩
    clear e0 e0' e1 e1'
    go_wp2_with fail
    go_ret
    exact ⟨rfl, hb5⟩

set_option maxHeartbeats 2000000 in
set_option maxRecDepth 100000 in
/-- sameLists, at other lists. -/
theorem psameDs_any (B : Nat → Prop) (kv kv' : Value) (ps ps' : List Df) (w : World) (hB : Low B w) (hk : DfSl B w kv ps) (hk' : DfSl B w kv' ps') :
    Calls Tryd.prog 64 #[kv, kv', .func (.func 65) #[] #[]] w fun e w' => e = .returned (.bool (eqDs ps ps')) ∧ Below w.heap.size w w' := by
  obtain ⟨pa, len, c, rfl, hlen, hm, hget⟩ := hk.open
  obtain ⟨pa', len', c', rfl, hlen', hm', hget'⟩ := hk'.open
  have HG := Lib.hid hget
  have HG' := Lib.hid hget'
  clear hget hget' hk hk'
  by_cases hl : len = len'
  · subst hl
    go_enter Tryd.func64, Tryd.ntmps64
    go_wp2_with fail
    go_loopw [15] (fun i wr => ∃ (j : Nat), i = .int .i64 j ∧ j ≤ len ∧ Hid (ps.take j = ps'.take j) ∧ Below w.heap.size w wr) (fun i _ => len - (intOf i).toNat)
    case atStart => exact ⟨0, rfl, by omega, Lib.hid (by simp), Below.refl _ _⟩
    case round =>
      obtain ⟨j, rfl, hj, HT, hw⟩ := hrel
      by_cases hlt : j < len
      · obtain ⟨t, ht⟩ : ∃ t, ps[j]? = some t := ⟨_, List.getElem?_eq_getElem (by rw [← hlen.out]; exact hlt)⟩
        obtain ⟨t', ht'⟩ : ∃ t', ps'[j]? = some t' := ⟨_, List.getElem?_eq_getElem (by rw [← hlen'.out]; exact hlt)⟩
        obtain ⟨kb, ko, rfl, hkb, hty⟩ := HG.out j t ht
        obtain ⟨kb', ko', rfl, hkb', hty'⟩ := HG'.out j t' ht'
        have IH : Hid (∀ W, Below w.heap.size w W → Calls Tryd.prog 65 #[.pointer (some ⟨kb, ko + j * 14, none⟩), .pointer (some ⟨kb', ko' + j * 14, none⟩)] W fun e w' => e = .returned (.bool (eqD t t')) ∧ Below W.heap.size W w') :=
          Lib.hid (fun W hW => sameDef_any B t t' _ _ _ _ W (hB.le hW.size) hkb hkb' (DfAt.keep (hW.keeps'.mono hB) hkb hty) (DfAt.keep (hW.keeps'.mono hB) hkb' hty'))
        by_cases htt : t = t'
        · rw [eqD_true.2 htt] at IH
          have hn : Hid (ps.take (j + 1) = ps'.take (j + 1)) := Lib.hid (by rw [take_snoc_get ht, take_snoc_get ht', HT.out, htt])
          clear ht ht' htt hty hty'
          go_wp2_with fail
          refine wp_region_later wr.heap.size wr (by kernel_rfl) (by kernel_rfl) (Below.refl _ _) ?_
          repeat (go_big_quiet_step ((go_at_call 65; exact later_call _ (Nat.le_refl _) (IH.out _ (hw.trans (Below.mono (Subtype.property _) hw.size))))))
          refine wpQuiet_nil ?_
          rintro _ ⟨⟨w5, hb5⟩, rfl⟩
          go_wp2_with fail
          go_roundw
          case rel => exact ⟨j + 1, by go_num, by omega, hn, below_seq hw hb5⟩
          case measure => simp [intOf]; omega
        · rw [eqD_ne htt] at IH
          have hne : Hid (ps ≠ ps') := Lib.hid (fun e => htt (by rw [e, ht'] at ht; exact (Option.some.inj ht).symm))
          clear ht ht' htt hty hty'
          go_wp2_with fail
          refine wp_region_later wr.heap.size wr (by kernel_rfl) (by kernel_rfl) (Below.refl _ _) ?_
          repeat (go_big_quiet_step ((go_at_call 65; exact later_call _ (Nat.le_refl _) (IH.out _ (hw.trans (Below.mono (Subtype.property _) hw.size))))))
          refine wpQuiet_nil ?_
          rintro _ ⟨⟨w5, hb5⟩, rfl⟩
          go_wp2_with fail
          go_ret
          exact ⟨ret_bool (eqDs_ne hne.out).symm, below_seq hw hb5⟩
      · obtain rfl : j = len := by omega
        go_wp2_with fail
        go_ret
        refine ⟨ret_bool ?_, hw⟩
        rw [eqDs_true.2 (lists_eq hlen.out hlen'.out HT.out)]
  · have hl' : (len != len') = true := by simpa using hl
    have hne : ps ≠ ps' := fun e => hl (by rw [hlen.out, hlen'.out, e])
    have HN := Lib.hid hne
    clear hne
    go_enter Tryd.func64, Tryd.ntmps64
    go_wp2_with fail
    go_ret
    exact ⟨ret_bool (eqDs_ne HN.out).symm, Below.refl _ _⟩



set_option maxHeartbeats 1000000 in
theorem psameProgram_any (B : Nat → Prop) (p q : Pg) (v v' : Value) (w : World) (hB : Low B w) (hv : PgVal B w v p) (hv' : PgVal B w v' q) :
    Calls Tryd.prog 33 #[v, v'] w fun e w' => e = .returned (.bool (eqG p q)) ∧ Below w.heap.size w w' := by
  obtain ⟨dv, lv, av, tl, tk, kv, rfl, hd, hp⟩ := hv
  obtain ⟨dv', lv', av', tl', tk', kv', rfl, hd', hp'⟩ := hv'
  have hb1 : Below w.heap.size w (w.alloc (cell13 p dv lv av tl tk kv)) := blkBelow w _ _
  have hb2 : Below (w.heap.size + 1) (w.alloc (cell13 p dv lv av tl tk kv)) ((w.alloc (cell13 p dv lv av tl tk kv)).alloc (cell13 q dv' lv' av' tl' tk' kv')) := (Below.refl _ _).alloc (by simp) _
  have hp1 := boxed_pgAt (S := fun k => B k ∨ k = w.heap.size ∨ k = w.heap.size + 1) hB hd hp hb2 (fun _ h => .inl h) (.inr (.inl rfl))
  have hB1 : Low B (w.alloc (cell13 p dv lv av tl tk kv)) := hB.le hb1.size
  have hp2 := boxed_pgAt (S := fun k => B k ∨ k = w.heap.size ∨ k = w.heap.size + 1) hB1 (hd'.keep (hb1.keeps'.mono hB)) (hp'.to hB hb1) (Below.refl _ ((w.alloc (cell13 p dv lv av tl tk kv)).alloc (cell13 q dv' lv' av' tl' tk' kv'))) (fun _ h => .inl h) (.inr (.inr (by simp)))
  rw [World.size_alloc] at hp2
  have hS : Low (fun k => B k ∨ k = w.heap.size ∨ k = w.heap.size + 1) ((w.alloc (cell13 p dv lv av tl tk kv)).alloc (cell13 q dv' lv' av' tl' tk' kv')) := by
    intro k h
    have hs : ((w.alloc (cell13 p dv lv av tl tk kv)).alloc (cell13 q dv' lv' av' tl' tk' kv')).heap.size = w.heap.size + 2 := by simp
    rw [hs]
    rcases h with h | h | h
    · have := hB k h; omega
    · omega
    · omega
  obtain ⟨_, ⟨dd, hdd, hds⟩, hm1⟩ := hp1
  obtain ⟨_, ⟨dd', hdd', hds'⟩, hm2⟩ := hp2
  have hq : dd = dv := by
    have := blk_cell hb2 0 (v := dv) rfl
    rw [this] at hdd; exact (Option.some.inj hdd).symm
  have hq' : dd' = dv' := by
    have h := blk_cell (w := w.alloc (cell13 p dv lv av tl tk kv)) (Below.refl _ ((w.alloc (cell13 p dv lv av tl tk kv)).alloc (cell13 q dv' lv' av' tl' tk' kv'))) 0 (v := dv') rfl
    rw [World.size_alloc] at h
    rw [h] at hdd'; exact (Option.some.inj hdd').symm
  subst hq hq'
  obtain ⟨b1, hbb1⟩ : ∃ x, eqDs p.ds q.ds = x := ⟨_, rfl⟩
  obtain ⟨b2, hbb2⟩ : ∃ x, eqP p.m q.m = x := ⟨_, rfl⟩
  have HD : Hid (Calls Tryd.prog 64 #[dd, dd', .func (.func 65) #[] #[]] ((w.alloc (cell13 p dd lv av tl tk kv)).alloc (cell13 q dd' lv' av' tl' tk' kv')) fun e w' => e = .returned (.bool b1) ∧ Below ((w.alloc (cell13 p dd lv av tl tk kv)).alloc (cell13 q dd' lv' av' tl' tk' kv')).heap.size ((w.alloc (cell13 p dd lv av tl tk kv)).alloc (cell13 q dd' lv' av' tl' tk' kv')) w') := Lib.hid (by
    rw [← hbb1]; exact psameDs_any _ _ _ p.ds q.ds _ hS hds hds')
  have HP : Hid (∀ W, Below ((w.alloc (cell13 p dd lv av tl tk kv)).alloc (cell13 q dd' lv' av' tl' tk' kv')).heap.size ((w.alloc (cell13 p dd lv av tl tk kv)).alloc (cell13 q dd' lv' av' tl' tk' kv')) W → Calls Tryd.prog 63 #[.pointer (some ⟨w.heap.size, 1, none⟩), .pointer (some ⟨w.heap.size + 1, 1, none⟩)] W fun e w' => e = .returned (.bool b2) ∧ Below W.heap.size W w') := Lib.hid (fun W hW => by
    rw [← hbb2]; exact psameP_any _ p.m q.m _ _ _ _ W (hS.le hW.size) (PrAt.keep (hW.keeps'.mono hS) _ _ _ hm1) (PrAt.keep (hW.keeps'.mono hS) _ _ _ hm2))
  have HEQ : Hid (eqG p q = (b1 && b2)) := Lib.hid (by unfold eqG; rw [hbb1, hbb2])
  rw [HEQ.out]
  have HB := Lib.hid (hb1.trans (hb2.mono (by omega)))
  obtain ⟨da, dn, dc, rfl, _⟩ := hd.open
  obtain ⟨da', dn', dc', rfl, _⟩ := hd'.open
  clear hm1 hm2 hds hds' hdd hdd' hS hB1 hb1 hb2 hp hp' hd hd' hbb1 hbb2 HEQ
  cases b1
  all_goals
    (try rw [Bool.false_and]); (try rw [Bool.true_and])
    go_enter Tryd.func33, Tryd.ntmps33
    go_wp2_with (first | (go_at_call 64; refine HD.out.mono ?_; rintro e w2 ⟨rfl, hb3⟩) | (go_at_call 63; refine (HP.out _ hb3).mono ?_; rintro e w4 ⟨rfl, hb4⟩))
    go_ret
    first
      | exact ⟨rfl, below_seq HB.out (below_seq hb3 hb4)⟩
      | exact ⟨rfl, below_seq HB.out hb3⟩

end Go.Proofs.YtliijbcgkkiekaaDoor

/- Programs: Total, tooManyNodes. -/
namespace Go.Proofs.YtliijbcgkkiekaaDoor
open Go.RowKit Go.Deep Go.Shelf
attribute [local go_sem] Oper.semAt_some

theorem sumN_snoc (l : List Nat) (x : Nat) : sumN (l ++ [x]) = sumN l + x := by rw [sumN_append]; simp [sumN]

theorem w64_add (s x : Nat) : wrap64 (wrap64 (s : Int) + (x : Int)) = wrap64 ((s + x : Nat) : Int) := by unfold wrap64; omega

set_option maxRecDepth 100000 in
set_option maxHeartbeats 2000000 in
theorem ptotal_in (n : Nat) (hn : 3 ≤ n) (B : Nat → Prop) (g : Pg) (hg : GGood g) (htot : g.total ≤ 1000000000) (dv lv av tl tk kv : Value) (w : World) (hB : Low B w) (hd : DfSl B w dv g.ds) (hv : PrVal B w (prAgg g.m lv av tl tk kv) g.m) :
    CallsIn Fence.wide n Tryd.prog 29 #[pgAgg g dv lv av tl tk kv] w fun e w' => e = .returned (.int .i64 g.total) ∧ Below w.heap.size w w' := by
  have h1 : 1 ≤ n := by omega
  refine callsIn_of_wp_marks Tryd.func29 rfl trivial ?_ rfl
  simp only [pgAgg, Tryd.ntmps29, List.size_toArray, List.length_cons, List.length_nil, Nat.reduceAdd, Nat.reduceSub, Array.replicate_succ, Array.replicate_zero, List.push_toArray, List.append_toArray, List.nil_append, List.cons_append]
  gi_wp2_with (refine ⟨trivial, ?_⟩; gi_at_call 61; refine (callsIn_wide.2 (counts_any _ _)).mono ?_; rintro e w' ⟨rfl, rfl⟩)
  have hbel := box3_below w (cell13 g dv lv av tl tk kv) (.cells #[.int .i64 0] 3) (.cells #[.pointer (some ⟨w.heap.size, 0, none⟩)] 90)
  have hpg := boxed_pgAt (S := fun k => B k ∨ k = w.heap.size) hB hd hv ((((Below.refl (w.heap.size + 1) _).alloc (by simp) (.cells #[.int .i64 0] 3)).alloc (by simp) (.cells #[.pointer (some ⟨w.heap.size, 0, none⟩)] 90))) (fun _ h => .inl h) (.inr rfl)
  have hc : (((w.alloc (cell13 g dv lv av tl tk kv)).alloc (.cells #[.int .i64 0] 3)).alloc (.cells #[.pointer (some ⟨w.heap.size, 0, none⟩)] 90)).heap[w.heap.size + 1]? = some (.cells #[.int .i64 0] 3 (0, 0)) := by
    have h := World.alloc_heap_new (w.alloc (cell13 g dv lv av tl tk kv)) (.cells #[.int .i64 0] 3)
    rw [World.size_alloc] at h
    exact (Below.heap_alloc _ _ _ (by simp)).trans h
  have hp : (((w.alloc (cell13 g dv lv av tl tk kv)).alloc (.cells #[.int .i64 0] 3)).alloc (.cells #[.pointer (some ⟨w.heap.size, 0, none⟩)] 90)).cell? ⟨w.heap.size + 1 + 1, 0, none⟩ = some (.pointer (some ⟨w.heap.size, 0, none⟩)) := by
    have h := blk_cell (w := (w.alloc (cell13 g dv lv av tl tk kv)).alloc (.cells #[.int .i64 0] 3)) (cs := #[.pointer (some ⟨w.heap.size, 0, none⟩)]) (t := 90) (Below.refl _ _) 0 rfl
    simpa using h
  have hsz0 : (((w.alloc (cell13 g dv lv av tl tk kv)).alloc (.cells #[.int .i64 0] 3)).alloc (.cells #[.pointer (some ⟨w.heap.size, 0, none⟩)] 90)).heap.size = w.heap.size + 3 := by simp
  obtain ⟨W0, hW0⟩ : ∃ W0, (((w.alloc (cell13 g dv lv av tl tk kv)).alloc (.cells #[.int .i64 0] 3)).alloc (.cells #[.pointer (some ⟨w.heap.size, 0, none⟩)] 90)) = W0 := ⟨_, rfl⟩
  simp only [cell13] at hW0
  simp only [cell13] at hpg hc hp hbel hsz0
  rw [hW0] at hpg hc hp hbel hsz0 ⊢
  clear hW0
  have hX : ∀ k, k = w.heap.size + 1 → ¬ (B k ∨ k = w.heap.size) ∧ k ≠ w.heap.size + 1 + 1 ∧ k < W0.heap.size := fun k e => ⟨fun h => h.elim (fun h => by have := hB k h; omega) (fun h => by omega), by omega, by omega⟩
  have hS : Low (fun k => B k ∨ k = w.heap.size) W0 := fun k h => h.elim (fun h => by have := hB k h; omega) (fun h => by omega)
  refine wpIn_range_told2 rfl h1 (gf := 95) (lb := #[.pointer (some ⟨w.heap.size + 1 + 1, 0, none⟩)]) rfl trivial (enters_of Tryd.func95 (by kernel_rfl) rfl)
    (counts_tells (n - 1) (by omega) (w.heap.size + 1 + 1) w.heap.size 0 g (fun k => B k ∨ k = w.heap.size) (fun k => k = w.heap.size + 1) W0 hX hS (by omega) hp hpg hg) (fun h g => KV.trans h g) (fun W l o o' _ h ho _ => KV.of_cells (by simp) (cellsKept_put h ho)) (fun x A B h hp => hp) (Below.refl _ _) (fun _ => rfl)
    (fun pre W => W.heap[w.heap.size + 1]? = some (.cells #[.int .i64 (wrap64 (sumN pre : Nat))] 3 (0, 0)) ∧ Below w.heap.size w W) (fun _ _ _ => False)
    ((abides_boxed (by omega) _ (fun pre : List Nat => .int .i64 (wrap64 (sumN pre : Nat)))).and (abidesAll_below (by omega) (Nat.le_refl _))) (fun _ _ _ _ _ h _ _ => h) ⟨by rw [show wrap64 ((sumN [] : Nat) : Int) = 0 from w64_id _ (by simp [sumN]) (by simp [sumN])]; exact hc, hbel⟩
    (fun x a' _ => a' = { tmps := #[pgAgg g dv lv av tl tk kv, .pointer (some ⟨w.heap.size, 0, none⟩), .int .i64 0, .pointer (some ⟨w.heap.size + 1, 0, none⟩), .int .i64 (x : Nat),
      .func (.func 95) #[] #[.pointer (some ⟨w.heap.size + 1 + 1, 0, none⟩)], .int .i64 (x : Nat), undef, undef, undef, undef], defers := [] }) (fun _ _ _ _ _ h => h) ?assign ?body ?done ?stop
  case assign =>
    intro l pre x W K hi hp hK
    simp only [cnArgs]
    gi_wp2
    exact hK _ _ (KeepsFrom.refl _ _) (KV.refl _ _ _) hi hp (by simp)
  case body =>
    rintro l pre x a' W hl _ ⟨hb, hbw⟩ _ rfl
    have c0 : W.cell? ⟨w.heap.size + 1, 0, none⟩ = some (.int .i64 (wrap64 (sumN pre : Nat))) := by simp [World.cell?, hb]
    have f0 : W.frozen? ⟨w.heap.size + 1, 0, none⟩ = false := by simp [World.frozen?, hb]
    have HB := Lib.hid hb
    obtain ⟨q, hq⟩ : ∃ q : Int, wrap64 (sumN pre : Nat) = q := ⟨_, rfl⟩
    have HQ : Hid (wrap64 (q + (x : Int)) = wrap64 ((sumN (pre ++ [x]) : Nat) : Int)) := Lib.hid (by rw [← hq, sumN_snoc]; exact w64_add _ _)
    rw [hq] at c0 HB
    clear hb hq
    gi_wp2
    refine ⟨(KeepsOthers.setCell _ _ _).from _, ⟨by simp, fun k o hk hc hx _ => (Below.heap_setCell _ _ _ k (fun e => hx e)).trans hk⟩, ?_, hbw.setCell (p := ⟨w.heap.size + 1, 0, none⟩) (by simp) _⟩
    rw [← HQ.out]
    exact set_block HB.out 0 _
  case done =>
    rintro D ys W hD hys ⟨hb, hbw⟩ hK
    rw [hys, show sumN g.cnts = g.total from rfl, w64_id _ (by omega) (by omega)] at hb
    have c0 : W.cell? ⟨w.heap.size + 1, 0, none⟩ = some (.int .i64 g.total) := by simp [World.cell?, hb]
    have HK := Lib.hid hK
    clear hb hys hK
    gi_wp2
    refine ⟨by simp, .inl ⟨_, _, rfl, run_takeDeferred HK.out, ?_⟩⟩
    exact ⟨_, results_tmp rfl _ _ _, rfl, hbw.trans (belowK_b (w := w) (Nat.le_refl _) W D _ _ (by omega) HK.out rfl rfl)⟩
  case stop =>
    rintro D c pre W _ _ h _
    exact h.elim

theorem ptotal_any (B : Nat → Prop) (g : Pg) (hg : GGood g) (htot : g.total ≤ 1000000000) (v : Value) (w : World) (hB : Low B w) (hv : PgVal B w v g) :
    Calls Tryd.prog 29 #[v] w fun e w' => e = .returned (.int .i64 g.total) ∧ Below w.heap.size w w' := by
  obtain ⟨dv, lv, av, tl, tk, kv, rfl, hd, hp⟩ := hv
  exact callsIn_wide.1 (ptotal_in 3 (by omega) B g hg htot dv lv av tl tk kv w hB hd hp)

def Pg.many (g : Pg) : Bool := decide (10000 < g.total)

set_option maxRecDepth 100000 in
set_option maxHeartbeats 2000000 in
theorem pmany_in (n : Nat) (hn : 3 ≤ n) (S : Nat → Prop) (g : Pg) (hg : GGood g) (bt o : Nat) (w : World) (hS : Low S w) (hgp : PgAt S w g bt o) :
    CallsIn Fence.wide n Tryd.prog 90 #[.pointer (some ⟨bt, o, none⟩)] w fun e w' => e = .returned (.bool g.many) ∧ Below w.heap.size w w' := by
  have h1 : 1 ≤ n := by omega
  refine callsIn_of_wp_marks Tryd.func90 rfl trivial ?_ rfl
  simp only [Tryd.ntmps90, List.size_toArray, List.length_cons, List.length_nil, Nat.reduceAdd, Nat.reduceSub, Array.replicate_succ, Array.replicate_zero, List.push_toArray, List.append_toArray, List.nil_append, List.cons_append]
  gi_wp2_with (refine ⟨trivial, ?_⟩; gi_at_call 61; refine (callsIn_wide.2 (counts_any _ _)).mono ?_; rintro e w' ⟨rfl, rfl⟩)
  have hr : (((w.alloc (.cells #[.bool false] 4)).alloc (.cells #[.int .i64 0] 3)).alloc (.cells #[.pointer (some ⟨bt, o, none⟩)] 90)).heap[w.heap.size]? = some (.cells #[.bool false] 4 (0, 0)) :=
    (Below.heap_alloc _ _ _ (by simp; omega)).trans ((Below.heap_alloc _ _ _ (by simp)).trans (World.alloc_heap_new w _))
  have hc : (((w.alloc (.cells #[.bool false] 4)).alloc (.cells #[.int .i64 0] 3)).alloc (.cells #[.pointer (some ⟨bt, o, none⟩)] 90)).heap[w.heap.size + 1]? = some (.cells #[.int .i64 0] 3 (0, 0)) := by
    have h := World.alloc_heap_new (w.alloc (.cells #[.bool false] 4)) (.cells #[.int .i64 0] 3)
    rw [World.size_alloc] at h
    exact (Below.heap_alloc _ _ _ (by simp)).trans h
  have hp : (((w.alloc (.cells #[.bool false] 4)).alloc (.cells #[.int .i64 0] 3)).alloc (.cells #[.pointer (some ⟨bt, o, none⟩)] 90)).cell? ⟨w.heap.size + 1 + 1, 0, none⟩ = some (.pointer (some ⟨bt, o, none⟩)) := by
    have h := blk_cell (w := (w.alloc (.cells #[.bool false] 4)).alloc (.cells #[.int .i64 0] 3)) (cs := #[.pointer (some ⟨bt, o, none⟩)]) (t := 90) (Below.refl _ _) 0 rfl
    simpa using h
  have hbel := box3_below w (.cells #[.bool false] 4) (.cells #[.int .i64 0] 3) (.cells #[.pointer (some ⟨bt, o, none⟩)] 90)
  have hsz0 : (((w.alloc (.cells #[.bool false] 4)).alloc (.cells #[.int .i64 0] 3)).alloc (.cells #[.pointer (some ⟨bt, o, none⟩)] 90)).heap.size = w.heap.size + 3 := by simp
  obtain ⟨W0, hW0⟩ : ∃ W0, (((w.alloc (.cells #[.bool false] 4)).alloc (.cells #[.int .i64 0] 3)).alloc (.cells #[.pointer (some ⟨bt, o, none⟩)] 90)) = W0 := ⟨_, rfl⟩
  rw [hW0] at hr hc hp hbel hsz0 ⊢
  clear hW0
  have hX : ∀ k, k = w.heap.size + 1 → ¬ S k ∧ k ≠ w.heap.size + 1 + 1 ∧ k < W0.heap.size := fun k e => ⟨fun h => by have := hS k h; omega, by omega, by omega⟩
  have hS0 : Low S W0 := fun k h => by have := hS k h; omega
  refine wpIn_range_told2 rfl h1 (gf := 95) (lb := #[.pointer (some ⟨w.heap.size + 1 + 1, 0, none⟩)]) rfl trivial (enters_of Tryd.func95 (by kernel_rfl) rfl)
    (counts_tells (n - 1) (by omega) (w.heap.size + 1 + 1) bt o g S (fun k => k = w.heap.size + 1) W0 hX hS0 (by omega) hp (hgp.keep (hbel.keeps'.mono hS)) hg) (fun h g => KV.trans h g) (fun W l o o' _ h ho _ => KV.of_cells (by simp) (cellsKept_put h ho)) (fun x A B h hp => hp) (Below.refl _ _) (fun _ => rfl)
    (fun pre W => ((W.heap[w.heap.size + 1]? = some (.cells #[.int .i64 (sumN pre : Nat)] 3 (0, 0)) ∧ W.heap[w.heap.size]? = some (.cells #[.bool false] 4 (0, 0))) ∧ sumN pre ≤ 10000) ∧ Below w.heap.size w W)
    (fun c pre W => ((c = .ret ∧ 10000 < sumN pre) ∧ W.heap[w.heap.size]? = some (.cells #[.bool true] 4 (0, 0))) ∧ Below w.heap.size w W)
    ((((abides_boxed (by omega) _ (fun pre : List Nat => .int .i64 (sumN pre : Nat))).and (abides_boxed (by omega) _ (fun _ => .bool false))).and (abidesAll_pure _ _)).and (abidesAll_below (by omega) (Nat.le_refl _)))
    (fun c => (((abidesAll_pure _ _).and (abides_boxed (by omega) _ (fun _ => .bool true))).and (abidesAll_below (by omega) (Nat.le_refl _)))) ⟨⟨⟨hc, hr⟩, by simp [sumN]⟩, hbel⟩
    (fun x a' _ => a' = { tmps := #[.pointer (some ⟨bt, o, none⟩), undef, .pointer (some ⟨w.heap.size, 0, none⟩), .pointer (some ⟨w.heap.size + 1, 0, none⟩), .int .i64 (x : Nat), .pointer (some ⟨bt, o, none⟩),
      .func (.func 95) #[] #[.pointer (some ⟨w.heap.size + 1 + 1, 0, none⟩)], .int .i64 (x : Nat), undef, undef, undef, undef, undef], defers := [] }) (fun _ _ _ _ _ h => h) ?assign ?body ?done ?stop
  case assign =>
    intro l pre x W K hi hp hK
    simp only [cnArgs]
    gi_wp2
    exact hK _ _ (KeepsFrom.refl _ _) (KV.refl _ _ _) hi hp (by simp)
  case body =>
    rintro l pre x a' W hl _ ⟨⟨⟨hb, hr⟩, hm1⟩, hbw⟩ hpx rfl
    obtain ⟨m, hm⟩ : ∃ m, sumN pre = m := ⟨_, rfl⟩
    rw [hm] at hb hm1
    have c0 : W.cell? ⟨w.heap.size + 1, 0, none⟩ = some (.int .i64 (m : Nat)) := by simp [World.cell?, hb]
    have f0 : W.frozen? ⟨w.heap.size + 1, 0, none⟩ = false := by simp [World.frozen?, hb]
    have r0 : W.cell? ⟨w.heap.size, 0, none⟩ = some (.bool false) := by simp [World.cell?, hr]
    have r1 : W.frozen? ⟨w.heap.size, 0, none⟩ = false := by simp [World.frozen?, hr]
    have hbl : w.heap.size + 1 < W.heap.size := (Array.getElem?_eq_some_iff.1 hb).1
    have hl1 : Hid (sumN (pre ++ [x]) = m + x) := Lib.hid (by rw [sumN_snoc, hm])
    have HB := Lib.hid hb
    have HR := Lib.hid hr
    clear hb hr hm
    by_cases hq : m + x ≤ 10000
    · have hq1 : decide ((10000 : Int) < (m : Int) + (x : Int)) = false := by simp; omega
      gi_wp2
      refine ⟨(KeepsOthers.setCell _ _ _).from _, ⟨by simp, fun k o hk hc hx _ => (Below.heap_setCell _ _ _ k (fun e => hx e)).trans hk⟩,
        ⟨⟨?_, ?_⟩, by rw [hl1.out]; exact hq⟩, hbw.setCell (p := ⟨w.heap.size + 1, 0, none⟩) (by simp) _⟩
      · rw [hl1.out]
        exact set_block HB.out 0 _
      · exact (Below.heap_setCell _ _ _ _ (by simp)).trans HR.out
    · have hq1 : decide ((10000 : Int) < (m : Int) + (x : Int)) = true := by simp; omega
      have hq2 : (10000 : Int) < (m : Int) + (x : Int) := by omega
      gi_wp2
      refine ⟨((KeepsOthers.setCell _ _ _).trans (KeepsOthers.setCell _ _ _)).from _, ⟨⟨rfl, by rw [hl1.out]; omega⟩, ?_⟩, (hbw.setCell (p := ⟨w.heap.size + 1, 0, none⟩) (by simp) _).setCell (p := ⟨w.heap.size, 0, none⟩) (by simp) _⟩
      exact set_block ((Below.heap_setCell _ _ _ _ (by simp)).trans HR.out) 0 _
  case done =>
    rintro D ys W hD hys ⟨⟨⟨hb, hr⟩, hm1⟩, hbw⟩ hK
    have hlg : g.many = false := by rw [hys] at hm1; unfold Pg.many Pg.total; simp; omega
    have r0 : W.cell? ⟨w.heap.size, 0, none⟩ = some (.bool false) := by simp [World.cell?, hr]
    have r1 : W.frozen? ⟨w.heap.size, 0, none⟩ = false := by simp [World.frozen?, hr]
    have hltD : w.heap.size < D := by omega
    have HK := Lib.hid hK
    have HR := Lib.hid hr
    have HLG := Lib.hid hlg
    clear hb hys hK hlg hr hm1
    gi_wp2
    have k3 : (W.setCell ⟨w.heap.size, 0, none⟩ (.bool false)).heap[D]? = some (.deferred (some [])) := (Below.heap_setCell _ _ _ D (by simp; omega)).trans HK.out
    refine ⟨by simp, .inl ⟨_, _, rfl, run_takeDeferred k3, ?_⟩⟩
    have k1 : ((W.setCell ⟨w.heap.size, 0, none⟩ (.bool false)).putObj D (.deferred none)).heap[w.heap.size]? = some (.cells #[.bool false] 4 (0, 0)) := (World.putObj_heap_other (by omega)).trans (set_block HR.out 0 _)
    have c1 : ((W.setCell ⟨w.heap.size, 0, none⟩ (.bool false)).putObj D (.deferred none)).cell? ⟨w.heap.size, 0, none⟩ = some (.bool false) := by simp [World.cell?, k1]
    have k7 := (hbw.setCell (p := ⟨w.heap.size, 0, none⟩) (by simp) (.bool false)).trans (belowK_b (w := w) (Nat.le_refl _) _ D _ (.deferred none) (by omega) k3 rfl rfl)
    generalize (W.setCell ⟨w.heap.size, 0, none⟩ (.bool false)).putObj D (.deferred none) = W4 at *
    exact ⟨.bool false, by simp [results, Tryd.results90, go_sem, c1], by rw [HLG.out], k7⟩
  case stop =>
    rintro D c pre W hD hpre ⟨⟨⟨rfl, hbig⟩, hr⟩, hbw⟩ hK
    have hlg : g.many = true := by
      have h1 := sumN_le_of_prefix hpre
      unfold Pg.many Pg.total; simp; omega
    have HLG := Lib.hid hlg
    clear hpre hlg
    gi_wp2
    refine ⟨by simp, .inl ⟨_, _, rfl, run_takeDeferred hK, ?_⟩⟩
    have k1 : (W.putObj D (.deferred none)).heap[w.heap.size]? = some (.cells #[.bool true] 4 (0, 0)) := (World.putObj_heap_other (by omega)).trans hr
    have c1 : (W.putObj D (.deferred none)).cell? ⟨w.heap.size, 0, none⟩ = some (.bool true) := by simp [World.cell?, k1]
    have k7 := hbw.trans (belowK_b (w := w) (Nat.le_refl _) W D _ (.deferred none) (by omega) hK rfl rfl)
    generalize W.putObj D (.deferred none) = W4 at *
    exact ⟨.bool true, by simp [results, Tryd.results90, go_sem, c1], by rw [HLG.out], k7⟩

theorem pmany_any (S : Nat → Prop) (g : Pg) (hg : GGood g) (bt o : Nat) (w : World) (hS : Low S w) (hgp : PgAt S w g bt o) :
    Calls Tryd.prog 90 #[.pointer (some ⟨bt, o, none⟩)] w fun e w' => e = .returned (.bool g.many) ∧ Below w.heap.size w w' :=
  callsIn_wide.1 (pmany_in 3 (by omega) S g hg bt o w hS hgp)

end Go.Proofs.YtliijbcgkkiekaaDoor
