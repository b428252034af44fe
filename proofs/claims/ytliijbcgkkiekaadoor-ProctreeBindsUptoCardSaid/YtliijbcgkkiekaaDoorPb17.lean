/- Processes: sameness, by the program. (and what follows from it) -/
import Derived.Test.YtliijbcgkkiekaaDoorPb8
import Derived.Test.YtliijbcgkkiekaaDoorPb14

/- Processes: sameness, by the program. -/
namespace Go.Proofs.YtliijbcgkkiekaaDoor
open Go.RowKit Go.Deep Go.Shelf

noncomputable def eqP (p q : Pr) : Bool := @decide (p = q) (Classical.propDecidable _)
theorem eqP_true {p q : Pr} : eqP p q = true ↔ p = q := by unfold eqP; simp
theorem eqP_self (p : Pr) : eqP p p = true := eqP_true.2 rfl
theorem eqP_ne {p q : Pr} (h : p ≠ q) : eqP p q = false := by
  cases e : eqP p q with
  | false => rfl
  | true => exact absurd (eqP_true.1 e) h
noncomputable def eqQ (p q : List Pr) : Bool := @decide (p = q) (Classical.propDecidable _)
theorem eqQ_true {p q : List Pr} : eqQ p q = true ↔ p = q := by unfold eqQ; simp
theorem eqQ_ne {p q : List Pr} (h : p ≠ q) : eqQ p q = false := by
  cases e : eqQ p q with
  | false => rfl
  | true => exact absurd (eqQ_true.1 e) h
/-- What is asked of a function that compares two processes in memory. -/
def SameP (f : Nat) (B : Nat → Prop) (p : Pr) : Prop := ∀ (q : Pr) (b o b' o' : Nat) (w : World), Low B w → PrAt B w p b o → PrAt B w q b' o' → Calls Tryd.prog f #[.pointer (some ⟨b, o, none⟩), .pointer (some ⟨b', o', none⟩)] w fun e w' => e = .returned (.bool (eqP p q)) ∧ Below w.heap.size w w'

set_option maxHeartbeats 2000000 in
set_option maxRecDepth 100000 in
/-- sameLists, at lists of processes. -/
theorem psames_any (B : Nat → Prop) (kv kv' : Value) (ps ps' : List Pr) (ih : ∀ p ∈ ps, SameP 63 B p) (w : World) (hB : Low B w) (hk : PrSl B w kv ps) (hk' : PrSl B w kv' ps') :
    Calls Tryd.prog 98 #[kv, kv', .func (.func 63) #[] #[]] w fun e w' => e = .returned (.bool (eqQ ps ps')) ∧ Below w.heap.size w w' := by
  obtain ⟨pa, len, c, rfl, hlen, hm, hget⟩ := hk.open
  obtain ⟨pa', len', c', rfl, hlen', hm', hget'⟩ := hk'.open
  have HG := Lib.hid hget
  have HG' := Lib.hid hget'
  clear hget hget' hk hk'
  by_cases hl : len = len'
  · subst hl
    go_enter Tryd.func98, Tryd.ntmps98
    go_wp2_with fail
    go_loopw [15] (fun i wr => ∃ (j : Nat), i = .int .i64 j ∧ j ≤ len ∧ Hid (ps.take j = ps'.take j) ∧ Below w.heap.size w wr) (fun i _ => len - (intOf i).toNat)
    case atStart => exact ⟨0, rfl, by omega, Lib.hid (by simp), Below.refl _ _⟩
    case round =>
      obtain ⟨j, rfl, hj, HT, hw⟩ := hrel
      by_cases hlt : j < len
      · obtain ⟨t, ht⟩ : ∃ t, ps[j]? = some t := ⟨_, List.getElem?_eq_getElem (by rw [← hlen.out]; exact hlt)⟩
        obtain ⟨t', ht'⟩ : ∃ t', ps'[j]? = some t' := ⟨_, List.getElem?_eq_getElem (by rw [← hlen'.out]; exact hlt)⟩
        obtain ⟨kb, ko, rfl, hkb, hty⟩ := HG.out j t ht
        obtain ⟨kb', ko', rfl, hkb', hty'⟩ := HG'.out j t' ht'
        have IH : Hid (∀ W, Below w.heap.size w W → Calls Tryd.prog 63 #[.pointer (some ⟨kb, ko + j * 12, none⟩), .pointer (some ⟨kb', ko' + j * 12, none⟩)] W fun e w' => e = .returned (.bool (eqP t t')) ∧ Below W.heap.size W w') :=
          Lib.hid (fun W hW => ih t (List.mem_of_getElem? ht) t' _ _ _ _ W (hB.le hW.size) (hty.keep (hW.keeps'.mono hB)) (hty'.keep (hW.keeps'.mono hB)))
        by_cases htt : t = t'
        · rw [eqP_true.2 htt] at IH
          have hn : Hid (ps.take (j + 1) = ps'.take (j + 1)) := Lib.hid (by rw [take_snoc_get ht, take_snoc_get ht', HT.out, htt])
          clear ht ht' htt hty hty'
          go_wp2_with fail
          refine wp_region_later wr.heap.size wr (by kernel_rfl) (by kernel_rfl) (Below.refl _ _) ?_
          repeat (go_big_quiet_step ((go_at_call 63; exact later_call _ (Nat.le_refl _) (IH.out _ (hw.trans (Below.mono (Subtype.property _) hw.size))))))
          refine wpQuiet_nil ?_
          rintro _ ⟨⟨w5, hb5⟩, rfl⟩
          go_wp2_with fail
          go_roundw
          case rel => exact ⟨j + 1, by go_num, by omega, hn, below_seq hw hb5⟩
          case measure => simp [intOf]; omega
        · rw [eqP_ne htt] at IH
          have hne : Hid (ps ≠ ps') := Lib.hid (fun e => htt (by rw [e, ht'] at ht; exact (Option.some.inj ht).symm))
          clear ht ht' htt hty hty'
          go_wp2_with fail
          refine wp_region_later wr.heap.size wr (by kernel_rfl) (by kernel_rfl) (Below.refl _ _) ?_
          repeat (go_big_quiet_step ((go_at_call 63; exact later_call _ (Nat.le_refl _) (IH.out _ (hw.trans (Below.mono (Subtype.property _) hw.size))))))
          refine wpQuiet_nil ?_
          rintro _ ⟨⟨w5, hb5⟩, rfl⟩
          go_wp2_with fail
          go_ret
          exact ⟨ret_bool (eqQ_ne hne.out).symm, below_seq hw hb5⟩
      · obtain rfl : j = len := by omega
        go_wp2_with fail
        go_ret
        refine ⟨ret_bool ?_, hw⟩
        rw [eqQ_true.2 (lists_eq hlen.out hlen'.out HT.out)]
  · have hl' : (len != len') = true := by simpa using hl
    have hne : ps ≠ ps' := fun e => hl (by rw [hlen.out, hlen'.out, e])
    have HN := Lib.hid hne
    clear hne
    go_enter Tryd.func98, Tryd.ntmps98
    go_wp2_with fail
    go_ret
    exact ⟨ret_bool (eqQ_ne HN.out).symm, Below.refl _ _⟩

set_option maxHeartbeats 4000000 in
set_option maxRecDepth 100000 in
theorem psame_step (B : Nat → Prop) (p q : Pr) (ih : ∀ u ∈ p.ps, SameP 63 B u) (b o b' o' : Nat) (w : World) (hB : Low B w) (hp : PrAt B w p b o) (hq : PrAt B w q b' o') :
    Calls Tryd.prog 63 #[.pointer (some ⟨b, o, none⟩), .pointer (some ⟨b', o', none⟩)] w fun e w' => e = .returned (.bool (eqP p q)) ∧ Below w.heap.size w w' := by
  obtain ⟨la, ln, lc, aa, an, ac, ta, tn, tc, ua, un, uc, ka, kn, kc, ⟨c0, c1, c2, c3, c4, c5, c6, c7, c8, c9, c10, c11⟩, hval⟩ := hp.load'
  obtain ⟨la', ln', lc', aa', an', ac', ta', tn', tc', ua', un', uc', ka', kn', kc', ⟨c0', c1', c2', c3', c4', c5', c6', c7', c8', c9', c10', c11'⟩, hval'⟩ := hq.load'
  have hb := hB b (PrAt.eq.1 hp).1
  have hb' := hB b' (PrAt.eq.1 hq).1
  have lift : ∀ {v : Value} {x : Nat}, w.cell? ⟨b, x, none⟩ = some v → ∀ W, Below w.heap.size w W → W.cell? ⟨b, x, none⟩ = some v := fun h W hW => (hW.cell (p := ⟨b, _, none⟩) hb).trans h
  have lift' : ∀ {v : Value} {x : Nat}, w.cell? ⟨b', x, none⟩ = some v → ∀ W, Below w.heap.size w W → W.cell? ⟨b', x, none⟩ = some v := fun h W hW => (hW.cell (p := ⟨b', _, none⟩) hb').trans h
  obtain ⟨lv0, av0, tl0, tk0, kv0, e0, _, hl, ha, ht, hk⟩ := hval
  simp only [prAgg, Value.agg.injEq, Array.mk.injEq, List.cons.injEq, and_true, true_and] at e0
  obtain ⟨rfl, rfl, rfl, rfl, rfl⟩ := e0
  obtain ⟨lv0, av0, tl0, tk0, kv0, e0, _, hl', ha', ht', hk'⟩ := hval'
  simp only [prAgg, Value.agg.injEq, Array.mk.injEq, List.cons.injEq, and_true, true_and] at e0
  obtain ⟨rfl, rfl, rfl, rfl, rfl⟩ := e0
  obtain ⟨b1, hb1⟩ : ∃ x, decide (p.ls = q.ls) = x := ⟨_, rfl⟩
  obtain ⟨b2, hb2⟩ : ∃ x, eqV p.vs q.vs = x := ⟨_, rfl⟩
  obtain ⟨b3, hb3⟩ : ∃ x, eqB p.t q.t = x := ⟨_, rfl⟩
  obtain ⟨b4, hb4⟩ : ∃ x, eqQ p.ps q.ps = x := ⟨_, rfl⟩
  have HT : Hid (∀ W, Below w.heap.size w W → Calls Tryd.prog 54 #[.slice la ln lc, .slice la' ln' lc'] W fun e w' => e = .returned (.bool b1) ∧ Below W.heap.size W w') := Lib.hid (fun W hW => (tequal_any B _ _ _ _ W (hl.keep (hW.keeps'.mono hB)) (hl'.keep (hW.keeps'.mono hB))).mono fun e w' ⟨h1, h2⟩ => ⟨by rw [h1, hb1], h2.below _⟩)
  have HV : Hid (∀ W, Below w.heap.size w W → Calls Tryd.prog 97 #[.slice aa an ac, .slice aa' an' ac'] W fun e w' => e = .returned (.bool b2) ∧ Below W.heap.size W w') := Lib.hid (fun W hW => (vequal_any B _ _ _ _ W (ha.keep (hW.keeps'.mono hB)) (ha'.keep (hW.keeps'.mono hB))).mono fun e w' ⟨h1, h2⟩ => ⟨by rw [h1, hb2], h2.below _⟩)
  have HY : Hid (∀ W, Below w.heap.size w W → Calls Tryd.prog 18 #[.agg #[.int .i64 p.t.k, .int .i64 p.t.p, .string p.t.n, .int .i64 p.t.s, .slice ta tn tc, .slice ua un uc], .agg #[.int .i64 q.t.k, .int .i64 q.t.p, .string q.t.n, .int .i64 q.t.s, .slice ta' tn' tc', .slice ua' un' uc']] W fun e w' => e = .returned (.bool b3) ∧ Below W.heap.size W w') := Lib.hid (fun W hW => by
    rw [← hb3]; exact tsame_any B p.t q.t _ _ W (hB.le hW.size) (ht.keep (hW.keeps'.mono hB)) (ht'.keep (hW.keeps'.mono hB)))
  have HK : Hid (∀ W, Below w.heap.size w W → Calls Tryd.prog 98 #[.slice ka kn kc, .slice ka' kn' kc', .func (.func 63) #[] #[]] W fun e w' => e = .returned (.bool b4) ∧ Below W.heap.size W w') := Lib.hid (fun W hW => by
    rw [← hb4]; exact psames_any B _ _ p.ps q.ps ih W (hB.le hW.size) (hk.keep (hW.keeps'.mono hB)) (hk'.keep (hW.keeps'.mono hB)))
  have HEQ : Hid (eqP p q = (decide (p.k = q.k) && (decide (p.c = q.c) && (decide (p.x = q.x) && (b1 && (b2 && (b3 && b4))))))) := Lib.hid (by
    rw [← hb1, ← hb2, ← hb3, ← hb4, Bool.eq_iff_iff]
    simp only [eqP_true, Bool.and_eq_true, decide_eq_true_eq, eqV_true, eqB_true, eqQ_true]
    cases p; cases q
    simp only [Pr.mk.injEq, Pr.k, Pr.c, Pr.x, Pr.ls, Pr.vs, Pr.t, Pr.ps])
  rw [HEQ.out]
  obtain ⟨k, hkk⟩ : ∃ k, p.k = k := ⟨_, rfl⟩
  obtain ⟨k', hkk'⟩ : ∃ k, q.k = k := ⟨_, rfl⟩
  obtain ⟨c, hcc⟩ : ∃ k, p.c = k := ⟨_, rfl⟩
  obtain ⟨c', hcc'⟩ : ∃ k, q.c = k := ⟨_, rfl⟩
  obtain ⟨x, hxx⟩ : ∃ k, p.x = k := ⟨_, rfl⟩
  obtain ⟨x', hxx'⟩ : ∃ k, q.x = k := ⟨_, rfl⟩
  rw [hkk] at c0
  rw [hkk'] at c0'
  rw [hcc] at c1
  rw [hcc'] at c1'
  rw [hxx] at c2
  rw [hxx'] at c2'
  rw [hkk, hkk', hcc, hcc', hxx, hxx']
  have d0 := fun q : Later w.heap.size w => lift c0 q.1 q.2
  have d0' := fun q : Later w.heap.size w => lift' c0' q.1 q.2
  have d1 := fun q : Later w.heap.size w => lift c1 q.1 q.2
  have d1' := fun q : Later w.heap.size w => lift' c1' q.1 q.2
  have d2 := fun q : Later w.heap.size w => lift c2 q.1 q.2
  have d2' := fun q : Later w.heap.size w => lift' c2' q.1 q.2
  have d3 := fun q : Later w.heap.size w => lift c3 q.1 q.2
  have d3' := fun q : Later w.heap.size w => lift' c3' q.1 q.2
  have d4 := fun q : Later w.heap.size w => lift c4 q.1 q.2
  have d4' := fun q : Later w.heap.size w => lift' c4' q.1 q.2
  have d5 := fun q : Later w.heap.size w => lift c5 q.1 q.2
  have d5' := fun q : Later w.heap.size w => lift' c5' q.1 q.2
  have d6 := fun q : Later w.heap.size w => lift c6 q.1 q.2
  have d6' := fun q : Later w.heap.size w => lift' c6' q.1 q.2
  have d7 := fun q : Later w.heap.size w => lift c7 q.1 q.2
  have d7' := fun q : Later w.heap.size w => lift' c7' q.1 q.2
  have d8 := fun q : Later w.heap.size w => lift c8 q.1 q.2
  have d8' := fun q : Later w.heap.size w => lift' c8' q.1 q.2
  have d9 := fun q : Later w.heap.size w => lift c9 q.1 q.2
  have d9' := fun q : Later w.heap.size w => lift' c9' q.1 q.2
  have d10 := fun q : Later w.heap.size w => lift c10 q.1 q.2
  have d10' := fun q : Later w.heap.size w => lift' c10' q.1 q.2
  have d11 := fun q : Later w.heap.size w => lift c11 q.1 q.2
  have d11' := fun q : Later w.heap.size w => lift' c11' q.1 q.2
  clear hkk hkk' hcc hcc' hxx hxx' HEQ hb1 hb2 hb3 hb4 hl ha ht hk hl' ha' ht' hk' hp hq lift lift' ih c0 c0' c1 c1' c2 c2' c3 c3' c4 c4' c5 c5' c6 c6' c7 c7' c8 c8' c9 c9' c10 c10' c11 c11'
  by_cases h1 : k = k'
  · subst h1
    rw [show decide (k = k) = true by simp, Bool.true_and]
    by_cases h2 : c = c'
    · subst h2
      rw [show decide (c = c) = true by simp, Bool.true_and]
      by_cases h3 : x = x'
      · subst h3
        rw [show decide (x = x) = true by simp, Bool.true_and]
        cases b1
        · rw [Bool.false_and]
          go_enter Tryd.func63, Tryd.ntmps63
          go_wp2_with fail
          refine wp_region_later w.heap.size w (by kernel_rfl) (by kernel_rfl) (Below.refl _ _) ?_
          dsimp only [List.append]
          repeat (go_big_quiet_step (first | (go_at_call 54; exact later_call _ (Nat.le_refl _) (HT.out _ (Subtype.property _))) | (go_at_call 97; exact later_call _ (Nat.le_refl _) (HV.out _ (Subtype.property _))) | (go_at_call 18; exact later_call _ (Nat.le_refl _) (HY.out _ (Subtype.property _))) | (go_at_call 98; exact later_call _ (Nat.le_refl _) (HK.out _ (Subtype.property _)))))
          refine wpQuiet_nil ?_
          rintro _ ⟨⟨w5, hb5⟩, rfl⟩
          clear d0 d0' d1 d1' d2 d2' d3 d3' d4 d4' d5 d5' d6 d6' d7 d7' d8 d8' d9 d9' d10 d10' d11 d11'
          go_wp2_with fail
          go_ret
          exact ⟨rfl, hb5⟩
        · rw [Bool.true_and]
          cases b2
          · rw [Bool.false_and]
            go_enter Tryd.func63, Tryd.ntmps63
            go_wp2_with fail
            refine wp_region_later w.heap.size w (by kernel_rfl) (by kernel_rfl) (Below.refl _ _) ?_
            dsimp only [List.append]
            repeat (go_big_quiet_step (first | (go_at_call 54; exact later_call _ (Nat.le_refl _) (HT.out _ (Subtype.property _))) | (go_at_call 97; exact later_call _ (Nat.le_refl _) (HV.out _ (Subtype.property _))) | (go_at_call 18; exact later_call _ (Nat.le_refl _) (HY.out _ (Subtype.property _))) | (go_at_call 98; exact later_call _ (Nat.le_refl _) (HK.out _ (Subtype.property _)))))
            refine wpQuiet_nil ?_
            rintro _ ⟨⟨w5, hb5⟩, rfl⟩
            clear d0 d0' d1 d1' d2 d2' d3 d3' d4 d4' d5 d5' d6 d6' d7 d7' d8 d8' d9 d9' d10 d10' d11 d11'
            go_wp2_with fail
            go_ret
            exact ⟨rfl, hb5⟩
          · rw [Bool.true_and]
            cases b3
            · rw [Bool.false_and]
              go_enter Tryd.func63, Tryd.ntmps63
              go_wp2_with fail
              refine wp_region_later w.heap.size w (by kernel_rfl) (by kernel_rfl) (Below.refl _ _) ?_
              dsimp only [List.append]
              repeat (go_big_quiet_step (first | (go_at_call 54; exact later_call _ (Nat.le_refl _) (HT.out _ (Subtype.property _))) | (go_at_call 97; exact later_call _ (Nat.le_refl _) (HV.out _ (Subtype.property _))) | (go_at_call 18; exact later_call _ (Nat.le_refl _) (HY.out _ (Subtype.property _))) | (go_at_call 98; exact later_call _ (Nat.le_refl _) (HK.out _ (Subtype.property _)))))
              refine wpQuiet_nil ?_
              rintro _ ⟨⟨w5, hb5⟩, rfl⟩
              clear d0 d0' d1 d1' d2 d2' d3 d3' d4 d4' d5 d5' d6 d6' d7 d7' d8 d8' d9 d9' d10 d10' d11 d11'
              go_wp2_with fail
              go_ret
              exact ⟨rfl, hb5⟩
            · rw [Bool.true_and]
              cases b4
              all_goals
                go_enter Tryd.func63, Tryd.ntmps63
                go_wp2_with fail
                refine wp_region_later w.heap.size w (by kernel_rfl) (by kernel_rfl) (Below.refl _ _) ?_
                dsimp only [List.append]
                repeat (go_big_quiet_step (first | (go_at_call 54; exact later_call _ (Nat.le_refl _) (HT.out _ (Subtype.property _))) | (go_at_call 97; exact later_call _ (Nat.le_refl _) (HV.out _ (Subtype.property _))) | (go_at_call 18; exact later_call _ (Nat.le_refl _) (HY.out _ (Subtype.property _))) | (go_at_call 98; exact later_call _ (Nat.le_refl _) (HK.out _ (Subtype.property _)))))
                refine wpQuiet_nil ?_
                rintro _ ⟨⟨w5, hb5⟩, rfl⟩
                clear d0 d0' d1 d1' d2 d2' d3 d3' d4 d4' d5 d5' d6 d6' d7 d7' d8 d8' d9 d9' d10 d10' d11 d11'
                go_wp2_with fail
                go_ret
                exact ⟨rfl, hb5⟩
      · have h4 := str_ne h3
        have h5 : (x.toList == x'.toList) = false := by simpa using h4
        rw [show decide (x = x') = false by simpa using h3, Bool.false_and]
        clear h3
        go_enter Tryd.func63, Tryd.ntmps63
        go_wp2_with fail
        refine wp_region_later w.heap.size w (by kernel_rfl) (by kernel_rfl) (Below.refl _ _) ?_
        dsimp only [List.append]
        repeat (go_big_quiet_step (first | (go_at_call 54; exact later_call _ (Nat.le_refl _) (HT.out _ (Subtype.property _))) | (go_at_call 97; exact later_call _ (Nat.le_refl _) (HV.out _ (Subtype.property _))) | (go_at_call 18; exact later_call _ (Nat.le_refl _) (HY.out _ (Subtype.property _))) | (go_at_call 98; exact later_call _ (Nat.le_refl _) (HK.out _ (Subtype.property _)))))
        refine wpQuiet_nil ?_
        rintro _ ⟨⟨w5, hb5⟩, rfl⟩
        clear d0 d0' d1 d1' d2 d2' d3 d3' d4 d4' d5 d5' d6 d6' d7 d7' d8 d8' d9 d9' d10 d10' d11 d11'
        go_wp2_with fail
        go_ret
        exact ⟨rfl, hb5⟩
    · have h4 := str_ne h2
      have h5 : (c.toList == c'.toList) = false := by simpa using h4
      rw [show decide (c = c') = false by simpa using h2, Bool.false_and]
      clear h2
      go_enter Tryd.func63, Tryd.ntmps63
      go_wp2_with fail
      refine wp_region_later w.heap.size w (by kernel_rfl) (by kernel_rfl) (Below.refl _ _) ?_
      dsimp only [List.append]
      repeat (go_big_quiet_step (first | (go_at_call 54; exact later_call _ (Nat.le_refl _) (HT.out _ (Subtype.property _))) | (go_at_call 97; exact later_call _ (Nat.le_refl _) (HV.out _ (Subtype.property _))) | (go_at_call 18; exact later_call _ (Nat.le_refl _) (HY.out _ (Subtype.property _))) | (go_at_call 98; exact later_call _ (Nat.le_refl _) (HK.out _ (Subtype.property _)))))
      refine wpQuiet_nil ?_
      rintro _ ⟨⟨w5, hb5⟩, rfl⟩
      clear d0 d0' d1 d1' d2 d2' d3 d3' d4 d4' d5 d5' d6 d6' d7 d7' d8 d8' d9 d9' d10 d10' d11 d11'
      go_wp2_with fail
      go_ret
      exact ⟨rfl, hb5⟩
  · have h4 : (k == k') = false := by simpa using h1
    rw [show decide (k = k') = false by simpa using h1, Bool.false_and]
    clear h1
    go_enter Tryd.func63, Tryd.ntmps63
    go_wp2_with fail
    refine wp_region_later w.heap.size w (by kernel_rfl) (by kernel_rfl) (Below.refl _ _) ?_
    dsimp only [List.append]
    repeat (go_big_quiet_step (first | (go_at_call 54; exact later_call _ (Nat.le_refl _) (HT.out _ (Subtype.property _))) | (go_at_call 97; exact later_call _ (Nat.le_refl _) (HV.out _ (Subtype.property _))) | (go_at_call 18; exact later_call _ (Nat.le_refl _) (HY.out _ (Subtype.property _))) | (go_at_call 98; exact later_call _ (Nat.le_refl _) (HK.out _ (Subtype.property _)))))
    refine wpQuiet_nil ?_
    rintro _ ⟨⟨w5, hb5⟩, rfl⟩
    clear d0 d0' d1 d1' d2 d2' d3 d3' d4 d4' d5 d5' d6 d6' d7 d7' d8 d8' d9 d9' d10 d10' d11 d11'
    go_wp2_with fail
    go_ret
    exact ⟨rfl, hb5⟩

theorem psameP_any (B : Nat → Prop) : ∀ (p : Pr), SameP 63 B p := by
  refine Pr.ind ?_
  intro k c x ls vs t ps ih q b o b' o' w hB hp hq
  exact psame_step B (.mk k c x ls vs t ps) q ih b o b' o' w hB hp hq

end Go.Proofs.YtliijbcgkkiekaaDoor
