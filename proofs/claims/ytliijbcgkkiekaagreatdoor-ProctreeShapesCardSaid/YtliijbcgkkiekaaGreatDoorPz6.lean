/- Processes: sameness, by the program. (and what follows from it) -/
import Derived.Test.YtliijbcgkkiekaaGreatDoorPrC
import Derived.Test.YtliijbcgkkiekaaGreatDoorPz4
import Derived.Test.YtliijbcgkkiekaaGreatDoorPz5
import Derived.Test.YtliijbcgkkiekaaGreatDoorTyG
import Derived.Test.YtliijbcgkkiekaaGreatDoorPrU
import Derived.Test.YtliijbcgkkiekaaGreatDoorRows
import Derived.LaidLaws
import Derived.LaidMore
import Derived.MakeChecks
import Derived.OpenShut
import Derived.ChangeArms
import Derived.WalkKit
import Derived.ProofKit
import Derived.Deep.DeepHandedRow
import Derived.Deep.Slices
import Derived.Deep.Fields
import Derived.ChangeSame
import Derived.Carry

/- Processes: sameness, by the program. -/
namespace Go.Proofs.YtliijbcgkkiekaaGreatDoor
open Go.RowKit Go.Deep Go.Shelf

noncomputable def eqP (p q : Pr) : Bool := @decide (p = q) (Classical.propDecidable _)
theorem eqP_true {p q : Pr} : eqP p q = true ↔ p = q := by unfold eqP; simp
theorem eqP_self (p : Pr) : eqP p p = true := eqP_true.2 rfl
theorem eqP_ne {p q : Pr} (h : p ≠ q) : eqP p q = false := by
  cases e : eqP p q with
  | false => rfl
  | true => exact absurd (eqP_true.1 e) h
noncomputable def eqQ (p q : List Pr) : Bool := @decide (p = q) (Classical.propDecidable _)
theorem eqQ_true {p q : List Pr} : eqQ p q = true ↔ p = q := by unfold eqQ; simp
theorem eqQ_ne {p q : List Pr} (h : p ≠ q) : eqQ p q = false := by
  cases e : eqQ p q with
  | false => rfl
  | true => exact absurd (eqQ_true.1 e) h
/-- What is asked of a function that compares two processes in memory. -/
def SameP (f : Nat) (B : Nat → Prop) (p : Pr) : Prop := ∀ (q : Pr) (b o b' o' : Nat) (w : World), Low B w → PrAt B w p b o → PrAt B w q b' o' → Calls Tryz.prog f #[.pointer (some ⟨b, o, none⟩), .pointer (some ⟨b', o', none⟩)] w fun e w' => e = .returned (.bool (eqP p q)) ∧ Below w.heap.size w w'

set_option maxHeartbeats 2000000 in
set_option maxRecDepth 100000 in
/-- sameLists, at lists of processes. -/
theorem psames_any (B : Nat → Prop) (kv kv' : Value) (ps ps' : List Pr) (ih : ∀ p ∈ ps, SameP 40 B p) (w : World) (hB : Low B w) (hk : PrSl B w kv ps) (hk' : PrSl B w kv' ps') :
    Calls Tryz.prog 75 #[kv, kv', .func (.func 40) #[] #[]] w fun e w' => e = .returned (.bool (eqQ ps ps')) ∧ Below w.heap.size w w' := by
  obtain ⟨pa, len, c, rfl, hlen, hm, hget⟩ := hk.open
  obtain ⟨pa', len', c', rfl, hlen', hm', hget'⟩ := hk'.open
  have HG := Lib.hid hget
  have HG' := Lib.hid hget'
  clear hget hget' hk hk'
  by_cases hl : len = len'
  · subst hl
    go_enter Tryz.func75, Tryz.ntmps75
    go_wp2_with fail
    go_loopw [15] (fun i wr => ∃ (j : Nat), i = .int .i64 j ∧ j ≤ len ∧ Hid (ps.take j = ps'.take j) ∧ Below w.heap.size w wr) (fun i _ => len - (intOf i).toNat)
    case atStart => exact ⟨0, rfl, by omega, Lib.hid (by simp), Below.refl _ _⟩
    case round =>
      obtain ⟨j, rfl, hj, HT, hw⟩ := hrel
      by_cases hlt : j < len
      · obtain ⟨t, ht⟩ : ∃ t, ps[j]? = some t := ⟨_, List.getElem?_eq_getElem (by rw [← hlen.out]; exact hlt)⟩
        obtain ⟨t', ht'⟩ : ∃ t', ps'[j]? = some t' := ⟨_, List.getElem?_eq_getElem (by rw [← hlen'.out]; exact hlt)⟩
        obtain ⟨kb, ko, rfl, hkb, hty⟩ := HG.out j t ht
        obtain ⟨kb', ko', rfl, hkb', hty'⟩ := HG'.out j t' ht'
        have IH : Hid (∀ W, Below w.heap.size w W → Calls Tryz.prog 40 #[.pointer (some ⟨kb, ko + j * 12, none⟩), .pointer (some ⟨kb', ko' + j * 12, none⟩)] W fun e w' => e = .returned (.bool (eqP t t')) ∧ Below W.heap.size W w') :=
          Lib.hid (fun W hW => ih t (List.mem_of_getElem? ht) t' _ _ _ _ W (hB.le hW.size) (hty.keep (hW.keeps'.mono hB)) (hty'.keep (hW.keeps'.mono hB)))
        by_cases htt : t = t'
        · rw [eqP_true.2 htt] at IH
          have hn : Hid (ps.take (j + 1) = ps'.take (j + 1)) := Lib.hid (by rw [take_snoc_get ht, take_snoc_get ht', HT.out, htt])
          clear ht ht' htt hty hty'
          go_wp2_with fail
          refine wp_region_later wr.heap.size wr (by kernel_rfl) (by kernel_rfl) (Below.refl _ _) ?_
          repeat (go_big_quiet_step ((go_at_call 40; exact later_call _ (Nat.le_refl _) (IH.out _ (hw.trans (Below.mono (Subtype.property _) hw.size))))))
          refine wpQuiet_nil ?_
          rintro _ ⟨⟨w5, hb5⟩, rfl⟩
          go_wp2_with fail
          go_roundw
          case rel => exact ⟨j + 1, by go_num, by omega, hn, below_seq hw hb5⟩
          case measure => simp [intOf]; omega
        · rw [eqP_ne htt] at IH
          have hne : Hid (ps ≠ ps') := Lib.hid (fun e => htt (by rw [e, ht'] at ht; exact (Option.some.inj ht).symm))
          clear ht ht' htt hty hty'
          go_wp2_with fail
          refine wp_region_later wr.heap.size wr (by kernel_rfl) (by kernel_rfl) (Below.refl _ _) ?_
          repeat (go_big_quiet_step ((go_at_call 40; exact later_call _ (Nat.le_refl _) (IH.out _ (hw.trans (Below.mono (Subtype.property _) hw.size))))))
          refine wpQuiet_nil ?_
          rintro _ ⟨⟨w5, hb5⟩, rfl⟩
          go_wp2_with fail
          go_ret
          exact ⟨ret_bool (eqQ_ne hne.out).symm, below_seq hw hb5⟩
      · obtain rfl : j = len := by omega
        go_wp2_with fail
        go_ret
        refine ⟨ret_bool ?_, hw⟩
        rw [eqQ_true.2 (lists_eq hlen.out hlen'.out HT.out)]
  · have hl' : (len != len') = true := by simpa using hl
    have hne : ps ≠ ps' := fun e => hl (by rw [hlen.out, hlen'.out, e])
    have HN := Lib.hid hne
    clear hne
    go_enter Tryz.func75, Tryz.ntmps75
    go_wp2_with fail
    go_ret
    exact ⟨ret_bool (eqQ_ne HN.out).symm, Below.refl _ _⟩

set_option maxHeartbeats 4000000 in
set_option maxRecDepth 100000 in
theorem psame_step (B : Nat → Prop) (p q : Pr) (ih : ∀ u ∈ p.ps, SameP 40 B u) (b o b' o' : Nat) (w : World) (hB : Low B w) (hp : PrAt B w p b o) (hq : PrAt B w q b' o') :
    Calls Tryz.prog 40 #[.pointer (some ⟨b, o, none⟩), .pointer (some ⟨b', o', none⟩)] w fun e w' => e = .returned (.bool (eqP p q)) ∧ Below w.heap.size w w' := by
  obtain ⟨la, ln, lc, aa, an, ac, ta, tn, tc, ua, un, uc, ka, kn, kc, ⟨c0, c1, c2, c3, c4, c5, c6, c7, c8, c9, c10, c11⟩, hval⟩ := hp.load'
  obtain ⟨la', ln', lc', aa', an', ac', ta', tn', tc', ua', un', uc', ka', kn', kc', ⟨c0', c1', c2', c3', c4', c5', c6', c7', c8', c9', c10', c11'⟩, hval'⟩ := hq.load'
  have hb := hB b (PrAt.eq.1 hp).1
  have hb' := hB b' (PrAt.eq.1 hq).1
  have lift : ∀ {v : Value} {x : Nat}, w.cell? ⟨b, x, none⟩ = some v → ∀ W, Below w.heap.size w W → W.cell? ⟨b, x, none⟩ = some v := fun h W hW => (hW.cell (p := ⟨b, _, none⟩) hb).trans h
  have lift' : ∀ {v : Value} {x : Nat}, w.cell? ⟨b', x, none⟩ = some v → ∀ W, Below w.heap.size w W → W.cell? ⟨b', x, none⟩ = some v := fun h W hW => (hW.cell (p := ⟨b', _, none⟩) hb').trans h
  obtain ⟨lv0, av0, tl0, tk0, kv0, e0, _, hl, ha, ht, hk⟩ := hval
  simp only [prAgg, Value.agg.injEq, Array.mk.injEq, List.cons.injEq, and_true, true_and] at e0
  obtain ⟨rfl, rfl, rfl, rfl, rfl⟩ := e0
  obtain ⟨lv0, av0, tl0, tk0, kv0, e0, _, hl', ha', ht', hk'⟩ := hval'
  simp only [prAgg, Value.agg.injEq, Array.mk.injEq, List.cons.injEq, and_true, true_and] at e0
  obtain ⟨rfl, rfl, rfl, rfl, rfl⟩ := e0
  obtain ⟨b1, hb1⟩ : ∃ x, decide (p.ls = q.ls) = x := ⟨_, rfl⟩
  obtain ⟨b2, hb2⟩ : ∃ x, eqV p.vs q.vs = x := ⟨_, rfl⟩
  obtain ⟨b3, hb3⟩ : ∃ x, eqB p.t q.t = x := ⟨_, rfl⟩
  obtain ⟨b4, hb4⟩ : ∃ x, eqQ p.ps q.ps = x := ⟨_, rfl⟩
  have HT : Hid (∀ W, Below w.heap.size w W → Calls Tryz.prog 73 #[.slice la ln lc, .slice la' ln' lc'] W fun e w' => e = .returned (.bool b1) ∧ Below W.heap.size W w') := Lib.hid (fun W hW => (tequal_any B _ _ _ _ W (hl.keep (hW.keeps'.mono hB)) (hl'.keep (hW.keeps'.mono hB))).mono fun e w' ⟨h1, h2⟩ => ⟨by rw [h1, hb1], h2.below _⟩)
  have HV : Hid (∀ W, Below w.heap.size w W → Calls Tryz.prog 74 #[.slice aa an ac, .slice aa' an' ac'] W fun e w' => e = .returned (.bool b2) ∧ Below W.heap.size W w') := Lib.hid (fun W hW => (vequal_any B _ _ _ _ W (ha.keep (hW.keeps'.mono hB)) (ha'.keep (hW.keeps'.mono hB))).mono fun e w' ⟨h1, h2⟩ => ⟨by rw [h1, hb2], h2.below _⟩)
  have HY : Hid (∀ W, Below w.heap.size w W → Calls Tryz.prog 62 #[.agg #[.int .i64 p.t.k, .int .i64 p.t.p, .string p.t.n, .int .i64 p.t.s, .slice ta tn tc, .slice ua un uc], .agg #[.int .i64 q.t.k, .int .i64 q.t.p, .string q.t.n, .int .i64 q.t.s, .slice ta' tn' tc', .slice ua' un' uc']] W fun e w' => e = .returned (.bool b3) ∧ Below W.heap.size W w') := Lib.hid (fun W hW => by
    rw [← hb3]; exact tsame_any B p.t q.t _ _ W (hB.le hW.size) (ht.keep (hW.keeps'.mono hB)) (ht'.keep (hW.keeps'.mono hB)))
  have HK : Hid (∀ W, Below w.heap.size w W → Calls Tryz.prog 75 #[.slice ka kn kc, .slice ka' kn' kc', .func (.func 40) #[] #[]] W fun e w' => e = .returned (.bool b4) ∧ Below W.heap.size W w') := Lib.hid (fun W hW => by
    rw [← hb4]; exact psames_any B _ _ p.ps q.ps ih W (hB.le hW.size) (hk.keep (hW.keeps'.mono hB)) (hk'.keep (hW.keeps'.mono hB)))
  have HEQ : Hid (eqP p q = (decide (p.k = q.k) && (decide (p.c = q.c) && (decide (p.x = q.x) && (b1 && (b2 && (b3 && b4))))))) := Lib.hid (by
    rw [← hb1, ← hb2, ← hb3, ← hb4, Bool.eq_iff_iff]
    simp only [eqP_true, Bool.and_eq_true, decide_eq_true_eq, eqV_true, eqB_true, eqQ_true]
    cases p; cases q
    simp only [Pr.mk.injEq, Pr.k, Pr.c, Pr.x, Pr.ls, Pr.vs, Pr.t, Pr.ps])
  rw [HEQ.out]
  obtain ⟨k, hkk⟩ : ∃ k, p.k = k := ⟨_, rfl⟩
  obtain ⟨k', hkk'⟩ : ∃ k, q.k = k := ⟨_, rfl⟩
  obtain ⟨c, hcc⟩ : ∃ k, p.c = k := ⟨_, rfl⟩
  obtain ⟨c', hcc'⟩ : ∃ k, q.c = k := ⟨_, rfl⟩
  obtain ⟨x, hxx⟩ : ∃ k, p.x = k := ⟨_, rfl⟩
  obtain ⟨x', hxx'⟩ : ∃ k, q.x = k := ⟨_, rfl⟩
  rw [hkk] at c0
  rw [hkk'] at c0'
  rw [hcc] at c1
  rw [hcc'] at c1'
  rw [hxx] at c2
  rw [hxx'] at c2'
  rw [hkk, hkk', hcc, hcc', hxx, hxx']
  have d0 := fun q : Later w.heap.size w => lift c0 q.1 q.2
  have d0' := fun q : Later w.heap.size w => lift' c0' q.1 q.2
  have d1 := fun q : Later w.heap.size w => lift c1 q.1 q.2
  have d1' := fun q : Later w.heap.size w => lift' c1' q.1 q.2
  have d2 := fun q : Later w.heap.size w => lift c2 q.1 q.2
  have d2' := fun q : Later w.heap.size w => lift' c2' q.1 q.2
  have d3 := fun q : Later w.heap.size w => lift c3 q.1 q.2
  have d3' := fun q : Later w.heap.size w => lift' c3' q.1 q.2
  have d4 := fun q : Later w.heap.size w => lift c4 q.1 q.2
  have d4' := fun q : Later w.heap.size w => lift' c4' q.1 q.2
  have d5 := fun q : Later w.heap.size w => lift c5 q.1 q.2
  have d5' := fun q : Later w.heap.size w => lift' c5' q.1 q.2
  have d6 := fun q : Later w.heap.size w => lift c6 q.1 q.2
  have d6' := fun q : Later w.heap.size w => lift' c6' q.1 q.2
  have d7 := fun q : Later w.heap.size w => lift c7 q.1 q.2
  have d7' := fun q : Later w.heap.size w => lift' c7' q.1 q.2
  have d8 := fun q : Later w.heap.size w => lift c8 q.1 q.2
  have d8' := fun q : Later w.heap.size w => lift' c8' q.1 q.2
  have d9 := fun q : Later w.heap.size w => lift c9 q.1 q.2
  have d9' := fun q : Later w.heap.size w => lift' c9' q.1 q.2
  have d10 := fun q : Later w.heap.size w => lift c10 q.1 q.2
  have d10' := fun q : Later w.heap.size w => lift' c10' q.1 q.2
  have d11 := fun q : Later w.heap.size w => lift c11 q.1 q.2
  have d11' := fun q : Later w.heap.size w => lift' c11' q.1 q.2
  clear hkk hkk' hcc hcc' hxx hxx' HEQ hb1 hb2 hb3 hb4 hl ha ht hk hl' ha' ht' hk' hp hq lift lift' ih c0 c0' c1 c1' c2 c2' c3 c3' c4 c4' c5 c5' c6 c6' c7 c7' c8 c8' c9 c9' c10 c10' c11 c11'
  by_cases h1 : k = k'
  · subst h1
    rw [show decide (k = k) = true by simp, Bool.true_and]
    by_cases h2 : c = c'
    · subst h2
      rw [show decide (c = c) = true by simp, Bool.true_and]
      by_cases h3 : x = x'
      · subst h3
        rw [show decide (x = x) = true by simp, Bool.true_and]
        cases b1
        · rw [Bool.false_and]
          go_enter Tryz.func40, Tryz.ntmps40
          go_wp2_with fail
          refine wp_region_later w.heap.size w (by kernel_rfl) (by kernel_rfl) (Below.refl _ _) ?_
          dsimp only [List.append]
          repeat (go_big_quiet_step (first | (go_at_call 73; exact later_call _ (Nat.le_refl _) (HT.out _ (Subtype.property _))) | (go_at_call 74; exact later_call _ (Nat.le_refl _) (HV.out _ (Subtype.property _))) | (go_at_call 62; exact later_call _ (Nat.le_refl _) (HY.out _ (Subtype.property _))) | (go_at_call 75; exact later_call _ (Nat.le_refl _) (HK.out _ (Subtype.property _)))))
          refine wpQuiet_nil ?_
          rintro _ ⟨⟨w5, hb5⟩, rfl⟩
          clear d0 d0' d1 d1' d2 d2' d3 d3' d4 d4' d5 d5' d6 d6' d7 d7' d8 d8' d9 d9' d10 d10' d11 d11'
          go_wp2_with fail
          go_ret
          exact ⟨rfl, hb5⟩
        · rw [Bool.true_and]
          cases b2
          · rw [Bool.false_and]
            go_enter Tryz.func40, Tryz.ntmps40
            go_wp2_with fail
            refine wp_region_later w.heap.size w (by kernel_rfl) (by kernel_rfl) (Below.refl _ _) ?_
            dsimp only [List.append]
            repeat (go_big_quiet_step (first | (go_at_call 73; exact later_call _ (Nat.le_refl _) (HT.out _ (Subtype.property _))) | (go_at_call 74; exact later_call _ (Nat.le_refl _) (HV.out _ (Subtype.property _))) | (go_at_call 62; exact later_call _ (Nat.le_refl _) (HY.out _ (Subtype.property _))) | (go_at_call 75; exact later_call _ (Nat.le_refl _) (HK.out _ (Subtype.property _)))))
            refine wpQuiet_nil ?_
            rintro _ ⟨⟨w5, hb5⟩, rfl⟩
            clear d0 d0' d1 d1' d2 d2' d3 d3' d4 d4' d5 d5' d6 d6' d7 d7' d8 d8' d9 d9' d10 d10' d11 d11'
            go_wp2_with fail
            go_ret
            exact ⟨rfl, hb5⟩
          · rw [Bool.true_and]
            cases b3
            · rw [Bool.false_and]
              go_enter Tryz.func40, Tryz.ntmps40
              go_wp2_with fail
              refine wp_region_later w.heap.size w (by kernel_rfl) (by kernel_rfl) (Below.refl _ _) ?_
              dsimp only [List.append]
              repeat (go_big_quiet_step (first | (go_at_call 73; exact later_call _ (Nat.le_refl _) (HT.out _ (Subtype.property _))) | (go_at_call 74; exact later_call _ (Nat.le_refl _) (HV.out _ (Subtype.property _))) | (go_at_call 62; exact later_call _ (Nat.le_refl _) (HY.out _ (Subtype.property _))) | (go_at_call 75; exact later_call _ (Nat.le_refl _) (HK.out _ (Subtype.property _)))))
              refine wpQuiet_nil ?_
              rintro _ ⟨⟨w5, hb5⟩, rfl⟩
              clear d0 d0' d1 d1' d2 d2' d3 d3' d4 d4' d5 d5' d6 d6' d7 d7' d8 d8' d9 d9' d10 d10' d11 d11'
              go_wp2_with fail
              go_ret
              exact ⟨rfl, hb5⟩
            · rw [Bool.true_and]
              cases b4
              all_goals
                go_enter Tryz.func40, Tryz.ntmps40
                go_wp2_with fail
                refine wp_region_later w.heap.size w (by kernel_rfl) (by kernel_rfl) (Below.refl _ _) ?_
                dsimp only [List.append]
                repeat (go_big_quiet_step (first | (go_at_call 73; exact later_call _ (Nat.le_refl _) (HT.out _ (Subtype.property _))) | (go_at_call 74; exact later_call _ (Nat.le_refl _) (HV.out _ (Subtype.property _))) | (go_at_call 62; exact later_call _ (Nat.le_refl _) (HY.out _ (Subtype.property _))) | (go_at_call 75; exact later_call _ (Nat.le_refl _) (HK.out _ (Subtype.property _)))))
                refine wpQuiet_nil ?_
                rintro _ ⟨⟨w5, hb5⟩, rfl⟩
                clear d0 d0' d1 d1' d2 d2' d3 d3' d4 d4' d5 d5' d6 d6' d7 d7' d8 d8' d9 d9' d10 d10' d11 d11'
                go_wp2_with fail
                go_ret
                exact ⟨rfl, hb5⟩
      · have h4 := str_ne h3
        have h5 : (x.toList == x'.toList) = false := by simpa using h4
        rw [show decide (x = x') = false by simpa using h3, Bool.false_and]
        clear h3
        go_enter Tryz.func40, Tryz.ntmps40
        go_wp2_with fail
        refine wp_region_later w.heap.size w (by kernel_rfl) (by kernel_rfl) (Below.refl _ _) ?_
        dsimp only [List.append]
        repeat (go_big_quiet_step (first | (go_at_call 73; exact later_call _ (Nat.le_refl _) (HT.out _ (Subtype.property _))) | (go_at_call 74; exact later_call _ (Nat.le_refl _) (HV.out _ (Subtype.property _))) | (go_at_call 62; exact later_call _ (Nat.le_refl _) (HY.out _ (Subtype.property _))) | (go_at_call 75; exact later_call _ (Nat.le_refl _) (HK.out _ (Subtype.property _)))))
        refine wpQuiet_nil ?_
        rintro _ ⟨⟨w5, hb5⟩, rfl⟩
        clear d0 d0' d1 d1' d2 d2' d3 d3' d4 d4' d5 d5' d6 d6' d7 d7' d8 d8' d9 d9' d10 d10' d11 d11'
        go_wp2_with fail
        go_ret
        exact ⟨rfl, hb5⟩
    · have h4 := str_ne h2
      have h5 : (c.toList == c'.toList) = false := by simpa using h4
      rw [show decide (c = c') = false by simpa using h2, Bool.false_and]
      clear h2
      go_enter Tryz.func40, Tryz.ntmps40
      go_wp2_with fail
      refine wp_region_later w.heap.size w (by kernel_rfl) (by kernel_rfl) (Below.refl _ _) ?_
      dsimp only [List.append]
      repeat (go_big_quiet_step (first | (go_at_call 73; exact later_call _ (Nat.le_refl _) (HT.out _ (Subtype.property _))) | (go_at_call 74; exact later_call _ (Nat.le_refl _) (HV.out _ (Subtype.property _))) | (go_at_call 62; exact later_call _ (Nat.le_refl _) (HY.out _ (Subtype.property _))) | (go_at_call 75; exact later_call _ (Nat.le_refl _) (HK.out _ (Subtype.property _)))))
      refine wpQuiet_nil ?_
      rintro _ ⟨⟨w5, hb5⟩, rfl⟩
      clear d0 d0' d1 d1' d2 d2' d3 d3' d4 d4' d5 d5' d6 d6' d7 d7' d8 d8' d9 d9' d10 d10' d11 d11'
      go_wp2_with fail
      go_ret
      exact ⟨rfl, hb5⟩
  · have h4 : (k == k') = false := by simpa using h1
    rw [show decide (k = k') = false by simpa using h1, Bool.false_and]
    clear h1
    go_enter Tryz.func40, Tryz.ntmps40
    go_wp2_with fail
    refine wp_region_later w.heap.size w (by kernel_rfl) (by kernel_rfl) (Below.refl _ _) ?_
    dsimp only [List.append]
    repeat (go_big_quiet_step (first | (go_at_call 73; exact later_call _ (Nat.le_refl _) (HT.out _ (Subtype.property _))) | (go_at_call 74; exact later_call _ (Nat.le_refl _) (HV.out _ (Subtype.property _))) | (go_at_call 62; exact later_call _ (Nat.le_refl _) (HY.out _ (Subtype.property _))) | (go_at_call 75; exact later_call _ (Nat.le_refl _) (HK.out _ (Subtype.property _)))))
    refine wpQuiet_nil ?_
    rintro _ ⟨⟨w5, hb5⟩, rfl⟩
    clear d0 d0' d1 d1' d2 d2' d3 d3' d4 d4' d5 d5' d6 d6' d7 d7' d8 d8' d9 d9' d10 d10' d11 d11'
    go_wp2_with fail
    go_ret
    exact ⟨rfl, hb5⟩

theorem psameP_any (B : Nat → Prop) : ∀ (p : Pr), SameP 40 B p := by
  refine Pr.ind ?_
  intro k c x ls vs t ps ih q b o b' o' w hB hp hq
  exact psame_step B (.mk k c x ls vs t ps) q ih b o b' o' w hB hp hq

end Go.Proofs.YtliijbcgkkiekaaGreatDoor

/- Processes: Prefix and Same. -/
namespace Go.Proofs.YtliijbcgkkiekaaGreatDoor
open Go.RowKit Go.Deep Go.Shelf

theorem pprefix_any (B : Nat → Prop) (p : Pr) (v : Value) (w : World) (hv : PrVal B w v p) :
    Calls Tryz.prog 17 #[v] w fun e w' => e = .returned (.bool (prefixB p.k)) ∧ Below w.heap.size w w' := by
  obtain ⟨lv, av, tl, tk, kv, rfl, _⟩ := hv
  have HP := Lib.hid (prefix_any p.k (w.alloc (cell12 p lv av tl tk kv)))
  obtain ⟨pb, hpb⟩ : ∃ b, prefixB p.k = b := ⟨_, rfl⟩
  rw [hpb] at HP ⊢
  clear hpb
  unfold prAgg
  go_enter Tryz.func17, Tryz.ntmps17
  go_wp2_with (go_at_call 37; refine HP.out.mono ?_; rintro e w2 ⟨rfl, rfl⟩)
  go_ret
  exact ⟨rfl, blkBelow w _ _⟩

theorem psame_any (B : Nat → Prop) (p q : Pr) (v v' : Value) (w : World) (hB : Low B w) (hv : PrVal B w v p) (hv' : PrVal B w v' q) :
    Calls Tryz.prog 16 #[v, v'] w fun e w' => e = .returned (.bool (eqP p q)) ∧ Below w.heap.size w w' := by
  have hv0 := hv
  have hv0' := hv'
  obtain ⟨lv, av, tl, tk, kv, rfl, _⟩ := hv0
  obtain ⟨lv', av', tl', tk', kv', rfl, _⟩ := hv0'
  have hb1 : Below w.heap.size w (w.alloc (cell12 p lv av tl tk kv)) := blkBelow w _ _
  have hb2 : Below (w.heap.size + 1) (w.alloc (cell12 p lv av tl tk kv)) ((w.alloc (cell12 p lv av tl tk kv)).alloc (cell12 q lv' av' tl' tk' kv')) := (Below.refl _ _).alloc (by simp) _
  have hp1 := boxed_prAt (S := fun k => B k ∨ k = w.heap.size ∨ k = w.heap.size + 1) hB hv hb2 (fun _ h => .inl h) (.inr (.inl rfl))
  have hB1 : Low B (w.alloc (cell12 p lv av tl tk kv)) := hB.le hb1.size
  have hp2 := boxed_prAt (S := fun k => B k ∨ k = w.heap.size ∨ k = w.heap.size + 1) hB1 (hv'.to hB hb1) (Below.refl _ ((w.alloc (cell12 p lv av tl tk kv)).alloc (cell12 q lv' av' tl' tk' kv'))) (fun _ h => .inl h) (.inr (.inr (by simp)))
  rw [World.size_alloc] at hp2
  have hS : Low (fun k => B k ∨ k = w.heap.size ∨ k = w.heap.size + 1) ((w.alloc (cell12 p lv av tl tk kv)).alloc (cell12 q lv' av' tl' tk' kv')) := by
    intro k h
    have hs : ((w.alloc (cell12 p lv av tl tk kv)).alloc (cell12 q lv' av' tl' tk' kv')).heap.size = w.heap.size + 2 := by simp
    rw [hs]
    rcases h with h | h | h
    · have := hB k h; omega
    · omega
    · omega
  have HQ := Lib.hid (psameP_any _ p q _ _ _ _ _ hS hp1 hp2)
  have HB := Lib.hid (hb1.trans (hb2.mono (by omega)))
  obtain ⟨r, hr⟩ : ∃ r, eqP p q = r := ⟨_, rfl⟩
  rw [hr] at HQ ⊢
  clear hp1 hp2 hS hB1 hb1 hb2 hv hv' hr
  unfold prAgg
  go_enter Tryz.func16, Tryz.ntmps16
  go_wp2_with (go_at_call 40; refine HQ.out.mono ?_; rintro e w2 ⟨rfl, hb3⟩)
  go_ret
  exact ⟨rfl, HB.out.trans (hb3.mono HB.out.size)⟩

end Go.Proofs.YtliijbcgkkiekaaGreatDoor

/- Processes: the reference's In. -/
namespace Go.Proofs.YtliijbcgkkiekaaGreatDoor
open Go.RowKit

end Go.Proofs.YtliijbcgkkiekaaGreatDoor

/- Processes: binders. -/
namespace Go.Proofs.YtliijbcgkkiekaaGreatDoor
open Go.RowKit Go.Deep Go.Shelf

/-- The names that a node binds. -/
def Pr.bnd (p : Pr) : List ByteArray := if p.k = 3 then [p.x] else if p.k = 6 then [p.c, p.x] else []
theorem strSl_made {w W : World} (l : List ByteArray) (hb : Below (w.heap.size + 1) (w.alloc (.cells (l.map Value.string).toArray 9)) W) (hs : ∀ s ∈ l, s.size ≤ maxLen) (hl : l.length ≤ maxLen) :
    StrSl (Fresh w.heap.size W.heap.size) W (.slice (some ⟨w.heap.size, 0, none⟩) l.length l.length) l :=
  ⟨.inr ⟨_, _, _, rfl, ⟨Nat.le_refl _, by have := hb.size; rw [World.size_alloc] at this; omega⟩, Nat.le_refl _, fun j s hj => by rw [Nat.zero_add]; exact blk_cell hb j (by simp [hj])⟩, hl, hs⟩
set_option maxHeartbeats 1000000 in
theorem binders_any (S : Nat → Prop) (p : Pr) (b o : Nat) (w : World) (hS : Low S w) (hp : PrAt S w p b o) :
    Calls Tryz.prog 38 #[.pointer (some ⟨b, o, none⟩)] w (StrRet w p.bnd) := by
  obtain ⟨hSb, ⟨hc, hx⟩, ⟨c0, c1, c2⟩, _⟩ := PrAt.eq.1 hp
  have hbl := hS b hSb
  unfold Pr.bnd
  obtain ⟨k, hk⟩ : ∃ k, p.k = k := ⟨_, rfl⟩
  rw [hk] at c0 ⊢
  have HC := Lib.hid hc
  have HX := Lib.hid hx
  clear hp hk hc hx
  by_cases h3 : k = 3
  · subst h3
    rw [if_pos rfl]
    go_enter Tryz.func38, Tryz.ntmps38
    go_wp2_with fail
    go_ret
    exact ⟨_, _, _, rfl, strSl_made [p.x] (Below.refl _ _) (fun s hs => by rw [List.mem_singleton.1 hs]; exact HX.out) (by simp [maxLen]), blkBelow w _ _⟩
  · have h3' : (k == 3) = false := by simpa using h3
    rw [if_neg h3]
    clear h3
    by_cases h6 : k = 6
    · subst h6
      rw [if_pos rfl]
      go_enter Tryz.func38, Tryz.ntmps38
      go_wp2_with fail
      go_region
      all_goals
        go_wp2_with fail
        go_ret
        exact ⟨_, _, _, rfl, strSl_made [p.c, p.x] (Below.refl _ _).drew (fun s hs => by
          rcases List.mem_cons.1 hs with e | hs
          · rw [e]; exact HC.out
          · rw [List.mem_singleton.1 hs]; exact HX.out) (by simp [maxLen]), (blkBelow w _ _).drew⟩
    · have h6' : (k == 6) = false := by simpa using h6
      rw [if_neg h6]
      clear h6
      go_enter Tryz.func38, Tryz.ntmps38
      go_wp2_with fail
      go_ret
      exact ⟨_, _, _, rfl, ⟨.inl ⟨⟨_, _, rfl⟩, rfl⟩, by simp [maxLen]⟩, Below.refl _ _⟩

end Go.Proofs.YtliijbcgkkiekaaGreatDoor

/- Programs: headFits. -/
namespace Go.Proofs.YtliijbcgkkiekaaGreatDoor
open Go.RowKit Go.Deep Go.Shelf

theorem right_is (E : Nat) (B : Nat → Prop) (t : Ty) (hf : t.fine) (hdep : t.depth ≤ 1000) (r : Int) (hr : rightE t = r) (v : Value) (w : World) (hB : Low B w) (he : Env E w) (hv : TyVal B w v t) :
    Calls Tryz.prog 65 #[v] w fun e w' => e = .returned (.int .i64 r) ∧ Below w.heap.size w w' := by
  rw [← hr]; exact tright_any E B t hf hdep v w hB he hv

noncomputable def pmB (a : Pm) : Bool := nameB a.n && rightE a.t == 0
noncomputable def hdB (d : Df) : Bool := d.ms.all pmB && nameB d.n
set_option maxHeartbeats 2000000 in
theorem headFits_any (S : Nat → Prop) (d : Df) (b o E : Nat) (w : World) (hS : Low S w) (he : Env E w) (hSb : S b) (hf : ∀ a ∈ d.ms, a.t.fine ∧ a.t.depth ≤ 1000) (hd : DfAt S w d b o) :
    Calls Tryz.prog 31 #[.pointer (some ⟨b, o, none⟩)] w fun e w' => e = .returned (.bool (hdB d)) ∧ Below w.heap.size w w' := by
  obtain ⟨hn, c0, ⟨mv, c1, hm⟩, _⟩ := hd
  have hbl := hS b hSb
  obtain ⟨pa, len, c, rfl, hlen, hmx, hget⟩ := hm.open
  obtain ⟨ms, hms⟩ : ∃ ms, d.ms = ms := ⟨_, rfl⟩
  obtain ⟨nm, hnm⟩ : ∃ nm, d.n = nm := ⟨_, rfl⟩
  have hhd : hdB d = (ms.all pmB && nameB nm) := by unfold hdB; rw [hms, hnm]
  rw [hhd]
  rw [hms] at hget hlen hf
  rw [hnm] at c0 hn
  have HG := Lib.hid hget
  have HFN := Lib.hid hf
  clear hget hf hm hms hnm hhd
  go_enter Tryz.func31, Tryz.ntmps31
  go_wp2_with fail
  go_loopw [10] (fun i wr => ∃ (j : Nat), i = .int .i64 (j : Int) ∧ j ≤ len ∧ Hid ((ms.take j).all pmB = true) ∧ Below w.heap.size w wr) (fun i _ => len - (intOf i).toNat)
  case atStart => exact ⟨0, rfl, by omega, Lib.hid (by simp), Below.refl _ _⟩
  case round =>
    obtain ⟨j, rfl, hj, HT, hw⟩ := hrel
    by_cases hlt : j < len
    · obtain ⟨x, hx⟩ : ∃ x, ms[j]? = some x := ⟨_, List.getElem?_eq_getElem (by rw [← hlen.out]; exact hlt)⟩
      obtain ⟨kb, ko, rfl, hkb, hxn, a0, hty⟩ := HG.out j x hx
      have hmem := List.mem_of_getElem? hx
      obtain ⟨hfx, hdx⟩ := HFN.out x hmem
      have e0 := (hw.cell (p := ⟨kb, ko + j * 7, none⟩) (hS kb hkb)).trans a0
      obtain ⟨la, ln, lc, ka, kn, kc, ⟨d0, d1, d2, d3, d4, d5⟩, hv⟩ := (hty.keep (hw.keeps'.mono hS)).load'
      have e2 : wr.cell? ⟨kb, ko + j * 7 + 2, none⟩ = some (.int .i64 x.t.p) := d1
      have e3 : wr.cell? ⟨kb, ko + j * 7 + 3, none⟩ = some (.string x.t.n) := d2
      have e4 : wr.cell? ⟨kb, ko + j * 7 + 4, none⟩ = some (.int .i64 x.t.s) := d3
      have e5 : wr.cell? ⟨kb, ko + j * 7 + 5, none⟩ = some (.slice la ln lc) := d4
      have e6 : wr.cell? ⟨kb, ko + j * 7 + 6, none⟩ = some (.slice ka kn kc) := d5
      have hbx := blkBelow wr #[.string x.n, .int .i64 x.t.k, .int .i64 x.t.p, .string x.t.n, .int .i64 x.t.s, .slice la ln lc, .slice ka kn kc] 55
      have hbw := below_seq hw hbx
      obtain ⟨nb, hnb⟩ : ∃ b, nameB x.n = b := ⟨_, rfl⟩
      obtain ⟨r, hr⟩ : ∃ r, rightE x.t = r := ⟨_, rfl⟩
      have HN := Lib.hid (tname_is x.n nb hnb hxn E _ (he.to hbw))
      have HR := Lib.hid (right_is E S x.t hfx hdx r hr _ _ (hS.le hbw.size) (he.to hbw) (hv.to (hS.le hw.size) hbx))
      have HX := Lib.hid hx
      have HPB : Hid (pmB x = (nb && r == 0)) := Lib.hid (by unfold pmB; rw [hnb, hr])
      have HBW := Lib.hid hbw
      have HFA : Hid (pmB x = false → (ms.all pmB && nameB nm) = false) := Lib.hid (fun h => by
        have : ms.all pmB = false := by
          rw [List.all_eq_false]; exact ⟨x, hmem, by rw [h]; simp⟩
        rw [this]; rfl)
      have HTR : Hid (pmB x = true → (ms.take (j + 1)).all pmB = true) := Lib.hid (fun h => by
        rw [take_snoc_get HX.out, List.all_append, HT.out]; simp [h])
      clear hx hmem hfx hdx hty hv d1 d2 d3 d4 d5 hnb hr hbx hbw a0
      cases nb
      · go_wp2_with (go_at_call 64; refine HN.out.mono ?_; rintro e w2 ⟨rfl, rfl⟩)
        go_ret
        exact ⟨ret_bool (HFA.out (by rw [HPB.out]; rfl)).symm, HBW.out⟩
      · by_cases h0 : r = 0
        · subst h0
          go_wp2_with (first | (go_at_call 64; refine HN.out.mono ?_; rintro e w2 ⟨rfl, rfl⟩) | (go_at_call 65; refine HR.out.mono ?_; rintro e w3 ⟨rfl, hb3⟩))
          go_roundw
          case rel => exact ⟨j + 1, by go_num, by omega, Lib.hid (HTR.out (by rw [HPB.out]; rfl)), below_seq HBW.out hb3⟩
          case measure => simp [intOf]; omega
        · have h0' : (r != 0) = true := by simpa using h0
          have h0'' : (r == 0) = false := by simpa using h0
          clear h0
          go_wp2_with (first | (go_at_call 64; refine HN.out.mono ?_; rintro e w2 ⟨rfl, rfl⟩) | (go_at_call 65; refine HR.out.mono ?_; rintro e w3 ⟨rfl, hb3⟩))
          go_ret
          exact ⟨ret_bool (HFA.out (by rw [HPB.out, h0'']; rfl)).symm, below_seq HBW.out hb3⟩
    · obtain rfl : j = len := by omega
      have hall : ms.all pmB = true := by have := HT.out; rwa [List.take_of_length_le (by rw [hlen.out]; exact Nat.le_refl _)] at this
      obtain ⟨nb, hnb⟩ : ∃ b, nameB nm = b := ⟨_, rfl⟩
      have HN := Lib.hid (tname_is nm nb hnb hn E wr (he.to hw))
      have HF : Hid ((ms.all pmB && nameB nm) = nb) := Lib.hid (by rw [hall, hnb, Bool.true_and])
      have e0 := (hw.cell (p := ⟨b, o, none⟩) hbl).trans c0
      clear hall hnb
      go_wp2_with (go_at_call 64; refine HN.out.mono ?_; rintro e w2 ⟨rfl, rfl⟩)
      go_ret
      exact ⟨ret_bool HF.out.symm, hw⟩

end Go.Proofs.YtliijbcgkkiekaaGreatDoor

/- Types: the second law of layer 2. -/
namespace Go.Proofs.YtliijbcgkkiekaaGreatDoor
open Go.RowKit Go.Deep Go.Shelf

theorem sess_l {W : World} {k p s : Int} {n : ByteArray} {lv kv : Value} {b : Bool} (hb : (k != 1 && k != 2) = b) : Calls Tryz.prog 78 #[.agg #[.int .i64 k, .int .i64 p, .string n, .int .i64 s, lv, kv]] W fun e w' => e = .returned (.bool b) ∧ Below W.heap.size W w' := by
  rw [← hb]; exact tsession_any k p s n lv kv W
theorem rsess_l {W : World} {k p s : Int} {n : ByteArray} {lv kv : Value} {b : Bool} (hb : (k != 1 && k != 2) = b) : Calls Tryz.prog 84 #[.agg #[.int .i64 k, .int .i64 p, .string n, .int .i64 s, lv, kv]] W fun e w' => e = .returned (.bool b) ∧ Below W.heap.size W w' := by
  rw [← hb]; exact rsession_any k p s n lv kv W
theorem six_two_below (w : World) (a0 a1 a2 a3 a4 a5 b0 b1 b2 b3 b4 b5 : Value) : Below w.heap.size w ((w.alloc (.cells #[a0, a1, a2, a3, a4, a5] 26)).alloc (.cells #[b0, b1, b2, b3, b4, b5] 26)) := box2_below w _ _

end Go.Proofs.YtliijbcgkkiekaaGreatDoor

/- From a row's list of package-level variables to what the walks lean on; a world that meets the list. -/
namespace Go.Proofs.YtliijbcgkkiekaaGreatDoor
open Go.RowKit Go.ChangeShapes

/-- The list that all rows of this seat bear. -/
abbrev seatLaid : List (String × DataW Unit) := Rows.proctreeShapesRow.laid

theorem one_reads {P : Program} {w : World} : ∀ {l : List (String × DataW Unit)} {ps : List MemPlace}, DataW.LaidVars P w l ps → ∀ n d, (n, d) ∈ l →
    ∃ g t cs fuel p, P.globalNamed n = some g ∧ (P.globals[g]?).map (·.type) = some t ∧ w.var? P n = some cs ∧ DataW.trod (fun _ => ()) P w 0 (fun _ => true) false fuel t cs.toList = some (d, p)
  | [], _, _, _, _, hm => by cases hm
  | (n', d') :: r, ps, h, n, d, hm => by
    obtain ⟨g, t, cs, fuel, p, q, h1, h2, h3, h4, h5, _⟩ := h
    rcases List.mem_cons.1 hm with e | e
    · cases e
      exact ⟨g, t, cs, fuel, p, h1, h2, h3, h4⟩
    · exact one_reads h5 n d e

theorem strs_read {H : Type} {enc : TypeId × Value → H} {P : Program} {w : World} {base : Nat} {sp : Nat → Bool} {held : Bool} {fuel : Nat} {t e : TypeId} {n : Nat} {cs : List Value} {ls : List (List UInt8)} {p : List MemPlace}
    (ht : P.underlying t = some (.array n e)) (he : P.underlying e = some .string) (hce : P.cellsOf e = 1) (hct : P.cellsOf t = n)
    (h : DataW.trod enc P w base sp held fuel t cs = some (.agg (ls.map fun l => .lit (.string l)), p)) : cs = ls.map fun l => Value.string ⟨l.toArray⟩ := by
  obtain ⟨xs, m, _, hx, hlen, hxl, hat⟩ := DataW.trod_array ht h
  have hxs : xs.map (·.1) = ls.map fun l => (DataW.lit (.string l) : DataW H) := by
    have := congrArg Prod.fst hx
    simpa using this.symm
  have hll : ls.length = n := by
    have := congrArg List.length hxs
    simp at this; omega
  apply List.ext_getElem?
  intro i
  by_cases hi : i < n
  · have hf := hat i hi
    rw [hce, Nat.mul_one] at hf
    obtain ⟨x, hxi⟩ : ∃ x, xs[i]? = some x := ⟨_, List.getElem?_eq_getElem (by omega)⟩
    rw [hxi] at hf
    obtain ⟨s, hc, rfl, _⟩ := DataW.trod_string he hf
    have h1 : cs[i]? = some (.string s) := by
      have := congrArg (·[0]?) hc
      simpa [List.getElem?_take, List.getElem?_drop] using this
    have h2 : (xs.map (·.1))[i]? = some (DataW.lit (.string s.data.toList) : DataW H) := by simp [hxi]
    rw [hxs] at h2
    simp only [List.getElem?_map, Option.map_eq_some_iff, DataW.lit.injEq, Lit.string.injEq] at h2
    obtain ⟨l, hl, hls⟩ := h2
    rw [h1, List.getElem?_map, hl, hls]
    rfl
  · rw [List.getElem?_eq_none (by omega), List.getElem?_eq_none (by simp; omega)]

theorem wordsType : (Tryz.prog.globals[0]?).map (·.type) = some 120 := by kernel_rfl
theorem cellsStr : Tryz.prog.cellsOf 9 = 1 := by kernel_rfl
theorem cellsWords : Tryz.prog.cellsOf 120 = 10 := by kernel_rfl
theorem env_of_laid {W : World} (h : laidMetH Tryz.prog seatLaid W) : Env W.heap.size W := by
  rw [MakeChecks.laidMetH_plain _ _ _ (by kernel_rfl)] at h
  obtain ⟨ps, hv, _⟩ := h
  obtain ⟨g', t', cs', fuel', p', hg', ht', hvar', hd'⟩ := one_reads hv "duologue/lex.keywords" Rows.laid_duologue_lex_keywords (by simp [seatLaid, Rows.proctreeShapesRow])
  obtain rfl := Option.some.inj (gWords.symm.trans hg')
  obtain rfl := Option.some.inj (wordsType.symm.trans ht')
  have hws := strs_read (ls := [[100, 101, 102], [109, 97, 105, 110], [115, 116, 111, 112], [110, 101, 119], [105, 110, 116], [98, 111, 111, 108], [101, 110, 100], [114, 101, 99], [116, 114, 117, 101], [102, 97, 108, 115, 101]]) kwU Tryz.underlying9 cellsStr cellsWords hd'
  have lt : ∀ {n : String} {g : Nat} {cs : Array Value}, Tryz.prog.globalNamed n = some g → W.var? Tryz.prog n = some cs → g < W.heap.size := by
    intro n g cs hg hv
    unfold World.var? at hv
    simp only [hg, Option.bind_some] at hv
    rcases Nat.lt_or_ge g W.heap.size with h' | h'
    · exact h'
    · rw [Array.getElem?_eq_none h'] at hv; cases hv
  refine ⟨?_, lt gWords hvar', Nat.le_refl _⟩
  rw [hvar']; obtain ⟨l⟩ := cs'; simp only at hws; rw [hws]; rfl

/-- The door's own heap meets the list: closed facts. -/
theorem door_met (os : Os) (args : Array Value) : laidMetH Tryz.prog seatLaid ((World.doorLaid Tryz.prog 4000 os).forCall (fun _ _ => 0) ⟨#[], args, []⟩).memory :=
  laidMetH_of_parts3 (fuel := 10) (laidMet_of_run' 10 (by kernel_rfl) (by kernel_rfl)) (by kernel_rfl) (by kernel_rfl)

end Go.Proofs.YtliijbcgkkiekaaGreatDoor

/- Types: a type that came in as an argument. -/
namespace Go.Proofs.YtliijbcgkkiekaaGreatDoor
open Go.ChangeShapes Go.WideShapes Go.ChangeAt Go.RowKit Go.Deep

theorem choose_list {α : Type} (Q : Nat → α → Prop) : ∀ n : Nat, (∀ i, i < n → ∃ x, Q i x) → ∃ ls : List α, ls.length = n ∧ ∀ i x, ls[i]? = some x → Q i x
  | 0, _ => ⟨[], rfl, fun i x h => by simp at h⟩
  | n + 1, h => by
    obtain ⟨ls, hl, hq⟩ := choose_list Q n (fun i hi => h i (by omega))
    obtain ⟨x, hx⟩ := h n (by omega)
    refine ⟨ls ++ [x], by simp [hl], fun i y hy => ?_⟩
    by_cases hi : i < ls.length
    · rw [List.getElem?_append_left hi] at hy; exact hq i y hy
    · rw [List.getElem?_append_right (by omega)] at hy
      have : i - ls.length = 0 := by
        rcases Nat.eq_zero_or_pos (i - ls.length) with h0 | h0
        · exact h0
        · rw [List.getElem?_eq_none (by simp; omega)] at hy; cases hy
      rw [this] at hy
      simp at hy
      subst hy
      have : i = n := by omega
      subst this
      exact hx
theorem addr_of_cell {w : World} {a : Addr} {v : Value} (h : w.cell? a = some v) : a = ⟨a.block, a.off, none⟩ ∧ a.block < w.heap.size := by
  obtain ⟨b, o, s⟩ := a
  unfold World.cell? at h
  cases hb : w.heap[b]? with
  | none => simp [hb] at h
  | some ob =>
    have hlt := (Array.getElem?_eq_some_iff.1 hb).1
    cases s with
    | none => exact ⟨rfl, hlt⟩
    | some s => cases ob <;> simp [hb] at h
theorem add_block {b o : Nat} (j : Nat) : (⟨b, o, none⟩ : Addr).add j = ⟨b, o + j, none⟩ := by
  unfold Addr.add
  by_cases h : j = 0
  · subst h; simp
  · simp [h]
theorem add_zero' (a : Addr) : a.add 0 = a := by unfold Addr.add; simp
/-- A struct of one-cell fields, field by field. -/
theorem fields_of {H : Type} {enc : TypeId × Value → H} {P : Program} {w : World} {base : Nat} {spare : Nat → Bool} {held : Bool} {e : TypeId} {fs : Array Field} {fuel : Nat} {cs : List Value} {x : DataW H × List MemPlace}
    (he : P.underlying e = some (.struct fs)) (hone : oneCellFields P fs = true) (hC : P.cellsOf e = fs.size) (h : DataW.trod enc P w base spare held fuel e cs = some x) :
    ∃ (ys : List (DataW H × List MemPlace)) (n : Nat), fuel = n + 1 ∧ x = (.agg (ys.map (·.1)), ys.flatMap (·.2)) ∧ cs.length = fs.size ∧ ys.length = fs.size ∧
      ∀ (j : Nat) (f : Field), fs[j]? = some f → ∃ v y, cs[j]? = some v ∧ ys[j]? = some y ∧ DataW.trod enc P w base spare held n f.type [v] = some y := by
  obtain ⟨ys, n, hn, hx, hl, hyl, hf⟩ := DataW.trod_struct he h
  rw [hC] at hl
  refine ⟨ys, n, hn, hx, hl, hyl, fun j f hj => ?_⟩
  have hlt := (Array.getElem?_eq_some_iff.1 hj).1
  obtain ⟨ho, h1⟩ := hone_of hone j f hj
  have h2 := hf j f hj
  obtain ⟨v, hv⟩ : ∃ v, cs[j]? = some v := ⟨_, List.getElem?_eq_getElem (by omega)⟩
  obtain ⟨y, hy⟩ : ∃ y, ys[j]? = some y := ⟨_, List.getElem?_eq_getElem (by omega)⟩
  have ht : (cs.drop j).take 1 = [v] := by
    have hd := List.drop_eq_getElem_cons (l := cs) (i := j) (by omega)
    rw [List.getElem?_eq_getElem (by omega)] at hv
    rw [hd, List.take_succ_cons, List.take_zero]
    simpa using hv
  rw [ho, h1, ht, hy] at h2
  exact ⟨v, y, hv, hy, h2⟩
/-- A slice: nil, or elements that read with less fuel. -/
theorem slice_of {H : Type} {enc : TypeId × Value → H} {P : Program} {w : World} {base : Nat} {spare : Nat → Bool} {held : Bool} {t e : TypeId} {fuel : Nat} {v : Value} {x : DataW H × List MemPlace}
    (he : P.underlying t = some (.slice e)) (h : DataW.trod enc P w base spare held fuel t [v] = some x) :
    ∃ (a : Option Addr) (len cap : Nat), v = .slice a len cap ∧ len ≤ cap ∧ cap ≤ maxLen ∧ ∀ i, i < len → ∃ ad n cs y, a = some ad ∧ n < fuel ∧ w.cells? base (ad.add (i * P.cellsOf e)) (P.cellsOf e) = some cs ∧ DataW.trod enc P w base spare held n e cs = some y := by
  rcases DataW.trod_slice he h with ⟨hc, hx⟩ | ⟨a, len, cap, elems, rest, n, hn, hcs, hx, hb, hl, hm, hlen, hel, _⟩
  · simp only [List.cons.injEq, and_true] at hc
    exact ⟨none, 0, 0, hc, by omega, by simp [maxLen], fun i hi => by omega⟩
  · simp only [List.cons.injEq, and_true] at hcs
    refine ⟨some a, len, cap, hcs, hl, hm, fun i hi => ?_⟩
    have h1 := hel i hi
    obtain ⟨y, hy⟩ : ∃ y, elems[i]? = some y := ⟨_, List.getElem?_eq_getElem (by omega)⟩
    rw [hy] at h1
    cases hq : w.cells? base (a.add (i * P.cellsOf e)) (P.cellsOf e) with
    | none => rw [hq] at h1; simp at h1
    | some cs => rw [hq] at h1; exact ⟨a, n, cs, y, rfl, by omega, hq, by simpa using h1⟩

theorem wf_in {n : Int} (h : (Lit.int .i64 n).wf = true) : In64 n := by
  unfold Lit.wf at h
  rw [Bool.and_eq_true, decide_eq_true_eq, decide_eq_true_eq] at h
  exact h

theorem strs_open {H : Type} {enc : TypeId × Value → H} {W : World} {base : Nat} {spare : Nat → Bool} {held : Bool} {fuel : Nat} {v : Value} {x : DataW H × List MemPlace} (h : DataW.trod enc Tryz.prog W base spare held fuel 22 [v] = some x) :
    ∃ ls, StrSl (fun k => k < W.heap.size) W v ls := by
  obtain ⟨a, len, cap, rfl, hl, hm, hi⟩ := slice_of Tryz.underlying22 h
  rw [show Tryz.prog.cellsOf 9 = 1 from by kernel_rfl] at hi
  have each : ∀ i, i < len → ∃ s : ByteArray, s.size ≤ maxLen ∧ ∃ b o, a = some ⟨b, o, none⟩ ∧ b < W.heap.size ∧ W.cell? ⟨b, o + i, none⟩ = some (.string s) := by
    intro i hin
    obtain ⟨ad, n, cs, y, rfl, _, hc, ht⟩ := hi i hin
    obtain ⟨ad0, n0, cs0, y0, e0, _, hc0, ht0⟩ := hi 0 (by omega)
    obtain rfl := Option.some.inj e0
    obtain ⟨s, rfl, _, hs⟩ := DataW.trod_string Tryz.underlying9 ht
    obtain ⟨s0, rfl, _, _⟩ := DataW.trod_string Tryz.underlying9 ht0
    obtain ⟨_, _, hat⟩ := World.cells?_some hc
    obtain ⟨_, _, hat0⟩ := World.cells?_some hc0
    have h0 := hat0 0 (by omega)
    have h1 := hat 0 (by omega)
    rw [Nat.zero_mul, add_zero', add_zero'] at h0
    obtain ⟨e1, e2⟩ := addr_of_cell h0
    rw [add_zero', e1, add_block] at h1
    exact ⟨s, hs, ad.block, ad.off, by rw [← e1], e2, by simpa using h1⟩
  obtain ⟨ls, hln, hls⟩ := choose_list _ len each
  refine ⟨ls, ?_, by omega, fun s hs => ?_⟩
  · cases ls with
    | nil => exact .inl ⟨⟨a, cap, by rw [← hln]; rfl⟩, rfl⟩
    | cons s0 r =>
      obtain ⟨_, b, o, rfl, hb, _⟩ := hls 0 s0 rfl
      refine .inr ⟨b, o, cap, by rw [hln], hb, by omega, fun j s hj => ?_⟩
      obtain ⟨_, b', o', e, _, hc⟩ := hls j s hj
      simp only [Option.some.injEq, Addr.mk.injEq, and_true] at e
      obtain ⟨rfl, rfl⟩ := e
      exact hc
  · obtain ⟨i, hi'⟩ := List.mem_iff_getElem?.1 hs
    exact (hls i s hi').1

/-- The cells of a type. -/
def tyCells (t : Ty) (lv kv : Value) : List Value := [.int .i64 t.k, .int .i64 t.p, .string t.n, .int .i64 t.s, lv, kv]
theorem tyCellsOf : Tryz.prog.cellsOf 26 = 6 := by kernel_rfl

set_option maxRecDepth 100000 in
theorem ty_open {H : Type} {enc : TypeId × Value → H} {W : World} {base : Nat} {spare : Nat → Bool} {held : Bool} : ∀ (fuel : Nat) (cs : List Value) (x : DataW H × List MemPlace), DataW.trod enc Tryz.prog W base spare held fuel 26 cs = some x →
    ∃ t lv kv, cs = tyCells t lv kv ∧ t.fine ∧ Lies W (.agg (tyCells t lv kv).toArray) t := by
  intro fuel
  induction fuel using Nat.strongRecOn with
  | _ fuel ih =>
  intro cs x h
  obtain ⟨ys, n', hn', hD, hcl, hyl, hf⟩ := fields_of Tryz.underlying26 (by kernel_rfl) (by kernel_rfl) h
  obtain ⟨v0, y0, e0, z0, t0⟩ := hf 0 _ rfl
  obtain ⟨v1, y1, e1, z1, t1⟩ := hf 1 _ rfl
  obtain ⟨v2, y2, e2, z2, t2⟩ := hf 2 _ rfl
  obtain ⟨v3, y3, e3, z3, t3⟩ := hf 3 _ rfl
  obtain ⟨v4, y4, e4, z4, t4⟩ := hf 4 _ rfl
  obtain ⟨v5, y5, e5, z5, t5⟩ := hf 5 _ rfl
  obtain ⟨k, hk, _, wk⟩ := DataW.trod_int Tryz.underlying3 t0
  obtain ⟨p, hp, _, _⟩ := DataW.trod_int Tryz.underlying3 t1
  obtain ⟨nm, hnm, _, hnz⟩ := DataW.trod_string Tryz.underlying9 t2
  obtain ⟨s, hs, _, _⟩ := DataW.trod_int Tryz.underlying3 t3
  simp only [List.cons.injEq, and_true] at hk hp hnm hs
  subst hk hp hnm hs
  obtain ⟨ls, hls⟩ := strs_open t4
  obtain ⟨a, len, cap, rfl, hl, hm, hi⟩ := slice_of Tryz.underlying24 t5
  rw [tyCellsOf] at hi
  have each : ∀ i, i < len → ∃ t : Ty, t.fine ∧ ∃ b o, a = some ⟨b, o, none⟩ ∧ TyAt (fun k => k < W.heap.size) W t b (o + i * 6) := by
    intro i hin
    obtain ⟨ad, n, cs', y, rfl, hlt, hc, ht⟩ := hi i hin
    obtain ⟨ad0, n0, cs0, y0, e0, _, hc0, ht0⟩ := hi 0 (by omega)
    obtain rfl := Option.some.inj e0
    obtain ⟨t, lv, kv, rfl, hfine, hlies⟩ := ih n (by omega) cs' y ht
    obtain ⟨_, hl6, hat⟩ := World.cells?_some hc
    obtain ⟨_, hl0, hat0⟩ := World.cells?_some hc0
    have h0 := hat0 0 (by omega)
    rw [Nat.zero_mul, add_zero', add_zero', List.getElem?_eq_getElem (by omega)] at h0
    obtain ⟨e1, e2⟩ := addr_of_cell h0
    rw [e1] at hat
    simp only [add_block] at hat
    refine ⟨t, hfine, ad.block, ad.off, by rw [← e1], ?_⟩
    refine tyAt_of e2 ?_ ?_ ?_ ?_ ?_ ?_ hlies
    · have := hat 0 (by omega); simpa [tyCells] using this
    · have := hat 1 (by omega); simpa [tyCells] using this
    · have := hat 2 (by omega); simpa [tyCells] using this
    · have := hat 3 (by omega); simpa [tyCells] using this
    · have := hat 4 (by omega); simpa [tyCells] using this
    · have := hat 5 (by omega); simpa [tyCells] using this
  obtain ⟨ts, htn, hts⟩ := choose_list _ len each
  have hcs : cs = [.int .i64 k, .int .i64 p, .string nm, .int .i64 s, v4, .slice a len cap] := by
    match cs, hcl, e0, e1, e2, e3, e4, e5 with
    | [a0, a1, a2, a3, a4, a5], _, e0, e1, e2, e3, e4, e5 =>
      simp at e0 e1 e2 e3 e4 e5
      rw [e0, e1, e2, e3, e4, e5]
  refine ⟨.mk k p nm s ls ts, v4, .slice a len cap, hcs, ⟨wf_in wk, ?_⟩, _, _, rfl, hnz, hls, ?_, by show ts.length ≤ _; omega⟩
  · have : ∀ l : List Ty, (∀ u ∈ l, u.fine) → Ty.fines l := by
      intro l
      induction l with
      | nil => intro _; trivial
      | cons u r ihr => intro hh; exact ⟨hh u (by simp), ihr (fun v hv => hh v (by simp [hv]))⟩
    refine this ts (fun u hu => ?_)
    obtain ⟨i, hi'⟩ := List.mem_iff_getElem?.1 hu
    exact (hts i u hi').1
  · show _ ∨ _
    cases ts with
    | nil => exact .inl ⟨⟨a, cap, by rw [← htn]; rfl⟩, rfl⟩
    | cons u0 r =>
      obtain ⟨_, b, o, rfl, hat0⟩ := hts 0 u0 rfl
      refine .inr ⟨b, o, cap, by show Value.slice _ _ _ = Value.slice _ (u0 :: r).length _; rw [htn], (TyAt.eq.1 hat0).1, ?_⟩
      refine tysAt_of (fun i t hi' => ?_)
      obtain ⟨_, b', o', e, hat⟩ := hts i t hi'
      simp only [Option.some.injEq, Addr.mk.injEq, and_true] at e
      obtain ⟨rfl, rfl⟩ := e
      exact hat

set_option maxRecDepth 100000 in
/-- A type that came in. -/
theorem type_open {H : Type} {enc : TypeId × Value → H} {W : World} {base : Nat} {spare : Nat → Bool} {held : Bool} {v : Value} {d : DataW H} {p : List MemPlace} {b0 : Nat} (hv : Value.okWide Tryz.prog W .any b0 26 v) (h : DataW.Trod enc Tryz.prog W base spare held 26 v d p) :
    ∃ t, t.fine ∧ Lies W v t := by
  obtain ⟨fuel, hf⟩ := h
  unfold Value.okWide at hv
  rw [Tryz.underlying26] at hv
  obtain ⟨cs, rfl, _, _⟩ := hv
  obtain ⟨t, lv, kv, e, hfine, hl⟩ := ty_open fuel _ _ hf
  have e' : cs.toList = tyCells t lv kv := e
  have : cs = (tyCells t lv kv).toArray := by rw [← e']
  rw [this]
  exact ⟨t, hfine, hl⟩

end Go.Proofs.YtliijbcgkkiekaaGreatDoor
