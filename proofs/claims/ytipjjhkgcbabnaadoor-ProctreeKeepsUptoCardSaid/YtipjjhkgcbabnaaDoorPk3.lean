/- Processes: what the rule of a kind says of a node. (and what follows from it) -/
import Derived.Test.YtipjjhkgcbabnaaDoorPk2
import Derived.Test.YtipjjhkgcbabnaaDoorPrC
import Derived.Test.YtipjjhkgcbabnaaDoorTyG
import Derived.Test.YtipjjhkgcbabnaaDoorPrU
import Derived.Test.YtipjjhkgcbabnaaDoorRows
import Derived.Test.YtipjjhkgcbabnaaDoorPrB
import Derived.LaidLaws
import Derived.LaidMore
import Derived.MakeChecks
import Derived.OpenShut
import Derived.ChangeArms
import Derived.WalkKit
import Derived.ProofKit
import Derived.Deep.DeepHandedRow
import Derived.Deep.Slices
import Derived.Deep.Fields
import Derived.ChangeSame
import Derived.Carry

/- Processes: what the rule of a kind says of a node. -/
namespace Go.Proofs.YtipjjhkgcbabnaaDoor
open Go.RowKit Go.Deep Go.Shelf

theorem chk_nil (w : World) (b o : Nat) (e : Bool) : Chk w .nilFunc b o e e := fun W _ => fieldFits_nil _ e W
theorem chk_fn {w : World} {b o : Nat} {e r : Bool} (f : Nat) (eg : ∀ args w, (callFunc f args).run Tryd.prog w = .ok (.enter f args) w) (h : ∀ W, Below w.heap.size w W → Calls Tryd.prog f #[.pointer (some ⟨b, o, none⟩)] W fun en w' => en = .returned (.bool r) ∧ Below W.heap.size W w') :
    Chk w (.func (.func f) #[] #[]) b o e r := fun W hW => fieldFits_fn f eg _ e r W (h W hW)

noncomputable def Pr.r0 (p : Pr) : Bool :=
  if p.k = 2 then (nameB p.c) else if p.k = 3 then (nameB p.c) else if p.k = 4 then (nameB p.c) else if p.k = 5 then (nameB p.c) else if p.k = 6 then (nameB p.c) else if p.k = 8 then (nameB p.c) else p.c.toList.isEmpty
noncomputable def Pr.r1 (p : Pr) : Bool :=
  if p.k = 3 then (nameB p.x) else if p.k = 6 then (nameB p.x && !decide (p.x = p.c)) else p.x.toList.isEmpty
noncomputable def Pr.r2 (p : Pr) : Bool :=
  if p.k = 4 then (decide (p.ls.length = 1) && labelsB p.ls) else if p.k = 5 then (labelsB p.ls && decide (0 < p.ls.length)) else decide (p.ls.length = 0)
noncomputable def Pr.r3 (p : Pr) : Bool :=
  if p.k = 2 then (decide (p.vs.length = 1) && vlsB p.vs) else if p.k = 8 then (vlsB p.vs) else decide (p.vs.length = 0)
noncomputable def Pr.r4 (p : Pr) : Bool :=
  if p.k = 6 then ((p.t.k != 1 && p.t.k != 2) && rightE p.t == 0) else eqB p.t default
noncomputable def Pr.r5 (p : Pr) : Bool :=
  if p.k = 2 then (decide (p.ps.length = 1)) else if p.k = 3 then (decide (p.ps.length = 1)) else if p.k = 4 then (decide (p.ps.length = 1)) else if p.k = 5 then (decide (p.ps.length = p.ls.length)) else if p.k = 6 then (decide (p.ps.length = 1)) else if p.k = 7 then (partsB p.ps) else decide (p.ps.length = 0)
/-- Is a node shaped as its kind asks? -/
noncomputable def Pr.shp (p : Pr) : Bool := p.r0 && (p.r1 && (p.r2 && (p.r3 && (p.r4 && p.r5))))

set_option maxHeartbeats 1000000 in
theorem pfits_shp (S : Nat → Prop) (p : Pr) (b o E : Nat) (w : World) (hS : Low S w) (he : Env E w) (hf : p.t.fine) (hdep : p.t.depth ≤ 1000) (hp : PrAt S w p b o) (hk : pknK p.k = true) :
    Calls Tryd.prog 89 #[pruleVal p.k, .pointer (some ⟨b, o, none⟩)] w fun e w' => e = .returned (.bool p.shp) ∧ Below w.heap.size w w' := by
  have K : ∀ W, Below w.heap.size w W → PrAt S W p b o := fun W hW => PrAt.keep (hW.keeps'.mono hS) _ _ _ hp
  have C_chanIsName : ∀ e, Chk w (.func (.func 112) #[] #[]) b o e (nameB p.c) := fun e => chk_fn _ (enters_of Tryd.func112 (by kernel_rfl) rfl) (fun W hW => chanIsName_any S p b o E W (he.below (hW.mono he.size)) (K W hW))
  have C_differentLabels : ∀ e, Chk w (.func (.func 117) #[] #[]) b o e (labelsB p.ls && decide (0 < p.ls.length)) := fun e => chk_fn _ (enters_of Tryd.func117 (by kernel_rfl) rfl) (fun W hW => differentLabels_any S p b o E W (hS.le hW.size) (he.below (hW.mono he.size)) (K W hW))
  have C_kidForEachLabel : ∀ e, Chk w (.func (.func 118) #[] #[]) b o e (decide (p.ps.length = p.ls.length)) := fun e => chk_fn _ (enters_of Tryd.func118 (by kernel_rfl) rfl) (fun W hW => kidForEachLabel_any S p b o W (K W hW))
  have C_oneKid : ∀ e, Chk w (.func (.func 114) #[] #[]) b o e (decide (p.ps.length = 1)) := fun e => chk_fn _ (enters_of Tryd.func114 (by kernel_rfl) rfl) (fun W hW => oneKid_any S p b o W (K W hW))
  have C_oneLabel : ∀ e, Chk w (.func (.func 116) #[] #[]) b o e (decide (p.ls.length = 1) && labelsB p.ls) := fun e => chk_fn _ (enters_of Tryd.func116 (by kernel_rfl) rfl) (fun W hW => oneLabel_any S p b o E W (he.below (hW.mono he.size)) (K W hW))
  have C_oneValue : ∀ e, Chk w (.func (.func 113) #[] #[]) b o e (decide (p.vs.length = 1) && vlsB p.vs) := fun e => chk_fn _ (enters_of Tryd.func113 (by kernel_rfl) rfl) (fun W hW => oneValue_any S p b o E W (hS.le hW.size) (he.below (hW.mono he.size)) (K W hW))
  have C_parts : ∀ e, Chk w (.func (.func 121) #[] #[]) b o e (partsB p.ps) := fun e => chk_fn _ (enters_of Tryd.func121 (by kernel_rfl) rfl) (fun W hW => (parts_any S p b o W (K W hW)).mono (fun _ _ ⟨h1, h2⟩ => ⟨h1, by subst h2; exact Below.refl _ _⟩))
  have C_rightSession : ∀ e, Chk w (.func (.func 120) #[] #[]) b o e ((p.t.k != 1 && p.t.k != 2) && rightE p.t == 0) := fun e => chk_fn _ (enters_of Tryd.func120 (by kernel_rfl) rfl) (fun W hW => rightSession_any S p b o E W (hS.le hW.size) (he.below (hW.mono he.size)) hf hdep (K W hW))
  have C_values : ∀ e, Chk w (.func (.func 122) #[] #[]) b o e (vlsB p.vs) := fun e => chk_fn _ (enters_of Tryd.func122 (by kernel_rfl) rfl) (fun W hW => values_any S p b o E W (hS.le hW.size) (he.below (hW.mono he.size)) (K W hW))
  have C_varIsName : ∀ e, Chk w (.func (.func 115) #[] #[]) b o e (nameB p.x) := fun e => chk_fn _ (enters_of Tryd.func115 (by kernel_rfl) rfl) (fun W hW => varIsName_any S p b o E W (he.below (hW.mono he.size)) (K W hW))
  have C_varIsOtherName : ∀ e, Chk w (.func (.func 119) #[] #[]) b o e (nameB p.x && !decide (p.x = p.c)) := fun e => chk_fn _ (enters_of Tryd.func119 (by kernel_rfl) rfl) (fun W hW => varIsOtherName_any S p b o E W (hS.le hW.size) (he.below (hW.mono he.size)) (K W hW))
  have hk' : 1 ≤ p.k ∧ p.k ≤ 8 := by simpa [pknK] using hk
  have hcase : p.k = 1 ∨ p.k = 2 ∨ p.k = 3 ∨ p.k = 4 ∨ p.k = 5 ∨ p.k = 6 ∨ p.k = 7 ∨ p.k = 8 := by omega
  unfold Pr.shp Pr.r0 Pr.r1 Pr.r2 Pr.r3 Pr.r4 Pr.r5
  rcases hcase with e | e | e | e | e | e | e | e
  · rw [e, show pruleVal 1 = .agg #[.nilFunc, .nilFunc, .nilFunc, .nilFunc, .nilFunc, .nilFunc] from by simp [pruleVal]]
    simp only [if_false, Int.reduceEq]
    exact pfits_any S p b o _ _ _ _ _ _ _ _ _ _ _ _ w hS hp (chk_nil _ _ _ _) (chk_nil _ _ _ _) (chk_nil _ _ _ _) (chk_nil _ _ _ _) (chk_nil _ _ _ _) (chk_nil _ _ _ _)
  · rw [e, show pruleVal 2 = .agg #[.func (.func 112) #[] #[], .nilFunc, .nilFunc, .func (.func 113) #[] #[], .nilFunc, .func (.func 114) #[] #[]] from by simp [pruleVal]]
    simp only [if_true, if_false, Int.reduceEq]
    exact pfits_any S p b o _ _ _ _ _ _ _ _ _ _ _ _ w hS hp (C_chanIsName _) (chk_nil _ _ _ _) (chk_nil _ _ _ _) (C_oneValue _) (chk_nil _ _ _ _) (C_oneKid _)
  · rw [e, show pruleVal 3 = .agg #[.func (.func 112) #[] #[], .func (.func 115) #[] #[], .nilFunc, .nilFunc, .nilFunc, .func (.func 114) #[] #[]] from by simp [pruleVal]]
    simp only [if_true, if_false, Int.reduceEq]
    exact pfits_any S p b o _ _ _ _ _ _ _ _ _ _ _ _ w hS hp (C_chanIsName _) (C_varIsName _) (chk_nil _ _ _ _) (chk_nil _ _ _ _) (chk_nil _ _ _ _) (C_oneKid _)
  · rw [e, show pruleVal 4 = .agg #[.func (.func 112) #[] #[], .nilFunc, .func (.func 116) #[] #[], .nilFunc, .nilFunc, .func (.func 114) #[] #[]] from by simp [pruleVal]]
    simp only [if_true, if_false, Int.reduceEq]
    exact pfits_any S p b o _ _ _ _ _ _ _ _ _ _ _ _ w hS hp (C_chanIsName _) (chk_nil _ _ _ _) (C_oneLabel _) (chk_nil _ _ _ _) (chk_nil _ _ _ _) (C_oneKid _)
  · rw [e, show pruleVal 5 = .agg #[.func (.func 112) #[] #[], .nilFunc, .func (.func 117) #[] #[], .nilFunc, .nilFunc, .func (.func 118) #[] #[]] from by simp [pruleVal]]
    simp only [if_true, if_false, Int.reduceEq]
    exact pfits_any S p b o _ _ _ _ _ _ _ _ _ _ _ _ w hS hp (C_chanIsName _) (chk_nil _ _ _ _) (C_differentLabels _) (chk_nil _ _ _ _) (chk_nil _ _ _ _) (C_kidForEachLabel _)
  · rw [e, show pruleVal 6 = .agg #[.func (.func 112) #[] #[], .func (.func 119) #[] #[], .nilFunc, .nilFunc, .func (.func 120) #[] #[], .func (.func 114) #[] #[]] from by simp [pruleVal]]
    simp only [if_true, if_false, Int.reduceEq]
    exact pfits_any S p b o _ _ _ _ _ _ _ _ _ _ _ _ w hS hp (C_chanIsName _) (C_varIsOtherName _) (chk_nil _ _ _ _) (chk_nil _ _ _ _) (C_rightSession _) (C_oneKid _)
  · rw [e, show pruleVal 7 = .agg #[.nilFunc, .nilFunc, .nilFunc, .nilFunc, .nilFunc, .func (.func 121) #[] #[]] from by simp [pruleVal]]
    simp only [if_true, if_false, Int.reduceEq]
    exact pfits_any S p b o _ _ _ _ _ _ _ _ _ _ _ _ w hS hp (chk_nil _ _ _ _) (chk_nil _ _ _ _) (chk_nil _ _ _ _) (chk_nil _ _ _ _) (chk_nil _ _ _ _) (C_parts _)
  · rw [e, show pruleVal 8 = .agg #[.func (.func 112) #[] #[], .nilFunc, .nilFunc, .func (.func 122) #[] #[], .nilFunc, .nilFunc] from by simp [pruleVal]]
    simp only [if_true, if_false, Int.reduceEq]
    exact pfits_any S p b o _ _ _ _ _ _ _ _ _ _ _ _ w hS hp (C_chanIsName _) (chk_nil _ _ _ _) (chk_nil _ _ _ _) (C_values _) (chk_nil _ _ _ _) (chk_nil _ _ _ _)

end Go.Proofs.YtipjjhkgcbabnaaDoor

/- Processes: sameness, by the program. -/
namespace Go.Proofs.YtipjjhkgcbabnaaDoor
open Go.RowKit Go.Deep Go.Shelf

noncomputable def eqP (p q : Pr) : Bool := @decide (p = q) (Classical.propDecidable _)
theorem eqP_true {p q : Pr} : eqP p q = true ↔ p = q := by unfold eqP; simp
theorem eqP_self (p : Pr) : eqP p p = true := eqP_true.2 rfl
theorem eqP_ne {p q : Pr} (h : p ≠ q) : eqP p q = false := by
  cases e : eqP p q with
  | false => rfl
  | true => exact absurd (eqP_true.1 e) h
noncomputable def eqQ (p q : List Pr) : Bool := @decide (p = q) (Classical.propDecidable _)
theorem eqQ_true {p q : List Pr} : eqQ p q = true ↔ p = q := by unfold eqQ; simp
theorem eqQ_ne {p q : List Pr} (h : p ≠ q) : eqQ p q = false := by
  cases e : eqQ p q with
  | false => rfl
  | true => exact absurd (eqQ_true.1 e) h
/-- What is asked of a function that compares two processes in memory. -/
def SameP (f : Nat) (B : Nat → Prop) (p : Pr) : Prop := ∀ (q : Pr) (b o b' o' : Nat) (w : World), Low B w → PrAt B w p b o → PrAt B w q b' o' → Calls Tryd.prog f #[.pointer (some ⟨b, o, none⟩), .pointer (some ⟨b', o', none⟩)] w fun e w' => e = .returned (.bool (eqP p q)) ∧ Below w.heap.size w w'

set_option maxHeartbeats 2000000 in
set_option maxRecDepth 100000 in
/-- sameLists, at lists of processes. -/
theorem psames_any (B : Nat → Prop) (kv kv' : Value) (ps ps' : List Pr) (ih : ∀ p ∈ ps, SameP 63 B p) (w : World) (hB : Low B w) (hk : PrSl B w kv ps) (hk' : PrSl B w kv' ps') :
    Calls Tryd.prog 98 #[kv, kv', .func (.func 63) #[] #[]] w fun e w' => e = .returned (.bool (eqQ ps ps')) ∧ Below w.heap.size w w' := by
  obtain ⟨pa, len, c, rfl, hlen, hm, hget⟩ := hk.open
  obtain ⟨pa', len', c', rfl, hlen', hm', hget'⟩ := hk'.open
  have HG := Lib.hid hget
  have HG' := Lib.hid hget'
  clear hget hget' hk hk'
  by_cases hl : len = len'
  · subst hl
    go_enter Tryd.func98, Tryd.ntmps98
    go_wp2_with fail
    go_loopw [15] (fun i wr => ∃ (j : Nat), i = .int .i64 j ∧ j ≤ len ∧ Hid (ps.take j = ps'.take j) ∧ Below w.heap.size w wr) (fun i _ => len - (intOf i).toNat)
    case atStart => exact ⟨0, rfl, by omega, Lib.hid (by simp), Below.refl _ _⟩
    case round =>
      obtain ⟨j, rfl, hj, HT, hw⟩ := hrel
      by_cases hlt : j < len
      · obtain ⟨t, ht⟩ : ∃ t, ps[j]? = some t := ⟨_, List.getElem?_eq_getElem (by rw [← hlen.out]; exact hlt)⟩
        obtain ⟨t', ht'⟩ : ∃ t', ps'[j]? = some t' := ⟨_, List.getElem?_eq_getElem (by rw [← hlen'.out]; exact hlt)⟩
        obtain ⟨kb, ko, rfl, hkb, hty⟩ := HG.out j t ht
        obtain ⟨kb', ko', rfl, hkb', hty'⟩ := HG'.out j t' ht'
        have IH : Hid (∀ W, Below w.heap.size w W → Calls Tryd.prog 63 #[.pointer (some ⟨kb, ko + j * 12, none⟩), .pointer (some ⟨kb', ko' + j * 12, none⟩)] W fun e w' => e = .returned (.bool (eqP t t')) ∧ Below W.heap.size W w') :=
          Lib.hid (fun W hW => ih t (List.mem_of_getElem? ht) t' _ _ _ _ W (hB.le hW.size) (hty.keep (hW.keeps'.mono hB)) (hty'.keep (hW.keeps'.mono hB)))
        by_cases htt : t = t'
        · rw [eqP_true.2 htt] at IH
          have hn : Hid (ps.take (j + 1) = ps'.take (j + 1)) := Lib.hid (by rw [take_snoc_get ht, take_snoc_get ht', HT.out, htt])
          clear ht ht' htt hty hty'
          go_wp2_with fail
          refine wp_region_later wr.heap.size wr (by kernel_rfl) (by kernel_rfl) (Below.refl _ _) ?_
          repeat (go_big_quiet_step ((go_at_call 63; exact later_call _ (Nat.le_refl _) (IH.out _ (hw.trans (Below.mono (Subtype.property _) hw.size))))))
          refine wpQuiet_nil ?_
          rintro _ ⟨⟨w5, hb5⟩, rfl⟩
          go_wp2_with fail
          go_roundw
          case rel => exact ⟨j + 1, by go_num, by omega, hn, below_seq hw hb5⟩
          case measure => simp [intOf]; omega
        · rw [eqP_ne htt] at IH
          have hne : Hid (ps ≠ ps') := Lib.hid (fun e => htt (by rw [e, ht'] at ht; exact (Option.some.inj ht).symm))
          clear ht ht' htt hty hty'
          go_wp2_with fail
          refine wp_region_later wr.heap.size wr (by kernel_rfl) (by kernel_rfl) (Below.refl _ _) ?_
          repeat (go_big_quiet_step ((go_at_call 63; exact later_call _ (Nat.le_refl _) (IH.out _ (hw.trans (Below.mono (Subtype.property _) hw.size))))))
          refine wpQuiet_nil ?_
          rintro _ ⟨⟨w5, hb5⟩, rfl⟩
          go_wp2_with fail
          go_ret
          exact ⟨ret_bool (eqQ_ne hne.out).symm, below_seq hw hb5⟩
      · obtain rfl : j = len := by omega
        go_wp2_with fail
        go_ret
        refine ⟨ret_bool ?_, hw⟩
        rw [eqQ_true.2 (lists_eq hlen.out hlen'.out HT.out)]
  · have hl' : (len != len') = true := by simpa using hl
    have hne : ps ≠ ps' := fun e => hl (by rw [hlen.out, hlen'.out, e])
    have HN := Lib.hid hne
    clear hne
    go_enter Tryd.func98, Tryd.ntmps98
    go_wp2_with fail
    go_ret
    exact ⟨ret_bool (eqQ_ne HN.out).symm, Below.refl _ _⟩

set_option maxHeartbeats 4000000 in
set_option maxRecDepth 100000 in
theorem psame_step (B : Nat → Prop) (p q : Pr) (ih : ∀ u ∈ p.ps, SameP 63 B u) (b o b' o' : Nat) (w : World) (hB : Low B w) (hp : PrAt B w p b o) (hq : PrAt B w q b' o') :
    Calls Tryd.prog 63 #[.pointer (some ⟨b, o, none⟩), .pointer (some ⟨b', o', none⟩)] w fun e w' => e = .returned (.bool (eqP p q)) ∧ Below w.heap.size w w' := by
  obtain ⟨la, ln, lc, aa, an, ac, ta, tn, tc, ua, un, uc, ka, kn, kc, ⟨c0, c1, c2, c3, c4, c5, c6, c7, c8, c9, c10, c11⟩, hval⟩ := hp.load'
  obtain ⟨la', ln', lc', aa', an', ac', ta', tn', tc', ua', un', uc', ka', kn', kc', ⟨c0', c1', c2', c3', c4', c5', c6', c7', c8', c9', c10', c11'⟩, hval'⟩ := hq.load'
  have hb := hB b (PrAt.eq.1 hp).1
  have hb' := hB b' (PrAt.eq.1 hq).1
  have lift : ∀ {v : Value} {x : Nat}, w.cell? ⟨b, x, none⟩ = some v → ∀ W, Below w.heap.size w W → W.cell? ⟨b, x, none⟩ = some v := fun h W hW => (hW.cell (p := ⟨b, _, none⟩) hb).trans h
  have lift' : ∀ {v : Value} {x : Nat}, w.cell? ⟨b', x, none⟩ = some v → ∀ W, Below w.heap.size w W → W.cell? ⟨b', x, none⟩ = some v := fun h W hW => (hW.cell (p := ⟨b', _, none⟩) hb').trans h
  obtain ⟨lv0, av0, tl0, tk0, kv0, e0, _, hl, ha, ht, hk⟩ := hval
  simp only [prAgg, Value.agg.injEq, Array.mk.injEq, List.cons.injEq, and_true, true_and] at e0
  obtain ⟨rfl, rfl, rfl, rfl, rfl⟩ := e0
  obtain ⟨lv0, av0, tl0, tk0, kv0, e0, _, hl', ha', ht', hk'⟩ := hval'
  simp only [prAgg, Value.agg.injEq, Array.mk.injEq, List.cons.injEq, and_true, true_and] at e0
  obtain ⟨rfl, rfl, rfl, rfl, rfl⟩ := e0
  obtain ⟨b1, hb1⟩ : ∃ x, decide (p.ls = q.ls) = x := ⟨_, rfl⟩
  obtain ⟨b2, hb2⟩ : ∃ x, eqV p.vs q.vs = x := ⟨_, rfl⟩
  obtain ⟨b3, hb3⟩ : ∃ x, eqB p.t q.t = x := ⟨_, rfl⟩
  obtain ⟨b4, hb4⟩ : ∃ x, eqQ p.ps q.ps = x := ⟨_, rfl⟩
  have HT : Hid (∀ W, Below w.heap.size w W → Calls Tryd.prog 54 #[.slice la ln lc, .slice la' ln' lc'] W fun e w' => e = .returned (.bool b1) ∧ Below W.heap.size W w') := Lib.hid (fun W hW => (tequal_any B _ _ _ _ W (hl.keep (hW.keeps'.mono hB)) (hl'.keep (hW.keeps'.mono hB))).mono fun e w' ⟨h1, h2⟩ => ⟨by rw [h1, hb1], h2.below _⟩)
  have HV : Hid (∀ W, Below w.heap.size w W → Calls Tryd.prog 97 #[.slice aa an ac, .slice aa' an' ac'] W fun e w' => e = .returned (.bool b2) ∧ Below W.heap.size W w') := Lib.hid (fun W hW => (vequal_any B _ _ _ _ W (ha.keep (hW.keeps'.mono hB)) (ha'.keep (hW.keeps'.mono hB))).mono fun e w' ⟨h1, h2⟩ => ⟨by rw [h1, hb2], h2.below _⟩)
  have HY : Hid (∀ W, Below w.heap.size w W → Calls Tryd.prog 18 #[.agg #[.int .i64 p.t.k, .int .i64 p.t.p, .string p.t.n, .int .i64 p.t.s, .slice ta tn tc, .slice ua un uc], .agg #[.int .i64 q.t.k, .int .i64 q.t.p, .string q.t.n, .int .i64 q.t.s, .slice ta' tn' tc', .slice ua' un' uc']] W fun e w' => e = .returned (.bool b3) ∧ Below W.heap.size W w') := Lib.hid (fun W hW => by
    rw [← hb3]; exact tsame_any B p.t q.t _ _ W (hB.le hW.size) (ht.keep (hW.keeps'.mono hB)) (ht'.keep (hW.keeps'.mono hB)))
  have HK : Hid (∀ W, Below w.heap.size w W → Calls Tryd.prog 98 #[.slice ka kn kc, .slice ka' kn' kc', .func (.func 63) #[] #[]] W fun e w' => e = .returned (.bool b4) ∧ Below W.heap.size W w') := Lib.hid (fun W hW => by
    rw [← hb4]; exact psames_any B _ _ p.ps q.ps ih W (hB.le hW.size) (hk.keep (hW.keeps'.mono hB)) (hk'.keep (hW.keeps'.mono hB)))
  have HEQ : Hid (eqP p q = (decide (p.k = q.k) && (decide (p.c = q.c) && (decide (p.x = q.x) && (b1 && (b2 && (b3 && b4))))))) := Lib.hid (by
    rw [← hb1, ← hb2, ← hb3, ← hb4, Bool.eq_iff_iff]
    simp only [eqP_true, Bool.and_eq_true, decide_eq_true_eq, eqV_true, eqB_true, eqQ_true]
    cases p; cases q
    simp only [Pr.mk.injEq, Pr.k, Pr.c, Pr.x, Pr.ls, Pr.vs, Pr.t, Pr.ps])
  rw [HEQ.out]
  obtain ⟨k, hkk⟩ : ∃ k, p.k = k := ⟨_, rfl⟩
  obtain ⟨k', hkk'⟩ : ∃ k, q.k = k := ⟨_, rfl⟩
  obtain ⟨c, hcc⟩ : ∃ k, p.c = k := ⟨_, rfl⟩
  obtain ⟨c', hcc'⟩ : ∃ k, q.c = k := ⟨_, rfl⟩
  obtain ⟨x, hxx⟩ : ∃ k, p.x = k := ⟨_, rfl⟩
  obtain ⟨x', hxx'⟩ : ∃ k, q.x = k := ⟨_, rfl⟩
  rw [hkk] at c0
  rw [hkk'] at c0'
  rw [hcc] at c1
  rw [hcc'] at c1'
  rw [hxx] at c2
  rw [hxx'] at c2'
  rw [hkk, hkk', hcc, hcc', hxx, hxx']
  have d0 := fun q : Later w.heap.size w => lift c0 q.1 q.2
  have d0' := fun q : Later w.heap.size w => lift' c0' q.1 q.2
  have d1 := fun q : Later w.heap.size w => lift c1 q.1 q.2
  have d1' := fun q : Later w.heap.size w => lift' c1' q.1 q.2
  have d2 := fun q : Later w.heap.size w => lift c2 q.1 q.2
  have d2' := fun q : Later w.heap.size w => lift' c2' q.1 q.2
  have d3 := fun q : Later w.heap.size w => lift c3 q.1 q.2
  have d3' := fun q : Later w.heap.size w => lift' c3' q.1 q.2
  have d4 := fun q : Later w.heap.size w => lift c4 q.1 q.2
  have d4' := fun q : Later w.heap.size w => lift' c4' q.1 q.2
  have d5 := fun q : Later w.heap.size w => lift c5 q.1 q.2
  have d5' := fun q : Later w.heap.size w => lift' c5' q.1 q.2
  have d6 := fun q : Later w.heap.size w => lift c6 q.1 q.2
  have d6' := fun q : Later w.heap.size w => lift' c6' q.1 q.2
  have d7 := fun q : Later w.heap.size w => lift c7 q.1 q.2
  have d7' := fun q : Later w.heap.size w => lift' c7' q.1 q.2
  have d8 := fun q : Later w.heap.size w => lift c8 q.1 q.2
  have d8' := fun q : Later w.heap.size w => lift' c8' q.1 q.2
  have d9 := fun q : Later w.heap.size w => lift c9 q.1 q.2
  have d9' := fun q : Later w.heap.size w => lift' c9' q.1 q.2
  have d10 := fun q : Later w.heap.size w => lift c10 q.1 q.2
  have d10' := fun q : Later w.heap.size w => lift' c10' q.1 q.2
  have d11 := fun q : Later w.heap.size w => lift c11 q.1 q.2
  have d11' := fun q : Later w.heap.size w => lift' c11' q.1 q.2
  clear hkk hkk' hcc hcc' hxx hxx' HEQ hb1 hb2 hb3 hb4 hl ha ht hk hl' ha' ht' hk' hp hq lift lift' ih c0 c0' c1 c1' c2 c2' c3 c3' c4 c4' c5 c5' c6 c6' c7 c7' c8 c8' c9 c9' c10 c10' c11 c11'
  by_cases h1 : k = k'
  · subst h1
    rw [show decide (k = k) = true by simp, Bool.true_and]
    by_cases h2 : c = c'
    · subst h2
      rw [show decide (c = c) = true by simp, Bool.true_and]
      by_cases h3 : x = x'
      · subst h3
        rw [show decide (x = x) = true by simp, Bool.true_and]
        cases b1
        · rw [Bool.false_and]
          go_enter Tryd.func63, Tryd.ntmps63
          go_wp2_with fail
          refine wp_region_later w.heap.size w (by kernel_rfl) (by kernel_rfl) (Below.refl _ _) ?_
          dsimp only [List.append]
          repeat (go_big_quiet_step (first | (go_at_call 54; exact later_call _ (Nat.le_refl _) (HT.out _ (Subtype.property _))) | (go_at_call 97; exact later_call _ (Nat.le_refl _) (HV.out _ (Subtype.property _))) | (go_at_call 18; exact later_call _ (Nat.le_refl _) (HY.out _ (Subtype.property _))) | (go_at_call 98; exact later_call _ (Nat.le_refl _) (HK.out _ (Subtype.property _)))))
          refine wpQuiet_nil ?_
          rintro _ ⟨⟨w5, hb5⟩, rfl⟩
          clear d0 d0' d1 d1' d2 d2' d3 d3' d4 d4' d5 d5' d6 d6' d7 d7' d8 d8' d9 d9' d10 d10' d11 d11'
          go_wp2_with fail
          go_ret
          exact ⟨rfl, hb5⟩
        · rw [Bool.true_and]
          cases b2
          · rw [Bool.false_and]
            go_enter Tryd.func63, Tryd.ntmps63
            go_wp2_with fail
            refine wp_region_later w.heap.size w (by kernel_rfl) (by kernel_rfl) (Below.refl _ _) ?_
            dsimp only [List.append]
            repeat (go_big_quiet_step (first | (go_at_call 54; exact later_call _ (Nat.le_refl _) (HT.out _ (Subtype.property _))) | (go_at_call 97; exact later_call _ (Nat.le_refl _) (HV.out _ (Subtype.property _))) | (go_at_call 18; exact later_call _ (Nat.le_refl _) (HY.out _ (Subtype.property _))) | (go_at_call 98; exact later_call _ (Nat.le_refl _) (HK.out _ (Subtype.property _)))))
            refine wpQuiet_nil ?_
            rintro _ ⟨⟨w5, hb5⟩, rfl⟩
            clear d0 d0' d1 d1' d2 d2' d3 d3' d4 d4' d5 d5' d6 d6' d7 d7' d8 d8' d9 d9' d10 d10' d11 d11'
            go_wp2_with fail
            go_ret
            exact ⟨rfl, hb5⟩
          · rw [Bool.true_and]
            cases b3
            · rw [Bool.false_and]
              go_enter Tryd.func63, Tryd.ntmps63
              go_wp2_with fail
              refine wp_region_later w.heap.size w (by kernel_rfl) (by kernel_rfl) (Below.refl _ _) ?_
              dsimp only [List.append]
              repeat (go_big_quiet_step (first | (go_at_call 54; exact later_call _ (Nat.le_refl _) (HT.out _ (Subtype.property _))) | (go_at_call 97; exact later_call _ (Nat.le_refl _) (HV.out _ (Subtype.property _))) | (go_at_call 18; exact later_call _ (Nat.le_refl _) (HY.out _ (Subtype.property _))) | (go_at_call 98; exact later_call _ (Nat.le_refl _) (HK.out _ (Subtype.property _)))))
              refine wpQuiet_nil ?_
              rintro _ ⟨⟨w5, hb5⟩, rfl⟩
              clear d0 d0' d1 d1' d2 d2' d3 d3' d4 d4' d5 d5' d6 d6' d7 d7' d8 d8' d9 d9' d10 d10' d11 d11'
              go_wp2_with fail
              go_ret
              exact ⟨rfl, hb5⟩
            · rw [Bool.true_and]
              cases b4
              all_goals
                go_enter Tryd.func63, Tryd.ntmps63
                go_wp2_with fail
                refine wp_region_later w.heap.size w (by kernel_rfl) (by kernel_rfl) (Below.refl _ _) ?_
                dsimp only [List.append]
                repeat (go_big_quiet_step (first | (go_at_call 54; exact later_call _ (Nat.le_refl _) (HT.out _ (Subtype.property _))) | (go_at_call 97; exact later_call _ (Nat.le_refl _) (HV.out _ (Subtype.property _))) | (go_at_call 18; exact later_call _ (Nat.le_refl _) (HY.out _ (Subtype.property _))) | (go_at_call 98; exact later_call _ (Nat.le_refl _) (HK.out _ (Subtype.property _)))))
                refine wpQuiet_nil ?_
                rintro _ ⟨⟨w5, hb5⟩, rfl⟩
                clear d0 d0' d1 d1' d2 d2' d3 d3' d4 d4' d5 d5' d6 d6' d7 d7' d8 d8' d9 d9' d10 d10' d11 d11'
                go_wp2_with fail
                go_ret
                exact ⟨rfl, hb5⟩
      · have h4 := str_ne h3
        have h5 : (x.toList == x'.toList) = false := by simpa using h4
        rw [show decide (x = x') = false by simpa using h3, Bool.false_and]
        clear h3
        go_enter Tryd.func63, Tryd.ntmps63
        go_wp2_with fail
        refine wp_region_later w.heap.size w (by kernel_rfl) (by kernel_rfl) (Below.refl _ _) ?_
        dsimp only [List.append]
        repeat (go_big_quiet_step (first | (go_at_call 54; exact later_call _ (Nat.le_refl _) (HT.out _ (Subtype.property _))) | (go_at_call 97; exact later_call _ (Nat.le_refl _) (HV.out _ (Subtype.property _))) | (go_at_call 18; exact later_call _ (Nat.le_refl _) (HY.out _ (Subtype.property _))) | (go_at_call 98; exact later_call _ (Nat.le_refl _) (HK.out _ (Subtype.property _)))))
        refine wpQuiet_nil ?_
        rintro _ ⟨⟨w5, hb5⟩, rfl⟩
        clear d0 d0' d1 d1' d2 d2' d3 d3' d4 d4' d5 d5' d6 d6' d7 d7' d8 d8' d9 d9' d10 d10' d11 d11'
        go_wp2_with fail
        go_ret
        exact ⟨rfl, hb5⟩
    · have h4 := str_ne h2
      have h5 : (c.toList == c'.toList) = false := by simpa using h4
      rw [show decide (c = c') = false by simpa using h2, Bool.false_and]
      clear h2
      go_enter Tryd.func63, Tryd.ntmps63
      go_wp2_with fail
      refine wp_region_later w.heap.size w (by kernel_rfl) (by kernel_rfl) (Below.refl _ _) ?_
      dsimp only [List.append]
      repeat (go_big_quiet_step (first | (go_at_call 54; exact later_call _ (Nat.le_refl _) (HT.out _ (Subtype.property _))) | (go_at_call 97; exact later_call _ (Nat.le_refl _) (HV.out _ (Subtype.property _))) | (go_at_call 18; exact later_call _ (Nat.le_refl _) (HY.out _ (Subtype.property _))) | (go_at_call 98; exact later_call _ (Nat.le_refl _) (HK.out _ (Subtype.property _)))))
      refine wpQuiet_nil ?_
      rintro _ ⟨⟨w5, hb5⟩, rfl⟩
      clear d0 d0' d1 d1' d2 d2' d3 d3' d4 d4' d5 d5' d6 d6' d7 d7' d8 d8' d9 d9' d10 d10' d11 d11'
      go_wp2_with fail
      go_ret
      exact ⟨rfl, hb5⟩
  · have h4 : (k == k') = false := by simpa using h1
    rw [show decide (k = k') = false by simpa using h1, Bool.false_and]
    clear h1
    go_enter Tryd.func63, Tryd.ntmps63
    go_wp2_with fail
    refine wp_region_later w.heap.size w (by kernel_rfl) (by kernel_rfl) (Below.refl _ _) ?_
    dsimp only [List.append]
    repeat (go_big_quiet_step (first | (go_at_call 54; exact later_call _ (Nat.le_refl _) (HT.out _ (Subtype.property _))) | (go_at_call 97; exact later_call _ (Nat.le_refl _) (HV.out _ (Subtype.property _))) | (go_at_call 18; exact later_call _ (Nat.le_refl _) (HY.out _ (Subtype.property _))) | (go_at_call 98; exact later_call _ (Nat.le_refl _) (HK.out _ (Subtype.property _)))))
    refine wpQuiet_nil ?_
    rintro _ ⟨⟨w5, hb5⟩, rfl⟩
    clear d0 d0' d1 d1' d2 d2' d3 d3' d4 d4' d5 d5' d6 d6' d7 d7' d8 d8' d9 d9' d10 d10' d11 d11'
    go_wp2_with fail
    go_ret
    exact ⟨rfl, hb5⟩

theorem psameP_any (B : Nat → Prop) : ∀ (p : Pr), SameP 63 B p := by
  refine Pr.ind ?_
  intro k c x ls vs t ps ih q b o b' o' w hB hp hq
  exact psame_step B (.mk k c x ls vs t ps) q ih b o b' o' w hB hp hq

end Go.Proofs.YtipjjhkgcbabnaaDoor

/- Processes: Prefix and Same. -/
namespace Go.Proofs.YtipjjhkgcbabnaaDoor
open Go.RowKit Go.Deep Go.Shelf

theorem pprefix_any (B : Nat → Prop) (p : Pr) (v : Value) (w : World) (hv : PrVal B w v p) :
    Calls Tryd.prog 35 #[v] w fun e w' => e = .returned (.bool (prefixB p.k)) ∧ Below w.heap.size w w' := by
  obtain ⟨lv, av, tl, tk, kv, rfl, _⟩ := hv
  have HP := Lib.hid (prefix_any p.k (w.alloc (cell12 p lv av tl tk kv)))
  obtain ⟨pb, hpb⟩ : ∃ b, prefixB p.k = b := ⟨_, rfl⟩
  rw [hpb] at HP ⊢
  clear hpb
  unfold prAgg
  go_enter Tryd.func35, Tryd.ntmps35
  go_wp2_with (go_at_call 66; refine HP.out.mono ?_; rintro e w2 ⟨rfl, rfl⟩)
  go_ret
  exact ⟨rfl, blkBelow w _ _⟩

theorem psame_any (B : Nat → Prop) (p q : Pr) (v v' : Value) (w : World) (hB : Low B w) (hv : PrVal B w v p) (hv' : PrVal B w v' q) :
    Calls Tryd.prog 31 #[v, v'] w fun e w' => e = .returned (.bool (eqP p q)) ∧ Below w.heap.size w w' := by
  have hv0 := hv
  have hv0' := hv'
  obtain ⟨lv, av, tl, tk, kv, rfl, _⟩ := hv0
  obtain ⟨lv', av', tl', tk', kv', rfl, _⟩ := hv0'
  have hb1 : Below w.heap.size w (w.alloc (cell12 p lv av tl tk kv)) := blkBelow w _ _
  have hb2 : Below (w.heap.size + 1) (w.alloc (cell12 p lv av tl tk kv)) ((w.alloc (cell12 p lv av tl tk kv)).alloc (cell12 q lv' av' tl' tk' kv')) := (Below.refl _ _).alloc (by simp) _
  have hp1 := boxed_prAt (S := fun k => B k ∨ k = w.heap.size ∨ k = w.heap.size + 1) hB hv hb2 (fun _ h => .inl h) (.inr (.inl rfl))
  have hB1 : Low B (w.alloc (cell12 p lv av tl tk kv)) := hB.le hb1.size
  have hp2 := boxed_prAt (S := fun k => B k ∨ k = w.heap.size ∨ k = w.heap.size + 1) hB1 (hv'.to hB hb1) (Below.refl _ ((w.alloc (cell12 p lv av tl tk kv)).alloc (cell12 q lv' av' tl' tk' kv'))) (fun _ h => .inl h) (.inr (.inr (by simp)))
  rw [World.size_alloc] at hp2
  have hS : Low (fun k => B k ∨ k = w.heap.size ∨ k = w.heap.size + 1) ((w.alloc (cell12 p lv av tl tk kv)).alloc (cell12 q lv' av' tl' tk' kv')) := by
    intro k h
    have hs : ((w.alloc (cell12 p lv av tl tk kv)).alloc (cell12 q lv' av' tl' tk' kv')).heap.size = w.heap.size + 2 := by simp
    rw [hs]
    rcases h with h | h | h
    · have := hB k h; omega
    · omega
    · omega
  have HQ := Lib.hid (psameP_any _ p q _ _ _ _ _ hS hp1 hp2)
  have HB := Lib.hid (hb1.trans (hb2.mono (by omega)))
  obtain ⟨r, hr⟩ : ∃ r, eqP p q = r := ⟨_, rfl⟩
  rw [hr] at HQ ⊢
  clear hp1 hp2 hS hB1 hb1 hb2 hv hv' hr
  unfold prAgg
  go_enter Tryd.func31, Tryd.ntmps31
  go_wp2_with (go_at_call 63; refine HQ.out.mono ?_; rintro e w2 ⟨rfl, hb3⟩)
  go_ret
  exact ⟨rfl, HB.out.trans (hb3.mono HB.out.size)⟩

end Go.Proofs.YtipjjhkgcbabnaaDoor

/- Processes: the reference's In. -/
namespace Go.Proofs.YtipjjhkgcbabnaaDoor
open Go.RowKit

set_option maxHeartbeats 1000000 in
theorem prin_any (B : Nat → Prop) (s : ByteArray) (v : Value) (ls : List ByteArray) (w : World) (h : StrSl B w v ls) :
    Calls Tryd.prog 39 #[.string s, v] w fun e w' => e = .returned (.bool (memB s ls)) ∧ w = w' := by
  obtain ⟨pa, len, c, rfl, hlen, hm, hget⟩ := h.open
  have HG := Lib.hid hget
  clear hget h
  go_enter Tryd.func39, Tryd.ntmps39
  go_wp2_with fail
  go_loop [5] (fun i => ∃ (j : Nat), i = .int .i64 j ∧ j ≤ len ∧ Hid (s ∉ ls.take j)) (fun i => len - (intOf i).toNat)
  case atStart => exact ⟨0, rfl, by omega, Lib.hid (by simp)⟩
  case round =>
    obtain ⟨j, rfl, hj, HT⟩ := hrel
    by_cases hlt : j < len
    · obtain ⟨x, hx⟩ : ∃ x, ls[j]? = some x := ⟨_, List.getElem?_eq_getElem (by rw [← hlen.out]; exact hlt)⟩
      obtain ⟨_, kb, ko, rfl, hkb, hc⟩ := HG.out j x hx
      by_cases he : x = s
      · subst he
        have hin : Hid (x ∈ ls) := Lib.hid (List.mem_of_getElem? hx)
        clear hx
        go_wp2_with fail
        go_ret
        exact ⟨ret_bool (memB_true.2 hin.out).symm, rfl⟩
      · have hn : Hid (s ∉ ls.take (j + 1)) := Lib.hid (by rw [take_snoc_get hx]; simp only [List.mem_append, List.mem_singleton, not_or]; exact ⟨HT.out, fun e => he e.symm⟩)
        have h1 := str_ne he
        have h2 : (x.toList == s.toList) = false := by simpa using h1
        clear hx he
        go_wp2_with fail
        go_round
        case rel => exact ⟨j + 1, by go_num, by omega, hn⟩
        case measure => simp [intOf]; omega
    · obtain rfl : j = len := by omega
      have hn : s ∉ ls := by have := HT.out; rwa [List.take_of_length_le (by rw [hlen.out]; exact Nat.le_refl _)] at this
      have HN := Lib.hid hn
      clear hn
      go_wp2_with fail
      go_ret
      exact ⟨ret_bool (memB_false HN.out).symm, rfl⟩

end Go.Proofs.YtipjjhkgcbabnaaDoor

/- Processes: binders. -/
namespace Go.Proofs.YtipjjhkgcbabnaaDoor
open Go.RowKit Go.Deep Go.Shelf

/-- The names that a node binds. -/
def Pr.bnd (p : Pr) : List ByteArray := if p.k = 3 then [p.x] else if p.k = 6 then [p.c, p.x] else []
theorem strSl_made {w W : World} (l : List ByteArray) (hb : Below (w.heap.size + 1) (w.alloc (.cells (l.map Value.string).toArray 9)) W) (hs : ∀ s ∈ l, s.size ≤ maxLen) (hl : l.length ≤ maxLen) :
    StrSl (Fresh w.heap.size W.heap.size) W (.slice (some ⟨w.heap.size, 0, none⟩) l.length l.length) l :=
  ⟨.inr ⟨_, _, _, rfl, ⟨Nat.le_refl _, by have := hb.size; rw [World.size_alloc] at this; omega⟩, Nat.le_refl _, fun j s hj => by rw [Nat.zero_add]; exact blk_cell hb j (by simp [hj])⟩, hl, hs⟩
set_option maxHeartbeats 1000000 in
theorem binders_any (S : Nat → Prop) (p : Pr) (b o : Nat) (w : World) (hS : Low S w) (hp : PrAt S w p b o) :
    Calls Tryd.prog 69 #[.pointer (some ⟨b, o, none⟩)] w (StrRet w p.bnd) := by
  obtain ⟨hSb, ⟨hc, hx⟩, ⟨c0, c1, c2⟩, _⟩ := PrAt.eq.1 hp
  have hbl := hS b hSb
  unfold Pr.bnd
  obtain ⟨k, hk⟩ : ∃ k, p.k = k := ⟨_, rfl⟩
  rw [hk] at c0 ⊢
  have HC := Lib.hid hc
  have HX := Lib.hid hx
  clear hp hk hc hx
  by_cases h3 : k = 3
  · subst h3
    rw [if_pos rfl]
    go_enter Tryd.func69, Tryd.ntmps69
    go_wp2_with fail
    go_ret
    exact ⟨_, _, _, rfl, strSl_made [p.x] (Below.refl _ _) (fun s hs => by rw [List.mem_singleton.1 hs]; exact HX.out) (by simp [maxLen]), blkBelow w _ _⟩
  · have h3' : (k == 3) = false := by simpa using h3
    rw [if_neg h3]
    clear h3
    by_cases h6 : k = 6
    · subst h6
      rw [if_pos rfl]
      go_enter Tryd.func69, Tryd.ntmps69
      go_wp2_with fail
      go_region
      all_goals
        go_wp2_with fail
        go_ret
        exact ⟨_, _, _, rfl, strSl_made [p.c, p.x] (Below.refl _ _).drew (fun s hs => by
          rcases List.mem_cons.1 hs with e | hs
          · rw [e]; exact HC.out
          · rw [List.mem_singleton.1 hs]; exact HX.out) (by simp [maxLen]), (blkBelow w _ _).drew⟩
    · have h6' : (k == 6) = false := by simpa using h6
      rw [if_neg h6]
      clear h6
      go_enter Tryd.func69, Tryd.ntmps69
      go_wp2_with fail
      go_ret
      exact ⟨_, _, _, rfl, ⟨.inl ⟨⟨_, _, rfl⟩, rfl⟩, by simp [maxLen]⟩, Below.refl _ _⟩

end Go.Proofs.YtipjjhkgcbabnaaDoor

/- Programs: headFits. -/
namespace Go.Proofs.YtipjjhkgcbabnaaDoor
open Go.RowKit Go.Deep Go.Shelf

theorem right_is (E : Nat) (B : Nat → Prop) (t : Ty) (hf : t.fine) (hdep : t.depth ≤ 1000) (r : Int) (hr : rightE t = r) (v : Value) (w : World) (hB : Low B w) (he : Env E w) (hv : TyVal B w v t) :
    Calls Tryd.prog 12 #[v] w fun e w' => e = .returned (.int .i64 r) ∧ Below w.heap.size w w' := by
  rw [← hr]; exact tright_any E B t hf hdep v w hB he hv

noncomputable def pmB (a : Pm) : Bool := nameB a.n && rightE a.t == 0
noncomputable def hdB (d : Df) : Bool := d.ms.all pmB && nameB d.n
set_option maxHeartbeats 2000000 in
theorem headFits_any (S : Nat → Prop) (d : Df) (b o E : Nat) (w : World) (hS : Low S w) (he : Env E w) (hSb : S b) (hf : ∀ a ∈ d.ms, a.t.fine ∧ a.t.depth ≤ 1000) (hd : DfAt S w d b o) :
    Calls Tryd.prog 92 #[.pointer (some ⟨b, o, none⟩)] w fun e w' => e = .returned (.bool (hdB d)) ∧ Below w.heap.size w w' := by
  obtain ⟨hn, c0, ⟨mv, c1, hm⟩, _⟩ := hd
  have hbl := hS b hSb
  obtain ⟨pa, len, c, rfl, hlen, hmx, hget⟩ := hm.open
  obtain ⟨ms, hms⟩ : ∃ ms, d.ms = ms := ⟨_, rfl⟩
  obtain ⟨nm, hnm⟩ : ∃ nm, d.n = nm := ⟨_, rfl⟩
  have hhd : hdB d = (ms.all pmB && nameB nm) := by unfold hdB; rw [hms, hnm]
  rw [hhd]
  rw [hms] at hget hlen hf
  rw [hnm] at c0 hn
  have HG := Lib.hid hget
  have HFN := Lib.hid hf
  clear hget hf hm hms hnm hhd
  go_enter Tryd.func92, Tryd.ntmps92
  go_wp2_with fail
  go_loopw [10] (fun i wr => ∃ (j : Nat), i = .int .i64 (j : Int) ∧ j ≤ len ∧ Hid ((ms.take j).all pmB = true) ∧ Below w.heap.size w wr) (fun i _ => len - (intOf i).toNat)
  case atStart => exact ⟨0, rfl, by omega, Lib.hid (by simp), Below.refl _ _⟩
  case round =>
    obtain ⟨j, rfl, hj, HT, hw⟩ := hrel
    by_cases hlt : j < len
    · obtain ⟨x, hx⟩ : ∃ x, ms[j]? = some x := ⟨_, List.getElem?_eq_getElem (by rw [← hlen.out]; exact hlt)⟩
      obtain ⟨kb, ko, rfl, hkb, hxn, a0, hty⟩ := HG.out j x hx
      have hmem := List.mem_of_getElem? hx
      obtain ⟨hfx, hdx⟩ := HFN.out x hmem
      have e0 := (hw.cell (p := ⟨kb, ko + j * 7, none⟩) (hS kb hkb)).trans a0
      obtain ⟨la, ln, lc, ka, kn, kc, ⟨d0, d1, d2, d3, d4, d5⟩, hv⟩ := (hty.keep (hw.keeps'.mono hS)).load'
      have e2 : wr.cell? ⟨kb, ko + j * 7 + 2, none⟩ = some (.int .i64 x.t.p) := d1
      have e3 : wr.cell? ⟨kb, ko + j * 7 + 3, none⟩ = some (.string x.t.n) := d2
      have e4 : wr.cell? ⟨kb, ko + j * 7 + 4, none⟩ = some (.int .i64 x.t.s) := d3
      have e5 : wr.cell? ⟨kb, ko + j * 7 + 5, none⟩ = some (.slice la ln lc) := d4
      have e6 : wr.cell? ⟨kb, ko + j * 7 + 6, none⟩ = some (.slice ka kn kc) := d5
      have hbx := blkBelow wr #[.string x.n, .int .i64 x.t.k, .int .i64 x.t.p, .string x.t.n, .int .i64 x.t.s, .slice la ln lc, .slice ka kn kc] 82
      have hbw := below_seq hw hbx
      obtain ⟨nb, hnb⟩ : ∃ b, nameB x.n = b := ⟨_, rfl⟩
      obtain ⟨r, hr⟩ : ∃ r, rightE x.t = r := ⟨_, rfl⟩
      have HN := Lib.hid (tname_is x.n nb hnb hxn E _ (he.to hbw))
      have HR := Lib.hid (right_is E S x.t hfx hdx r hr _ _ (hS.le hbw.size) (he.to hbw) (hv.to (hS.le hw.size) hbx))
      have HX := Lib.hid hx
      have HPB : Hid (pmB x = (nb && r == 0)) := Lib.hid (by unfold pmB; rw [hnb, hr])
      have HBW := Lib.hid hbw
      have HFA : Hid (pmB x = false → (ms.all pmB && nameB nm) = false) := Lib.hid (fun h => by
        have : ms.all pmB = false := by
          rw [List.all_eq_false]; exact ⟨x, hmem, by rw [h]; simp⟩
        rw [this]; rfl)
      have HTR : Hid (pmB x = true → (ms.take (j + 1)).all pmB = true) := Lib.hid (fun h => by
        rw [take_snoc_get HX.out, List.all_append, HT.out]; simp [h])
      clear hx hmem hfx hdx hty hv d1 d2 d3 d4 d5 hnb hr hbx hbw a0
      cases nb
      · go_wp2_with (go_at_call 124; refine HN.out.mono ?_; rintro e w2 ⟨rfl, rfl⟩)
        go_ret
        exact ⟨ret_bool (HFA.out (by rw [HPB.out]; rfl)).symm, HBW.out⟩
      · by_cases h0 : r = 0
        · subst h0
          go_wp2_with (first | (go_at_call 124; refine HN.out.mono ?_; rintro e w2 ⟨rfl, rfl⟩) | (go_at_call 12; refine HR.out.mono ?_; rintro e w3 ⟨rfl, hb3⟩))
          go_roundw
          case rel => exact ⟨j + 1, by go_num, by omega, Lib.hid (HTR.out (by rw [HPB.out]; rfl)), below_seq HBW.out hb3⟩
          case measure => simp [intOf]; omega
        · have h0' : (r != 0) = true := by simpa using h0
          have h0'' : (r == 0) = false := by simpa using h0
          clear h0
          go_wp2_with (first | (go_at_call 124; refine HN.out.mono ?_; rintro e w2 ⟨rfl, rfl⟩) | (go_at_call 12; refine HR.out.mono ?_; rintro e w3 ⟨rfl, hb3⟩))
          go_ret
          exact ⟨ret_bool (HFA.out (by rw [HPB.out, h0'']; rfl)).symm, below_seq HBW.out hb3⟩
    · obtain rfl : j = len := by omega
      have hall : ms.all pmB = true := by have := HT.out; rwa [List.take_of_length_le (by rw [hlen.out]; exact Nat.le_refl _)] at this
      obtain ⟨nb, hnb⟩ : ∃ b, nameB nm = b := ⟨_, rfl⟩
      have HN := Lib.hid (tname_is nm nb hnb hn E wr (he.to hw))
      have HF : Hid ((ms.all pmB && nameB nm) = nb) := Lib.hid (by rw [hall, hnb, Bool.true_and])
      have e0 := (hw.cell (p := ⟨b, o, none⟩) hbl).trans c0
      clear hall hnb
      go_wp2_with (go_at_call 124; refine HN.out.mono ?_; rintro e w2 ⟨rfl, rfl⟩)
      go_ret
      exact ⟨ret_bool HF.out.symm, hw⟩

end Go.Proofs.YtipjjhkgcbabnaaDoor

/- Types: the second law of layer 2. -/
namespace Go.Proofs.YtipjjhkgcbabnaaDoor
open Go.RowKit Go.Deep Go.Shelf

theorem sess_l {W : World} {k p s : Int} {n : ByteArray} {lv kv : Value} {b : Bool} (hb : (k != 1 && k != 2) = b) : Calls Tryd.prog 20 #[.agg #[.int .i64 k, .int .i64 p, .string n, .int .i64 s, lv, kv]] W fun e w' => e = .returned (.bool b) ∧ Below W.heap.size W w' := by
  rw [← hb]; exact tsession_any k p s n lv kv W
theorem rsess_l {W : World} {k p s : Int} {n : ByteArray} {lv kv : Value} {b : Bool} (hb : (k != 1 && k != 2) = b) : Calls Tryd.prog 21 #[.agg #[.int .i64 k, .int .i64 p, .string n, .int .i64 s, lv, kv]] W fun e w' => e = .returned (.bool b) ∧ Below W.heap.size W w' := by
  rw [← hb]; exact rsession_any k p s n lv kv W
theorem six_two_below (w : World) (a0 a1 a2 a3 a4 a5 b0 b1 b2 b3 b4 b5 : Value) : Below w.heap.size w ((w.alloc (.cells #[a0, a1, a2, a3, a4, a5] 25)).alloc (.cells #[b0, b1, b2, b3, b4, b5] 25)) := box2_below w _ _

set_option maxHeartbeats 8000000 in
set_option maxRecDepth 100000 in
theorem TypetreeMeasures_any (t u : Ty) (v v' : Value) (E : Nat) (w : World) (he : Env E w) (h : Lies w v t) (h' : Lies w v' u) : Calls Tryd.prog 4 #[v, v'] w fun e w' => e = .returned (.bool true) ∧ Below w.heap.size w w' := by
  obtain ⟨la, ln, lc, ka, kn, kc, rfl⟩ := h.out
  obtain ⟨la', ln', lc', ka', kn', kc', rfl⟩ := h'.out
  have hb0 := six_two_below w (.int .i64 t.k) (.int .i64 t.p) (.string t.n) (.int .i64 t.s) (.slice la ln lc) (.slice ka kn kc) (.int .i64 u.k) (.int .i64 u.p) (.string u.n) (.int .i64 u.s) (.slice la' ln' lc') (.slice ka' kn' kc')
  have h6 := Six.two w (.int .i64 t.k) (.int .i64 t.p) (.string t.n) (.int .i64 t.s) (.slice la ln lc) (.slice ka kn kc) (.int .i64 u.k) (.int .i64 u.p) (.string u.n) (.int .i64 u.s) (.slice la' ln' lc') (.slice ka' kn' kc')
  have L0 := Lib.hid (h.to hb0)
  have L0' := Lib.hid (h'.to hb0)
  have H6 := Lib.hid h6.1
  have H6' := Lib.hid h6.2
  have HB0 := Lib.hid hb0
  have HE := Lib.hid (he.to hb0)
  obtain ⟨k, hk⟩ : ∃ k, t.k = k := ⟨_, rfl⟩
  obtain ⟨p, hp⟩ : ∃ p, t.p = p := ⟨_, rfl⟩
  obtain ⟨n, hn⟩ : ∃ n, t.n = n := ⟨_, rfl⟩
  obtain ⟨s, hs⟩ : ∃ s, t.s = s := ⟨_, rfl⟩
  obtain ⟨k', hk'⟩ : ∃ k, u.k = k := ⟨_, rfl⟩
  obtain ⟨p', hp'⟩ : ∃ p, u.p = p := ⟨_, rfl⟩
  obtain ⟨n', hn'⟩ : ∃ n, u.n = n := ⟨_, rfl⟩
  obtain ⟨s', hs'⟩ : ∃ s, u.s = s := ⟨_, rfl⟩
  rw [hk, hp, hn, hs, hk', hp', hn', hs'] at L0 L0' H6 H6' HB0 HE
  rw [hk, hp, hn, hs, hk', hp', hn', hs']
  clear h h' hb0 h6 he hk hp hn hs hk' hp' hn' hs'
  cases hfew : t.few 2000 with
  | false =>
    have HF := Lib.hid hfew
    clear hfew
    go_enter Tryd.func4, Tryd.ntmps4
    go_wp2_with fail
    refine (awake_any _ _ HE.out).mono ?_
    rintro e w1 ⟨rfl, hb1⟩
    obtain ⟨⟨c0, c1, c2, c3, c4, c5⟩, _⟩ := (H6.out.to hb1).cells
    go_wp2_with fail
    clear c0 c1 c2 c3 c4 c5
    refine (few_l (L0.out.to hb1) (by omega) HF.out).mono ?_
    rintro e w2 ⟨rfl, hb2⟩
    go_wp2_with fail
    refine (awake_any _ _ (HE.out.to (below_seq hb1 hb2))).mono ?_
    rintro e w3 ⟨rfl, hb3⟩
    go_wp2_with fail
    go_ret
    exact ⟨rfl, below_seq HB0.out (below_seq hb1 (below_seq hb2 hb3))⟩
  | true =>
    have HF := Lib.hid hfew
    have HFS := Lib.hid (few_size hfew)
    clear hfew
    cases hfew' : u.few 2000 with
    | false =>
      have HF' := Lib.hid hfew'
      clear hfew'
      go_enter Tryd.func4, Tryd.ntmps4
      go_wp2_with fail
      refine (awake_any _ _ HE.out).mono ?_
      rintro e w1 ⟨rfl, hb1⟩
      obtain ⟨⟨c0, c1, c2, c3, c4, c5⟩, _⟩ := (H6.out.to hb1).cells
      go_wp2_with fail
      clear c0 c1 c2 c3 c4 c5
      refine (few_l (L0.out.to hb1) (by omega) HF.out).mono ?_
      rintro e w2 ⟨rfl, hb2⟩
      have hb12 := below_seq hb1 hb2
      obtain ⟨⟨c0, c1, c2, c3, c4, c5⟩, _⟩ := (H6'.out.to hb12).cells
      go_wp2_with fail
      clear c0 c1 c2 c3 c4 c5
      refine (few_l (L0'.out.to hb12) (by omega) HF'.out).mono ?_
      rintro e w3 ⟨rfl, hb3⟩
      go_wp2_with fail
      refine (awake_any _ _ (HE.out.to (below_seq hb12 hb3))).mono ?_
      rintro e w4 ⟨rfl, hb4⟩
      go_wp2_with fail
      go_ret
      exact ⟨rfl, below_seq HB0.out (below_seq hb12 (below_seq hb3 hb4))⟩
    | true =>
      have HF' := Lib.hid hfew'
      have HFS' := Lib.hid (few_size hfew')
      clear hfew'
      obtain ⟨z, hz⟩ : ∃ z : Int, (t.size : Int) = z := ⟨_, rfl⟩
      obtain ⟨d, hd⟩ : ∃ d : Int, (t.depth : Int) = d := ⟨_, rfl⟩
      obtain ⟨b, hb⟩ : ∃ b, eqB t u = b := ⟨_, rfl⟩
      obtain ⟨c, hc⟩ : ∃ c, (k != 1 && k != 2) = c := ⟨_, rfl⟩
      have HZ := Lib.hid hz
      have HD := Lib.hid hd
      have HQ := Lib.hid hb
      have HC := Lib.hid hc
      clear hz hd hb hc
      go_enter Tryd.func4, Tryd.ntmps4
      go_wp2_with fail
      refine (awake_any _ _ HE.out).mono ?_
      rintro e w1 ⟨rfl, hb1⟩
      obtain ⟨⟨c0, c1, c2, c3, c4, c5⟩, _⟩ := (H6.out.to hb1).cells
      go_wp2_with fail
      clear c0 c1 c2 c3 c4 c5
      refine (few_l (L0.out.to hb1) (by omega) HF.out).mono ?_
      rintro e w2 ⟨rfl, hb2⟩
      have hb12 := below_seq hb1 hb2
      obtain ⟨⟨c0, c1, c2, c3, c4, c5⟩, _⟩ := (H6'.out.to hb12).cells
      go_wp2_with fail
      clear c0 c1 c2 c3 c4 c5
      refine (few_l (L0'.out.to hb12) (by omega) HF'.out).mono ?_
      rintro e w3 ⟨rfl, hb3⟩
      have hb13 := below_seq hb12 hb3
      go_wp2_with fail
      have s6 : ∀ q : Later w3.heap.size w3, Six q.1 w.heap.size (.int .i64 k) (.int .i64 p) (.string n) (.int .i64 s) (.slice la ln lc) (.slice ka kn kc) := fun q => (H6.out.to hb13).to q.2
      have s6' : ∀ q : Later w3.heap.size w3, Six q.1 (w.heap.size + 1) (.int .i64 k') (.int .i64 p') (.string n') (.int .i64 s') (.slice la' ln' lc') (.slice ka' kn' kc') := fun q => (H6'.out.to hb13).to q.2
      have c0 := fun q => (s6 q).cells.1.1
      have c1 := fun q => (s6 q).cells.1.2.1
      have c2 := fun q => (s6 q).cells.1.2.2.1
      have c3 := fun q => (s6 q).cells.1.2.2.2.1
      have c4 := fun q => (s6 q).cells.1.2.2.2.2.1
      have c5 := fun q => (s6 q).cells.1.2.2.2.2.2
      have c0' := fun q => (s6' q).cells.1.1
      have c1' := fun q => (s6' q).cells.1.2.1
      have c2' := fun q => (s6' q).cells.1.2.2.1
      have c3' := fun q => (s6' q).cells.1.2.2.2.1
      have c4' := fun q => (s6' q).cells.1.2.2.2.2.1
      have c5' := fun q => (s6' q).cells.1.2.2.2.2.2
      have HL : Hid (∀ q : Later w3.heap.size w3, Lies q.1 (.agg #[.int .i64 k, .int .i64 p, .string n, .int .i64 s, .slice la ln lc, .slice ka kn kc]) t) := Lib.hid (fun q => (L0.out.to hb13).to q.2)
      have HL' : Hid (∀ q : Later w3.heap.size w3, Lies q.1 (.agg #[.int .i64 k', .int .i64 p', .string n', .int .i64 s', .slice la' ln' lc', .slice ka' kn' kc']) u) := Lib.hid (fun q => (L0'.out.to hb13).to q.2)
      clear s6 s6'
      have HBB := Lib.hid (below_seq HB0.out hb13)
      clear hb1 hb2 hb3 hb12 hb13 HB0 L0 L0' H6 H6' HE HF HF'
      have X1 : Hid (∀ q : Later w3.heap.size w3, _) := Lib.hid (fun q => size_l (HL.out q) (by have := HFS.out; omega) (by have := HFS.out; omega) HZ.out)
      have X2 : Hid (∀ q : Later w3.heap.size w3, _) := Lib.hid (fun q => rsize_l (HL.out q) (by have := HFS.out; omega) HZ.out)
      have X3 : Hid (∀ q : Later w3.heap.size w3, _) := Lib.hid (fun q => depth_l (HL.out q) (by have := HFS.out; omega) HD.out)
      have X4 : Hid (∀ q : Later w3.heap.size w3, _) := Lib.hid (fun q => rdepth_l (HL.out q) (by have := HFS.out; omega) HD.out)
      have X5 : Hid (∀ q : Later w3.heap.size w3, _) := Lib.hid (fun q => same_l (HL.out q) (HL'.out q) HQ.out)
      have X6 : Hid (∀ q : Later w3.heap.size w3, _) := Lib.hid (fun q => same_l (HL'.out q) (HL.out q) ((eqB_comm _ _).trans HQ.out))
      have X7 : Hid (∀ q : Later w3.heap.size w3, _) := Lib.hid (fun q => same_l (HL.out q) (HL.out q) (eqB_self t))
      have X8 : Hid (∀ q : Later w3.heap.size w3, _) := Lib.hid (fun q => rsame_l (HL.out q) (HL'.out q) HQ.out)
      cases b <;> cases c
      all_goals
        refine wp_region_later w3.heap.size w3 (by kernel_rfl) (by kernel_rfl) (Below.refl _ _) ?_
        repeat (go_big_quiet_step (first
          | (go_at_call 14; exact later_call _ (Nat.le_refl _) (X1.out _))
          | (go_at_call 15; exact later_call _ (Nat.le_refl _) (X2.out _))
          | (go_at_call 16; exact later_call _ (Nat.le_refl _) (X3.out _))
          | (go_at_call 17; exact later_call _ (Nat.le_refl _) (X4.out _))
          | (go_at_call 18; first | with_reducible exact later_call _ (Nat.le_refl _) (X5.out _) | with_reducible exact later_call _ (Nat.le_refl _) (X6.out _) | with_reducible exact later_call _ (Nat.le_refl _) (X7.out _))
          | (go_at_call 19; exact later_call _ (Nat.le_refl _) (X8.out _))
          | (go_at_call 20; exact later_call _ (Nat.le_refl _) (sess_l HC.out))
          | (go_at_call 21; exact later_call _ (Nat.le_refl _) (rsess_l HC.out))))
        refine wpQuiet_nil ?_
        rintro _ ⟨⟨w5, hb5⟩, rfl⟩
        clear c0 c1 c2 c3 c4 c5 c0' c1' c2' c3' c4' c5'
        go_wp2_with fail
        go_ret
        exact ⟨rfl, below_seq HBB.out hb5⟩

end Go.Proofs.YtipjjhkgcbabnaaDoor

/- From a row's list of package-level variables to what the walks lean on; a world that meets the list. -/
namespace Go.Proofs.YtipjjhkgcbabnaaDoor
open Go.RowKit Go.ChangeShapes

/-- The list that all rows of this seat bear. -/
abbrev seatLaid : List (String × DataW Unit) := Rows.typetreeRightRow.laid

theorem one_reads {P : Program} {w : World} : ∀ {l : List (String × DataW Unit)} {ps : List MemPlace}, DataW.LaidVars P w l ps → ∀ n d, (n, d) ∈ l →
    ∃ g t cs fuel p, P.globalNamed n = some g ∧ (P.globals[g]?).map (·.type) = some t ∧ w.var? P n = some cs ∧ DataW.trod (fun _ => ()) P w 0 (fun _ => true) false fuel t cs.toList = some (d, p)
  | [], _, _, _, _, hm => by cases hm
  | (n', d') :: r, ps, h, n, d, hm => by
    obtain ⟨g, t, cs, fuel, p, q, h1, h2, h3, h4, h5, _⟩ := h
    rcases List.mem_cons.1 hm with e | e
    · cases e
      exact ⟨g, t, cs, fuel, p, h1, h2, h3, h4⟩
    · exact one_reads h5 n d e

theorem strs_read {H : Type} {enc : TypeId × Value → H} {P : Program} {w : World} {base : Nat} {sp : Nat → Bool} {held : Bool} {fuel : Nat} {t e : TypeId} {n : Nat} {cs : List Value} {ls : List (List UInt8)} {p : List MemPlace}
    (ht : P.underlying t = some (.array n e)) (he : P.underlying e = some .string) (hce : P.cellsOf e = 1) (hct : P.cellsOf t = n)
    (h : DataW.trod enc P w base sp held fuel t cs = some (.agg (ls.map fun l => .lit (.string l)), p)) : cs = ls.map fun l => Value.string ⟨l.toArray⟩ := by
  obtain ⟨xs, m, _, hx, hlen, hxl, hat⟩ := DataW.trod_array ht h
  have hxs : xs.map (·.1) = ls.map fun l => (DataW.lit (.string l) : DataW H) := by
    have := congrArg Prod.fst hx
    simpa using this.symm
  have hll : ls.length = n := by
    have := congrArg List.length hxs
    simp at this; omega
  apply List.ext_getElem?
  intro i
  by_cases hi : i < n
  · have hf := hat i hi
    rw [hce, Nat.mul_one] at hf
    obtain ⟨x, hxi⟩ : ∃ x, xs[i]? = some x := ⟨_, List.getElem?_eq_getElem (by omega)⟩
    rw [hxi] at hf
    obtain ⟨s, hc, rfl, _⟩ := DataW.trod_string he hf
    have h1 : cs[i]? = some (.string s) := by
      have := congrArg (·[0]?) hc
      simpa [List.getElem?_take, List.getElem?_drop] using this
    have h2 : (xs.map (·.1))[i]? = some (DataW.lit (.string s.data.toList) : DataW H) := by simp [hxi]
    rw [hxs] at h2
    simp only [List.getElem?_map, Option.map_eq_some_iff, DataW.lit.injEq, Lit.string.injEq] at h2
    obtain ⟨l, hl, hls⟩ := h2
    rw [h1, List.getElem?_map, hl, hls]
    rfl
  · rw [List.getElem?_eq_none (by omega), List.getElem?_eq_none (by simp; omega)]

theorem wordsType : (Tryd.prog.globals[0]?).map (·.type) = some 149 := by kernel_rfl
theorem cellsStr : Tryd.prog.cellsOf 9 = 1 := by kernel_rfl
theorem cellsWords : Tryd.prog.cellsOf 149 = 10 := by kernel_rfl
theorem env_of_laid {W : World} (h : laidMetH Tryd.prog seatLaid W) : Env W.heap.size W := by
  rw [MakeChecks.laidMetH_plain _ _ _ (by kernel_rfl)] at h
  obtain ⟨ps, hv, _⟩ := h
  obtain ⟨g', t', cs', fuel', p', hg', ht', hvar', hd'⟩ := one_reads hv "duologue/lex.keywords" Rows.laid_duologue_lex_keywords (by simp [seatLaid, Rows.typetreeRightRow])
  obtain rfl := Option.some.inj (gWords.symm.trans hg')
  obtain rfl := Option.some.inj (wordsType.symm.trans ht')
  have hws := strs_read (ls := [[100, 101, 102], [109, 97, 105, 110], [115, 116, 111, 112], [110, 101, 119], [105, 110, 116], [98, 111, 111, 108], [101, 110, 100], [114, 101, 99], [116, 114, 117, 101], [102, 97, 108, 115, 101]]) kwU Tryd.underlying9 cellsStr cellsWords hd'
  have lt : ∀ {n : String} {g : Nat} {cs : Array Value}, Tryd.prog.globalNamed n = some g → W.var? Tryd.prog n = some cs → g < W.heap.size := by
    intro n g cs hg hv
    unfold World.var? at hv
    simp only [hg, Option.bind_some] at hv
    rcases Nat.lt_or_ge g W.heap.size with h' | h'
    · exact h'
    · rw [Array.getElem?_eq_none h'] at hv; cases hv
  refine ⟨?_, lt gWords hvar', Nat.le_refl _⟩
  rw [hvar']; obtain ⟨l⟩ := cs'; simp only at hws; rw [hws]; rfl

/-- The door's own heap meets the list: closed facts. -/
theorem door_met (os : Os) (args : Array Value) : laidMetH Tryd.prog seatLaid ((World.doorLaid Tryd.prog 4000 os).forCall (fun _ _ => 0) ⟨#[], args, []⟩).memory :=
  laidMetH_of_parts3 (fuel := 10) (laidMet_of_run' 10 (by kernel_rfl) (by kernel_rfl)) (by kernel_rfl) (by kernel_rfl)

end Go.Proofs.YtipjjhkgcbabnaaDoor

/- Types: a type that came in as an argument. -/
namespace Go.Proofs.YtipjjhkgcbabnaaDoor
open Go.ChangeShapes Go.WideShapes Go.ChangeAt Go.RowKit Go.Deep

theorem choose_list {α : Type} (Q : Nat → α → Prop) : ∀ n : Nat, (∀ i, i < n → ∃ x, Q i x) → ∃ ls : List α, ls.length = n ∧ ∀ i x, ls[i]? = some x → Q i x
  | 0, _ => ⟨[], rfl, fun i x h => by simp at h⟩
  | n + 1, h => by
    obtain ⟨ls, hl, hq⟩ := choose_list Q n (fun i hi => h i (by omega))
    obtain ⟨x, hx⟩ := h n (by omega)
    refine ⟨ls ++ [x], by simp [hl], fun i y hy => ?_⟩
    by_cases hi : i < ls.length
    · rw [List.getElem?_append_left hi] at hy; exact hq i y hy
    · rw [List.getElem?_append_right (by omega)] at hy
      have : i - ls.length = 0 := by
        rcases Nat.eq_zero_or_pos (i - ls.length) with h0 | h0
        · exact h0
        · rw [List.getElem?_eq_none (by simp; omega)] at hy; cases hy
      rw [this] at hy
      simp at hy
      subst hy
      have : i = n := by omega
      subst this
      exact hx
theorem addr_of_cell {w : World} {a : Addr} {v : Value} (h : w.cell? a = some v) : a = ⟨a.block, a.off, none⟩ ∧ a.block < w.heap.size := by
  obtain ⟨b, o, s⟩ := a
  unfold World.cell? at h
  cases hb : w.heap[b]? with
  | none => simp [hb] at h
  | some ob =>
    have hlt := (Array.getElem?_eq_some_iff.1 hb).1
    cases s with
    | none => exact ⟨rfl, hlt⟩
    | some s => cases ob <;> simp [hb] at h
theorem add_block {b o : Nat} (j : Nat) : (⟨b, o, none⟩ : Addr).add j = ⟨b, o + j, none⟩ := by
  unfold Addr.add
  by_cases h : j = 0
  · subst h; simp
  · simp [h]
theorem add_zero' (a : Addr) : a.add 0 = a := by unfold Addr.add; simp
/-- A struct of one-cell fields, field by field. -/
theorem fields_of {H : Type} {enc : TypeId × Value → H} {P : Program} {w : World} {base : Nat} {spare : Nat → Bool} {held : Bool} {e : TypeId} {fs : Array Field} {fuel : Nat} {cs : List Value} {x : DataW H × List MemPlace}
    (he : P.underlying e = some (.struct fs)) (hone : oneCellFields P fs = true) (hC : P.cellsOf e = fs.size) (h : DataW.trod enc P w base spare held fuel e cs = some x) :
    ∃ (ys : List (DataW H × List MemPlace)) (n : Nat), fuel = n + 1 ∧ x = (.agg (ys.map (·.1)), ys.flatMap (·.2)) ∧ cs.length = fs.size ∧ ys.length = fs.size ∧
      ∀ (j : Nat) (f : Field), fs[j]? = some f → ∃ v y, cs[j]? = some v ∧ ys[j]? = some y ∧ DataW.trod enc P w base spare held n f.type [v] = some y := by
  obtain ⟨ys, n, hn, hx, hl, hyl, hf⟩ := DataW.trod_struct he h
  rw [hC] at hl
  refine ⟨ys, n, hn, hx, hl, hyl, fun j f hj => ?_⟩
  have hlt := (Array.getElem?_eq_some_iff.1 hj).1
  obtain ⟨ho, h1⟩ := hone_of hone j f hj
  have h2 := hf j f hj
  obtain ⟨v, hv⟩ : ∃ v, cs[j]? = some v := ⟨_, List.getElem?_eq_getElem (by omega)⟩
  obtain ⟨y, hy⟩ : ∃ y, ys[j]? = some y := ⟨_, List.getElem?_eq_getElem (by omega)⟩
  have ht : (cs.drop j).take 1 = [v] := by
    have hd := List.drop_eq_getElem_cons (l := cs) (i := j) (by omega)
    rw [List.getElem?_eq_getElem (by omega)] at hv
    rw [hd, List.take_succ_cons, List.take_zero]
    simpa using hv
  rw [ho, h1, ht, hy] at h2
  exact ⟨v, y, hv, hy, h2⟩
/-- A slice: nil, or elements that read with less fuel. -/
theorem slice_of {H : Type} {enc : TypeId × Value → H} {P : Program} {w : World} {base : Nat} {spare : Nat → Bool} {held : Bool} {t e : TypeId} {fuel : Nat} {v : Value} {x : DataW H × List MemPlace}
    (he : P.underlying t = some (.slice e)) (h : DataW.trod enc P w base spare held fuel t [v] = some x) :
    ∃ (a : Option Addr) (len cap : Nat), v = .slice a len cap ∧ len ≤ cap ∧ cap ≤ maxLen ∧ ∀ i, i < len → ∃ ad n cs y, a = some ad ∧ n < fuel ∧ w.cells? base (ad.add (i * P.cellsOf e)) (P.cellsOf e) = some cs ∧ DataW.trod enc P w base spare held n e cs = some y := by
  rcases DataW.trod_slice he h with ⟨hc, hx⟩ | ⟨a, len, cap, elems, rest, n, hn, hcs, hx, hb, hl, hm, hlen, hel, _⟩
  · simp only [List.cons.injEq, and_true] at hc
    exact ⟨none, 0, 0, hc, by omega, by simp [maxLen], fun i hi => by omega⟩
  · simp only [List.cons.injEq, and_true] at hcs
    refine ⟨some a, len, cap, hcs, hl, hm, fun i hi => ?_⟩
    have h1 := hel i hi
    obtain ⟨y, hy⟩ : ∃ y, elems[i]? = some y := ⟨_, List.getElem?_eq_getElem (by omega)⟩
    rw [hy] at h1
    cases hq : w.cells? base (a.add (i * P.cellsOf e)) (P.cellsOf e) with
    | none => rw [hq] at h1; simp at h1
    | some cs => rw [hq] at h1; exact ⟨a, n, cs, y, rfl, by omega, hq, by simpa using h1⟩

theorem wf_in {n : Int} (h : (Lit.int .i64 n).wf = true) : In64 n := by
  unfold Lit.wf at h
  rw [Bool.and_eq_true, decide_eq_true_eq, decide_eq_true_eq] at h
  exact h

theorem strs_open {H : Type} {enc : TypeId × Value → H} {W : World} {base : Nat} {spare : Nat → Bool} {held : Bool} {fuel : Nat} {v : Value} {x : DataW H × List MemPlace} (h : DataW.trod enc Tryd.prog W base spare held fuel 22 [v] = some x) :
    ∃ ls, StrSl (fun k => k < W.heap.size) W v ls := by
  obtain ⟨a, len, cap, rfl, hl, hm, hi⟩ := slice_of Tryd.underlying22 h
  rw [show Tryd.prog.cellsOf 9 = 1 from by kernel_rfl] at hi
  have each : ∀ i, i < len → ∃ s : ByteArray, s.size ≤ maxLen ∧ ∃ b o, a = some ⟨b, o, none⟩ ∧ b < W.heap.size ∧ W.cell? ⟨b, o + i, none⟩ = some (.string s) := by
    intro i hin
    obtain ⟨ad, n, cs, y, rfl, _, hc, ht⟩ := hi i hin
    obtain ⟨ad0, n0, cs0, y0, e0, _, hc0, ht0⟩ := hi 0 (by omega)
    obtain rfl := Option.some.inj e0
    obtain ⟨s, rfl, _, hs⟩ := DataW.trod_string Tryd.underlying9 ht
    obtain ⟨s0, rfl, _, _⟩ := DataW.trod_string Tryd.underlying9 ht0
    obtain ⟨_, _, hat⟩ := World.cells?_some hc
    obtain ⟨_, _, hat0⟩ := World.cells?_some hc0
    have h0 := hat0 0 (by omega)
    have h1 := hat 0 (by omega)
    rw [Nat.zero_mul, add_zero', add_zero'] at h0
    obtain ⟨e1, e2⟩ := addr_of_cell h0
    rw [add_zero', e1, add_block] at h1
    exact ⟨s, hs, ad.block, ad.off, by rw [← e1], e2, by simpa using h1⟩
  obtain ⟨ls, hln, hls⟩ := choose_list _ len each
  refine ⟨ls, ?_, by omega, fun s hs => ?_⟩
  · cases ls with
    | nil => exact .inl ⟨⟨a, cap, by rw [← hln]; rfl⟩, rfl⟩
    | cons s0 r =>
      obtain ⟨_, b, o, rfl, hb, _⟩ := hls 0 s0 rfl
      refine .inr ⟨b, o, cap, by rw [hln], hb, by omega, fun j s hj => ?_⟩
      obtain ⟨_, b', o', e, _, hc⟩ := hls j s hj
      simp only [Option.some.injEq, Addr.mk.injEq, and_true] at e
      obtain ⟨rfl, rfl⟩ := e
      exact hc
  · obtain ⟨i, hi'⟩ := List.mem_iff_getElem?.1 hs
    exact (hls i s hi').1

/-- The cells of a type. -/
def tyCells (t : Ty) (lv kv : Value) : List Value := [.int .i64 t.k, .int .i64 t.p, .string t.n, .int .i64 t.s, lv, kv]
theorem tyCellsOf : Tryd.prog.cellsOf 25 = 6 := by kernel_rfl

set_option maxRecDepth 100000 in
theorem ty_open {H : Type} {enc : TypeId × Value → H} {W : World} {base : Nat} {spare : Nat → Bool} {held : Bool} : ∀ (fuel : Nat) (cs : List Value) (x : DataW H × List MemPlace), DataW.trod enc Tryd.prog W base spare held fuel 25 cs = some x →
    ∃ t lv kv, cs = tyCells t lv kv ∧ t.fine ∧ Lies W (.agg (tyCells t lv kv).toArray) t := by
  intro fuel
  induction fuel using Nat.strongRecOn with
  | _ fuel ih =>
  intro cs x h
  obtain ⟨ys, n', hn', hD, hcl, hyl, hf⟩ := fields_of Tryd.underlying25 (by kernel_rfl) (by kernel_rfl) h
  obtain ⟨v0, y0, e0, z0, t0⟩ := hf 0 _ rfl
  obtain ⟨v1, y1, e1, z1, t1⟩ := hf 1 _ rfl
  obtain ⟨v2, y2, e2, z2, t2⟩ := hf 2 _ rfl
  obtain ⟨v3, y3, e3, z3, t3⟩ := hf 3 _ rfl
  obtain ⟨v4, y4, e4, z4, t4⟩ := hf 4 _ rfl
  obtain ⟨v5, y5, e5, z5, t5⟩ := hf 5 _ rfl
  obtain ⟨k, hk, _, wk⟩ := DataW.trod_int Tryd.underlying3 t0
  obtain ⟨p, hp, _, _⟩ := DataW.trod_int Tryd.underlying3 t1
  obtain ⟨nm, hnm, _, hnz⟩ := DataW.trod_string Tryd.underlying9 t2
  obtain ⟨s, hs, _, _⟩ := DataW.trod_int Tryd.underlying3 t3
  simp only [List.cons.injEq, and_true] at hk hp hnm hs
  subst hk hp hnm hs
  obtain ⟨ls, hls⟩ := strs_open t4
  obtain ⟨a, len, cap, rfl, hl, hm, hi⟩ := slice_of Tryd.underlying23 t5
  rw [tyCellsOf] at hi
  have each : ∀ i, i < len → ∃ t : Ty, t.fine ∧ ∃ b o, a = some ⟨b, o, none⟩ ∧ TyAt (fun k => k < W.heap.size) W t b (o + i * 6) := by
    intro i hin
    obtain ⟨ad, n, cs', y, rfl, hlt, hc, ht⟩ := hi i hin
    obtain ⟨ad0, n0, cs0, y0, e0, _, hc0, ht0⟩ := hi 0 (by omega)
    obtain rfl := Option.some.inj e0
    obtain ⟨t, lv, kv, rfl, hfine, hlies⟩ := ih n (by omega) cs' y ht
    obtain ⟨_, hl6, hat⟩ := World.cells?_some hc
    obtain ⟨_, hl0, hat0⟩ := World.cells?_some hc0
    have h0 := hat0 0 (by omega)
    rw [Nat.zero_mul, add_zero', add_zero', List.getElem?_eq_getElem (by omega)] at h0
    obtain ⟨e1, e2⟩ := addr_of_cell h0
    rw [e1] at hat
    simp only [add_block] at hat
    refine ⟨t, hfine, ad.block, ad.off, by rw [← e1], ?_⟩
    refine tyAt_of e2 ?_ ?_ ?_ ?_ ?_ ?_ hlies
    · have := hat 0 (by omega); simpa [tyCells] using this
    · have := hat 1 (by omega); simpa [tyCells] using this
    · have := hat 2 (by omega); simpa [tyCells] using this
    · have := hat 3 (by omega); simpa [tyCells] using this
    · have := hat 4 (by omega); simpa [tyCells] using this
    · have := hat 5 (by omega); simpa [tyCells] using this
  obtain ⟨ts, htn, hts⟩ := choose_list _ len each
  have hcs : cs = [.int .i64 k, .int .i64 p, .string nm, .int .i64 s, v4, .slice a len cap] := by
    match cs, hcl, e0, e1, e2, e3, e4, e5 with
    | [a0, a1, a2, a3, a4, a5], _, e0, e1, e2, e3, e4, e5 =>
      simp at e0 e1 e2 e3 e4 e5
      rw [e0, e1, e2, e3, e4, e5]
  refine ⟨.mk k p nm s ls ts, v4, .slice a len cap, hcs, ⟨wf_in wk, ?_⟩, _, _, rfl, hnz, hls, ?_, by show ts.length ≤ _; omega⟩
  · have : ∀ l : List Ty, (∀ u ∈ l, u.fine) → Ty.fines l := by
      intro l
      induction l with
      | nil => intro _; trivial
      | cons u r ihr => intro hh; exact ⟨hh u (by simp), ihr (fun v hv => hh v (by simp [hv]))⟩
    refine this ts (fun u hu => ?_)
    obtain ⟨i, hi'⟩ := List.mem_iff_getElem?.1 hu
    exact (hts i u hi').1
  · show _ ∨ _
    cases ts with
    | nil => exact .inl ⟨⟨a, cap, by rw [← htn]; rfl⟩, rfl⟩
    | cons u0 r =>
      obtain ⟨_, b, o, rfl, hat0⟩ := hts 0 u0 rfl
      refine .inr ⟨b, o, cap, by show Value.slice _ _ _ = Value.slice _ (u0 :: r).length _; rw [htn], (TyAt.eq.1 hat0).1, ?_⟩
      refine tysAt_of (fun i t hi' => ?_)
      obtain ⟨_, b', o', e, hat⟩ := hts i t hi'
      simp only [Option.some.injEq, Addr.mk.injEq, and_true] at e
      obtain ⟨rfl, rfl⟩ := e
      exact hat

set_option maxRecDepth 100000 in
/-- A type that came in. -/
theorem type_open {H : Type} {enc : TypeId × Value → H} {W : World} {base : Nat} {spare : Nat → Bool} {held : Bool} {v : Value} {d : DataW H} {p : List MemPlace} {b0 : Nat} (hv : Value.okWide Tryd.prog W .any b0 25 v) (h : DataW.Trod enc Tryd.prog W base spare held 25 v d p) :
    ∃ t, t.fine ∧ Lies W v t := by
  obtain ⟨fuel, hf⟩ := h
  unfold Value.okWide at hv
  rw [Tryd.underlying25] at hv
  obtain ⟨cs, rfl, _, _⟩ := hv
  obtain ⟨t, lv, kv, e, hfine, hl⟩ := ty_open fuel _ _ hf
  have e' : cs.toList = tyCells t lv kv := e
  have : cs = (tyCells t lv kv).toArray := by rw [← e']
  rw [this]
  exact ⟨t, hfine, hl⟩

end Go.Proofs.YtipjjhkgcbabnaaDoor

/- Processes and programs: those that came in as arguments. -/
namespace Go.Proofs.YtipjjhkgcbabnaaDoor
open Go.ChangeShapes Go.WideShapes Go.ChangeAt Go.RowKit Go.Deep

mutual
/-- All kinds are numbers that a word holds, also those of the types. -/
def Pr.fine : Pr → Prop
  | .mk k _ _ _ _ t ps => In64 k ∧ t.fine ∧ Pr.fines ps
def Pr.fines : List Pr → Prop
  | [] => True
  | p :: r => p.fine ∧ Pr.fines r
end
theorem Pr.fine_k {p : Pr} (h : p.fine) : In64 p.k := by cases p; exact h.1
theorem Pr.fine_t {p : Pr} (h : p.fine) : p.t.fine := by cases p; exact h.2.1
theorem Pr.fines_mem : ∀ {l : List Pr}, Pr.fines l → ∀ u ∈ l, u.fine
  | [], _, _, hu => by cases hu
  | t :: r, h, u, hu => by
    rcases List.mem_cons.1 hu with rfl | hu
    · exact h.1
    · exact Pr.fines_mem h.2 u hu
theorem Pr.fine_ps {p : Pr} (h : p.fine) : ∀ u ∈ p.ps, u.fine := by cases p; exact Pr.fines_mem h.2.2
theorem Pr.fines_of : ∀ l : List Pr, (∀ u ∈ l, u.fine) → Pr.fines l := by
  intro l
  induction l with
  | nil => intro _; trivial
  | cons u r ihr => intro hh; exact ⟨hh u (by simp), ihr (fun v hv => hh v (by simp [hv]))⟩
def Df.fine (d : Df) : Prop := (∀ a ∈ d.ms, a.t.fine) ∧ d.b.fine
def Pg.fine (g : Pg) : Prop := (∀ d ∈ g.ds, d.fine) ∧ g.m.fine

/-- A value is a process that lies in w. -/
def PLies (w : World) (v : Value) (p : Pr) : Prop := PrVal (fun k => k < w.heap.size) w v p
theorem PLies.to {w w' : World} {v : Value} {p : Pr} (h : PLies w v p) (hb : Below w.heap.size w w') : PLies w' v p :=
  PrVal.mono (fun _ hk => Nat.lt_of_lt_of_le hk hb.size) (PrVal.to (fun _ hk => hk) hb h)
/-- A value is a program that lies in w. -/
def GLies (w : World) (v : Value) (g : Pg) : Prop := PgVal (fun k => k < w.heap.size) w v g
theorem GLies.to {w w' : World} {v : Value} {g : Pg} (h : GLies w v g) (hb : Below w.heap.size w w') : GLies w' v g :=
  PgVal.mono (fun _ hk => Nat.lt_of_lt_of_le hk hb.size) (PgVal.to (fun _ hk => hk) hb h)

/-- One field of a struct. -/
theorem fld {H : Type} {enc : TypeId × Value → H} {P : Program} {w : World} {base : Nat} {spare : Nat → Bool} {held : Bool} {n : Nat} {cs : List Value} {fs : Array Field} {xs : List (DataW H × List MemPlace)} (hx : xs.length = fs.size)
    (hf : ∀ (i : Nat) (f : Field), fs[i]? = some f → DataW.trod enc P w base spare held n f.type ((cs.drop f.offset).take (P.cellsOf f.type)) = xs[i]?) (i : Nat) {f : Field} (hi : fs[i]? = some f) {c : Nat} (hc : P.cellsOf f.type = c) {ds : List Value} (hd : (cs.drop f.offset).take c = ds) {t : TypeId} (ht : f.type = t) :
    ∃ y, DataW.trod enc P w base spare held n t ds = some y := by
  subst ht hd hc
  have hlt := (Array.getElem?_eq_some_iff.1 hi).1
  rw [hf i f hi]
  exact ⟨_, List.getElem?_eq_getElem (by omega)⟩

/-- The elements of a slice, each of which is told from its cells. -/
theorem rows_of {H : Type} {enc : TypeId × Value → H} {P : Program} {w : World} {base : Nat} {spare : Nat → Bool} {held : Bool} {e : TypeId} {fuel len c : Nat} {a : Option Addr} {α : Type} (Q : α → Nat → Nat → Prop) (hc : 0 < c)
    (hi : ∀ i, i < len → ∃ ad n cs y, a = some ad ∧ n < fuel ∧ w.cells? base (ad.add (i * c)) c = some cs ∧ DataW.trod enc P w base spare held n e cs = some y)
    (hel : ∀ n cs y, n < fuel → cs.length = c → DataW.trod enc P w base spare held n e cs = some y → ∃ x : α, ∀ b o, b < w.heap.size → (∀ j v, cs[j]? = some v → w.cell? ⟨b, o + j, none⟩ = some v) → Q x b o) :
    ∃ xs : List α, xs.length = len ∧ (xs = [] ∨ ∃ b o, a = some ⟨b, o, none⟩ ∧ b < w.heap.size ∧ ∀ j x, xs[j]? = some x → Q x b (o + j * c)) ∧ ∀ x ∈ xs, ∃ b o, Q x b o := by
  have each : ∀ i, i < len → ∃ x : α, ∃ b o, a = some ⟨b, o, none⟩ ∧ b < w.heap.size ∧ Q x b (o + i * c) := by
    intro i hin
    obtain ⟨ad, n, cs, y, rfl, hn, hcs, ht⟩ := hi i hin
    obtain ⟨ad0, n0, cs0, y0, e0, _, hcs0, ht0⟩ := hi 0 (by omega)
    obtain rfl := Option.some.inj e0
    obtain ⟨_, hl, hat⟩ := World.cells?_some hcs
    obtain ⟨_, hl0, hat0⟩ := World.cells?_some hcs0
    have h0 := hat0 0 hc
    rw [Nat.zero_mul, add_zero', add_zero', List.getElem?_eq_getElem (by omega)] at h0
    obtain ⟨e1, e2⟩ := addr_of_cell h0
    obtain ⟨x, hx⟩ := hel n cs y hn hl ht
    rw [e1] at hat
    simp only [add_block] at hat
    exact ⟨x, ad.block, ad.off, by rw [← e1], e2, hx _ _ e2 (fun j v hj => by
      have hj' : j < c := by rw [← hl]; exact (List.getElem?_eq_some_iff.1 hj).1
      rw [hat j hj', hj])⟩
  obtain ⟨xs, hn, hxs⟩ := choose_list _ len each
  refine ⟨xs, hn, ?_, fun x hx => ?_⟩
  · cases xs with
    | nil => exact .inl rfl
    | cons x0 r =>
      obtain ⟨b, o, rfl, hb, _⟩ := hxs 0 x0 rfl
      refine .inr ⟨b, o, rfl, hb, fun j x hj => ?_⟩
      obtain ⟨b', o', e, _, hq⟩ := hxs j x hj
      simp only [Option.some.injEq, Addr.mk.injEq, and_true] at e
      obtain ⟨rfl, rfl⟩ := e
      exact hq
  · obtain ⟨i, hi'⟩ := List.mem_iff_getElem?.1 hx
    obtain ⟨b, o, _, _, hq⟩ := hxs i x hi'
    exact ⟨_, _, hq⟩

theorem list3 {α : Type} {l : List α} (h : l.length = 3) : ∃ a b c, l = [a, b, c] := by
  match l, h with
  | [a, b, c], _ => exact ⟨a, b, c, rfl⟩
theorem list7 {α : Type} {l : List α} (h : l.length = 7) : ∃ a0 a1 a2 a3 a4 a5 a6, l = [a0, a1, a2, a3, a4, a5, a6] := by
  match l, h with
  | [a0, a1, a2, a3, a4, a5, a6], _ => exact ⟨_, _, _, _, _, _, _, rfl⟩
theorem list12 {α : Type} {l : List α} (h : l.length = 12) : ∃ a0 a1 a2 a3 a4 a5 a6 a7 a8 a9 a10 a11, l = [a0, a1, a2, a3, a4, a5, a6, a7, a8, a9, a10, a11] := by
  match l, h with
  | [a0, a1, a2, a3, a4, a5, a6, a7, a8, a9, a10, a11], _ => exact ⟨_, _, _, _, _, _, _, _, _, _, _, _, rfl⟩
theorem list13 {α : Type} {l : List α} (h : l.length = 13) : ∃ a r, l = a :: r ∧ r.length = 12 := by
  cases l with
  | nil => simp at h
  | cons a r => exact ⟨a, r, rfl, by simpa using h⟩
theorem list14 {α : Type} {l : List α} (h : l.length = 14) : ∃ a b r, l = a :: b :: r ∧ r.length = 12 := by
  match l, h with
  | a :: b :: r, h => exact ⟨a, b, r, rfl, by simpa using h⟩

theorem valueCellsOf : Tryd.prog.cellsOf 74 = 3 := by kernel_rfl
theorem procCellsOf : Tryd.prog.cellsOf 36 = 12 := by kernel_rfl
theorem paramCellsOf : Tryd.prog.cellsOf 82 = 7 := by kernel_rfl
theorem defCellsOf : Tryd.prog.cellsOf 80 = 14 := by kernel_rfl
theorem programCellsOf : Tryd.prog.cellsOf 39 = 13 := by kernel_rfl

set_option maxRecDepth 100000 in
theorem vls_open {H : Type} {enc : TypeId × Value → H} {W : World} {base : Nat} {spare : Nat → Bool} {held : Bool} {fuel : Nat} {v : Value} {x : DataW H × List MemPlace} (h : DataW.trod enc Tryd.prog W base spare held fuel 33 [v] = some x) :
    ∃ vs, VlSl (fun k => k < W.heap.size) W v vs := by
  obtain ⟨a, len, cap, rfl, hl, hm, hi⟩ := slice_of Tryd.underlying33 h
  rw [valueCellsOf] at hi
  obtain ⟨vs, hn, hrow, hall⟩ := rows_of (fun (a : Vl) b o => a.n.size ≤ maxLen ∧ W.cell? ⟨b, o, none⟩ = some (.int .i64 a.k) ∧ W.cell? ⟨b, o + 1, none⟩ = some (.string a.n) ∧ W.cell? ⟨b, o + 2, none⟩ = some (.int .i64 a.x)) (by omega) hi (fun n cs y _ hcl ht => by
    obtain ⟨ys, n', hn', hD, hcl2, hyl, hf⟩ := DataW.trod_struct Tryd.underlying74 ht
    obtain ⟨a0, a1, a2, rfl⟩ := list3 hcl
    obtain ⟨y0, t0⟩ := fld hyl hf 0 rfl (c := 1) (by kernel_rfl) (ds := [a0]) rfl (t := 3) rfl
    obtain ⟨y1, t1⟩ := fld hyl hf 1 rfl (c := 1) (by kernel_rfl) (ds := [a1]) rfl (t := 9) rfl
    obtain ⟨y2, t2⟩ := fld hyl hf 2 rfl (c := 1) (by kernel_rfl) (ds := [a2]) rfl (t := 2) rfl
    obtain ⟨k, hk, _, _⟩ := DataW.trod_int Tryd.underlying3 t0
    obtain ⟨nm, hnm, _, hnz⟩ := DataW.trod_string Tryd.underlying9 t1
    obtain ⟨s, hs, _, _⟩ := DataW.trod_int Tryd.underlying2 t2
    simp only [List.cons.injEq, and_true] at hk hnm hs
    subst hk hnm hs
    exact ⟨⟨k, nm, s⟩, fun b o _ hc => ⟨hnz, hc 0 _ rfl, hc 1 _ rfl, hc 2 _ rfl⟩⟩)
  refine ⟨vs, ?_, by omega, fun s hs => ?_⟩
  · rcases hrow with rfl | ⟨b, o, rfl, hb, hrow⟩
    · exact .inl ⟨⟨a, cap, by rw [← hn]; rfl⟩, rfl⟩
    · exact .inr ⟨b, o, cap, by rw [hn], hb, by omega, fun j a hj => (hrow j a hj).2⟩
  · obtain ⟨b, o, hq⟩ := hall s hs
    exact hq.1

/-- The cells of a process. -/
def prCells (p : Pr) (lv av tl tk kv : Value) : List Value := [.int .i64 p.k, .string p.c, .string p.x, lv, av, .int .i64 p.t.k, .int .i64 p.t.p, .string p.t.n, .int .i64 p.t.s, tl, tk, kv]

set_option maxRecDepth 100000 in
theorem pr_open {H : Type} {enc : TypeId × Value → H} {W : World} {base : Nat} {spare : Nat → Bool} {held : Bool} : ∀ (fuel : Nat) (cs : List Value) (x : DataW H × List MemPlace), DataW.trod enc Tryd.prog W base spare held fuel 36 cs = some x →
    ∃ p lv av tl tk kv, cs = prCells p lv av tl tk kv ∧ p.fine ∧ PLies W (.agg (prCells p lv av tl tk kv).toArray) p := by
  intro fuel
  induction fuel using Nat.strongRecOn with
  | _ fuel ih =>
  intro cs x h
  obtain ⟨ys, n', hn', hD, hcl, hyl, hf⟩ := DataW.trod_struct Tryd.underlying36 h
  rw [procCellsOf] at hcl
  obtain ⟨a0, a1, a2, a3, a4, a5, a6, a7, a8, a9, a10, a11, rfl⟩ := list12 hcl
  obtain ⟨y0, t0⟩ := fld hyl hf 0 rfl (c := 1) (by kernel_rfl) (ds := [a0]) rfl (t := 3) rfl
  obtain ⟨y1, t1⟩ := fld hyl hf 1 rfl (c := 1) (by kernel_rfl) (ds := [a1]) rfl (t := 9) rfl
  obtain ⟨y2, t2⟩ := fld hyl hf 2 rfl (c := 1) (by kernel_rfl) (ds := [a2]) rfl (t := 9) rfl
  obtain ⟨y3, t3⟩ := fld hyl hf 3 rfl (c := 1) (by kernel_rfl) (ds := [a3]) rfl (t := 22) rfl
  obtain ⟨y4, t4⟩ := fld hyl hf 4 rfl (c := 1) (by kernel_rfl) (ds := [a4]) rfl (t := 33) rfl
  obtain ⟨y5, t5⟩ := fld hyl hf 5 rfl (c := 6) (by kernel_rfl) (ds := [a5, a6, a7, a8, a9, a10]) rfl (t := 25) rfl
  obtain ⟨y6, t6⟩ := fld hyl hf 6 rfl (c := 1) (by kernel_rfl) (ds := [a11]) rfl (t := 34) rfl
  obtain ⟨k, hk, _, wk⟩ := DataW.trod_int Tryd.underlying3 t0
  obtain ⟨c, hc, _, hcz⟩ := DataW.trod_string Tryd.underlying9 t1
  obtain ⟨xv, hxv, _, hxz⟩ := DataW.trod_string Tryd.underlying9 t2
  simp only [List.cons.injEq, and_true] at hk hc hxv
  subst hk hc hxv
  obtain ⟨ls, hls⟩ := strs_open t3
  obtain ⟨vs, hvs⟩ := vls_open t4
  obtain ⟨t, tl, tk, et, hft, hlt⟩ := ty_open _ _ _ t5
  simp only [tyCells, List.cons.injEq, and_true] at et
  obtain ⟨rfl, rfl, rfl, rfl, rfl, rfl⟩ := et
  obtain ⟨a, len, cap, rfl, hl, hm, hi⟩ := slice_of Tryd.underlying34 t6
  rw [procCellsOf] at hi
  obtain ⟨ps, hn, hrow, hall⟩ := rows_of (fun (p : Pr) b o => p.fine ∧ PrAt (fun k => k < W.heap.size) W p b o) (by omega) hi (fun n cs y hn _ ht => by
    obtain ⟨p, lv, av, tl, tk, kv, rfl, hfine, hlies⟩ := ih n (by omega) cs y ht
    exact ⟨p, fun b o hb hc => ⟨hfine, prAt_of hb (hc 0 _ rfl) (hc 1 _ rfl) (hc 2 _ rfl) (hc 3 _ rfl) (hc 4 _ rfl) (hc 5 _ rfl) (hc 6 _ rfl) (hc 7 _ rfl) (hc 8 _ rfl) (hc 9 _ rfl) (hc 10 _ rfl) (hc 11 _ rfl) hlies⟩⟩)
  refine ⟨.mk k c xv ls vs t ps, a3, a4, a9, a10, .slice a len cap, rfl, ⟨wf_in wk, hft, Pr.fines_of ps (fun u hu => ?_)⟩, _, _, _, _, _, rfl, ⟨hcz, hxz⟩, hls, hvs, hlt, ?_, by show ps.length ≤ _; omega⟩
  · obtain ⟨b, o, hq⟩ := hall u hu
    exact hq.1
  · show _ ∨ _
    rcases hrow with rfl | ⟨b, o, rfl, hb, hrow⟩
    · exact .inl ⟨⟨a, cap, by rw [← hn]; rfl⟩, rfl⟩
    · exact .inr ⟨b, o, cap, by show Value.slice _ _ _ = Value.slice _ ps.length _; rw [hn], hb, prsAt_of (fun i p hi' => (hrow i p hi').2)⟩

set_option maxRecDepth 100000 in
/-- A process that came in. -/
theorem proc_open {H : Type} {enc : TypeId × Value → H} {W : World} {base : Nat} {spare : Nat → Bool} {held : Bool} {v : Value} {d : DataW H} {p : List MemPlace} {b0 : Nat} (hv : Value.okWide Tryd.prog W .any b0 36 v) (h : DataW.Trod enc Tryd.prog W base spare held 36 v d p) :
    ∃ t, t.fine ∧ PLies W v t := by
  obtain ⟨fuel, hf⟩ := h
  unfold Value.okWide at hv
  rw [Tryd.underlying36] at hv
  obtain ⟨cs, rfl, _, _⟩ := hv
  obtain ⟨t, lv, av, tl, tk, kv, e, hfine, hl⟩ := pr_open fuel _ _ hf
  have e' : cs.toList = prCells t lv av tl tk kv := e
  have : cs = (prCells t lv av tl tk kv).toArray := by rw [← e']
  rw [this]
  exact ⟨t, hfine, hl⟩

set_option maxRecDepth 100000 in
theorem pms_open {H : Type} {enc : TypeId × Value → H} {W : World} {base : Nat} {spare : Nat → Bool} {held : Bool} {fuel : Nat} {v : Value} {x : DataW H × List MemPlace} (h : DataW.trod enc Tryd.prog W base spare held fuel 78 [v] = some x) :
    ∃ ms, (∀ a ∈ ms, Ty.fine a.t) ∧ PmSl (fun k => k < W.heap.size) W v ms := by
  obtain ⟨a, len, cap, rfl, hl, hm, hi⟩ := slice_of Tryd.underlying78 h
  rw [paramCellsOf] at hi
  obtain ⟨ms, hn, hrow, hall⟩ := rows_of (fun (a : Pm) b o => a.t.fine ∧ PmAt (fun k => k < W.heap.size) W a b o) (by omega) hi (fun n cs y _ hcl ht => by
    obtain ⟨ys, n', hn', hD, hcl2, hyl, hf⟩ := DataW.trod_struct Tryd.underlying82 ht
    obtain ⟨a0, a1, a2, a3, a4, a5, a6, rfl⟩ := list7 hcl
    obtain ⟨y0, t0⟩ := fld hyl hf 0 rfl (c := 1) (by kernel_rfl) (ds := [a0]) rfl (t := 9) rfl
    obtain ⟨y1, t1⟩ := fld hyl hf 1 rfl (c := 6) (by kernel_rfl) (ds := [a1, a2, a3, a4, a5, a6]) rfl (t := 25) rfl
    obtain ⟨nm, hnm, _, hnz⟩ := DataW.trod_string Tryd.underlying9 t0
    simp only [List.cons.injEq, and_true] at hnm
    subst hnm
    obtain ⟨t, tl, tk, et, hft, hlt⟩ := ty_open _ _ _ t1
    simp only [tyCells, List.cons.injEq, and_true] at et
    obtain ⟨rfl, rfl, rfl, rfl, rfl, rfl⟩ := et
    refine ⟨⟨nm, t⟩, fun b o hb hc => ⟨hft, hnz, hc 0 _ rfl, ?_⟩⟩
    exact tyAt_of hb (hc 1 _ rfl) (hc 2 _ rfl) (hc 3 _ rfl) (hc 4 _ rfl) (hc 5 _ rfl) (hc 6 _ rfl) hlt)
  refine ⟨ms, fun u hu => ?_, ?_, by omega⟩
  · obtain ⟨b, o, hq⟩ := hall u hu
    exact hq.1
  · rcases hrow with rfl | ⟨b, o, rfl, hb, hrow⟩
    · exact .inl ⟨⟨a, cap, by rw [← hn]; rfl⟩, rfl⟩
    · exact .inr ⟨b, o, cap, by rw [hn], hb, fun j a hj => (hrow j a hj).2⟩

set_option maxRecDepth 100000 in
theorem dfs_open {H : Type} {enc : TypeId × Value → H} {W : World} {base : Nat} {spare : Nat → Bool} {held : Bool} {fuel : Nat} {v : Value} {x : DataW H × List MemPlace} (h : DataW.trod enc Tryd.prog W base spare held fuel 37 [v] = some x) :
    ∃ ds, (∀ d ∈ ds, Df.fine d) ∧ DfSl (fun k => k < W.heap.size) W v ds := by
  obtain ⟨a, len, cap, rfl, hl, hm, hi⟩ := slice_of Tryd.underlying37 h
  rw [defCellsOf] at hi
  obtain ⟨ds, hn, hrow, hall⟩ := rows_of (fun (d : Df) b o => d.fine ∧ DfAt (fun k => k < W.heap.size) W d b o) (by omega) hi (fun n cs y _ hcl ht => by
    obtain ⟨ys, n', hn', hD, hcl2, hyl, hf⟩ := DataW.trod_struct Tryd.underlying80 ht
    obtain ⟨a0, a1, r, rfl, hr⟩ := list14 hcl
    obtain ⟨y0, t0⟩ := fld hyl hf 0 rfl (c := 1) (by kernel_rfl) (ds := [a0]) rfl (t := 9) rfl
    obtain ⟨y1, t1⟩ := fld hyl hf 1 rfl (c := 1) (by kernel_rfl) (ds := [a1]) rfl (t := 78) rfl
    obtain ⟨y2, t2⟩ := fld hyl hf 2 rfl (c := 12) (by kernel_rfl) (ds := r) (List.take_of_length_le (by show r.length ≤ 12; omega)) (t := 36) rfl
    obtain ⟨nm, hnm, _, hnz⟩ := DataW.trod_string Tryd.underlying9 t0
    simp only [List.cons.injEq, and_true] at hnm
    subst hnm
    obtain ⟨ms, hfm, hms⟩ := pms_open t1
    obtain ⟨p, lv, av, tl, tk, kv, rfl, hfp, hlp⟩ := pr_open _ _ _ t2
    refine ⟨⟨nm, ms, p⟩, fun b o hb hc => ⟨⟨hfm, hfp⟩, hnz, hc 0 _ rfl, ⟨a1, hc 1 _ rfl, hms⟩, ?_⟩⟩
    exact prAt_of hb (hc 2 _ rfl) (hc 3 _ rfl) (hc 4 _ rfl) (hc 5 _ rfl) (hc 6 _ rfl) (hc 7 _ rfl) (hc 8 _ rfl) (hc 9 _ rfl) (hc 10 _ rfl) (hc 11 _ rfl) (hc 12 _ rfl) (hc 13 _ rfl) hlp)
  refine ⟨ds, fun u hu => ?_, ?_, by omega⟩
  · obtain ⟨b, o, hq⟩ := hall u hu
    exact hq.1
  · rcases hrow with rfl | ⟨b, o, rfl, hb, hrow⟩
    · exact .inl ⟨⟨a, cap, by rw [← hn]; rfl⟩, rfl⟩
    · exact .inr ⟨b, o, cap, by rw [hn], hb, fun j a hj => (hrow j a hj).2⟩

set_option maxRecDepth 100000 in
/-- A program that came in. -/
theorem prog_open {H : Type} {enc : TypeId × Value → H} {W : World} {base : Nat} {spare : Nat → Bool} {held : Bool} {v : Value} {d : DataW H} {p : List MemPlace} {b0 : Nat} (hv : Value.okWide Tryd.prog W .any b0 39 v) (h : DataW.Trod enc Tryd.prog W base spare held 39 v d p) :
    ∃ g, Pg.fine g ∧ GLies W v g := by
  obtain ⟨fuel, hf⟩ := h
  unfold Value.okWide at hv
  rw [Tryd.underlying39] at hv
  obtain ⟨cs, rfl, _, _⟩ := hv
  obtain ⟨ys, n', hn', hD, hcl, hyl, hf⟩ := DataW.trod_struct Tryd.underlying39 hf
  rw [programCellsOf] at hcl
  obtain ⟨cl, hcs⟩ : ∃ cl, cs = List.toArray cl := ⟨cs.toList, rfl⟩
  subst hcs
  obtain ⟨a0, r, rfl, hr⟩ := list13 hcl
  obtain ⟨y0, t0⟩ := fld hyl hf 0 rfl (c := 1) (by kernel_rfl) (ds := [a0]) rfl (t := 37) rfl
  obtain ⟨y1, t1⟩ := fld hyl hf 1 rfl (c := 12) (by kernel_rfl) (ds := r) (List.take_of_length_le (by show r.length ≤ 12; omega)) (t := 36) rfl
  obtain ⟨ds, hfd, hds⟩ := dfs_open t0
  obtain ⟨p, lv, av, tl, tk, kv, rfl, hfp, hlp⟩ := pr_open _ _ _ t1
  exact ⟨⟨ds, p⟩, ⟨hfd, hfp⟩, a0, lv, av, tl, tk, kv, rfl, hds, hlp⟩

end Go.Proofs.YtipjjhkgcbabnaaDoor

/- Processes: the reference's measures. -/
namespace Go.Proofs.YtipjjhkgcbabnaaDoor
open Go.RowKit

set_option maxHeartbeats 1000000 in
theorem prsize_step (B : Nat → Prop) (p : Pr) (lv av tl tk kv : Value) (hts : Pr.sizes p.ps ≤ 1000000)
    (ih : ∀ u ∈ p.ps, ∀ (v : Value) (w : World), Low B w → PrVal B w v u → Calls Tryd.prog 26 #[v] w fun e w' => e = .returned (.int .i64 u.size) ∧ Below w.heap.size w w')
    (w : World) (hB : Low B w) (hk : PrSl B w kv p.ps) :
    Calls Tryd.prog 26 #[prAgg p lv av tl tk kv] w fun e w' => e = .returned (.int .i64 ((Pr.sizes p.ps + 1 : Nat) : Int)) ∧ Below w.heap.size w w' := by
  obtain ⟨pa, len, c, rfl, hlen, hm, hget⟩ := hk.open
  have HG := Lib.hid hget
  have HIH := Lib.hid ih
  clear hget hk ih
  obtain ⟨ps, hps⟩ : ∃ ps, p.ps = ps := ⟨_, rfl⟩
  rw [hps] at HG hlen hts HIH ⊢
  clear hps
  unfold prAgg
  go_enter Tryd.func26, Tryd.ntmps26
  go_wp2_with fail
  go_loopw [3, 4] (fun a i wr => ∃ j : Nat, i = .int .i64 j ∧ j ≤ len ∧ a = .int .i64 ((Pr.sizes (ps.take j) + 1 : Nat) : Int) ∧ Below (w.heap.size + 1) (w.alloc (cell12 p lv av tl tk (.slice pa len c))) wr) (fun _ i _ => len - (intOf i).toNat)
  case atStart => exact ⟨0, rfl, by omega, by simp [Pr.sizes], Below.refl _ _⟩
  case round =>
    obtain ⟨j, rfl, hj, rfl, hb⟩ := hrel
    have c11 : wr.cell? ⟨w.heap.size, 11, none⟩ = some (.slice pa len c) := blk_cell hb 11 rfl
    have hw := blk_below hb
    by_cases hlt : j < len
    · obtain ⟨t, ht⟩ : ∃ t, ps[j]? = some t := ⟨_, List.getElem?_eq_getElem (by rw [← hlen.out]; exact hlt)⟩
      obtain ⟨kb, ko, rfl, hkb, hty⟩ := HG.out j t ht
      obtain ⟨la', ln', lc', aa', an', ac', ta', tn', tc', ua', un', uc', ka', kn', kc', ⟨d0, d1, d2, d3, d4, d5, d6, d7, d8, d9, d10, d11⟩, hval⟩ := (hty.keep (hw.keeps'.mono hB)).load'
      have hsz := Pr.sizes_take ht
      have hle := Pr.sizes_take_le ps (j + 1)
      have IH := Lib.hid (HIH.out t (List.mem_of_getElem? ht) _ wr (hB.le hw.size) hval)
      obtain ⟨a0, ha0⟩ : ∃ a0, Pr.sizes (ps.take j) + 1 = a0 := ⟨_, rfl⟩
      have HA := Lib.hid hsz
      have ha1 : a0 + t.size ≤ 1000001 := by omega
      have HA0 := Lib.hid ha0
      rw [ha0]
      unfold prAgg at IH
      clear hsz ha0 ht hval hty
      go_wp2_with (go_at_call 26; refine IH.out.mono ?_; rintro e w1 ⟨rfl, hb1⟩)
      go_roundw
      case rel => exact ⟨j + 1, by go_num, by omega, ret_val (by rw [HA.out]; have := HA0.out; omega), hb.trans (hb1.mono (by have := hb.size; simpa using this))⟩
      case measure => simp [intOf]; omega
    · obtain rfl : j = len := by omega
      go_wp2_with fail
      go_ret
      exact ⟨ret_int (by rw [List.take_of_length_le (by rw [hlen.out]; exact Nat.le_refl _)]), hw⟩

theorem prsize_any (B : Nat → Prop) : ∀ (p : Pr), p.size ≤ 1000000 → ∀ (v : Value) (w : World), Low B w → PrVal B w v p → Calls Tryd.prog 26 #[v] w fun e w' => e = .returned (.int .i64 p.size) ∧ Below w.heap.size w w' := by
  refine Pr.ind ?_
  intro k c x ls vs t ps ih hsz v w hB hv
  obtain ⟨lv, av, tl, tk, kv, rfl, _, _, _, _, hk⟩ := hv
  have h1 : Pr.sizes ps ≤ 1000000 := by rw [Pr.size_eq] at hsz; simp only [Pr.ps] at hsz; omega
  have := prsize_step B (.mk k c x ls vs t ps) lv av tl tk kv h1 (fun u hu => ih u hu (Nat.le_trans (Pr.size_mem hu) h1)) w hB hk
  rw [Pr.size_eq]; exact this

set_option maxHeartbeats 1000000 in
theorem prdepth_step (B : Nat → Prop) (p : Pr) (lv av tl tk kv : Value) (hts : Pr.depths p.ps ≤ 1000000)
    (ih : ∀ u ∈ p.ps, ∀ (v : Value) (w : World), Low B w → PrVal B w v u → Calls Tryd.prog 28 #[v] w fun e w' => e = .returned (.int .i64 u.depth) ∧ Below w.heap.size w w')
    (w : World) (hB : Low B w) (hk : PrSl B w kv p.ps) :
    Calls Tryd.prog 28 #[prAgg p lv av tl tk kv] w fun e w' => e = .returned (.int .i64 ((Pr.depths p.ps + 1 : Nat) : Int)) ∧ Below w.heap.size w w' := by
  obtain ⟨pa, len, c, rfl, hlen, hm, hget⟩ := hk.open
  have HG := Lib.hid hget
  have HIH := Lib.hid ih
  clear hget hk ih
  obtain ⟨ps, hps⟩ : ∃ ps, p.ps = ps := ⟨_, rfl⟩
  rw [hps] at HG hlen hts HIH ⊢
  clear hps
  unfold prAgg
  go_enter Tryd.func28, Tryd.ntmps28
  go_wp2_with fail
  go_loopw [3, 4] (fun a i wr => ∃ j : Nat, i = .int .i64 j ∧ j ≤ len ∧ a = .int .i64 ((Pr.depths (ps.take j) : Nat) : Int) ∧ Below (w.heap.size + 1) (w.alloc (cell12 p lv av tl tk (.slice pa len c))) wr) (fun _ i _ => len - (intOf i).toNat)
  case atStart => exact ⟨0, rfl, by omega, by simp [Pr.depths], Below.refl _ _⟩
  case round =>
    obtain ⟨j, rfl, hj, rfl, hb⟩ := hrel
    have c11 : wr.cell? ⟨w.heap.size, 11, none⟩ = some (.slice pa len c) := blk_cell hb 11 rfl
    have hw := blk_below hb
    by_cases hlt : j < len
    · obtain ⟨t, ht⟩ : ∃ t, ps[j]? = some t := ⟨_, List.getElem?_eq_getElem (by rw [← hlen.out]; exact hlt)⟩
      obtain ⟨kb, ko, rfl, hkb, hty⟩ := HG.out j t ht
      obtain ⟨la', ln', lc', aa', an', ac', ta', tn', tc', ua', un', uc', ka', kn', kc', ⟨d0, d1, d2, d3, d4, d5, d6, d7, d8, d9, d10, d11⟩, hval⟩ := (hty.keep (hw.keeps'.mono hB)).load'
      have hsz := Pr.depths_take ht
      have hle := Pr.depths_take_le ps (j + 1)
      have IH := Lib.hid (HIH.out t (List.mem_of_getElem? ht) _ wr (hB.le hw.size) hval)
      obtain ⟨a0, ha0⟩ : ∃ a0, Pr.depths (ps.take j) = a0 := ⟨_, rfl⟩
      have HA := Lib.hid hsz
      have ha1 : max a0 t.depth ≤ 1000000 := by omega
      have HA0 := Lib.hid ha0
      rw [ha0]
      unfold prAgg at IH
      clear hsz ha0 ht hval hty
      go_wp2_with (go_at_call 28; refine IH.out.mono ?_; rintro e w1 ⟨rfl, hb1⟩)
      go_roundw
      case rel => exact ⟨j + 1, by go_num, by omega, ret_val (by rw [HA.out]; have := HA0.out; omega), hb.trans (hb1.mono (by have := hb.size; simpa using this))⟩
      case measure => simp [intOf]; omega
    · obtain rfl : j = len := by omega
      have hle := Pr.depths_take_le ps j
      go_wp2_with fail
      go_ret
      exact ⟨ret_int (by rw [List.take_of_length_le (by rw [hlen.out]; exact Nat.le_refl _)]; omega), hw⟩

theorem prdepth_any (B : Nat → Prop) : ∀ (p : Pr), p.depth ≤ 1000000 → ∀ (v : Value) (w : World), Low B w → PrVal B w v p → Calls Tryd.prog 28 #[v] w fun e w' => e = .returned (.int .i64 p.depth) ∧ Below w.heap.size w w' := by
  refine Pr.ind ?_
  intro k c x ls vs t ps ih hsz v w hB hv
  obtain ⟨lv, av, tl, tk, kv, rfl, _, _, _, _, hk⟩ := hv
  have h1 : Pr.depths ps ≤ 1000000 := by rw [Pr.depth_eq] at hsz; simp only [Pr.ps] at hsz; omega
  have := prdepth_step B (.mk k c x ls vs t ps) lv av tl tk kv h1 (fun u hu => ih u hu (Nat.le_trans (Pr.depth_mem hu) h1)) w hB hk
  rw [Pr.depth_eq]; exact this

end Go.Proofs.YtipjjhkgcbabnaaDoor

/- Processes: the reference's types, left, Few. -/
namespace Go.Proofs.YtipjjhkgcbabnaaDoor
open Go.RowKit

mutual
/-- The nodes of the types that stand at PNew. -/
def Pr.typ : Pr → Nat
  | .mk k _ _ _ _ t ps => (if k = 6 then t.size else 0) + Pr.typs ps
def Pr.typs : List Pr → Nat
  | [] => 0
  | p :: r => p.typ + Pr.typs r
end
def Pr.typ0 (p : Pr) : Nat := if p.k = 6 then p.t.size else 0
theorem Pr.typ_eq (p : Pr) : p.typ = p.typ0 + Pr.typs p.ps := by
  cases p
  rename_i k _ _ _ _ _ _
  by_cases h : k = 6 <;> simp [Pr.typ, Pr.ps, Pr.typ0, Pr.k, Pr.t, h]
theorem Pr.typs_append (l r : List Pr) : Pr.typs (l ++ r) = Pr.typs l + Pr.typs r := by
  induction l with
  | nil => simp [Pr.typs]
  | cons t l ih => simp only [List.cons_append, Pr.typs, ih]; omega
theorem Pr.typs_take {l : List Pr} {i : Nat} {p : Pr} (h : l[i]? = some p) : Pr.typs (l.take (i + 1)) = Pr.typs (l.take i) + p.typ := by
  rw [take_snoc_get h, Pr.typs_append]; simp [Pr.typs]
theorem Pr.typs_take_le (l : List Pr) (i : Nat) : Pr.typs (l.take i) ≤ Pr.typs l := by
  have := Pr.typs_append (l.take i) (l.drop i); rw [List.take_append_drop] at this; omega
theorem Pr.typ_mem {l : List Pr} {p : Pr} (h : p ∈ l) : p.typ ≤ Pr.typs l := by
  induction l with
  | nil => cases h
  | cons u l ih =>
    simp only [Pr.typs]
    rcases List.mem_cons.1 h with rfl | h
    · omega
    · have := ih h; omega

mutual
/-- All types are small. -/
def Pr.tf : Pr → Prop
  | .mk _ _ _ _ _ t ps => t.few 300 = true ∧ Pr.tfs ps
def Pr.tfs : List Pr → Prop
  | [] => True
  | p :: r => p.tf ∧ Pr.tfs r
end
theorem Pr.tf_t {p : Pr} (h : p.tf) : p.t.few 300 = true := by cases p; exact h.1
theorem Pr.tfs_mem : ∀ {l : List Pr}, Pr.tfs l → ∀ u ∈ l, u.tf
  | [], _, _, hu => by cases hu
  | t :: r, h, u, hu => by
    rcases List.mem_cons.1 hu with rfl | hu
    · exact h.1
    · exact Pr.tfs_mem h.2 u hu
theorem Pr.tf_ps {p : Pr} (h : p.tf) : ∀ u ∈ p.ps, u.tf := by cases p; exact Pr.tfs_mem h.2
theorem Pr.tf_size {p : Pr} (h : p.tf) : p.t.size ≤ 300 := (few_size (Pr.tf_t h)).1
theorem Pr.tf_depth {p : Pr} (h : p.tf) : p.t.depth ≤ 150 := (few_size (Pr.tf_t h)).2

set_option maxHeartbeats 2000000 in
theorem prtyp_step (B : Nat → Prop) (p : Pr) (lv av tl tk kv : Value) (hts : p.typ ≤ 1000000000) (hsz : p.t.size ≤ 1000000)
    (ih : ∀ u ∈ p.ps, ∀ (v : Value) (w : World), Low B w → PrVal B w v u → Calls Tryd.prog 62 #[v] w fun e w' => e = .returned (.int .i64 u.typ) ∧ Below w.heap.size w w')
    (w : World) (hB : Low B w) (hty : TyVal B w (.agg #[.int .i64 p.t.k, .int .i64 p.t.p, .string p.t.n, .int .i64 p.t.s, tl, tk]) p.t) (hk : PrSl B w kv p.ps) :
    Calls Tryd.prog 62 #[prAgg p lv av tl tk kv] w fun e w' => e = .returned (.int .i64 (p.typ : Int)) ∧ Below w.heap.size w w' := by
  have hb0 : Below w.heap.size w (w.alloc (cell12 p lv av tl tk kv)) := (Below.refl _ _).alloc (Nat.le_refl _) _
  have HSz : Hid (p.k = 6 → Calls Tryd.prog 15 #[.agg #[.int .i64 p.t.k, .int .i64 p.t.p, .string p.t.n, .int .i64 p.t.s, tl, tk]] (w.alloc (cell12 p lv av tl tk kv)) fun e w' => e = .returned (.int .i64 ((p.typ0 : Nat) : Int)) ∧ Below (w.alloc (cell12 p lv av tl tk kv)).heap.size (w.alloc (cell12 p lv av tl tk kv)) w') := Lib.hid (fun h => by
    have e : p.typ0 = p.t.size := by unfold Pr.typ0; rw [if_pos h]
    rw [e]
    exact rsize_any B p.t hsz _ _ (hB.le hb0.size) (hty.keep (hb0.keeps'.mono hB)))
  have HZ : Hid (p.k ≠ 6 → p.typ0 = 0) := Lib.hid (fun h => by unfold Pr.typ0; rw [if_neg h])
  have hte := p.typ_eq
  obtain ⟨pa, len, c, rfl, hlen, hm, hget⟩ := hk.open
  have HG := Lib.hid hget
  have HIH := Lib.hid ih
  obtain ⟨ps, hps⟩ : ∃ ps, p.ps = ps := ⟨_, rfl⟩
  obtain ⟨z, hz⟩ : ∃ z, p.typ0 = z := ⟨_, rfl⟩
  obtain ⟨q, hq⟩ : ∃ q, p.typ = q := ⟨_, rfl⟩
  rw [hps] at HG hlen HIH hte
  rw [hz] at HSz HZ hte
  rw [hq] at hts hte ⊢
  have HTE := Lib.hid hte
  have hzz : z ≤ 1000000000 := by omega
  have hte2 : z + Pr.typs ps ≤ 1000000000 := by omega
  obtain ⟨tla, tln, tlc, htl⟩ : ∃ a n c, tl = .slice a n c := by
    obtain ⟨lv', kv', e, _, hl, hk2⟩ := hty
    simp only [Value.agg.injEq, Array.mk.injEq, List.cons.injEq, and_true, true_and] at e
    obtain ⟨rfl, rfl⟩ := e
    obtain ⟨a, n, c, e, _⟩ := hl.open
    exact ⟨a, n, c, e⟩
  obtain ⟨tka, tkn, tkc, htk⟩ : ∃ a n c, tk = .slice a n c := by
    obtain ⟨lv', kv', e, _, hl, hk2⟩ := hty
    simp only [Value.agg.injEq, Array.mk.injEq, List.cons.injEq, and_true, true_and] at e
    obtain ⟨rfl, rfl⟩ := e
    obtain ⟨a, n, c, e, _⟩ := hk2.open
    exact ⟨a, n, c, e⟩
  subst htl htk
  clear hget hk ih hps hz hq hte hty hb0
  unfold prAgg
  by_cases h6 : p.k = 6
  all_goals
    first
      | (have h6' : (p.k == 6) = true := by simpa using h6
         have HS1 := Lib.hid (HSz.out h6)
         have HZ1 : Hid (z = z) := Lib.hid rfl)
      | (have h6' : (p.k == 6) = false := by simpa using h6
         have HZ1 := Lib.hid (HZ.out h6))
    clear HSz HZ h6
    go_enter Tryd.func62, Tryd.ntmps62
    go_wp2_with (go_at_call 15; refine HS1.out.mono ?_; rintro e w1 ⟨rfl, hb1⟩)
    go_loopw [3, 4] (fun a i wr => ∃ j : Nat, i = .int .i64 j ∧ j ≤ len ∧ a = .int .i64 ((z + Pr.typs (ps.take j) : Nat) : Int) ∧ Below (w.heap.size + 1) (w.alloc (cell12 p lv av (.slice tla tln tlc) (.slice tka tkn tkc) (.slice pa len c))) wr) (fun _ i _ => len - (intOf i).toNat)
    case atStart => first | exact ⟨0, rfl, by omega, by simp [Pr.typs], by simpa using hb1⟩ | exact ⟨0, rfl, by omega, by simp [Pr.typs, HZ1.out], Below.refl _ _⟩
    case round =>
      obtain ⟨j, rfl, hj, rfl, hb⟩ := hrel
      have c11 : wr.cell? ⟨w.heap.size, 11, none⟩ = some (.slice pa len c) := blk_cell hb 11 rfl
      have hw := blk_below hb
      by_cases hlt : j < len
      · obtain ⟨t, ht⟩ : ∃ t, ps[j]? = some t := ⟨_, List.getElem?_eq_getElem (by rw [← hlen.out]; exact hlt)⟩
        obtain ⟨kb, ko, rfl, hkb, hty⟩ := HG.out j t ht
        obtain ⟨la', ln', lc', aa', an', ac', ta', tn', tc', ua', un', uc', ka', kn', kc', ⟨d0, d1, d2, d3, d4, d5, d6, d7, d8, d9, d10, d11⟩, hval⟩ := (hty.keep (hw.keeps'.mono hB)).load'
        have hsz := Pr.typs_take ht
        have hle := Pr.typs_take_le ps (j + 1)
        have IH := Lib.hid (HIH.out t (List.mem_of_getElem? ht) _ wr (hB.le hw.size) hval)
        obtain ⟨a0, ha0⟩ : ∃ a0, z + Pr.typs (ps.take j) = a0 := ⟨_, rfl⟩
        have HA := Lib.hid hsz
        have ha1 : a0 + t.typ ≤ 1000000000 := by omega
        have HA0 := Lib.hid ha0
        rw [ha0]
        unfold prAgg at IH
        clear hsz ha0 ht hval hty
        go_wp2_with (go_at_call 62; refine IH.out.mono ?_; rintro e w2 ⟨rfl, hb2⟩)
        go_roundw
        case rel => exact ⟨j + 1, by go_num, by omega, ret_val (by rw [HA.out]; have := HA0.out; omega), hb.trans (hb2.mono (by have := hb.size; simpa using this))⟩
        case measure => simp [intOf]; omega
      · obtain rfl : j = len := by omega
        go_wp2_with fail
        go_ret
        exact ⟨ret_int (by rw [List.take_of_length_le (by rw [hlen.out]; exact Nat.le_refl _), ← HTE.out]), hw⟩

theorem prtyp_any (B : Nat → Prop) : ∀ (p : Pr), p.tf → p.typ ≤ 1000000000 → ∀ (v : Value) (w : World), Low B w → PrVal B w v p → Calls Tryd.prog 62 #[v] w fun e w' => e = .returned (.int .i64 p.typ) ∧ Below w.heap.size w w' := by
  refine Pr.ind ?_
  intro k c x ls vs t ps ih htf hsz v w hB hv
  obtain ⟨lv, av, tl, tk, kv, rfl, _, _, _, hty, hk⟩ := hv
  have h1 : Pr.typs ps ≤ 1000000000 := by rw [Pr.typ_eq] at hsz; simp only [Pr.ps] at hsz; omega
  exact prtyp_step B (.mk k c x ls vs t ps) lv av tl tk kv hsz (by have := Pr.tf_size htf; omega) (fun u hu => ih u hu (Pr.tf_ps htf u hu) (Nat.le_trans (Pr.typ_mem hu) h1)) w hB hty hk

end Go.Proofs.YtipjjhkgcbabnaaDoor
