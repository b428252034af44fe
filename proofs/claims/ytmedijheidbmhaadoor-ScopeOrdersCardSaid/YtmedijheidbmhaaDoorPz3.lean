/- Processes: the program's table of rules, made. (and what follows from it) -/
import Derived.Test.YtmedijheidbmhaaDoorPz2
import Derived.Test.YtmedijheidbmhaaDoorPrC
import Derived.Test.YtmedijheidbmhaaDoorTyG
import Derived.Test.YtmedijheidbmhaaDoorPrM
import Derived.Test.YtmedijheidbmhaaDoorPz1
import Derived.Test.YtmedijheidbmhaaDoorRows
import Derived.Test.YtmedijheidbmhaaDoorPrB
import Derived.Maps.OwnSet
import Derived.Maps.OwnOps
import Derived.Deep.RegionWith
import Derived.LaidLaws
import Derived.LaidMore
import Derived.MakeChecks
import Derived.OpenShut
import Derived.ChangeArms
import Derived.WalkKit
import Derived.ProofKit
import Derived.Deep.DeepHandedRow
import Derived.Deep.Slices
import Derived.Deep.Fields
import Derived.ChangeSame
import Derived.Carry

/- Processes: the program's table of rules, made. -/
namespace Go.Proofs.YtmedijheidbmhaaDoor
open Go.RowKit Go.Deep Go.Shelf

def pknK (k : Int) : Bool := decide (1 ≤ k) && decide (k ≤ 8)
def pruleVal (k : Int) : Value :=
  if k = 2 then .agg #[.func (.func 53) #[] #[], .nilFunc, .nilFunc, .func (.func 54) #[] #[], .nilFunc, .func (.func 55) #[] #[]]
  else if k = 3 then .agg #[.func (.func 53) #[] #[], .func (.func 56) #[] #[], .nilFunc, .nilFunc, .nilFunc, .func (.func 55) #[] #[]]
  else if k = 4 then .agg #[.func (.func 53) #[] #[], .nilFunc, .func (.func 57) #[] #[], .nilFunc, .nilFunc, .func (.func 55) #[] #[]]
  else if k = 5 then .agg #[.func (.func 53) #[] #[], .nilFunc, .func (.func 58) #[] #[], .nilFunc, .nilFunc, .func (.func 59) #[] #[]]
  else if k = 6 then .agg #[.func (.func 53) #[] #[], .func (.func 60) #[] #[], .nilFunc, .nilFunc, .func (.func 61) #[] #[], .func (.func 55) #[] #[]]
  else if k = 7 then .agg #[.nilFunc, .nilFunc, .nilFunc, .nilFunc, .nilFunc, .func (.func 62) #[] #[]]
  else if k = 8 then .agg #[.func (.func 53) #[] #[], .nilFunc, .nilFunc, .func (.func 63) #[] #[], .nilFunc, .nilFunc]
  else .agg #[.nilFunc, .nilFunc, .nilFunc, .nilFunc, .nilFunc, .nilFunc]
def pruleF : Lit → Option Value
  | .int .i64 k => if pknK k then some (pruleVal k) else none
  | _ => none
def PRulesAt (w : World) (b : Nat) : Prop := MapIs w 3 b 8 pruleF
theorem pruleInfo : (Tryd.prog.info? 92).map (fun i => (i.zero, i.size, i.bytes)) = some (some (.agg #[.nilFunc, .nilFunc, .nilFunc, .nilFunc, .nilFunc, .nilFunc]), 6, 48) := by kernel_rfl
theorem zero_prule (w : World) : (zeroValue 92).run Tryd.prog w = .ok (.agg #[.nilFunc, .nilFunc, .nilFunc, .nilFunc, .nilFunc, .nilFunc]) w := by
  obtain ⟨i0, hi, hz0, hz1, hz2⟩ := info_parts pruleInfo
  simp [zeroValue, typeInfo, hi, hz0]
theorem prule_unknown {k : Int} (h : pknK k = false) : pruleVal k = .agg #[.nilFunc, .nilFunc, .nilFunc, .nilFunc, .nilFunc, .nilFunc] := by
  have h1 : ¬ (1 ≤ k ∧ k ≤ 8) := by simpa [pknK] using h
  unfold pruleVal
  rw [if_neg (by omega), if_neg (by omega), if_neg (by omega), if_neg (by omega), if_neg (by omega), if_neg (by omega), if_neg (by omega)]
theorem PRulesAt.look_ok {w : World} {b : Nat} (h : PRulesAt w b) {k : Int} (h1 : -9223372036854775808 ≤ k) (h2 : k ≤ 9223372036854775807) : (Instr.lookup 86 (.map (some b)) (.int .i64 k) true).run Tryd.prog w = .ok (.tuple #[pruleVal k, .bool (pknK k)]) w := by
  rw [MapIs.look_ok h intKeyed Tryd.underlying86 (zero_prule w) (key_int h1 h2)]
  simp only [pruleF]
  cases hk : pknK k with
  | true => rfl
  | false => rw [prule_unknown hk]; rfl
theorem run_makeMap_prules (w : World) : (Instr.makeMap 86 none).run Tryd.prog w = .ok (.map (some w.heap.size)) (w.alloc (.map #[] 0)) := by
  simp [Instr.makeMap]

open Classical in
set_option maxHeartbeats 2000000 in
theorem prules_any (w : World) :
    Calls Tryd.prog 41 #[] w fun e w' => ∃ b, e = .returned (.map (some b)) ∧ PRulesAt w' b ∧ Below w.heap.size w w' ∧ w.heap.size ≤ b := by
  have hmk := run_makeMap_prules w
  have m0 := MapIs.made w 3
  obtain ⟨w1, u1, m1, g1⟩ := m0.put intKeyed Tryd.underlying86 (by unfold maxLen; omega) (key_int (a := 1) (by omega) (by omega)) trivial (val := .agg #[.nilFunc, .nilFunc, .nilFunc, .nilFunc, .nilFunc, .nilFunc])
  obtain ⟨w2, u2, m2, g2⟩ := m1.put intKeyed Tryd.underlying86 (by unfold maxLen; omega) (key_int (a := 2) (by omega) (by omega)) trivial (val := .agg #[.func (.func 53) #[] #[], .nilFunc, .nilFunc, .func (.func 54) #[] #[], .nilFunc, .func (.func 55) #[] #[]])
  obtain ⟨w3, u3, m3, g3⟩ := m2.put intKeyed Tryd.underlying86 (by unfold maxLen; omega) (key_int (a := 3) (by omega) (by omega)) trivial (val := .agg #[.func (.func 53) #[] #[], .func (.func 56) #[] #[], .nilFunc, .nilFunc, .nilFunc, .func (.func 55) #[] #[]])
  obtain ⟨w4, u4, m4, g4⟩ := m3.put intKeyed Tryd.underlying86 (by unfold maxLen; omega) (key_int (a := 4) (by omega) (by omega)) trivial (val := .agg #[.func (.func 53) #[] #[], .nilFunc, .func (.func 57) #[] #[], .nilFunc, .nilFunc, .func (.func 55) #[] #[]])
  obtain ⟨w5, u5, m5, g5⟩ := m4.put intKeyed Tryd.underlying86 (by unfold maxLen; omega) (key_int (a := 5) (by omega) (by omega)) trivial (val := .agg #[.func (.func 53) #[] #[], .nilFunc, .func (.func 58) #[] #[], .nilFunc, .nilFunc, .func (.func 59) #[] #[]])
  obtain ⟨w6, u6, m6, g6⟩ := m5.put intKeyed Tryd.underlying86 (by unfold maxLen; omega) (key_int (a := 6) (by omega) (by omega)) trivial (val := .agg #[.func (.func 53) #[] #[], .func (.func 60) #[] #[], .nilFunc, .nilFunc, .func (.func 61) #[] #[], .func (.func 55) #[] #[]])
  obtain ⟨w7, u7, m7, g7⟩ := m6.put intKeyed Tryd.underlying86 (by unfold maxLen; omega) (key_int (a := 7) (by omega) (by omega)) trivial (val := .agg #[.nilFunc, .nilFunc, .nilFunc, .nilFunc, .nilFunc, .func (.func 62) #[] #[]])
  obtain ⟨w8, u8, m8, g8⟩ := m7.put intKeyed Tryd.underlying86 (by unfold maxLen; omega) (key_int (a := 8) (by omega) (by omega)) trivial (val := .agg #[.func (.func 53) #[] #[], .nilFunc, .nilFunc, .func (.func 63) #[] #[], .nilFunc, .nilFunc])
  have hb0 : Below w.heap.size w (w.alloc (.map #[] 0)) := (Below.refl _ _).alloc (Nat.le_refl _) _
  have hb1 := hb0.grown g1 hb0.size (fun k e => by cases e; exact Nat.le_refl _)
  have hb2 := hb1.grown g2 hb1.size (fun k e => by cases e; exact Nat.le_refl _)
  have hb3 := hb2.grown g3 hb2.size (fun k e => by cases e; exact Nat.le_refl _)
  have hb4 := hb3.grown g4 hb3.size (fun k e => by cases e; exact Nat.le_refl _)
  have hb5 := hb4.grown g5 hb4.size (fun k e => by cases e; exact Nat.le_refl _)
  have hb6 := hb5.grown g6 hb5.size (fun k e => by cases e; exact Nat.le_refl _)
  have hb7 := hb6.grown g7 hb6.size (fun k e => by cases e; exact Nat.le_refl _)
  have hb8 := hb7.grown g8 hb7.size (fun k e => by cases e; exact Nat.le_refl _)
  have hr : PRulesAt w8 w.heap.size := by
    refine m8.congr (fun l => ?_)
    by_cases hl : ∃ k, l = .int .i64 k
    · obtain ⟨k, rfl⟩ := hl
      simp only [Lit.int.injEq, true_and, pruleF]
      by_cases hk : pknK k
      · rw [if_pos hk]
        have hk' : 1 ≤ k ∧ k ≤ 8 := by simpa [pknK] using hk
        have hcase : k = 1 ∨ k = 2 ∨ k = 3 ∨ k = 4 ∨ k = 5 ∨ k = 6 ∨ k = 7 ∨ k = 8 := by omega
        rcases hcase with rfl | rfl | rfl | rfl | rfl | rfl | rfl | rfl <;> simp [pruleVal]
      · rw [if_neg hk]
        have hk' : ¬ (1 ≤ k ∧ k ≤ 8) := by simpa [pknK] using hk
        rw [if_neg (by omega), if_neg (by omega), if_neg (by omega), if_neg (by omega), if_neg (by omega), if_neg (by omega), if_neg (by omega), if_neg (by omega)]
    · have hne : ∀ k, l ≠ .int .i64 k := fun k e => hl ⟨k, e⟩
      have hn : pruleF l = none := by
        unfold pruleF
        split
        · rename_i k; exact absurd rfl (hne k)
        · rfl
      rw [hn]
      simp only [hne, if_false]
  have HR := Lib.hid hr
  have HB := Lib.hid hb8
  clear m0 m1 m2 m3 m4 m5 m6 m7 m8 g1 g2 g3 g4 g5 g6 g7 g8 hb0 hb1 hb2 hb3 hb4 hb5 hb6 hb7 hb8 hr
  go_enter Tryd.func41, Tryd.ntmps41
  go_wp2_with fail
  go_ret
  exact ⟨_, rfl, HR.out, HB.out, Nat.le_refl _⟩

end Go.Proofs.YtmedijheidbmhaaDoor

/- Processes: what the rule of a kind says of a node. -/
namespace Go.Proofs.YtmedijheidbmhaaDoor
open Go.RowKit Go.Deep Go.Shelf

theorem chk_nil (w : World) (b o : Nat) (e : Bool) : Chk w .nilFunc b o e e := fun W _ => fieldFits_nil _ e W
theorem chk_fn {w : World} {b o : Nat} {e r : Bool} (f : Nat) (eg : ∀ args w, (callFunc f args).run Tryd.prog w = .ok (.enter f args) w) (h : ∀ W, Below w.heap.size w W → Calls Tryd.prog f #[.pointer (some ⟨b, o, none⟩)] W fun en w' => en = .returned (.bool r) ∧ Below W.heap.size W w') :
    Chk w (.func (.func f) #[] #[]) b o e r := fun W hW => fieldFits_fn f eg _ e r W (h W hW)

noncomputable def Pr.r0 (p : Pr) : Bool :=
  if p.k = 2 then (nameB p.c) else if p.k = 3 then (nameB p.c) else if p.k = 4 then (nameB p.c) else if p.k = 5 then (nameB p.c) else if p.k = 6 then (nameB p.c) else if p.k = 8 then (nameB p.c) else p.c.toList.isEmpty
noncomputable def Pr.r1 (p : Pr) : Bool :=
  if p.k = 3 then (nameB p.x) else if p.k = 6 then (nameB p.x && !decide (p.x = p.c)) else p.x.toList.isEmpty
noncomputable def Pr.r2 (p : Pr) : Bool :=
  if p.k = 4 then (decide (p.ls.length = 1) && labelsB p.ls) else if p.k = 5 then (labelsB p.ls && decide (0 < p.ls.length)) else decide (p.ls.length = 0)
noncomputable def Pr.r3 (p : Pr) : Bool :=
  if p.k = 2 then (decide (p.vs.length = 1) && vlsB p.vs) else if p.k = 8 then (vlsB p.vs) else decide (p.vs.length = 0)
noncomputable def Pr.r4 (p : Pr) : Bool :=
  if p.k = 6 then ((p.t.k != 1 && p.t.k != 2) && rightE p.t == 0) else eqB p.t default
noncomputable def Pr.r5 (p : Pr) : Bool :=
  if p.k = 2 then (decide (p.ps.length = 1)) else if p.k = 3 then (decide (p.ps.length = 1)) else if p.k = 4 then (decide (p.ps.length = 1)) else if p.k = 5 then (decide (p.ps.length = p.ls.length)) else if p.k = 6 then (decide (p.ps.length = 1)) else if p.k = 7 then (partsB p.ps) else decide (p.ps.length = 0)
/-- Is a node shaped as its kind asks? -/
noncomputable def Pr.shp (p : Pr) : Bool := p.r0 && (p.r1 && (p.r2 && (p.r3 && (p.r4 && p.r5))))

set_option maxHeartbeats 1000000 in
theorem pfits_shp (S : Nat → Prop) (p : Pr) (b o E : Nat) (w : World) (hS : Low S w) (he : Env E w) (hf : p.t.fine) (hdep : p.t.depth ≤ 1000) (hp : PrAt S w p b o) (hk : pknK p.k = true) :
    Calls Tryd.prog 43 #[pruleVal p.k, .pointer (some ⟨b, o, none⟩)] w fun e w' => e = .returned (.bool p.shp) ∧ Below w.heap.size w w' := by
  have K : ∀ W, Below w.heap.size w W → PrAt S W p b o := fun W hW => PrAt.keep (hW.keeps'.mono hS) _ _ _ hp
  have C_chanIsName : ∀ e, Chk w (.func (.func 53) #[] #[]) b o e (nameB p.c) := fun e => chk_fn _ (enters_of Tryd.func53 (by kernel_rfl) rfl) (fun W hW => chanIsName_any S p b o E W (he.below (hW.mono he.size)) (K W hW))
  have C_differentLabels : ∀ e, Chk w (.func (.func 58) #[] #[]) b o e (labelsB p.ls && decide (0 < p.ls.length)) := fun e => chk_fn _ (enters_of Tryd.func58 (by kernel_rfl) rfl) (fun W hW => differentLabels_any S p b o E W (hS.le hW.size) (he.below (hW.mono he.size)) (K W hW))
  have C_kidForEachLabel : ∀ e, Chk w (.func (.func 59) #[] #[]) b o e (decide (p.ps.length = p.ls.length)) := fun e => chk_fn _ (enters_of Tryd.func59 (by kernel_rfl) rfl) (fun W hW => kidForEachLabel_any S p b o W (K W hW))
  have C_oneKid : ∀ e, Chk w (.func (.func 55) #[] #[]) b o e (decide (p.ps.length = 1)) := fun e => chk_fn _ (enters_of Tryd.func55 (by kernel_rfl) rfl) (fun W hW => oneKid_any S p b o W (K W hW))
  have C_oneLabel : ∀ e, Chk w (.func (.func 57) #[] #[]) b o e (decide (p.ls.length = 1) && labelsB p.ls) := fun e => chk_fn _ (enters_of Tryd.func57 (by kernel_rfl) rfl) (fun W hW => oneLabel_any S p b o E W (he.below (hW.mono he.size)) (K W hW))
  have C_oneValue : ∀ e, Chk w (.func (.func 54) #[] #[]) b o e (decide (p.vs.length = 1) && vlsB p.vs) := fun e => chk_fn _ (enters_of Tryd.func54 (by kernel_rfl) rfl) (fun W hW => oneValue_any S p b o E W (hS.le hW.size) (he.below (hW.mono he.size)) (K W hW))
  have C_parts : ∀ e, Chk w (.func (.func 62) #[] #[]) b o e (partsB p.ps) := fun e => chk_fn _ (enters_of Tryd.func62 (by kernel_rfl) rfl) (fun W hW => (parts_any S p b o W (K W hW)).mono (fun _ _ ⟨h1, h2⟩ => ⟨h1, by subst h2; exact Below.refl _ _⟩))
  have C_rightSession : ∀ e, Chk w (.func (.func 61) #[] #[]) b o e ((p.t.k != 1 && p.t.k != 2) && rightE p.t == 0) := fun e => chk_fn _ (enters_of Tryd.func61 (by kernel_rfl) rfl) (fun W hW => rightSession_any S p b o E W (hS.le hW.size) (he.below (hW.mono he.size)) hf hdep (K W hW))
  have C_values : ∀ e, Chk w (.func (.func 63) #[] #[]) b o e (vlsB p.vs) := fun e => chk_fn _ (enters_of Tryd.func63 (by kernel_rfl) rfl) (fun W hW => values_any S p b o E W (hS.le hW.size) (he.below (hW.mono he.size)) (K W hW))
  have C_varIsName : ∀ e, Chk w (.func (.func 56) #[] #[]) b o e (nameB p.x) := fun e => chk_fn _ (enters_of Tryd.func56 (by kernel_rfl) rfl) (fun W hW => varIsName_any S p b o E W (he.below (hW.mono he.size)) (K W hW))
  have C_varIsOtherName : ∀ e, Chk w (.func (.func 60) #[] #[]) b o e (nameB p.x && !decide (p.x = p.c)) := fun e => chk_fn _ (enters_of Tryd.func60 (by kernel_rfl) rfl) (fun W hW => varIsOtherName_any S p b o E W (hS.le hW.size) (he.below (hW.mono he.size)) (K W hW))
  have hk' : 1 ≤ p.k ∧ p.k ≤ 8 := by simpa [pknK] using hk
  have hcase : p.k = 1 ∨ p.k = 2 ∨ p.k = 3 ∨ p.k = 4 ∨ p.k = 5 ∨ p.k = 6 ∨ p.k = 7 ∨ p.k = 8 := by omega
  unfold Pr.shp Pr.r0 Pr.r1 Pr.r2 Pr.r3 Pr.r4 Pr.r5
  rcases hcase with e | e | e | e | e | e | e | e
  · rw [e, show pruleVal 1 = .agg #[.nilFunc, .nilFunc, .nilFunc, .nilFunc, .nilFunc, .nilFunc] from by simp [pruleVal]]
    simp only [if_false, Int.reduceEq]
    exact pfits_any S p b o _ _ _ _ _ _ _ _ _ _ _ _ w hS hp (chk_nil _ _ _ _) (chk_nil _ _ _ _) (chk_nil _ _ _ _) (chk_nil _ _ _ _) (chk_nil _ _ _ _) (chk_nil _ _ _ _)
  · rw [e, show pruleVal 2 = .agg #[.func (.func 53) #[] #[], .nilFunc, .nilFunc, .func (.func 54) #[] #[], .nilFunc, .func (.func 55) #[] #[]] from by simp [pruleVal]]
    simp only [if_true, if_false, Int.reduceEq]
    exact pfits_any S p b o _ _ _ _ _ _ _ _ _ _ _ _ w hS hp (C_chanIsName _) (chk_nil _ _ _ _) (chk_nil _ _ _ _) (C_oneValue _) (chk_nil _ _ _ _) (C_oneKid _)
  · rw [e, show pruleVal 3 = .agg #[.func (.func 53) #[] #[], .func (.func 56) #[] #[], .nilFunc, .nilFunc, .nilFunc, .func (.func 55) #[] #[]] from by simp [pruleVal]]
    simp only [if_true, if_false, Int.reduceEq]
    exact pfits_any S p b o _ _ _ _ _ _ _ _ _ _ _ _ w hS hp (C_chanIsName _) (C_varIsName _) (chk_nil _ _ _ _) (chk_nil _ _ _ _) (chk_nil _ _ _ _) (C_oneKid _)
  · rw [e, show pruleVal 4 = .agg #[.func (.func 53) #[] #[], .nilFunc, .func (.func 57) #[] #[], .nilFunc, .nilFunc, .func (.func 55) #[] #[]] from by simp [pruleVal]]
    simp only [if_true, if_false, Int.reduceEq]
    exact pfits_any S p b o _ _ _ _ _ _ _ _ _ _ _ _ w hS hp (C_chanIsName _) (chk_nil _ _ _ _) (C_oneLabel _) (chk_nil _ _ _ _) (chk_nil _ _ _ _) (C_oneKid _)
  · rw [e, show pruleVal 5 = .agg #[.func (.func 53) #[] #[], .nilFunc, .func (.func 58) #[] #[], .nilFunc, .nilFunc, .func (.func 59) #[] #[]] from by simp [pruleVal]]
    simp only [if_true, if_false, Int.reduceEq]
    exact pfits_any S p b o _ _ _ _ _ _ _ _ _ _ _ _ w hS hp (C_chanIsName _) (chk_nil _ _ _ _) (C_differentLabels _) (chk_nil _ _ _ _) (chk_nil _ _ _ _) (C_kidForEachLabel _)
  · rw [e, show pruleVal 6 = .agg #[.func (.func 53) #[] #[], .func (.func 60) #[] #[], .nilFunc, .nilFunc, .func (.func 61) #[] #[], .func (.func 55) #[] #[]] from by simp [pruleVal]]
    simp only [if_true, if_false, Int.reduceEq]
    exact pfits_any S p b o _ _ _ _ _ _ _ _ _ _ _ _ w hS hp (C_chanIsName _) (C_varIsOtherName _) (chk_nil _ _ _ _) (chk_nil _ _ _ _) (C_rightSession _) (C_oneKid _)
  · rw [e, show pruleVal 7 = .agg #[.nilFunc, .nilFunc, .nilFunc, .nilFunc, .nilFunc, .func (.func 62) #[] #[]] from by simp [pruleVal]]
    simp only [if_true, if_false, Int.reduceEq]
    exact pfits_any S p b o _ _ _ _ _ _ _ _ _ _ _ _ w hS hp (chk_nil _ _ _ _) (chk_nil _ _ _ _) (chk_nil _ _ _ _) (chk_nil _ _ _ _) (chk_nil _ _ _ _) (C_parts _)
  · rw [e, show pruleVal 8 = .agg #[.func (.func 53) #[] #[], .nilFunc, .nilFunc, .func (.func 63) #[] #[], .nilFunc, .nilFunc] from by simp [pruleVal]]
    simp only [if_true, if_false, Int.reduceEq]
    exact pfits_any S p b o _ _ _ _ _ _ _ _ _ _ _ _ w hS hp (C_chanIsName _) (chk_nil _ _ _ _) (chk_nil _ _ _ _) (C_values _) (chk_nil _ _ _ _) (chk_nil _ _ _ _)

end Go.Proofs.YtmedijheidbmhaaDoor

/- Processes: sameness, by the program. -/
namespace Go.Proofs.YtmedijheidbmhaaDoor
open Go.RowKit Go.Deep Go.Shelf

noncomputable def eqP (p q : Pr) : Bool := @decide (p = q) (Classical.propDecidable _)
theorem eqP_true {p q : Pr} : eqP p q = true ↔ p = q := by unfold eqP; simp
theorem eqP_self (p : Pr) : eqP p p = true := eqP_true.2 rfl
theorem eqP_ne {p q : Pr} (h : p ≠ q) : eqP p q = false := by
  cases e : eqP p q with
  | false => rfl
  | true => exact absurd (eqP_true.1 e) h
noncomputable def eqQ (p q : List Pr) : Bool := @decide (p = q) (Classical.propDecidable _)
theorem eqQ_true {p q : List Pr} : eqQ p q = true ↔ p = q := by unfold eqQ; simp
theorem eqQ_ne {p q : List Pr} (h : p ≠ q) : eqQ p q = false := by
  cases e : eqQ p q with
  | false => rfl
  | true => exact absurd (eqQ_true.1 e) h
/-- What is asked of a function that compares two processes in memory. -/
def SameP (f : Nat) (B : Nat → Prop) (p : Pr) : Prop := ∀ (q : Pr) (b o b' o' : Nat) (w : World), Low B w → PrAt B w p b o → PrAt B w q b' o' → Calls Tryd.prog f #[.pointer (some ⟨b, o, none⟩), .pointer (some ⟨b', o', none⟩)] w fun e w' => e = .returned (.bool (eqP p q)) ∧ Below w.heap.size w w'

end Go.Proofs.YtmedijheidbmhaaDoor

/- Processes: Prefix and Same. -/
namespace Go.Proofs.YtmedijheidbmhaaDoor
open Go.RowKit Go.Deep Go.Shelf

theorem pprefix_any (B : Nat → Prop) (p : Pr) (v : Value) (w : World) (hv : PrVal B w v p) :
    Calls Tryd.prog 46 #[v] w fun e w' => e = .returned (.bool (prefixB p.k)) ∧ Below w.heap.size w w' := by
  obtain ⟨lv, av, tl, tk, kv, rfl, _⟩ := hv
  have HP := Lib.hid (prefix_any p.k (w.alloc (cell12 p lv av tl tk kv)))
  obtain ⟨pb, hpb⟩ : ∃ b, prefixB p.k = b := ⟨_, rfl⟩
  rw [hpb] at HP ⊢
  clear hpb
  unfold prAgg
  go_enter Tryd.func46, Tryd.ntmps46
  go_wp2_with (go_at_call 74; refine HP.out.mono ?_; rintro e w2 ⟨rfl, rfl⟩)
  go_ret
  exact ⟨rfl, blkBelow w _ _⟩

end Go.Proofs.YtmedijheidbmhaaDoor

/- Processes: the reference's In. -/
namespace Go.Proofs.YtmedijheidbmhaaDoor
open Go.RowKit

end Go.Proofs.YtmedijheidbmhaaDoor

/- Processes: binders. -/
namespace Go.Proofs.YtmedijheidbmhaaDoor
open Go.RowKit Go.Deep Go.Shelf

/-- The names that a node binds. -/
def Pr.bnd (p : Pr) : List ByteArray := if p.k = 3 then [p.x] else if p.k = 6 then [p.c, p.x] else []
theorem strSl_made {w W : World} (l : List ByteArray) (hb : Below (w.heap.size + 1) (w.alloc (.cells (l.map Value.string).toArray 9)) W) (hs : ∀ s ∈ l, s.size ≤ maxLen) (hl : l.length ≤ maxLen) :
    StrSl (Fresh w.heap.size W.heap.size) W (.slice (some ⟨w.heap.size, 0, none⟩) l.length l.length) l :=
  ⟨.inr ⟨_, _, _, rfl, ⟨Nat.le_refl _, by have := hb.size; rw [World.size_alloc] at this; omega⟩, Nat.le_refl _, fun j s hj => by rw [Nat.zero_add]; exact blk_cell hb j (by simp [hj])⟩, hl, hs⟩
end Go.Proofs.YtmedijheidbmhaaDoor

/- Programs: a datatype for them, and how they lie in memory. -/
namespace Go.Proofs.YtmedijheidbmhaaDoor
open Go.RowKit

structure Pm where
  n : ByteArray
  t : Ty
structure Df where
  n : ByteArray
  ms : List Pm
  b : Pr
structure Pg where
  ds : List Df
  m : Pr

/-- A parameter lies at cell o of block b. -/
def PmAt (B : Nat → Prop) (w : World) (a : Pm) (b o : Nat) : Prop := a.n.size ≤ maxLen ∧ w.cell? ⟨b, o, none⟩ = some (.string a.n) ∧ TyAt B w a.t b (o + 1)
theorem PmAt.keep {B : Nat → Prop} {w w' : World} (h : Keeps B w w') {a : Pm} {b o : Nat} (hb : B b) (ha : PmAt B w a b o) : PmAt B w' a b o := ⟨ha.1, h.cell hb ha.2.1, ha.2.2.keep h⟩
theorem PmAt.mono {B C : Nat → Prop} {w : World} (h : ∀ k, B k → C k) {a : Pm} {b o : Nat} (ha : PmAt B w a b o) : PmAt C w a b o := ⟨ha.1, ha.2.1, ha.2.2.mono h⟩
/-- A value that is a slice of parameters. -/
def PmSl (B : Nat → Prop) (w : World) (v : Value) (l : List Pm) : Prop :=
  (((∃ a c, v = .slice a 0 c) ∧ l = []) ∨ ∃ b o c, v = .slice (some ⟨b, o, none⟩) l.length c ∧ B b ∧ ∀ (j : Nat) (a : Pm), l[j]? = some a → PmAt B w a b (o + j * 7)) ∧ l.length ≤ maxLen
theorem PmSl.keep {B : Nat → Prop} {w w' : World} (h : Keeps B w w') {v : Value} {l : List Pm} (hv : PmSl B w v l) : PmSl B w' v l := by
  refine ⟨?_, hv.2⟩
  rcases hv.1 with h1 | ⟨b, o, c, h1, h2, h3⟩
  · exact .inl h1
  · exact .inr ⟨b, o, c, h1, h2, fun j a hj => PmAt.keep h h2 (h3 j a hj)⟩
theorem PmSl.mono {B C : Nat → Prop} {w : World} (h : ∀ k, B k → C k) {v : Value} {l : List Pm} (hv : PmSl B w v l) : PmSl C w v l := by
  refine ⟨?_, hv.2⟩
  rcases hv.1 with h1 | ⟨b, o, c, h1, h2, h3⟩
  · exact .inl h1
  · exact .inr ⟨b, o, c, h1, h _ h2, fun j a hj => PmAt.mono h (h3 j a hj)⟩
theorem PmSl.open {B : Nat → Prop} {w : World} {v : Value} {l : List Pm} (h : PmSl B w v l) :
    ∃ pa len c, v = .slice pa len c ∧ Hid (len = l.length) ∧ len ≤ 9223372036854775807 ∧ ∀ i a, l[i]? = some a → ∃ kb ko, pa = some ⟨kb, ko, none⟩ ∧ B kb ∧ PmAt B w a kb (ko + i * 7) := by
  obtain ⟨h, hm⟩ := h
  unfold maxLen at hm
  rcases h with ⟨⟨a, c, rfl⟩, rfl⟩ | ⟨kb, ko, c, rfl, hkb, hrow⟩
  · exact ⟨a, 0, c, rfl, Lib.hid rfl, by omega, fun i t hi => by simp at hi⟩
  · exact ⟨_, _, _, rfl, Lib.hid rfl, by omega, fun i t hi => ⟨kb, ko, rfl, hkb, hrow i t hi⟩⟩

/-- A definition lies at cell o of block b. -/
def DfAt (B : Nat → Prop) (w : World) (d : Df) (b o : Nat) : Prop := d.n.size ≤ maxLen ∧ w.cell? ⟨b, o, none⟩ = some (.string d.n) ∧ (∃ mv, w.cell? ⟨b, o + 1, none⟩ = some mv ∧ PmSl B w mv d.ms) ∧ PrAt B w d.b b (o + 2)
theorem DfAt.keep {B : Nat → Prop} {w w' : World} (h : Keeps B w w') {a : Df} {b o : Nat} (hb : B b) (ha : DfAt B w a b o) : DfAt B w' a b o := by
  obtain ⟨h1, h2, ⟨mv, h3, h4⟩, h5⟩ := ha
  exact ⟨h1, h.cell hb h2, ⟨mv, h.cell hb h3, h4.keep h⟩, PrAt.keep h _ _ _ h5⟩
theorem DfAt.mono {B C : Nat → Prop} {w : World} (h : ∀ k, B k → C k) {a : Df} {b o : Nat} (ha : DfAt B w a b o) : DfAt C w a b o := by
  obtain ⟨h1, h2, ⟨mv, h3, h4⟩, h5⟩ := ha
  exact ⟨h1, h2, ⟨mv, h3, h4.mono h⟩, PrAt.mono h _ _ _ h5⟩
/-- A value that is a slice of definitions. -/
def DfSl (B : Nat → Prop) (w : World) (v : Value) (l : List Df) : Prop :=
  (((∃ a c, v = .slice a 0 c) ∧ l = []) ∨ ∃ b o c, v = .slice (some ⟨b, o, none⟩) l.length c ∧ B b ∧ ∀ (j : Nat) (a : Df), l[j]? = some a → DfAt B w a b (o + j * 14)) ∧ l.length ≤ maxLen
theorem DfSl.keep {B : Nat → Prop} {w w' : World} (h : Keeps B w w') {v : Value} {l : List Df} (hv : DfSl B w v l) : DfSl B w' v l := by
  refine ⟨?_, hv.2⟩
  rcases hv.1 with h1 | ⟨b, o, c, h1, h2, h3⟩
  · exact .inl h1
  · exact .inr ⟨b, o, c, h1, h2, fun j a hj => DfAt.keep h h2 (h3 j a hj)⟩
theorem DfSl.mono {B C : Nat → Prop} {w : World} (h : ∀ k, B k → C k) {v : Value} {l : List Df} (hv : DfSl B w v l) : DfSl C w v l := by
  refine ⟨?_, hv.2⟩
  rcases hv.1 with h1 | ⟨b, o, c, h1, h2, h3⟩
  · exact .inl h1
  · exact .inr ⟨b, o, c, h1, h _ h2, fun j a hj => DfAt.mono h (h3 j a hj)⟩
theorem DfSl.open {B : Nat → Prop} {w : World} {v : Value} {l : List Df} (h : DfSl B w v l) :
    ∃ pa len c, v = .slice pa len c ∧ Hid (len = l.length) ∧ len ≤ 9223372036854775807 ∧ ∀ i a, l[i]? = some a → ∃ kb ko, pa = some ⟨kb, ko, none⟩ ∧ B kb ∧ DfAt B w a kb (ko + i * 14) := by
  obtain ⟨h, hm⟩ := h
  unfold maxLen at hm
  rcases h with ⟨⟨a, c, rfl⟩, rfl⟩ | ⟨kb, ko, c, rfl, hkb, hrow⟩
  · exact ⟨a, 0, c, rfl, Lib.hid rfl, by omega, fun i t hi => by simp at hi⟩
  · exact ⟨_, _, _, rfl, Lib.hid rfl, by omega, fun i t hi => ⟨kb, ko, rfl, hkb, hrow i t hi⟩⟩

/-- A program lies at cell o of block b. -/
def PgAt (B : Nat → Prop) (w : World) (g : Pg) (b o : Nat) : Prop := B b ∧ (∃ dv, w.cell? ⟨b, o, none⟩ = some dv ∧ DfSl B w dv g.ds) ∧ PrAt B w g.m b (o + 1)
theorem PgAt.keep {B : Nat → Prop} {w w' : World} (h : Keeps B w w') {g : Pg} {b o : Nat} (hg : PgAt B w g b o) : PgAt B w' g b o := by
  obtain ⟨hb, ⟨dv, h1, h2⟩, h3⟩ := hg
  exact ⟨hb, ⟨dv, h.cell hb h1, h2.keep h⟩, PrAt.keep h _ _ _ h3⟩
/-- A value that is a program. -/
def PgVal (B : Nat → Prop) (w : World) (v : Value) (g : Pg) : Prop :=
  ∃ dv lv av tl tk kv, v = .agg #[dv, .int .i64 g.m.k, .string g.m.c, .string g.m.x, lv, av, .int .i64 g.m.t.k, .int .i64 g.m.t.p, .string g.m.t.n, .int .i64 g.m.t.s, tl, tk, kv] ∧ DfSl B w dv g.ds ∧ PrVal B w (prAgg g.m lv av tl tk kv) g.m
theorem PgVal.keep {B : Nat → Prop} {w w' : World} (h : Keeps B w w') {v : Value} {g : Pg} (hv : PgVal B w v g) : PgVal B w' v g := by
  obtain ⟨dv, lv, av, tl, tk, kv, e, hd, hp⟩ := hv
  exact ⟨dv, lv, av, tl, tk, kv, e, hd.keep h, hp.keep h⟩
theorem PgVal.mono {B C : Nat → Prop} {w : World} (h : ∀ k, B k → C k) {v : Value} {g : Pg} (hv : PgVal B w v g) : PgVal C w v g := by
  obtain ⟨dv, lv, av, tl, tk, kv, e, hd, hp⟩ := hv
  exact ⟨dv, lv, av, tl, tk, kv, e, hd.mono h, hp.mono h⟩
theorem PgVal.to {B : Nat → Prop} {C : Nat} {w w' : World} (hBC : ∀ k, B k → k < C) (hb : Below C w w') {v : Value} {g : Pg} (hv : PgVal B w v g) : PgVal B w' v g := hv.keep (hb.keeps'.mono hBC)

end Go.Proofs.YtmedijheidbmhaaDoor

/- Scopes: sets of texts as maps, numbers of parameters, and what the names and calls of a program ask. -/
namespace Go.Proofs.YtmedijheidbmhaaDoor
open Go.RowKit Go.Deep Go.Shelf

/-! ### Lists of texts -/
theorem memB_append (s : ByteArray) (l r : List ByteArray) : memB s (l ++ r) = (memB s l || memB s r) := by simp [memB]
theorem memB_nil (s : ByteArray) : memB s [] = false := rfl
theorem memB_one (s x : ByteArray) : memB s [x] = decide (x = s) := by simp [memB]
theorem memB_cons (s x : ByteArray) (l : List ByteArray) : memB s (x :: l) = (decide (x = s) || memB s l) := by simp [memB]
/-- Some text stands twice. -/
def dups : List ByteArray → Bool
  | [] => false
  | x :: r => memB x r || dups r
theorem dups_snoc (l : List ByteArray) (x : ByteArray) : dups (l ++ [x]) = (dups l || memB x l) := by
  induction l with
  | nil => rfl
  | cons y r ih =>
    rw [List.cons_append, dups, ih, memB_append, dups, memB_one, memB_cons, show decide (x = y) = decide (y = x) from by simp [eq_comm]]
    cases memB y r <;> cases dups r <;> cases decide (y = x) <;> cases memB x r <;> rfl
theorem dups_mono (l : List ByteArray) {j : Nat} (h : dups (l.take j) = true) : dups l = true := by
  have h1 : ∀ (a r : List ByteArray), dups a = true → dups (a ++ r) = true := by
    intro a r
    induction a with
    | nil => intro h; cases h
    | cons y a ih =>
      intro h
      rw [List.cons_append, dups, memB_append]
      rw [dups] at h
      cases hm : memB y a with
      | true => simp
      | false => rw [hm] at h; simp at h; rw [ih h]; simp
  rw [← List.take_append_drop j l]; exact h1 _ _ h

theorem intInfoS : (Tryd.prog.info? 3).map (fun i => (i.zero, i.size, i.bytes)) = some (some (.int .i64 0), 1, 8) := by kernel_rfl
theorem zero_intS (w : World) : (zeroValue 3).run Tryd.prog w = .ok (.int .i64 0) w := by
  obtain ⟨i0, hi, hz0, hz1, hz2⟩ := info_parts intInfoS
  simp [zeroValue, typeInfo, hi, hz0]

/-! ### Sets of texts -/
theorem boolKeyed : Maps.Keyed Tryd.prog 9 := Maps.string_keyed Tryd.underlying9
/-- Block b is a map that holds the texts of l, in at most n entries. -/
def SetIs (w : World) (b n : Nat) (l : List ByteArray) : Prop := ∃ D : DataW Unit, w.ownsMap Tryd.prog 9 (plainElem Tryd.prog 4) b n D ∧ (∀ s : ByteArray, Maps.has D (.string s.data.toList) = memB s l ∧ D.atKey (.string s.data.toList) (.lit (.bool false)) = .lit (.bool (memB s l))) ∧ Maps.size D ≤ l.length ∧ (Maps.size D < l.length ↔ dups l = true)
theorem SetIs.seen {w : World} {b n : Nat} {l : List ByteArray} (h : SetIs w b n l) : Seen w b n l := by
  obtain ⟨D, ho, hf, _⟩ := h; exact ⟨D, ho, fun s => (hf s).2⟩
theorem SetIs.look {w : World} {b n : Nat} {l : List ByteArray} (h : SetIs w b n l) {s : ByteArray} (hs : s.size ≤ maxLen) : (Instr.lookup 67 (.map (some b)) (.string s) false).run Tryd.prog w = .ok (.bool (memB s l)) w := h.seen.look hs
theorem SetIs.made (w : World) : SetIs (w.alloc (.map #[] 0)) w.heap.size 0 [] := ⟨.map [], World.ownsMap_made w _ _ _, fun _ => ⟨rfl, rfl⟩, by simp [Maps.size_eq], by simp [Maps.size_eq, dups]⟩
theorem SetIs.kept {w w' : World} {b n : Nat} {l : List ByteArray} (h : SetIs w b n l) {row : Option Nat} (hg : w.grownBy w' row) (hne : some b ≠ row) : SetIs w' b n l := by
  obtain ⟨D, ho, hf⟩ := h; exact ⟨D, ho.kept hg hne, hf⟩
theorem SetIs.lt {w : World} {b n : Nat} {l : List ByteArray} (h : SetIs w b n l) : b < w.heap.size := by obtain ⟨D, ho, _⟩ := h; exact ho.lt
theorem SetIs.below {w w' : World} {b n m : Nat} {l : List ByteArray} (h : SetIs w b n l) (hb : Below m w w') (hm : b < m) : SetIs w' b n l := by
  obtain ⟨D, ⟨es, clock, h1, r⟩, hf⟩ := h
  exact ⟨D, ⟨es, clock, (hb.block b hm).trans h1, r⟩, hf⟩
theorem SetIs.put {w : World} {b n : Nat} {l : List ByteArray} (h : SetIs w b n l) (hn : n < maxLen) {s : ByteArray} (hs : s.size ≤ maxLen) :
    ∃ w', (Instr.mapUpdate 67 (.map (some b)) (.string s) (.bool true)).run Tryd.prog w = .ok () w' ∧ SetIs w' b (n + 1) (l ++ [s]) ∧ w.grownBy w' (some b) := by
  obtain ⟨D, ho, hf, h1, h2⟩ := h
  obtain ⟨w', hr, ho', ht⟩ := ho.store boolKeyed Tryd.underlying67 hn (Go.WideMaps.keyOf_string_mk Tryd.underlying9 hs) (plainElem_bool Tryd.underlying4 true)
  have hk : WideAt.IsKeyLit (Lit.string s.data.toList) := by first | trivial | simp [WideAt.IsKeyLit]
  have hsz := Maps.size_put (k := Lit.string s.data.toList) (ho.tidy boolKeyed) (DataW.lit (H := Unit) (.bool true))
  rw [(hf s).1] at hsz
  have hd := dups_snoc l s
  refine ⟨w', hr, ⟨_, ho', fun x => ?_, ?_, ?_⟩, ht.grown⟩
  · by_cases e : x = s
    · subst e
      rw [Maps.atKey_put_same ho.isMap hk, Maps.has_put_same ho.isMap hk]
      have : memB x (l ++ [x]) = true := memB_true.2 (by simp)
      rw [this]; exact ⟨rfl, rfl⟩
    · have e1 : Lit.string x.data.toList ≠ Lit.string s.data.toList := fun h => e (by
        have := Lit.string.inj h
        cases x; cases s; simp at this; congr 1)
      rw [Maps.atKey_put_other e1, Maps.has_put_other e1, memB_append, memB_one]
      have e' : decide (s = x) = false := by simpa using fun h => e h.symm
      rw [e', Bool.or_false]; exact hf x
  · rw [List.length_append, List.length_singleton]; split at hsz <;> omega
  · rw [List.length_append, List.length_singleton, hd]
    cases hm : memB s l with
    | true => rw [hm] at hsz; simp at hsz; simp; omega
    | false => rw [hm] at hsz; simp at hsz; rw [Bool.or_false, ← h2]; omega
theorem SetIs.len {w : World} {b n : Nat} {l : List ByteArray} (h : SetIs w b n l) (ty : TypeId) :
    ∃ q : Nat, (Builtin.len_ #[67] ty #[.map (some b)]).run Tryd.prog w = .ok (.int .i64 q) w ∧ q ≤ l.length ∧ (q < l.length ↔ dups l = true) := by
  obtain ⟨D, ho, hf, h1, h2⟩ := h
  exact ⟨_, ho.len Tryd.underlying67 ty, h1, h2⟩

/-! ### Numbers by texts -/
def ArIs (w : World) (b n : Nat) (ar : ByteArray → Option Nat) : Prop := ∃ f : Lit → Option Value, MapIs w 9 b n f ∧ ∀ s : ByteArray, f (.string s.data.toList) = (ar s).map (fun k => Value.int .i64 (k : Int))
theorem ArIs.lt {w : World} {b n : Nat} {ar : ByteArray → Option Nat} (h : ArIs w b n ar) : b < w.heap.size := by obtain ⟨f, hm, _⟩ := h; exact hm.lt
theorem ArIs.below {w w' : World} {b n m : Nat} {ar : ByteArray → Option Nat} (h : ArIs w b n ar) (hb : Below m w w') (hm : b < m) : ArIs w' b n ar := by
  obtain ⟨f, h1, h2⟩ := h; exact ⟨f, h1.below hb hm, h2⟩
theorem ArIs.made (w : World) : ArIs (w.alloc (.map #[] 0)) w.heap.size 0 (fun _ => none) := ⟨_, MapIs.made _ _, fun _ => rfl⟩
theorem ArIs.look_ok {w : World} {b n : Nat} {ar : ByteArray → Option Nat} (h : ArIs w b n ar) {s : ByteArray} (hs : s.size ≤ maxLen) {r : Option Nat} (hr : ar s = r) : (Instr.lookup 63 (.map (some b)) (.string s) true).run Tryd.prog w = .ok (.tuple #[.int .i64 ((r.getD 0 : Nat) : Int), .bool r.isSome]) w := by
  obtain ⟨f, hm, hf⟩ := h
  rw [hm.look_ok boolKeyed Tryd.underlying63 (zero_intS w) (Go.WideMaps.keyOf_string_mk Tryd.underlying9 hs), hf, hr]
  cases r <;> rfl
theorem ArIs.put {w : World} {b n : Nat} {ar : ByteArray → Option Nat} (h : ArIs w b n ar) (hn : n < maxLen) {s : ByteArray} (hs : s.size ≤ maxLen) (x : Nat) :
    ∃ w', (Instr.mapUpdate 63 (.map (some b)) (.string s) (.int .i64 (x : Int))).run Tryd.prog w = .ok () w' ∧ ArIs w' b (n + 1) (fun y => if y = s then some x else ar y) ∧ w.grownBy w' (some b) := by
  obtain ⟨f, hm, hf⟩ := h
  obtain ⟨w', hr, hm', hg⟩ := hm.put boolKeyed Tryd.underlying63 hn (Go.WideMaps.keyOf_string_mk Tryd.underlying9 hs) (by first | trivial | simp [WideAt.IsKeyLit]) (val := .int .i64 (x : Int))
  refine ⟨w', hr, ⟨_, hm', fun y => ?_⟩, hg⟩
  by_cases e : y = s
  · subst e; simp
  · have e' : ¬ (Lit.string y.data.toList = Lit.string s.data.toList) := fun h => e (by
      have := Lit.string.inj h
      cases y; cases s; simp at this; congr 1)
    simp only [if_neg e', if_neg e]
    exact hf y

/-! ### What is asked -/
/-- The numbers of parameters by names: of the last definition with the name. -/
def arOf : List Df → ByteArray → Option Nat
  | [], _ => none
  | d :: r, s => match arOf r s with
    | some k => some k
    | none => if s = d.n then some d.ms.length else none
theorem arOf_snoc (l : List Df) (d : Df) (s : ByteArray) : arOf (l ++ [d]) s = if s = d.n then some d.ms.length else arOf l s := by
  induction l with
  | nil => simp [arOf]
  | cons x r ih =>
    rw [List.cons_append, arOf, ih, arOf]
    by_cases e : s = d.n
    · simp [e]
    · simp [e]
/-- That of the first one. -/
def arFst : List Df → ByteArray → Option Nat
  | [], _ => none
  | d :: r, s => if s = d.n then some d.ms.length else arFst r s
theorem arFst_none {l : List Df} {s : ByteArray} (h : memB s (l.map Df.n) = false) : arFst l s = none := by
  induction l with
  | nil => rfl
  | cons d r ih =>
    rw [List.map_cons, memB_cons, Bool.or_eq_false_iff] at h
    rw [arFst, if_neg (fun e => by simp [e] at h), ih h.2]
theorem arOf_none {l : List Df} {s : ByteArray} (h : memB s (l.map Df.n) = false) : arOf l s = none := by
  induction l with
  | nil => rfl
  | cons d r ih =>
    rw [List.map_cons, memB_cons, Bool.or_eq_false_iff] at h
    rw [arOf, ih h.2]
    simp only
    rw [if_neg (fun e => by simp [e] at h)]
theorem arOf_fst {l : List Df} (h : dups (l.map Df.n) = false) (s : ByteArray) : arOf l s = arFst l s := by
  induction l with
  | nil => rfl
  | cons d r ih =>
    rw [List.map_cons, dups, Bool.or_eq_false_iff] at h
    rw [arOf, arFst]
    by_cases e : s = d.n
    · subst e
      rw [arOf_none h.1]; simp
    · rw [ih h.2, if_neg e, if_neg e]
      cases arFst r s <;> rfl

def badArg (sc : List ByteArray) (a : Vl) : Bool := decide (a.k = 1) && !memB a.n sc
/-- The error of a call, but for its arguments' names. -/
def callE (r : Option Nat) (n : Nat) (g : Bool) : Int := match r with
  | none => 4
  | some k => if k = n then (if g then 0 else 7) else 6
def Pr.nodeE (ar : ByteArray → Option Nat) (sc : List ByteArray) (g : Bool) (p : Pr) : Int :=
  if (prefixB p.k && !memB p.c sc) = true then 4
  else if p.vs.any (badArg sc) = true then 4
  else if p.bnd.any (fun s => memB s sc) = true then 5
  else if p.k = 8 then callE (ar p.c) p.vs.length g
  else 0
mutual
/-- The error of the first node that has one. -/
def Pr.scE (ar : ByteArray → Option Nat) : Pr → List ByteArray → Bool → Int
  | .mk k c x ls vs t ps, sc, g => if (Pr.mk k c x ls vs t ps).nodeE ar sc g = 0 then Pr.scEs ar ps (sc ++ (Pr.mk k c x ls vs t ps).bnd) (g || prefixB k) else (Pr.mk k c x ls vs t ps).nodeE ar sc g
def Pr.scEs (ar : ByteArray → Option Nat) : List Pr → List ByteArray → Bool → Int
  | [], _, _ => 0
  | p :: r, sc, g => if p.scE ar sc g = 0 then Pr.scEs ar r sc g else p.scE ar sc g
end
theorem Pr.scE_eq (ar : ByteArray → Option Nat) (p : Pr) (sc : List ByteArray) (g : Bool) : p.scE ar sc g = if p.nodeE ar sc g = 0 then Pr.scEs ar p.ps (sc ++ p.bnd) (g || prefixB p.k) else p.nodeE ar sc g := by cases p; simp [Pr.scE, Pr.ps, Pr.k]
theorem Pr.scEs_append {ar : ByteArray → Option Nat} {l : List Pr} {sc : List ByteArray} {g : Bool} (h : Pr.scEs ar l sc g = 0) (r : List Pr) : Pr.scEs ar (l ++ r) sc g = Pr.scEs ar r sc g := by
  induction l with
  | nil => rfl
  | cons p l ih =>
    rw [Pr.scEs] at h
    by_cases hp : p.scE ar sc g = 0
    · rw [if_pos hp] at h
      rw [List.cons_append, Pr.scEs, if_pos hp]; exact ih h
    · rw [if_neg hp] at h; exact absurd h hp
theorem Pr.scEs_next {ar : ByteArray → Option Nat} {l : List Pr} {sc : List ByteArray} {g : Bool} {j : Nat} {u : Pr} (hu : l[j]? = some u) (h : Pr.scEs ar (l.take j) sc g = 0) {x : Int} (hx : u.scE ar sc g = x) :
    Pr.scEs ar (l.take (j + 1)) sc g = x ∧ (x ≠ 0 → Pr.scEs ar l sc g = x) := by
  refine ⟨?_, fun h0 => ?_⟩
  · rw [take_snoc_get hu, Pr.scEs_append h, Pr.scEs, hx]
    by_cases h0 : x = 0
    · rw [if_pos h0, h0]; rfl
    · rw [if_neg h0]
  · have hjl : j < l.length := (List.getElem?_eq_some_iff.1 hu).1
    have e : l = l.take j ++ u :: l.drop (j + 1) := by
      conv => lhs; rw [← List.take_append_drop j l, List.drop_eq_getElem_cons hjl]
      congr 2
      exact (List.getElem?_eq_some_iff.1 hu).2
    rw [e, Pr.scEs_append h, Pr.scEs, hx, if_neg h0]

/-- The names and the parameters of a definition are not new. -/
def twiceAt (ds : List Df) (i : Nat) : Bool := match ds[i]? with
  | some d => memB d.n ((ds.take i).map Df.n) || dups (d.ms.map Pm.n)
  | none => false
def twF (ds : List Df) : Option Nat := (List.range ds.length).find? (twiceAt ds)
/-- The error of a body, Main last. -/
def Pg.bE (g : Pg) (ar : ByteArray → Option Nat) (i : Nat) : Int := match g.ds[i]? with
  | some d => d.b.scE ar (d.ms.map Pm.n) false
  | none => g.m.scE ar [] true
def Pg.bF (g : Pg) : Option Nat := (List.range (g.ds.length + 1)).find? (fun i => g.bE (arOf g.ds) i != 0)
theorem range_find {n i : Nat} {p : Nat → Bool} (hi : i < n) (h : ∀ j, j < i → p j = false) (hp : p i = true) : (List.range n).find? p = some i := by
  rw [List.find?_range_eq_some]
  exact ⟨hp, List.mem_range.2 hi, fun j hj => by simp [h j hj]⟩
theorem range_find_none {n : Nat} {p : Nat → Bool} (h : ∀ j, j < n → p j = false) : (List.range n).find? p = none := by
  rw [List.find?_eq_none]; intro j hj; simp [h j (List.mem_range.1 hj)]

end Go.Proofs.YtmedijheidbmhaaDoor

/- Scopes: has, callError, bound. -/
namespace Go.Proofs.YtmedijheidbmhaaDoor
open Go.RowKit Go.Deep Go.Shelf

/-- A set of texts that may be nil. -/
def NSet (w : World) (q : Option Nat) (l : List ByteArray) : Prop := (q = none ∧ l = []) ∨ ∃ b, q = some b ∧ SetIs w b l.length l
theorem NSet.look {w : World} {q : Option Nat} {l : List ByteArray} (h : NSet w q l) {s : ByteArray} (hs : s.size ≤ maxLen) : (Instr.lookup 67 (.map q) (.string s) false).run Tryd.prog w = .ok (.bool (memB s l)) w := by
  rcases h with ⟨rfl, rfl⟩ | ⟨b, rfl, h⟩
  · exact Maps.look_nil false boolKeyed Tryd.underlying67 (zero_bool w) (Go.WideMaps.keyOf_string_mk Tryd.underlying9 hs)
  · exact h.look hs
theorem NSet.to {w w' : World} {q : Option Nat} {l : List ByteArray} (h : NSet w q l) (hb : Below w.heap.size w w') : NSet w' q l := by
  rcases h with h | ⟨b, e, h⟩
  · exact .inl h
  · exact .inr ⟨b, e, h.below hb h.lt⟩
theorem ArIs.to {w w' : World} {b n : Nat} {ar : ByteArray → Option Nat} (h : ArIs w b n ar) (hb : Below w.heap.size w w') : ArIs w' b n ar := h.below hb h.lt
/-- The three cells of a place. -/
abbrev plc (pq aq : Option Nat) (g : Bool) : Value := .agg #[.map pq, .map aq, .bool g]
abbrev cell3 (pq aq : Option Nat) (g : Bool) : Obj := .cells #[.map pq, .map aq, .bool g] 69
/-- What a place says. -/
structure Plc (w : World) (pq aq : Option Nat) (sc : List ByteArray) (n : Nat) : Prop where
  sets : ∃ ps us : List ByteArray, NSet w pq ps ∧ NSet w aq us ∧ aq.isSome = true ∧ us.length ≤ n ∧ ∀ s, memB s sc = (memB s ps || memB s us)
theorem Plc.to {w w' : World} {pq aq : Option Nat} {sc : List ByteArray} {n : Nat} (h : Plc w pq aq sc n) (hb : Below w.heap.size w w') : Plc w' pq aq sc n := by
  obtain ⟨ps, us, h1, h2, h3⟩ := h.sets; exact ⟨ps, us, h1.to hb, h2.to hb, h3⟩

set_option maxHeartbeats 1000000 in
theorem has_any (pq aq : Option Nat) (g : Bool) (sc : List ByteArray) (n : Nat) (s : ByteArray) (hs : s.size ≤ maxLen) (m : Bool) (hm : memB s sc = m) (w : World) (h : Plc w pq aq sc n) :
    Calls Tryd.prog 47 #[.agg #[.map pq, .map aq, .bool g], .string s] w fun e w' => e = .returned (.bool m) ∧ Below w.heap.size w w' := by
  have hb0 := blkBelow w #[.map pq, .map aq, .bool g] 69
  obtain ⟨ps, us, h1, h2, _, _, h3⟩ := (h.to hb0).sets
  have l1 := h1.look hs
  have l2 := h2.look hs
  rw [h3] at hm
  have HB := Lib.hid hb0
  clear hb0 h h1 h2 h3
  obtain ⟨m1, hm1⟩ : ∃ x, memB s ps = x := ⟨_, rfl⟩
  obtain ⟨m2, hm2⟩ : ∃ x, memB s us = x := ⟨_, rfl⟩
  rw [hm1, hm2] at hm
  rw [hm1] at l1
  rw [hm2] at l2
  clear hm1 hm2
  subst hm
  cases m1
  · go_enter Tryd.func47, Tryd.ntmps47
    go_wp2_with fail
    go_ret
    exact ⟨by first | rfl | simp, HB.out⟩
  · go_enter Tryd.func47, Tryd.ntmps47
    go_wp2_with fail
    go_ret
    exact ⟨by first | rfl | simp, HB.out⟩

set_option maxHeartbeats 1000000 in
theorem callError_any (S : Nat → Prop) (p : Pr) (b o : Nat) (g : Bool) (ab n : Nat) (ar : ByteArray → Option Nat) (w : World) (hS : Low S w) (hp : PrAt S w p b o) (ha : ArIs w ab n ar) (r : Int) (hr : callE (ar p.c) p.vs.length g = r) :
    Calls Tryd.prog 48 #[.pointer (some ⟨b, o, none⟩), .bool g, .map (some ab)] w fun e w' => e = .returned (.int .i64 r) ∧ Below w.heap.size w w' := by
  obtain ⟨hSb, ⟨hc, hx⟩, ⟨c0, c1, c2⟩, _, lv, av, kv, c3, c4, c11, _, hv, _⟩ := PrAt.eq.1 hp
  have hbl := hS b hSb
  obtain ⟨aa, an, ac, rfl, hal, ham, _⟩ := hv.open
  obtain ⟨x, hx'⟩ : ∃ x, ar p.c = x := ⟨_, rfl⟩
  have hlk := ha.look_ok hc hx'
  rw [hx', ← hal.out] at hr
  clear hp ha hc hx hv hal hx' c0 c2 c3 c11
  subst hr
  cases x with
  | none =>
    simp only [Option.getD, Option.isSome] at hlk
    go_enter Tryd.func48, Tryd.ntmps48
    go_wp2_with fail
    go_ret
    exact ⟨rfl, Below.refl _ _⟩
  | some k =>
    simp only [Option.getD, Option.isSome] at hlk
    by_cases hk : k = an
    · subst hk
      cases g
      · go_enter Tryd.func48, Tryd.ntmps48
        go_wp2_with fail
        go_ret
        exact ⟨ret_int (by simp [callE]), Below.refl _ _⟩
      · go_enter Tryd.func48, Tryd.ntmps48
        go_wp2_with fail
        go_ret
        exact ⟨ret_int (by simp [callE]), Below.refl _ _⟩
    · have hk1 : ((k : Int) == (an : Int)) = false := by simp; omega
      have hk2 : ((k : Int) != (an : Int)) = true := by simp; omega
      have HK := Lib.hid hk
      clear hk
      go_enter Tryd.func48, Tryd.ntmps48
      go_wp2_with fail
      go_ret
      exact ⟨ret_int (by have := HK.out; simp [callE, this]), Below.refl _ _⟩

set_option maxHeartbeats 1000000 in
theorem bound_any (S : Nat → Prop) (p : Pr) (b o : Nat) (w : World) (hS : Low S w) (hp : PrAt S w p b o) :
    Calls Tryd.prog 22 #[.pointer (some ⟨b, o, none⟩)] w (StrRet w p.bnd) := by
  obtain ⟨hSb, ⟨hc, hx⟩, ⟨c0, c1, c2⟩, _⟩ := PrAt.eq.1 hp
  have hbl := hS b hSb
  unfold Pr.bnd
  obtain ⟨k, hk⟩ : ∃ k, p.k = k := ⟨_, rfl⟩
  rw [hk] at c0 ⊢
  have HC := Lib.hid hc
  have HX := Lib.hid hx
  clear hp hk hc hx
  by_cases h3 : k = 3
  · subst h3
    rw [if_pos rfl]
    go_enter Tryd.func22, Tryd.ntmps22
    go_wp2_with fail
    go_ret
    exact ⟨_, _, _, rfl, strSl_made [p.x] (Below.refl _ _) (fun s hs => by rw [List.mem_singleton.1 hs]; exact HX.out) (by simp [maxLen]), blkBelow w _ _⟩
  · have h3' : (k == 3) = false := by simpa using h3
    rw [if_neg h3]
    clear h3
    by_cases h6 : k = 6
    · subst h6
      rw [if_pos rfl]
      go_enter Tryd.func22, Tryd.ntmps22
      go_wp2_with fail
      go_region
      all_goals
        go_wp2_with fail
        go_ret
        exact ⟨_, _, _, rfl, strSl_made [p.c, p.x] (Below.refl _ _).drew (fun s hs => by
          rcases List.mem_cons.1 hs with e | hs
          · rw [e]; exact HC.out
          · rw [List.mem_singleton.1 hs]; exact HX.out) (by simp [maxLen]), (blkBelow w _ _).drew⟩
    · have h6' : (k == 6) = false := by simpa using h6
      rw [if_neg h6]
      clear h6
      go_enter Tryd.func22, Tryd.ntmps22
      go_wp2_with fail
      go_ret
      exact ⟨_, _, _, rfl, ⟨.inl ⟨⟨_, _, rfl⟩, rfl⟩, by simp [maxLen]⟩, Below.refl _ _⟩

end Go.Proofs.YtmedijheidbmhaaDoor

/- Programs: headFits. -/
namespace Go.Proofs.YtmedijheidbmhaaDoor
open Go.RowKit Go.Deep Go.Shelf

theorem right_is (E : Nat) (B : Nat → Prop) (t : Ty) (hf : t.fine) (hdep : t.depth ≤ 1000) (r : Int) (hr : rightE t = r) (v : Value) (w : World) (hB : Low B w) (he : Env E w) (hv : TyVal B w v t) :
    Calls Tryd.prog 45 #[v] w fun e w' => e = .returned (.int .i64 r) ∧ Below w.heap.size w w' := by
  rw [← hr]; exact tright_any E B t hf hdep v w hB he hv

noncomputable def pmB (a : Pm) : Bool := nameB a.n && rightE a.t == 0
noncomputable def hdB (d : Df) : Bool := d.ms.all pmB && nameB d.n
set_option maxHeartbeats 2000000 in
theorem headFits_any (S : Nat → Prop) (d : Df) (b o E : Nat) (w : World) (hS : Low S w) (he : Env E w) (hSb : S b) (hf : ∀ a ∈ d.ms, a.t.fine ∧ a.t.depth ≤ 1000) (hd : DfAt S w d b o) :
    Calls Tryd.prog 35 #[.pointer (some ⟨b, o, none⟩)] w fun e w' => e = .returned (.bool (hdB d)) ∧ Below w.heap.size w w' := by
  obtain ⟨hn, c0, ⟨mv, c1, hm⟩, _⟩ := hd
  have hbl := hS b hSb
  obtain ⟨pa, len, c, rfl, hlen, hmx, hget⟩ := hm.open
  obtain ⟨ms, hms⟩ : ∃ ms, d.ms = ms := ⟨_, rfl⟩
  obtain ⟨nm, hnm⟩ : ∃ nm, d.n = nm := ⟨_, rfl⟩
  have hhd : hdB d = (ms.all pmB && nameB nm) := by unfold hdB; rw [hms, hnm]
  rw [hhd]
  rw [hms] at hget hlen hf
  rw [hnm] at c0 hn
  have HG := Lib.hid hget
  have HFN := Lib.hid hf
  clear hget hf hm hms hnm hhd
  go_enter Tryd.func35, Tryd.ntmps35
  go_wp2_with fail
  go_loopw [10] (fun i wr => ∃ (j : Nat), i = .int .i64 (j : Int) ∧ j ≤ len ∧ Hid ((ms.take j).all pmB = true) ∧ Below w.heap.size w wr) (fun i _ => len - (intOf i).toNat)
  case atStart => exact ⟨0, rfl, by omega, Lib.hid (by simp), Below.refl _ _⟩
  case round =>
    obtain ⟨j, rfl, hj, HT, hw⟩ := hrel
    by_cases hlt : j < len
    · obtain ⟨x, hx⟩ : ∃ x, ms[j]? = some x := ⟨_, List.getElem?_eq_getElem (by rw [← hlen.out]; exact hlt)⟩
      obtain ⟨kb, ko, rfl, hkb, hxn, a0, hty⟩ := HG.out j x hx
      have hmem := List.mem_of_getElem? hx
      obtain ⟨hfx, hdx⟩ := HFN.out x hmem
      have e0 := (hw.cell (p := ⟨kb, ko + j * 7, none⟩) (hS kb hkb)).trans a0
      obtain ⟨la, ln, lc, ka, kn, kc, ⟨d0, d1, d2, d3, d4, d5⟩, hv⟩ := (hty.keep (hw.keeps'.mono hS)).load'
      have e2 : wr.cell? ⟨kb, ko + j * 7 + 2, none⟩ = some (.int .i64 x.t.p) := d1
      have e3 : wr.cell? ⟨kb, ko + j * 7 + 3, none⟩ = some (.string x.t.n) := d2
      have e4 : wr.cell? ⟨kb, ko + j * 7 + 4, none⟩ = some (.int .i64 x.t.s) := d3
      have e5 : wr.cell? ⟨kb, ko + j * 7 + 5, none⟩ = some (.slice la ln lc) := d4
      have e6 : wr.cell? ⟨kb, ko + j * 7 + 6, none⟩ = some (.slice ka kn kc) := d5
      have hbx := blkBelow wr #[.string x.n, .int .i64 x.t.k, .int .i64 x.t.p, .string x.t.n, .int .i64 x.t.s, .slice la ln lc, .slice ka kn kc] 53
      have hbw := below_seq hw hbx
      obtain ⟨nb, hnb⟩ : ∃ b, nameB x.n = b := ⟨_, rfl⟩
      obtain ⟨r, hr⟩ : ∃ r, rightE x.t = r := ⟨_, rfl⟩
      have HN := Lib.hid (tname_is x.n nb hnb hxn E _ (he.to hbw))
      have HR := Lib.hid (right_is E S x.t hfx hdx r hr _ _ (hS.le hbw.size) (he.to hbw) (hv.to (hS.le hw.size) hbx))
      have HX := Lib.hid hx
      have HPB : Hid (pmB x = (nb && r == 0)) := Lib.hid (by unfold pmB; rw [hnb, hr])
      have HBW := Lib.hid hbw
      have HFA : Hid (pmB x = false → (ms.all pmB && nameB nm) = false) := Lib.hid (fun h => by
        have : ms.all pmB = false := by
          rw [List.all_eq_false]; exact ⟨x, hmem, by rw [h]; simp⟩
        rw [this]; rfl)
      have HTR : Hid (pmB x = true → (ms.take (j + 1)).all pmB = true) := Lib.hid (fun h => by
        rw [take_snoc_get HX.out, List.all_append, HT.out]; simp [h])
      clear hx hmem hfx hdx hty hv d1 d2 d3 d4 d5 hnb hr hbx hbw a0
      cases nb
      · go_wp2_with (go_at_call 44; refine HN.out.mono ?_; rintro e w2 ⟨rfl, rfl⟩)
        go_ret
        exact ⟨ret_bool (HFA.out (by rw [HPB.out]; rfl)).symm, HBW.out⟩
      · by_cases h0 : r = 0
        · subst h0
          go_wp2_with (first | (go_at_call 44; refine HN.out.mono ?_; rintro e w2 ⟨rfl, rfl⟩) | (go_at_call 45; refine HR.out.mono ?_; rintro e w3 ⟨rfl, hb3⟩))
          go_roundw
          case rel => exact ⟨j + 1, by go_num, by omega, Lib.hid (HTR.out (by rw [HPB.out]; rfl)), below_seq HBW.out hb3⟩
          case measure => simp [intOf]; omega
        · have h0' : (r != 0) = true := by simpa using h0
          have h0'' : (r == 0) = false := by simpa using h0
          clear h0
          go_wp2_with (first | (go_at_call 44; refine HN.out.mono ?_; rintro e w2 ⟨rfl, rfl⟩) | (go_at_call 45; refine HR.out.mono ?_; rintro e w3 ⟨rfl, hb3⟩))
          go_ret
          exact ⟨ret_bool (HFA.out (by rw [HPB.out, h0'']; rfl)).symm, below_seq HBW.out hb3⟩
    · obtain rfl : j = len := by omega
      have hall : ms.all pmB = true := by have := HT.out; rwa [List.take_of_length_le (by rw [hlen.out]; exact Nat.le_refl _)] at this
      obtain ⟨nb, hnb⟩ : ∃ b, nameB nm = b := ⟨_, rfl⟩
      have HN := Lib.hid (tname_is nm nb hnb hn E wr (he.to hw))
      have HF : Hid ((ms.all pmB && nameB nm) = nb) := Lib.hid (by rw [hall, hnb, Bool.true_and])
      have e0 := (hw.cell (p := ⟨b, o, none⟩) hbl).trans c0
      clear hall hnb
      go_wp2_with (go_at_call 44; refine HN.out.mono ?_; rintro e w2 ⟨rfl, rfl⟩)
      go_ret
      exact ⟨ret_bool HF.out.symm, hw⟩

end Go.Proofs.YtmedijheidbmhaaDoor

/- Types: the second law of layer 2. -/
namespace Go.Proofs.YtmedijheidbmhaaDoor
open Go.RowKit Go.Deep Go.Shelf

theorem sess_l {W : World} {k p s : Int} {n : ByteArray} {lv kv : Value} {b : Bool} (hb : (k != 1 && k != 2) = b) : Calls Tryd.prog 76 #[.agg #[.int .i64 k, .int .i64 p, .string n, .int .i64 s, lv, kv]] W fun e w' => e = .returned (.bool b) ∧ Below W.heap.size W w' := by
  rw [← hb]; exact tsession_any k p s n lv kv W
theorem six_two_below (w : World) (a0 a1 a2 a3 a4 a5 b0 b1 b2 b3 b4 b5 : Value) : Below w.heap.size w ((w.alloc (.cells #[a0, a1, a2, a3, a4, a5] 27)).alloc (.cells #[b0, b1, b2, b3, b4, b5] 27)) := box2_below w _ _

end Go.Proofs.YtmedijheidbmhaaDoor

/- From a row's list of package-level variables to what the walks lean on; a world that meets the list. -/
namespace Go.Proofs.YtmedijheidbmhaaDoor
open Go.RowKit Go.ChangeShapes

/-- The list that all rows of this seat bear. -/
abbrev seatLaid : List (String × DataW Unit) := Rows.scopeFindsRow.laid

theorem one_reads {P : Program} {w : World} : ∀ {l : List (String × DataW Unit)} {ps : List MemPlace}, DataW.LaidVars P w l ps → ∀ n d, (n, d) ∈ l →
    ∃ g t cs fuel p, P.globalNamed n = some g ∧ (P.globals[g]?).map (·.type) = some t ∧ w.var? P n = some cs ∧ DataW.trod (fun _ => ()) P w 0 (fun _ => true) false fuel t cs.toList = some (d, p)
  | [], _, _, _, _, hm => by cases hm
  | (n', d') :: r, ps, h, n, d, hm => by
    obtain ⟨g, t, cs, fuel, p, q, h1, h2, h3, h4, h5, _⟩ := h
    rcases List.mem_cons.1 hm with e | e
    · cases e
      exact ⟨g, t, cs, fuel, p, h1, h2, h3, h4⟩
    · exact one_reads h5 n d e

theorem strs_read {H : Type} {enc : TypeId × Value → H} {P : Program} {w : World} {base : Nat} {sp : Nat → Bool} {held : Bool} {fuel : Nat} {t e : TypeId} {n : Nat} {cs : List Value} {ls : List (List UInt8)} {p : List MemPlace}
    (ht : P.underlying t = some (.array n e)) (he : P.underlying e = some .string) (hce : P.cellsOf e = 1) (hct : P.cellsOf t = n)
    (h : DataW.trod enc P w base sp held fuel t cs = some (.agg (ls.map fun l => .lit (.string l)), p)) : cs = ls.map fun l => Value.string ⟨l.toArray⟩ := by
  obtain ⟨xs, m, _, hx, hlen, hxl, hat⟩ := DataW.trod_array ht h
  have hxs : xs.map (·.1) = ls.map fun l => (DataW.lit (.string l) : DataW H) := by
    have := congrArg Prod.fst hx
    simpa using this.symm
  have hll : ls.length = n := by
    have := congrArg List.length hxs
    simp at this; omega
  apply List.ext_getElem?
  intro i
  by_cases hi : i < n
  · have hf := hat i hi
    rw [hce, Nat.mul_one] at hf
    obtain ⟨x, hxi⟩ : ∃ x, xs[i]? = some x := ⟨_, List.getElem?_eq_getElem (by omega)⟩
    rw [hxi] at hf
    obtain ⟨s, hc, rfl, _⟩ := DataW.trod_string he hf
    have h1 : cs[i]? = some (.string s) := by
      have := congrArg (·[0]?) hc
      simpa [List.getElem?_take, List.getElem?_drop] using this
    have h2 : (xs.map (·.1))[i]? = some (DataW.lit (.string s.data.toList) : DataW H) := by simp [hxi]
    rw [hxs] at h2
    simp only [List.getElem?_map, Option.map_eq_some_iff, DataW.lit.injEq, Lit.string.injEq] at h2
    obtain ⟨l, hl, hls⟩ := h2
    rw [h1, List.getElem?_map, hl, hls]
    rfl
  · rw [List.getElem?_eq_none (by omega), List.getElem?_eq_none (by simp; omega)]

theorem wordsType : (Tryd.prog.globals[0]?).map (·.type) = some 122 := by kernel_rfl
theorem cellsStr : Tryd.prog.cellsOf 9 = 1 := by kernel_rfl
theorem cellsWords : Tryd.prog.cellsOf 122 = 10 := by kernel_rfl
theorem env_of_laid {W : World} (h : laidMetH Tryd.prog seatLaid W) : Env W.heap.size W := by
  rw [MakeChecks.laidMetH_plain _ _ _ (by kernel_rfl)] at h
  obtain ⟨ps, hv, _⟩ := h
  obtain ⟨g', t', cs', fuel', p', hg', ht', hvar', hd'⟩ := one_reads hv "duologue/lex.keywords" Rows.laid_duologue_lex_keywords (by simp [seatLaid, Rows.scopeFindsRow])
  obtain rfl := Option.some.inj (gWords.symm.trans hg')
  obtain rfl := Option.some.inj (wordsType.symm.trans ht')
  have hws := strs_read (ls := [[100, 101, 102], [109, 97, 105, 110], [115, 116, 111, 112], [110, 101, 119], [105, 110, 116], [98, 111, 111, 108], [101, 110, 100], [114, 101, 99], [116, 114, 117, 101], [102, 97, 108, 115, 101]]) kwU Tryd.underlying9 cellsStr cellsWords hd'
  have lt : ∀ {n : String} {g : Nat} {cs : Array Value}, Tryd.prog.globalNamed n = some g → W.var? Tryd.prog n = some cs → g < W.heap.size := by
    intro n g cs hg hv
    unfold World.var? at hv
    simp only [hg, Option.bind_some] at hv
    rcases Nat.lt_or_ge g W.heap.size with h' | h'
    · exact h'
    · rw [Array.getElem?_eq_none h'] at hv; cases hv
  refine ⟨?_, lt gWords hvar', Nat.le_refl _⟩
  rw [hvar']; obtain ⟨l⟩ := cs'; simp only at hws; rw [hws]; rfl

/-- The door's own heap meets the list: closed facts. -/
theorem door_met (os : Os) (args : Array Value) : laidMetH Tryd.prog seatLaid ((World.doorLaid Tryd.prog 4000 os).forCall (fun _ _ => 0) ⟨#[], args, []⟩).memory :=
  laidMetH_of_parts3 (fuel := 10) (laidMet_of_run' 10 (by kernel_rfl) (by kernel_rfl)) (by kernel_rfl) (by kernel_rfl)

end Go.Proofs.YtmedijheidbmhaaDoor

/- Types: a type that came in as an argument. -/
namespace Go.Proofs.YtmedijheidbmhaaDoor
open Go.ChangeShapes Go.WideShapes Go.ChangeAt Go.RowKit Go.Deep

theorem choose_list {α : Type} (Q : Nat → α → Prop) : ∀ n : Nat, (∀ i, i < n → ∃ x, Q i x) → ∃ ls : List α, ls.length = n ∧ ∀ i x, ls[i]? = some x → Q i x
  | 0, _ => ⟨[], rfl, fun i x h => by simp at h⟩
  | n + 1, h => by
    obtain ⟨ls, hl, hq⟩ := choose_list Q n (fun i hi => h i (by omega))
    obtain ⟨x, hx⟩ := h n (by omega)
    refine ⟨ls ++ [x], by simp [hl], fun i y hy => ?_⟩
    by_cases hi : i < ls.length
    · rw [List.getElem?_append_left hi] at hy; exact hq i y hy
    · rw [List.getElem?_append_right (by omega)] at hy
      have : i - ls.length = 0 := by
        rcases Nat.eq_zero_or_pos (i - ls.length) with h0 | h0
        · exact h0
        · rw [List.getElem?_eq_none (by simp; omega)] at hy; cases hy
      rw [this] at hy
      simp at hy
      subst hy
      have : i = n := by omega
      subst this
      exact hx
theorem addr_of_cell {w : World} {a : Addr} {v : Value} (h : w.cell? a = some v) : a = ⟨a.block, a.off, none⟩ ∧ a.block < w.heap.size := by
  obtain ⟨b, o, s⟩ := a
  unfold World.cell? at h
  cases hb : w.heap[b]? with
  | none => simp [hb] at h
  | some ob =>
    have hlt := (Array.getElem?_eq_some_iff.1 hb).1
    cases s with
    | none => exact ⟨rfl, hlt⟩
    | some s => cases ob <;> simp [hb] at h
theorem add_block {b o : Nat} (j : Nat) : (⟨b, o, none⟩ : Addr).add j = ⟨b, o + j, none⟩ := by
  unfold Addr.add
  by_cases h : j = 0
  · subst h; simp
  · simp [h]
theorem add_zero' (a : Addr) : a.add 0 = a := by unfold Addr.add; simp
/-- A struct of one-cell fields, field by field. -/
theorem fields_of {H : Type} {enc : TypeId × Value → H} {P : Program} {w : World} {base : Nat} {spare : Nat → Bool} {held : Bool} {e : TypeId} {fs : Array Field} {fuel : Nat} {cs : List Value} {x : DataW H × List MemPlace}
    (he : P.underlying e = some (.struct fs)) (hone : oneCellFields P fs = true) (hC : P.cellsOf e = fs.size) (h : DataW.trod enc P w base spare held fuel e cs = some x) :
    ∃ (ys : List (DataW H × List MemPlace)) (n : Nat), fuel = n + 1 ∧ x = (.agg (ys.map (·.1)), ys.flatMap (·.2)) ∧ cs.length = fs.size ∧ ys.length = fs.size ∧
      ∀ (j : Nat) (f : Field), fs[j]? = some f → ∃ v y, cs[j]? = some v ∧ ys[j]? = some y ∧ DataW.trod enc P w base spare held n f.type [v] = some y := by
  obtain ⟨ys, n, hn, hx, hl, hyl, hf⟩ := DataW.trod_struct he h
  rw [hC] at hl
  refine ⟨ys, n, hn, hx, hl, hyl, fun j f hj => ?_⟩
  have hlt := (Array.getElem?_eq_some_iff.1 hj).1
  obtain ⟨ho, h1⟩ := hone_of hone j f hj
  have h2 := hf j f hj
  obtain ⟨v, hv⟩ : ∃ v, cs[j]? = some v := ⟨_, List.getElem?_eq_getElem (by omega)⟩
  obtain ⟨y, hy⟩ : ∃ y, ys[j]? = some y := ⟨_, List.getElem?_eq_getElem (by omega)⟩
  have ht : (cs.drop j).take 1 = [v] := by
    have hd := List.drop_eq_getElem_cons (l := cs) (i := j) (by omega)
    rw [List.getElem?_eq_getElem (by omega)] at hv
    rw [hd, List.take_succ_cons, List.take_zero]
    simpa using hv
  rw [ho, h1, ht, hy] at h2
  exact ⟨v, y, hv, hy, h2⟩
/-- A slice: nil, or elements that read with less fuel. -/
theorem slice_of {H : Type} {enc : TypeId × Value → H} {P : Program} {w : World} {base : Nat} {spare : Nat → Bool} {held : Bool} {t e : TypeId} {fuel : Nat} {v : Value} {x : DataW H × List MemPlace}
    (he : P.underlying t = some (.slice e)) (h : DataW.trod enc P w base spare held fuel t [v] = some x) :
    ∃ (a : Option Addr) (len cap : Nat), v = .slice a len cap ∧ len ≤ cap ∧ cap ≤ maxLen ∧ ∀ i, i < len → ∃ ad n cs y, a = some ad ∧ n < fuel ∧ w.cells? base (ad.add (i * P.cellsOf e)) (P.cellsOf e) = some cs ∧ DataW.trod enc P w base spare held n e cs = some y := by
  rcases DataW.trod_slice he h with ⟨hc, hx⟩ | ⟨a, len, cap, elems, rest, n, hn, hcs, hx, hb, hl, hm, hlen, hel, _⟩
  · simp only [List.cons.injEq, and_true] at hc
    exact ⟨none, 0, 0, hc, by omega, by simp [maxLen], fun i hi => by omega⟩
  · simp only [List.cons.injEq, and_true] at hcs
    refine ⟨some a, len, cap, hcs, hl, hm, fun i hi => ?_⟩
    have h1 := hel i hi
    obtain ⟨y, hy⟩ : ∃ y, elems[i]? = some y := ⟨_, List.getElem?_eq_getElem (by omega)⟩
    rw [hy] at h1
    cases hq : w.cells? base (a.add (i * P.cellsOf e)) (P.cellsOf e) with
    | none => rw [hq] at h1; simp at h1
    | some cs => rw [hq] at h1; exact ⟨a, n, cs, y, rfl, by omega, hq, by simpa using h1⟩

theorem wf_in {n : Int} (h : (Lit.int .i64 n).wf = true) : In64 n := by
  unfold Lit.wf at h
  rw [Bool.and_eq_true, decide_eq_true_eq, decide_eq_true_eq] at h
  exact h

theorem strs_open {H : Type} {enc : TypeId × Value → H} {W : World} {base : Nat} {spare : Nat → Bool} {held : Bool} {fuel : Nat} {v : Value} {x : DataW H × List MemPlace} (h : DataW.trod enc Tryd.prog W base spare held fuel 23 [v] = some x) :
    ∃ ls, StrSl (fun k => k < W.heap.size) W v ls := by
  obtain ⟨a, len, cap, rfl, hl, hm, hi⟩ := slice_of Tryd.underlying23 h
  rw [show Tryd.prog.cellsOf 9 = 1 from by kernel_rfl] at hi
  have each : ∀ i, i < len → ∃ s : ByteArray, s.size ≤ maxLen ∧ ∃ b o, a = some ⟨b, o, none⟩ ∧ b < W.heap.size ∧ W.cell? ⟨b, o + i, none⟩ = some (.string s) := by
    intro i hin
    obtain ⟨ad, n, cs, y, rfl, _, hc, ht⟩ := hi i hin
    obtain ⟨ad0, n0, cs0, y0, e0, _, hc0, ht0⟩ := hi 0 (by omega)
    obtain rfl := Option.some.inj e0
    obtain ⟨s, rfl, _, hs⟩ := DataW.trod_string Tryd.underlying9 ht
    obtain ⟨s0, rfl, _, _⟩ := DataW.trod_string Tryd.underlying9 ht0
    obtain ⟨_, _, hat⟩ := World.cells?_some hc
    obtain ⟨_, _, hat0⟩ := World.cells?_some hc0
    have h0 := hat0 0 (by omega)
    have h1 := hat 0 (by omega)
    rw [Nat.zero_mul, add_zero', add_zero'] at h0
    obtain ⟨e1, e2⟩ := addr_of_cell h0
    rw [add_zero', e1, add_block] at h1
    exact ⟨s, hs, ad.block, ad.off, by rw [← e1], e2, by simpa using h1⟩
  obtain ⟨ls, hln, hls⟩ := choose_list _ len each
  refine ⟨ls, ?_, by omega, fun s hs => ?_⟩
  · cases ls with
    | nil => exact .inl ⟨⟨a, cap, by rw [← hln]; rfl⟩, rfl⟩
    | cons s0 r =>
      obtain ⟨_, b, o, rfl, hb, _⟩ := hls 0 s0 rfl
      refine .inr ⟨b, o, cap, by rw [hln], hb, by omega, fun j s hj => ?_⟩
      obtain ⟨_, b', o', e, _, hc⟩ := hls j s hj
      simp only [Option.some.injEq, Addr.mk.injEq, and_true] at e
      obtain ⟨rfl, rfl⟩ := e
      exact hc
  · obtain ⟨i, hi'⟩ := List.mem_iff_getElem?.1 hs
    exact (hls i s hi').1

/-- The cells of a type. -/
def tyCells (t : Ty) (lv kv : Value) : List Value := [.int .i64 t.k, .int .i64 t.p, .string t.n, .int .i64 t.s, lv, kv]
theorem tyCellsOf : Tryd.prog.cellsOf 27 = 6 := by kernel_rfl

set_option maxRecDepth 100000 in
theorem ty_open {H : Type} {enc : TypeId × Value → H} {W : World} {base : Nat} {spare : Nat → Bool} {held : Bool} : ∀ (fuel : Nat) (cs : List Value) (x : DataW H × List MemPlace), DataW.trod enc Tryd.prog W base spare held fuel 27 cs = some x →
    ∃ t lv kv, cs = tyCells t lv kv ∧ t.fine ∧ Lies W (.agg (tyCells t lv kv).toArray) t := by
  intro fuel
  induction fuel using Nat.strongRecOn with
  | _ fuel ih =>
  intro cs x h
  obtain ⟨ys, n', hn', hD, hcl, hyl, hf⟩ := fields_of Tryd.underlying27 (by kernel_rfl) (by kernel_rfl) h
  obtain ⟨v0, y0, e0, z0, t0⟩ := hf 0 _ rfl
  obtain ⟨v1, y1, e1, z1, t1⟩ := hf 1 _ rfl
  obtain ⟨v2, y2, e2, z2, t2⟩ := hf 2 _ rfl
  obtain ⟨v3, y3, e3, z3, t3⟩ := hf 3 _ rfl
  obtain ⟨v4, y4, e4, z4, t4⟩ := hf 4 _ rfl
  obtain ⟨v5, y5, e5, z5, t5⟩ := hf 5 _ rfl
  obtain ⟨k, hk, _, wk⟩ := DataW.trod_int Tryd.underlying3 t0
  obtain ⟨p, hp, _, _⟩ := DataW.trod_int Tryd.underlying3 t1
  obtain ⟨nm, hnm, _, hnz⟩ := DataW.trod_string Tryd.underlying9 t2
  obtain ⟨s, hs, _, _⟩ := DataW.trod_int Tryd.underlying3 t3
  simp only [List.cons.injEq, and_true] at hk hp hnm hs
  subst hk hp hnm hs
  obtain ⟨ls, hls⟩ := strs_open t4
  obtain ⟨a, len, cap, rfl, hl, hm, hi⟩ := slice_of Tryd.underlying25 t5
  rw [tyCellsOf] at hi
  have each : ∀ i, i < len → ∃ t : Ty, t.fine ∧ ∃ b o, a = some ⟨b, o, none⟩ ∧ TyAt (fun k => k < W.heap.size) W t b (o + i * 6) := by
    intro i hin
    obtain ⟨ad, n, cs', y, rfl, hlt, hc, ht⟩ := hi i hin
    obtain ⟨ad0, n0, cs0, y0, e0, _, hc0, ht0⟩ := hi 0 (by omega)
    obtain rfl := Option.some.inj e0
    obtain ⟨t, lv, kv, rfl, hfine, hlies⟩ := ih n (by omega) cs' y ht
    obtain ⟨_, hl6, hat⟩ := World.cells?_some hc
    obtain ⟨_, hl0, hat0⟩ := World.cells?_some hc0
    have h0 := hat0 0 (by omega)
    rw [Nat.zero_mul, add_zero', add_zero', List.getElem?_eq_getElem (by omega)] at h0
    obtain ⟨e1, e2⟩ := addr_of_cell h0
    rw [e1] at hat
    simp only [add_block] at hat
    refine ⟨t, hfine, ad.block, ad.off, by rw [← e1], ?_⟩
    refine tyAt_of e2 ?_ ?_ ?_ ?_ ?_ ?_ hlies
    · have := hat 0 (by omega); simpa [tyCells] using this
    · have := hat 1 (by omega); simpa [tyCells] using this
    · have := hat 2 (by omega); simpa [tyCells] using this
    · have := hat 3 (by omega); simpa [tyCells] using this
    · have := hat 4 (by omega); simpa [tyCells] using this
    · have := hat 5 (by omega); simpa [tyCells] using this
  obtain ⟨ts, htn, hts⟩ := choose_list _ len each
  have hcs : cs = [.int .i64 k, .int .i64 p, .string nm, .int .i64 s, v4, .slice a len cap] := by
    match cs, hcl, e0, e1, e2, e3, e4, e5 with
    | [a0, a1, a2, a3, a4, a5], _, e0, e1, e2, e3, e4, e5 =>
      simp at e0 e1 e2 e3 e4 e5
      rw [e0, e1, e2, e3, e4, e5]
  refine ⟨.mk k p nm s ls ts, v4, .slice a len cap, hcs, ⟨wf_in wk, ?_⟩, _, _, rfl, hnz, hls, ?_, by show ts.length ≤ _; omega⟩
  · have : ∀ l : List Ty, (∀ u ∈ l, u.fine) → Ty.fines l := by
      intro l
      induction l with
      | nil => intro _; trivial
      | cons u r ihr => intro hh; exact ⟨hh u (by simp), ihr (fun v hv => hh v (by simp [hv]))⟩
    refine this ts (fun u hu => ?_)
    obtain ⟨i, hi'⟩ := List.mem_iff_getElem?.1 hu
    exact (hts i u hi').1
  · show _ ∨ _
    cases ts with
    | nil => exact .inl ⟨⟨a, cap, by rw [← htn]; rfl⟩, rfl⟩
    | cons u0 r =>
      obtain ⟨_, b, o, rfl, hat0⟩ := hts 0 u0 rfl
      refine .inr ⟨b, o, cap, by show Value.slice _ _ _ = Value.slice _ (u0 :: r).length _; rw [htn], (TyAt.eq.1 hat0).1, ?_⟩
      refine tysAt_of (fun i t hi' => ?_)
      obtain ⟨_, b', o', e, hat⟩ := hts i t hi'
      simp only [Option.some.injEq, Addr.mk.injEq, and_true] at e
      obtain ⟨rfl, rfl⟩ := e
      exact hat

set_option maxRecDepth 100000 in
/-- A type that came in. -/
theorem type_open {H : Type} {enc : TypeId × Value → H} {W : World} {base : Nat} {spare : Nat → Bool} {held : Bool} {v : Value} {d : DataW H} {p : List MemPlace} {b0 : Nat} (hv : Value.okWide Tryd.prog W .any b0 27 v) (h : DataW.Trod enc Tryd.prog W base spare held 27 v d p) :
    ∃ t, t.fine ∧ Lies W v t := by
  obtain ⟨fuel, hf⟩ := h
  unfold Value.okWide at hv
  rw [Tryd.underlying27] at hv
  obtain ⟨cs, rfl, _, _⟩ := hv
  obtain ⟨t, lv, kv, e, hfine, hl⟩ := ty_open fuel _ _ hf
  have e' : cs.toList = tyCells t lv kv := e
  have : cs = (tyCells t lv kv).toArray := by rw [← e']
  rw [this]
  exact ⟨t, hfine, hl⟩

end Go.Proofs.YtmedijheidbmhaaDoor

/- Processes and programs: those that came in as arguments. -/
namespace Go.Proofs.YtmedijheidbmhaaDoor
open Go.ChangeShapes Go.WideShapes Go.ChangeAt Go.RowKit Go.Deep

mutual
/-- All kinds are numbers that a word holds, also those of the types. -/
def Pr.fine : Pr → Prop
  | .mk k _ _ _ _ t ps => In64 k ∧ t.fine ∧ Pr.fines ps
def Pr.fines : List Pr → Prop
  | [] => True
  | p :: r => p.fine ∧ Pr.fines r
end
theorem Pr.fine_k {p : Pr} (h : p.fine) : In64 p.k := by cases p; exact h.1
theorem Pr.fine_t {p : Pr} (h : p.fine) : p.t.fine := by cases p; exact h.2.1
theorem Pr.fines_mem : ∀ {l : List Pr}, Pr.fines l → ∀ u ∈ l, u.fine
  | [], _, _, hu => by cases hu
  | t :: r, h, u, hu => by
    rcases List.mem_cons.1 hu with rfl | hu
    · exact h.1
    · exact Pr.fines_mem h.2 u hu
theorem Pr.fine_ps {p : Pr} (h : p.fine) : ∀ u ∈ p.ps, u.fine := by cases p; exact Pr.fines_mem h.2.2
theorem Pr.fines_of : ∀ l : List Pr, (∀ u ∈ l, u.fine) → Pr.fines l := by
  intro l
  induction l with
  | nil => intro _; trivial
  | cons u r ihr => intro hh; exact ⟨hh u (by simp), ihr (fun v hv => hh v (by simp [hv]))⟩
def Df.fine (d : Df) : Prop := (∀ a ∈ d.ms, a.t.fine) ∧ d.b.fine
def Pg.fine (g : Pg) : Prop := (∀ d ∈ g.ds, d.fine) ∧ g.m.fine

/-- A value is a process that lies in w. -/
def PLies (w : World) (v : Value) (p : Pr) : Prop := PrVal (fun k => k < w.heap.size) w v p
theorem PLies.to {w w' : World} {v : Value} {p : Pr} (h : PLies w v p) (hb : Below w.heap.size w w') : PLies w' v p :=
  PrVal.mono (fun _ hk => Nat.lt_of_lt_of_le hk hb.size) (PrVal.to (fun _ hk => hk) hb h)
/-- A value is a program that lies in w. -/
def GLies (w : World) (v : Value) (g : Pg) : Prop := PgVal (fun k => k < w.heap.size) w v g
theorem GLies.to {w w' : World} {v : Value} {g : Pg} (h : GLies w v g) (hb : Below w.heap.size w w') : GLies w' v g :=
  PgVal.mono (fun _ hk => Nat.lt_of_lt_of_le hk hb.size) (PgVal.to (fun _ hk => hk) hb h)

/-- One field of a struct. -/
theorem fld {H : Type} {enc : TypeId × Value → H} {P : Program} {w : World} {base : Nat} {spare : Nat → Bool} {held : Bool} {n : Nat} {cs : List Value} {fs : Array Field} {xs : List (DataW H × List MemPlace)} (hx : xs.length = fs.size)
    (hf : ∀ (i : Nat) (f : Field), fs[i]? = some f → DataW.trod enc P w base spare held n f.type ((cs.drop f.offset).take (P.cellsOf f.type)) = xs[i]?) (i : Nat) {f : Field} (hi : fs[i]? = some f) {c : Nat} (hc : P.cellsOf f.type = c) {ds : List Value} (hd : (cs.drop f.offset).take c = ds) {t : TypeId} (ht : f.type = t) :
    ∃ y, DataW.trod enc P w base spare held n t ds = some y := by
  subst ht hd hc
  have hlt := (Array.getElem?_eq_some_iff.1 hi).1
  rw [hf i f hi]
  exact ⟨_, List.getElem?_eq_getElem (by omega)⟩

/-- The elements of a slice, each of which is told from its cells. -/
theorem rows_of {H : Type} {enc : TypeId × Value → H} {P : Program} {w : World} {base : Nat} {spare : Nat → Bool} {held : Bool} {e : TypeId} {fuel len c : Nat} {a : Option Addr} {α : Type} (Q : α → Nat → Nat → Prop) (hc : 0 < c)
    (hi : ∀ i, i < len → ∃ ad n cs y, a = some ad ∧ n < fuel ∧ w.cells? base (ad.add (i * c)) c = some cs ∧ DataW.trod enc P w base spare held n e cs = some y)
    (hel : ∀ n cs y, n < fuel → cs.length = c → DataW.trod enc P w base spare held n e cs = some y → ∃ x : α, ∀ b o, b < w.heap.size → (∀ j v, cs[j]? = some v → w.cell? ⟨b, o + j, none⟩ = some v) → Q x b o) :
    ∃ xs : List α, xs.length = len ∧ (xs = [] ∨ ∃ b o, a = some ⟨b, o, none⟩ ∧ b < w.heap.size ∧ ∀ j x, xs[j]? = some x → Q x b (o + j * c)) ∧ ∀ x ∈ xs, ∃ b o, Q x b o := by
  have each : ∀ i, i < len → ∃ x : α, ∃ b o, a = some ⟨b, o, none⟩ ∧ b < w.heap.size ∧ Q x b (o + i * c) := by
    intro i hin
    obtain ⟨ad, n, cs, y, rfl, hn, hcs, ht⟩ := hi i hin
    obtain ⟨ad0, n0, cs0, y0, e0, _, hcs0, ht0⟩ := hi 0 (by omega)
    obtain rfl := Option.some.inj e0
    obtain ⟨_, hl, hat⟩ := World.cells?_some hcs
    obtain ⟨_, hl0, hat0⟩ := World.cells?_some hcs0
    have h0 := hat0 0 hc
    rw [Nat.zero_mul, add_zero', add_zero', List.getElem?_eq_getElem (by omega)] at h0
    obtain ⟨e1, e2⟩ := addr_of_cell h0
    obtain ⟨x, hx⟩ := hel n cs y hn hl ht
    rw [e1] at hat
    simp only [add_block] at hat
    exact ⟨x, ad.block, ad.off, by rw [← e1], e2, hx _ _ e2 (fun j v hj => by
      have hj' : j < c := by rw [← hl]; exact (List.getElem?_eq_some_iff.1 hj).1
      rw [hat j hj', hj])⟩
  obtain ⟨xs, hn, hxs⟩ := choose_list _ len each
  refine ⟨xs, hn, ?_, fun x hx => ?_⟩
  · cases xs with
    | nil => exact .inl rfl
    | cons x0 r =>
      obtain ⟨b, o, rfl, hb, _⟩ := hxs 0 x0 rfl
      refine .inr ⟨b, o, rfl, hb, fun j x hj => ?_⟩
      obtain ⟨b', o', e, _, hq⟩ := hxs j x hj
      simp only [Option.some.injEq, Addr.mk.injEq, and_true] at e
      obtain ⟨rfl, rfl⟩ := e
      exact hq
  · obtain ⟨i, hi'⟩ := List.mem_iff_getElem?.1 hx
    obtain ⟨b, o, _, _, hq⟩ := hxs i x hi'
    exact ⟨_, _, hq⟩

theorem list3 {α : Type} {l : List α} (h : l.length = 3) : ∃ a b c, l = [a, b, c] := by
  match l, h with
  | [a, b, c], _ => exact ⟨a, b, c, rfl⟩
theorem list7 {α : Type} {l : List α} (h : l.length = 7) : ∃ a0 a1 a2 a3 a4 a5 a6, l = [a0, a1, a2, a3, a4, a5, a6] := by
  match l, h with
  | [a0, a1, a2, a3, a4, a5, a6], _ => exact ⟨_, _, _, _, _, _, _, rfl⟩
theorem list12 {α : Type} {l : List α} (h : l.length = 12) : ∃ a0 a1 a2 a3 a4 a5 a6 a7 a8 a9 a10 a11, l = [a0, a1, a2, a3, a4, a5, a6, a7, a8, a9, a10, a11] := by
  match l, h with
  | [a0, a1, a2, a3, a4, a5, a6, a7, a8, a9, a10, a11], _ => exact ⟨_, _, _, _, _, _, _, _, _, _, _, _, rfl⟩
theorem list13 {α : Type} {l : List α} (h : l.length = 13) : ∃ a r, l = a :: r ∧ r.length = 12 := by
  cases l with
  | nil => simp at h
  | cons a r => exact ⟨a, r, rfl, by simpa using h⟩
theorem list14 {α : Type} {l : List α} (h : l.length = 14) : ∃ a b r, l = a :: b :: r ∧ r.length = 12 := by
  match l, h with
  | a :: b :: r, h => exact ⟨a, b, r, rfl, by simpa using h⟩

theorem valueCellsOf : Tryd.prog.cellsOf 51 = 3 := by kernel_rfl
theorem procCellsOf : Tryd.prog.cellsOf 30 = 12 := by kernel_rfl
theorem paramCellsOf : Tryd.prog.cellsOf 53 = 7 := by kernel_rfl
theorem defCellsOf : Tryd.prog.cellsOf 44 = 14 := by kernel_rfl
theorem programCellsOf : Tryd.prog.cellsOf 32 = 13 := by kernel_rfl

set_option maxRecDepth 100000 in
theorem vls_open {H : Type} {enc : TypeId × Value → H} {W : World} {base : Nat} {spare : Nat → Bool} {held : Bool} {fuel : Nat} {v : Value} {x : DataW H × List MemPlace} (h : DataW.trod enc Tryd.prog W base spare held fuel 24 [v] = some x) :
    ∃ vs, VlSl (fun k => k < W.heap.size) W v vs := by
  obtain ⟨a, len, cap, rfl, hl, hm, hi⟩ := slice_of Tryd.underlying24 h
  rw [valueCellsOf] at hi
  obtain ⟨vs, hn, hrow, hall⟩ := rows_of (fun (a : Vl) b o => a.n.size ≤ maxLen ∧ W.cell? ⟨b, o, none⟩ = some (.int .i64 a.k) ∧ W.cell? ⟨b, o + 1, none⟩ = some (.string a.n) ∧ W.cell? ⟨b, o + 2, none⟩ = some (.int .i64 a.x)) (by omega) hi (fun n cs y _ hcl ht => by
    obtain ⟨ys, n', hn', hD, hcl2, hyl, hf⟩ := DataW.trod_struct Tryd.underlying51 ht
    obtain ⟨a0, a1, a2, rfl⟩ := list3 hcl
    obtain ⟨y0, t0⟩ := fld hyl hf 0 rfl (c := 1) (by kernel_rfl) (ds := [a0]) rfl (t := 3) rfl
    obtain ⟨y1, t1⟩ := fld hyl hf 1 rfl (c := 1) (by kernel_rfl) (ds := [a1]) rfl (t := 9) rfl
    obtain ⟨y2, t2⟩ := fld hyl hf 2 rfl (c := 1) (by kernel_rfl) (ds := [a2]) rfl (t := 2) rfl
    obtain ⟨k, hk, _, _⟩ := DataW.trod_int Tryd.underlying3 t0
    obtain ⟨nm, hnm, _, hnz⟩ := DataW.trod_string Tryd.underlying9 t1
    obtain ⟨s, hs, _, _⟩ := DataW.trod_int Tryd.underlying2 t2
    simp only [List.cons.injEq, and_true] at hk hnm hs
    subst hk hnm hs
    exact ⟨⟨k, nm, s⟩, fun b o _ hc => ⟨hnz, hc 0 _ rfl, hc 1 _ rfl, hc 2 _ rfl⟩⟩)
  refine ⟨vs, ?_, by omega, fun s hs => ?_⟩
  · rcases hrow with rfl | ⟨b, o, rfl, hb, hrow⟩
    · exact .inl ⟨⟨a, cap, by rw [← hn]; rfl⟩, rfl⟩
    · exact .inr ⟨b, o, cap, by rw [hn], hb, by omega, fun j a hj => (hrow j a hj).2⟩
  · obtain ⟨b, o, hq⟩ := hall s hs
    exact hq.1

/-- The cells of a process. -/
def prCells (p : Pr) (lv av tl tk kv : Value) : List Value := [.int .i64 p.k, .string p.c, .string p.x, lv, av, .int .i64 p.t.k, .int .i64 p.t.p, .string p.t.n, .int .i64 p.t.s, tl, tk, kv]

set_option maxRecDepth 100000 in
theorem pr_open {H : Type} {enc : TypeId × Value → H} {W : World} {base : Nat} {spare : Nat → Bool} {held : Bool} : ∀ (fuel : Nat) (cs : List Value) (x : DataW H × List MemPlace), DataW.trod enc Tryd.prog W base spare held fuel 30 cs = some x →
    ∃ p lv av tl tk kv, cs = prCells p lv av tl tk kv ∧ p.fine ∧ PLies W (.agg (prCells p lv av tl tk kv).toArray) p := by
  intro fuel
  induction fuel using Nat.strongRecOn with
  | _ fuel ih =>
  intro cs x h
  obtain ⟨ys, n', hn', hD, hcl, hyl, hf⟩ := DataW.trod_struct Tryd.underlying30 h
  rw [procCellsOf] at hcl
  obtain ⟨a0, a1, a2, a3, a4, a5, a6, a7, a8, a9, a10, a11, rfl⟩ := list12 hcl
  obtain ⟨y0, t0⟩ := fld hyl hf 0 rfl (c := 1) (by kernel_rfl) (ds := [a0]) rfl (t := 3) rfl
  obtain ⟨y1, t1⟩ := fld hyl hf 1 rfl (c := 1) (by kernel_rfl) (ds := [a1]) rfl (t := 9) rfl
  obtain ⟨y2, t2⟩ := fld hyl hf 2 rfl (c := 1) (by kernel_rfl) (ds := [a2]) rfl (t := 9) rfl
  obtain ⟨y3, t3⟩ := fld hyl hf 3 rfl (c := 1) (by kernel_rfl) (ds := [a3]) rfl (t := 23) rfl
  obtain ⟨y4, t4⟩ := fld hyl hf 4 rfl (c := 1) (by kernel_rfl) (ds := [a4]) rfl (t := 24) rfl
  obtain ⟨y5, t5⟩ := fld hyl hf 5 rfl (c := 6) (by kernel_rfl) (ds := [a5, a6, a7, a8, a9, a10]) rfl (t := 27) rfl
  obtain ⟨y6, t6⟩ := fld hyl hf 6 rfl (c := 1) (by kernel_rfl) (ds := [a11]) rfl (t := 28) rfl
  obtain ⟨k, hk, _, wk⟩ := DataW.trod_int Tryd.underlying3 t0
  obtain ⟨c, hc, _, hcz⟩ := DataW.trod_string Tryd.underlying9 t1
  obtain ⟨xv, hxv, _, hxz⟩ := DataW.trod_string Tryd.underlying9 t2
  simp only [List.cons.injEq, and_true] at hk hc hxv
  subst hk hc hxv
  obtain ⟨ls, hls⟩ := strs_open t3
  obtain ⟨vs, hvs⟩ := vls_open t4
  obtain ⟨t, tl, tk, et, hft, hlt⟩ := ty_open _ _ _ t5
  simp only [tyCells, List.cons.injEq, and_true] at et
  obtain ⟨rfl, rfl, rfl, rfl, rfl, rfl⟩ := et
  obtain ⟨a, len, cap, rfl, hl, hm, hi⟩ := slice_of Tryd.underlying28 t6
  rw [procCellsOf] at hi
  obtain ⟨ps, hn, hrow, hall⟩ := rows_of (fun (p : Pr) b o => p.fine ∧ PrAt (fun k => k < W.heap.size) W p b o) (by omega) hi (fun n cs y hn _ ht => by
    obtain ⟨p, lv, av, tl, tk, kv, rfl, hfine, hlies⟩ := ih n (by omega) cs y ht
    exact ⟨p, fun b o hb hc => ⟨hfine, prAt_of hb (hc 0 _ rfl) (hc 1 _ rfl) (hc 2 _ rfl) (hc 3 _ rfl) (hc 4 _ rfl) (hc 5 _ rfl) (hc 6 _ rfl) (hc 7 _ rfl) (hc 8 _ rfl) (hc 9 _ rfl) (hc 10 _ rfl) (hc 11 _ rfl) hlies⟩⟩)
  refine ⟨.mk k c xv ls vs t ps, a3, a4, a9, a10, .slice a len cap, rfl, ⟨wf_in wk, hft, Pr.fines_of ps (fun u hu => ?_)⟩, _, _, _, _, _, rfl, ⟨hcz, hxz⟩, hls, hvs, hlt, ?_, by show ps.length ≤ _; omega⟩
  · obtain ⟨b, o, hq⟩ := hall u hu
    exact hq.1
  · show _ ∨ _
    rcases hrow with rfl | ⟨b, o, rfl, hb, hrow⟩
    · exact .inl ⟨⟨a, cap, by rw [← hn]; rfl⟩, rfl⟩
    · exact .inr ⟨b, o, cap, by show Value.slice _ _ _ = Value.slice _ ps.length _; rw [hn], hb, prsAt_of (fun i p hi' => (hrow i p hi').2)⟩

set_option maxRecDepth 100000 in
/-- A process that came in. -/
theorem proc_open {H : Type} {enc : TypeId × Value → H} {W : World} {base : Nat} {spare : Nat → Bool} {held : Bool} {v : Value} {d : DataW H} {p : List MemPlace} {b0 : Nat} (hv : Value.okWide Tryd.prog W .any b0 30 v) (h : DataW.Trod enc Tryd.prog W base spare held 30 v d p) :
    ∃ t, t.fine ∧ PLies W v t := by
  obtain ⟨fuel, hf⟩ := h
  unfold Value.okWide at hv
  rw [Tryd.underlying30] at hv
  obtain ⟨cs, rfl, _, _⟩ := hv
  obtain ⟨t, lv, av, tl, tk, kv, e, hfine, hl⟩ := pr_open fuel _ _ hf
  have e' : cs.toList = prCells t lv av tl tk kv := e
  have : cs = (prCells t lv av tl tk kv).toArray := by rw [← e']
  rw [this]
  exact ⟨t, hfine, hl⟩

set_option maxRecDepth 100000 in
theorem pms_open {H : Type} {enc : TypeId × Value → H} {W : World} {base : Nat} {spare : Nat → Bool} {held : Bool} {fuel : Nat} {v : Value} {x : DataW H × List MemPlace} (h : DataW.trod enc Tryd.prog W base spare held fuel 42 [v] = some x) :
    ∃ ms, (∀ a ∈ ms, Ty.fine a.t) ∧ PmSl (fun k => k < W.heap.size) W v ms := by
  obtain ⟨a, len, cap, rfl, hl, hm, hi⟩ := slice_of Tryd.underlying42 h
  rw [paramCellsOf] at hi
  obtain ⟨ms, hn, hrow, hall⟩ := rows_of (fun (a : Pm) b o => a.t.fine ∧ PmAt (fun k => k < W.heap.size) W a b o) (by omega) hi (fun n cs y _ hcl ht => by
    obtain ⟨ys, n', hn', hD, hcl2, hyl, hf⟩ := DataW.trod_struct Tryd.underlying53 ht
    obtain ⟨a0, a1, a2, a3, a4, a5, a6, rfl⟩ := list7 hcl
    obtain ⟨y0, t0⟩ := fld hyl hf 0 rfl (c := 1) (by kernel_rfl) (ds := [a0]) rfl (t := 9) rfl
    obtain ⟨y1, t1⟩ := fld hyl hf 1 rfl (c := 6) (by kernel_rfl) (ds := [a1, a2, a3, a4, a5, a6]) rfl (t := 27) rfl
    obtain ⟨nm, hnm, _, hnz⟩ := DataW.trod_string Tryd.underlying9 t0
    simp only [List.cons.injEq, and_true] at hnm
    subst hnm
    obtain ⟨t, tl, tk, et, hft, hlt⟩ := ty_open _ _ _ t1
    simp only [tyCells, List.cons.injEq, and_true] at et
    obtain ⟨rfl, rfl, rfl, rfl, rfl, rfl⟩ := et
    refine ⟨⟨nm, t⟩, fun b o hb hc => ⟨hft, hnz, hc 0 _ rfl, ?_⟩⟩
    exact tyAt_of hb (hc 1 _ rfl) (hc 2 _ rfl) (hc 3 _ rfl) (hc 4 _ rfl) (hc 5 _ rfl) (hc 6 _ rfl) hlt)
  refine ⟨ms, fun u hu => ?_, ?_, by omega⟩
  · obtain ⟨b, o, hq⟩ := hall u hu
    exact hq.1
  · rcases hrow with rfl | ⟨b, o, rfl, hb, hrow⟩
    · exact .inl ⟨⟨a, cap, by rw [← hn]; rfl⟩, rfl⟩
    · exact .inr ⟨b, o, cap, by rw [hn], hb, fun j a hj => (hrow j a hj).2⟩

set_option maxRecDepth 100000 in
theorem dfs_open {H : Type} {enc : TypeId × Value → H} {W : World} {base : Nat} {spare : Nat → Bool} {held : Bool} {fuel : Nat} {v : Value} {x : DataW H × List MemPlace} (h : DataW.trod enc Tryd.prog W base spare held fuel 22 [v] = some x) :
    ∃ ds, (∀ d ∈ ds, Df.fine d) ∧ DfSl (fun k => k < W.heap.size) W v ds := by
  obtain ⟨a, len, cap, rfl, hl, hm, hi⟩ := slice_of Tryd.underlying22 h
  rw [defCellsOf] at hi
  obtain ⟨ds, hn, hrow, hall⟩ := rows_of (fun (d : Df) b o => d.fine ∧ DfAt (fun k => k < W.heap.size) W d b o) (by omega) hi (fun n cs y _ hcl ht => by
    obtain ⟨ys, n', hn', hD, hcl2, hyl, hf⟩ := DataW.trod_struct Tryd.underlying44 ht
    obtain ⟨a0, a1, r, rfl, hr⟩ := list14 hcl
    obtain ⟨y0, t0⟩ := fld hyl hf 0 rfl (c := 1) (by kernel_rfl) (ds := [a0]) rfl (t := 9) rfl
    obtain ⟨y1, t1⟩ := fld hyl hf 1 rfl (c := 1) (by kernel_rfl) (ds := [a1]) rfl (t := 42) rfl
    obtain ⟨y2, t2⟩ := fld hyl hf 2 rfl (c := 12) (by kernel_rfl) (ds := r) (List.take_of_length_le (by show r.length ≤ 12; omega)) (t := 30) rfl
    obtain ⟨nm, hnm, _, hnz⟩ := DataW.trod_string Tryd.underlying9 t0
    simp only [List.cons.injEq, and_true] at hnm
    subst hnm
    obtain ⟨ms, hfm, hms⟩ := pms_open t1
    obtain ⟨p, lv, av, tl, tk, kv, rfl, hfp, hlp⟩ := pr_open _ _ _ t2
    refine ⟨⟨nm, ms, p⟩, fun b o hb hc => ⟨⟨hfm, hfp⟩, hnz, hc 0 _ rfl, ⟨a1, hc 1 _ rfl, hms⟩, ?_⟩⟩
    exact prAt_of hb (hc 2 _ rfl) (hc 3 _ rfl) (hc 4 _ rfl) (hc 5 _ rfl) (hc 6 _ rfl) (hc 7 _ rfl) (hc 8 _ rfl) (hc 9 _ rfl) (hc 10 _ rfl) (hc 11 _ rfl) (hc 12 _ rfl) (hc 13 _ rfl) hlp)
  refine ⟨ds, fun u hu => ?_, ?_, by omega⟩
  · obtain ⟨b, o, hq⟩ := hall u hu
    exact hq.1
  · rcases hrow with rfl | ⟨b, o, rfl, hb, hrow⟩
    · exact .inl ⟨⟨a, cap, by rw [← hn]; rfl⟩, rfl⟩
    · exact .inr ⟨b, o, cap, by rw [hn], hb, fun j a hj => (hrow j a hj).2⟩

set_option maxRecDepth 100000 in
/-- A program that came in. -/
theorem prog_open {H : Type} {enc : TypeId × Value → H} {W : World} {base : Nat} {spare : Nat → Bool} {held : Bool} {v : Value} {d : DataW H} {p : List MemPlace} {b0 : Nat} (hv : Value.okWide Tryd.prog W .any b0 32 v) (h : DataW.Trod enc Tryd.prog W base spare held 32 v d p) :
    ∃ g, Pg.fine g ∧ GLies W v g := by
  obtain ⟨fuel, hf⟩ := h
  unfold Value.okWide at hv
  rw [Tryd.underlying32] at hv
  obtain ⟨cs, rfl, _, _⟩ := hv
  obtain ⟨ys, n', hn', hD, hcl, hyl, hf⟩ := DataW.trod_struct Tryd.underlying32 hf
  rw [programCellsOf] at hcl
  obtain ⟨cl, hcs⟩ : ∃ cl, cs = List.toArray cl := ⟨cs.toList, rfl⟩
  subst hcs
  obtain ⟨a0, r, rfl, hr⟩ := list13 hcl
  obtain ⟨y0, t0⟩ := fld hyl hf 0 rfl (c := 1) (by kernel_rfl) (ds := [a0]) rfl (t := 22) rfl
  obtain ⟨y1, t1⟩ := fld hyl hf 1 rfl (c := 12) (by kernel_rfl) (ds := r) (List.take_of_length_le (by show r.length ≤ 12; omega)) (t := 30) rfl
  obtain ⟨ds, hfd, hds⟩ := dfs_open t0
  obtain ⟨p, lv, av, tl, tk, kv, rfl, hfp, hlp⟩ := pr_open _ _ _ t1
  exact ⟨⟨ds, p⟩, ⟨hfd, hfp⟩, a0, lv, av, tl, tk, kv, rfl, hds, hlp⟩

end Go.Proofs.YtmedijheidbmhaaDoor

/- Processes: the reference's measures. -/
namespace Go.Proofs.YtmedijheidbmhaaDoor
open Go.RowKit

set_option maxHeartbeats 1000000 in
theorem prdepth_step (B : Nat → Prop) (p : Pr) (lv av tl tk kv : Value) (hts : Pr.depths p.ps ≤ 1000000)
    (ih : ∀ u ∈ p.ps, ∀ (v : Value) (w : World), Low B w → PrVal B w v u → Calls Tryd.prog 18 #[v] w fun e w' => e = .returned (.int .i64 u.depth) ∧ Below w.heap.size w w')
    (w : World) (hB : Low B w) (hk : PrSl B w kv p.ps) :
    Calls Tryd.prog 18 #[prAgg p lv av tl tk kv] w fun e w' => e = .returned (.int .i64 ((Pr.depths p.ps + 1 : Nat) : Int)) ∧ Below w.heap.size w w' := by
  obtain ⟨pa, len, c, rfl, hlen, hm, hget⟩ := hk.open
  have HG := Lib.hid hget
  have HIH := Lib.hid ih
  clear hget hk ih
  obtain ⟨ps, hps⟩ : ∃ ps, p.ps = ps := ⟨_, rfl⟩
  rw [hps] at HG hlen hts HIH ⊢
  clear hps
  unfold prAgg
  go_enter Tryd.func18, Tryd.ntmps18
  go_wp2_with fail
  go_loopw [3, 4] (fun a i wr => ∃ j : Nat, i = .int .i64 j ∧ j ≤ len ∧ a = .int .i64 ((Pr.depths (ps.take j) : Nat) : Int) ∧ Below (w.heap.size + 1) (w.alloc (cell12 p lv av tl tk (.slice pa len c))) wr) (fun _ i _ => len - (intOf i).toNat)
  case atStart => exact ⟨0, rfl, by omega, by simp [Pr.depths], Below.refl _ _⟩
  case round =>
    obtain ⟨j, rfl, hj, rfl, hb⟩ := hrel
    have c11 : wr.cell? ⟨w.heap.size, 11, none⟩ = some (.slice pa len c) := blk_cell hb 11 rfl
    have hw := blk_below hb
    by_cases hlt : j < len
    · obtain ⟨t, ht⟩ : ∃ t, ps[j]? = some t := ⟨_, List.getElem?_eq_getElem (by rw [← hlen.out]; exact hlt)⟩
      obtain ⟨kb, ko, rfl, hkb, hty⟩ := HG.out j t ht
      obtain ⟨la', ln', lc', aa', an', ac', ta', tn', tc', ua', un', uc', ka', kn', kc', ⟨d0, d1, d2, d3, d4, d5, d6, d7, d8, d9, d10, d11⟩, hval⟩ := (hty.keep (hw.keeps'.mono hB)).load'
      have hsz := Pr.depths_take ht
      have hle := Pr.depths_take_le ps (j + 1)
      have IH := Lib.hid (HIH.out t (List.mem_of_getElem? ht) _ wr (hB.le hw.size) hval)
      obtain ⟨a0, ha0⟩ : ∃ a0, Pr.depths (ps.take j) = a0 := ⟨_, rfl⟩
      have HA := Lib.hid hsz
      have ha1 : max a0 t.depth ≤ 1000000 := by omega
      have HA0 := Lib.hid ha0
      rw [ha0]
      unfold prAgg at IH
      clear hsz ha0 ht hval hty
      go_wp2_with (go_at_call 18; refine IH.out.mono ?_; rintro e w1 ⟨rfl, hb1⟩)
      go_roundw
      case rel => exact ⟨j + 1, by go_num, by omega, ret_val (by rw [HA.out]; have := HA0.out; omega), hb.trans (hb1.mono (by have := hb.size; simpa using this))⟩
      case measure => simp [intOf]; omega
    · obtain rfl : j = len := by omega
      have hle := Pr.depths_take_le ps j
      go_wp2_with fail
      go_ret
      exact ⟨ret_int (by rw [List.take_of_length_le (by rw [hlen.out]; exact Nat.le_refl _)]; omega), hw⟩

theorem prdepth_any (B : Nat → Prop) : ∀ (p : Pr), p.depth ≤ 1000000 → ∀ (v : Value) (w : World), Low B w → PrVal B w v p → Calls Tryd.prog 18 #[v] w fun e w' => e = .returned (.int .i64 p.depth) ∧ Below w.heap.size w w' := by
  refine Pr.ind ?_
  intro k c x ls vs t ps ih hsz v w hB hv
  obtain ⟨lv, av, tl, tk, kv, rfl, _, _, _, _, hk⟩ := hv
  have h1 : Pr.depths ps ≤ 1000000 := by rw [Pr.depth_eq] at hsz; simp only [Pr.ps] at hsz; omega
  have := prdepth_step B (.mk k c x ls vs t ps) lv av tl tk kv h1 (fun u hu => ih u hu (Nat.le_trans (Pr.depth_mem hu) h1)) w hB hk
  rw [Pr.depth_eq]; exact this

end Go.Proofs.YtmedijheidbmhaaDoor

/- Processes: the reference's types, left, Few. -/
namespace Go.Proofs.YtmedijheidbmhaaDoor
open Go.RowKit

mutual
/-- The nodes of the types that stand at PNew. -/
def Pr.typ : Pr → Nat
  | .mk k _ _ _ _ t ps => (if k = 6 then t.size else 0) + Pr.typs ps
def Pr.typs : List Pr → Nat
  | [] => 0
  | p :: r => p.typ + Pr.typs r
end
def Pr.typ0 (p : Pr) : Nat := if p.k = 6 then p.t.size else 0
theorem Pr.typ_eq (p : Pr) : p.typ = p.typ0 + Pr.typs p.ps := by
  cases p
  rename_i k _ _ _ _ _ _
  by_cases h : k = 6 <;> simp [Pr.typ, Pr.ps, Pr.typ0, Pr.k, Pr.t, h]
theorem Pr.typs_append (l r : List Pr) : Pr.typs (l ++ r) = Pr.typs l + Pr.typs r := by
  induction l with
  | nil => simp [Pr.typs]
  | cons t l ih => simp only [List.cons_append, Pr.typs, ih]; omega
theorem Pr.typs_take {l : List Pr} {i : Nat} {p : Pr} (h : l[i]? = some p) : Pr.typs (l.take (i + 1)) = Pr.typs (l.take i) + p.typ := by
  rw [take_snoc_get h, Pr.typs_append]; simp [Pr.typs]
theorem Pr.typs_take_le (l : List Pr) (i : Nat) : Pr.typs (l.take i) ≤ Pr.typs l := by
  have := Pr.typs_append (l.take i) (l.drop i); rw [List.take_append_drop] at this; omega
theorem Pr.typ_mem {l : List Pr} {p : Pr} (h : p ∈ l) : p.typ ≤ Pr.typs l := by
  induction l with
  | nil => cases h
  | cons u l ih =>
    simp only [Pr.typs]
    rcases List.mem_cons.1 h with rfl | h
    · omega
    · have := ih h; omega

mutual
/-- All types are small. -/
def Pr.tf : Pr → Prop
  | .mk _ _ _ _ _ t ps => t.few 300 = true ∧ Pr.tfs ps
def Pr.tfs : List Pr → Prop
  | [] => True
  | p :: r => p.tf ∧ Pr.tfs r
end
theorem Pr.tf_t {p : Pr} (h : p.tf) : p.t.few 300 = true := by cases p; exact h.1
theorem Pr.tfs_mem : ∀ {l : List Pr}, Pr.tfs l → ∀ u ∈ l, u.tf
  | [], _, _, hu => by cases hu
  | t :: r, h, u, hu => by
    rcases List.mem_cons.1 hu with rfl | hu
    · exact h.1
    · exact Pr.tfs_mem h.2 u hu
theorem Pr.tf_ps {p : Pr} (h : p.tf) : ∀ u ∈ p.ps, u.tf := by cases p; exact Pr.tfs_mem h.2
theorem Pr.tf_size {p : Pr} (h : p.tf) : p.t.size ≤ 300 := (few_size (Pr.tf_t h)).1
theorem Pr.tf_depth {p : Pr} (h : p.tf) : p.t.depth ≤ 150 := (few_size (Pr.tf_t h)).2

end Go.Proofs.YtmedijheidbmhaaDoor
