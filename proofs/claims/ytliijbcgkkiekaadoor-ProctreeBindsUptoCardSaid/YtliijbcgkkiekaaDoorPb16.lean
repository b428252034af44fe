/- Processes: what the rule of a kind says of a node. (and what follows from it) -/
import Derived.Test.YtliijbcgkkiekaaDoorPb15

/- Processes: what the rule of a kind says of a node. -/
namespace Go.Proofs.YtliijbcgkkiekaaDoor
open Go.RowKit Go.Deep Go.Shelf

theorem chk_nil (w : World) (b o : Nat) (e : Bool) : Chk w .nilFunc b o e e := fun W _ => fieldFits_nil _ e W
theorem chk_fn {w : World} {b o : Nat} {e r : Bool} (f : Nat) (eg : ∀ args w, (callFunc f args).run Tryd.prog w = .ok (.enter f args) w) (h : ∀ W, Below w.heap.size w W → Calls Tryd.prog f #[.pointer (some ⟨b, o, none⟩)] W fun en w' => en = .returned (.bool r) ∧ Below W.heap.size W w') :
    Chk w (.func (.func f) #[] #[]) b o e r := fun W hW => fieldFits_fn f eg _ e r W (h W hW)

noncomputable def Pr.r0 (p : Pr) : Bool :=
  if p.k = 2 then (nameB p.c) else if p.k = 3 then (nameB p.c) else if p.k = 4 then (nameB p.c) else if p.k = 5 then (nameB p.c) else if p.k = 6 then (nameB p.c) else if p.k = 8 then (nameB p.c) else p.c.toList.isEmpty
noncomputable def Pr.r1 (p : Pr) : Bool :=
  if p.k = 3 then (nameB p.x) else if p.k = 6 then (nameB p.x && !decide (p.x = p.c)) else p.x.toList.isEmpty
noncomputable def Pr.r2 (p : Pr) : Bool :=
  if p.k = 4 then (decide (p.ls.length = 1) && labelsB p.ls) else if p.k = 5 then (labelsB p.ls && decide (0 < p.ls.length)) else decide (p.ls.length = 0)
noncomputable def Pr.r3 (p : Pr) : Bool :=
  if p.k = 2 then (decide (p.vs.length = 1) && vlsB p.vs) else if p.k = 8 then (vlsB p.vs) else decide (p.vs.length = 0)
noncomputable def Pr.r4 (p : Pr) : Bool :=
  if p.k = 6 then ((p.t.k != 1 && p.t.k != 2) && rightE p.t == 0) else eqB p.t default
noncomputable def Pr.r5 (p : Pr) : Bool :=
  if p.k = 2 then (decide (p.ps.length = 1)) else if p.k = 3 then (decide (p.ps.length = 1)) else if p.k = 4 then (decide (p.ps.length = 1)) else if p.k = 5 then (decide (p.ps.length = p.ls.length)) else if p.k = 6 then (decide (p.ps.length = 1)) else if p.k = 7 then (partsB p.ps) else decide (p.ps.length = 0)
/-- Is a node shaped as its kind asks? -/
noncomputable def Pr.shp (p : Pr) : Bool := p.r0 && (p.r1 && (p.r2 && (p.r3 && (p.r4 && p.r5))))

set_option maxHeartbeats 1000000 in
theorem pfits_shp (S : Nat → Prop) (p : Pr) (b o E : Nat) (w : World) (hS : Low S w) (he : Env E w) (hf : p.t.fine) (hdep : p.t.depth ≤ 1000) (hp : PrAt S w p b o) (hk : pknK p.k = true) :
    Calls Tryd.prog 89 #[pruleVal p.k, .pointer (some ⟨b, o, none⟩)] w fun e w' => e = .returned (.bool p.shp) ∧ Below w.heap.size w w' := by
  have K : ∀ W, Below w.heap.size w W → PrAt S W p b o := fun W hW => PrAt.keep (hW.keeps'.mono hS) _ _ _ hp
  have C_chanIsName : ∀ e, Chk w (.func (.func 112) #[] #[]) b o e (nameB p.c) := fun e => chk_fn _ (enters_of Tryd.func112 (by kernel_rfl) rfl) (fun W hW => chanIsName_any S p b o E W (he.below (hW.mono he.size)) (K W hW))
  have C_differentLabels : ∀ e, Chk w (.func (.func 117) #[] #[]) b o e (labelsB p.ls && decide (0 < p.ls.length)) := fun e => chk_fn _ (enters_of Tryd.func117 (by kernel_rfl) rfl) (fun W hW => differentLabels_any S p b o E W (hS.le hW.size) (he.below (hW.mono he.size)) (K W hW))
  have C_kidForEachLabel : ∀ e, Chk w (.func (.func 118) #[] #[]) b o e (decide (p.ps.length = p.ls.length)) := fun e => chk_fn _ (enters_of Tryd.func118 (by kernel_rfl) rfl) (fun W hW => kidForEachLabel_any S p b o W (K W hW))
  have C_oneKid : ∀ e, Chk w (.func (.func 114) #[] #[]) b o e (decide (p.ps.length = 1)) := fun e => chk_fn _ (enters_of Tryd.func114 (by kernel_rfl) rfl) (fun W hW => oneKid_any S p b o W (K W hW))
  have C_oneLabel : ∀ e, Chk w (.func (.func 116) #[] #[]) b o e (decide (p.ls.length = 1) && labelsB p.ls) := fun e => chk_fn _ (enters_of Tryd.func116 (by kernel_rfl) rfl) (fun W hW => oneLabel_any S p b o E W (he.below (hW.mono he.size)) (K W hW))
  have C_oneValue : ∀ e, Chk w (.func (.func 113) #[] #[]) b o e (decide (p.vs.length = 1) && vlsB p.vs) := fun e => chk_fn _ (enters_of Tryd.func113 (by kernel_rfl) rfl) (fun W hW => oneValue_any S p b o E W (hS.le hW.size) (he.below (hW.mono he.size)) (K W hW))
  have C_parts : ∀ e, Chk w (.func (.func 121) #[] #[]) b o e (partsB p.ps) := fun e => chk_fn _ (enters_of Tryd.func121 (by kernel_rfl) rfl) (fun W hW => (parts_any S p b o W (K W hW)).mono (fun _ _ ⟨h1, h2⟩ => ⟨h1, by subst h2; exact Below.refl _ _⟩))
  have C_rightSession : ∀ e, Chk w (.func (.func 120) #[] #[]) b o e ((p.t.k != 1 && p.t.k != 2) && rightE p.t == 0) := fun e => chk_fn _ (enters_of Tryd.func120 (by kernel_rfl) rfl) (fun W hW => rightSession_any S p b o E W (hS.le hW.size) (he.below (hW.mono he.size)) hf hdep (K W hW))
  have C_values : ∀ e, Chk w (.func (.func 122) #[] #[]) b o e (vlsB p.vs) := fun e => chk_fn _ (enters_of Tryd.func122 (by kernel_rfl) rfl) (fun W hW => values_any S p b o E W (hS.le hW.size) (he.below (hW.mono he.size)) (K W hW))
  have C_varIsName : ∀ e, Chk w (.func (.func 115) #[] #[]) b o e (nameB p.x) := fun e => chk_fn _ (enters_of Tryd.func115 (by kernel_rfl) rfl) (fun W hW => varIsName_any S p b o E W (he.below (hW.mono he.size)) (K W hW))
  have C_varIsOtherName : ∀ e, Chk w (.func (.func 119) #[] #[]) b o e (nameB p.x && !decide (p.x = p.c)) := fun e => chk_fn _ (enters_of Tryd.func119 (by kernel_rfl) rfl) (fun W hW => varIsOtherName_any S p b o E W (hS.le hW.size) (he.below (hW.mono he.size)) (K W hW))
  have hk' : 1 ≤ p.k ∧ p.k ≤ 8 := by simpa [pknK] using hk
  have hcase : p.k = 1 ∨ p.k = 2 ∨ p.k = 3 ∨ p.k = 4 ∨ p.k = 5 ∨ p.k = 6 ∨ p.k = 7 ∨ p.k = 8 := by omega
  unfold Pr.shp Pr.r0 Pr.r1 Pr.r2 Pr.r3 Pr.r4 Pr.r5
  rcases hcase with e | e | e | e | e | e | e | e
  · rw [e, show pruleVal 1 = .agg #[.nilFunc, .nilFunc, .nilFunc, .nilFunc, .nilFunc, .nilFunc] from by simp [pruleVal]]
    simp only [if_false, Int.reduceEq]
    exact pfits_any S p b o _ _ _ _ _ _ _ _ _ _ _ _ w hS hp (chk_nil _ _ _ _) (chk_nil _ _ _ _) (chk_nil _ _ _ _) (chk_nil _ _ _ _) (chk_nil _ _ _ _) (chk_nil _ _ _ _)
  · rw [e, show pruleVal 2 = .agg #[.func (.func 112) #[] #[], .nilFunc, .nilFunc, .func (.func 113) #[] #[], .nilFunc, .func (.func 114) #[] #[]] from by simp [pruleVal]]
    simp only [if_true, if_false, Int.reduceEq]
    exact pfits_any S p b o _ _ _ _ _ _ _ _ _ _ _ _ w hS hp (C_chanIsName _) (chk_nil _ _ _ _) (chk_nil _ _ _ _) (C_oneValue _) (chk_nil _ _ _ _) (C_oneKid _)
  · rw [e, show pruleVal 3 = .agg #[.func (.func 112) #[] #[], .func (.func 115) #[] #[], .nilFunc, .nilFunc, .nilFunc, .func (.func 114) #[] #[]] from by simp [pruleVal]]
    simp only [if_true, if_false, Int.reduceEq]
    exact pfits_any S p b o _ _ _ _ _ _ _ _ _ _ _ _ w hS hp (C_chanIsName _) (C_varIsName _) (chk_nil _ _ _ _) (chk_nil _ _ _ _) (chk_nil _ _ _ _) (C_oneKid _)
  · rw [e, show pruleVal 4 = .agg #[.func (.func 112) #[] #[], .nilFunc, .func (.func 116) #[] #[], .nilFunc, .nilFunc, .func (.func 114) #[] #[]] from by simp [pruleVal]]
    simp only [if_true, if_false, Int.reduceEq]
    exact pfits_any S p b o _ _ _ _ _ _ _ _ _ _ _ _ w hS hp (C_chanIsName _) (chk_nil _ _ _ _) (C_oneLabel _) (chk_nil _ _ _ _) (chk_nil _ _ _ _) (C_oneKid _)
  · rw [e, show pruleVal 5 = .agg #[.func (.func 112) #[] #[], .nilFunc, .func (.func 117) #[] #[], .nilFunc, .nilFunc, .func (.func 118) #[] #[]] from by simp [pruleVal]]
    simp only [if_true, if_false, Int.reduceEq]
    exact pfits_any S p b o _ _ _ _ _ _ _ _ _ _ _ _ w hS hp (C_chanIsName _) (chk_nil _ _ _ _) (C_differentLabels _) (chk_nil _ _ _ _) (chk_nil _ _ _ _) (C_kidForEachLabel _)
  · rw [e, show pruleVal 6 = .agg #[.func (.func 112) #[] #[], .func (.func 119) #[] #[], .nilFunc, .nilFunc, .func (.func 120) #[] #[], .func (.func 114) #[] #[]] from by simp [pruleVal]]
    simp only [if_true, if_false, Int.reduceEq]
    exact pfits_any S p b o _ _ _ _ _ _ _ _ _ _ _ _ w hS hp (C_chanIsName _) (C_varIsOtherName _) (chk_nil _ _ _ _) (chk_nil _ _ _ _) (C_rightSession _) (C_oneKid _)
  · rw [e, show pruleVal 7 = .agg #[.nilFunc, .nilFunc, .nilFunc, .nilFunc, .nilFunc, .func (.func 121) #[] #[]] from by simp [pruleVal]]
    simp only [if_true, if_false, Int.reduceEq]
    exact pfits_any S p b o _ _ _ _ _ _ _ _ _ _ _ _ w hS hp (chk_nil _ _ _ _) (chk_nil _ _ _ _) (chk_nil _ _ _ _) (chk_nil _ _ _ _) (chk_nil _ _ _ _) (C_parts _)
  · rw [e, show pruleVal 8 = .agg #[.func (.func 112) #[] #[], .nilFunc, .nilFunc, .func (.func 122) #[] #[], .nilFunc, .nilFunc] from by simp [pruleVal]]
    simp only [if_true, if_false, Int.reduceEq]
    exact pfits_any S p b o _ _ _ _ _ _ _ _ _ _ _ _ w hS hp (C_chanIsName _) (chk_nil _ _ _ _) (chk_nil _ _ _ _) (C_values _) (chk_nil _ _ _ _) (chk_nil _ _ _ _)

end Go.Proofs.YtliijbcgkkiekaaDoor
