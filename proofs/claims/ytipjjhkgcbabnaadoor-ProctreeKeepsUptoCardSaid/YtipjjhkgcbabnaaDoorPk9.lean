/- Regions that draw their order, but whose operations come up one at a time from some place on: they are walked in that order. (and what follows from it) -/
import Derived.Deep.RegionHeld
import Derived.Still

/- Regions that draw their order, but whose operations come up one at a time from some place on: they are walked in that order. -/
namespace Go.Proofs.YtipjjhkgcbabnaaDoor

/-- In this order: each operation is the only one that may come up (true), or may be taken first (false). -/
def soloFrom (md : Region.Mode) (ops : Array Oper) : Array Bool → List (Nat × Bool) → Bool
  | listed, [] => (Region.ready md ops listed).isEmpty
  | listed, f :: fs => (if f.2 then decide (Region.ready md ops listed = [f.1]) else (Region.ready md ops listed).contains f.1 && Region.free md ops listed f.1) && soloFrom md ops (listed.setIfInBounds f.1 true) fs

/-- The walk of the operations in this order. -/
def wpSolo (P : Program) (ops : Array Oper) (Q : Exit → Act → World → Prop) (S : World → Prop) : List (Nat × Bool) → Act → World → Prop
  | [], a, w => Q .normal a w
  | (i, true) :: fs, a, w => ∀ o, ops[i]? = some o → if Region.wanted o (yielded ops a.tmps) = true then o.wp P a w (fun a' w' => S w' ∧ wpSolo P ops Q S fs a' w') Q else wpSolo P ops Q S fs (a.put o.dst undef) w
  | (i, false) :: fs, a, w => ∀ o, ops[i]? = some o → ∃ v, YieldsIf P ops S o v a ∧ wpSolo P ops Q S fs (a.put o.dst v) w

theorem wpAnyH_solo {P : Program} {ops : Array Oper} {Q : Exit → Act → World → Prop} {md : Region.Mode} {S : World → Prop} (hs : Region.noSelect ops = true) (hQ : ∀ d c v a w, Q (.panic c) (a.put d v) w → Q (.panic c) a w) :
    ∀ (fs : List (Nat × Bool)) (fuel : Nat) (listed : Array Bool) (a : Act) (w : World), fs.length = fuel → soloFrom md ops listed fs = true → S w → wpSolo P ops Q S fs a w → wpAnyH P md ops Q S fuel listed a w
  | [], fuel, listed, a, w, hl, hB, _, h => by subst hl; exact ⟨by simpa [soloFrom] using hB, h⟩
  | (k, true) :: fs, fuel, listed, a, w, hl, hB, hS, h => by
    subst hl
    simp only [soloFrom, if_true, Bool.and_eq_true, decide_eq_true_eq] at hB
    refine ⟨(fun he => by rw [hB.1] at he; cases he), fun i hi => ?_⟩
    rw [hB.1] at hi
    obtain rfl := List.mem_singleton.1 hi
    obtain ⟨o, h0⟩ : ∃ o, ops[i]? = some o := by
      have hm : i ∈ Region.ready md ops listed := by rw [hB.1]; simp
      obtain ⟨_, o, ho, _⟩ := mem_ready.1 hm
      exact ⟨o, ho⟩
    unfold wpSolo at h
    have h := h o h0
    unfold wpOp
    simp only [h0]
    split at h
    · next hw => rw [if_pos hw]; exact .inl (Oper.wp_mono (fun a' w' h' => ⟨h'.1, wpAnyH_solo hs hQ fs fs.length _ a' w' rfl hB.2 h'.1 h'.2⟩) h)
    · next hw => rw [if_neg hw]; exact ⟨hS, wpAnyH_solo hs hQ fs fs.length _ _ w rfl hB.2 hS h⟩
  | (k, false) :: fs, fuel, listed, a, w, hl, hB, hS, h => by
    subst hl
    simp only [soloFrom, Bool.false_eq_true, if_false, Bool.and_eq_true] at hB
    obtain ⟨o, h0⟩ : ∃ o, ops[k]? = some o := by
      have hm : k ∈ Region.ready md ops listed := by simpa using hB.1.1
      obtain ⟨_, o, ho, _⟩ := mem_ready.1 hm
      exact ⟨o, ho⟩
    unfold wpSolo at h
    obtain ⟨v, hy, h⟩ := h o h0
    exact wpAnyH_take h0 hs hB.1.2 hB.1.1 (fun c a w => hQ o.dst c v a w) hy hS (wpAnyH_solo hs hQ fs fs.length _ _ w rfl hB.2 hS h)

/-- A fact about a region's operations, laid once. -/
theorem wp_region_solo_fact {P : Program} {Q : Exit → Act → World → Prop} {a : Act} {w : World} {id : Nat} {ops : Array Oper} (listed : Array Bool) (fs : List (Nat × Bool)) (hC : soloFrom .any ops listed fs = true) (h : soloFrom .any ops listed fs = true → (Code.region id ops true).wp P Q a w) : (Code.region id ops true).wp P Q a w := h hC
theorem wp_region_lex_fact {P : Program} {Q : Exit → Act → World → Prop} {a : Act} {w : World} {id : Nat} {ops : Array Oper} (hC : Region.lexB .any ops = true) (h : Region.lexB .any ops = true → (Code.region id ops true).wp P Q a w) : (Code.region id ops true).wp P Q a w := h hC
/-- What a region's post says of a panic, laid once. -/
theorem wp_region_q {P : Program} {Q : Exit → Act → World → Prop} {a : Act} {w : World} {id : Nat} {ops : Array Oper} (hq : ∀ d c v a w, Q (.panic c) (a.put d v) w → Q (.panic c) a w) (h : Shut (∀ d c v a w, Q (.panic c) (a.put d v) w → Q (.panic c) a w) → (Code.region id ops true).wp P Q a w) : (Code.region id ops true).wp P Q a w := h hq
theorem wpAnyH_listed {P : Program} {ops : Array Oper} {Q : Exit → Act → World → Prop} {md : Region.Mode} {S : World → Prop} {fuel : Nat} {listed : Array Bool} (listed' : Array Bool) {a : Act} {w : World} (h : listed = listed') (k : wpAnyH P md ops Q S fuel listed' a w) : wpAnyH P md ops Q S fuel listed a w := by rw [h]; exact k

/-- One operation that comes up alone. -/
theorem wpSolo_alone {P : Program} {ops : Array Oper} {Q : Exit → Act → World → Prop} {S : World → Prop} {i : Nat} {o : Oper} {fs : List (Nat × Bool)} {a : Act} {w : World} (ho : ops[i]? = some o)
    (h : ∀ K' : Act → World → Prop, Shut (∀ a w, S w → (S w → wpSolo P ops Q S fs a w) → K' a w) → if Region.wanted o (yielded ops a.tmps) = true then Oper.wp P o a w K' Q else K' (a.put o.dst undef) w) :
    wpSolo P ops Q S ((i, true) :: fs) a w := by
  unfold wpSolo
  intro o' ho'
  obtain rfl := Option.some.inj (ho.symm.trans ho')
  by_cases hw : Region.wanted o (yielded ops a.tmps) = true
  · rw [if_pos hw]
    have := h (fun a' w' => S w' ∧ wpSolo P ops Q S fs a' w') (fun a w hS h => ⟨hS, h hS⟩)
    rw [if_pos hw] at this
    exact this
  · rw [if_neg hw]
    have := h (fun a' w' => S w' ∧ wpSolo P ops Q S fs a' w') (fun a w hS h => ⟨hS, h hS⟩)
    rw [if_neg hw] at this
    exact this.2
/-- One operation that only reads, and may be taken first. -/
theorem wpSolo_free {P : Program} {ops : Array Oper} {Q : Exit → Act → World → Prop} {S : World → Prop} {i : Nat} {o : Oper} {fs : List (Nat × Bool)} {a : Act} {w : World} {v : Value} (ho : ops[i]? = some o)
    (hw : Region.wanted o (yielded ops a.tmps) = true) (hv : ∀ w, S w → (execOp a.eval o).run P w = .ok (.value v) w) (h : wpSolo P ops Q S fs (a.put o.dst v) w) :
    wpSolo P ops Q S ((i, false) :: fs) a w := by
  unfold wpSolo
  intro o' ho'
  obtain rfl := Option.some.inj (ho.symm.trans ho')
  exact ⟨v, .inl ⟨hw, hv⟩, h⟩
theorem wpSolo_nil {P : Program} {ops : Array Oper} {Q : Exit → Act → World → Prop} {S : World → Prop} {a : Act} {w : World} (h : Q .normal a w) : wpSolo P ops Q S [] a w := h

end Go.Proofs.YtipjjhkgcbabnaaDoor
