/- Processes: the program's functions at values anywhere in memory. (and what follows from it) -/
import Derived.Test.YtliijbcgkkiekaaGreatDoorPz13
import Derived.Test.YtliijbcgkkiekaaGreatDoorPz14
import Derived.Deep.RegionWith
import Derived.Deep.RegionHeld
import Derived.Still

/- Processes: the program's functions at values anywhere in memory. -/
namespace Go.Proofs.YtliijbcgkkiekaaGreatDoor
open Go.RowKit Go.Deep Go.Shelf

theorem plow (w : World) : Low (fun k => k < w.heap.size) w := fun _ h => h
theorem pright_l {E : Nat} {W : World} {v : Value} {p : Pr} {c : Int} (he : Env E W) (h : PLies W v p) (hg : PGood p) (hd : p.depth ≤ 99999) (hc : prightE p = c) : Calls Tryz.prog 7 #[v] W fun e w' => e = .returned (.int .i64 c) ∧ Below W.heap.size W w' := by
  rw [← hc]; exact pright_any E _ p hg hd v W (plow W) he h
theorem psize_l {W : World} {v : Value} {p : Pr} {c : Int} (h : PLies W v p) (hs : p.size ≤ 1000000) (hd : p.depth ≤ 99999) (hc : (p.size : Int) = c) : Calls Tryz.prog 13 #[v] W fun e w' => e = .returned (.int .i64 c) ∧ Below W.heap.size W w' := by
  rw [← hc]; exact psize_any _ p hs hd v W (plow W) h
theorem pdepth_l {W : World} {v : Value} {p : Pr} {c : Int} (h : PLies W v p) (hd : p.depth ≤ 99999) (hc : (p.depth : Int) = c) : Calls Tryz.prog 14 #[v] W fun e w' => e = .returned (.int .i64 c) ∧ Below W.heap.size W w' := by
  rw [← hc]; exact pdepthP_any _ p hd v W (plow W) h
theorem ptotal_l {W : World} {v : Value} {g : Pg} {c : Int} (h : GLies W v g) (hg : GGood g) (hs : g.total ≤ 1000000000) (hc : (g.total : Int) = c) : Calls Tryz.prog 15 #[v] W fun e w' => e = .returned (.int .i64 c) ∧ Below W.heap.size W w' := by
  rw [← hc]; exact ptotal_any _ g hg hs v W (plow W) h
theorem pprog_l {E : Nat} {W : World} {v : Value} {g : Pg} {c : Int} (he : Env E W) (h : GLies W v g) (hg : GGood g) (hc : pprogE g = c) : Calls Tryz.prog 9 #[v] W fun e w' => e = .returned (.int .i64 c) ∧ Below W.heap.size W w' := by
  rw [← hc]; exact pprogram_any E _ g hg v W (plow W) he h
theorem psame_l {W : World} {v v' : Value} {p q : Pr} {b : Bool} (h : PLies W v p) (h' : PLies W v' q) (hb : eqP p q = b) : Calls Tryz.prog 16 #[v, v'] W fun e w' => e = .returned (.bool b) ∧ Below W.heap.size W w' := by
  rw [← hb]; exact psame_any _ p q v v' W (plow W) h h'
theorem rpsame_l {W : World} {v v' : Value} {p q : Pr} {b : Bool} (h : PLies W v p) (h' : PLies W v' q) (hb : eqP p q = b) : Calls Tryz.prog 18 #[v, v'] W fun e w' => e = .returned (.bool b) ∧ Below W.heap.size W w' := by
  rw [← hb]; exact rpsame_any _ p q v v' W (plow W) h h'
theorem pprefix_l {W : World} {v : Value} {p : Pr} {b : Bool} (h : PLies W v p) (hb : prefixB p.k = b) : Calls Tryz.prog 17 #[v] W fun e w' => e = .returned (.bool b) ∧ Below W.heap.size W w' := by
  rw [← hb]; exact pprefix_any _ p v W h
theorem pcopy_l {W : World} {v : Value} {p : Pr} (h : PLies W v p) (hm : p.mod) : Calls Tryz.prog 19 #[v] W fun e w' => ∃ la ln lc aa an ac ta tn tc ua un uc ka kn kc, e = .returned (prAgg p (.slice la ln lc) (.slice aa an ac) (.slice ta tn tc) (.slice ua un uc) (.slice ka kn kc)) ∧
    PLies w' (prAgg p (.slice la ln lc) (.slice aa an ac) (.slice ta tn tc) (.slice ua un uc) (.slice ka kn kc)) p ∧ Below W.heap.size W w' :=
  (pcopy_any _ p hm v W (plow W) h).mono fun _ _ ⟨la, ln, lc, aa, an, ac, ta, tn, tc, ua, un, uc, ka, kn, kc, h1, h2, h3⟩ => ⟨la, ln, lc, aa, an, ac, ta, tn, tc, ua, un, uc, ka, kn, kc, h1, h2.mono (fun _ hk => hk.2), h3⟩
/-- A list of texts, anywhere. -/
def SLies (w : World) (v : Value) (l : List ByteArray) : Prop := StrSl (fun k => k < w.heap.size) w v l
theorem SLies.to {w w' : World} {v : Value} {l : List ByteArray} (h : SLies w v l) (hb : Below w.heap.size w w') : SLies w' v l :=
  (h.keep (hb.keeps'.mono (fun _ hk => hk))).mono (fun _ hk => Nat.lt_of_lt_of_le hk hb.size)
theorem pfree_l {W : World} {v : Value} {p : Pr} {l : List ByteArray} (h : PLies W v p) (hs : p.size ≤ 1000000) (hd : p.depth ≤ 100000) (hn : p.nms ≤ 1000000000) (hl : p.free = l) : Calls Tryz.prog 12 #[v] W fun e w' => ∃ la ln lc, e = .returned (.slice la ln lc) ∧ SLies w' (.slice la ln lc) l ∧ Below W.heap.size W w' := by
  rw [← hl]
  exact (pfree_any _ p hd hs hn v W (plow W) h).mono fun _ _ ⟨la, ln, lc, h1, h2, h3⟩ => ⟨la, ln, lc, h1, h2.mono (fun _ hk => hk.2), h3⟩
theorem drew_below {w w' : World} (h : Drew w w') : Below w.heap.size w w' := h.below _
theorem wp_at {P : Program} {c : Code} {Q : Exit → Act → World → Prop} {a : Act} {W W0 : World} (h : W = W0) (k : c.wp P Q a W0) : c.wp P Q a W := by rw [h]; exact k
theorem ptexts_l {W : World} {v v' : Value} {l l' : List ByteArray} {b : Bool} (h : SLies W v l) (h' : SLies W v' l') (hb : decide (l = l') = b) : Calls Tryz.prog 11 #[v, v'] W fun e w' => e = .returned (.bool b) ∧ Below W.heap.size W w' := by
  rw [← hb]; exact (ptexts_any _ v v' l l' W h h').mono fun _ _ ⟨h1, h2⟩ => ⟨h1, drew_below h2⟩
theorem lies_pz (W : World) : PLies W (prAgg pz sl0 sl0 sl0 sl0 sl0) pz := ⟨_, _, _, _, _, rfl, ⟨by decide, by decide⟩, nil_strs _ _, nil_vls _ _, val_leaf _ _ 0 0 0 e0 (by decide), nil_prs _ _⟩
theorem lies_g4 {W : World} {lv av tl tk kv : Value} (h : PLies W (prAgg p4 lv av tl tk kv) p4) : GLies W (pgAgg g4 sl0 lv av tl tk kv) g4 := ⟨_, _, _, _, _, _, rfl, nil_dfs _ _, h⟩
theorem two_names {w W : World} (hb : Below (w.alloc (.cells #[.string bA, .string bB] 9)).heap.size (w.alloc (.cells #[.string bA, .string bB] 9)) W) : SLies W (.slice (some ⟨w.heap.size, 0, none⟩) 2 2) [bA, bB] := by
  rw [World.size_alloc] at hb
  exact (strSl_made (w := w) (W := W) [bA, bB] hb (fun s hs => by simp at hs; rcases hs with rfl | rfl <;> decide) (by decide)).mono (fun _ hk => hk.2)

theorem lies_pz' (W : World) : PLies W (.agg #[.int .i64 0, .string ⟨#[]⟩, .string ⟨#[]⟩, .slice none 0 0, .slice none 0 0, .int .i64 0, .int .i64 0, .string ⟨#[]⟩, .int .i64 0, .slice none 0 0, .slice none 0 0, .slice none 0 0]) pz := lies_pz W
theorem dp4 : p4.depth ≤ 99999 := by decide
theorem dp4' : p4.depth ≤ 100000 := by decide
theorem dpz : pz.depth ≤ 99999 := by decide
theorem zp4 : p4.size ≤ 1000000 := by decide
theorem pre_p4 : prefixB p4.k = true := by rfl
theorem pre_p3 : prefixB p3.k = false := by rfl
theorem two_dec : decide ([bA, bB] = [bA, bB]) = true := by simp
end Go.Proofs.YtliijbcgkkiekaaGreatDoor

/- Regions that draw their order, but whose operations come up one at a time from some place on: they are walked in that order. -/
namespace Go.Proofs.YtliijbcgkkiekaaGreatDoor

/-- In this order: each operation is the only one that may come up (true), or may be taken first (false). -/
def soloFrom (md : Region.Mode) (ops : Array Oper) : Array Bool → List (Nat × Bool) → Bool
  | listed, [] => (Region.ready md ops listed).isEmpty
  | listed, f :: fs => (if f.2 then decide (Region.ready md ops listed = [f.1]) else (Region.ready md ops listed).contains f.1 && Region.free md ops listed f.1) && soloFrom md ops (listed.setIfInBounds f.1 true) fs

/-- The walk of the operations in this order. -/
def wpSolo (P : Program) (ops : Array Oper) (Q : Exit → Act → World → Prop) (S : World → Prop) : List (Nat × Bool) → Act → World → Prop
  | [], a, w => Q .normal a w
  | (i, true) :: fs, a, w => ∀ o, ops[i]? = some o → if Region.wanted o (yielded ops a.tmps) = true then o.wp P a w (fun a' w' => S w' ∧ wpSolo P ops Q S fs a' w') Q else wpSolo P ops Q S fs (a.put o.dst undef) w
  | (i, false) :: fs, a, w => ∀ o, ops[i]? = some o → ∃ v, YieldsIf P ops S o v a ∧ wpSolo P ops Q S fs (a.put o.dst v) w

theorem wpAnyH_solo {P : Program} {ops : Array Oper} {Q : Exit → Act → World → Prop} {md : Region.Mode} {S : World → Prop} (hs : Region.noSelect ops = true) (hQ : ∀ d c v a w, Q (.panic c) (a.put d v) w → Q (.panic c) a w) :
    ∀ (fs : List (Nat × Bool)) (fuel : Nat) (listed : Array Bool) (a : Act) (w : World), fs.length = fuel → soloFrom md ops listed fs = true → S w → wpSolo P ops Q S fs a w → wpAnyH P md ops Q S fuel listed a w
  | [], fuel, listed, a, w, hl, hB, _, h => by subst hl; exact ⟨by simpa [soloFrom] using hB, h⟩
  | (k, true) :: fs, fuel, listed, a, w, hl, hB, hS, h => by
    subst hl
    simp only [soloFrom, if_true, Bool.and_eq_true, decide_eq_true_eq] at hB
    refine ⟨(fun he => by rw [hB.1] at he; cases he), fun i hi => ?_⟩
    rw [hB.1] at hi
    obtain rfl := List.mem_singleton.1 hi
    obtain ⟨o, h0⟩ : ∃ o, ops[i]? = some o := by
      have hm : i ∈ Region.ready md ops listed := by rw [hB.1]; simp
      obtain ⟨_, o, ho, _⟩ := mem_ready.1 hm
      exact ⟨o, ho⟩
    unfold wpSolo at h
    have h := h o h0
    unfold wpOp
    simp only [h0]
    split at h
    · next hw => rw [if_pos hw]; exact .inl (Oper.wp_mono (fun a' w' h' => ⟨h'.1, wpAnyH_solo hs hQ fs fs.length _ a' w' rfl hB.2 h'.1 h'.2⟩) h)
    · next hw => rw [if_neg hw]; exact ⟨hS, wpAnyH_solo hs hQ fs fs.length _ _ w rfl hB.2 hS h⟩
  | (k, false) :: fs, fuel, listed, a, w, hl, hB, hS, h => by
    subst hl
    simp only [soloFrom, Bool.false_eq_true, if_false, Bool.and_eq_true] at hB
    obtain ⟨o, h0⟩ : ∃ o, ops[k]? = some o := by
      have hm : k ∈ Region.ready md ops listed := by simpa using hB.1.1
      obtain ⟨_, o, ho, _⟩ := mem_ready.1 hm
      exact ⟨o, ho⟩
    unfold wpSolo at h
    obtain ⟨v, hy, h⟩ := h o h0
    exact wpAnyH_take h0 hs hB.1.2 hB.1.1 (fun c a w => hQ o.dst c v a w) hy hS (wpAnyH_solo hs hQ fs fs.length _ _ w rfl hB.2 hS h)

/-- A fact about a region's operations, laid once. -/
theorem wp_region_solo_fact {P : Program} {Q : Exit → Act → World → Prop} {a : Act} {w : World} {id : Nat} {ops : Array Oper} (listed : Array Bool) (fs : List (Nat × Bool)) (hC : soloFrom .any ops listed fs = true) (h : soloFrom .any ops listed fs = true → (Code.region id ops true).wp P Q a w) : (Code.region id ops true).wp P Q a w := h hC
theorem wp_region_lex_fact {P : Program} {Q : Exit → Act → World → Prop} {a : Act} {w : World} {id : Nat} {ops : Array Oper} (hC : Region.lexB .any ops = true) (h : Region.lexB .any ops = true → (Code.region id ops true).wp P Q a w) : (Code.region id ops true).wp P Q a w := h hC
/-- What a region's post says of a panic, laid once. -/
theorem wp_region_q {P : Program} {Q : Exit → Act → World → Prop} {a : Act} {w : World} {id : Nat} {ops : Array Oper} (hq : ∀ d c v a w, Q (.panic c) (a.put d v) w → Q (.panic c) a w) (h : Shut (∀ d c v a w, Q (.panic c) (a.put d v) w → Q (.panic c) a w) → (Code.region id ops true).wp P Q a w) : (Code.region id ops true).wp P Q a w := h hq
theorem wpAnyH_listed {P : Program} {ops : Array Oper} {Q : Exit → Act → World → Prop} {md : Region.Mode} {S : World → Prop} {fuel : Nat} {listed : Array Bool} (listed' : Array Bool) {a : Act} {w : World} (h : listed = listed') (k : wpAnyH P md ops Q S fuel listed' a w) : wpAnyH P md ops Q S fuel listed a w := by rw [h]; exact k

/-- One operation that comes up alone. -/
theorem wpSolo_alone {P : Program} {ops : Array Oper} {Q : Exit → Act → World → Prop} {S : World → Prop} {i : Nat} {o : Oper} {fs : List (Nat × Bool)} {a : Act} {w : World} (ho : ops[i]? = some o)
    (h : ∀ K' : Act → World → Prop, Shut (∀ a w, S w → (S w → wpSolo P ops Q S fs a w) → K' a w) → if Region.wanted o (yielded ops a.tmps) = true then Oper.wp P o a w K' Q else K' (a.put o.dst undef) w) :
    wpSolo P ops Q S ((i, true) :: fs) a w := by
  unfold wpSolo
  intro o' ho'
  obtain rfl := Option.some.inj (ho.symm.trans ho')
  by_cases hw : Region.wanted o (yielded ops a.tmps) = true
  · rw [if_pos hw]
    have := h (fun a' w' => S w' ∧ wpSolo P ops Q S fs a' w') (fun a w hS h => ⟨hS, h hS⟩)
    rw [if_pos hw] at this
    exact this
  · rw [if_neg hw]
    have := h (fun a' w' => S w' ∧ wpSolo P ops Q S fs a' w') (fun a w hS h => ⟨hS, h hS⟩)
    rw [if_neg hw] at this
    exact this.2
/-- One operation that only reads, and may be taken first. -/
theorem wpSolo_free {P : Program} {ops : Array Oper} {Q : Exit → Act → World → Prop} {S : World → Prop} {i : Nat} {o : Oper} {fs : List (Nat × Bool)} {a : Act} {w : World} {v : Value} (ho : ops[i]? = some o)
    (hw : Region.wanted o (yielded ops a.tmps) = true) (hv : ∀ w, S w → (execOp a.eval o).run P w = .ok (.value v) w) (h : wpSolo P ops Q S fs (a.put o.dst v) w) :
    wpSolo P ops Q S ((i, false) :: fs) a w := by
  unfold wpSolo
  intro o' ho'
  obtain rfl := Option.some.inj (ho.symm.trans ho')
  exact ⟨v, .inl ⟨hw, hv⟩, h⟩
theorem wpSolo_nil {P : Program} {ops : Array Oper} {Q : Exit → Act → World → Prop} {S : World → Prop} {a : Act} {w : World} (h : Q .normal a w) : wpSolo P ops Q S [] a w := h

end Go.Proofs.YtliijbcgkkiekaaGreatDoor
