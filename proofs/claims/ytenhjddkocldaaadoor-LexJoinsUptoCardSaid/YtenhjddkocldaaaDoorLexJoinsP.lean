/- LexJoins, in the form that bounds sizes: for any text and any list of tokens that together are of bulk at most 1048576, the call returns true, and both read afterwards as before. Conditions: the package-level variables that the row lists hold what the program's text lays in them (the card ties this to the text). -/
import Derived.Test.YtenhjddkocldaaaDoorLexJoinsW
import Derived.Test.YtenhjddkocldaaaDoorLexEnv
import Derived.Test.YtenhjddkocldaaaDoorCards
import Derived.Test.YtenhjddkocldaaaDoorTie
import Derived.WalkKit
import Derived.ProofKit
import Derived.OpenShut
import Derived.Deep.DeepHandedRow
import Derived.Deep.Slices
import Derived.Deep.Fields
import Derived.ChangeSame
import Derived.Carry
namespace Go.Proofs.YtenhjddkocldaaaDoor.lexJoinsUpto
open Go.ChangeShapes Go.WideShapes Go.ChangeAt Go.RowKit
open Go.ChangeMaps (open_string shut_string)
open Go.Deep

theorem own : ownKnob Tryd.prog.godebug = none := by kernel_rfl


theorem laidOut : laidOutB Tryd.prog = true := by kernel_rfl

theorem joinL_le : ∀ ls : List Item, (joinL ls).length ≤ (ls.map fun x => x.t.size + 1).sum
  | [] => by simp [joinL, Lib.join_nil]
  | [x] => by
    rw [joinL_one]
    show x.t.data.toList.length ≤ _
    have : x.t.data.toList.length = x.t.size := rfl
    simp
  | x :: y :: r => by
    have ih := joinL_le (y :: r)
    have : x.t.data.toList.length = x.t.size := rfl
    rw [joinL_two, List.length_append, List.length_cons, List.map_cons, List.sum_cons]
    omega

theorem choose_list {α : Type} (Q : Nat → α → Prop) : ∀ n : Nat, (∀ i, i < n → ∃ x, Q i x) → ∃ ls : List α, ls.length = n ∧ ∀ i x, ls[i]? = some x → Q i x
  | 0, _ => ⟨[], rfl, fun i x h => by simp at h⟩
  | n + 1, h => by
    obtain ⟨ls, hl, hq⟩ := choose_list Q n (fun i hi => h i (by omega))
    obtain ⟨x, hx⟩ := h n (by omega)
    refine ⟨ls ++ [x], by simp [hl], fun i y hy => ?_⟩
    by_cases hi : i < ls.length
    · rw [List.getElem?_append_left hi] at hy; exact hq i y hy
    · rw [List.getElem?_append_right (by omega)] at hy
      have : i - ls.length = 0 := by
        rcases Nat.eq_zero_or_pos (i - ls.length) with h0 | h0
        · exact h0
        · rw [List.getElem?_eq_none (by simp; omega)] at hy; cases hy
      rw [this] at hy
      simp at hy
      subst hy
      have : i = n := by omega
      subst this
      exact hx

theorem addr_of_cell {w : World} {a : Addr} {v : Value} (h : w.cell? a = some v) : a = ⟨a.block, a.off, none⟩ ∧ a.block < w.heap.size := by
  obtain ⟨b, o, s⟩ := a
  unfold World.cell? at h
  cases hb : w.heap[b]? with
  | none => simp [hb] at h
  | some ob =>
    have hlt := (Array.getElem?_eq_some_iff.1 hb).1
    cases s with
    | none => exact ⟨rfl, hlt⟩
    | some s => cases ob <;> simp [hb] at h

theorem bulk_all {H : Type} (D : Nat → DataW H) (f : Nat → Nat) : ∀ n, (∀ i, i < n → f i ≤ Rows.uptoBulk (D i)) → ((List.range n).map f).sum ≤ Rows.uptoBulkAll ((List.range n).map D) := by
  have app : ∀ l r : List (DataW H), Rows.uptoBulkAll (l ++ r) = Rows.uptoBulkAll l + Rows.uptoBulkAll r := by
    intro l r
    induction l with
    | nil => simp [Rows.uptoBulkAll]
    | cons x l ih => simp only [List.cons_append, Rows.uptoBulkAll, ih]; omega
  intro n
  induction n with
  | zero => intro _; simp
  | succ n ih =>
    intro h
    have h1 := ih (fun i hi => h i (by omega))
    have h2 := h n (by omega)
    rw [List.range_succ, List.map_append, List.map_append, List.sum_append, app]
    simp only [List.map_cons, List.map_nil, List.sum_cons, List.sum_nil, Rows.uptoBulkAll]
    omega

/-- A struct of one-cell fields, field by field. -/
theorem fields_of {H : Type} {enc : TypeId × Value → H} {P : Program} {w : World} {base : Nat} {spare : Nat → Bool} {held : Bool} {e : TypeId} {fs : Array Field} {fuel : Nat} {cs : List Value} {x : DataW H × List MemPlace}
    (he : P.underlying e = some (.struct fs)) (hone : oneCellFields P fs = true) (hC : P.cellsOf e = fs.size) (h : DataW.trod enc P w base spare held fuel e cs = some x) :
    ∃ (ys : List (DataW H × List MemPlace)) (n : Nat), fuel = n + 1 ∧ x = (.agg (ys.map (·.1)), ys.flatMap (·.2)) ∧ cs.length = fs.size ∧ ys.length = fs.size ∧
      ∀ (j : Nat) (f : Field), fs[j]? = some f → ∃ v y, cs[j]? = some v ∧ ys[j]? = some y ∧ DataW.trod enc P w base spare held n f.type [v] = some y := by
  obtain ⟨ys, n, hn, hx, hl, hyl, hf⟩ := DataW.trod_struct he h
  rw [hC] at hl
  refine ⟨ys, n, hn, hx, hl, hyl, fun j f hj => ?_⟩
  have hlt := (Array.getElem?_eq_some_iff.1 hj).1
  obtain ⟨ho, h1⟩ := hone_of hone j f hj
  have h2 := hf j f hj
  obtain ⟨v, hv⟩ : ∃ v, cs[j]? = some v := ⟨_, List.getElem?_eq_getElem (by omega)⟩
  obtain ⟨y, hy⟩ : ∃ y, ys[j]? = some y := ⟨_, List.getElem?_eq_getElem (by omega)⟩
  have ht : (cs.drop j).take 1 = [v] := by
    have hd := List.drop_eq_getElem_cons (l := cs) (i := j) (by omega)
    rw [List.getElem?_eq_getElem (by omega)] at hv
    rw [hd, List.take_succ_cons, List.take_zero]
    simpa using hv
  rw [ho, h1, ht, hy] at h2
  exact ⟨v, y, hv, hy, h2⟩

theorem add_block {b o : Nat} (j : Nat) : (⟨b, o, none⟩ : Addr).add j = ⟨b, o + j, none⟩ := by
  unfold Addr.add
  by_cases h : j = 0
  · subst h; simp
  · simp [h]

set_option maxRecDepth 100000 in
/-- A slice of tokens that came in: its tokens, and how many letters they have. -/
theorem tokens_open {H : Type} {enc : TypeId × Value → H} (W : World) (v : Value) (d : DataW H) (p : List MemPlace) {base : Nat} (hv : Value.okWide Tryd.prog W .any base 23 v)
    (h : DataW.Trod enc Tryd.prog W 0 (fun _ => true) true 23 v d p) :
    ∃ (pa : Option Addr) (n c : Nat), v = .slice pa n c ∧ True ∧ ∃ ls : List Item, ls.length = n ∧ Holds W (.slice pa n c) ls ∧ (ls.map fun x => x.t.size + 1).sum ≤ Rows.uptoBulk d := by
  obtain ⟨pa, n, c, rfl⟩ := okWide_slice Tryd.underlying23 hv
  obtain ⟨fuel, hf⟩ := h
  rcases open_slice Tryd.underlying23 hf with ⟨hc, hx⟩ | ⟨a, len, cap, m, k, D, Pl, hcs, _, hlc, hcap, hm, hx, hi⟩
  · simp only [Value.cells, List.cons.injEq, Value.slice.injEq, and_true] at hc
    obtain ⟨rfl, rfl, rfl⟩ := hc
    exact ⟨_, _, _, rfl, trivial, [], rfl, .inl ⟨rfl, rfl⟩, by simp⟩
  · simp only [Value.cells, List.cons.injEq, Value.slice.injEq, and_true] at hcs
    obtain ⟨rfl, rfl, rfl⟩ := hcs
    refine ⟨_, _, _, rfl, trivial, ?_⟩
    simp only [if_true] at hm
    subst hm
    have each : ∀ i, i < n → ∃ x : Item, (W.cell? (a.add (i * 4)) = some (.int .i64 x.k) ∧ W.cell? (a.add (i * 4 + 1)) = some (.string x.t) ∧ W.cell? (a.add (i * 4 + 2)) = some (.int .i64 x.v) ∧ W.cell? (a.add (i * 4 + 3)) = some (.int .i64 x.a)) ∧
        x.t.size + 1 ≤ Rows.uptoBulk (D i) := by
      intro i hin
      obtain ⟨cs', hc, ht⟩ := hi i (by omega)
      obtain ⟨ys, n', _, hD, hcl, hyl, hf⟩ := fields_of Tryd.underlying39 (by kernel_rfl) (by kernel_rfl) ht
      obtain ⟨v0, y0, e0, z0, t0⟩ := hf 0 _ rfl
      obtain ⟨v1, y1, e1, z1, t1⟩ := hf 1 _ rfl
      obtain ⟨v2, y2, e2, z2, t2⟩ := hf 2 _ rfl
      obtain ⟨v3, y3, e3, z3, t3⟩ := hf 3 _ rfl
      obtain ⟨k0, hk0, rfl, _⟩ := DataW.trod_int Tryd.underlying3 t0
      obtain ⟨s1, hs1, rfl, _⟩ := DataW.trod_string Tryd.underlying9 t1
      obtain ⟨k2, hk2, rfl, _⟩ := DataW.trod_int Tryd.underlying2 t2
      obtain ⟨k3, hk3, rfl, _⟩ := DataW.trod_int Tryd.underlying3 t3
      obtain ⟨_, hcl', hat⟩ := World.cells?_some hc
      rw [show Tryd.prog.cellsOf 39 = 4 from by kernel_rfl] at hat
      simp only [List.cons.injEq, and_true] at hk0 hs1 hk2 hk3
      subst hk0 hs1 hk2 hk3
      refine ⟨⟨k0, s1, k2, k3, 0, 0⟩, ⟨?_, ?_, ?_, ?_⟩, ?_⟩
      · have := hat 0 (by omega); rw [e0] at this; simpa [add_add] using this
      · have := hat 1 (by omega); rw [e1] at this; simpa [add_add] using this
      · have := hat 2 (by omega); rw [e2] at this; simpa [add_add] using this
      · have := hat 3 (by omega); rw [e3] at this; simpa [add_add] using this
      · have hDi : D i = .agg (ys.map (·.1)) := congrArg Prod.fst hD
        match ys, hyl, z0, z1, z2, z3, hDi with
        | [a0, a1, a2, a3], _, z0, z1, z2, z3, hDi =>
          simp at z0 z1 z2 z3
          subst z0 z1 z2 z3
          have hsz : s1.data.toList.length = s1.size := rfl
          rw [hDi]
          simp only [List.map_cons, List.map_nil, Rows.uptoBulk, Rows.uptoBulkAll]
          omega
    obtain ⟨ls, hln, hls⟩ := choose_list _ n (fun i hi => each i (by omega))
    have hbulk : (ls.map fun x => x.t.size + 1).sum ≤ Rows.uptoBulkAll ((List.range n).map D) := by
      have h1 := bulk_all D (fun i => match ls[i]? with | some x => x.t.size + 1 | none => 0) n (fun i hi => by
        cases hx : ls[i]? with
        | none => simp
        | some x => simpa [hx] using (hls i x hx).2)
      refine Nat.le_trans (Nat.le_of_eq ?_) h1
      congr 1
      apply List.ext_getElem?
      intro i
      by_cases hi : i < n
      · simp [List.getElem?_eq_getElem (show i < ls.length by omega), List.getElem?_range hi]
      · simp [List.getElem?_eq_none (show ls.length ≤ i by omega), List.getElem?_eq_none (show (List.range n).length ≤ i by simp; omega)]
    refine ⟨ls, hln, ?_, ?_⟩
    · obtain ⟨hsp, hblk⟩ : a.spot = none ∧ a.block < W.heap.size := by
        have hv' := hv
        simp only [Value.okWide, Tryd.underlying23, Cell.okWide, Cell.ok] at hv'
        obtain ⟨_, _, _, h2, row, cells, h3, _⟩ := hv'
        refine ⟨h2, ?_⟩
        unfold World.shape? at h3
        rcases Nat.lt_or_ge a.block W.heap.size with h | h
        · exact h
        · rw [Array.getElem?_eq_none h] at h3; simp at h3
      obtain ⟨b, o, sp⟩ := a
      simp only at hsp hblk
      subst hsp
      refine .inr ⟨b, o, m, by rw [hln], hblk, fun k x hx => ?_⟩
      have h := (hls k x hx).1
      simp only [add_block] at h
      refine ⟨?_, ?_, ?_, ?_⟩
      · exact h.1
      · rw [Nat.add_assoc]; exact h.2.1
      · rw [Nat.add_assoc]; exact h.2.2.1
      · rw [Nat.add_assoc]; exact h.2.2.2
    · have hd : d = .slice ((List.range n).map D) ((List.range (m - n)).map fun j => D (n + j)) := congrArg Prod.fst hx
      rw [hd]
      simp only [Rows.uptoBulk]
      omega

set_option maxRecDepth 100000 in
/-- What the walk gives, for every argument and every world that holds the listed variables. -/
theorem contract (H : Type) (enc : TypeId × Value → H) (W : World) (base : Nat) (args : Array Value) (ds gs : List (DataW H)) (before : List MemPlace)
    (hval : ∀ (j : Nat) t v, Tryd.f4.params[j]? = some t → args[j]? = some v → Value.okWide Tryd.prog W .any base t v)
    (hW : DataW.Whole enc Tryd.prog Tryd.f4.params.toList Rows.lexJoinsSpec.vars false W args.toList ds gs before) (hL : laidMetH Tryd.prog Rows.lexJoinsUptoRow.laid W) (hk : Rows.uptoSmall H (ds ++ gs) = true) :
    Calls Tryd.prog 4 args W fun e W' => ∃ v, e = .returned v ∧ Rows.lexJoinsSpec.post enc Tryd.prog Tryd.f4 false true false false W args v W' := by
  have hW' := hW
  obtain ⟨p, q, hA0, hV, rfl, hfz, hnd⟩ := hW
  have hA : DataW.TrodAll enc Tryd.prog W 0 (fun _ => true) true Tryd.f4.params.toList args.toList ds p := hA0
  rw [Tryd.params4] at hA hval
  obtain ⟨v0, vs0, d0, ds0, p0, q0, hargs, rfl, rfl, h0, r0⟩ := trodAll_cons hA
  obtain ⟨v1, vs1, d1, ds1, p1, q1, rfl, rfl, rfl, h1, r1⟩ := trodAll_cons r0
  obtain ⟨rfl, rfl, rfl⟩ := trodAll_nil r1
  obtain rfl : args = #[v0, v1] := Array.toList_inj.1 (by rw [hargs])
  obtain ⟨rfl, rfl⟩ := trodVars_none hV
  obtain ⟨a0, rfl, rfl, rfl, w0⟩ := open_string Tryd.underlying9 (hval 0 9 v0 rfl rfl) h0
  have h1k := h1
  obtain ⟨pa, n, c, rfl, _, ls, hln, hls, hbulk⟩ := tokens_open W v1 d1 p1 (hval 1 23 v1 rfl rfl) h1
  clear hA0
  simp only [List.append_nil, List.nil_append] at hW'
  have hjl : n ≤ 100 → (joinL ls).length ≤ 140737488355328 := fun _ => by
    have h2 := joinL_le ls
    have h3 : Rows.uptoBulkAll (H := H) [DataW.lit (.string a0.data.toList), d1] ≤ 1048576 := of_decide_eq_true (by simpa [Rows.uptoSmall] using hk)
    simp only [Rows.uptoBulkAll] at h3
    omega
  have hlt : ∀ x ∈ p1, x.block < W.heap.size := fun x hx => by simpa using hW'.lt x (by simpa using hx)
  refine (LexJoins_any a0 pa n c ls hln hjl W.heap.size W (env_of_laid hL) hls).mono fun e W' ⟨he, hb⟩ => ?_
  subst he
  refine ⟨_, rfl, _, _, _, [], p1, [], hW', ?_, ?_, ?_, hb.frame _, fun h => by cases h⟩
  · exact trodAll_cons_mk (shut_bool Tryd.underlying4 _) trodAll_mk0
  · have h := trodAll_cons_mk (shut_string Tryd.underlying9 w0) (trodAll_cons_mk (Below.trod laidOut (by kernel_rfl) (of_decide_eq_true (by kernel_rfl)) h1k hb hlt) trodAll_mk0)
    rw [List.nil_append, List.append_nil] at h
    exact h
  · rfl

theorem reads (os : Os) {H : Type} (enc : TypeId × Value → H) : ∃ places, DataW.whole enc Tryd.prog ((World.doorLaid Tryd.prog 4000 os).forCall (fun _ _ => 0) ⟨#[], #[.string ⟨#[]⟩, .slice none 0 0], []⟩).memory Tryd.f4.params.toList Rows.lexJoinsSpec.vars false (#[.string ⟨#[]⟩, .slice none 0 0] : Array Value).toList 8 = some ([.lit (.string []), .nil], [], places) :=
  ⟨[], by kernel_rfl⟩

set_option maxRecDepth 100000 in
theorem lifted (os : Os) (started : os.Started) (H : Type) (enc : TypeId × Value → H) (F : Stop.Interp) :
    ReturnsInHanded {} Tryd.checked os 4 .any ((Rows.OpenSpec.upto Rows.lexJoinsSpec).preRow enc Tryd.prog Tryd.f4 Rows.lexJoinsUptoRow.domain false Rows.lexJoinsUptoRow.laid) (((Rows.OpenSpec.upto Rows.lexJoinsSpec).at F).post enc Tryd.prog Tryd.f4 false true false false) := by
  obtain ⟨places, hx⟩ := reads os enc
  refine returnsInHanded_of_row (C := Tryd.checked) (s := Rows.OpenSpec.upto Rows.lexJoinsSpec) own started (by kernel_rfl) Tryd.func4
    (witness_row_at (enc := enc) (C := Tryd.checked) false (World.doorLaid Tryd.prog 4000 os) #[.string ⟨#[]⟩, .slice none 0 0] rfl (by kernel_rfl) (by kernel_rfl) (by kernel_rfl)
      (OpenSpec.preRow_of_cond 8 hx (by kernel_rfl) (fun k hk => by cases hk; kernel_rfl) (by kernel_rfl) (door_met os _))) ?_
  intro W base args ds gs before hval hW _ hcond _ hL _ _
  exact contract H enc W base args ds gs before hval hW hL (hcond _ rfl)

theorem said : Rows.LexJoinsUptoSaid :=
  OpenClaim.holds_of_cond 4 Tryd.f4 rfl rfl rfl rfl rfl rfl rfl ⟨rfl, rfl, rfl, rfl, rfl⟩ rfl rfl rfl rfl rfl (by kernel_rfl) Tryd.func4 (by kernel_rfl)
    (of_decide_eq_true (by kernel_rfl)) (by unfold Func.isWrapper; first | (rw [if_pos (by decide +kernel)]; kernel_rfl) | (rw [if_neg (by decide +kernel)]; exact ⟨rfl, rfl⟩))
    (fun os started H enc _ F => by rw [OpenClaim.pre_eq_preRow]; exact lifted os started H enc F)

/-- No parameter wants a stand-in. -/
theorem plain (f : FuncId) (fn : Func) (hf : Tryd.pinned.checked.prog.funcNamed "duologue/duologuelaw01.LexJoins" = some f) (hfn : Tryd.pinned.checked.prog.funcs[f]? = some fn) :
    true = Tryd.pinned.checked.prog.looks [] ∧ ∀ (j : Nat) t, fn.params[j]? = some t → Tryd.pinned.checked.prog.wantsStandIn t = false := by
  obtain rfl : f = 4 := Option.some.inj ((show Tryd.prog.funcNamed "duologue/duologuelaw01.LexJoins" = some 4 by kernel_rfl).symm.trans hf) |>.symm
  obtain rfl : fn = Tryd.f4 := (Option.some.inj (Tryd.func4.symm.trans hfn)).symm
  refine ⟨by kernel_rfl, fun j t ht => ?_⟩
  rw [Tryd.params4] at ht
  have hm := Array.mem_of_getElem? ht
  simp at hm
  rcases hm with rfl | rfl
  · exact (show Tryd.prog.wantsStandIn 9 = false by kernel_rfl)
  · exact (show Tryd.prog.wantsStandIn 23 = false by kernel_rfl)

theorem card : Rows.LexJoinsUptoCardSaid :=
  Claim7.holds_tied_plain_at .later [] _ _ _ _ said (fun _ h => by cases h) (by kernel_rfl) (fun _ h => by cases h) lexJoinsUpto_row_tie rfl ⟨rfl, rfl⟩ (by kernel_rfl) rfl plain (by kernel_rfl)

end Go.Proofs.YtenhjddkocldaaaDoor.lexJoinsUpto
