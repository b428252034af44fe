/- Heads: the fixed example of the law (given Labels). (and what follows from it) -/
import Derived.Test.YtecdapihfiahiaaPv11

/- Heads: the fixed example of the law (given Labels). -/
namespace Go.Proofs.Ytecdapihfiahiaa
open Go.RowKit Go.Deep Go.Shelf

/-- .. the same, with a list of numbers made for the call. -/
structure CB2 (V : World) (o0 o1 b : Value) (xs : List Int) (ip ic im ix ib ia is iz : Nat) (L : Nat → Bool) (vals : Nat → Value) (w : World) : Prop where
  dn : L is = true → L ix = true ∧ L ia = true
  out : Below V.heap.size V w
  vc : L ic = true → vals ic = .tuple #[.agg #[o0, o1], b]
  vm : L im = true → vals im = .tuple #[.agg #[o0, o1], b]
  vx : L ix = true → vals ix = .agg #[o0, o1]
  vb : L ib = true → vals ib = b
  va : L ia = true → L is = false → ∃ X, vals ia = .pointer (some ⟨X, 0, none⟩) ∧ V.heap.size ≤ X ∧ w.heap[X]? = some (refO (.int .i64 0) (.int .i64 0))
  vs : L is = true → ∃ X, vals ia = .pointer (some ⟨X, 0, none⟩) ∧ V.heap.size ≤ X ∧ w.heap[X]? = some (refO o0 o1)
  vz : L iz = true → vals iz = b
  d2 : L ix = true → L ic = true
  d3 : L im = true → L ic = true
  vp : L ip = true → L ic = false → ∃ B, vals ip = .slice (some ⟨B, 0, none⟩) xs.length xs.length ∧ IntSl w (some ⟨B, 0, none⟩) xs.length xs

theorem intSl_new (w : World) (T : TypeId) : IntSl (w.alloc (.cells #[.int .i64 1, .int .i64 1] T)) (some ⟨w.heap.size, 0, none⟩) 2 [1, 1] := by
  have hz := World.alloc_heap_new w (.cells #[.int .i64 1, .int .i64 1] T)
  have hs : w.heap.size < (w.alloc (.cells #[.int .i64 1, .int .i64 1] T)).heap.size := by rw [World.size_alloc]; exact Nat.lt_succ_self _
  generalize w.alloc (.cells #[.int .i64 1, .int .i64 1] T) = W at hz hs
  refine ⟨rfl, fun j x hj => ⟨_, _, rfl, hs, ?_⟩⟩
  match j, hj with
  | 0, hj => simp at hj; subst hj; simp [World.cell?, hz]
  | 1, hj => simp at hj; subst hj; simp [World.cell?, hz]
  | j + 2, hj => simp at hj
/-- A guarded operation that may be taken first. -/
theorem wpAnyH_take_h {P : Program} {md : Region.Mode} {l : List Oper} {Q : Exit → Act → World → Prop} {S : World → Prop} {fuel : Nat} {B : List Bool} {T : List Value} {ds : List Deferred} {w : World} (i : Nat) {oi : Oper} {v : Value} (hi : l[i]? = some oi) (hw : Region.wanted oi (yielded l.toArray T.toArray) = true)
    (hs : Region.noSelect l.toArray = true) (hf : Region.free md l.toArray B.toArray i = true) (hr : (Region.ready md l.toArray B.toArray).contains i = true)
    (hQ : ∀ c a w, Q (.panic c) (a.put oi.dst v) w → Q (.panic c) a w) (hv : ∀ w, S w → (execOp (Act.eval ⟨T.toArray, ds⟩) oi).run P w = .ok (.value v) w) (hS : S w)
    (h : wpAnyH P md l.toArray Q S fuel (B.set i true).toArray ⟨(setD T oi.dst v).toArray, ds⟩ w) : wpAnyH P md l.toArray Q S (fuel + 1) B.toArray ⟨T.toArray, ds⟩ w := by
  refine wpAnyH_take (i := i) (oi := oi) (v := v) (by simpa using hi) hs hf hr hQ (.inl ⟨hw, hv⟩) hS ?_
  rw [put_list, List.setIfInBounds_toArray]
  exact h
/-- Two guarded operations that come up together. -/
theorem wpAnyH_two_h {P : Program} {md : Region.Mode} {l : List Oper} {Q : Exit → Act → World → Prop} {S : World → Prop} {fuel : Nat} {B : List Bool} {T : List Value} {ds : List Deferred} {w : World} (i j : Nat) {oi oj : Oper} (hoi : l[i]? = some oi) (hoj : l[j]? = some oj) (hwi : Region.wanted oi (yielded l.toArray T.toArray) = true) (hwj : Region.wanted oj (yielded l.toArray T.toArray) = true)
    (hr : Region.ready md l.toArray B.toArray = [i, j])
    (h1 : ∀ K : Act → World → Prop, Shut (∀ v w', S w' → (S w' → wpAnyH P md l.toArray Q S fuel (B.set i true).toArray ⟨(setD T oi.dst v).toArray, ds⟩ w') → K ⟨(setD T oi.dst v).toArray, ds⟩ w') → Oper.wp P oi ⟨T.toArray, ds⟩ w K Q)
    (h2 : ∀ K : Act → World → Prop, Shut (∀ v w', S w' → (S w' → wpAnyH P md l.toArray Q S fuel (B.set j true).toArray ⟨(setD T oj.dst v).toArray, ds⟩ w') → K ⟨(setD T oj.dst v).toArray, ds⟩ w') → Oper.wp P oj ⟨T.toArray, ds⟩ w K Q) :
    wpAnyH P md l.toArray Q S (fuel + 1) B.toArray ⟨T.toArray, ds⟩ w := by
  refine wpAnyH_all hr (by simp) (fun k hk => ?_)
  rcases List.mem_cons.1 hk with hk | hk
  · subst hk
    have ho' : l.toArray[k]? = some oi := by simpa using hoi
    unfold wpOp
    simp only [ho']
    rw [if_pos hwi]
    refine .inl (h1 _ (fun v w' q1 q2 => ?_))
    refine ⟨q1, ?_⟩
    rw [List.setIfInBounds_toArray]
    exact q2 q1
  · have hk := List.mem_singleton.1 hk
    subst hk
    have ho' : l.toArray[k]? = some oj := by simpa using hoj
    unfold wpOp
    simp only [ho']
    rw [if_pos hwj]
    refine .inl (h2 _ (fun v w' q1 q2 => ?_))
    refine ⟨q1, ?_⟩
    rw [List.setIfInBounds_toArray]
    exact q2 q1
theorem wpAnyH_one_h {P : Program} {md : Region.Mode} {l : List Oper} {Q : Exit → Act → World → Prop} {S : World → Prop} {fuel : Nat} {B : List Bool} {T : List Value} {ds : List Deferred} {w : World} (i : Nat) {o : Oper} (ho : l[i]? = some o) (hw : Region.wanted o (yielded l.toArray T.toArray) = true)
    (hr : Region.ready md l.toArray B.toArray = [i])
    (h : ∀ K : Act → World → Prop, Shut (∀ v w', S w' → (S w' → wpAnyH P md l.toArray Q S fuel (B.set i true).toArray ⟨(setD T o.dst v).toArray, ds⟩ w') → K ⟨(setD T o.dst v).toArray, ds⟩ w') → Oper.wp P o ⟨T.toArray, ds⟩ w K Q) :
    wpAnyH P md l.toArray Q S (fuel + 1) B.toArray ⟨T.toArray, ds⟩ w := by
  refine wpAnyH_all hr (by simp) (fun k hk => ?_)
  have hk := List.mem_singleton.1 hk
  subst hk
  have ho' : l.toArray[k]? = some o := by simpa using ho
  unfold wpOp
  simp only [ho']
  rw [if_pos hw]
  refine .inl (h _ (fun v w' q1 q2 => ?_))
  refine ⟨q1, ?_⟩
  rw [List.setIfInBounds_toArray]
  exact q2 q1

abbrev yInt : Ty := .mk 1 0 ⟨#[]⟩ 0 [] []
abbrev yVar : Ty := .mk 9 0 ⟨#[116]⟩ 2 [] []
abbrev ySend : Ty := .mk 4 1 ⟨#[]⟩ 0 [] [yInt, yVar]
abbrev yRec : Ty := .mk 8 0 ⟨#[116]⟩ 0 [] [ySend]
abbrev yEnd : Ty := .mk 3 0 ⟨#[]⟩ 0 [] []
abbrev yBra : Ty := .mk 7 0 ⟨#[]⟩ 0 [⟨#[98]⟩, ⟨#[97]⟩] [yEnd, yEnd]
abbrev yTs : List Ty := [yRec, yBra]
abbrev yNs : List GNode := [⟨4, 1, [], [⟨1, 0⟩, ⟨0, 2⟩]⟩, ⟨1, 0, [], []⟩, ⟨7, 0, [⟨#[98]⟩, ⟨#[97]⟩], [⟨3, 0⟩, ⟨4, 0⟩]⟩, ⟨3, 0, [], []⟩, ⟨3, 0, [], []⟩]
abbrev yRs : List GRef := [⟨0, 0⟩, ⟨2, 0⟩]
theorem yNodes : gNodes yTs = yNs := by
  simp [gNodes, Ty.pnods, Ty.pnod, Ty.pnod1, Ty.prefs, Ty.pref, upE, Ty.gcnt, Ty.gcnts]
theorem yRefs : gRefs yTs = yRs := by
  simp [gRefs, Ty.prefs, Ty.pref, Ty.pref1, Ty.gcnt, Ty.gcnts]
theorem yOk : Ty.okgs yTs := by simp [Ty.okgs, Ty.okg]
theorem yRight : ∀ t ∈ yTs, nodeR [] 0 false t = 0 := by
  intro t ht
  simp only [List.mem_cons, List.not_mem_nil, or_false] at ht
  rcases ht with rfl | rfl <;> decide +kernel
theorem ySmall : smallG yNs := by rw [← yNodes]; exact small_all yRight
theorem yWf : wfG yNs := by rw [← yNodes]; exact hwf_all yRight yOk

abbrev e1 : List Value := [.int .i64 1, .int .i64 0, .string ⟨#[]⟩, .int .i64 0, .slice none 0 0, .slice none 0 0]
abbrev e9 : List Value := [.int .i64 9, .int .i64 0, .string ⟨#[116]⟩, .int .i64 2, .slice none 0 0, .slice none 0 0]
abbrev e4 (b : Nat) : List Value := [.int .i64 4, .int .i64 1, .string ⟨#[]⟩, .int .i64 0, .slice none 0 0, .slice (some ⟨b, 0, none⟩) 2 2]
abbrev e8 (b : Nat) : List Value := [.int .i64 8, .int .i64 0, .string ⟨#[116]⟩, .int .i64 0, .slice none 0 0, .slice (some ⟨b, 0, none⟩) 1 1]
abbrev e3 : List Value := [.int .i64 3, .int .i64 0, .string ⟨#[]⟩, .int .i64 0, .slice none 0 0, .slice none 0 0]
abbrev e7 (a b : Nat) : List Value := [.int .i64 7, .int .i64 0, .string ⟨#[]⟩, .int .i64 0, .slice (some ⟨a, 0, none⟩) 2 2, .slice (some ⟨b, 0, none⟩) 2 2]
theorem ynilStr (B : Nat → Prop) (W : World) : StrSl B W (.slice none 0 0) [] := ⟨.inl ⟨⟨_, _, rfl⟩, rfl⟩, by simp [maxLen], fun s hs => by cases hs⟩
theorem ynilTys (B : Nat → Prop) (W : World) : TySl B W (.slice none 0 0) [] := ⟨.inl ⟨⟨_, _, rfl⟩, rfl⟩, by simp [maxLen]⟩
theorem ytwoStr {B : Nat → Prop} {W : World} {b : Nat} {T : TypeId} {f : Nat × Nat} {s1 s2 : ByteArray} (h : W.heap[b]? = some (.cells #[.string s1, .string s2] T f)) (hb : B b) (h1 : s1.size ≤ maxLen) (h2 : s2.size ≤ maxLen) : StrSl B W (.slice (some ⟨b, 0, none⟩) 2 2) [s1, s2] := by
  refine ⟨.inr ⟨b, 0, 2, rfl, hb, by simp, ?_⟩, by simp [maxLen], fun s hs => ?_⟩
  · intro i s hi
    match i, hi with
    | 0, hi => simp at hi; subst hi; simp [World.cell?, h]
    | 1, hi => simp at hi; subst hi; simp [World.cell?, h]
    | i + 2, hi => simp at hi
  · simp only [List.mem_cons, List.not_mem_nil, or_false] at hs
    rcases hs with rfl | rfl
    · exact h1
    · exact h2
theorem y_ts {B : Nat → Prop} {W : World} {b0 b1 b3 b4 b6 : Nat} {T U : TypeId} {f0 f1 f3 f4 f6 : Nat × Nat} (h0 : W.heap[b0]? = some (.cells (e1 ++ e9).toArray T f0)) (h1 : W.heap[b1]? = some (.cells (e4 b0).toArray T f1)) (h3 : W.heap[b3]? = some (.cells #[.string ⟨#[98]⟩, .string ⟨#[97]⟩] U f3)) (h4 : W.heap[b4]? = some (.cells (e3 ++ e3).toArray T f4)) (h6 : W.heap[b6]? = some (.cells (e8 b1 ++ e7 b3 b4).toArray T f6)) (k0 : B b0) (k1 : B b1) (k3 : B b3) (k4 : B b4) (k6 : B b6) :
    TySl B W (.slice (some ⟨b6, 0, none⟩) 2 2) yTs := by
  have cell : ∀ {b : Nat} {l : List Value} {f : Nat × Nat}, W.heap[b]? = some (.cells l.toArray T f) → ∀ i u, l[i]? = some u → W.cell? ⟨b, i, none⟩ = some u := by
    intro b l f h i u hi
    simp only [World.cell?, h]
    simpa using hi
  have a1 : TyAt B W yInt b0 0 := tyAt_of (v5 := .slice none 0 0) (v6 := .slice none 0 0) k0 (cell h0 0 _ rfl) (cell h0 1 _ rfl) (cell h0 2 _ rfl) (cell h0 3 _ rfl) (cell h0 4 _ rfl) (cell h0 5 _ rfl) ⟨_, _, rfl, by decide, ynilStr _ _, ynilTys _ _⟩
  have a9 : TyAt B W yVar b0 (0 + 6) := tyAt_of (v5 := .slice none 0 0) (v6 := .slice none 0 0) k0 (cell h0 6 _ rfl) (cell h0 7 _ rfl) (cell h0 8 _ rfl) (cell h0 9 _ rfl) (cell h0 10 _ rfl) (cell h0 11 _ rfl) ⟨_, _, rfl, by decide, ynilStr _ _, ynilTys _ _⟩
  have t2 : TySl B W (.slice (some ⟨b0, 0, none⟩) 2 2) [yInt, yVar] := ⟨.inr ⟨b0, 0, 2, rfl, k0, by simp only [TysAt]; exact ⟨a1, a9, trivial⟩⟩, by simp [maxLen]⟩
  have a4 : TyAt B W ySend b1 0 := tyAt_of (v5 := .slice none 0 0) (v6 := .slice (some ⟨b0, 0, none⟩) 2 2) k1 (cell h1 0 _ rfl) (cell h1 1 _ rfl) (cell h1 2 _ rfl) (cell h1 3 _ rfl) (cell h1 4 _ rfl) (cell h1 5 _ rfl) ⟨_, _, rfl, by decide, ynilStr _ _, t2⟩
  have t1 : TySl B W (.slice (some ⟨b1, 0, none⟩) 1 1) [ySend] := ⟨.inr ⟨b1, 0, 1, rfl, k1, by simp only [TysAt]; exact ⟨a4, trivial⟩⟩, by simp [maxLen]⟩
  have a8 : TyAt B W yRec b6 0 := tyAt_of (v5 := .slice none 0 0) (v6 := .slice (some ⟨b1, 0, none⟩) 1 1) k6 (cell h6 0 _ rfl) (cell h6 1 _ rfl) (cell h6 2 _ rfl) (cell h6 3 _ rfl) (cell h6 4 _ rfl) (cell h6 5 _ rfl) ⟨_, _, rfl, by decide, ynilStr _ _, t1⟩
  have g1 : TyAt B W yEnd b4 0 := tyAt_of (v5 := .slice none 0 0) (v6 := .slice none 0 0) k4 (cell h4 0 _ rfl) (cell h4 1 _ rfl) (cell h4 2 _ rfl) (cell h4 3 _ rfl) (cell h4 4 _ rfl) (cell h4 5 _ rfl) ⟨_, _, rfl, by decide, ynilStr _ _, ynilTys _ _⟩
  have g2 : TyAt B W yEnd b4 (0 + 6) := tyAt_of (v5 := .slice none 0 0) (v6 := .slice none 0 0) k4 (cell h4 6 _ rfl) (cell h4 7 _ rfl) (cell h4 8 _ rfl) (cell h4 9 _ rfl) (cell h4 10 _ rfl) (cell h4 11 _ rfl) ⟨_, _, rfl, by decide, ynilStr _ _, ynilTys _ _⟩
  have t3 : TySl B W (.slice (some ⟨b4, 0, none⟩) 2 2) [yEnd, yEnd] := ⟨.inr ⟨b4, 0, 2, rfl, k4, by simp only [TysAt]; exact ⟨g1, g2, trivial⟩⟩, by simp [maxLen]⟩
  have a7 : TyAt B W yBra b6 (0 + 6) := tyAt_of (v5 := .slice (some ⟨b3, 0, none⟩) 2 2) (v6 := .slice (some ⟨b4, 0, none⟩) 2 2) k6 (cell h6 6 _ rfl) (cell h6 7 _ rfl) (cell h6 8 _ rfl) (cell h6 9 _ rfl) (cell h6 10 _ rfl) (cell h6 11 _ rfl) ⟨_, _, rfl, by decide, ytwoStr h3 k3 (by decide) (by decide), t3⟩
  exact ⟨.inr ⟨b6, 0, 2, rfl, k6, by simp only [TysAt]; exact ⟨a8, a7, trivial⟩⟩, by simp [maxLen]⟩
theorem seven_heap (w : World) (o0 o1 o2 o3 o4 o5 o6 : Obj) {W : World} (h : ((((((w.alloc o0).alloc o1).alloc o2).alloc o3).alloc o4).alloc o5).alloc o6 = W) : W.heap[w.heap.size]? = some o0 ∧ W.heap[w.heap.size + 1]? = some o1 ∧ W.heap[w.heap.size + 1 + 1 + 1]? = some o3 ∧ W.heap[w.heap.size + 1 + 1 + 1 + 1]? = some o4 ∧ W.heap[w.heap.size + 1 + 1 + 1 + 1 + 1 + 1]? = some o6 ∧ Below w.heap.size w W ∧ W.heap.size = w.heap.size + 7 := by
  subst h
  obtain ⟨W3, hW3⟩ : ∃ W3, ((w.alloc o0).alloc o1).alloc o2 = W3 := ⟨_, rfl⟩
  obtain ⟨s3, b3, x0, x1, x2⟩ := three_made hW3
  rw [hW3]
  obtain ⟨W6, hW6⟩ : ∃ W6, ((W3.alloc o3).alloc o4).alloc o5 = W6 := ⟨_, rfl⟩
  obtain ⟨s6, b6, y0, y1, y2⟩ := three_made hW6
  rw [hW6]
  have hb7 : Below W6.heap.size W6 (W6.alloc o6) := (Below.refl _ _).alloc (Nat.le_refl _) _
  have hz := World.alloc_heap_new W6 o6
  have h37 : Below W3.heap.size W3 (W6.alloc o6) := below_seq b6 hb7
  refine ⟨(h37.block _ (by omega)).trans x0, (h37.block _ (by omega)).trans x1, ?_, ?_, ?_, below_seq b3 h37, by rw [World.size_alloc]; omega⟩
  · rw [show w.heap.size + 1 + 1 + 1 = W3.heap.size by omega]; exact (hb7.block _ (by omega)).trans y0
  · rw [show w.heap.size + 1 + 1 + 1 + 1 = W3.heap.size + 1 by omega]; exact (hb7.block _ (by omega)).trans y1
  · rw [show w.heap.size + 1 + 1 + 1 + 1 + 1 + 1 = W6.heap.size by omega]; exact hz
theorem ycalls_at {P : Program} {f : FuncId} {vs : Array Value} {Q : Ending → World → Prop} {W W0 : World} (h : W = W0) (k : Calls P f vs W0 Q) : Calls P f vs W Q := by rw [h]; exact k

set_option maxHeartbeats 16000000 in
set_option maxRecDepth 100000 in
theorem awake_of (hlab : ∀ (na : Option Addr) (nn nc : Nat) (w : World), NodeSl (fun k => k < w.heap.size) w (.slice na nn nc) yNs → Calls Try.prog 14 #[grV na nn nc, rfV 2 0] w fun e w' => ∃ sa sc, e = .returned (.slice sa 2 sc) ∧ StrSl (fun k => k < w'.heap.size) w' (.slice sa 2 sc) [⟨#[97]⟩, ⟨#[98]⟩] ∧ Below w.heap.size w w') (w : World) :
    Calls Try.prog 4 #[] w fun e w' => e = .returned (.bool true) ∧ Below w.heap.size w w' := by
  obtain ⟨W7, hW7⟩ : ∃ W7, ((((((w.alloc (.cells (e1 ++ e9).toArray 43)).alloc (.cells (e4 w.heap.size).toArray 43)).alloc (.cells (e8 (w.heap.size + 1)).toArray 43)).alloc (.cells #[.string ⟨#[98]⟩, .string ⟨#[97]⟩] 9)).alloc (.cells (e3 ++ e3).toArray 43)).alloc (.cells (e7 (w.heap.size + 1 + 1 + 1) (w.heap.size + 1 + 1 + 1 + 1)).toArray 43)).alloc (.cells (e8 (w.heap.size + 1) ++ e7 (w.heap.size + 1 + 1 + 1) (w.heap.size + 1 + 1 + 1 + 1)).toArray 43) = W7 := ⟨_, rfl⟩
  obtain ⟨h0, h1, h3, h4, h6, hb7, hs7⟩ := seven_heap w _ _ _ _ _ _ _ hW7
  have hts : TySl (fun k => k < W7.heap.size) W7 (.slice (some ⟨w.heap.size + 1 + 1 + 1 + 1 + 1 + 1, 0, none⟩) 2 2) yTs := y_ts h0 h1 h3 h4 h6 (by omega) (by omega) (by omega) (by omega) (by omega)
  have HGR := Lib.hid (graph_any yTs _ W7 hts (by decide) (by decide) yRight (by rw [yNodes]; decide) (by rw [yNodes]; decide) (by rw [yRefs]; decide))
  rw [yNodes, yRefs] at HGR
  have HW7 := Lib.hid hW7
  have HB7 := Lib.hid hb7
  have HLAB := Lib.hid hlab
  clear h0 h1 h3 h4 h6 hb7 hs7 hts hW7 hlab
  go_enter Try.func4, Try.ntmps4
  go_upto_region 4 with (go_at_call 6; go_loud (refine ycalls_at HW7.out ?_; refine HGR.out.mono ?_; rintro en w8 ⟨na, nn, nc, ra, rn, rc, rfl, hn8, hr8, hb8⟩; have HN8 := Lib.hid hn8; have HR8 := Lib.hid hr8; have HB8 := Lib.hid (below_seq HB7.out hb8); clear hn8 hr8 hb8))
  obtain ⟨W9, hW9⟩ : ∃ W9, w8.alloc (.cells #[.slice na nn nc] 29) = W9 := ⟨_, rfl⟩
  have hb9 : Below w8.heap.size w8 W9 := by rw [← hW9]; exact blkBelow w8 _ _
  have x9 : W9.heap[w8.heap.size]? = some (grO na nn nc) := by rw [← hW9]; exact World.alloc_heap_new _ _
  have hs9 : w8.heap.size < W9.heap.size := (Array.getElem?_eq_some_iff.1 x9).1
  have HNG : Hid (∀ W, Below W9.heap.size W9 W → NodeSl (fun k => k < W.heap.size) W (.slice na nn nc) yNs ∧ RefSl (fun k => k < W.heap.size) W (.slice ra rn rc) yRs) := Lib.hid (fun W hW => by
    have b1 := below_seq hb9 hW
    exact ⟨(HN8.out.keep (b1.keeps'.mono (fun k hk => hk))).mono (fun k hk => Nat.lt_of_lt_of_le hk b1.size), (HR8.out.keep (b1.keeps'.mono (fun k hk => hk))).mono (fun k hk => Nat.lt_of_lt_of_le hk b1.size)⟩)
  obtain ⟨e9, rb, ro, rfl, hrc⟩ := refs_at (HNG.out W9 (Below.refl _ _)).2 (by decide)
  obtain rfl : rn = 2 := e9
  have HS : Hid (∀ W, Below W9.heap.size W9 W → W.cell? ⟨w8.heap.size, 0, none⟩ = some (.slice na nn nc) ∧ W.cell? ⟨rb, ro, none⟩ = some (.int .i64 0) ∧ W.cell? ⟨rb, ro + 1, none⟩ = some (.int .i64 0) ∧ W.cell? ⟨rb, ro + 2, none⟩ = some (.int .i64 2) ∧ W.cell? ⟨rb, ro + 3, none⟩ = some (.int .i64 0)) := Lib.hid (fun W hW => by
    have a1 : W.heap[w8.heap.size]? = _ := (hW.block _ hs9).trans x9
    obtain ⟨b0, b1⟩ := hrc W hW 0 _ rfl
    obtain ⟨b2, b3⟩ := hrc W hW 1 _ rfl
    exact ⟨by simp [World.cell?, a1], by simpa using b0, by simpa using b1, by simpa using b2, by simpa using b3⟩)
  have HB9 : Hid (Below w.heap.size w W9) := Lib.hid (below_seq HB8.out hb9)
  have HP0 : Hid (∀ W, Below W9.heap.size W9 W → Calls Try.prog 10 #[grV na nn nc, .agg #[.int .i64 0, .int .i64 0]] W fun e w' => e = .returned (.tuple #[.int .i64 1, .bool true]) ∧ Below W.heap.size W w') := Lib.hid (fun W hW => prio_any yNs na nn nc 0 0 _ W (HNG.out W hW).1 rfl (by decide) (by decide) (by decide))
  have HP4 : Hid (∀ W, Below W9.heap.size W9 W → Calls Try.prog 10 #[grV na nn nc, .agg #[.int .i64 0, .int .i64 4]] W fun e w' => e = .returned (.tuple #[.int .i64 5, .bool true]) ∧ Below W.heap.size W w') := Lib.hid (fun W hW => prio_any yNs na nn nc 0 4 _ W (HNG.out W hW).1 rfl (by decide) (by decide) (by decide))
  have HAF : Hid (∀ W B, Below W9.heap.size W9 W → IntSl W (some ⟨B, 0, none⟩) 2 [1, 1] → Calls Try.prog 8 #[grV na nn nc, .agg #[.int .i64 0, .int .i64 0], .slice (some ⟨B, 0, none⟩) 2 2] W fun e w' => e = .returned (.tuple #[.agg #[.int .i64 0, .int .i64 4], .bool true]) ∧ Below W.heap.size W w') := Lib.hid (fun W B hW hI => after_any yNs na nn nc ⟨0, 0⟩ _ 2 2 [1, 1] W (HNG.out W hW).1 (by decide) (by decide) (by decide) ySmall yWf (by decide) hI (by decide))
  have HLA : Hid (∀ W, Below W9.heap.size W9 W → Calls Try.prog 11 #[grV na nn nc, .agg #[.int .i64 2, .int .i64 0], .string ⟨#[97]⟩] W fun e w' => e = .returned (.tuple #[.agg #[.int .i64 4, .int .i64 0], .bool true]) ∧ Below W.heap.size W w') := Lib.hid (fun W hW => label_any yNs na nn nc ⟨2, 0⟩ _ ⟨#[97]⟩ W (HNG.out W hW).1 rfl (by decide) (by decide) ySmall (by decide))
  have HLC : Hid (∀ W, Below W9.heap.size W9 W → Calls Try.prog 11 #[grV na nn nc, .agg #[.int .i64 2, .int .i64 0], .string ⟨#[99]⟩] W fun e w' => e = .returned (.tuple #[.agg #[.int .i64 0, .int .i64 0], .bool false]) ∧ Below W.heap.size W w') := Lib.hid (fun W hW => label_any yNs na nn nc ⟨2, 0⟩ _ ⟨#[99]⟩ W (HNG.out W hW).1 rfl (by decide) (by decide) ySmall (by decide))
  have HLW : Hid (∀ W, Below W9.heap.size W9 W → Calls Try.prog 9 #[grV na nn nc, .slice (some ⟨rb, ro, none⟩) 2 rc] W fun e w' => e = .returned (.tuple #[.int .i64 0, .bool true]) ∧ Below W.heap.size W w') := Lib.hid (fun W hW => lowest_any yNs yRs na nn nc _ 2 rc W (HNG.out W hW).1 (HNG.out W hW).2 (by decide) ySmall (by decide) (by decide))
  have HKI : Hid (∀ W, Below W9.heap.size W9 W → Calls Try.prog 12 #[grV na nn nc, .agg #[.int .i64 2, .int .i64 0]] W fun e w' => e = .returned (.int .i64 7) ∧ Below W.heap.size W w') := Lib.hid (fun W hW => kind_any yNs na nn nc 2 0 _ W (HNG.out W hW).1 rfl (by decide))
  rw [show w8.alloc (.cells #[.slice na nn nc] 29) = W9 from hW9]
  clear hb9 x9 hs9 hrc hW9 HN8 HR8 HGR
  have HC1 : Hid (∀ q : Later W9.heap.size W9, Calls Try.prog 10 #[grV na nn nc, .agg #[.int .i64 0, .int .i64 0]] q.1 fun e w' => e = .returned (.tuple #[.int .i64 1, .bool true]) ∧ Below q.1.heap.size q.1 w') := Lib.hid (fun q => HP0.out q.1 q.2)
  have g0 := fun q : Later W9.heap.size W9 => (HS.out q.1 q.2).1
  have g1 := fun q : Later W9.heap.size W9 => (HS.out q.1 q.2).2.1
  have g2 := fun q : Later W9.heap.size W9 => (HS.out q.1 q.2).2.2.1
  refine wp_region_later W9.heap.size W9 (by kernel_rfl) (by kernel_rfl) (Below.refl _ _) ?_
  repeat (go_big_quiet_step (first | (go_at_call 10; with_reducible exact later_call _ (Nat.le_refl _) (HC1.out _))))
  refine wpQuiet_nil ?_
  rintro wa ⟨⟨_, hwa⟩, rfl⟩
  have HWA := Lib.hid hwa
  clear g0 g1 g2 HC1 HP0 hwa
  go_wp2_with fail
  have HAFA : Hid (∀ W B, Below wa.heap.size wa W → IntSl W (some ⟨B, 0, none⟩) 2 [1, 1] → Calls Try.prog 8 #[grV na nn nc, .agg #[.int .i64 0, .int .i64 0], .slice (some ⟨B, 0, none⟩) 2 2] W fun e w' => e = .returned (.tuple #[.agg #[.int .i64 0, .int .i64 4], .bool true]) ∧ Below W.heap.size W w') := Lib.hid (fun W B hW hI => HAF.out W B (below_seq HWA.out hW) hI)
  have HSA : Hid (∀ W, Below wa.heap.size wa W → W.cell? ⟨w8.heap.size, 0, none⟩ = some (.slice na nn nc) ∧ W.cell? ⟨rb, ro, none⟩ = some (.int .i64 0) ∧ W.cell? ⟨rb, ro + 1, none⟩ = some (.int .i64 0)) := Lib.hid (fun W hW => by
    obtain ⟨a, b, c, _⟩ := HS.out W (below_seq HWA.out hW)
    exact ⟨a, b, c⟩)
  refine wp_region_held_drew (S := fun W => W.cell? ⟨w8.heap.size, 0, none⟩ = some (.slice na nn nc) ∧ W.cell? ⟨rb, ro, none⟩ = some (.int .i64 0) ∧ W.cell? ⟨rb, ro + 1, none⟩ = some (.int .i64 0)) (by kernel_rfl) (HSA.out wa (Below.refl _ _)) (fun hHeld => ?_)
  refine wpAnyH_take_l 0 (v := ?va0) rfl rfl (by kernel_rfl) (by kernel_rfl) (by kernel_rfl) (fun _ _ _ h => h) ?ha0 (by assumption) ?ra0
  case ha0 => (intro w hSw; (try dsimp only at hSw); go_simp; try rfl)
  case' ra0 => simp only [setD, List.set_cons_succ, List.set_cons_zero]
  refine wpAnyH_take_l 1 (v := ?va1) rfl rfl (by kernel_rfl) (by kernel_rfl) (by kernel_rfl) (fun _ _ _ h => h) ?ha1 (by assumption) ?ra1
  case ha1 => (intro w hSw; (try dsimp only at hSw); go_simp; try rfl)
  case' ra1 => simp only [setD, List.set_cons_succ, List.set_cons_zero]
  refine wpAnyH_take_l 2 (v := ?va2) rfl rfl (by kernel_rfl) (by kernel_rfl) (by kernel_rfl) (fun _ _ _ h => h) ?ha2 (by assumption) ?ra2
  case ha2 => (intro w hSw; (try dsimp only at hSw); go_simp; try rfl)
  case' ra2 => simp only [setD, List.set_cons_succ, List.set_cons_zero]
  refine wpAnyH_take_l 3 (v := ?va3) rfl rfl (by kernel_rfl) (by kernel_rfl) (by kernel_rfl) (fun _ _ _ h => h) ?ha3 (by assumption) ?ra3
  case ha3 => (intro w hSw; (try dsimp only at hSw); go_simp; try rfl)
  case' ra3 => simp only [setD, List.set_cons_succ, List.set_cons_zero]
  refine wpAnyH_start [4, 5, 6, 7, 8, 9, 10, 11] (CB2 wa (.int .i64 0) (.int .i64 4) (.bool true) [1, 1] 4 5 6 7 8 9 10 11) (by kernel_rfl) (by kernel_rfl) (fun L vals W hR => HSA.out _ hR.out) ?starta ?stepsa ?stopa
  case starta => exact ⟨fun h => (Bool.false_ne_true h).elim, (Below.refl _ _).drew, fun h => (Bool.false_ne_true h).elim, fun h => (Bool.false_ne_true h).elim, fun h => (Bool.false_ne_true h).elim, fun h => (Bool.false_ne_true h).elim, fun h => (Bool.false_ne_true h).elim, fun h => (Bool.false_ne_true h).elim, fun h => (Bool.false_ne_true h).elim, fun h => (Bool.false_ne_true h).elim, fun h => (Bool.false_ne_true h).elim, fun h => (Bool.false_ne_true h).elim⟩
  case stepsa =>
    refine List.forall_mem_cons.2 ⟨?_, List.forall_mem_cons.2 ⟨?_, List.forall_mem_cons.2 ⟨?_, List.forall_mem_cons.2 ⟨?_, List.forall_mem_cons.2 ⟨?_, List.forall_mem_cons.2 ⟨?_, List.forall_mem_cons.2 ⟨?_, List.forall_mem_cons.2 ⟨?_, fun _ h => by cases h⟩⟩⟩⟩⟩⟩⟩⟩
    · refine InvStep.list (k := 4) rfl rfl [] (by kernel_rfl) [(4, some 48), (5, some 49), (6, some 43), (7, some 50), (8, some 51), (9, some 7), (10, none), (11, some 8)] (by kernel_rfl) (by decide) (fun L vals olds wx hLk hdeps hR K hK => ?_)
      have hK2 := hK.out
      clear hK
      simp only [fillL, setD, List.set_cons_succ, List.set_cons_zero] at hK2 ⊢
      clear hdeps
      go_simp
      obtain ⟨rD, rO, rc, rm, rx, rb', ra', rs', rz, r2, r3, rp⟩ := hR
      refine hK2 _ _ ⟨rD, rO.alloc rO.size _, rc, rm, rx, rb', fun h h' => ?_, fun h => ?_, rz, r2, r3, fun _ _ => ⟨_, rfl, intSl_new wx _⟩⟩
      · obtain ⟨X, e1, e2, e3⟩ := ra' h h'; exact ⟨X, e1, e2, (Below.heap_alloc _ _ _ (Array.getElem?_eq_some_iff.1 e3).1).trans e3⟩
      · obtain ⟨X, e1, e2, e3⟩ := rs' h; exact ⟨X, e1, e2, (Below.heap_alloc _ _ _ (Array.getElem?_eq_some_iff.1 e3).1).trans e3⟩
    · refine InvStep.list (k := 5) rfl rfl [4] (by kernel_rfl) [(4, some 48), (5, some 49), (6, some 43), (7, some 50), (8, some 51), (9, some 7), (10, none), (11, some 8)] (by kernel_rfl) (by decide) (fun L vals olds wx hLk hdeps hR K hK => ?_)
      have hK2 := hK.out
      clear hK
      simp only [fillL, setD, List.set_cons_succ, List.set_cons_zero] at hK2 ⊢
      simp only [List.all_cons, List.all_nil, Bool.and_true] at hdeps
      obtain ⟨B, eB, hB⟩ := hR.vp hdeps hLk
      have es := (slotO_done (vals := vals) (olds := olds) hdeps).trans eB
      simp only [es] at hK2 ⊢
      clear es
      have HI := Lib.hid hB
      go_simp
      refine (HAFA.out _ B hR.out HI.out).mono ?_
      rintro en w9 ⟨rfl, hb9⟩
      dsimp only
      obtain ⟨rD, rO, rc, rm, rx, rb', ra', rs', rz, r2, r3, rp⟩ := hR
      refine hK2 _ _ ⟨rD, below_seq rO hb9, fun _ => rfl, rm, rx, rb', fun h h' => ?_, fun h => ?_, rz, fun _ => rfl, fun _ => rfl, fun _ h => (Bool.false_ne_true h.symm).elim⟩
      · obtain ⟨X, e1, e2, e3⟩ := ra' h h'; exact ⟨X, e1, e2, (hb9.block X (Array.getElem?_eq_some_iff.1 e3).1).trans e3⟩
      · obtain ⟨X, e1, e2, e3⟩ := rs' h; exact ⟨X, e1, e2, (hb9.block X (Array.getElem?_eq_some_iff.1 e3).1).trans e3⟩
    · refine InvStep.list (k := 6) rfl rfl [5] (by kernel_rfl) [(4, some 48), (5, some 49), (6, some 43), (7, some 50), (8, some 51), (9, some 7), (10, none), (11, some 8)] (by kernel_rfl) (by decide) (fun L vals olds wx hLk hdeps hR K hK => ?_)
      have hK2 := hK.out
      clear hK
      simp only [fillL, setD, List.set_cons_succ, List.set_cons_zero] at hK2 ⊢
      simp only [List.all_cons, List.all_nil, Bool.and_true] at hdeps
      have es := (slotO_done (vals := vals) (olds := olds) hdeps).trans (hR.vc hdeps)
      simp only [es] at hK2 ⊢
      clear es
      go_simp
      obtain ⟨rD, rO, rc, rm, rx, rb', ra', rs', rz, r2, r3, rp⟩ := hR
      exact hK2 _ _ ⟨rD, rO, rc, fun _ => rfl, rx, rb', ra', rs', rz, r2, fun _ => hdeps, rp⟩
    · refine InvStep.list (k := 7) rfl rfl [6] (by kernel_rfl) [(4, some 48), (5, some 49), (6, some 43), (7, some 50), (8, some 51), (9, some 7), (10, none), (11, some 8)] (by kernel_rfl) (by decide) (fun L vals olds wx hLk hdeps hR K hK => ?_)
      have hK2 := hK.out
      clear hK
      simp only [fillL, setD, List.set_cons_succ, List.set_cons_zero] at hK2 ⊢
      simp only [List.all_cons, List.all_nil, Bool.and_true] at hdeps
      have es := (slotO_done (vals := vals) (olds := olds) hdeps).trans (hR.vm hdeps)
      simp only [es] at hK2 ⊢
      clear es
      go_simp
      obtain ⟨rD, rO, rc, rm, rx, rb', ra', rs', rz, r2, r3, rp⟩ := hR
      exact hK2 _ _ ⟨fun h => ⟨rfl, (rD h).2⟩, rO, rc, rm, fun _ => rfl, rb', ra', rs', rz, fun _ => r3 hdeps, r3, rp⟩
    · refine InvStep.list (k := 8) rfl rfl [6] (by kernel_rfl) [(4, some 48), (5, some 49), (6, some 43), (7, some 50), (8, some 51), (9, some 7), (10, none), (11, some 8)] (by kernel_rfl) (by decide) (fun L vals olds wx hLk hdeps hR K hK => ?_)
      have hK2 := hK.out
      clear hK
      simp only [fillL, setD, List.set_cons_succ, List.set_cons_zero] at hK2 ⊢
      simp only [List.all_cons, List.all_nil, Bool.and_true] at hdeps
      have es := (slotO_done (vals := vals) (olds := olds) hdeps).trans (hR.vm hdeps)
      simp only [es] at hK2 ⊢
      clear es
      go_simp
      obtain ⟨rD, rO, rc, rm, rx, rb', ra', rs', rz, r2, r3, rp⟩ := hR
      exact hK2 _ _ ⟨rD, rO, rc, rm, rx, fun _ => rfl, ra', rs', rz, r2, r3, rp⟩
    · refine InvStep.list (k := 9) rfl rfl [] (by kernel_rfl) [(4, some 48), (5, some 49), (6, some 43), (7, some 50), (8, some 51), (9, some 7), (10, none), (11, some 8)] (by kernel_rfl) (by decide) (fun L vals olds wx hLk hdeps hR K hK => ?_)
      have hK2 := hK.out
      clear hK
      simp only [fillL, setD, List.set_cons_succ, List.set_cons_zero] at hK2 ⊢
      clear hdeps
      have f10 : L 10 = false := by
        cases e : L 10 with
        | false => rfl
        | true => rw [(hR.dn e).2] at hLk; cases hLk
      go_simp
      obtain ⟨rD, rO, rc, rm, rx, rb', ra', rs', rz, r2, r3, rp⟩ := hR
      exact hK2 _ _ ⟨fun h => absurd (f10.symm.trans h) (by decide), rO.alloc rO.size _, rc, rm, rx, rb', fun _ _ => ⟨_, rfl, rO.size, World.alloc_heap_new _ _⟩, fun h => absurd (f10.symm.trans h) (by decide), rz, r2, r3, fun h h' => by obtain ⟨B, e, hi⟩ := rp h h'; exact ⟨B, e, hi.to (blkBelow wx _ _)⟩⟩
    · refine InvStep.list (k := 10) rfl rfl [7, 9] (by kernel_rfl) [(4, some 48), (5, some 49), (6, some 43), (7, some 50), (8, some 51), (9, some 7), (10, none), (11, some 8)] (by kernel_rfl) (by decide) (fun L vals olds wx hLk hdeps hR K hK => ?_)
      have hK2 := hK.out
      clear hK
      simp only [fillL, setD, List.set_cons_succ, List.set_cons_zero] at hK2 ⊢
      simp only [List.all_cons, List.all_nil, Bool.and_true, Bool.and_eq_true] at hdeps
      obtain ⟨X, eX, hX1, hX2⟩ := hR.va hdeps.2 hLk
      have es := (slotO_done (vals := vals) (olds := olds) hdeps.1).trans (hR.vx hdeps.1)
      have es2 := (slotO_done (vals := vals) (olds := olds) hdeps.2).trans eX
      simp only [es, es2] at hK2 ⊢
      clear es es2
      have z0 := (refO_cells hX2).1
      have z1 := (refO_cells hX2).2.1
      have z2 := (refO_cells hX2).2.2.1
      have z3 := (refO_cells hX2).2.2.2
      have EX := Lib.hid eX
      clear eX
      go_simp
      clear z0 z1 z2 z3
      obtain ⟨rD, rO, rc, rm, rx, rb', ra', rs', rz, r2, r3, rp⟩ := hR
      refine hK2 undef _ ⟨fun _ => hdeps, (rO.setCell (p := ⟨X, 0, none⟩) hX1 _).setCell (p := ⟨X, 1, none⟩) hX1 _, rc, rm, rx, rb', fun _ h => (Bool.false_ne_true h.symm).elim, fun _ => ⟨X, EX.out, hX1, refO_fill hX2 _ _⟩, rz, r2, r3, fun _ h' => absurd ((r2 hdeps.1).symm.trans h') (by decide)⟩
    · refine InvStep.list (k := 11) rfl rfl [8] (by kernel_rfl) [(4, some 48), (5, some 49), (6, some 43), (7, some 50), (8, some 51), (9, some 7), (10, none), (11, some 8)] (by kernel_rfl) (by decide) (fun L vals olds wx hLk hdeps hR K hK => ?_)
      have hK2 := hK.out
      clear hK
      simp only [fillL, setD, List.set_cons_succ, List.set_cons_zero] at hK2 ⊢
      simp only [List.all_cons, List.all_nil, Bool.and_true] at hdeps
      have es := (slotO_done (vals := vals) (olds := olds) hdeps).trans (hR.vb hdeps)
      simp only [es] at hK2 ⊢
      clear es
      go_simp
      obtain ⟨rD, rO, rc, rm, rx, rb', ra', rs', rz, r2, r3, rp⟩ := hR
      exact hK2 _ _ ⟨rD, rO, rc, rm, rx, rb', ra', rs', fun _ => rfl, r2, r3, rp⟩
  case stopa =>
    refine end_plain [(4, some 48), (5, some 49), (6, some 43), (7, some 50), (8, some 51), (9, some 7), (10, none), (11, some 8)] (by kernel_rfl) (by decide) (fun L vals olds WB hall hR => ?_)
    simp only [List.all_cons, List.all_nil, Bool.and_true, Bool.and_eq_true] at hall
    obtain ⟨q4, q5, q6, q7, q8, q9, q10, q11⟩ := hall
    obtain ⟨X, eX, hX1, hX2⟩ := hR.vs q10
    have eZ := hR.vz q11
    have HWB := Lib.hid hR.out
    have HXB := Lib.hid hX2
    simp only [fillL, List.set_cons_succ, List.set_cons_zero, slotO_done q9, slotO_done q11, eX, eZ]
    clear hR q4 q5 q6 q7 q8 q9 q10 q11 hX1 hX2 eX eZ hHeld
    have HVB : Hid (Below W9.heap.size W9 WB) := Lib.hid (below_seq HWA.out HWB.out)
    have hXB : X < WB.heap.size := (Array.getElem?_eq_some_iff.1 HXB.out).1
    have HXC : Hid (∀ W, Below WB.heap.size WB W → W.cell? ⟨X, 0, none⟩ = some (.int .i64 0) ∧ W.cell? ⟨X, 1, none⟩ = some (.int .i64 4)) := Lib.hid (fun W hW => by
      have a := refO_cells ((hW.block X hXB).trans HXB.out)
      exact ⟨a.1, a.2.1⟩)
    have g0 := (HS.out WB HVB.out).1
    obtain ⟨x0, x1⟩ := HXC.out WB (Below.refl _ _)
    go_upto_region 7 with (go_at_call 10; go_loud (refine (HP4.out _ HVB.out).mono ?_; rintro en wC ⟨rfl, hbC⟩; have HWC := Lib.hid hbC; clear hbC))
    clear g0 x0 x1
    have HVC : Hid (Below W9.heap.size W9 wC) := Lib.hid (below_seq HVB.out HWC.out)
    have HLAC : Hid (∀ W, Below wC.heap.size wC W → Calls Try.prog 11 #[grV na nn nc, .agg #[.int .i64 2, .int .i64 0], .string ⟨#[97]⟩] W fun e w' => e = .returned (.tuple #[.agg #[.int .i64 4, .int .i64 0], .bool true]) ∧ Below W.heap.size W w') := Lib.hid (fun W hW => HLA.out W (below_seq HVC.out hW))
    have HSC : Hid (∀ W, Below wC.heap.size wC W → W.cell? ⟨w8.heap.size, 0, none⟩ = some (.slice na nn nc) ∧ W.cell? ⟨rb, ro + 2, none⟩ = some (.int .i64 2) ∧ W.cell? ⟨rb, ro + 3, none⟩ = some (.int .i64 0)) := Lib.hid (fun W hW => by
      obtain ⟨a, _, _, b, c⟩ := HS.out W (below_seq HVC.out hW)
      exact ⟨a, b, c⟩)
    refine wp_region_held_drew (S := fun W => W.cell? ⟨w8.heap.size, 0, none⟩ = some (.slice na nn nc) ∧ W.cell? ⟨rb, ro + 2, none⟩ = some (.int .i64 2) ∧ W.cell? ⟨rb, ro + 3, none⟩ = some (.int .i64 0)) (by kernel_rfl) (HSC.out wC (Below.refl _ _)) (fun hHeld => ?_)
    refine wpAnyH_take_l 0 (v := ?vb0) rfl rfl (by kernel_rfl) (by kernel_rfl) (by kernel_rfl) (fun _ _ _ h => h) ?hb0 (by assumption) ?rb0
    case hb0 => (intro w hSw; (try dsimp only at hSw); go_simp; try rfl)
    case' rb0 => simp only [setD, List.set_cons_succ, List.set_cons_zero]
    refine wpAnyH_take_l 1 (v := ?vb1) rfl rfl (by kernel_rfl) (by kernel_rfl) (by kernel_rfl) (fun _ _ _ h => h) ?hb1 (by assumption) ?rb1
    case hb1 => (intro w hSw; (try dsimp only at hSw); go_simp; try rfl)
    case' rb1 => simp only [setD, List.set_cons_succ, List.set_cons_zero]
    refine wpAnyH_take_l 2 (v := ?vb2) rfl rfl (by kernel_rfl) (by kernel_rfl) (by kernel_rfl) (fun _ _ _ h => h) ?hb2 (by assumption) ?rb2
    case hb2 => (intro w hSw; (try dsimp only at hSw); go_simp; try rfl)
    case' rb2 => simp only [setD, List.set_cons_succ, List.set_cons_zero]
    refine wpAnyH_take_l 3 (v := ?vb3) rfl rfl (by kernel_rfl) (by kernel_rfl) (by kernel_rfl) (fun _ _ _ h => h) ?hb3 (by assumption) ?rb3
    case hb3 => (intro w hSw; (try dsimp only at hSw); go_simp; try rfl)
    case' rb3 => simp only [setD, List.set_cons_succ, List.set_cons_zero]
    refine wpAnyH_start [4, 5, 6, 7, 8, 9, 10] (CB wC (.int .i64 4) (.int .i64 0) (.bool true) 4 5 6 7 8 9 10) (by kernel_rfl) (by kernel_rfl) (fun L vals W hR => HSC.out _ hR.out) ?startb ?stepsb ?stopb
    case startb => exact ⟨fun h => (Bool.false_ne_true h).elim, (Below.refl _ _).drew, fun h => (Bool.false_ne_true h).elim, fun h => (Bool.false_ne_true h).elim, fun h => (Bool.false_ne_true h).elim, fun h => (Bool.false_ne_true h).elim, fun h => (Bool.false_ne_true h).elim, fun h => (Bool.false_ne_true h).elim, fun h => (Bool.false_ne_true h).elim⟩
    case stepsb =>
      refine List.forall_mem_cons.2 ⟨?_, List.forall_mem_cons.2 ⟨?_, List.forall_mem_cons.2 ⟨?_, List.forall_mem_cons.2 ⟨?_, List.forall_mem_cons.2 ⟨?_, List.forall_mem_cons.2 ⟨?_, List.forall_mem_cons.2 ⟨?_, fun _ h => by cases h⟩⟩⟩⟩⟩⟩⟩
      · refine InvStep.list (k := 4) rfl rfl [] (by kernel_rfl) [(4, some 63), (5, some 58), (6, some 64), (7, some 65), (8, some 11), (9, none), (10, some 12)] (by kernel_rfl) (by decide) (fun L vals olds wx hLk hdeps hR K hK => ?_)
        have hK2 := hK.out
        clear hK
        simp only [fillL, setD, List.set_cons_succ, List.set_cons_zero] at hK2 ⊢
        clear hdeps
        go_simp
        refine (HLAC.out _ hR.out).mono ?_
        rintro en w9 ⟨rfl, hb9⟩
        dsimp only
        obtain ⟨rD, rO, rc, rm, rx, rb', ra', rs', rz⟩ := hR
        refine hK2 _ _ ⟨rD, below_seq rO hb9, fun _ => rfl, rm, rx, rb', fun h h' => ?_, fun h => ?_, rz⟩
        · obtain ⟨X, e1, e2, e3⟩ := ra' h h'; exact ⟨X, e1, e2, (hb9.block X (Array.getElem?_eq_some_iff.1 e3).1).trans e3⟩
        · obtain ⟨X, e1, e2, e3⟩ := rs' h; exact ⟨X, e1, e2, (hb9.block X (Array.getElem?_eq_some_iff.1 e3).1).trans e3⟩
      · refine InvStep.list (k := 5) rfl rfl [4] (by kernel_rfl) [(4, some 63), (5, some 58), (6, some 64), (7, some 65), (8, some 11), (9, none), (10, some 12)] (by kernel_rfl) (by decide) (fun L vals olds wx hLk hdeps hR K hK => ?_)
        have hK2 := hK.out
        clear hK
        simp only [fillL, setD, List.set_cons_succ, List.set_cons_zero] at hK2 ⊢
        simp only [List.all_cons, List.all_nil, Bool.and_true] at hdeps
        have es := (slotO_done (vals := vals) (olds := olds) hdeps).trans (hR.vc hdeps)
        simp only [es] at hK2 ⊢
        clear es
        go_simp
        obtain ⟨rD, rO, rc, rm, rx, rb', ra', rs', rz⟩ := hR
        exact hK2 _ _ ⟨rD, rO, rc, fun _ => rfl, rx, rb', ra', rs', rz⟩
      · refine InvStep.list (k := 6) rfl rfl [5] (by kernel_rfl) [(4, some 63), (5, some 58), (6, some 64), (7, some 65), (8, some 11), (9, none), (10, some 12)] (by kernel_rfl) (by decide) (fun L vals olds wx hLk hdeps hR K hK => ?_)
        have hK2 := hK.out
        clear hK
        simp only [fillL, setD, List.set_cons_succ, List.set_cons_zero] at hK2 ⊢
        simp only [List.all_cons, List.all_nil, Bool.and_true] at hdeps
        have es := (slotO_done (vals := vals) (olds := olds) hdeps).trans (hR.vm hdeps)
        simp only [es] at hK2 ⊢
        clear es
        go_simp
        obtain ⟨rD, rO, rc, rm, rx, rb', ra', rs', rz⟩ := hR
        exact hK2 _ _ ⟨fun h => ⟨rfl, (rD h).2⟩, rO, rc, rm, fun _ => rfl, rb', ra', rs', rz⟩
      · refine InvStep.list (k := 7) rfl rfl [5] (by kernel_rfl) [(4, some 63), (5, some 58), (6, some 64), (7, some 65), (8, some 11), (9, none), (10, some 12)] (by kernel_rfl) (by decide) (fun L vals olds wx hLk hdeps hR K hK => ?_)
        have hK2 := hK.out
        clear hK
        simp only [fillL, setD, List.set_cons_succ, List.set_cons_zero] at hK2 ⊢
        simp only [List.all_cons, List.all_nil, Bool.and_true] at hdeps
        have es := (slotO_done (vals := vals) (olds := olds) hdeps).trans (hR.vm hdeps)
        simp only [es] at hK2 ⊢
        clear es
        go_simp
        obtain ⟨rD, rO, rc, rm, rx, rb', ra', rs', rz⟩ := hR
        exact hK2 _ _ ⟨rD, rO, rc, rm, rx, fun _ => rfl, ra', rs', rz⟩
      · refine InvStep.list (k := 8) rfl rfl [] (by kernel_rfl) [(4, some 63), (5, some 58), (6, some 64), (7, some 65), (8, some 11), (9, none), (10, some 12)] (by kernel_rfl) (by decide) (fun L vals olds wx hLk hdeps hR K hK => ?_)
        have hK2 := hK.out
        clear hK
        simp only [fillL, setD, List.set_cons_succ, List.set_cons_zero] at hK2 ⊢
        clear hdeps
        have f10 : L 9 = false := by
          cases e : L 9 with
          | false => rfl
          | true => rw [(hR.dn e).2] at hLk; cases hLk
        go_simp
        obtain ⟨rD, rO, rc, rm, rx, rb', ra', rs', rz⟩ := hR
        exact hK2 _ _ ⟨fun h => absurd (f10.symm.trans h) (by decide), rO.alloc rO.size _, rc, rm, rx, rb', fun _ _ => ⟨_, rfl, rO.size, World.alloc_heap_new _ _⟩, fun h => absurd (f10.symm.trans h) (by decide), rz⟩
      · refine InvStep.list (k := 9) rfl rfl [6, 8] (by kernel_rfl) [(4, some 63), (5, some 58), (6, some 64), (7, some 65), (8, some 11), (9, none), (10, some 12)] (by kernel_rfl) (by decide) (fun L vals olds wx hLk hdeps hR K hK => ?_)
        have hK2 := hK.out
        clear hK
        simp only [fillL, setD, List.set_cons_succ, List.set_cons_zero] at hK2 ⊢
        simp only [List.all_cons, List.all_nil, Bool.and_true, Bool.and_eq_true] at hdeps
        obtain ⟨X, eX, hX1, hX2⟩ := hR.va hdeps.2 hLk
        have es := (slotO_done (vals := vals) (olds := olds) hdeps.1).trans (hR.vx hdeps.1)
        have es2 := (slotO_done (vals := vals) (olds := olds) hdeps.2).trans eX
        simp only [es, es2] at hK2 ⊢
        clear es es2
        have z0 := (refO_cells hX2).1
        have z1 := (refO_cells hX2).2.1
        have z2 := (refO_cells hX2).2.2.1
        have z3 := (refO_cells hX2).2.2.2
        have EX := Lib.hid eX
        clear eX
        go_simp
        clear z0 z1 z2 z3
        obtain ⟨rD, rO, rc, rm, rx, rb', ra', rs', rz⟩ := hR
        refine hK2 undef _ ⟨fun _ => hdeps, (rO.setCell (p := ⟨X, 0, none⟩) hX1 _).setCell (p := ⟨X, 1, none⟩) hX1 _, rc, rm, rx, rb', fun _ h => (Bool.false_ne_true h.symm).elim, fun _ => ⟨X, EX.out, hX1, refO_fill hX2 _ _⟩, rz⟩
      · refine InvStep.list (k := 10) rfl rfl [7] (by kernel_rfl) [(4, some 63), (5, some 58), (6, some 64), (7, some 65), (8, some 11), (9, none), (10, some 12)] (by kernel_rfl) (by decide) (fun L vals olds wx hLk hdeps hR K hK => ?_)
        have hK2 := hK.out
        clear hK
        simp only [fillL, setD, List.set_cons_succ, List.set_cons_zero] at hK2 ⊢
        simp only [List.all_cons, List.all_nil, Bool.and_true] at hdeps
        have es := (slotO_done (vals := vals) (olds := olds) hdeps).trans (hR.vb hdeps)
        simp only [es] at hK2 ⊢
        clear es
        go_simp
        obtain ⟨rD, rO, rc, rm, rx, rb', ra', rs', rz⟩ := hR
        exact hK2 _ _ ⟨rD, rO, rc, rm, rx, rb', ra', rs', fun _ => rfl⟩
    case stopb =>
      refine end_plain [(4, some 63), (5, some 58), (6, some 64), (7, some 65), (8, some 11), (9, none), (10, some 12)] (by kernel_rfl) (by decide) (fun L vals olds WD hall hR => ?_)
      simp only [List.all_cons, List.all_nil, Bool.and_true, Bool.and_eq_true] at hall
      obtain ⟨q4, q5, q6, q7, q8, q9, q10⟩ := hall
      obtain ⟨Y, eX, hX1, hX2⟩ := hR.vs q9
      have eZ := hR.vz q10
      have HWD := Lib.hid hR.out
      have HYD := Lib.hid hX2
      simp only [fillL, List.set_cons_succ, List.set_cons_zero, slotO_done q8, slotO_done q10, eX, eZ]
      clear hR q4 q5 q6 q7 q8 q9 q10 hX1 hX2 eX eZ hHeld
      go_wp2_with fail
      have HVD : Hid (Below W9.heap.size W9 WD) := Lib.hid (below_seq HVC.out HWD.out)
      have HLCD : Hid (∀ W, Below WD.heap.size WD W → Calls Try.prog 11 #[grV na nn nc, .agg #[.int .i64 2, .int .i64 0], .string ⟨#[99]⟩] W fun e w' => e = .returned (.tuple #[.agg #[.int .i64 0, .int .i64 0], .bool false]) ∧ Below W.heap.size W w') := Lib.hid (fun W hW => HLC.out W (below_seq HVD.out hW))
      have HSD : Hid (∀ W, Below WD.heap.size WD W → W.cell? ⟨w8.heap.size, 0, none⟩ = some (.slice na nn nc) ∧ W.cell? ⟨rb, ro + 2, none⟩ = some (.int .i64 2) ∧ W.cell? ⟨rb, ro + 3, none⟩ = some (.int .i64 0)) := Lib.hid (fun W hW => by
        obtain ⟨a, _, _, b, c⟩ := HS.out W (below_seq HVD.out hW)
        exact ⟨a, b, c⟩)
      refine wp_region_held_drew (S := fun W => W.cell? ⟨w8.heap.size, 0, none⟩ = some (.slice na nn nc) ∧ W.cell? ⟨rb, ro + 2, none⟩ = some (.int .i64 2) ∧ W.cell? ⟨rb, ro + 3, none⟩ = some (.int .i64 0)) (by kernel_rfl) (HSD.out WD (Below.refl _ _)) (fun hHeld => ?_)
      refine wpAnyH_take_l 0 (v := ?vc0) rfl rfl (by kernel_rfl) (by kernel_rfl) (by kernel_rfl) (fun _ _ _ h => h) ?hc0 (by assumption) ?rc0
      case hc0 => (intro w hSw; (try dsimp only at hSw); go_simp; try rfl)
      case' rc0 => simp only [setD, List.set_cons_succ, List.set_cons_zero]
      refine wpAnyH_take_l 1 (v := ?vc1) rfl rfl (by kernel_rfl) (by kernel_rfl) (by kernel_rfl) (fun _ _ _ h => h) ?hc1 (by assumption) ?rc1
      case hc1 => (intro w hSw; (try dsimp only at hSw); go_simp; try rfl)
      case' rc1 => simp only [setD, List.set_cons_succ, List.set_cons_zero]
      refine wpAnyH_take_l 2 (v := ?vc2) rfl rfl (by kernel_rfl) (by kernel_rfl) (by kernel_rfl) (fun _ _ _ h => h) ?hc2 (by assumption) ?rc2
      case hc2 => (intro w hSw; (try dsimp only at hSw); go_simp; try rfl)
      case' rc2 => simp only [setD, List.set_cons_succ, List.set_cons_zero]
      refine wpAnyH_take_l 3 (v := ?vc3) rfl rfl (by kernel_rfl) (by kernel_rfl) (by kernel_rfl) (fun _ _ _ h => h) ?hc3 (by assumption) ?rc3
      case hc3 => (intro w hSw; (try dsimp only at hSw); go_simp; try rfl)
      case' rc3 => simp only [setD, List.set_cons_succ, List.set_cons_zero]
      refine wpAnyH_start [4, 5, 6, 7, 8, 9, 10] (CB WD (.int .i64 0) (.int .i64 0) (.bool false) 4 5 6 7 8 9 10) (by kernel_rfl) (by kernel_rfl) (fun L vals W hR => HSD.out _ hR.out) ?startc ?stepsc ?stopc
      case startc => exact ⟨fun h => (Bool.false_ne_true h).elim, (Below.refl _ _).drew, fun h => (Bool.false_ne_true h).elim, fun h => (Bool.false_ne_true h).elim, fun h => (Bool.false_ne_true h).elim, fun h => (Bool.false_ne_true h).elim, fun h => (Bool.false_ne_true h).elim, fun h => (Bool.false_ne_true h).elim, fun h => (Bool.false_ne_true h).elim⟩
      case stepsc =>
        refine List.forall_mem_cons.2 ⟨?_, List.forall_mem_cons.2 ⟨?_, List.forall_mem_cons.2 ⟨?_, List.forall_mem_cons.2 ⟨?_, List.forall_mem_cons.2 ⟨?_, List.forall_mem_cons.2 ⟨?_, List.forall_mem_cons.2 ⟨?_, fun _ h => by cases h⟩⟩⟩⟩⟩⟩⟩
        · refine InvStep.list (k := 4) rfl rfl [] (by kernel_rfl) [(4, some 71), (5, some 66), (6, some 72), (7, some 73), (8, some 13), (9, none), (10, some 14)] (by kernel_rfl) (by decide) (fun L vals olds wx hLk hdeps hR K hK => ?_)
          have hK2 := hK.out
          clear hK
          simp only [fillL, setD, List.set_cons_succ, List.set_cons_zero] at hK2 ⊢
          clear hdeps
          go_simp
          refine (HLCD.out _ hR.out).mono ?_
          rintro en w9 ⟨rfl, hb9⟩
          dsimp only
          obtain ⟨rD, rO, rc, rm, rx, rb', ra', rs', rz⟩ := hR
          refine hK2 _ _ ⟨rD, below_seq rO hb9, fun _ => rfl, rm, rx, rb', fun h h' => ?_, fun h => ?_, rz⟩
          · obtain ⟨X, e1, e2, e3⟩ := ra' h h'; exact ⟨X, e1, e2, (hb9.block X (Array.getElem?_eq_some_iff.1 e3).1).trans e3⟩
          · obtain ⟨X, e1, e2, e3⟩ := rs' h; exact ⟨X, e1, e2, (hb9.block X (Array.getElem?_eq_some_iff.1 e3).1).trans e3⟩
        · refine InvStep.list (k := 5) rfl rfl [4] (by kernel_rfl) [(4, some 71), (5, some 66), (6, some 72), (7, some 73), (8, some 13), (9, none), (10, some 14)] (by kernel_rfl) (by decide) (fun L vals olds wx hLk hdeps hR K hK => ?_)
          have hK2 := hK.out
          clear hK
          simp only [fillL, setD, List.set_cons_succ, List.set_cons_zero] at hK2 ⊢
          simp only [List.all_cons, List.all_nil, Bool.and_true] at hdeps
          have es := (slotO_done (vals := vals) (olds := olds) hdeps).trans (hR.vc hdeps)
          simp only [es] at hK2 ⊢
          clear es
          go_simp
          obtain ⟨rD, rO, rc, rm, rx, rb', ra', rs', rz⟩ := hR
          exact hK2 _ _ ⟨rD, rO, rc, fun _ => rfl, rx, rb', ra', rs', rz⟩
        · refine InvStep.list (k := 6) rfl rfl [5] (by kernel_rfl) [(4, some 71), (5, some 66), (6, some 72), (7, some 73), (8, some 13), (9, none), (10, some 14)] (by kernel_rfl) (by decide) (fun L vals olds wx hLk hdeps hR K hK => ?_)
          have hK2 := hK.out
          clear hK
          simp only [fillL, setD, List.set_cons_succ, List.set_cons_zero] at hK2 ⊢
          simp only [List.all_cons, List.all_nil, Bool.and_true] at hdeps
          have es := (slotO_done (vals := vals) (olds := olds) hdeps).trans (hR.vm hdeps)
          simp only [es] at hK2 ⊢
          clear es
          go_simp
          obtain ⟨rD, rO, rc, rm, rx, rb', ra', rs', rz⟩ := hR
          exact hK2 _ _ ⟨fun h => ⟨rfl, (rD h).2⟩, rO, rc, rm, fun _ => rfl, rb', ra', rs', rz⟩
        · refine InvStep.list (k := 7) rfl rfl [5] (by kernel_rfl) [(4, some 71), (5, some 66), (6, some 72), (7, some 73), (8, some 13), (9, none), (10, some 14)] (by kernel_rfl) (by decide) (fun L vals olds wx hLk hdeps hR K hK => ?_)
          have hK2 := hK.out
          clear hK
          simp only [fillL, setD, List.set_cons_succ, List.set_cons_zero] at hK2 ⊢
          simp only [List.all_cons, List.all_nil, Bool.and_true] at hdeps
          have es := (slotO_done (vals := vals) (olds := olds) hdeps).trans (hR.vm hdeps)
          simp only [es] at hK2 ⊢
          clear es
          go_simp
          obtain ⟨rD, rO, rc, rm, rx, rb', ra', rs', rz⟩ := hR
          exact hK2 _ _ ⟨rD, rO, rc, rm, rx, fun _ => rfl, ra', rs', rz⟩
        · refine InvStep.list (k := 8) rfl rfl [] (by kernel_rfl) [(4, some 71), (5, some 66), (6, some 72), (7, some 73), (8, some 13), (9, none), (10, some 14)] (by kernel_rfl) (by decide) (fun L vals olds wx hLk hdeps hR K hK => ?_)
          have hK2 := hK.out
          clear hK
          simp only [fillL, setD, List.set_cons_succ, List.set_cons_zero] at hK2 ⊢
          clear hdeps
          have f10 : L 9 = false := by
            cases e : L 9 with
            | false => rfl
            | true => rw [(hR.dn e).2] at hLk; cases hLk
          go_simp
          obtain ⟨rD, rO, rc, rm, rx, rb', ra', rs', rz⟩ := hR
          exact hK2 _ _ ⟨fun h => absurd (f10.symm.trans h) (by decide), rO.alloc rO.size _, rc, rm, rx, rb', fun _ _ => ⟨_, rfl, rO.size, World.alloc_heap_new _ _⟩, fun h => absurd (f10.symm.trans h) (by decide), rz⟩
        · refine InvStep.list (k := 9) rfl rfl [6, 8] (by kernel_rfl) [(4, some 71), (5, some 66), (6, some 72), (7, some 73), (8, some 13), (9, none), (10, some 14)] (by kernel_rfl) (by decide) (fun L vals olds wx hLk hdeps hR K hK => ?_)
          have hK2 := hK.out
          clear hK
          simp only [fillL, setD, List.set_cons_succ, List.set_cons_zero] at hK2 ⊢
          simp only [List.all_cons, List.all_nil, Bool.and_true, Bool.and_eq_true] at hdeps
          obtain ⟨X, eX, hX1, hX2⟩ := hR.va hdeps.2 hLk
          have es := (slotO_done (vals := vals) (olds := olds) hdeps.1).trans (hR.vx hdeps.1)
          have es2 := (slotO_done (vals := vals) (olds := olds) hdeps.2).trans eX
          simp only [es, es2] at hK2 ⊢
          clear es es2
          have z0 := (refO_cells hX2).1
          have z1 := (refO_cells hX2).2.1
          have z2 := (refO_cells hX2).2.2.1
          have z3 := (refO_cells hX2).2.2.2
          have EX := Lib.hid eX
          clear eX
          go_simp
          clear z0 z1 z2 z3
          obtain ⟨rD, rO, rc, rm, rx, rb', ra', rs', rz⟩ := hR
          refine hK2 undef _ ⟨fun _ => hdeps, (rO.setCell (p := ⟨X, 0, none⟩) hX1 _).setCell (p := ⟨X, 1, none⟩) hX1 _, rc, rm, rx, rb', fun _ h => (Bool.false_ne_true h.symm).elim, fun _ => ⟨X, EX.out, hX1, refO_fill hX2 _ _⟩, rz⟩
        · refine InvStep.list (k := 10) rfl rfl [7] (by kernel_rfl) [(4, some 71), (5, some 66), (6, some 72), (7, some 73), (8, some 13), (9, none), (10, some 14)] (by kernel_rfl) (by decide) (fun L vals olds wx hLk hdeps hR K hK => ?_)
          have hK2 := hK.out
          clear hK
          simp only [fillL, setD, List.set_cons_succ, List.set_cons_zero] at hK2 ⊢
          simp only [List.all_cons, List.all_nil, Bool.and_true] at hdeps
          have es := (slotO_done (vals := vals) (olds := olds) hdeps).trans (hR.vb hdeps)
          simp only [es] at hK2 ⊢
          clear es
          go_simp
          obtain ⟨rD, rO, rc, rm, rx, rb', ra', rs', rz⟩ := hR
          exact hK2 _ _ ⟨rD, rO, rc, rm, rx, rb', ra', rs', fun _ => rfl⟩
      case stopc =>
        refine end_plain [(4, some 71), (5, some 66), (6, some 72), (7, some 73), (8, some 13), (9, none), (10, some 14)] (by kernel_rfl) (by decide) (fun L vals olds WE hall hR => ?_)
        simp only [List.all_cons, List.all_nil, Bool.and_true, Bool.and_eq_true] at hall
        obtain ⟨q4, q5, q6, q7, q8, q9, q10⟩ := hall
        obtain ⟨Z, eX, hX1, hX2⟩ := hR.vs q9
        have eZ := hR.vz q10
        have HWE := Lib.hid hR.out
        have HZE := Lib.hid hX2
        simp only [fillL, List.set_cons_succ, List.set_cons_zero, slotO_done q8, slotO_done q10, eX, eZ]
        clear hR q4 q5 q6 q7 q8 q9 q10 hX1 hX2 eX eZ hHeld
        have HVE : Hid (Below W9.heap.size W9 WE) := Lib.hid (below_seq HVD.out HWE.out)
        have g0 := (HS.out WE HVE.out).1
        go_upto_region 10 with (go_at_call 9; go_loud (refine (HLW.out _ HVE.out).mono ?_; rintro en wF ⟨rfl, hbF⟩; have HWF := Lib.hid hbF; clear hbF))
        clear g0
        have HVF : Hid (Below W9.heap.size W9 wF) := Lib.hid (below_seq HVE.out HWF.out)
        have HBF : Hid (Below WB.heap.size WB wF) := Lib.hid (below_seq HWC.out (below_seq HWD.out (below_seq HWE.out HWF.out)))
        have HDF : Hid (Below WD.heap.size WD wF) := Lib.hid (below_seq HWE.out HWF.out)
        have hYD : Y < WD.heap.size := (Array.getElem?_eq_some_iff.1 HYD.out).1
        have HSF : Hid (∀ W, Below wF.heap.size wF W → W.cell? ⟨w8.heap.size, 0, none⟩ = some (.slice na nn nc) ∧ W.cell? ⟨rb, ro + 2, none⟩ = some (.int .i64 2) ∧ W.cell? ⟨rb, ro + 3, none⟩ = some (.int .i64 0) ∧ W.cell? ⟨X, 0, none⟩ = some (.int .i64 0) ∧ W.cell? ⟨X, 1, none⟩ = some (.int .i64 4) ∧ W.cell? ⟨Y, 0, none⟩ = some (.int .i64 4)) := Lib.hid (fun W hW => by
          obtain ⟨a, _, _, b, c⟩ := HS.out W (below_seq HVF.out hW)
          obtain ⟨d, e⟩ := HXC.out W (below_seq HBF.out hW)
          exact ⟨a, b, c, d, e, (refO_cells (((below_seq HDF.out hW).block Y hYD).trans HYD.out)).1⟩)
        have HKIF : Hid (∀ W, Below wF.heap.size wF W → Calls Try.prog 12 #[grV na nn nc, .agg #[.int .i64 2, .int .i64 0]] W fun e w' => e = .returned (.int .i64 7) ∧ Below W.heap.size W w') := Lib.hid (fun W hW => HKI.out W (below_seq HVF.out hW))
        have HLBF : Hid (∀ W, Below wF.heap.size wF W → Calls Try.prog 14 #[grV na nn nc, .agg #[.int .i64 2, .int .i64 0]] W fun e w' => ∃ sa sc, e = .returned (.slice sa 2 sc) ∧ StrSl (fun k => k < w'.heap.size) w' (.slice sa 2 sc) [⟨#[97]⟩, ⟨#[98]⟩] ∧ Below W.heap.size W w') := Lib.hid (fun W hW => HLAB.out na nn nc W (HNG.out W (below_seq HVF.out hW)).1)
        have HRAF : Hid (∀ W, Calls Try.prog 7 #[.agg #[.int .i64 0, .int .i64 4], .int .i64 (-1)] W fun e w' => e = .returned (.agg #[.int .i64 0, .int .i64 3]) ∧ Below W.heap.size W w') := Lib.hid (fun W => hraise_any 0 4 (-1) W (by decide))
        have HEND : Hid (∀ W, Below wF.heap.size wF W → Below w.heap.size w W) := Lib.hid (fun W hW => below_seq HB9.out (below_seq HVF.out hW))
        clear HS HXC HKI HLAB HLA HLC HLW HP4 HAF HNG HLAC HLCD HAFA HSA HSC HSD
        refine wp_region_held_drew (S := fun W => W.cell? ⟨w8.heap.size, 0, none⟩ = some (.slice na nn nc) ∧ W.cell? ⟨rb, ro + 2, none⟩ = some (.int .i64 2) ∧ W.cell? ⟨rb, ro + 3, none⟩ = some (.int .i64 0) ∧ W.cell? ⟨X, 0, none⟩ = some (.int .i64 0) ∧ W.cell? ⟨X, 1, none⟩ = some (.int .i64 4) ∧ W.cell? ⟨Y, 0, none⟩ = some (.int .i64 4)) (by kernel_rfl) (HSF.out wF (Below.refl _ _)) (fun hHeldF => ?_)
        refine wpAnyH_take_h 0 (v := ?vd0) rfl rfl (by kernel_rfl) (by kernel_rfl) (by kernel_rfl) (fun _ _ _ h => h) ?hd0 (by assumption) ?rd0
        case hd0 => (intro w hSw; (try dsimp only at hSw); go_simp; try rfl)
        case' rd0 => simp only [setD, List.set_cons_succ, List.set_cons_zero]
        refine wpAnyH_take_h 1 (v := ?vd1) rfl rfl (by kernel_rfl) (by kernel_rfl) (by kernel_rfl) (fun _ _ _ h => h) ?hd1 (by assumption) ?rd1
        case hd1 => (intro w hSw; (try dsimp only at hSw); go_simp; try rfl)
        case' rd1 => simp only [setD, List.set_cons_succ, List.set_cons_zero]
        refine wpAnyH_take_h 2 (v := ?vd2) rfl rfl (by kernel_rfl) (by kernel_rfl) (by kernel_rfl) (fun _ _ _ h => h) ?hd2 (by assumption) ?rd2
        case hd2 => (intro w hSw; (try dsimp only at hSw); go_simp; try rfl)
        case' rd2 => simp only [setD, List.set_cons_succ, List.set_cons_zero]
        refine wpAnyH_take_h 3 (v := ?vd3) rfl rfl (by kernel_rfl) (by kernel_rfl) (by kernel_rfl) (fun _ _ _ h => h) ?hd3 (by assumption) ?rd3
        case hd3 => (intro w hSw; (try dsimp only at hSw); go_simp; try rfl)
        case' rd3 => simp only [setD, List.set_cons_succ, List.set_cons_zero]
        refine wpAnyH_take_h 4 (v := ?vd4) rfl rfl (by kernel_rfl) (by kernel_rfl) (by kernel_rfl) (fun _ _ _ h => h) ?hd4 (by assumption) ?rd4
        case hd4 => (intro w hSw; (try dsimp only at hSw); go_simp; try rfl)
        case' rd4 => simp only [setD, List.set_cons_succ, List.set_cons_zero]
        refine wpAnyH_take_h 5 (v := ?vd5) rfl rfl (by kernel_rfl) (by kernel_rfl) (by kernel_rfl) (fun _ _ _ h => h) ?hd5 (by assumption) ?rd5
        case hd5 => (intro w hSw; (try dsimp only at hSw); go_simp; try rfl)
        case' rd5 => simp only [setD, List.set_cons_succ, List.set_cons_zero]
        refine wpAnyH_take_h 6 (v := ?vd6) rfl rfl (by kernel_rfl) (by kernel_rfl) (by kernel_rfl) (fun _ _ _ h => h) ?hd6 (by assumption) ?rd6
        case hd6 => (intro w hSw; (try dsimp only at hSw); go_simp; try rfl)
        case' rd6 => simp only [setD, List.set_cons_succ, List.set_cons_zero]
        refine wpAnyH_take_h 7 (v := ?vd7) rfl rfl (by kernel_rfl) (by kernel_rfl) (by kernel_rfl) (fun _ _ _ h => h) ?hd7 (by assumption) ?rd7
        case hd7 => (intro w hSw; (try dsimp only at hSw); go_simp; try rfl)
        case' rd7 => simp only [setD, List.set_cons_succ, List.set_cons_zero]
        refine wpAnyH_take_h 8 (v := ?vd8) rfl rfl (by kernel_rfl) (by kernel_rfl) (by kernel_rfl) (fun _ _ _ h => h) ?hd8 (by assumption) ?rd8
        case hd8 => (intro w hSw; (try dsimp only at hSw); go_simp; try rfl)
        case' rd8 => simp only [setD, List.set_cons_succ, List.set_cons_zero]
        refine wpAnyH_take_h 9 (v := ?vd9) rfl rfl (by kernel_rfl) (by kernel_rfl) (by kernel_rfl) (fun _ _ _ h => h) ?hd9 (by assumption) ?rd9
        case hd9 => (intro w hSw; (try dsimp only at hSw); go_simp; try rfl)
        case' rd9 => simp only [setD, List.set_cons_succ, List.set_cons_zero]
        refine wpAnyH_take_h 10 (v := ?vd10) rfl rfl (by kernel_rfl) (by kernel_rfl) (by kernel_rfl) (fun _ _ _ h => h) ?hd10 (by assumption) ?rd10
        case hd10 => (intro w hSw; (try dsimp only at hSw); go_simp; try rfl)
        case' rd10 => simp only [setD, List.set_cons_succ, List.set_cons_zero]
        refine wpAnyH_take_h 11 (v := ?vd11) rfl rfl (by kernel_rfl) (by kernel_rfl) (by kernel_rfl) (fun _ _ _ h => h) ?hd11 (by assumption) ?rd11
        case hd11 => (intro w hSw; (try dsimp only at hSw); go_simp; try rfl)
        case' rd11 => simp only [setD, List.set_cons_succ, List.set_cons_zero]
        refine wpAnyH_take_h 12 (v := ?vd12) rfl rfl (by kernel_rfl) (by kernel_rfl) (by kernel_rfl) (fun _ _ _ h => h) ?hd12 (by assumption) ?rd12
        case hd12 => (intro w hSw; (try dsimp only at hSw); go_simp; try rfl)
        case' rd12 => simp only [setD, List.set_cons_succ, List.set_cons_zero]
        refine wpAnyH_take_h 13 (v := ?vd13) rfl rfl (by kernel_rfl) (by kernel_rfl) (by kernel_rfl) (fun _ _ _ h => h) ?hd13 (by assumption) ?rd13
        case hd13 => (intro w hSw; (try dsimp only at hSw); go_simp; try rfl)
        case' rd13 => simp only [setD, List.set_cons_succ, List.set_cons_zero]
        refine wpAnyH_take_h 14 (v := ?vd14) rfl rfl (by kernel_rfl) (by kernel_rfl) (by kernel_rfl) (fun _ _ _ h => h) ?hd14 (by assumption) ?rd14
        case hd14 => (intro w hSw; (try dsimp only at hSw); go_simp; try rfl)
        case' rd14 => simp only [setD, List.set_cons_succ, List.set_cons_zero]
        refine wpAnyH_take_h 15 (v := ?vd15) rfl rfl (by kernel_rfl) (by kernel_rfl) (by kernel_rfl) (fun _ _ _ h => h) ?hd15 (by assumption) ?rd15
        case hd15 => (intro w hSw; (try dsimp only at hSw); go_simp; try rfl)
        case' rd15 => simp only [setD, List.set_cons_succ, List.set_cons_zero]
        refine wpAnyH_take_h 16 (v := ?vd16) rfl rfl (by kernel_rfl) (by kernel_rfl) (by kernel_rfl) (fun _ _ _ h => h) ?hd16 (by assumption) ?rd16
        case hd16 => (intro w hSw; (try dsimp only at hSw); go_simp; try rfl)
        case' rd16 => simp only [setD, List.set_cons_succ, List.set_cons_zero]
        refine wpAnyH_take_h 17 (v := ?vd17) rfl rfl (by kernel_rfl) (by kernel_rfl) (by kernel_rfl) (fun _ _ _ h => h) ?hd17 (by assumption) ?rd17
        case hd17 => (intro w hSw; (try dsimp only at hSw); go_simp; try rfl)
        case' rd17 => simp only [setD, List.set_cons_succ, List.set_cons_zero]
        refine wpAnyH_take_h 18 (v := ?vd18) rfl rfl (by kernel_rfl) (by kernel_rfl) (by kernel_rfl) (fun _ _ _ h => h) ?hd18 (by assumption) ?rd18
        case hd18 => (intro w hSw; (try dsimp only at hSw); go_simp; try rfl)
        case' rd18 => simp only [setD, List.set_cons_succ, List.set_cons_zero]
        refine wpAnyH_take_h 19 (v := ?vd19) rfl rfl (by kernel_rfl) (by kernel_rfl) (by kernel_rfl) (fun _ _ _ h => h) ?hd19 (by assumption) ?rd19
        case hd19 => (intro w hSw; (try dsimp only at hSw); go_simp; try rfl)
        case' rd19 => simp only [setD, List.set_cons_succ, List.set_cons_zero]
        refine wpAnyH_take_h 20 (v := ?vd20) rfl rfl (by kernel_rfl) (by kernel_rfl) (by kernel_rfl) (fun _ _ _ h => h) ?hd20 (by assumption) ?rd20
        case hd20 => (intro w hSw; (try dsimp only at hSw); go_simp; try rfl)
        case' rd20 => simp only [setD, List.set_cons_succ, List.set_cons_zero]
        refine wpAnyH_take_h 21 (v := ?vd21) rfl rfl (by kernel_rfl) (by kernel_rfl) (by kernel_rfl) (fun _ _ _ h => h) ?hd21 (by assumption) ?rd21
        case hd21 => (intro w hSw; (try dsimp only at hSw); go_simp; try rfl)
        case' rd21 => simp only [setD, List.set_cons_succ, List.set_cons_zero]
        refine wpAnyH_take_h 22 (v := ?vd22) rfl rfl (by kernel_rfl) (by kernel_rfl) (by kernel_rfl) (fun _ _ _ h => h) ?hd22 (by assumption) ?rd22
        case hd22 => (intro w hSw; (try dsimp only at hSw); go_simp; try rfl)
        case' rd22 => simp only [setD, List.set_cons_succ, List.set_cons_zero]
        refine wpAnyH_take_h 23 (v := ?vd23) rfl rfl (by kernel_rfl) (by kernel_rfl) (by kernel_rfl) (fun _ _ _ h => h) ?hd23 (by assumption) ?rd23
        case hd23 => (intro w hSw; (try dsimp only at hSw); go_simp; try rfl)
        case' rd23 => simp only [setD, List.set_cons_succ, List.set_cons_zero]
        refine wpAnyH_take_h 24 (v := ?vd24) rfl rfl (by kernel_rfl) (by kernel_rfl) (by kernel_rfl) (fun _ _ _ h => h) ?hd24 (by assumption) ?rd24
        case hd24 => (intro w hSw; (try dsimp only at hSw); go_simp; try rfl)
        case' rd24 => simp only [setD, List.set_cons_succ, List.set_cons_zero]
        refine wpAnyH_take_h 25 (v := ?vd25) rfl rfl (by kernel_rfl) (by kernel_rfl) (by kernel_rfl) (fun _ _ _ h => h) ?hd25 (by assumption) ?rd25
        case hd25 => (intro w hSw; (try dsimp only at hSw); go_simp; try rfl)
        case' rd25 => simp only [setD, List.set_cons_succ, List.set_cons_zero]
        refine wpAnyH_take_h 26 (v := ?vd26) rfl rfl (by kernel_rfl) (by kernel_rfl) (by kernel_rfl) (fun _ _ _ h => h) ?hd26 (by assumption) ?rd26
        case hd26 => (intro w hSw; (try dsimp only at hSw); go_simp; try rfl)
        case' rd26 => simp only [setD, List.set_cons_succ, List.set_cons_zero]
        refine wpAnyH_take_h 27 (v := ?vd27) rfl rfl (by kernel_rfl) (by kernel_rfl) (by kernel_rfl) (fun _ _ _ h => h) ?hd27 (by assumption) ?rd27
        case hd27 => (intro w hSw; (try dsimp only at hSw); go_simp; try rfl)
        case' rd27 => simp only [setD, List.set_cons_succ, List.set_cons_zero]
        refine wpAnyH_take_h 28 (v := ?vd28) rfl rfl (by kernel_rfl) (by kernel_rfl) (by kernel_rfl) (fun _ _ _ h => h) ?hd28 (by assumption) ?rd28
        case hd28 => (intro w hSw; (try dsimp only at hSw); go_simp; try rfl)
        case' rd28 => simp only [setD, List.set_cons_succ, List.set_cons_zero]
        refine wpAnyH_take_h 29 (v := ?vd29) rfl rfl (by kernel_rfl) (by kernel_rfl) (by kernel_rfl) (fun _ _ _ h => h) ?hd29 (by assumption) ?rd29
        case hd29 => (intro w hSw; (try dsimp only at hSw); go_simp; try rfl)
        case' rd29 => simp only [setD, List.set_cons_succ, List.set_cons_zero]
        refine wpAnyH_take_h 30 (v := ?vd30) rfl rfl (by kernel_rfl) (by kernel_rfl) (by kernel_rfl) (fun _ _ _ h => h) ?hd30 (by assumption) ?rd30
        case hd30 => (intro w hSw; (try dsimp only at hSw); go_simp; try rfl)
        case' rd30 => simp only [setD, List.set_cons_succ, List.set_cons_zero]
        refine wpAnyH_take_h 31 (v := ?vd31) rfl rfl (by kernel_rfl) (by kernel_rfl) (by kernel_rfl) (fun _ _ _ h => h) ?hd31 (by assumption) ?rd31
        case hd31 => (intro w hSw; (try dsimp only at hSw); go_simp; try rfl)
        case' rd31 => simp only [setD, List.set_cons_succ, List.set_cons_zero]
        refine wpAnyH_take_h 32 (v := ?vd32) rfl rfl (by kernel_rfl) (by kernel_rfl) (by kernel_rfl) (fun _ _ _ h => h) ?hd32 (by assumption) ?rd32
        case hd32 => (intro w hSw; (try dsimp only at hSw); go_simp; try rfl)
        case' rd32 => simp only [setD, List.set_cons_succ, List.set_cons_zero]
        refine wpAnyH_take_h 33 (v := ?vd33) rfl rfl (by kernel_rfl) (by kernel_rfl) (by kernel_rfl) (fun _ _ _ h => h) ?hd33 (by assumption) ?rd33
        case hd33 => (intro w hSw; (try dsimp only at hSw); go_simp; try rfl)
        case' rd33 => simp only [setD, List.set_cons_succ, List.set_cons_zero]
        refine wpAnyH_take_h 34 (v := ?vd34) rfl rfl (by kernel_rfl) (by kernel_rfl) (by kernel_rfl) (fun _ _ _ h => h) ?hd34 (by assumption) ?rd34
        case hd34 => (intro w hSw; (try dsimp only at hSw); go_simp; try rfl)
        case' rd34 => simp only [setD, List.set_cons_succ, List.set_cons_zero]
        refine wpAnyH_take_h 35 (v := ?vd35) rfl rfl (by kernel_rfl) (by kernel_rfl) (by kernel_rfl) (fun _ _ _ h => h) ?hd35 (by assumption) ?rd35
        case hd35 => (intro w hSw; (try dsimp only at hSw); go_simp; try rfl)
        case' rd35 => simp only [setD, List.set_cons_succ, List.set_cons_zero]
        refine wpAnyH_take_h 36 (v := ?vd36) rfl rfl (by kernel_rfl) (by kernel_rfl) (by kernel_rfl) (fun _ _ _ h => h) ?hd36 (by assumption) ?rd36
        case hd36 => (intro w hSw; (try dsimp only at hSw); go_simp; try rfl)
        case' rd36 => simp only [setD, List.set_cons_succ, List.set_cons_zero]
        refine wpAnyH_take_h 37 (v := ?vd37) rfl rfl (by kernel_rfl) (by kernel_rfl) (by kernel_rfl) (fun _ _ _ h => h) ?hd37 (by assumption) ?rd37
        case hd37 => (intro w hSw; (try dsimp only at hSw); go_simp; try rfl)
        case' rd37 => simp only [setD, List.set_cons_succ, List.set_cons_zero]
        refine wpAnyH_take_h 38 (v := ?vd38) rfl rfl (by kernel_rfl) (by kernel_rfl) (by kernel_rfl) (fun _ _ _ h => h) ?hd38 (by assumption) ?rd38
        case hd38 => (intro w hSw; (try dsimp only at hSw); go_simp; try rfl)
        case' rd38 => simp only [setD, List.set_cons_succ, List.set_cons_zero]
        refine wpAnyH_take_h 39 (v := ?vd39) rfl rfl (by kernel_rfl) (by kernel_rfl) (by kernel_rfl) (fun _ _ _ h => h) ?hd39 (by assumption) ?rd39
        case hd39 => (intro w hSw; (try dsimp only at hSw); go_simp; try rfl)
        case' rd39 => simp only [setD, List.set_cons_succ, List.set_cons_zero]
        refine wpAnyH_take_h 40 (v := ?vd40) rfl rfl (by kernel_rfl) (by kernel_rfl) (by kernel_rfl) (fun _ _ _ h => h) ?hd40 (by assumption) ?rd40
        case hd40 => (intro w hSw; (try dsimp only at hSw); go_simp; try rfl)
        case' rd40 => simp only [setD, List.set_cons_succ, List.set_cons_zero]
        refine wpAnyH_one_h 41 rfl (by kernel_rfl) (by kernel_rfl) (fun K hK => ?_)
        have hK2 := hK.out
        clear hK
        simp only [setD, List.set_cons_succ, List.set_cons_zero] at hK2 ⊢
        go_simp
        refine (HKIF.out _ (Below.refl _ _).drew).mono ?_
        rintro en wG ⟨rfl, hbG⟩
        dsimp only
        have hbG' : Below wF.heap.size wF wG := below_seq (Below.refl _ _).drew hbG
        refine hK2 _ _ (HSF.out wG hbG') (fun hHeldG => ?_)
        clear hK2 K hbG hHeldF
        have HBG := Lib.hid hbG'
        clear hbG'
        refine wpAnyH_take_h 42 (v := ?ve42) rfl rfl (by kernel_rfl) (by kernel_rfl) (by kernel_rfl) (fun _ _ _ h => h) ?he42 (by assumption) ?re42
        case he42 => (intro w hSw; (try dsimp only at hSw); go_simp; try rfl)
        case' re42 => simp only [setD, List.set_cons_succ, List.set_cons_zero]
        refine wpAnyH_take_h 43 (v := ?ve43) rfl rfl (by kernel_rfl) (by kernel_rfl) (by kernel_rfl) (fun _ _ _ h => h) ?he43 (by assumption) ?re43
        case he43 => (intro w hSw; (try dsimp only at hSw); go_simp; try rfl)
        case' re43 => simp only [setD, List.set_cons_succ, List.set_cons_zero]
        refine wpAnyH_take_h 44 (v := ?ve44) rfl rfl (by kernel_rfl) (by kernel_rfl) (by kernel_rfl) (fun _ _ _ h => h) ?he44 (by assumption) ?re44
        case he44 => (intro w hSw; (try dsimp only at hSw); go_simp; try rfl)
        case' re44 => simp only [setD, List.set_cons_succ, List.set_cons_zero]
        refine wpAnyH_take_h 45 (v := ?ve45) rfl rfl (by kernel_rfl) (by kernel_rfl) (by kernel_rfl) (fun _ _ _ h => h) ?he45 (by assumption) ?re45
        case he45 => (intro w hSw; (try dsimp only at hSw); go_simp; try rfl)
        case' re45 => simp only [setD, List.set_cons_succ, List.set_cons_zero]
        refine wpAnyH_take_h 46 (v := ?ve46) rfl rfl (by kernel_rfl) (by kernel_rfl) (by kernel_rfl) (fun _ _ _ h => h) ?he46 (by assumption) ?re46
        case he46 => (intro w hSw; (try dsimp only at hSw); go_simp; try rfl)
        case' re46 => simp only [setD, List.set_cons_succ, List.set_cons_zero]
        refine wpAnyH_take_h 47 (v := ?ve47) rfl rfl (by kernel_rfl) (by kernel_rfl) (by kernel_rfl) (fun _ _ _ h => h) ?he47 (by assumption) ?re47
        case he47 => (intro w hSw; (try dsimp only at hSw); go_simp; try rfl)
        case' re47 => simp only [setD, List.set_cons_succ, List.set_cons_zero]
        refine wpAnyH_take_h 48 (v := ?ve48) rfl rfl (by kernel_rfl) (by kernel_rfl) (by kernel_rfl) (fun _ _ _ h => h) ?he48 (by assumption) ?re48
        case he48 => (intro w hSw; (try dsimp only at hSw); go_simp; try rfl)
        case' re48 => simp only [setD, List.set_cons_succ, List.set_cons_zero]
        refine wpAnyH_two_h 49 50 rfl rfl (by kernel_rfl) (by kernel_rfl) (by kernel_rfl) (fun K hK => ?_) (fun K hK => ?_)
        · have hK2 := hK.out
          clear hK
          simp only [setD, List.set_cons_succ, List.set_cons_zero] at hK2 ⊢
          go_simp
          refine (HLBF.out _ HBG.out).mono ?_
          rintro en wH ⟨sa, sc, rfl, hst, hb1⟩
          dsimp only
          have hb1' : Below wF.heap.size wF wH := below_seq HBG.out hb1
          refine hK2 _ _ (HSF.out wH hb1') (fun hHeldwH => ?_)
          clear hK2 K
          have HBH := Lib.hid hb1'
          have HST := Lib.hid hst
          have HBwH0 := Lib.hid hb1
          clear hb1' hst hb1
          refine wpAnyH_one_h 50 rfl (by kernel_rfl) (by kernel_rfl) (fun K hK => ?_)
          have hK2 := hK.out
          clear hK
          simp only [setD, List.set_cons_succ, List.set_cons_zero] at hK2 ⊢
          go_simp
          obtain ⟨wI, hw1⟩ : ∃ W1, wH.alloc (.cells #[.string ⟨#[97]⟩, .string ⟨#[98]⟩] 9) = W1 := ⟨_, rfl⟩
          have hbn : Below wH.heap.size wH wI := by rw [← hw1]; exact blkBelow wH _ _
          have hxn : wI.heap[wH.heap.size]? = some (.cells #[.string ⟨#[97]⟩, .string ⟨#[98]⟩] 9 (0, 0)) := by rw [← hw1]; exact World.alloc_heap_new _ _
          rw [hw1]
          refine hK2 _ _ (HSF.out wI (below_seq HBH.out hbn)) (fun hHeldwI => ?_)
          clear hK2 K hw1
          have HBI : Hid (Below wF.heap.size wF wI) := Lib.hid (below_seq HBH.out hbn)
          have HBnwI := Lib.hid hbn
          have HXnwI := Lib.hid hxn
          clear hbn hxn
          have h1 := (HST.out.keep (HBnwI.out.keeps'.mono (fun k hk => hk))).mono (C := fun k => k < wI.heap.size) (fun k hk => Nat.lt_of_lt_of_le hk HBnwI.out.size)
          have h2 : StrSl (fun k => k < wI.heap.size) wI (.slice (some ⟨wH.heap.size, 0, none⟩) 2 2) [⟨#[97]⟩, ⟨#[98]⟩] := ytwoStr HXnwI.out (Array.getElem?_eq_some_iff.1 HXnwI.out).1 (by decide) (by decide)
          have HTX := Lib.hid (ptexts_any _ _ _ _ _ wI h1 h2)
          clear h1 h2
          refine wpAnyH_one_h 51 rfl (by kernel_rfl) (by kernel_rfl) (fun K hK => ?_)
          have hK2 := hK.out
          clear hK
          simp only [setD, List.set_cons_succ, List.set_cons_zero] at hK2 ⊢
          go_simp
          refine (HTX.out).mono ?_
          rintro en wJ ⟨rfl, hdJ⟩
          dsimp only
          have hbJ : Below wF.heap.size wF wJ := HBI.out.trans (hdJ.below _)
          refine hK2 _ _ (HSF.out wJ hbJ) (fun hHeldJ => ?_)
          clear hK2 K hdJ
          have HBJ := Lib.hid hbJ
          clear hbJ
          refine wpAnyH_take_h 52 (v := ?vf52) rfl rfl (by kernel_rfl) (by kernel_rfl) (by kernel_rfl) (fun _ _ _ h => h) ?hf52 (by assumption) ?rf52
          case hf52 => (intro w hSw; (try dsimp only at hSw); go_simp; try rfl)
          case' rf52 => simp only [setD, List.set_cons_succ, List.set_cons_zero]
          refine wpAnyH_take_h 53 (v := ?vf53) rfl rfl (by kernel_rfl) (by kernel_rfl) (by kernel_rfl) (fun _ _ _ h => h) ?hf53 (by assumption) ?rf53
          case hf53 => (intro w hSw; (try dsimp only at hSw); go_simp; try rfl)
          case' rf53 => simp only [setD, List.set_cons_succ, List.set_cons_zero]
          refine wpAnyH_take_h 54 (v := ?vf54) rfl rfl (by kernel_rfl) (by kernel_rfl) (by kernel_rfl) (fun _ _ _ h => h) ?hf54 (by assumption) ?rf54
          case hf54 => (intro w hSw; (try dsimp only at hSw); go_simp; try rfl)
          case' rf54 => simp only [setD, List.set_cons_succ, List.set_cons_zero]
          refine wpAnyH_one_h 55 rfl (by kernel_rfl) (by kernel_rfl) (fun K hK => ?_)
          have hK2 := hK.out
          clear hK
          simp only [setD, List.set_cons_succ, List.set_cons_zero] at hK2 ⊢
          go_simp
          refine (HRAF.out _).mono ?_
          rintro en wL ⟨rfl, hbL⟩
          dsimp only
          have hbL' : Below wF.heap.size wF wL := below_seq HBJ.out hbL
          refine hK2 _ _ (HSF.out wL hbL') (fun hHeldL => ?_)
          clear hK2 K hbL
          have HBL := Lib.hid hbL'
          clear hbL'
          refine wpAnyH_take_h 56 (v := ?vf56) rfl rfl (by kernel_rfl) (by kernel_rfl) (by kernel_rfl) (fun _ _ _ h => h) ?hf56 (by assumption) ?rf56
          case hf56 => (intro w hSw; (try dsimp only at hSw); go_simp; try rfl)
          case' rf56 => simp only [setD, List.set_cons_succ, List.set_cons_zero]
          refine wpAnyH_take_h 57 (v := ?vf57) rfl rfl (by kernel_rfl) (by kernel_rfl) (by kernel_rfl) (fun _ _ _ h => h) ?hf57 (by assumption) ?rf57
          case hf57 => (intro w hSw; (try dsimp only at hSw); go_simp; try rfl)
          case' rf57 => simp only [setD, List.set_cons_succ, List.set_cons_zero]
          refine wpAnyH_take_h 58 (v := ?vf58) rfl rfl (by kernel_rfl) (by kernel_rfl) (by kernel_rfl) (fun _ _ _ h => h) ?hf58 (by assumption) ?rf58
          case hf58 => (intro w hSw; (try dsimp only at hSw); go_simp; try rfl)
          case' rf58 => simp only [setD, List.set_cons_succ, List.set_cons_zero]
          refine wpAnyH_take_h 59 (v := ?vf59) rfl rfl (by kernel_rfl) (by kernel_rfl) (by kernel_rfl) (fun _ _ _ h => h) ?hf59 (by assumption) ?rf59
          case hf59 => (intro w hSw; (try dsimp only at hSw); go_simp; try rfl)
          case' rf59 => simp only [setD, List.set_cons_zero]
          refine wpAnyH_done (by kernel_rfl) ?_ _
          go_wp2_with fail
          go_ret
          exact ⟨rfl, HEND.out _ HBL.out⟩
        · have hK2 := hK.out
          clear hK
          simp only [setD, List.set_cons_succ, List.set_cons_zero] at hK2 ⊢
          go_simp
          obtain ⟨wH, hw1⟩ : ∃ W1, wG.alloc (.cells #[.string ⟨#[97]⟩, .string ⟨#[98]⟩] 9) = W1 := ⟨_, rfl⟩
          have hbn : Below wG.heap.size wG wH := by rw [← hw1]; exact blkBelow wG _ _
          have hxn : wH.heap[wG.heap.size]? = some (.cells #[.string ⟨#[97]⟩, .string ⟨#[98]⟩] 9 (0, 0)) := by rw [← hw1]; exact World.alloc_heap_new _ _
          rw [hw1]
          refine hK2 _ _ (HSF.out wH (below_seq HBG.out hbn)) (fun hHeldwH => ?_)
          clear hK2 K hw1
          have HBH : Hid (Below wF.heap.size wF wH) := Lib.hid (below_seq HBG.out hbn)
          have HBnwH := Lib.hid hbn
          have HXnwH := Lib.hid hxn
          clear hbn hxn
          refine wpAnyH_one_h 49 rfl (by kernel_rfl) (by kernel_rfl) (fun K hK => ?_)
          have hK2 := hK.out
          clear hK
          simp only [setD, List.set_cons_succ, List.set_cons_zero] at hK2 ⊢
          go_simp
          refine (HLBF.out _ HBH.out).mono ?_
          rintro en wI ⟨sa, sc, rfl, hst, hb1⟩
          dsimp only
          have hb1' : Below wF.heap.size wF wI := below_seq HBH.out hb1
          refine hK2 _ _ (HSF.out wI hb1') (fun hHeldwI => ?_)
          clear hK2 K
          have HBI := Lib.hid hb1'
          have HST := Lib.hid hst
          have HBwI0 := Lib.hid hb1
          clear hb1' hst hb1
          have h2 : StrSl (fun k => k < wI.heap.size) wI (.slice (some ⟨wG.heap.size, 0, none⟩) 2 2) [⟨#[97]⟩, ⟨#[98]⟩] := ytwoStr ((HBwI0.out.block _ (Array.getElem?_eq_some_iff.1 HXnwH.out).1).trans HXnwH.out) (Nat.lt_of_lt_of_le (Array.getElem?_eq_some_iff.1 HXnwH.out).1 HBwI0.out.size) (by decide) (by decide)
          have HTX := Lib.hid (ptexts_any _ _ _ _ _ wI HST.out h2)
          clear h2
          refine wpAnyH_one_h 51 rfl (by kernel_rfl) (by kernel_rfl) (fun K hK => ?_)
          have hK2 := hK.out
          clear hK
          simp only [setD, List.set_cons_succ, List.set_cons_zero] at hK2 ⊢
          go_simp
          refine (HTX.out).mono ?_
          rintro en wJ ⟨rfl, hdJ⟩
          dsimp only
          have hbJ : Below wF.heap.size wF wJ := HBI.out.trans (hdJ.below _)
          refine hK2 _ _ (HSF.out wJ hbJ) (fun hHeldJ => ?_)
          clear hK2 K hdJ
          have HBJ := Lib.hid hbJ
          clear hbJ
          refine wpAnyH_take_h 52 (v := ?vg52) rfl rfl (by kernel_rfl) (by kernel_rfl) (by kernel_rfl) (fun _ _ _ h => h) ?hg52 (by assumption) ?rg52
          case hg52 => (intro w hSw; (try dsimp only at hSw); go_simp; try rfl)
          case' rg52 => simp only [setD, List.set_cons_succ, List.set_cons_zero]
          refine wpAnyH_take_h 53 (v := ?vg53) rfl rfl (by kernel_rfl) (by kernel_rfl) (by kernel_rfl) (fun _ _ _ h => h) ?hg53 (by assumption) ?rg53
          case hg53 => (intro w hSw; (try dsimp only at hSw); go_simp; try rfl)
          case' rg53 => simp only [setD, List.set_cons_succ, List.set_cons_zero]
          refine wpAnyH_take_h 54 (v := ?vg54) rfl rfl (by kernel_rfl) (by kernel_rfl) (by kernel_rfl) (fun _ _ _ h => h) ?hg54 (by assumption) ?rg54
          case hg54 => (intro w hSw; (try dsimp only at hSw); go_simp; try rfl)
          case' rg54 => simp only [setD, List.set_cons_succ, List.set_cons_zero]
          refine wpAnyH_one_h 55 rfl (by kernel_rfl) (by kernel_rfl) (fun K hK => ?_)
          have hK2 := hK.out
          clear hK
          simp only [setD, List.set_cons_succ, List.set_cons_zero] at hK2 ⊢
          go_simp
          refine (HRAF.out _).mono ?_
          rintro en wL ⟨rfl, hbL⟩
          dsimp only
          have hbL' : Below wF.heap.size wF wL := below_seq HBJ.out hbL
          refine hK2 _ _ (HSF.out wL hbL') (fun hHeldL => ?_)
          clear hK2 K hbL
          have HBL := Lib.hid hbL'
          clear hbL'
          refine wpAnyH_take_h 56 (v := ?vg56) rfl rfl (by kernel_rfl) (by kernel_rfl) (by kernel_rfl) (fun _ _ _ h => h) ?hg56 (by assumption) ?rg56
          case hg56 => (intro w hSw; (try dsimp only at hSw); go_simp; try rfl)
          case' rg56 => simp only [setD, List.set_cons_succ, List.set_cons_zero]
          refine wpAnyH_take_h 57 (v := ?vg57) rfl rfl (by kernel_rfl) (by kernel_rfl) (by kernel_rfl) (fun _ _ _ h => h) ?hg57 (by assumption) ?rg57
          case hg57 => (intro w hSw; (try dsimp only at hSw); go_simp; try rfl)
          case' rg57 => simp only [setD, List.set_cons_succ, List.set_cons_zero]
          refine wpAnyH_take_h 58 (v := ?vg58) rfl rfl (by kernel_rfl) (by kernel_rfl) (by kernel_rfl) (fun _ _ _ h => h) ?hg58 (by assumption) ?rg58
          case hg58 => (intro w hSw; (try dsimp only at hSw); go_simp; try rfl)
          case' rg58 => simp only [setD, List.set_cons_succ, List.set_cons_zero]
          refine wpAnyH_take_h 59 (v := ?vg59) rfl rfl (by kernel_rfl) (by kernel_rfl) (by kernel_rfl) (fun _ _ _ h => h) ?hg59 (by assumption) ?rg59
          case hg59 => (intro w hSw; (try dsimp only at hSw); go_simp; try rfl)
          case' rg59 => simp only [setD, List.set_cons_zero]
          refine wpAnyH_done (by kernel_rfl) ?_ _
          go_wp2_with fail
          go_ret
          exact ⟨rfl, HEND.out _ HBL.out⟩
end Go.Proofs.Ytecdapihfiahiaa
