/- Duals: clones of lists, and lists mapped. (and what follows from it) -/
import Derived.Test.YtkjngbliomckiaaPu8
import Derived.Test.YtkjngbliomckiaaPu9
import Derived.Test.YtkjngbliomckiaaTyX
import Derived.Test.YtkjngbliomckiaaTyY
import Derived.Test.YtkjngbliomckiaaPu2
import Derived.Test.YtkjngbliomckiaaPu5
import Derived.Test.YtkjngbliomckiaaPu4
import Derived.Test.YtkjngbliomckiaaPu1
import Derived.Deep.RegionHeld

/- Duals: clones of lists, and lists mapped. -/
namespace Go.Proofs.Ytkjngbliomckiaa
open Go.RowKit Go.Deep Go.Shelf

/-! ### The first k elements mapped -/
def mapK {α : Type} (g : Nat → α → α) (k : Nat) (l : List α) : List α := l.mapIdx (fun i x => if i < k then g i x else x)
theorem mapK_get {α : Type} (g : Nat → α → α) (k : Nat) (l : List α) (j : Nat) : (mapK g k l)[j]? = l[j]?.map (fun x => if j < k then g j x else x) := by
  unfold mapK; rw [List.getElem?_mapIdx]
theorem mapK_zero {α : Type} (g : Nat → α → α) (l : List α) : mapK g 0 l = l := by
  apply List.ext_getElem?
  intro j
  rw [mapK_get]
  cases l[j]? <;> simp
theorem mapK_all {α : Type} (g : Nat → α → α) {k : Nat} {l : List α} (h : l.length ≤ k) : mapK g k l = l.mapIdx g := by
  apply List.ext_getElem?
  intro j
  rw [mapK_get, List.getElem?_mapIdx]
  cases e : l[j]? with
  | none => rfl
  | some x =>
    have := (List.getElem?_eq_some_iff.1 e).1
    simp only [Option.map_some]
    rw [if_pos (by omega)]
theorem mapK_step {α : Type} (g : Nat → α → α) {k : Nat} {l : List α} {x : α} (h : l[k]? = some x) : (mapK g k l).set k (g k x) = mapK g (k + 1) l := by
  apply List.ext_getElem?
  intro j
  have hk := (List.getElem?_eq_some_iff.1 h).1
  by_cases e : j = k
  · subst e
    rw [List.getElem?_set_self (by simpa [mapK] using hk), mapK_get, h]
    simp
  · rw [List.getElem?_set_ne (fun h => e h.symm), mapK_get, mapK_get]
    have e1 : (j < k + 1) ↔ (j < k) := by omega
    simp only [e1]
theorem mapK_at {α : Type} (g : Nat → α → α) {k : Nat} {l : List α} {x : α} (h : l[k]? = some x) : (mapK g k l)[k]? = some x := by
  rw [mapK_get, h]; simp
theorem mapK_len {α : Type} (g : Nat → α → α) (k : Nat) (l : List α) : (mapK g k l).length = l.length := by simp [mapK]

/-! ### slices.Clone -/
theorem eqRefs (a : Option Addr) (l c : Nat) (w : World) : (binOp .eql 28 (.slice a l c) (.slice none 0 0)).run Try.prog w = .ok (.bool a.isNone) w := Lib.run_eql_slice_nil w 28 42 a l c 0 0 Try.underlying28
theorem eqNodes (a : Option Addr) (l c : Nat) (w : World) : (binOp .eql 25 (.slice a l c) (.slice none 0 0)).run Try.prog w = .ok (.bool a.isNone) w := Lib.run_eql_slice_nil w 25 46 a l c 0 0 Try.underlying25
/-- A row of one's own is returned. -/
def RowRet (el : TypeId) (sz : Nat) (w : World) (es : List (List Value)) (e : Ending) (w' : World) : Prop :=
  ∃ a n c, e = .returned (.slice a n c) ∧ GRow el sz w.heap.size w' (.slice a n c) es ∧ Below w.heap.size w w'
theorem rowSrc_nil {sz : Nat} {w : World} {es : List (List Value)} (h : RowSrc sz w none es) : es = [] := by
  rcases h with h | ⟨_, _, h, _⟩
  · exact h
  · cases h

set_option maxHeartbeats 2000000 in
set_option maxRecDepth 100000 in
theorem cloneRow_refs (a : Option Addr) (n c : Nat) (es : List (List Value)) (w : World) (hnn : n = es.length) (hlen : ∀ e ∈ es, e.length = 2) (hsrc : RowSrc 2 w a es) (hone : ∀ e ∈ es, ∀ u ∈ e, u.oneCell' = true) (hn : es.length ≤ 100000000) :
    Calls Try.prog 34 #[.slice a n c] w (RowRet 42 2 w es) := by
  cases a with
  | none =>
    obtain rfl := rowSrc_nil hsrc
    obtain rfl : n = 0 := hnn
    have hq := eqRefs none 0 c
    clear hlen hsrc hone hn
    go_enter Try.func34, Try.ntmps34
    go_wp2_with fail
    go_ret
    exact ⟨_, _, _, rfl, GRow.nil _ _ _ _, Below.refl _ _⟩
  | some ad =>
    have hq := eqRefs (some ad) n c
    have HN := Lib.hid hnn
    have HL := Lib.hid hlen
    have HS := Lib.hid hsrc
    have HO := Lib.hid hone
    clear hnn hlen hsrc hone
    go_enter Try.func34, Try.ntmps34
    go_wp2_with (at_builtin; refine wpList_appG refElem rfl _ _ rfl rfl (GRow.empty 42 2 w.heap.size w _ rfl (Nat.le_refl _)) (some ad) n c es rfl HN.out HL.out ?_ HO.out ?_ ?_ ?_)
    · rcases HS.out with h | ⟨b, o, e, h⟩
      · exact .inl h
      · exact .inr ⟨b, o, e, fun j e i u hj hi => Lib.cell?_alloc_some _ (h j e i u hj hi)⟩
    · simp only [List.length_nil]; omega
    · simp
    · intro ga gn gc w1 hrow hgrow _
      have hb : Below w.heap.size w w1 := ((Below.refl _ w).alloc (Nat.le_refl _) _).grown hgrow (by simp) (fun k hk => by cases hk; exact Nat.le_refl _)
      have HR := Lib.hid hrow
      have HB := Lib.hid hb
      clear hrow hb hgrow
      go_wp2_with fail
      go_ret
      exact ⟨_, _, _, rfl, by simpa using HR.out, HB.out⟩

set_option maxHeartbeats 2000000 in
set_option maxRecDepth 100000 in
theorem cloneRow_nodes (a : Option Addr) (n c : Nat) (es : List (List Value)) (w : World) (hnn : n = es.length) (hlen : ∀ e ∈ es, e.length = 4) (hsrc : RowSrc 4 w a es) (hone : ∀ e ∈ es, ∀ u ∈ e, u.oneCell' = true) (hn : es.length ≤ 100000000) :
    Calls Try.prog 32 #[.slice a n c] w (RowRet 46 4 w es) := by
  cases a with
  | none =>
    obtain rfl := rowSrc_nil hsrc
    obtain rfl : n = 0 := hnn
    have hq := eqNodes none 0 c
    clear hlen hsrc hone hn
    go_enter Try.func32, Try.ntmps32
    go_wp2_with fail
    go_ret
    exact ⟨_, _, _, rfl, GRow.nil _ _ _ _, Below.refl _ _⟩
  | some ad =>
    have hq := eqNodes (some ad) n c
    have HN := Lib.hid hnn
    have HL := Lib.hid hlen
    have HS := Lib.hid hsrc
    have HO := Lib.hid hone
    clear hnn hlen hsrc hone
    go_enter Try.func32, Try.ntmps32
    go_wp2_with (at_builtin; refine wpList_appG nodeElem rfl _ _ rfl rfl (GRow.empty 46 4 w.heap.size w _ rfl (Nat.le_refl _)) (some ad) n c es rfl HN.out HL.out ?_ HO.out ?_ ?_ ?_)
    · rcases HS.out with h | ⟨b, o, e, h⟩
      · exact .inl h
      · exact .inr ⟨b, o, e, fun j e i u hj hi => Lib.cell?_alloc_some _ (h j e i u hj hi)⟩
    · simp only [List.length_nil]; omega
    · simp
    · intro ga gn gc w1 hrow hgrow _
      have hb : Below w.heap.size w w1 := ((Below.refl _ w).alloc (Nat.le_refl _) _).grown hgrow (by simp) (fun k hk => by cases hk; exact Nat.le_refl _)
      have HR := Lib.hid hrow
      have HB := Lib.hid hb
      clear hrow hb hgrow
      go_wp2_with fail
      go_ret
      exact ⟨_, _, _, rfl, by simpa using HR.out, HB.out⟩

/-! ### Stores of whole elements -/
theorem GRow.set2 {el : TypeId} {base : Nat} {W : World} {v : Value} {es : List (List Value)} (h : GRow el 2 base W v es) {j : Nat} {a b : Value} (hj : es[j]? = some [a, b]) {g n cap : Nat} (hv : v = .slice (some ⟨g, 0, none⟩) n cap) (u0 u1 : Value) : GRow el 2 base ((W.setCell ⟨g, j * 2, none⟩ u0).setCell ⟨g, j * 2 + 1, none⟩ u1) v (es.set j [u0, u1]) := by
  have hl := (List.getElem?_eq_some_iff.1 hj).1
  have h1 := h.set hj (i := 0) (by decide) hv u0
  have h2 := h1.set (j := j) (i := 1) (e := [u0, b]) (by rw [List.getElem?_set_self hl]; rfl) (by decide) hv u1
  simpa [List.set_set] using h2
theorem GRow.set4 {el : TypeId} {base : Nat} {W : World} {v : Value} {es : List (List Value)} (h : GRow el 4 base W v es) {j : Nat} {a b c d : Value} (hj : es[j]? = some [a, b, c, d]) {g n cap : Nat} (hv : v = .slice (some ⟨g, 0, none⟩) n cap) (u0 u1 u2 u3 : Value) : GRow el 4 base ((((W.setCell ⟨g, j * 4, none⟩ u0).setCell ⟨g, j * 4 + 1, none⟩ u1).setCell ⟨g, j * 4 + 2, none⟩ u2).setCell ⟨g, j * 4 + 3, none⟩ u3) v (es.set j [u0, u1, u2, u3]) := by
  have hl := (List.getElem?_eq_some_iff.1 hj).1
  have h1 := h.set hj (i := 0) (by decide) hv u0
  have h2 := h1.set (j := j) (i := 1) (e := [u0, b, c, d]) (by rw [List.getElem?_set_self hl]; rfl) (by decide) hv u1
  have h3 := h2.set (j := j) (i := 2) (e := [u0, u1, c, d]) (by rw [List.getElem?_set_self (by simpa using hl)]; rfl) (by decide) hv u2
  have h4 := h3.set (j := j) (i := 3) (e := [u0, u1, u2, d]) (by rw [List.getElem?_set_self (by simpa using hl)]; rfl) (by decide) hv u3
  simpa [List.set_set] using h4

/-! ### mapped over references -/
/-- A function maps each index and reference of a list, in memory of its own. -/
def MapsR (f : Nat) (caps : Array Value) (w0 : World) (rs : List GRef) (g : Nat → GRef → GRef) : Prop :=
  ∀ (i : Nat) (r : GRef), rs[i]? = some r → ∀ wr, Below w0.heap.size w0 wr → Calls Try.prog f (#[.int .i64 (i : Int), rfV r.n r.s] ++ caps) wr fun e w' => e = .returned (rfV (g i r).n (g i r).s) ∧ Below wr.heap.size wr w'

theorem one_refs (rs : List GRef) : (∀ e ∈ rs.map refCells, e.length = 2) ∧ ∀ e ∈ rs.map refCells, ∀ u ∈ e, u.oneCell' = true := by
  refine ⟨fun e he => ?_, fun e he u hu => ?_⟩
  · obtain ⟨x, _, rfl⟩ := List.mem_map.1 he; rfl
  · obtain ⟨x, _, rfl⟩ := List.mem_map.1 he
    simp only [refCells, List.mem_cons, List.not_mem_nil, or_false] at hu
    rcases hu with rfl | rfl <;> rfl
set_option maxHeartbeats 2000000 in
set_option maxRecDepth 100000 in
theorem mappedR_any (a : Option Addr) (n c : Nat) (rs : List GRef) (g : Nat → GRef → GRef) (f : Nat) (caps : Array Value) (w : World) (hnn : n = (rs.map refCells).length) (hsrc : RowSrc 2 w a (rs.map refCells)) (hn : rs.length ≤ 100000000) (eg : ∀ args w, (callFunc f args).run Try.prog w = .ok (.enter f args) w) (hf : MapsR f caps w rs g) :
    Calls Try.prog 35 #[.slice a n c, .func (.func f) #[] caps] w (RowRet 42 2 w ((rs.mapIdx g).map refCells)) := by
  have HC := Lib.hid (cloneRow_refs a n c (rs.map refCells) w hnn (one_refs rs).1 hsrc (one_refs rs).2 (by simpa using hn))
  have HF := Lib.hid hf
  have HN : Hid (n = rs.length) := Lib.hid (by simpa using hnn)
  have hn' : n ≤ 100000000 := by rw [HN.out]; exact hn
  clear hnn hsrc hn hf
  go_enter Try.func35, Try.ntmps35
  go_wp2_with (go_at_call 34; go_loud (refine HC.out.mono ?_; rintro en w1 ⟨pa, pn, pc, rfl, hr1, hb1⟩; have HR1 := Lib.hid hr1; have HB1 := Lib.hid hb1; clear hr1 hb1))
  have hpn : pn = n := by
    obtain ⟨x, y, z, e, h, _⟩ := HR1.out.src
    simp only [Value.slice.injEq] at e
    rw [e.2.1, h, List.length_map, HN.out]
  subst hpn
  go_loopw [11] (fun i wr => ∃ k : Nat, i = .int .i64 k ∧ k ≤ pn ∧ Hid (GRow 42 2 w.heap.size wr (.slice pa pn pc) ((mapK g k rs).map refCells)) ∧ Hid (Below w.heap.size w wr)) (fun i _ => pn - (intOf i).toNat)
  case atStart => exact ⟨0, rfl, Nat.zero_le _, Lib.hid (by rw [mapK_zero]; exact HR1.out), HB1⟩
  case round =>
    obtain ⟨k, rfl, hk, HR, HB⟩ := hrel
    by_cases hlt : k < pn
    · obtain ⟨r, hr⟩ : ∃ r, rs[k]? = some r := ⟨_, List.getElem?_eq_getElem (by rw [← HN.out]; exact hlt)⟩
      have hes : ((mapK g k rs).map refCells)[k]? = some (refCells r) := by rw [List.getElem?_map, mapK_at g hr]; rfl
      obtain ⟨gb, cap, e1, c0⟩ := HR.out.cell (i := 0) hes rfl
      obtain ⟨_, _, e2, c1⟩ := HR.out.cell (i := 1) hes rfl
      have hl : ((mapK g k rs).map refCells).length = pn := by rw [List.length_map, mapK_len, HN.out]
      rw [hl] at e1 e2
      simp only [Value.slice.injEq] at e1
      obtain ⟨rfl, -, rfl⟩ := e1
      simp only [Value.slice.injEq, Option.some.injEq, Addr.mk.injEq, and_true, true_and] at e2
      obtain ⟨rfl, -⟩ := e2
      have hgl := HR.out.lt gb rfl
      rw [Nat.add_zero] at c0
      have hbx := blkBelow wr #[.int .i64 (r.n : Int), .int .i64 r.s] 42
      have IH := Lib.hid (HF.out k r hr _ (below_seq HB.out hbx))
      have HRR := Lib.hid hr
      have HBX := Lib.hid hbx
      have HES := Lib.hid hes
      clear hr hes hl hbx
      go_wp2_with fail
      refine IH.out.mono ?_
      rintro e w2 ⟨rfl, hb2⟩
      have hrow2 : GRow 42 2 w.heap.size w2 (.slice (some ⟨gb, 0, none⟩) pn pc) ((mapK g k rs).map refCells) := (HR.out.alloc _).to hb2
      obtain ⟨_, _, e3, d0⟩ := hrow2.cell (i := 0) HES.out rfl
      obtain ⟨_, _, e4, d1⟩ := hrow2.cell (i := 1) HES.out rfl
      simp only [Value.slice.injEq, Option.some.injEq, Addr.mk.injEq, and_true] at e3 e4
      obtain ⟨rfl, -⟩ := e3
      obtain ⟨rfl, -⟩ := e4
      have hfz : ∀ i, w2.frozen? ⟨gb, i, none⟩ = false := by
        rcases hrow2.parts with ⟨e5, _⟩ | ⟨g5, c5, e5, _, _, _, h5⟩
        · cases e5
        · simp only [Value.slice.injEq, Option.some.injEq, Addr.mk.injEq, and_true] at e5
          obtain ⟨rfl, -⟩ := e5
          exact h5
      rw [Nat.add_zero] at d0
      have HW2 := Lib.hid hrow2
      have HB2 := Lib.hid hb2
      clear hrow2 hb2
      go_wp2_with fail
      obtain ⟨W3, hW3⟩ : ∃ W3, (w2.setCell ⟨gb, k * 2, none⟩ (.int .i64 ((g k r).n : Int))).setCell ⟨gb, k * 2 + 1, none⟩ (.int .i64 (g k r).s) = W3 := ⟨_, rfl⟩
      have hrow3 : GRow 42 2 w.heap.size W3 (.slice (some ⟨gb, 0, none⟩) pn pc) ((mapK g (k + 1) rs).map refCells) := by
        have h := HW2.out.set2 HES.out rfl (.int .i64 ((g k r).n : Int)) (.int .i64 (g k r).s)
        rw [hW3] at h
        rw [← mapK_step g HRR.out, List.map_set]
        exact h
      have hb3 : Below w.heap.size w W3 := by
        rw [← hW3]
        exact ((below_seq (below_seq HB.out HBX.out) HB2.out).setCell (p := ⟨gb, _, none⟩) hgl.1 _).setCell (p := ⟨gb, _, none⟩) hgl.1 _
      rw [hW3]
      clear hW3 d0 d1 hfz
      go_roundw
      case rel => exact ⟨k + 1, by go_num, by omega, Lib.hid hrow3, Lib.hid hb3⟩
      case measure => simp [intOf]; omega
    · obtain rfl : k = pn := by omega
      go_wp2_with fail
      go_ret
      refine ⟨_, _, _, rfl, ?_, HB.out⟩
      have h := HR.out
      rw [mapK_all g (by rw [HN.out]; exact Nat.le_refl _)] at h
      exact h
end Go.Proofs.Ytkjngbliomckiaa

/- Duals: lists of nodes mapped. -/
namespace Go.Proofs.Ytkjngbliomckiaa
open Go.RowKit Go.Deep Go.Shelf

abbrev NV.val (x : NV) : Value := .agg #[.int .i64 x.g.k, .int .i64 x.g.p, x.lv, x.nv]
theorem NodeSl.nvs {B : Nat → Prop} {w : World} {a : Option Addr} {n c : Nat} {ns : List GNode} (h : NodeSl B w (.slice a n c) ns) : ∃ ys : List NV, ys.map NV.g = ns ∧ (∀ y ∈ ys, y.Ok B w) ∧ n = (ys.map NV.cells).length ∧ RowSrc 4 w a (ys.map NV.cells) := by
  rcases h.1 with ⟨⟨_, _, e⟩, rfl⟩ | ⟨b, o, _, e, hb, hr⟩
  · simp only [Value.slice.injEq] at e
    obtain ⟨rfl, rfl, rfl⟩ := e
    exact ⟨[], rfl, fun _ h => (by cases h), rfl, .inl rfl⟩
  · simp only [Value.slice.injEq] at e
    obtain ⟨rfl, rfl, rfl⟩ := e
    obtain ⟨ys, hl, hy⟩ := list_of (fun i (y : NV) => ns[i]? = some y.g ∧ y.Ok B w ∧ ∀ q u, y.cells[q]? = some u → w.cell? ⟨b, o + (i * 4 + q), none⟩ = some u) ns.length (fun i hi => by
      obtain ⟨g, hg⟩ : ∃ g, ns[i]? = some g := ⟨_, List.getElem?_eq_getElem hi⟩
      obtain ⟨c0, c1, lv, nv, c2, c3, h4, h5⟩ := hr i g hg
      refine ⟨⟨g, lv, nv⟩, hg, ⟨h4, h5⟩, fun q u hq => ?_⟩
      rw [← Nat.add_assoc]
      match q, hq with
      | 0, hq => simp at hq; subst hq; exact c0
      | 1, hq => simp at hq; subst hq; exact c1
      | 2, hq => simp at hq; subst hq; exact c2
      | 3, hq => simp at hq; subst hq; exact c3
      | q + 4, hq => simp at hq)
    have hm : ys.map NV.g = ns := by
      apply List.ext_getElem?
      intro j
      rw [List.getElem?_map]
      cases e : ys[j]? with
      | none =>
        have : ns.length ≤ j := by rw [← hl]; exact List.getElem?_eq_none_iff.1 e
        rw [List.getElem?_eq_none this]; rfl
      | some y => exact (hy j y e).1.symm
    refine ⟨ys, hm, fun y hy' => ?_, by rw [List.length_map, hl], .inr ⟨b, o, rfl, fun j e i u hj hi => ?_⟩⟩
    · obtain ⟨i, hi⟩ := List.mem_iff_getElem?.1 hy'
      exact (hy i y hi).2.1
    · rw [List.getElem?_map] at hj
      obtain ⟨y, hyj, rfl⟩ := Option.map_eq_some_iff.1 hj
      exact (hy j y hyj).2.2 i u hi
theorem one_nodes {B : Nat → Prop} {w : World} {ys : List NV} (h : ∀ y ∈ ys, y.Ok B w) : (∀ e ∈ ys.map NV.cells, e.length = 4) ∧ ∀ e ∈ ys.map NV.cells, ∀ u ∈ e, u.oneCell' = true := by
  refine ⟨fun e he => ?_, fun e he => ?_⟩
  · obtain ⟨x, _, rfl⟩ := List.mem_map.1 he; rfl
  · obtain ⟨x, hx, rfl⟩ := List.mem_map.1 he
    exact (h x hx).one

/-- A function maps each index and node of a list, into memory of its own. -/
def MapsN (f : Nat) (caps : Array Value) (w0 : World) (ys : List NV) (h : GNode → GNode) : Prop :=
  ∀ (i : Nat) (y : NV), ys[i]? = some y → ∀ wr, Below w0.heap.size w0 wr → Calls Try.prog f (#[.int .i64 (i : Int), y.val] ++ caps) wr fun e w' => ∃ x : NV, e = .returned x.val ∧ x.g = h y.g ∧ x.Ok (Fresh wr.heap.size w'.heap.size) w' ∧ Below wr.heap.size wr w'
/-- Nodes of one's own, in a row of one's own. -/
def NodesRet (w : World) (gs : List GNode) (e : Ending) (w' : World) : Prop :=
  ∃ (a : Option Addr) (n c : Nat) (xs : List NV), e = .returned (.slice a n c) ∧ GRow 46 4 w.heap.size w' (.slice a n c) (xs.map NV.cells) ∧ xs.map NV.g = gs ∧ (∀ x ∈ xs, x.Ok (fun k => w.heap.size ≤ k ∧ k < w'.heap.size ∧ some k ≠ (Value.slice a n c).ownBlock) w') ∧ Below w.heap.size w w'

theorem rowk_at {xs ys : List NV} {k : Nat} {y : NV} (hx : xs.length = k) (hy : ys[k]? = some y) : (xs.map NV.cells ++ (ys.drop k).map NV.cells)[k]? = some y.cells := by
  rw [List.getElem?_append_right (by simp [hx])]
  simp [hx, hy]
theorem rowk_set {xs ys : List NV} {k : Nat} {x y : NV} (hx : xs.length = k) (hy : ys[k]? = some y) : (xs.map NV.cells ++ (ys.drop k).map NV.cells).set k x.cells = (xs ++ [x]).map NV.cells ++ (ys.drop (k + 1)).map NV.cells := by
  have e : ys.drop k = y :: ys.drop (k + 1) := by
    have hk := (List.getElem?_eq_some_iff.1 hy)
    obtain ⟨h1, h2⟩ := hk
    rw [List.drop_eq_getElem_cons h1, h2]
  rw [List.set_append_right _ _ (by simp [hx]), List.length_map, hx, Nat.sub_self, e, List.map_cons, List.set_cons_zero, List.map_append]
  simp

set_option maxHeartbeats 2000000 in
set_option maxRecDepth 100000 in
theorem mappedN_any (a : Option Addr) (n c : Nat) (ys : List NV) (h : GNode → GNode) (f : Nat) (caps : Array Value) (w : World) (hok : ∀ y ∈ ys, y.Ok (fun k => k < w.heap.size) w) (hnn : n = (ys.map NV.cells).length) (hsrc : RowSrc 4 w a (ys.map NV.cells)) (hn : ys.length ≤ 100000000) (eg : ∀ args w, (callFunc f args).run Try.prog w = .ok (.enter f args) w) (hf : MapsN f caps w ys h) :
    Calls Try.prog 23 #[.slice a n c, .func (.func f) #[] caps] w (NodesRet w (ys.map (fun y => h y.g))) := by
  have HC := Lib.hid (cloneRow_nodes a n c (ys.map NV.cells) w hnn (one_nodes hok).1 hsrc (one_nodes hok).2 (by simpa using hn))
  have HF := Lib.hid hf
  have HOK := Lib.hid hok
  have HN : Hid (n = ys.length) := Lib.hid (by simpa using hnn)
  have hn' : n ≤ 100000000 := by rw [HN.out]; exact hn
  clear hnn hsrc hn hf hok
  go_enter Try.func23, Try.ntmps23
  go_wp2_with (go_at_call 32; go_loud (refine HC.out.mono ?_; rintro en w1 ⟨pa, pn, pc, rfl, hr1, hb1⟩; have HR1 := Lib.hid hr1; have HB1 := Lib.hid hb1; clear hr1 hb1))
  have hpn : pn = n := by
    obtain ⟨x, y, z, e, h, _⟩ := HR1.out.src
    simp only [Value.slice.injEq] at e
    rw [e.2.1, h, List.length_map, HN.out]
  subst hpn
  go_loopw [11] (fun i wr => ∃ (k : Nat) (xs : List NV), i = .int .i64 k ∧ k ≤ pn ∧ Hid (xs.length = k) ∧ Hid (GRow 46 4 w.heap.size wr (.slice pa pn pc) (xs.map NV.cells ++ (ys.drop k).map NV.cells)) ∧ Hid (xs.map NV.g = (ys.take k).map (fun y => h y.g)) ∧ Hid (∀ x ∈ xs, x.Ok (fun b => w.heap.size ≤ b ∧ b < wr.heap.size ∧ some b ≠ (Value.slice pa pn pc).ownBlock) wr) ∧ Hid (Below w.heap.size w wr)) (fun i _ => pn - (intOf i).toNat)
  case atStart => exact ⟨0, [], rfl, Nat.zero_le _, Lib.hid rfl, Lib.hid (by simpa using HR1.out), Lib.hid (by simp), Lib.hid (fun x hx => by cases hx), HB1⟩
  case round =>
    obtain ⟨k, xs, rfl, hk, HX, HR, HM, HO, HB⟩ := hrel
    by_cases hlt : k < pn
    · obtain ⟨y, hy⟩ : ∃ y, ys[k]? = some y := ⟨_, List.getElem?_eq_getElem (by rw [← HN.out]; exact hlt)⟩
      have hes := rowk_at HX.out hy
      obtain ⟨gb, cap, e1, c0⟩ := HR.out.cell (i := 0) hes rfl
      obtain ⟨_, _, e2, c1⟩ := HR.out.cell (i := 1) hes rfl
      obtain ⟨_, _, e5, c2⟩ := HR.out.cell (i := 2) hes rfl
      obtain ⟨_, _, e6, c3⟩ := HR.out.cell (i := 3) hes rfl
      have hl : (xs.map NV.cells ++ (ys.drop k).map NV.cells).length = pn := by
        have := HN.out
        have := HX.out
        simp only [List.length_append, List.length_map, List.length_drop]; omega
      rw [hl] at e1 e2 e5 e6
      simp only [Value.slice.injEq] at e1
      obtain ⟨rfl, -, rfl⟩ := e1
      simp only [Value.slice.injEq, Option.some.injEq, Addr.mk.injEq, and_true, true_and] at e2 e5 e6
      obtain ⟨rfl, -⟩ := e2
      obtain ⟨rfl, -⟩ := e5
      obtain ⟨rfl, -⟩ := e6
      have hgl := HR.out.lt gb rfl
      rw [Nat.add_zero] at c0
      have hbx := blkBelow wr #[.int .i64 y.g.k, .int .i64 y.g.p, y.lv, y.nv] 46
      have IH := Lib.hid (HF.out k y hy _ (below_seq HB.out hbx))
      have oky := HOK.out y (List.mem_of_getElem? hy)
      obtain ⟨la, ln, lc, hlv, _⟩ := oky.l.open
      obtain ⟨na, nn, nc, hnv, _⟩ := oky.n.open
      have HY := Lib.hid hy
      have HBX := Lib.hid hbx
      have HES := Lib.hid hes
      clear hy hes hl hbx oky
      obtain ⟨⟨yk, yp, yls, ynx⟩, ylv, ynv⟩ := y
      simp only at hlv hnv
      subst hlv
      subst hnv
      simp only at c0 c1 c2 c3
      go_wp2_with fail
      refine IH.out.mono ?_
      rintro e w2 ⟨⟨⟨xk, xp, xls, xnx⟩, xlv, xnv⟩, rfl, hxg, hxok, hb2⟩
      simp only at hxg
      obtain ⟨xa, xn, xc, e7, _⟩ := hxok.l.open
      obtain ⟨za, zn, zc, e8, _⟩ := hxok.n.open
      simp only at e7 e8
      subst e7
      subst e8
      have hrow2 : GRow 46 4 w.heap.size w2 (.slice (some ⟨gb, 0, none⟩) pn pc) (xs.map NV.cells ++ (ys.drop k).map NV.cells) := (HR.out.alloc _).to hb2
      obtain ⟨_, _, e3, d0⟩ := hrow2.cell (i := 0) HES.out rfl
      obtain ⟨_, _, e4, d1⟩ := hrow2.cell (i := 1) HES.out rfl
      obtain ⟨_, _, e5, d2⟩ := hrow2.cell (i := 2) HES.out rfl
      obtain ⟨_, _, e6, d3⟩ := hrow2.cell (i := 3) HES.out rfl
      simp only [Value.slice.injEq, Option.some.injEq, Addr.mk.injEq, and_true] at e3 e4 e5 e6
      obtain ⟨rfl, -⟩ := e3
      obtain ⟨rfl, -⟩ := e4
      obtain ⟨rfl, -⟩ := e5
      obtain ⟨rfl, -⟩ := e6
      have hfz : ∀ i, w2.frozen? ⟨gb, i, none⟩ = false := by
        rcases hrow2.parts with ⟨e5, _⟩ | ⟨g5, c5, e5, _, _, _, h5⟩
        · cases e5
        · simp only [Value.slice.injEq, Option.some.injEq, Addr.mk.injEq, and_true] at e5
          obtain ⟨rfl, -⟩ := e5
          exact h5
      rw [Nat.add_zero] at d0
      have HW2 := Lib.hid hrow2
      have HB2 := Lib.hid hb2
      have HXG := Lib.hid hxg
      have HXOK := Lib.hid hxok
      clear hrow2 hb2 hxg hxok
      go_wp2_with fail
      obtain ⟨W3, hW3⟩ : ∃ W3, (((w2.setCell ⟨gb, k * 4, none⟩ (.int .i64 xk)).setCell ⟨gb, k * 4 + 1, none⟩ (.int .i64 xp)).setCell ⟨gb, k * 4 + 2, none⟩ (.slice xa xn xc)).setCell ⟨gb, k * 4 + 3, none⟩ (.slice za zn zc) = W3 := ⟨_, rfl⟩
      have hrow3 : GRow 46 4 w.heap.size W3 (.slice (some ⟨gb, 0, none⟩) pn pc) ((xs ++ [(⟨⟨xk, xp, xls, xnx⟩, .slice xa xn xc, .slice za zn zc⟩ : NV)]).map NV.cells ++ (ys.drop (k + 1)).map NV.cells) := by
        have h := HW2.out.set4 HES.out rfl (.int .i64 xk) (.int .i64 xp) (.slice xa xn xc) (.slice za zn zc)
        rw [hW3] at h
        rw [← rowk_set HX.out HY.out]
        exact h
      have hb3 : Below w.heap.size w W3 := by
        rw [← hW3]
        exact ((((below_seq (below_seq HB.out HBX.out) HB2.out).setCell (p := ⟨gb, _, none⟩) hgl.1 _).setCell (p := ⟨gb, _, none⟩) hgl.1 _).setCell (p := ⟨gb, _, none⟩) hgl.1 _).setCell (p := ⟨gb, _, none⟩) hgl.1 _
      have hk3 : ∀ j, j ≠ gb → W3.heap[j]? = w2.heap[j]? := fun j hj => by
        rw [← hW3]
        exact (set_oth _ _ _ hj).trans ((set_oth _ _ _ hj).trans ((set_oth _ _ _ hj).trans (set_oth _ _ _ hj)))
      have hs3 : W3.heap.size = w2.heap.size := by rw [← hW3]; simp [World.setCell]
      rw [hW3]
      have hsw := HB2.out.size
      have hsx := HBX.out.size
      have hgl2 := hgl.2
      have hsb := HB.out.size
      clear hW3 d0 d1 d2 d3 hfz
      go_roundw
      case rel =>
        refine ⟨k + 1, xs ++ [⟨⟨xk, xp, xls, xnx⟩, .slice xa xn xc, .slice za zn zc⟩], by go_num, by omega, Lib.hid (by simp [HX.out]), Lib.hid hrow3, Lib.hid ?_, Lib.hid (fun x hx => ?_), Lib.hid hb3⟩
        · rw [List.map_append, HM.out, take_snoc_get HY.out, List.map_append]
          simp only [List.map_cons, List.map_nil, HXG.out]
        · rcases List.mem_append.1 hx with hx | hx
          · refine ((HO.out x hx).keep (fun j _ hj ho _ => ?_)).mono (fun j hj => ⟨hj.1, by rw [hs3]; omega, hj.2.2⟩)
            have hne : j ≠ gb := fun e => hj.2.2 (by rw [e]; rfl)
            exact (hk3 j hne).trans ((HB2.out.block j (by omega)).trans ((HBX.out.block j hj.2.1).trans ho))
          · rw [List.mem_singleton.1 hx]
            refine (HXOK.out.keep (fun j _ hj ho _ => ?_)).mono (fun j hj => ⟨by have := hj.1; omega, by rw [hs3]; exact hj.2, fun e => by have := hj.1; have e9 : j = gb := Option.some.inj e; omega⟩)
            exact (hk3 j (by have := hj.1; omega)).trans ho
      case measure => simp [intOf]; omega
    · obtain rfl : k = pn := by omega
      go_wp2_with fail
      go_ret
      refine ⟨_, _, _, xs, rfl, ?_, ?_, HO.out, HB.out⟩
      · have h := HR.out
        rw [List.drop_eq_nil_of_le (by rw [HN.out]; exact Nat.le_refl _)] at h
        simpa using h
      · rw [HM.out, List.take_of_length_le (by rw [HN.out]; exact Nat.le_refl _)]
end Go.Proofs.Ytkjngbliomckiaa

/- Duals: the functions that are mapped, and the dual of a node. -/
namespace Go.Proofs.Ytkjngbliomckiaa
open Go.RowKit Go.Deep Go.Shelf

/-- The reference of the dual node for a reference. -/
def refD (k : Int) (N : Nat) (i : Nat) (r : GRef) : GRef := if i = 0 ∧ payB k = true then r else ⟨r.n + N, r.s⟩
def nodeD (N : Nat) (g : GNode) : GNode := ⟨kindD g.k, g.p, g.ls, g.nx.mapIdx (refD g.k N)⟩
def closeG (ns : List GNode) : List GNode := ns ++ ns.map (nodeD ns.length)

set_option maxHeartbeats 2000000 in
set_option maxRecDepth 100000 in
theorem dualRef_any (i : Nat) (r : GRef) (bA bB : Nat) (k : Int) (N : Nat) (w : World) (hi : i ≤ 1000000000) (hr : r.n ≤ 1000000000) (hN : N ≤ 1000000000) (hA : ∀ W, Below w.heap.size w W → W.cell? ⟨bA, 0, none⟩ = some (.int .i64 k)) (hB : ∀ W, Below w.heap.size w W → W.cell? ⟨bB, 0, none⟩ = some (.int .i64 (N : Int))) :
    Calls Try.prog 36 #[.int .i64 (i : Int), rfV r.n r.s, .pointer (some ⟨bA, 0, none⟩), .pointer (some ⟨bB, 0, none⟩)] w fun e w' => e = .returned (rfV (refD k N i r).n (refD k N i r).s) ∧ Below w.heap.size w w' := by
  obtain ⟨W2, hW2⟩ : ∃ W2, (w.alloc (refO (.int .i64 (r.n : Int)) (.int .i64 r.s))).alloc (refO (.int .i64 0) (.int .i64 0)) = W2 := ⟨_, rfl⟩
  obtain ⟨hs2, hb2, x0, x1⟩ := two_made hW2
  obtain ⟨r0, r1, r2, r3⟩ := refO_cells x0
  obtain ⟨q0, q1, q2, q3⟩ := refO_cells x1
  have a0 := hA W2 hb2
  have b0 := hB W2 hb2
  have HA := Lib.hid hA
  have HBB := Lib.hid hB
  have HW2 := Lib.hid hW2
  have HB2 := Lib.hid hb2
  have HX0 := Lib.hid x0
  have HX1 := Lib.hid x1
  have HS2 := Lib.hid hs2
  have HP := Lib.hid (pay_any k)
  have HBE := Lib.hid (behind_any (r.n : Int) r.s (N : Int))
  have hwr : Hid (IntKind.i64.wrap ((r.n : Int) + (N : Int)) = (r.n : Int) + (N : Int)) := Lib.hid (by rw [IntKind.wrap_i64]; omega)
  clear hA hB hW2 hb2 x0 x1 hs2
  have heq : ¬ (i = 0 ∧ payB k = true) → rfV (refD k N i r).n (refD k N i r).s = .agg #[.int .i64 ((r.n : Int) + (N : Int)), .int .i64 r.s] := fun e => by rw [refD, if_neg e]; simp [rfV]
  by_cases h0 : i = 0
  · subst h0
    cases hp : payB k with
    | true =>
      have he : refD k N 0 r = r := if_pos ⟨rfl, hp⟩
      rw [he]
      rw [hp] at HP
      clear he hp heq
      go_enter Try.func36, Try.ntmps36
      go_upto_region 1 with fail
      rw [show (w.alloc (.cells #[.int .i64 (r.n : Int), .int .i64 r.s] 42)).alloc (.cells #[.int .i64 0, .int .i64 0] 42) = W2 from HW2.out]
      go_wp2_with (go_at_call 37; go_loud (refine (HP.out _).mono ?_; rintro en w1 ⟨rfl, rfl⟩))
      have HY := refO_fill HX1.out (.int .i64 (r.n : Int)) (.int .i64 r.s)
      obtain ⟨z0, z1, _, _⟩ := refO_cells HY
      refine bodyPost_ret (v := rfV r.n r.s) (by simp [results, Try.results36, go_sem, z0, z1]) rfl ?_
      exact ⟨rfl, (HB2.out.setCell (p := ⟨w.heap.size + 1, 0, none⟩) (Nat.le_succ _) _).setCell (p := ⟨w.heap.size + 1, 1, none⟩) (Nat.le_succ _) _⟩
    | false =>
      rw [heq (by rw [hp]; simp)]
      rw [hp] at HP
      clear hp heq
      go_enter Try.func36, Try.ntmps36
      go_upto_region 1 with fail
      rw [show (w.alloc (.cells #[.int .i64 (r.n : Int), .int .i64 r.s] 42)).alloc (.cells #[.int .i64 0, .int .i64 0] 42) = W2 from HW2.out]
      go_wp2_with (first | (go_at_call 37; go_loud (refine (HP.out _).mono ?_; rintro en w1 ⟨rfl, rfl⟩)) | (go_at_call 28; go_loud (refine (HBE.out _ hwr.out).mono ?_; rintro en w5 ⟨rfl, hb5⟩; have HB5 := Lib.hid hb5; have hy1 := (HB5.out.block (w.heap.size + 1) (by have := HS2.out; omega)).trans HX1.out; have HY1 := Lib.hid hy1; obtain ⟨y0, y1, y2, y3⟩ := refO_cells hy1; clear hb5 hy1)))
      obtain ⟨W6, hW6⟩ : ∃ W6, (w5.setCell ⟨w.heap.size + 1, 0, none⟩ (.int .i64 ((r.n : Int) + (N : Int)))).setCell ⟨w.heap.size + 1, 1, none⟩ (.int .i64 r.s) = W6 := ⟨_, rfl⟩
      have hy := refO_fill HY1.out (.int .i64 ((r.n : Int) + (N : Int))) (.int .i64 r.s)
      have hb6 : Below w.heap.size w W6 := by rw [← hW6]; exact ((below_seq HB2.out HB5.out).setCell (p := ⟨w.heap.size + 1, 0, none⟩) (Nat.le_succ _) _).setCell (p := ⟨w.heap.size + 1, 1, none⟩) (Nat.le_succ _) _
      rw [hW6] at hy ⊢
      obtain ⟨z0, z1, _, _⟩ := refO_cells hy
      refine bodyPost_ret (v := .agg #[.int .i64 ((r.n : Int) + (N : Int)), .int .i64 r.s]) (by simp [results, Try.results36, go_sem, z0, z1]) rfl ?_
      exact ⟨rfl, hb6⟩
  · rw [heq (fun h => h0 h.1)]
    have b0' : ((i : Int) == 0) = false := by simpa using h0
    clear h0 heq
    · go_enter Try.func36, Try.ntmps36
      go_upto_region 1 with fail
      rw [show (w.alloc (.cells #[.int .i64 (r.n : Int), .int .i64 r.s] 42)).alloc (.cells #[.int .i64 0, .int .i64 0] 42) = W2 from HW2.out]
      go_wp2_with (go_at_call 28; go_loud (refine (HBE.out _ hwr.out).mono ?_; rintro en w5 ⟨rfl, hb5⟩; have HB5 := Lib.hid hb5; have hy1 := (HB5.out.block (w.heap.size + 1) (by have := HS2.out; omega)).trans HX1.out; have HY1 := Lib.hid hy1; obtain ⟨y0, y1, y2, y3⟩ := refO_cells hy1; clear hb5 hy1))
      obtain ⟨W6, hW6⟩ : ∃ W6, (w5.setCell ⟨w.heap.size + 1, 0, none⟩ (.int .i64 ((r.n : Int) + (N : Int)))).setCell ⟨w.heap.size + 1, 1, none⟩ (.int .i64 r.s) = W6 := ⟨_, rfl⟩
      have hy := refO_fill HY1.out (.int .i64 ((r.n : Int) + (N : Int))) (.int .i64 r.s)
      have hb6 : Below w.heap.size w W6 := by rw [← hW6]; exact ((below_seq HB2.out HB5.out).setCell (p := ⟨w.heap.size + 1, 0, none⟩) (Nat.le_succ _) _).setCell (p := ⟨w.heap.size + 1, 1, none⟩) (Nat.le_succ _) _
      rw [hW6] at hy ⊢
      obtain ⟨z0, z1, _, _⟩ := refO_cells hy
      refine bodyPost_ret (v := .agg #[.int .i64 ((r.n : Int) + (N : Int)), .int .i64 r.s]) (by simp [results, Try.results36, go_sem, z0, z1]) rfl ?_
      exact ⟨rfl, hb6⟩

set_option maxHeartbeats 2000000 in
set_option maxRecDepth 100000 in
theorem dclone_any (y : NV) (w : World) (hok : y.Ok (fun k => k < w.heap.size) w) (hl : y.g.ls.length ≤ 400000000) (hx : y.g.nx.length ≤ 100000000) :
    Calls Try.prog 25 #[y.val] w fun e w' => ∃ x : NV, e = .returned x.val ∧ x.g = y.g ∧ x.Ok (Fresh w.heap.size w'.heap.size) w' ∧ Below w.heap.size w w' := by
  obtain ⟨⟨k, p, ls, nx⟩, lv, nv⟩ := y
  obtain ⟨la, ln, lc, e1, _⟩ := hok.l.open
  obtain ⟨na, nn, nc, e2, _⟩ := hok.n.open
  simp only at e1 e2
  subst e1
  subst e2
  obtain ⟨W2, hW2⟩ : ∃ W2, (w.alloc (.cells #[.int .i64 k, .int .i64 p, .slice la ln lc, .slice na nn nc] 46)).alloc (.cells #[.int .i64 0, .int .i64 0, .slice none 0 0, .slice none 0 0] 46) = W2 := ⟨_, rfl⟩
  obtain ⟨hs2, hb2, x0, x1⟩ := two_made hW2
  obtain ⟨r0, r1, r2, r3, f0, f1, f2, f3⟩ := gcell4 x0
  have HC := Lib.hid (strClone_any (fun k => k < w.heap.size) (.slice la ln lc) ls hl W2 (hok.l.keep (hb2.keeps'.mono (fun k hk => hk))))
  have HN := Lib.hid hok.n
  have HW2 := Lib.hid hW2
  have HB2 := Lib.hid hb2
  have HX0 := Lib.hid x0
  have HX1 := Lib.hid x1
  have HS2 := Lib.hid hs2
  have hx' : nx.length ≤ 100000000 := hx
  clear hok hW2 hb2 x0 x1 hl hx hs2
  go_enter Try.func25, Try.ntmps25
  go_upto_region 1 with fail
  rw [show (w.alloc (.cells #[.int .i64 k, .int .i64 p, .slice la ln lc, .slice na nn nc] 46)).alloc (.cells #[.int .i64 0, .int .i64 0, .slice none 0 0, .slice none 0 0] 46) = W2 from HW2.out]
  go_wp2_with (go_at_call 33; go_loud (refine HC.out.mono ?_; rintro en w3 ⟨ya, yn, yc, rfl, hs3, hb3⟩; have HS3 := Lib.hid hs3; have HB3 := Lib.hid hb3; have y0 := (HB3.out.block _ (by have := HS2.out; omega)).trans HX0.out; obtain ⟨q0, q1, q2, q3, g0, g1, g2, g3⟩ := gcell4 y0; clear hs3 hb3))
  have hrow4 := HN.out.keep (HB2.out.keeps'.mono (fun j hj => hj))
  have hs4 : Below w.heap.size w (w3.setCell ⟨w.heap.size, 2, none⟩ (.slice ya yn yc)) := (below_seq HB2.out HB3.out).setCell (p := ⟨w.heap.size, 2, none⟩) (Nat.le_refl _) _
  obtain ⟨W4, hW4⟩ : ∃ W4, w3.setCell ⟨w.heap.size, 2, none⟩ (.slice ya yn yc) = W4 := ⟨_, rfl⟩
  have hx4 : W4.heap[w.heap.size]? = some (.cells #[.int .i64 k, .int .i64 p, .slice ya yn yc, .slice na nn nc] 46 (0, 0)) := by rw [← hW4]; exact set_block ((HB3.out.block _ (by have := HS2.out; omega)).trans HX0.out) 2 _
  have hx5 : W4.heap[w.heap.size + 1]? = some (.cells #[.int .i64 0, .int .i64 0, .slice none 0 0, .slice none 0 0] 46 (0, 0)) := by rw [← hW4]; exact (set_oth _ _ _ (by omega)).trans ((HB3.out.block _ (by have := HS2.out; omega)).trans HX1.out)
  have hst4 : StrSl (Fresh W2.heap.size w3.heap.size) W4 (.slice ya yn yc) ls := HS3.out.keep (fun j _ hj ho _ => by rw [← hW4]; exact (set_oth _ _ _ (by have := hj.1; have := HS2.out; omega)).trans ho)
  have hsz4 : W4.heap.size = w3.heap.size := by rw [← hW4]; simp [World.setCell]
  rw [hW4] at hs4 ⊢
  obtain ⟨hnn, hsrc⟩ := src_refs (HN.out.keep (hs4.keeps'.mono (fun j hj => hj)))
  refine (cloneRow_refs na nn nc (nx.map refCells) W4 hnn (one_refs nx).1 hsrc (one_refs nx).2 (by simpa using hx')).mono ?_
  rintro en w5 ⟨xa, xn, xc, rfl, hr5, hb5⟩
  have x5 := (hb5.block _ (by have := HS2.out; have := HB3.out.size; omega)).trans hx4
  have x6 := (hb5.block _ (by have := HS2.out; have := HB3.out.size; omega)).trans hx5
  obtain ⟨q0, q1, q2, q3, g0, g1, g2, g3⟩ := gcell4 x5
  have HX5 := Lib.hid x5
  have HX6 := Lib.hid x6
  have HR5 := Lib.hid hr5
  have HB5 := Lib.hid hb5
  have HS4 := Lib.hid hs4
  have HT4 := Lib.hid hst4
  have HZ4 := Lib.hid hsz4
  clear hrow4 hs4 hW4 hx4 hx5 hst4 hsz4 hnn hsrc x5 x6 hr5 hb5
  go_upto_region 3 with fail
  obtain ⟨W6, hW6⟩ : ∃ W6, w5.setCell ⟨w.heap.size, 3, none⟩ (.slice xa xn xc) = W6 := ⟨_, rfl⟩
  have y5 : W6.heap[w.heap.size]? = some (.cells #[.int .i64 k, .int .i64 p, .slice ya yn yc, .slice xa xn xc] 46 (0, 0)) := by rw [← hW6]; exact set_block HX5.out 3 _
  have y6 : W6.heap[w.heap.size + 1]? = some (.cells #[.int .i64 0, .int .i64 0, .slice none 0 0, .slice none 0 0] 46 (0, 0)) := by rw [← hW6]; exact (set_oth _ _ _ (by omega)).trans HX6.out
  have hk6 : ∀ j, j ≠ w.heap.size → W6.heap[j]? = w5.heap[j]? := fun j hj => by rw [← hW6]; exact set_oth _ _ _ hj
  have hz6 : W6.heap.size = w5.heap.size := by rw [← hW6]; simp [World.setCell]
  have hb6 : Below w.heap.size w W6 := by rw [← hW6]; exact (below_seq HS4.out HB5.out).setCell (p := ⟨w.heap.size, 3, none⟩) (Nat.le_refl _) _
  rw [hW6]
  clear hW6 q0 q1 q2 q3 g0 g1 g2 g3 f0 f1 f2 f3
  obtain ⟨p0, p1, p2, p3, _, _, _, _⟩ := gcell4 y5
  obtain ⟨_, _, _, _, g0, g1, g2, g3⟩ := gcell4 y6
  obtain ⟨o0, o1, o2, o3, _, _, _, _⟩ := gcell4 y6
  have HK6 := Lib.hid hk6
  have HZ6 := Lib.hid hz6
  have HB6 := Lib.hid hb6
  have HY6 := Lib.hid y6
  clear hk6 hz6 hb6 y5 y6
  go_wp2_with fail
  obtain ⟨W7, hW7⟩ : ∃ W7, (((W6.setCell ⟨w.heap.size + 1, 0, none⟩ (.int .i64 k)).setCell ⟨w.heap.size + 1, 1, none⟩ (.int .i64 p)).setCell ⟨w.heap.size + 1, 2, none⟩ (.slice ya yn yc)).setCell ⟨w.heap.size + 1, 3, none⟩ (.slice xa xn xc) = W7 := ⟨_, rfl⟩
  have y7 : W7.heap[w.heap.size + 1]? = some (.cells #[.int .i64 k, .int .i64 p, .slice ya yn yc, .slice xa xn xc] 46 (0, 0)) := by rw [← hW7]; exact set_block (set_block (set_block (set_block HY6.out 0 _) 1 _) 2 _) 3 _
  have hk7 : ∀ j, j ≠ w.heap.size + 1 → W7.heap[j]? = W6.heap[j]? := fun j hj => by rw [← hW7]; exact (set_oth _ _ _ hj).trans ((set_oth _ _ _ hj).trans ((set_oth _ _ _ hj).trans (set_oth _ _ _ hj)))
  have hz7 : W7.heap.size = W6.heap.size := by rw [← hW7]; simp [World.setCell]
  have hb7 : Below w.heap.size w W7 := by rw [← hW7]; exact (((HB6.out.setCell (p := ⟨w.heap.size + 1, 0, none⟩) (Nat.le_succ _) _).setCell (p := ⟨w.heap.size + 1, 1, none⟩) (Nat.le_succ _) _).setCell (p := ⟨w.heap.size + 1, 2, none⟩) (Nat.le_succ _) _).setCell (p := ⟨w.heap.size + 1, 3, none⟩) (Nat.le_succ _) _
  rw [hW7]
  clear hW7
  obtain ⟨z0, z1, z2, z3, _, _, _, _⟩ := gcell4 y7
  refine bodyPost_ret (v := .agg #[.int .i64 k, .int .i64 p, .slice ya yn yc, .slice xa xn xc]) (by simp [results, Try.results25, go_sem, z0, z1, z2, z3]) rfl ?_
  have h2 := HS2.out
  have h3 := HB3.out.size
  have h4 := HZ4.out
  have h5 := HB5.out.size
  have h6 := HZ6.out
  have hkk : ∀ j, j ≠ w.heap.size → j ≠ w.heap.size + 1 → W7.heap[j]? = w5.heap[j]? := fun j h1 h2 => (hk7 j h2).trans (HK6.out j h1)
  refine ⟨⟨⟨k, p, ls, nx⟩, .slice ya yn yc, .slice xa xn xc⟩, rfl, rfl, ⟨?_, ?_⟩, hb7⟩
  · refine (HT4.out.keep (fun j _ hj ho _ => ?_)).mono (fun j hj => ⟨by have := hj.1; omega, by have := hj.2; omega⟩)
    exact (hkk j (by have := hj.1; omega) (by have := hj.1; omega)).trans ((HB5.out.block j (by have := hj.2; omega)).trans ho)
  · have hr7 := HR5.out.kept (W' := W7) (fun j hj => by
      have h1 := HR5.out.lt j hj
      exact hkk j (by omega) (by omega))
    exact (hr7.refs (by simp only [maxLen]; omega)).mono (fun j hj => ⟨by have := hj.1; omega, hj.2⟩)
end Go.Proofs.Ytkjngbliomckiaa

/- Duals: the dual of a node, and Close. -/
namespace Go.Proofs.Ytkjngbliomckiaa
open Go.RowKit Go.Deep Go.Shelf

/-- The drawn region of dualNode: two calls, and the node stored. -/
structure DN (X : Nat) (k p : Int) (ls : List ByteArray) (nxv : Value) (V : World) (L : Nat → Bool) (vals : Nat → Value) (w : World) : Prop where
  dn : (L 9 = true → L 2 = true ∧ L 7 = true) ∧ (L 10 = true → L 9 = true)
  out : Out2 X none V w
  v2 : L 2 = true → vals 2 = .int .i64 (kindD k)
  v7 : L 7 = true → ∃ a n c, vals 7 = .slice a n c ∧ StrSl (Fresh V.heap.size w.heap.size) w (.slice a n c) ls
  v9 : L 9 = true → vals 9 = .agg #[.int .i64 (kindD k), .int .i64 p, vals 7, nxv]
  nx : L 10 = false → w.heap[X]? = some (.cells #[.int .i64 0, .int .i64 0, .slice none 0 0, .slice none 0 0] 46 (0, 0))
  nz : L 10 = true → w.heap[X]? = some (.cells #[.int .i64 (kindD k), .int .i64 p, vals 7, nxv] 46 (0, 0))
theorem StrSl.fresh {a b c : Nat} {w w' : World} {v : Value} {ls : List ByteArray} (h : StrSl (Fresh a b) w v ls) (hk : ∀ k, Fresh a b k → w'.heap[k]? = w.heap[k]?) (hc : b ≤ c) : StrSl (Fresh a c) w' v ls :=
  (h.keep (fun k _ hf ho _ => (hk k hf).trans ho)).mono (fun _ hf => ⟨hf.1, Nat.lt_of_lt_of_le hf.2 hc⟩)
theorem enters_dref : ∀ args w, (callFunc 36 args).run Try.prog w = .ok (.enter 36 args) w := enters_of Try.func36 (by kernel_rfl) rfl
theorem enters_c1 : ∀ args w, (callFunc 24 args).run Try.prog w = .ok (.enter 24 args) w := enters_of Try.func24 (by kernel_rfl) rfl
theorem enters_c2 : ∀ args w, (callFunc 26 args).run Try.prog w = .ok (.enter 26 args) w := enters_of Try.func26 (by kernel_rfl) rfl

set_option maxHeartbeats 4000000 in
set_option maxRecDepth 100000 in
theorem dualNode_any (y : NV) (N : Nat) (w : World) (hok : y.Ok (fun k => k < w.heap.size) w) (hl : y.g.ls.length ≤ 400000000) (hx : y.g.nx.length ≤ 100000000) (hN : N ≤ 1000000000) (hr : ∀ r ∈ y.g.nx, r.n ≤ 1000000000) :
    Calls Try.prog 27 #[y.val, .int .i64 (N : Int)] w fun e w' => ∃ x : NV, e = .returned x.val ∧ x.g = nodeD N y.g ∧ x.Ok (Fresh w.heap.size w'.heap.size) w' ∧ Below w.heap.size w w' := by
  obtain ⟨⟨k, p, ls, nx⟩, lv, nv⟩ := y
  obtain ⟨la, ln, lc, e1, _⟩ := hok.l.open
  obtain ⟨na, nn, nc, e2, _⟩ := hok.n.open
  simp only at e1 e2
  subst e1
  subst e2
  obtain ⟨W3, hW3⟩ : ∃ W3, ((w.alloc (.cells #[.int .i64 k, .int .i64 p, .slice la ln lc, .slice na nn nc] 46)).alloc (.cells #[.int .i64 (N : Int)] 3)).alloc (.cells #[.int .i64 0, .int .i64 0, .slice none 0 0, .slice none 0 0] 46) = W3 := ⟨_, rfl⟩
  obtain ⟨hs3, hb3, x0, x1, x2⟩ := three_made hW3
  obtain ⟨r0, r1, r2, r3, _, _, _, _⟩ := gcell4 x0
  have n0 : W3.cell? ⟨w.heap.size + 1, 0, none⟩ = some (.int .i64 (N : Int)) := by simp [World.cell?, x1]
  obtain ⟨hnn, hsrc⟩ := src_refs (hok.n.keep (hb3.keeps'.mono (fun k hk => hk)))
  have hk0 : ∀ W, Below W3.heap.size W3 W → W.cell? ⟨w.heap.size, 0, none⟩ = some (.int .i64 k) := fun W hW => (hW.cell (p := ⟨w.heap.size, 0, none⟩) (by show w.heap.size < _; omega)).trans r0
  have hn0 : ∀ W, Below W3.heap.size W3 W → W.cell? ⟨w.heap.size + 1, 0, none⟩ = some (.int .i64 (N : Int)) := fun W hW => (hW.cell (p := ⟨w.heap.size + 1, 0, none⟩) (by show w.heap.size + 1 < _; omega)).trans n0
  have hmap : MapsR 36 #[.pointer (some ⟨w.heap.size, 0, none⟩), .pointer (some ⟨w.heap.size + 1, 0, none⟩)] W3 nx (refD k N) := fun i r hi wr hwr => by
    have h1 := (List.getElem?_eq_some_iff.1 hi).1
    exact dualRef_any i r w.heap.size (w.heap.size + 1) k N wr (by simp only at hx; omega) (hr r (List.mem_of_getElem? hi)) hN (fun W hW => hk0 W (below_seq hwr hW)) (fun W hW => hn0 W (below_seq hwr hW))
  have HM := Lib.hid (mappedR_any na nn nc nx (refD k N) 36 #[.pointer (some ⟨w.heap.size, 0, none⟩), .pointer (some ⟨w.heap.size + 1, 0, none⟩)] W3 hnn hsrc hx enters_dref hmap)
  have HL := Lib.hid (hok.l.keep (hb3.keeps'.mono (fun k hk => hk)))
  have HW3 := Lib.hid hW3
  have HB3 := Lib.hid hb3
  have HX0 := Lib.hid x0
  have HX2 := Lib.hid x2
  have HS3 := Lib.hid hs3
  have hx' : nx.length ≤ 100000000 := hx
  have hl' : ls.length ≤ 400000000 := hl
  clear hok hW3 hb3 x0 x1 x2 hl hx hs3 hnn hsrc hk0 hn0 hmap hr
  go_enter Try.func27, Try.ntmps27
  go_upto_region 1 with fail
  rw [show ((w.alloc (.cells #[.int .i64 k, .int .i64 p, .slice la ln lc, .slice na nn nc] 46)).alloc (.cells #[.int .i64 (N : Int)] 3)).alloc (.cells #[.int .i64 0, .int .i64 0, .slice none 0 0, .slice none 0 0] 46) = W3 from HW3.out]
  go_upto_region 2 with (go_at_call 35; go_loud (refine HM.out.mono ?_; rintro en V ⟨xa, xn, xc, rfl, hrowV, hbV⟩; have HRV := Lib.hid hrowV; have HBV := Lib.hid hbV; clear hrowV hbV))
  clear r0 r1 r2 r3 n0
  have hWV := HBV.out.size
  have HX0V := Lib.hid ((HBV.out.block w.heap.size (by have := HS3.out; omega)).trans HX0.out)
  have HX2V := Lib.hid ((HBV.out.block (w.heap.size + 2) (by have := HS3.out; omega)).trans HX2.out)
  have h3V : w.heap.size + 3 ≤ V.heap.size := by have := HS3.out; omega
  have HS : Hid (∀ W, Out2 (w.heap.size + 2) none V W → W.cell? ⟨w.heap.size, 0, none⟩ = some (.int .i64 k) ∧ W.cell? ⟨w.heap.size, 1, none⟩ = some (.int .i64 p) ∧ W.cell? ⟨w.heap.size, 2, none⟩ = some (.slice la ln lc)) := Lib.hid (fun W hW => by
    obtain ⟨r0, r1, r2, r3, _, _, _, _⟩ := gcell4 ((hW.block w.heap.size (by omega) (by omega) (by simp)).trans HX0V.out)
    exact ⟨r0, r1, r2⟩)
  have HK := Lib.hid (fun W => dkind_any k W)
  have HC : Hid (∀ W, Out2 (w.heap.size + 2) none V W → Calls Try.prog 33 #[.slice la ln lc] W (StrRet W ls)) := Lib.hid (fun W hW => strClone_any (fun k => k < w.heap.size) (.slice la ln lc) ls hl' W ((HL.out.keep (HBV.out.keeps'.mono (fun j hj => by have := HS3.out; omega))).keep (hW.keeps (fun j hj => ⟨by omega, by omega, by simp⟩))))
  refine wp_region_held_drew (S := fun W => W.cell? ⟨w.heap.size, 0, none⟩ = some (.int .i64 k) ∧ W.cell? ⟨w.heap.size, 1, none⟩ = some (.int .i64 p) ∧ W.cell? ⟨w.heap.size, 2, none⟩ = some (.slice la ln lc)) (by kernel_rfl) (HS.out V (Out2.refl _ _ _)) (fun hHeld => ?_)
  refine wpAnyH_take_l 0 (v := ?v0) rfl rfl (by kernel_rfl) (by kernel_rfl) (by kernel_rfl) (fun _ _ _ h => h) ?h0 (by assumption) ?r0
  case h0 => (intro w hSw; (try dsimp only at hSw); go_simp; try rfl)
  case' r0 => simp only [setD, List.set_cons_succ, List.set_cons_zero]
  refine wpAnyH_take_l 1 (v := ?v1) rfl rfl (by kernel_rfl) (by kernel_rfl) (by kernel_rfl) (fun _ _ _ h => h) ?h1 (by assumption) ?r1
  case h1 => (intro w hSw; (try dsimp only at hSw); go_simp; try rfl)
  case' r1 => simp only [setD, List.set_cons_succ, List.set_cons_zero]
  refine wpAnyH_take_l 3 (v := ?v3) rfl rfl (by kernel_rfl) (by kernel_rfl) (by kernel_rfl) (fun _ _ _ h => h) ?h3 (by assumption) ?r3
  case h3 => (intro w hSw; (try dsimp only at hSw); go_simp; try rfl)
  case' r3 => simp only [setD, List.set_cons_succ, List.set_cons_zero]
  refine wpAnyH_take_l 4 (v := ?v4) rfl rfl (by kernel_rfl) (by kernel_rfl) (by kernel_rfl) (fun _ _ _ h => h) ?h4 (by assumption) ?r4
  case h4 => (intro w hSw; (try dsimp only at hSw); go_simp; try rfl)
  case' r4 => simp only [setD, List.set_cons_succ, List.set_cons_zero]
  refine wpAnyH_take_l 5 (v := ?v5) rfl rfl (by kernel_rfl) (by kernel_rfl) (by kernel_rfl) (fun _ _ _ h => h) ?h5 (by assumption) ?r5
  case h5 => (intro w hSw; (try dsimp only at hSw); go_simp; try rfl)
  case' r5 => simp only [setD, List.set_cons_succ, List.set_cons_zero]
  refine wpAnyH_take_l 6 (v := ?v6) rfl rfl (by kernel_rfl) (by kernel_rfl) (by kernel_rfl) (fun _ _ _ h => h) ?h6 (by assumption) ?r6
  case h6 => (intro w hSw; (try dsimp only at hSw); go_simp; try rfl)
  case' r6 => simp only [setD, List.set_cons_succ, List.set_cons_zero]
  refine wpAnyH_take_l 8 (v := ?v8) rfl rfl (by kernel_rfl) (by kernel_rfl) (by kernel_rfl) (fun _ _ _ h => h) ?h8 (by assumption) ?r8
  case h8 => (intro w hSw; (try dsimp only at hSw); go_simp; try rfl)
  case' r8 => simp only [setD, List.set_cons_succ, List.set_cons_zero]
  refine wpAnyH_start [2, 7, 9, 10] (DN (w.heap.size + 2) k p ls (.slice xa xn xc) V) (by kernel_rfl) (by kernel_rfl) (fun L vals W hR => HS.out _ hR.out) ?start ?steps ?stop
  case start => exact ⟨⟨fun h => (Bool.false_ne_true h).elim, fun h => (Bool.false_ne_true h).elim⟩, (Out2.refl _ _ _).drew, fun h => (Bool.false_ne_true h).elim, fun h => (Bool.false_ne_true h).elim, fun h => (Bool.false_ne_true h).elim, fun _ => HX2V.out, fun h => (Bool.false_ne_true h).elim⟩
  case steps =>
    refine List.forall_mem_cons.2 ⟨?_, List.forall_mem_cons.2 ⟨?_, List.forall_mem_cons.2 ⟨?_, List.forall_mem_cons.2 ⟨?_, fun _ h => by cases h⟩⟩⟩⟩
    · refine InvStep.list (k := 2) rfl rfl [] (by kernel_rfl) [(2, some 12), (7, some 17), (9, some 19), (10, none)] (by kernel_rfl) (by decide) (fun L vals olds wx hLk hdeps hR K hK => ?_)
      have hK2 := hK.out
      clear hK
      simp only [fillL, setD, List.set_cons_succ, List.set_cons_zero] at hK2 ⊢
      clear hdeps
      go_simp
      refine (HK.out _).mono ?_
      rintro en w9 ⟨rfl, hb9⟩
      dsimp only
      obtain ⟨rD, rO, r2, r7, r9, rx, rz⟩ := hR
      have hblk : ∀ j, j < wx.heap.size → w9.heap[j]? = wx.heap[j]? := fun j hj => hb9.block j hj
      have hXl : w.heap.size + 2 < wx.heap.size := by have := rO.size; omega
      refine hK2 _ _ ⟨⟨fun h => ⟨rfl, (rD.1 h).2⟩, rD.2⟩, rO.to hb9, fun _ => rfl, fun h => ?_, r9, fun h => (hblk _ hXl).trans (rx h), fun h => (hblk _ hXl).trans (rz h)⟩
      obtain ⟨a, n, c, e, hs⟩ := r7 h
      exact ⟨a, n, c, e, hs.fresh (fun j hj => hblk j hj.2) hb9.size⟩
    · refine InvStep.list (k := 7) rfl rfl [] (by kernel_rfl) [(2, some 12), (7, some 17), (9, some 19), (10, none)] (by kernel_rfl) (by decide) (fun L vals olds wx hLk hdeps hR K hK => ?_)
      have hK2 := hK.out
      clear hK
      simp only [fillL, setD, List.set_cons_succ, List.set_cons_zero] at hK2 ⊢
      clear hdeps
      have f9 : L 9 = false := by
        cases e : L 9 with
        | false => rfl
        | true => rw [(hR.dn.1 e).2] at hLk; cases hLk
      have f10 : L 10 = false := by
        cases e : L 10 with
        | false => rfl
        | true => rw [hR.dn.2 e] at f9; cases f9
      go_simp
      refine (HC.out _ hR.out).mono ?_
      rintro en w9 ⟨ya, yn, yc, rfl, hs9, hb9⟩
      dsimp only
      obtain ⟨rD, rO, r2, r7, r9, rx, rz⟩ := hR
      have hblk : ∀ j, j < wx.heap.size → w9.heap[j]? = wx.heap[j]? := fun j hj => hb9.block j hj
      have hXl : w.heap.size + 2 < wx.heap.size := by have := rO.size; omega
      exact hK2 _ _ ⟨⟨fun h => absurd (f9.symm.trans h) (by decide), rD.2⟩, rO.to hb9, r2, fun _ => ⟨ya, yn, yc, rfl, hs9.mono (Fresh.mono rO.size (Nat.le_refl _))⟩, fun h => absurd (f9.symm.trans h) (by decide), fun h => (hblk _ hXl).trans (rx h), fun h => absurd (f10.symm.trans h) (by decide)⟩
    · refine InvStep.list (k := 9) rfl rfl [2, 7] (by kernel_rfl) [(2, some 12), (7, some 17), (9, some 19), (10, none)] (by kernel_rfl) (by decide) (fun L vals olds wx hLk hdeps hR K hK => ?_)
      have hK2 := hK.out
      clear hK
      simp only [fillL, setD, List.set_cons_succ, List.set_cons_zero] at hK2 ⊢
      simp only [List.all_cons, List.all_nil, Bool.and_true, Bool.and_eq_true] at hdeps
      have f10 : L 10 = false := by
        cases e : L 10 with
        | false => rfl
        | true => rw [hR.dn.2 e] at hLk; cases hLk
      have es2 := (slotO_done (vals := vals) (olds := olds) hdeps.1).trans (hR.v2 hdeps.1)
      obtain ⟨ya, yn, yc, e7, hs7⟩ := hR.v7 hdeps.2
      have es7 := (slotO_done (vals := vals) (olds := olds) hdeps.2).trans e7
      simp only [es2, es7] at hK2 ⊢
      clear es2 es7 hs7
      have E7 := Lib.hid e7
      clear e7
      go_simp
      obtain ⟨rD, rO, r2, r7, r9, rx, rz⟩ := hR
      refine hK2 _ _ ⟨⟨fun _ => hdeps, fun h => absurd (f10.symm.trans h) (by decide)⟩, rO, r2, r7, fun _ => ?_, rx, fun h => absurd (f10.symm.trans h) (by decide)⟩
      show _ = Value.agg #[_, _, vals 7, _]
      rw [E7.out]; rfl
    · refine InvStep.list (k := 10) rfl rfl [9] (by kernel_rfl) [(2, some 12), (7, some 17), (9, some 19), (10, none)] (by kernel_rfl) (by decide) (fun L vals olds wx hLk hdeps hR K hK => ?_)
      have hK2 := hK.out
      clear hK
      simp only [fillL, setD, List.set_cons_succ, List.set_cons_zero] at hK2 ⊢
      simp only [List.all_cons, List.all_nil, Bool.and_true] at hdeps
      have h7 := (hR.dn.1 hdeps).2
      obtain ⟨ya, yn, yc, e7, hs7⟩ := hR.v7 h7
      have es9 := (slotO_done (vals := vals) (olds := olds) hdeps).trans (hR.v9 hdeps)
      rw [e7] at es9
      simp only [es9] at hK2 ⊢
      obtain ⟨q0, q1, q2, q3, p0, p1, p2, p3⟩ := gcell4 (hR.nx hLk)
      have E7 := Lib.hid e7
      have HS7 := Lib.hid hs7
      have HXX := Lib.hid (hR.nx hLk)
      clear e7 hs7 es9
      go_simp
      clear q0 q1 q2 q3 p0 p1 p2 p3
      obtain ⟨rD, rO, r2, r7, r9, rx, rz⟩ := hR
      refine hK2 undef _ ⟨⟨rD.1, fun _ => hdeps⟩, (((rO.store 0 _).store 1 _).store 2 _).store 3 _, r2, fun _ => ⟨ya, yn, yc, E7.out, ?_⟩, r9, fun h => absurd ((updL_same L 10).symm.trans h) (by decide), fun _ => ?_⟩
      · refine HS7.out.fresh (fun j hj => ?_) (by simp [World.setCell])
        have hne : j ≠ w.heap.size + 2 := by have := hj.1; omega
        exact (set_oth _ _ _ hne).trans ((set_oth _ _ _ hne).trans ((set_oth _ _ _ hne).trans (set_oth _ _ _ hne)))
      · show _ = some (Obj.cells #[_, _, vals 7, _] _ _)
        rw [E7.out]
        exact set_block (set_block (set_block (set_block HXX.out 0 _) 1 _) 2 _) 3 _
  case stop =>
    refine end_plain [(2, some 12), (7, some 17), (9, some 19), (10, none)] (by kernel_rfl) (by decide) (fun L vals olds w5 hall hR => ?_)
    simp only [List.all_cons, List.all_nil, Bool.and_true, Bool.and_eq_true] at hall
    obtain ⟨h2, h7, h9, h10⟩ := hall
    obtain ⟨ya, yn, yc, e7, hs7⟩ := hR.v7 h7
    have hz := hR.nz h10
    rw [e7] at hz
    have HO := Lib.hid hR.out
    have HS7 := Lib.hid hs7
    have HZ := Lib.hid hz
    simp only [fillL, List.set_cons_succ, List.set_cons_zero]
    clear hR h2 h7 h9 h10 e7 hs7 hz hHeld
    go_wp2_with fail
    obtain ⟨q0, q1, q2, q3, _, _, _, _⟩ := gcell4 HZ.out
    refine bodyPost_ret (v := .agg #[.int .i64 (kindD k), .int .i64 p, .slice ya yn yc, .slice xa xn xc]) (by simp [results, Try.results27, go_sem, q0, q1, q2, q3]) rfl ?_
    have h5 := HO.out.size
    refine ⟨⟨⟨kindD k, p, ls, nx.mapIdx (refD k N)⟩, .slice ya yn yc, .slice xa xn xc⟩, rfl, rfl, ⟨?_, ?_⟩, ?_⟩
    · exact HS7.out.mono (fun j hj => ⟨by have := hj.1; omega, hj.2⟩)
    · have hr5 := HRV.out.kept (W' := w5) (fun j hj => by
        have h1 := HRV.out.lt j hj
        have := HS3.out
        exact HO.out.block j h1.2 (by omega) (by simp))
      exact (hr5.refs (by simp only [List.length_mapIdx, maxLen]; omega)).mono (fun j hj => ⟨by have := hj.1; have := HS3.out; omega, hj.2⟩)
    · exact (HB3.out.trans (HBV.out.mono (by have := HS3.out; omega))).trans (HO.out.below (by omega) (fun j hj => by cases hj) (by omega))
end Go.Proofs.Ytkjngbliomckiaa

/- Heads: Next, After, Label; slices.Index. -/
namespace Go.Proofs.Ytkjngbliomckiaa
open Go.RowKit Go.Deep Go.Shelf

abbrev rfZ : Value := .agg #[.int .i64 0, .int .i64 0]
/-- The reference behind a reference. -/
def nextE (ns : List GNode) (r : GRef) (i : Int) : Option GRef := match ns[r.n]? with
  | some g => if 0 ≤ i then (match g.nx[i.toNat]? with | some q => some ⟨q.n, q.s + r.s⟩ | none => none) else none
  | none => none
def refR : Option GRef → Value
  | some q => .tuple #[rfV q.n q.s, .bool true]
  | none => .tuple #[rfZ, .bool false]
/-- The shifts of a graph are small. -/
def smallG (ns : List GNode) : Prop := ∀ g ∈ ns, (0 ≤ g.p ∧ g.p ≤ 1000000) ∧ ∀ q ∈ g.nx, -1000000 ≤ q.s ∧ q.s ≤ 1000000

theorem next_none {ns : List GNode} {r : GRef} {g : GNode} {i : Int} (hg : ns[r.n]? = some g) (h : i < 0 ∨ (g.nx.length : Int) ≤ i) : nextE ns r i = none := by
  unfold nextE
  rw [hg]
  simp only
  by_cases h0 : 0 ≤ i
  · rw [if_pos h0, List.getElem?_eq_none (by omega)]
  · rw [if_neg h0]
theorem next_some {ns : List GNode} {r : GRef} {g : GNode} {q : GRef} {j : Nat} (hg : ns[r.n]? = some g) (hq : g.nx[j]? = some q) : nextE ns r (j : Int) = some ⟨q.n, q.s + r.s⟩ := by
  unfold nextE
  rw [hg]
  simp only
  rw [if_pos (by omega), Int.toNat_natCast, hq]

/-! ### slices.Index -/
def idxE (x : ByteArray) : List ByteArray → Int → Int
  | [], _ => -1
  | y :: r, j => if y = x then j else idxE x r (j + 1)
end Go.Proofs.Ytkjngbliomckiaa

/- Heads: After. -/
namespace Go.Proofs.Ytkjngbliomckiaa
open Go.RowKit Go.Deep Go.Shelf

/-- A list of numbers in memory. -/
structure IntSl (w : World) (pa : Option Addr) (pn : Nat) (xs : List Int) : Prop where
  len : pn = xs.length
  get : ∀ (j : Nat) (x : Int), xs[j]? = some x → ∃ b o, pa = some ⟨b, o, none⟩ ∧ b < w.heap.size ∧ w.cell? ⟨b, o + j, none⟩ = some (.int .i64 x)
theorem IntSl.to {w w' : World} {pa : Option Addr} {pn : Nat} {xs : List Int} (h : IntSl w pa pn xs) (hb : Below w.heap.size w w') : IntSl w' pa pn xs :=
  ⟨h.len, fun j x hj => by
    obtain ⟨b, o, e, hl, hc⟩ := h.get j x hj
    exact ⟨b, o, e, Nat.lt_of_lt_of_le hl hb.size, (hb.cell (p := ⟨b, _, none⟩) hl).trans hc⟩⟩
/-- Where a path leads. -/
def aftE (ns : List GNode) : GRef → List Int → Option GRef
  | r, [] => some r
  | r, i :: l => match nextE ns r i with
    | some q => aftE ns q l
    | none => none
theorem next_in {ns : List GNode} (hw : wfG ns) (hs : smallG ns) {r q : GRef} {i : Int} (h : nextE ns r i = some q) : q.n < ns.length ∧ -1000000 ≤ q.s - r.s ∧ q.s - r.s ≤ 1000000 := by
  unfold nextE at h
  split at h
  · next g hg =>
    split at h
    · split at h
      · next p hp =>
        obtain rfl := Option.some.inj h
        have hm := List.mem_of_getElem? hp
        have h1 := hw r.n g hg p hm
        have h2 := (hs g (List.mem_of_getElem? hg)).2 p hm
        exact ⟨h1, by simp only; omega, by simp only; omega⟩
      · cases h
    · cases h
  · cases h

end Go.Proofs.Ytkjngbliomckiaa

/- Heads: the priorities of references, one after the other. -/
namespace Go.Proofs.Ytkjngbliomckiaa
open Go.RowKit Go.Deep Go.Shelf
attribute [local go_sem] Oper.semAt_some

def prioE (ns : List GNode) (r : GRef) : Option Int := match ns[r.n]? with
  | some g => if actI g.k = true then some (g.p + r.s) else none
  | none => none
def priosE (ns : List GNode) (rs : List GRef) : List Int := rs.filterMap (prioE ns)
theorem prios_snoc {ns : List GNode} {rs : List GRef} {j : Nat} {r : GRef} (h : rs[j]? = some r) : priosE ns (rs.take (j + 1)) = priosE ns (rs.take j) ++ (prioE ns r).toList := by
  unfold priosE
  rw [take_snoc_get h, List.filterMap_append]
  congr 1
theorem prios_prefix (ns : List GNode) (rs : List GRef) (j : Nat) : priosE ns (rs.take j) <+: priosE ns rs := by
  refine ⟨priosE ns (rs.drop j), ?_⟩
  unfold priosE
  rw [← List.filterMap_append, List.take_append_drop]
theorem grown_of_below {w w' : World} (h : Below w.heap.size w w') : w.grownBy w' none := ⟨h.os, h.tape, h.output, h.size, fun k hk _ => h.block k hk⟩
abbrev rfO (ra : Option Addr) (rn rc : Nat) : Obj := .cells #[.slice ra rn rc] 28

end Go.Proofs.Ytkjngbliomckiaa

/- Heads: fold over the priorities; Lowest. -/
namespace Go.Proofs.Ytkjngbliomckiaa
open Go.RowKit Go.Deep Go.Shelf
attribute [local go_sem] Oper.semAt_some

/-- The least number of a list. -/
def minF : List Int → Int
  | [] => 0
  | x :: l => l.foldl min x
theorem minF_snoc (pre : List Int) (x : Int) : minF (pre ++ [x]) = if pre.isEmpty = true then x else min (minF pre) x := by
  cases pre with
  | nil => rfl
  | cons y r => simp [minF, List.foldl_append]
/-- What Lowest answers. -/
def lowV (l : List Int) : Value := .tuple #[.int .i64 (minF l), .bool (!l.isEmpty)]
end Go.Proofs.Ytkjngbliomckiaa

/- Processes: the reference's Texts and Same. -/
namespace Go.Proofs.Ytkjngbliomckiaa
open Go.RowKit Go.Deep Go.Shelf

set_option maxHeartbeats 1000000 in
/-- Lists of texts, compared by the reference. -/
theorem ptexts_any (B : Nat → Prop) (v v' : Value) (ls ls' : List ByteArray) (w : World) (h : StrSl B w v ls) (h' : StrSl B w v' ls') :
    Calls Try.prog 22 #[v, v'] w fun e w' => e = .returned (.bool (decide (ls = ls'))) ∧ Drew w w' := by
  obtain ⟨pa, len, c, rfl, hlen, hm, hget⟩ := h.open
  obtain ⟨pa', len', c', rfl, hlen', hm', hget'⟩ := h'.open
  have HG := Lib.hid hget
  have HG' := Lib.hid hget'
  clear hget hget' h h'
  by_cases hl : len = len'
  · subst hl
    go_enter Try.func22, Try.ntmps22
    go_wp2_with fail
    go_loopw [5] (fun i wr => ∃ (j : Nat), i = .int .i64 j ∧ j ≤ len ∧ Hid (ls.take j = ls'.take j) ∧ Drew w wr) (fun i _ => len - (intOf i).toNat)
    case atStart => exact ⟨0, rfl, by omega, Lib.hid (by simp), Drew.refl _⟩
    case round =>
      obtain ⟨j, rfl, hj, HT, hd⟩ := hrel
      by_cases hlt : j < len
      · obtain ⟨s, hs⟩ : ∃ s, ls[j]? = some s := ⟨_, List.getElem?_eq_getElem (by rw [← hlen.out]; exact hlt)⟩
        obtain ⟨s', hs'⟩ : ∃ s', ls'[j]? = some s' := ⟨_, List.getElem?_eq_getElem (by rw [← hlen'.out]; exact hlt)⟩
        obtain ⟨_, kb, ko, rfl, hkb, hc⟩ := HG.out j s hs
        obtain ⟨_, kb', ko', rfl, hkb', hc'⟩ := HG'.out j s' hs'
        replace hc : wr.cell? ⟨kb, ko + j, none⟩ = some (.string s) := by obtain ⟨m, rfl⟩ := hd; exact hc
        replace hc' : wr.cell? ⟨kb', ko' + j, none⟩ = some (.string s') := by obtain ⟨m, rfl⟩ := hd; exact hc'
        by_cases hss : s = s'
        · subst hss
          have hn : Hid (ls.take (j + 1) = ls'.take (j + 1)) := Lib.hid (by rw [take_snoc_get hs, take_snoc_get hs', HT.out])
          clear hs hs'
          go_wp2_with fail
          go_quiet (fail)
          go_wp2_with fail
          go_roundw
          case rel => exact ⟨j + 1, by go_num, by omega, hn, hd.more _⟩
          case measure => simp [intOf]; omega
        · have hne : Hid (ls ≠ ls') := Lib.hid (fun e => hss (by rw [e, hs'] at hs; exact (Option.some.inj hs).symm))
          have hb1 := str_ne hss
          have hb2 : (s.toList == s'.toList) = false := by simpa using hb1
          clear hs hs' hss
          go_wp2_with fail
          go_quiet (fail)
          go_wp2_with fail
          go_ret
          exact ⟨ret_bool (by simp [hne.out]), hd.more _⟩
      · obtain rfl : j = len := by omega
        go_wp2_with fail
        go_ret
        refine ⟨ret_bool ?_, hd⟩
        have := HT.out
        rw [List.take_of_length_le (by rw [hlen.out]; exact Nat.le_refl _), List.take_of_length_le (by rw [hlen'.out]; exact Nat.le_refl _)] at this
        simp [this]
  · have hl' : (len != len') = true := by simpa using hl
    have hne : ls ≠ ls' := fun e => hl (by rw [hlen.out, hlen'.out, e])
    have HN := Lib.hid hne
    clear hne
    go_enter Try.func22, Try.ntmps22
    go_wp2_with fail
    go_ret
    exact ⟨ret_bool (by simp [HN.out]), Drew.refl _⟩

end Go.Proofs.Ytkjngbliomckiaa

/- Graphs: the law's comparison of a graph with the reference's. -/
namespace Go.Proofs.Ytkjngbliomckiaa
open Go.RowKit Go.Deep Go.Shelf

end Go.Proofs.Ytkjngbliomckiaa

/- Graphs: the reference's Few (lists of few right types). -/
namespace Go.Proofs.Ytkjngbliomckiaa
open Go.RowKit Go.Deep Go.Shelf

/-- Few types, all of them small and right. -/
def fewB (ts : List Ty) (m z : Nat) : Bool := decide (ts.length ≤ m) && ts.all (fun t => smallB t z)
theorem fewB_all {ts : List Ty} {m z : Nat} (h : fewB ts m z = true) : ts.length ≤ m ∧ ∀ t ∈ ts, t.size ≤ z ∧ t.depth ≤ 150 ∧ rightE t = 0 := by
  simp only [fewB, Bool.and_eq_true, decide_eq_true_eq, List.all_eq_true, smallB, Ty.few] at h
  exact ⟨h.1, fun t ht => by have := h.2 t ht; exact ⟨this.1.1, by omega, this.2⟩⟩
set_option maxHeartbeats 4000000 in
set_option maxRecDepth 100000 in
theorem few_any (ts : List Ty) (m z : Nat) (hz : z ≤ 1000000) (v : Value) (w : World) (hts : TySl (fun k => k < w.heap.size) w v ts) :
    Calls Try.prog 8 #[v, .int .i64 (m : Int), .int .i64 (z : Int)] w fun e w' => e = .returned (.bool (fewB ts m z)) ∧ Below w.heap.size w w' := by
  obtain ⟨pa, len, c, rfl, hlen, hmx, hget⟩ := hts.open
  have HG := Lib.hid hget
  have HL := Lib.hid hlen.out
  clear hget hts hlen
  by_cases hlm : len ≤ m
  · have hd1 : decide (m < len) = false := by simpa using hlm
    have hd2 : decide ((m : Int) < (len : Int)) = false := by simpa using hlm
    have HLM := Lib.hid hlm
    clear hlm
    go_enter Try.func8, Try.ntmps8
    go_wp2_with fail
    go_loopw [7] (fun i wr => ∃ j : Nat, i = .int .i64 j ∧ j ≤ len ∧ Hid ((ts.take j).all (fun t => smallB t z) = true) ∧ Below w.heap.size w wr) (fun i _ => len - (intOf i).toNat)
    case atStart => exact ⟨0, rfl, by omega, Lib.hid (by simp), Below.refl _ _⟩
    case round =>
      obtain ⟨j, rfl, hj, HT, hb⟩ := hrel
      by_cases hlt : j < len
      · obtain ⟨t, ht⟩ : ∃ t, ts[j]? = some t := ⟨_, List.getElem?_eq_getElem (by rw [← HL.out]; exact hlt)⟩
        obtain ⟨kb, ko, rfl, hkb, hty⟩ := HG.out j t ht
        obtain ⟨lv', kv', ⟨d0, d1, d2, d3, d4, d5⟩, hval⟩ := (hty.keep (hb.keeps'.mono (fun k hk => hk))).load
        have HS := Lib.hid (small_any t z hz _ wr (TyVal.mono (C := fun k => k < wr.heap.size) (fun k hk => Nat.lt_of_lt_of_le hk hb.size) hval))
        obtain ⟨sb, hsb⟩ : ∃ b, smallB t z = b := ⟨_, rfl⟩
        rw [hsb] at HS
        have HN : Hid ((ts.take (j + 1)).all (fun t => smallB t z) = sb) := Lib.hid (by rw [take_snoc_get ht, List.all_append, HT.out, ← hsb]; simp)
        clear hsb ht hval hty
        cases sb
        · go_wp2_with (go_at_call 17; refine HS.out.mono ?_; rintro e w1 ⟨rfl, hb1⟩)
          go_ret
          refine ⟨ret_bool ?_, below_seq hb hb1⟩
          have h := HN.out
          cases hf : fewB ts m z with
          | false => rfl
          | true =>
            simp only [fewB, Bool.and_eq_true, List.all_eq_true] at hf
            rw [List.all_eq_true.2 (fun t ht => hf.2 t (List.mem_of_mem_take ht))] at h
            cases h
        · go_wp2_with (go_at_call 17; refine HS.out.mono ?_; rintro e w1 ⟨rfl, hb1⟩)
          go_roundw
          case rel => exact ⟨j + 1, by go_num, by omega, HN, below_seq hb hb1⟩
          case measure => simp [intOf]; omega
      · obtain rfl : j = len := by omega
        have hf : fewB ts m z = true := by
          have h := HT.out
          rw [List.take_of_length_le (by rw [HL.out]; exact Nat.le_refl _)] at h
          rw [fewB, h, Bool.and_true, decide_eq_true_eq, ← HL.out]; exact HLM.out
        have HF := Lib.hid hf
        clear hf
        go_wp2_with fail
        go_ret
        exact ⟨ret_bool HF.out.symm, hb⟩
  · have hf : fewB ts m z = false := by
      rw [fewB, decide_eq_false (by rw [← HL.out]; exact hlm)]; rfl
    rw [hf]
    clear hf
    go_enter Try.func8, Try.ntmps8
    go_wp2_with fail
    go_ret
    exact ⟨rfl, Below.refl _ _⟩
end Go.Proofs.Ytkjngbliomckiaa

/- Graphs: the law that the program's graph is the reference's. -/
namespace Go.Proofs.Ytkjngbliomckiaa
open Go.RowKit Go.Deep Go.Shelf

theorem pnods_nx (e : ByteArray → Nat) : ∀ (l : List Ty) (i : Nat), ∀ x ∈ Ty.pnods i e l, x.nx.length ≤ Ty.sizes l
  | [], i, x, hx => by rw [Ty.pnods] at hx; cases hx
  | t :: r, i, x, hx => by
    rw [Ty.pnods] at hx
    rw [Ty.sizes]
    rcases List.mem_append.1 hx with hx | hx
    · have := pnod_nx t i e x hx; omega
    · have := pnods_nx e r _ x hx; omega
/-- What few right types give. -/
theorem few_facts {ts : List Ty} {m z : Nat} (h : fewB ts m z = true) (hz : z ≤ 1000) : ts.length ≤ m ∧ Ty.sizes ts ≤ m * z ∧ Ty.depths ts ≤ 150 ∧ Ty.okgs ts ∧ (∀ t ∈ ts, nodeR [] 0 false t = 0) ∧ ∀ t ∈ ts, t.depth ≤ 800 := by
  obtain ⟨hl, ha⟩ := fewB_all h
  have hsz : ∀ l : List Ty, (∀ t ∈ l, t.size ≤ z) → Ty.sizes l ≤ l.length * z := by
    intro l
    induction l with
    | nil => intro _; simp [Ty.sizes]
    | cons t r ih =>
      intro hh
      have h1 := hh t (by simp)
      have h2 := ih (fun u hu => hh u (by simp [hu]))
      rw [Ty.sizes, List.length_cons, Nat.add_mul]
      omega
  have hdp : ∀ l : List Ty, (∀ t ∈ l, t.depth ≤ 150) → Ty.depths l ≤ 150 := by
    intro l
    induction l with
    | nil => intro _; simp [Ty.depths]
    | cons t r ih =>
      intro hh
      have h1 := hh t (by simp)
      have h2 := ih (fun u hu => hh u (by simp [hu]))
      rw [Ty.depths]
      omega
  refine ⟨hl, Nat.le_trans (hsz ts (fun t ht => (ha t ht).1)) (Nat.mul_le_mul_right z hl), hdp ts (fun t ht => (ha t ht).2.1), Ty.okgs_of (fun t ht => okg_of t [] 0 false (right_node (ha t ht).2.2) (by have := (ha t ht).1; omega)), fun t ht => right_node (ha t ht).2.2, fun t ht => by have := (ha t ht).2.1; omega⟩

end Go.Proofs.Ytkjngbliomckiaa

/- Heads: the graph of few right types is small; raised references. -/
namespace Go.Proofs.Ytkjngbliomckiaa
open Go.RowKit Go.Deep Go.Shelf

theorem pref_sh : ∀ (t : Ty) (i : Nat) (e : ByteArray → Nat), t.sok → -1000000 ≤ (t.pref i e).s ∧ (t.pref i e).s ≤ 1000000 := by
  refine Ty.ind ?_
  intro k p n s ls ts ih i e h
  simp only [Ty.sok] at h
  rw [Ty.pref]
  by_cases h8 : k = 8
  · rw [if_pos h8]
    match ts, ih, h with
    | [], _, _ => rw [Ty.pref1]; exact ⟨by show (-1000000 : Int) ≤ 0; decide, by show (0 : Int) ≤ 1000000; decide⟩
    | u :: r, ih, h => rw [Ty.pref1]; simp only [Ty.soks] at h; exact ih u (by simp) _ _ h.2.2.1
  · rw [if_neg h8]
    split
    · exact h.1
    · exact ⟨by show (-1000000 : Int) ≤ 0; decide, by show (0 : Int) ≤ 1000000; decide⟩
theorem prefs_sh (e : ByteArray → Nat) : ∀ (l : List Ty) (i : Nat), Ty.soks l → ∀ q ∈ Ty.prefs i e l, -1000000 ≤ q.s ∧ q.s ≤ 1000000
  | [], _, _, q, hq => by rw [Ty.prefs] at hq; cases hq
  | t :: r, i, h, q, hq => by
    rw [Ty.prefs] at hq
    simp only [Ty.soks] at h
    rcases List.mem_cons.1 hq with rfl | hq
    · exact pref_sh t i e h.1
    · exact prefs_sh e r _ h.2 q hq
theorem pnods_mem {x : GNode} {e : ByteArray → Nat} : ∀ (l : List Ty) (i : Nat), x ∈ Ty.pnods i e l → ∃ t ∈ l, ∃ j, x ∈ t.pnod j e
  | [], i, h => by rw [Ty.pnods] at h; cases h
  | t :: r, i, h => by
    rw [Ty.pnods] at h
    rcases List.mem_append.1 h with h | h
    · exact ⟨t, by simp, i, h⟩
    · obtain ⟨u, hu, j, hj⟩ := pnods_mem r _ h
      exact ⟨u, by simp [hu], j, hj⟩
theorem pnod_sh : ∀ (t : Ty) (i : Nat) (e : ByteArray → Nat), t.sok → ∀ x ∈ t.pnod i e, ∀ q ∈ x.nx, -1000000 ≤ q.s ∧ q.s ≤ 1000000 := by
  refine Ty.ind ?_
  intro k p n s ls ts ih i e h x hx
  simp only [Ty.sok] at h
  rw [Ty.pnod] at hx
  by_cases h8 : k = 8
  · rw [if_pos h8] at hx
    match ts, ih, h, hx with
    | [], _, _, hx => rw [Ty.pnod1] at hx; cases hx
    | u :: r, ih, h, hx =>
      rw [Ty.pnod1] at hx
      simp only [Ty.soks] at h
      exact ih u (by simp) _ _ h.2.2.1 x hx
  · rw [if_neg h8] at hx
    by_cases h9 : k = 9
    · rw [if_pos h9] at hx; cases hx
    · rw [if_neg h9] at hx
      rcases List.mem_cons.1 hx with rfl | hx
      · exact prefs_sh e ts _ h.2.2
      · obtain ⟨u, hu, j, hj⟩ := pnods_mem ts _ hx
        exact ih u hu j e (Ty.soks_mem h.2.2 u hu) x hj
theorem pnod_ls : ∀ (t : Ty) (names : List ByteArray) (g : Nat) (se : Bool) (i : Nat) (e : ByteArray → Nat), nodeR names g se t = 0 → ∀ x ∈ t.pnod i e, x.ls.length ≤ t.size := by
  refine Ty.ind ?_
  intro k p n s ls ts ih names g se i e h x hx
  obtain ⟨hs, h2⟩ := nodeR_shape h
  have hlen := Ty.length_sizes ts
  rw [Ty.size]
  rw [Ty.pnod] at hx
  by_cases h8 : k = 8
  · subst h8
    rw [if_pos rfl] at hx
    rw [if_neg (by decide), if_pos rfl] at h2
    match ts, ih, h2, hx with
    | [], _, _, hx => rw [Ty.pnod1] at hx; cases hx
    | u :: r, ih, h2, hx =>
      obtain ⟨se', hu⟩ := kidsR_all h2 u (by simp)
      rw [Ty.pnod1] at hx
      have := ih u (by simp) _ _ _ _ _ hu x hx
      rw [Ty.sizes]
      omega
  · rw [if_neg h8] at hx
    by_cases h9 : k = 9
    · rw [if_pos h9] at hx; cases hx
    · rw [if_neg h9] at hx
      rw [if_neg h9, if_neg h8] at h2
      rcases List.mem_cons.1 hx with rfl | hx
      · have hp := shape_ls hs
        simp only
        omega
      · obtain ⟨u, hu, j, hj⟩ := pnods_mem ts _ hx
        obtain ⟨se', ht⟩ := kidsR_all h2 u hu
        have := ih u hu _ _ _ j e ht x hj
        have := Ty.size_mem hu
        omega

theorem small_all {ts : List Ty} (h : ∀ t ∈ ts, nodeR [] 0 false t = 0) : smallG (gNodes ts) := by
  intro g hg
  obtain ⟨t, ht, j, hj⟩ := pnods_mem ts 0 hg
  have h1 := pnod_kp t [] 0 false j _ (h t ht) g hj
  exact ⟨h1.2.2, pnod_sh t j _ (sok_of t [] 0 false (h t ht)) g hj⟩
theorem labels_all {ts : List Ty} (h : ∀ t ∈ ts, nodeR [] 0 false t = 0) : ∀ g ∈ gNodes ts, g.ls.length ≤ Ty.sizes ts := by
  intro g hg
  obtain ⟨t, ht, j, hj⟩ := pnods_mem ts 0 hg
  have := pnod_ls t [] 0 false j _ (h t ht) g hj
  have := Ty.size_mem ht
  omega
theorem hnods_wf (L : Nat) : ∀ (l : List Ty) (i : Nat), (∀ t ∈ l, nodeR [] 0 false t = 0) → i + Ty.gcnts l ≤ L → ∀ x ∈ Ty.pnods i (fun _ => 0) l, ∀ r ∈ x.nx, r.n < L
  | [], i, _, _, x, hx => by rw [Ty.pnods] at hx; cases hx
  | t :: l, i, h, hi, x, hx => by
    rw [Ty.pnods] at hx
    rw [Ty.gcnts] at hi
    rcases List.mem_append.1 hx with hx | hx
    · exact (pnod_wf L t [] 0 false i (fun _ => 0) (h t (by simp)) (Nat.le_refl _) (fun x hx => absurd hx (varR_nil 0 x)) (fun x hx => by cases hx) (by omega)).2 x hx
    · exact hnods_wf L l _ (fun u hu => h u (by simp [hu])) (by omega) x hx
theorem hwf_all {ts : List Ty} (h : ∀ t ∈ ts, nodeR [] 0 false t = 0) (hok : Ty.okgs ts) : wfG (gNodes ts) := by
  intro n g hg
  have hl : (gNodes ts).length = Ty.gcnts ts := by unfold gNodes; rw [pnods_ok _ _ hok]
  rw [hl]
  exact hnods_wf (Ty.gcnts ts) ts 0 h (by omega) g (List.mem_of_getElem? hg)
theorem prefs_wf (L : Nat) : ∀ (l : List Ty) (i : Nat), (∀ t ∈ l, nodeR [] 0 false t = 0) → i + Ty.gcnts l ≤ L → ∀ r ∈ Ty.prefs i (fun _ => 0) l, r.n < L
  | [], i, _, _, r, hr => by rw [Ty.prefs] at hr; cases hr
  | t :: l, i, h, hi, r, hr => by
    rw [Ty.prefs] at hr
    rw [Ty.gcnts] at hi
    rcases List.mem_cons.1 hr with rfl | hr
    · exact (pnod_wf L t [] 0 false i (fun _ => 0) (h t (by simp)) (Nat.le_refl _) (fun x hx => absurd hx (varR_nil 0 x)) (fun x hx => by cases hx) (by omega)).1
    · exact prefs_wf L l _ (fun u hu => h u (by simp [hu])) (by omega) r hr
theorem refs_all {ts : List Ty} (h : ∀ t ∈ ts, nodeR [] 0 false t = 0) (hok : Ty.okgs ts) : ∀ r ∈ gRefs ts, r.n < (gNodes ts).length ∧ -1000000 ≤ r.s ∧ r.s ≤ 1000000 := by
  intro r hr
  have hl : (gNodes ts).length = Ty.gcnts ts := by unfold gNodes; rw [pnods_ok _ _ hok]
  have hsk : ∀ l : List Ty, (∀ t ∈ l, nodeR [] 0 false t = 0) → Ty.soks l := by
    intro l
    induction l with
    | nil => intro _; simp [Ty.soks]
    | cons t r ih => intro hh; rw [Ty.soks]; exact ⟨sok_of t [] 0 false (hh t (by simp)), ih (fun u hu => hh u (by simp [hu]))⟩
  refine ⟨?_, prefs_sh _ ts 0 (hsk ts h) r hr⟩
  rw [hl]
  exact prefs_wf (Ty.gcnts ts) ts 0 h (by omega) r hr

/-! ### Raised references -/
def upR (k : Int) (r : GRef) : GRef := ⟨r.n, r.s + k⟩
theorem next_up (ns : List GNode) (k : Int) (r : GRef) (i : Int) : nextE ns (upR k r) i = (nextE ns r i).map (upR k) := by
  unfold nextE
  show (match ns[r.n]? with | some g => _ | none => none) = _
  cases ns[r.n]? with
  | none => rfl
  | some g =>
    dsimp only
    split
    · cases g.nx[i.toNat]? with
      | none => rfl
      | some q => simp only [upR, Option.map_some, Int.add_assoc]
    · rfl
theorem aft_up (ns : List GNode) (k : Int) : ∀ (l : List Int) (r : GRef), aftE ns (upR k r) l = (aftE ns r l).map (upR k)
  | [], r => rfl
  | i :: l, r => by
    rw [aftE, aftE, next_up]
    cases nextE ns r i with
    | none => rfl
    | some q => exact aft_up ns k l q
theorem aft_in {ns : List GNode} (hw : wfG ns) (hs : smallG ns) : ∀ (l : List Int) (r q : GRef), aftE ns r l = some q → -1000000 * (l.length : Int) ≤ q.s - r.s ∧ q.s - r.s ≤ 1000000 * (l.length : Int)
  | [], r, q, h => by
    obtain rfl := Option.some.inj h
    simp
  | i :: l, r, q, h => by
    rw [aftE] at h
    split at h
    · next p hp =>
      have h1 := next_in hw hs hp
      have h2 := aft_in hw hs l p q h
      rw [List.length_cons]
      omega
    · cases h
theorem prio_up (ns : List GNode) (k : Int) (r : GRef) : prioE ns (upR k r) = (prioE ns r).map (· + k) := by
  unfold prioE
  show (match ns[r.n]? with | some g => _ | none => none) = _
  cases ns[r.n]? with
  | none => rfl
  | some g =>
    dsimp only
    split
    · simp only [upR, Option.map_some, Int.add_assoc]
    · rfl
theorem prios_up (ns : List GNode) (k : Int) (rs : List GRef) : priosE ns (rs.map (upR k)) = (priosE ns rs).map (· + k) := by
  induction rs with
  | nil => rfl
  | cons r l ih =>
    have h : ∀ (r : GRef) (l : List GRef), priosE ns (r :: l) = (prioE ns r).toList ++ priosE ns l := fun r l => by
      unfold priosE
      rw [List.filterMap_cons]
      cases prioE ns r <;> rfl
    rw [List.map_cons, h, h, ih, prio_up, List.map_append]
    cases prioE ns r <;> rfl
theorem minF_up (k : Int) (l : List Int) (h : l ≠ []) : minF (l.map (· + k)) = minF l + k := by
  match l, h with
  | x :: l, _ =>
    simp only [List.map_cons, minF]
    induction l generalizing x with
    | nil => rfl
    | cons y r ih =>
      simp only [List.map_cons, List.foldl_cons]
      rw [show min (x + k) (y + k) = min x y + k by omega]
      exact ih _ (by simp)
theorem prios_le {ns : List GNode} (hs : smallG ns) {rs : List GRef} (hr : ∀ r ∈ rs, -1000000 ≤ r.s ∧ r.s ≤ 1000000) : ∀ x ∈ priosE ns rs, -2000000 ≤ x ∧ x ≤ 2000000 := by
  intro x hx
  obtain ⟨r, hm, h⟩ := List.mem_filterMap.1 hx
  unfold prioE at h
  split at h
  · next g hg =>
    split at h
    · obtain rfl := Option.some.inj h
      have h1 := (hs g (List.mem_of_getElem? hg)).1
      have h2 := hr r hm
      omega
    · cases h
  · cases h
theorem minF_mem {l : List Int} (h : l ≠ []) : minF l ∈ l := by
  match l, h with
  | x :: l, _ =>
    simp only [minF]
    induction l generalizing x with
    | nil => simp
    | cons y r ih =>
      rw [List.foldl_cons]
      have := ih (min x y) (by simp)
      rcases List.mem_cons.1 this with h | h
      · rw [h]
        rcases Int.le_total x y with h1 | h1
        · rw [Int.min_eq_left h1]; simp
        · rw [Int.min_eq_right h1]; simp
      · exact List.mem_cons_of_mem _ (List.mem_cons_of_mem _ h)
end Go.Proofs.Ytkjngbliomckiaa

/- Duals: what the nodes of the graph of right types are; closed graphs (mathematics). -/
namespace Go.Proofs.Ytkjngbliomckiaa
open Go.RowKit Go.Deep Go.Shelf

def okN (g : GNode) : Prop := ((g.k = 1 ∨ g.k = 2 ∨ g.k = 3) ∧ g.ls = [] ∧ g.nx = []) ∨ ((g.k = 4 ∨ g.k = 5) ∧ g.ls = [] ∧ g.nx.length = 2) ∨ ((g.k = 6 ∨ g.k = 7) ∧ g.ls ≠ [] ∧ g.nx.length = g.ls.length)
theorem shape_okN {k p s : Int} {n : ByteArray} {ls : List ByteArray} {ts : List Ty} (h : shapeC k p s n ls ts.length = true) (h8 : k ≠ 8) (h9 : k ≠ 9) (nx : List GRef) (hn : nx.length = ts.length) : okN ⟨k, p, ls, nx⟩ := by
  unfold shapeC at h
  split at h
  · next hk =>
    simp only [Bool.and_eq_true, beq_iff_eq, decide_eq_true_eq, List.isEmpty_iff] at h
    exact .inl ⟨hk, h.2.2.2.1, List.length_eq_zero_iff.1 (hn.trans h.2.2.2.2)⟩
  split at h
  · next hk =>
    simp only [Bool.and_eq_true, beq_iff_eq, decide_eq_true_eq, List.isEmpty_iff] at h
    exact .inr (.inl ⟨hk, h.2.2.2.1, hn.trans h.2.2.2.2⟩)
  split at h
  · next hk =>
    simp only [Bool.and_eq_true, beq_iff_eq, decide_eq_true_eq, Bool.not_eq_true', List.isEmpty_eq_false_iff] at h
    exact .inr (.inr ⟨hk, h.2.2.2.1, hn.trans h.2.2.2.2.2⟩)
  · cases h
theorem pnod_okN : ∀ (t : Ty) (names : List ByteArray) (g : Nat) (se : Bool) (i : Nat) (e : ByteArray → Nat), nodeR names g se t = 0 → ∀ x ∈ t.pnod i e, okN x := by
  refine Ty.ind ?_
  intro k p n s ls ts ih names g se i e h x hx
  obtain ⟨hs, h2⟩ := nodeR_shape h
  rw [Ty.pnod] at hx
  by_cases h8 : k = 8
  · subst h8
    rw [if_pos rfl] at hx
    rw [if_neg (by decide), if_pos rfl] at h2
    match ts, ih, h2, hx with
    | [], _, _, hx => rw [Ty.pnod1] at hx; cases hx
    | u :: r, ih, h2, hx =>
      obtain ⟨se', hu⟩ := kidsR_all h2 u (by simp)
      rw [Ty.pnod1] at hx
      exact ih u (by simp) _ _ _ _ _ hu x hx
  · rw [if_neg h8] at hx
    by_cases h9 : k = 9
    · rw [if_pos h9] at hx; cases hx
    · rw [if_neg h9] at hx
      rw [if_neg h9, if_neg h8] at h2
      rcases List.mem_cons.1 hx with rfl | hx
      · exact shape_okN hs h8 h9 _ (prefs_len _ _)
      · obtain ⟨u, hu, j, hj⟩ := pnods_mem ts _ hx
        obtain ⟨se', ht⟩ := kidsR_all h2 u hu
        exact ih u hu _ _ _ j e ht x hj
theorem okN_all {ts : List Ty} (h : ∀ t ∈ ts, nodeR [] 0 false t = 0) : ∀ g ∈ gNodes ts, okN g := by
  intro g hg
  obtain ⟨t, ht, j, hj⟩ := pnods_mem ts 0 hg
  exact pnod_okN t [] 0 false j _ (h t ht) g hj

/-! ### Closed graphs -/
theorem closeG_len (ns : List GNode) : (closeG ns).length = 2 * ns.length := by simp [closeG]; omega
theorem closeG_lo {ns : List GNode} {i : Nat} (h : i < ns.length) : (closeG ns)[i]? = ns[i]? := by unfold closeG; rw [List.getElem?_append_left h]
theorem closeG_hi {ns : List GNode} {i : Nat} {g : GNode} (h : ns[i]? = some g) : (closeG ns)[ns.length + i]? = some (nodeD ns.length g) := by
  unfold closeG; rw [List.getElem?_append_right (Nat.le_add_right _ _), Nat.add_sub_cancel_left, List.getElem?_map, h]; rfl
theorem nodeD_len (N : Nat) (g : GNode) : (nodeD N g).nx.length = g.nx.length := by simp [nodeD]
theorem refD_le {k : Int} {N i : Nat} {r : GRef} (h : r.n < N) : (refD k N i r).n < 2 * N := by
  unfold refD
  split
  · omega
  · show r.n + N < 2 * N; omega
theorem closeG_wf {ns : List GNode} (h : wfG ns) : wfG (closeG ns) := by
  intro n g hg r hr
  rw [closeG_len]
  by_cases hn : n < ns.length
  · rw [closeG_lo hn] at hg
    have := h n g hg r hr
    omega
  · have hlt := (List.getElem?_eq_some_iff.1 hg).1
    rw [closeG_len] at hlt
    obtain ⟨g0, h0⟩ : ∃ g0, ns[n - ns.length]? = some g0 := ⟨_, List.getElem?_eq_getElem (by omega)⟩
    have h1 := closeG_hi h0
    rw [show ns.length + (n - ns.length) = n by omega, hg] at h1
    obtain rfl := Option.some.inj h1
    obtain ⟨i, hi⟩ := List.mem_iff_getElem?.1 hr
    simp only [nodeD, List.getElem?_mapIdx] at hi
    obtain ⟨r0, hr0, rfl⟩ := Option.map_eq_some_iff.1 hi
    exact refD_le (h _ g0 h0 r0 (List.mem_of_getElem? hr0))
theorem closeG_mem {ns : List GNode} {g : GNode} (h : g ∈ closeG ns) : g ∈ ns ∨ ∃ g0 ∈ ns, g = nodeD ns.length g0 := by
  rcases List.mem_append.1 h with h | h
  · exact .inl h
  · obtain ⟨g0, h0, e⟩ := List.mem_map.1 h
    exact .inr ⟨g0, h0, e.symm⟩
theorem closeG_nx {ns : List GNode} {m : Nat} (h : ∀ g ∈ ns, g.nx.length ≤ m) : ∀ g ∈ closeG ns, g.nx.length ≤ m := by
  intro g hg
  rcases closeG_mem hg with hg | ⟨g0, h0, rfl⟩
  · exact h g hg
  · rw [nodeD_len]; exact h g0 h0
/-- The reference to the dual. -/
def ofD (N : Nat) (r : GRef) : GRef := if r.n < N then ⟨r.n + N, r.s⟩ else ⟨r.n - N, r.s⟩
/-- The reference's list of references of the dual node. -/
def refE (k : Int) (N : Nat) (i : Nat) (r : GRef) : GRef := if i = 1 ∨ 6 ≤ k then ⟨r.n + N, r.s⟩ else r
theorem refE_eq {g : GNode} (h : okN g) (N : Nat) : g.nx.mapIdx (refE g.k N) = g.nx.mapIdx (refD g.k N) := by
  apply List.ext_getElem?
  intro i
  rw [List.getElem?_mapIdx, List.getElem?_mapIdx]
  cases e : g.nx[i]? with
  | none => rfl
  | some r =>
    have hi := (List.getElem?_eq_some_iff.1 e).1
    simp only [Option.map_some, Option.some.injEq]
    unfold refE refD
    rcases h with ⟨_, _, h⟩ | ⟨hk, _, h⟩ | ⟨hk, _, _⟩
    · rw [h] at hi; cases hi
    · rw [h] at hi
      have hp : payB g.k = true := by simp [payB, hk]
      by_cases h0 : i = 0
      · subst h0
        rw [if_neg (by omega), if_pos ⟨rfl, hp⟩]
      · rw [if_pos (by omega), if_neg (fun h => h0 h.1)]
    · have hp : payB g.k = false := by simp [payB]; omega
      rw [if_pos (by omega), if_neg (by rw [hp]; simp)]
end Go.Proofs.Ytkjngbliomckiaa
