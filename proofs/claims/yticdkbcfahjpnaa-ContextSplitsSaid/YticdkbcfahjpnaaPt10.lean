/- Contexts: entries in memory; the index of a name, clones, what is selected. (and what follows from it) -/
import Derived.Test.YticdkbcfahjpnaaPt8
import Derived.Test.YticdkbcfahjpnaaPt9
import Derived.Test.YticdkbcfahjpnaaPt2
import Derived.Test.YticdkbcfahjpnaaPt1
import Derived.Maps.OwnSet
import Derived.Maps.OwnOps

/- Contexts: entries in memory; the index of a name, clones, what is selected. -/
namespace Go.Proofs.Yticdkbcfahjpnaa
open Go.RowKit Go.Deep Go.Shelf

/-- An entry of a context. -/
structure Ent where
  n : ByteArray
  a : Int
  s : Int
abbrev entCells (e : Ent) : List Value := [.string e.n, .int .i64 e.a, .int .i64 e.s]
abbrev entV (e : Ent) : Value := .agg #[.string e.n, .int .i64 e.a, .int .i64 e.s]
theorem entElem : ElemOf 22 30 3 := elemOf Try.underlying22 (z := .agg #[.string ⟨#[]⟩, .int .i64 0, .int .i64 0]) (bytes := 32) (by kernel_rfl) (by decide) rfl (by decide)
theorem eqEnts (a : Option Addr) (l c : Nat) (w : World) : (binOp .eql 22 (.slice a l c) (.slice none 0 0)).run Try.prog w = .ok (.bool a.isNone) w := Lib.run_eql_slice_nil w 22 30 a l c 0 0 Try.underlying22
/-- An entry lies from cell o of block b on. -/
def EnAt (w : World) (b o : Nat) (e : Ent) : Prop := w.cell? ⟨b, o, none⟩ = some (.string e.n) ∧ w.cell? ⟨b, o + 1, none⟩ = some (.int .i64 e.a) ∧ w.cell? ⟨b, o + 2, none⟩ = some (.int .i64 e.s)
def EnSl (B : Nat → Prop) (w : World) (v : Value) (es : List Ent) : Prop :=
  (((∃ a c, v = .slice a 0 c) ∧ es = []) ∨ ∃ b o c, v = .slice (some ⟨b, o, none⟩) es.length c ∧ B b ∧ ∀ (j : Nat) (e : Ent), es[j]? = some e → EnAt w b (o + j * 3) e) ∧ es.length ≤ maxLen
theorem EnAt.keep {B : Nat → Prop} {w w' : World} (h : Keeps B w w') {b o : Nat} {e : Ent} (hb : B b) (hv : EnAt w b o e) : EnAt w' b o e := ⟨h.cell hb hv.1, h.cell hb hv.2.1, h.cell hb hv.2.2⟩
theorem EnSl.keep {B : Nat → Prop} {w w' : World} (h : Keeps B w w') {v : Value} {es : List Ent} (hv : EnSl B w v es) : EnSl B w' v es := by
  refine ⟨?_, hv.2⟩
  rcases hv.1 with h1 | ⟨b, o, c, h1, h2, h3⟩
  · exact .inl h1
  · exact .inr ⟨b, o, c, h1, h2, fun j e hj => (h3 j e hj).keep h h2⟩
theorem EnSl.mono {B C : Nat → Prop} {w : World} (h : ∀ k, B k → C k) {v : Value} {es : List Ent} (hv : EnSl B w v es) : EnSl C w v es := by
  refine ⟨?_, hv.2⟩
  rcases hv.1 with h1 | ⟨b, o, c, h1, h2, h3⟩
  · exact .inl h1
  · exact .inr ⟨b, o, c, h1, h _ h2, h3⟩
/-- In a later world. -/
theorem EnSl.to {w w' : World} {v : Value} {es : List Ent} (hv : EnSl (fun k => k < w.heap.size) w v es) (hb : Below w.heap.size w w') : EnSl (fun k => k < w'.heap.size) w' v es :=
  (hv.keep (hb.keeps'.mono (fun _ hk => hk))).mono (fun _ hk => Nat.lt_of_lt_of_le hk hb.size)
theorem EnSl.open {B : Nat → Prop} {w : World} {v : Value} {es : List Ent} (h : EnSl B w v es) :
    ∃ pa len c, v = .slice pa len c ∧ Hid (len = es.length) ∧ len ≤ 9223372036854775807 ∧ ∀ i e, es[i]? = some e → ∃ kb ko, pa = some ⟨kb, ko, none⟩ ∧ B kb ∧ EnAt w kb (ko + i * 3) e := by
  obtain ⟨h, hm⟩ := h
  unfold maxLen at hm
  rcases h with ⟨⟨a, c, rfl⟩, rfl⟩ | ⟨kb, ko, c, rfl, hkb, hrow⟩
  · exact ⟨a, 0, c, rfl, Lib.hid rfl, by omega, fun i t hi => by simp at hi⟩
  · exact ⟨_, _, _, rfl, Lib.hid rfl, by omega, fun i t hi => ⟨kb, ko, rfl, hkb, hrow i t hi⟩⟩
theorem one_ents (es : List Ent) : (∀ e ∈ es.map entCells, e.length = 3) ∧ ∀ e ∈ es.map entCells, ∀ u ∈ e, u.oneCell' = true := by
  refine ⟨fun e he => ?_, fun e he u hu => ?_⟩
  · obtain ⟨x, _, rfl⟩ := List.mem_map.1 he; rfl
  · obtain ⟨x, _, rfl⟩ := List.mem_map.1 he
    simp only [entCells, List.mem_cons, List.not_mem_nil, or_false] at hu
    rcases hu with rfl | rfl | rfl <;> rfl
theorem EnSl.src {B : Nat → Prop} {w : World} {a : Option Addr} {n c : Nat} {es : List Ent} (h : EnSl B w (.slice a n c) es) : n = (es.map entCells).length ∧ RowSrc 3 w a (es.map entCells) := by
  obtain ⟨pa, len, c', e, hl, _, hg⟩ := h.open
  simp only [Value.slice.injEq] at e
  obtain ⟨rfl, rfl, rfl⟩ := e
  refine ⟨by rw [List.length_map]; exact hl.out, ?_⟩
  cases es with
  | nil => exact .inl rfl
  | cons e0 r =>
    obtain ⟨kb, ko, rfl, _⟩ := hg 0 e0 rfl
    refine .inr ⟨kb, ko, rfl, fun j e i u hj hi => ?_⟩
    rw [List.getElem?_map] at hj
    obtain ⟨x, hx, rfl⟩ := Option.map_eq_some_iff.1 hj
    obtain ⟨kb', ko', e1, _, h0, h1, h2⟩ := hg j x hx
    simp only [Option.some.injEq, Addr.mk.injEq, and_true] at e1
    obtain ⟨rfl, rfl⟩ := e1
    match i, hi with
    | 0, hi => obtain rfl := Option.some.inj hi; exact h0
    | 1, hi => obtain rfl := Option.some.inj hi; rw [← Nat.add_assoc]; exact h1
    | 2, hi => obtain rfl := Option.some.inj hi; rw [← Nat.add_assoc]; exact h2
    | i + 3, hi => simp at hi
/-- A row of entries, read. -/
theorem GRow.ents {base : Nat} {w : World} {v : Value} {es : List Ent} (h : GRow 30 3 base w v (es.map entCells)) (hl : es.length ≤ maxLen) : EnSl (fun k => base ≤ k ∧ k < w.heap.size) w v es := by
  refine ⟨?_, hl⟩
  rcases h.parts with ⟨rfl, h0⟩ | ⟨g, cap, rfl, h1, h2, _, _⟩
  · exact .inl ⟨⟨_, _, rfl⟩, by simpa using h0⟩
  · refine .inr ⟨g, 0, cap, by rw [List.length_map], ⟨h1, h2⟩, fun j e hj => ?_⟩
    have hes : (es.map entCells)[j]? = some (entCells e) := by rw [List.getElem?_map, hj]; rfl
    obtain ⟨_, _, e1, c0⟩ := h.cell (i := 0) hes rfl
    obtain ⟨_, _, e2, c1⟩ := h.cell (i := 1) hes rfl
    obtain ⟨_, _, e3, c2⟩ := h.cell (i := 2) hes rfl
    simp only [Value.slice.injEq, Option.some.injEq, Addr.mk.injEq, and_true, true_and] at e1 e2 e3
    rw [← e1.1] at c0
    rw [← e2.1] at c1
    rw [← e3.1] at c2
    rw [Nat.zero_add]
    exact ⟨c0, c1, c2⟩

/-! ### Looking for a name -/
def entIs (nm : ByteArray) (e : Ent) : Bool := decide (e.n = nm)
set_option maxHeartbeats 1000000 in
theorem idx1_any (e : Ent) (nm : ByteArray) (b : Nat) (w : World) (hb : ∀ W, Below w.heap.size w W → W.cell? ⟨b, 0, none⟩ = some (.string nm)) :
    Calls Try.prog 40 #[entV e, .pointer (some ⟨b, 0, none⟩)] w fun en w' => en = .returned (.bool (entIs nm e)) ∧ Below w.heap.size w w' := by
  obtain ⟨W1, hW1⟩ : ∃ W1, w.alloc (.cells #[.string e.n, .int .i64 e.a, .int .i64 e.s] 30) = W1 := ⟨_, rfl⟩
  have hb1 : Below w.heap.size w W1 := by rw [← hW1]; exact blkBelow w _ _
  have x1 : W1.heap[w.heap.size]? = some (.cells #[.string e.n, .int .i64 e.a, .int .i64 e.s] 30) := by rw [← hW1]; exact World.alloc_heap_new _ _
  have c0 : W1.cell? ⟨w.heap.size, 0, none⟩ = some (.string e.n) := by simp [World.cell?, x1]
  have c1 := hb W1 hb1
  have HW1 := Lib.hid hW1
  have HB1 := Lib.hid hb1
  clear hb hW1 hb1 x1
  cases h : entIs nm e
  · have he : e.n ≠ nm := by simpa [entIs] using h
    have h1 := str_ne he
    have h2 : (e.n.toList == nm.toList) = false := by simpa using h1
    clear h he
    go_enter Try.func40, Try.ntmps40
    go_upto_region 1 with fail
    rw [show w.alloc (.cells #[.string e.n, .int .i64 e.a, .int .i64 e.s] 30) = W1 from HW1.out]
    go_wp2_with fail
    go_ret
    exact ⟨rfl, HB1.out⟩
  · obtain rfl : e.n = nm := by simpa [entIs] using h
    clear h
    go_enter Try.func40, Try.ntmps40
    go_upto_region 1 with fail
    rw [show w.alloc (.cells #[.string e.n, .int .i64 e.a, .int .i64 e.s] 30) = W1 from HW1.out]
    go_wp2_with fail
    go_ret
    exact ⟨rfl, HB1.out⟩
/-- What a function value tells of entries. -/
def TellsE (f : Nat) (caps : Array Value) (w : World) (es : List Ent) (pf : Ent → Bool) : Prop := ∀ e ∈ es, ∀ W, Below w.heap.size w W → Calls Try.prog f (#[entV e] ++ caps) W fun en w' => en = .returned (.bool (pf e)) ∧ Below W.heap.size W w'
def idxI : Option Nat → Int
  | some i => (i : Int)
  | none => -1
set_option maxHeartbeats 4000000 in
set_option maxRecDepth 100000 in
theorem indexE_any (es : List Ent) (pf : Ent → Bool) (f : Nat) (caps : Array Value) (eg : ∀ args w, (callFunc f args).run Try.prog w = .ok (.enter f args) w) (v : Value) (w : World) (hk : EnSl (fun k => k < w.heap.size) w v es) (hf : TellsE f caps w es pf) :
    Calls Try.prog 39 #[v, .func (.func f) #[] caps] w fun e w' => e = .returned (.int .i64 (idxI (es.findIdx? pf))) ∧ Below w.heap.size w w' := by
  obtain ⟨pa, len, c, rfl, hlen, hmx, hget⟩ := hk.open
  have HG : Hid (∀ j e, es[j]? = some e → ∃ kb ko, pa = some ⟨kb, ko, none⟩ ∧ ∀ W, Below w.heap.size w W → EnAt W kb (ko + j * 3) e) := Lib.hid (fun j e hj => by
    obtain ⟨kb, ko, e1, hkb, hty⟩ := hget j e hj
    exact ⟨kb, ko, e1, fun W hW => hty.keep (B := fun k => k < w.heap.size) (hW.keeps'.mono (fun k hk => hk)) hkb⟩)
  have HF := Lib.hid hf
  have HL : Hid (len = es.length) := Lib.hid hlen.out
  obtain ⟨r, hr⟩ : ∃ r, es.findIdx? pf = r := ⟨_, rfl⟩
  rw [hr]
  have HR := Lib.hid hr
  clear hget hf hk hlen hr
  go_enter Try.func39, Try.ntmps39
  go_wp2_with fail
  go_loopw [8] (fun i wr => ∃ j : Nat, i = .int .i64 j ∧ j ≤ len ∧ Hid (∀ k e, k < j → es[k]? = some e → pf e = false) ∧ Hid (Below w.heap.size w wr)) (fun i _ => len - (intOf i).toNat)
  case atStart => exact ⟨0, rfl, Nat.zero_le _, Lib.hid (fun k e hk => by omega), Lib.hid (Below.refl _ _)⟩
  case round =>
    obtain ⟨j, rfl, hj, HA, HBW⟩ := hrel
    by_cases hlt : j < len
    · obtain ⟨e, he⟩ : ∃ e, es[j]? = some e := ⟨_, List.getElem?_eq_getElem (by rw [← HL.out]; exact hlt)⟩
      obtain ⟨kb, ko, rfl, hW⟩ := HG.out j e he
      obtain ⟨d0, d1, d2⟩ := hW wr HBW.out
      have HC := Lib.hid (HF.out e (List.mem_of_getElem? he) wr HBW.out)
      have HT := Lib.hid he
      clear hW he
      cases hp : pf e with
      | true =>
        rw [hp] at HC
        have HRR : Hid (r = some j) := Lib.hid (by
          rw [← HR.out, List.findIdx?_eq_some_iff_getElem]
          obtain ⟨h1, h2⟩ := List.getElem?_eq_some_iff.1 HT.out
          exact ⟨h1, by rw [h2]; exact hp, fun k hk => by have := HA.out k _ hk (List.getElem?_eq_getElem (by omega)); simp [this]⟩)
        clear hp
        go_wp2_with fail
        refine HC.out.mono ?_
        rintro e w2 ⟨rfl, hb2⟩
        go_wp2_with fail
        go_ret
        exact ⟨by rw [HRR.out]; rfl, below_seq HBW.out hb2⟩
      | false =>
        rw [hp] at HC
        have HPF := Lib.hid hp
        clear hp
        go_wp2_with fail
        refine HC.out.mono ?_
        rintro en w2 ⟨rfl, hb2⟩
        have HB2 := Lib.hid hb2
        clear hb2
        go_wp2_with fail
        go_roundw
        case rel => exact ⟨j + 1, by go_num, by omega, Lib.hid (fun k x hk hx => by
          rcases Nat.lt_succ_iff_lt_or_eq.1 hk with h | rfl
          · exact HA.out k x h hx
          · obtain rfl := Option.some.inj (HT.out.symm.trans hx); exact HPF.out), Lib.hid (below_seq HBW.out HB2.out)⟩
        case measure => simp [intOf]; omega
    · obtain rfl : j = len := by omega
      have HRR : Hid (r = none) := Lib.hid (by
        rw [← HR.out, List.findIdx?_eq_none_iff]
        intro x hx
        obtain ⟨k, hk⟩ := List.getElem?_of_mem hx
        exact HA.out k x (by rw [HL.out]; exact (List.getElem?_eq_some_iff.1 hk).1) hk)
      go_wp2_with fail
      go_ret
      exact ⟨by rw [HRR.out]; rfl, HBW.out⟩
set_option maxHeartbeats 2000000 in
theorem cindex_any (es : List Ent) (nm : ByteArray) (v : Value) (w : World) (hk : EnSl (fun k => k < w.heap.size) w v es) :
    Calls Try.prog 25 #[v, .string nm] w fun e w' => e = .returned (.int .i64 (idxI (es.findIdx? (entIs nm)))) ∧ Below w.heap.size w w' := by
  obtain ⟨W1, hW1⟩ : ∃ W1, w.alloc (.cells #[.string nm] 9) = W1 := ⟨_, rfl⟩
  have hb1 : Below w.heap.size w W1 := by rw [← hW1]; exact blkBelow w _ _
  have x1 : W1.heap[w.heap.size]? = some (.cells #[.string nm] 9) := by rw [← hW1]; exact World.alloc_heap_new _ _
  have hs1 : W1.heap.size = w.heap.size + 1 := by rw [← hW1]; simp
  have HI := Lib.hid (indexE_any es (entIs nm) 40 #[.pointer (some ⟨w.heap.size, 0, none⟩)] (enters_of Try.func40 (by kernel_rfl) rfl) v W1 (hk.to hb1) (fun e _ W hW => idx1_any e nm w.heap.size W (fun W' hW' => by
    have h : W'.heap[w.heap.size]? = some (.cells #[.string nm] 9) := ((below_seq hW hW').block _ (by omega)).trans x1
    simp [World.cell?, h])))
  have HW1 := Lib.hid hW1
  have HB1 := Lib.hid hb1
  obtain ⟨pa, len, c, rfl, _⟩ := hk.open
  obtain ⟨r, hr⟩ : ∃ r, idxI (es.findIdx? (entIs nm)) = r := ⟨_, rfl⟩
  rw [hr] at HI ⊢
  clear hk hW1 hb1 x1 hs1 hr
  go_enter Try.func25, Try.ntmps25
  go_upto_region 1 with fail
  rw [show w.alloc (.cells #[.string nm] 9) = W1 from HW1.out]
  go_wp2_with (go_at_call 39; go_loud (refine HI.out.mono ?_; rintro en w3 ⟨rfl, hb3⟩; have HB3 := Lib.hid hb3; clear hb3))
  go_ret
  exact ⟨rfl, below_seq HB1.out HB3.out⟩
end Go.Proofs.Yticdkbcfahjpnaa

/- Contexts: Find, Set, selected, Drop. -/
namespace Go.Proofs.Yticdkbcfahjpnaa
open Go.RowKit Go.Deep Go.Shelf

/-- A row of one's own is returned. -/
def RowRet (el : TypeId) (sz : Nat) (w : World) (es : List (List Value)) (e : Ending) (w' : World) : Prop :=
  ∃ a n c, e = .returned (.slice a n c) ∧ GRow el sz w.heap.size w' (.slice a n c) es ∧ Below w.heap.size w w'
theorem rowSrc_nil {sz : Nat} {w : World} {es : List (List Value)} (h : RowSrc sz w none es) : es = [] := by
  rcases h with h | ⟨_, _, h, _⟩
  · exact h
  · cases h

set_option maxHeartbeats 2000000 in
set_option maxRecDepth 100000 in
theorem cloneRow_ents (a : Option Addr) (n c : Nat) (es : List (List Value)) (w : World) (hnn : n = es.length) (hlen : ∀ e ∈ es, e.length = 3) (hsrc : RowSrc 3 w a es) (hone : ∀ e ∈ es, ∀ u ∈ e, u.oneCell' = true) (hn : es.length ≤ 100000000) :
    Calls Try.prog 24 #[.slice a n c] w (RowRet 30 3 w es) := by
  cases a with
  | none =>
    obtain rfl := rowSrc_nil hsrc
    obtain rfl : n = 0 := hnn
    have hq := eqEnts none 0 c
    clear hlen hsrc hone hn
    go_enter Try.func24, Try.ntmps24
    go_wp2_with fail
    go_ret
    exact ⟨_, _, _, rfl, GRow.nil _ _ _ _, Below.refl _ _⟩
  | some ad =>
    have hq := eqEnts (some ad) n c
    have HN := Lib.hid hnn
    have HL := Lib.hid hlen
    have HS := Lib.hid hsrc
    have HO := Lib.hid hone
    clear hnn hlen hsrc hone
    go_enter Try.func24, Try.ntmps24
    go_wp2_with (at_builtin; refine wpList_appG entElem rfl _ _ rfl rfl (GRow.empty 30 3 w.heap.size w _ rfl (Nat.le_refl _)) (some ad) n c es rfl HN.out HL.out ?_ HO.out ?_ ?_ ?_)
    · rcases HS.out with h | ⟨b, o, e, h⟩
      · exact .inl h
      · exact .inr ⟨b, o, e, fun j e i u hj hi => Lib.cell?_alloc_some _ (h j e i u hj hi)⟩
    · simp only [List.length_nil]; omega
    · simp
    · intro ga gn gc w1 hrow hgrow _
      have hb : Below w.heap.size w w1 := ((Below.refl _ w).alloc (Nat.le_refl _) _).grown hgrow (by simp) (fun k hk => by cases hk; exact Nat.le_refl _)
      have HR := Lib.hid hrow
      have HB := Lib.hid hb
      clear hrow hb hgrow
      go_wp2_with fail
      go_ret
      exact ⟨_, _, _, rfl, by simpa using HR.out, HB.out⟩


theorem src_one {sz : Nat} {w : World} {cs : List Value} {t : TypeId} {fr : Nat × Nat} {b : Nat} (h : w.heap[b]? = some (.cells cs.toArray t fr)) : RowSrc sz w (some ⟨b, 0, none⟩) [cs] := by
  refine .inr ⟨b, 0, rfl, fun j e i u hj hi => ?_⟩
  cases j with
  | zero =>
    simp only [List.getElem?_cons_zero, Option.some.injEq] at hj
    subst hj
    rw [show 0 + (0 * sz + i) = i by omega]
    simp only [World.cell?, h]
    simpa using hi
  | succ j => simp at hj

/-! ### Find -/
theorem fnd_idx (p : Ent → Bool) : ∀ l : List Ent, l.find? p = (l.findIdx? p).bind (fun i => l[i]?)
  | [] => rfl
  | x :: r => by
    rw [List.find?_cons, List.findIdx?_cons]
    cases h : p x with
    | true => simp
    | false =>
      rw [fnd_idx p r]
      cases h2 : r.findIdx? p <;> simp
abbrev rfI (a s : Int) : Value := .agg #[.int .i64 a, .int .i64 s]
def fndR : Option Ent → Value
  | some e => .tuple #[rfI e.a e.s, .bool true]
  | none => .tuple #[rfI 0 0, .bool false]
set_option maxHeartbeats 4000000 in
set_option maxRecDepth 100000 in
theorem cfind_any (es : List Ent) (nm : ByteArray) (v : Value) (w : World) (hk : EnSl (fun k => k < w.heap.size) w v es) :
    Calls Try.prog 10 #[v, .string nm] w fun e w' => e = .returned (fndR (es.find? (entIs nm))) ∧ Below w.heap.size w w' := by
  obtain ⟨W1, hW1⟩ : ∃ W1, w.alloc (refO (.int .i64 0) (.int .i64 0)) = W1 := ⟨_, rfl⟩
  have hb1 : Below w.heap.size w W1 := by rw [← hW1]; exact blkBelow w _ _
  have x1 : W1.heap[w.heap.size]? = some (refO (.int .i64 0) (.int .i64 0)) := by rw [← hW1]; exact World.alloc_heap_new _ _
  have hs1 : W1.heap.size = w.heap.size + 1 := by rw [← hW1]; simp
  have HI := Lib.hid (cindex_any es nm v W1 (hk.to hb1))
  obtain ⟨pa, len, c, rfl, hlen, hmx, hget⟩ := hk.open
  have HG : Hid (∀ j e, es[j]? = some e → ∃ kb ko, pa = some ⟨kb, ko, none⟩ ∧ j < len ∧ ∀ W, Below w.heap.size w W → EnAt W kb (ko + j * 3) e) := Lib.hid (fun j e hj => by
    obtain ⟨kb, ko, e1, hkb, hty⟩ := hget j e hj
    exact ⟨kb, ko, e1, by rw [hlen.out]; exact (List.getElem?_eq_some_iff.1 hj).1, fun W hW => hty.keep (B := fun k => k < w.heap.size) (hW.keeps'.mono (fun k hk => hk)) hkb⟩)
  have HX : Hid (∀ W, Below W1.heap.size W1 W → W.heap[w.heap.size]? = some (refO (.int .i64 0) (.int .i64 0))) := Lib.hid (fun W hW => (hW.block _ (by omega)).trans x1)
  have HW1 := Lib.hid hW1
  have HB1 := Lib.hid hb1
  have hf := fnd_idx (entIs nm) es
  obtain ⟨q, hq⟩ : ∃ q, es.find? (entIs nm) = q := ⟨_, rfl⟩
  obtain ⟨r, hr⟩ : ∃ r, es.findIdx? (entIs nm) = r := ⟨_, rfl⟩
  rw [hr] at HI
  rw [hr, hq] at hf
  rw [hq]
  have hr2 : ∀ i, r = some i → ∃ e, es[i]? = some e := fun i hi => by
    rw [hi, List.findIdx?_eq_some_iff_getElem] at hr
    exact ⟨_, List.getElem?_eq_getElem hr.1⟩
  clear hk hget hlen hW1 hb1 x1 hs1 hr hq
  cases r with
  | none =>
    obtain rfl : q = none := hf
    clear hr2
    go_enter Try.func10, Try.ntmps10
    go_upto_region 1 with fail
    rw [show w.alloc (.cells #[.int .i64 0, .int .i64 0] 24) = W1 from HW1.out]
    go_upto_region 2 with (go_at_call 25; go_loud (refine HI.out.mono ?_; rintro en w2 ⟨rfl, hb2⟩; have HB2 := Lib.hid hb2; clear hb2))
    obtain ⟨z0, z1, z2, z3⟩ := refO_cells (HX.out w2 HB2.out)
    unfold idxI
    go_wp2_with fail
    clear z0 z1 z2 z3
    obtain ⟨u0, u1, _, _⟩ := refO_cells (refO_fill (HX.out w2 HB2.out) (.int .i64 0) (.int .i64 0))
    refine bodyPost_ret (v := .tuple #[rfI 0 0, .bool false]) (by simp [results, Try.results10, go_sem, u0, u1]) rfl ?_
    exact ⟨rfl, ((below_seq HB1.out HB2.out).setCell (Nat.le_refl _) _).setCell (Nat.le_refl _) _⟩
  | some i =>
    obtain ⟨e, he⟩ := hr2 i rfl
    obtain rfl : q = some e := hf.trans he
    obtain ⟨kb, ko, rfl, hlt, hc⟩ := HG.out i e he
    have HC := Lib.hid hc
    clear hf hr2 he hc
    have d1 : decide ((i : Int) < 0) = false := by simp
    go_enter Try.func10, Try.ntmps10
    go_upto_region 1 with fail
    rw [show w.alloc (.cells #[.int .i64 0, .int .i64 0] 24) = W1 from HW1.out]
    go_upto_region 2 with (go_at_call 25; go_loud (refine HI.out.mono ?_; rintro en w2 ⟨rfl, hb2⟩; have HB2 := Lib.hid hb2; clear hb2))
    obtain ⟨z0, z1, z2, z3⟩ := refO_cells (HX.out w2 HB2.out)
    obtain ⟨c0, c1, c2⟩ := HC.out w2 (below_seq HB1.out HB2.out)
    unfold idxI
    go_wp2_with fail
    clear z0 z1 z2 z3
    obtain ⟨u0, u1, _, _⟩ := refO_cells (refO_fill (HX.out w2 HB2.out) (.int .i64 e.a) (.int .i64 e.s))
    refine bodyPost_ret (v := .tuple #[rfI e.a e.s, .bool true]) (by simp [results, Try.results10, go_sem, u0, u1]) rfl ?_
    exact ⟨rfl, ((below_seq HB1.out HB2.out).setCell (Nat.le_refl _) _).setCell (Nat.le_refl _) _⟩

/-! ### Set -/
def setE (es : List Ent) (nm : ByteArray) (a s : Int) : List Ent := match es.findIdx? (entIs nm) with
  | some i => (match es[i]? with | some e => es.set i ⟨e.n, a, s⟩ | none => es)
  | none => es ++ [⟨nm, a, s⟩]
theorem GRow.setR {el : TypeId} {base : Nat} {W : World} {v : Value} {es : List (List Value)} (h : GRow el 3 base W v es) {j : Nat} {a b c : Value} (hj : es[j]? = some [a, b, c]) {g n cap : Nat} (hv : v = .slice (some ⟨g, 0, none⟩) n cap) (u1 u2 : Value) : GRow el 3 base ((W.setCell ⟨g, j * 3 + 1, none⟩ u1).setCell ⟨g, j * 3 + 1 + 1, none⟩ u2) v (es.set j [a, u1, u2]) := by
  have hl := (List.getElem?_eq_some_iff.1 hj).1
  have h1 := h.set hj (i := 1) (by decide) hv u1
  have h2 := h1.set (j := j) (i := 2) (e := [a, u1, c]) (by rw [List.getElem?_set_self hl]; rfl) (by decide) hv u2
  simpa [List.set_set] using h2
set_option maxHeartbeats 4000000 in
set_option maxRecDepth 100000 in
theorem cset_any (es : List Ent) (nm : ByteArray) (a s : Int) (v : Value) (w : World) (hk : EnSl (fun k => k < w.heap.size) w v es) (hl : es.length ≤ 1000000) :
    Calls Try.prog 8 #[v, .string nm, rfI a s] w (RowRet 30 3 w ((setE es nm a s).map entCells)) := by
  obtain ⟨W1, hW1⟩ : ∃ W1, w.alloc (refO (.int .i64 a) (.int .i64 s)) = W1 := ⟨_, rfl⟩
  have hb1 : Below w.heap.size w W1 := by rw [← hW1]; exact blkBelow w _ _
  have x1 : W1.heap[w.heap.size]? = some (refO (.int .i64 a) (.int .i64 s)) := by rw [← hW1]; exact World.alloc_heap_new _ _
  have hs1 : W1.heap.size = w.heap.size + 1 := by rw [← hW1]; simp
  obtain ⟨pa, len, c, rfl, hlen, hmx, _⟩ := hk.open
  have hsr := (hk.to hb1).src
  have HC := Lib.hid (cloneRow_ents pa len c (es.map entCells) W1 hsr.1 (one_ents es).1 hsr.2 (one_ents es).2 (by simpa using (by omega : es.length ≤ 100000000)))
  have HI : Hid (∀ W, Below W1.heap.size W1 W → Calls Try.prog 25 #[.slice pa len c, .string nm] W fun e w' => e = .returned (.int .i64 (idxI (es.findIdx? (entIs nm)))) ∧ Below W.heap.size W w') := Lib.hid (fun W hW => cindex_any es nm _ W (hk.to (below_seq hb1 hW)))
  have HX : Hid (∀ W, Below W1.heap.size W1 W → W.cell? ⟨w.heap.size, 0, none⟩ = some (.int .i64 a) ∧ W.cell? ⟨w.heap.size, 1, none⟩ = some (.int .i64 s)) := Lib.hid (fun W hW => by
    obtain ⟨h0, h1, _⟩ := refO_cells ((hW.block _ (by omega)).trans x1)
    exact ⟨h0, h1⟩)
  have HW1 := Lib.hid hW1
  have HB1 := Lib.hid hb1
  have HL := Lib.hid hl
  have HS1 := Lib.hid hs1
  obtain ⟨m, hm⟩ : ∃ m, setE es nm a s = m := ⟨_, rfl⟩
  rw [hm]
  have HM := Lib.hid hm
  obtain ⟨r, hr⟩ : ∃ r, es.findIdx? (entIs nm) = r := ⟨_, rfl⟩
  have HR := Lib.hid hr
  rw [hr] at HI
  clear hk hsr hlen hW1 hb1 x1 hs1 hl hm hr
  cases r with
  | none =>
    have HMM : Hid (m = es ++ [⟨nm, a, s⟩]) := Lib.hid (by rw [← HM.out, setE, HR.out])
    go_enter Try.func8, Try.ntmps8
    go_upto_region 1 with fail
    rw [show w.alloc (.cells #[.int .i64 a, .int .i64 s] 24) = W1 from HW1.out]
    go_upto_region 3 with (first | (go_at_call 24; go_loud (refine HC.out.mono ?_; rintro en w2 ⟨ka, kn, kc, rfl, hr2, hb2⟩; have HR2 := Lib.hid hr2; have HB2 := Lib.hid hb2; clear hr2 hb2)) | (go_at_call 25; go_loud (refine (HI.out w2 HB2.out).mono ?_; rintro en w3 ⟨rfl, hb3⟩; have HB3 := Lib.hid hb3; clear hb3)))
    obtain ⟨c0, c1⟩ := HX.out w3 (below_seq HB2.out HB3.out)
    unfold idxI
    go_upto_region 6 with fail
    have hrow3 := HR2.out.to HB3.out
    have hszz : W1.heap.size ≤ w3.heap.size := (below_seq HB2.out HB3.out).size
    go_wp2_with (at_builtin; refine wpList_appG entElem rfl _ _ rfl rfl (hrow3.alloc _) (some ⟨w3.heap.size, 0, none⟩) 1 1 [entCells ⟨nm, a, s⟩] rfl rfl (by intro e he; rw [List.mem_singleton.1 he]; rfl) (src_one (World.alloc_heap_new _ _)) ?_ ?_ ?_ ?_)
    · intro e he u hu
      rw [List.mem_singleton.1 he] at hu
      simp only [entCells, List.mem_cons, List.not_mem_nil, or_false] at hu
      rcases hu with rfl | rfl | rfl <;> rfl
    · have := HL.out; simp; omega
    · simp; omega
    · intro ga gn gc w5 hrow hgrow _
      have hb : Below w.heap.size w w5 := by
        refine ((below_seq HB1.out (below_seq HB2.out HB3.out)).alloc (by have := HS1.out; omega) _).grown hgrow (by have := HS1.out; simp; omega) (fun k hk => by have := (HR2.out.lt k hk).1; have := HS1.out; omega)
      have HRW := Lib.hid hrow
      have HB := Lib.hid hb
      clear hrow hb hgrow hrow3
      go_wp2_with fail
      go_ret
      refine ⟨_, _, _, rfl, ?_, HB.out⟩
      rw [HMM.out, List.map_append]
      exact HRW.out.mono (by have := HS1.out; omega)
  | some i =>
    obtain ⟨e, he⟩ : ∃ e, es[i]? = some e := by
      have h := HR.out
      rw [List.findIdx?_eq_some_iff_getElem] at h
      exact ⟨_, List.getElem?_eq_getElem h.1⟩
    have HMM : Hid (m = es.set i ⟨e.n, a, s⟩) := Lib.hid (by rw [← HM.out, setE, HR.out]; simp only [he])
    have HE := Lib.hid he
    have d1 : decide ((i : Int) < 0) = false := by simp
    have d2 : decide (0 ≤ (i : Int)) = true := by simp
    clear he
    go_enter Try.func8, Try.ntmps8
    go_upto_region 1 with fail
    rw [show w.alloc (.cells #[.int .i64 a, .int .i64 s] 24) = W1 from HW1.out]
    go_upto_region 3 with (first | (go_at_call 24; go_loud (refine HC.out.mono ?_; rintro en w2 ⟨ka, kn, kc, rfl, hr2, hb2⟩; have HR2 := Lib.hid hr2; have HB2 := Lib.hid hb2; clear hr2 hb2)) | (go_at_call 25; go_loud (refine (HI.out w2 HB2.out).mono ?_; rintro en w3 ⟨rfl, hb3⟩; have HB3 := Lib.hid hb3; clear hb3)))
    obtain ⟨c0, c1⟩ := HX.out w3 (below_seq HB2.out HB3.out)
    have hrow3 := HR2.out.to HB3.out
    have hes : (es.map entCells)[i]? = some [.string e.n, .int .i64 e.a, .int .i64 e.s] := by rw [List.getElem?_map, HE.out]; rfl
    obtain ⟨g, cap, e1, _⟩ := hrow3.cell (i := 0) hes rfl
    simp only [Value.slice.injEq] at e1
    obtain ⟨rfl, rfl, rfl⟩ := e1
    have hfz : ∀ k, w3.frozen? ⟨g, k, none⟩ = false := by
      rcases hrow3.parts with ⟨e5, _⟩ | ⟨g5, c5, e5, _, _, _, h5⟩
      · cases e5
      · simp only [Value.slice.injEq, Option.some.injEq, Addr.mk.injEq, and_true] at e5
        obtain ⟨rfl, -⟩ := e5
        exact h5
    obtain ⟨_, _, e2, k1⟩ := hrow3.cell (i := 1) hes rfl
    obtain ⟨_, _, e3, k2⟩ := hrow3.cell (i := 2) hes rfl
    simp only [Value.slice.injEq, Option.some.injEq, Addr.mk.injEq, and_true, true_and] at e2 e3
    rw [← e2.1] at k1
    rw [← e3.1] at k2
    have hil : i < (es.map entCells).length := by rw [List.length_map]; exact (List.getElem?_eq_some_iff.1 HE.out).1
    have HNW : Hid (GRow 30 3 W1.heap.size ((w3.setCell ⟨g, i * 3 + 1, none⟩ (.int .i64 a)).setCell ⟨g, i * 3 + 1 + 1, none⟩ (.int .i64 s)) (.slice (some ⟨g, 0, none⟩) (es.map entCells).length kc) (m.map entCells)) := Lib.hid (by
      have h := hrow3.setR hes rfl (.int .i64 a) (.int .i64 s)
      rw [HMM.out, List.map_set]
      exact h)
    have HGB := Lib.hid (hrow3.lt g rfl)
    obtain ⟨len3, hlen3⟩ : ∃ x, (es.map entCells).length = x := ⟨_, rfl⟩
    rw [hlen3] at HNW hil ⊢
    clear hrow3 hes e2 e3 hlen3
    unfold idxI
    go_wp2_with fail
    go_ret
    refine ⟨_, _, _, rfl, ?_, ?_⟩
    · exact HNW.out.mono (by have := HS1.out; omega)
    · have h1 := HGB.out.1
      have h2 := HS1.out
      exact ((below_seq HB1.out (below_seq HB2.out HB3.out)).setCell (p := ⟨g, _, none⟩) (by show w.heap.size ≤ g; omega) _).setCell (p := ⟨g, _, none⟩) (by show w.heap.size ≤ g; omega) _

/-! ### selected -/
set_option maxHeartbeats 4000000 in
set_option maxRecDepth 100000 in
theorem select_any (es : List Ent) (pf : Ent → Bool) (f : Nat) (caps : Array Value) (eg : ∀ args w, (callFunc f args).run Try.prog w = .ok (.enter f args) w) (v : Value) (w : World) (hk : EnSl (fun k => k < w.heap.size) w v es) (hl : es.length ≤ 1000000) (hf : TellsE f caps w es pf) :
    Calls Try.prog 28 #[v, .func (.func f) #[] caps] w (RowRet 30 3 w ((es.filter pf).map entCells)) := by
  obtain ⟨pa, len, c, rfl, hlen, hmx, hget⟩ := hk.open
  have HG : Hid (∀ j e, es[j]? = some e → ∃ kb ko, pa = some ⟨kb, ko, none⟩ ∧ ∀ W, Below w.heap.size w W → EnAt W kb (ko + j * 3) e) := Lib.hid (fun j e hj => by
    obtain ⟨kb, ko, e1, hkb, hty⟩ := hget j e hj
    exact ⟨kb, ko, e1, fun W hW => hty.keep (B := fun k => k < w.heap.size) (hW.keeps'.mono (fun k hk => hk)) hkb⟩)
  have HF := Lib.hid hf
  have HL : Hid (len = es.length) := Lib.hid hlen.out
  have hlen1 : len ≤ 1000000 := by rw [hlen.out]; exact hl
  clear hget hf hk hlen hl
  go_enter Try.func28, Try.ntmps28
  go_wp2_with fail
  go_loopw [5, 10] (fun kv i wr => ∃ (j : Nat) (qa : Option Addr) (qn qc : Nat), i = .int .i64 j ∧ j ≤ len ∧ kv = .slice qa qn qc ∧ Hid (GRow 30 3 w.heap.size wr (.slice qa qn qc) (((es.take j).filter pf).map entCells)) ∧ Hid (Below w.heap.size w wr)) (fun _ i _ => len - (intOf i).toNat)
  case atStart => exact ⟨0, none, 0, 0, rfl, Nat.zero_le _, rfl, Lib.hid (by simpa using GRow.nil _ _ _ _), Lib.hid (Below.refl _ _)⟩
  case round =>
    obtain ⟨j, qa, qn, qc, rfl, hj, rfl, HRW, HBW⟩ := hrel
    by_cases hlt : j < len
    · obtain ⟨e, he⟩ : ∃ e, es[j]? = some e := ⟨_, List.getElem?_eq_getElem (by rw [← HL.out]; exact hlt)⟩
      obtain ⟨kb, ko, rfl, hW⟩ := HG.out j e he
      obtain ⟨d0, d1, d2⟩ := hW wr HBW.out
      have HT := Lib.hid he
      obtain ⟨V1, hV1⟩ : ∃ V1, wr.alloc (.cells #[.string e.n, .int .i64 e.a, .int .i64 e.s] 30) = V1 := ⟨_, rfl⟩
      have hb1 : Below wr.heap.size wr V1 := by rw [← hV1]; exact blkBelow wr _ _
      have x1 : V1.heap[wr.heap.size]? = some (.cells #[.string e.n, .int .i64 e.a, .int .i64 e.s] 30) := by rw [← hV1]; exact World.alloc_heap_new _ _
      have hs1 : V1.heap.size = wr.heap.size + 1 := by rw [← hV1]; simp
      have hx : ∀ W, Below V1.heap.size V1 W → W.cell? ⟨wr.heap.size, 0, none⟩ = some (.string e.n) ∧ W.cell? ⟨wr.heap.size, 1, none⟩ = some (.int .i64 e.a) ∧ W.cell? ⟨wr.heap.size, 2, none⟩ = some (.int .i64 e.s) := fun W hW => by
        have h : W.heap[wr.heap.size]? = some (.cells #[.string e.n, .int .i64 e.a, .int .i64 e.s] 30) := (hW.block _ (by omega)).trans x1
        refine ⟨?_, ?_, ?_⟩ <;> simp [World.cell?, h]
      obtain ⟨b0, b1, b2⟩ := hx V1 (Below.refl _ _)
      have HX := Lib.hid hx
      have HC := Lib.hid (HF.out e (List.mem_of_getElem? he) V1 (below_seq HBW.out hb1))
      have HV1 := Lib.hid hV1
      have HB1 := Lib.hid hb1
      have HS1 := Lib.hid hs1
      have HTK : Hid (((es.take (j + 1)).filter pf).map entCells = ((es.take j).filter pf).map entCells ++ (if pf e = true then [entCells e] else [])) := Lib.hid (by
        rw [take_snoc_get he, List.filter_append, List.map_append]
        cases hp : pf e <;> simp [hp])
      clear hW he hx hV1 hb1 hs1 x1
      cases hp : pf e with
      | true =>
        rw [hp] at HC HTK
        clear hp
        go_upto_region 5 with fail
        rw [show wr.alloc (.cells #[.string e.n, .int .i64 e.a, .int .i64 e.s] 30) = V1 from HV1.out]
        go_wp2_with fail
        refine HC.out.mono ?_
        rintro en w2 ⟨rfl, hb2⟩
        have HB2 := Lib.hid hb2
        clear b0 b1 b2
        obtain ⟨b0, b1, b2⟩ := HX.out w2 hb2
        have hrow2 := HRW.out.to (below_seq HB1.out hb2)
        have hsz2 := hb2.size
        clear hb2
        have hlr : ((es.take j).filter pf).length ≤ 1000000 := by
          have h1 := List.length_filter_le pf (es.take j)
          rw [List.length_take] at h1
          omega
        have HLR := Lib.hid hlr
        clear hlr
        go_wp2_with (at_builtin; refine wpList_appG entElem rfl _ _ rfl rfl (hrow2.alloc _) (some ⟨w2.heap.size, 0, none⟩) 1 1 [entCells e] rfl rfl (by intro e' he'; rw [List.mem_singleton.1 he']; rfl) (src_one (World.alloc_heap_new _ _)) ?_ ?_ ?_ ?_)
        · intro e' he' u hu
          rw [List.mem_singleton.1 he'] at hu
          simp only [entCells, List.mem_cons, List.not_mem_nil, or_false] at hu
          rcases hu with rfl | rfl | rfl <;> rfl
        · have := HLR.out
          rw [List.length_map]
          simp
          omega
        · have := HBW.out.size
          have := HS1.out
          simp
          omega
        · intro ga gn gc w5 hrow hgrow _
          have hb : Below w.heap.size w w5 := by
            have h0 := HBW.out.size
            have h1 := HS1.out
            refine ((below_seq HBW.out (below_seq HB1.out HB2.out)).alloc (by omega) _).grown hgrow (by simp; omega) (fun k hk => (HRW.out.lt k hk).1)
          have HRN := Lib.hid hrow
          have HBN := Lib.hid hb
          clear hrow hb hgrow hrow2
          go_wp2_with fail
          go_roundw
          case rel => exact ⟨j + 1, _, _, _, by go_num, by omega, rfl, Lib.hid (by rw [HTK.out, if_pos trivial]; exact HRN.out), HBN⟩
          case measure => simp [intOf]; omega
      | false =>
        rw [hp] at HC HTK
        clear hp
        go_upto_region 5 with fail
        rw [show wr.alloc (.cells #[.string e.n, .int .i64 e.a, .int .i64 e.s] 30) = V1 from HV1.out]
        go_wp2_with fail
        refine HC.out.mono ?_
        rintro en w2 ⟨rfl, hb2⟩
        have HB2 := Lib.hid hb2
        clear hb2 b0 b1 b2
        go_wp2_with fail
        go_roundw
        case rel => exact ⟨j + 1, _, _, _, by go_num, by omega, rfl, Lib.hid (by rw [HTK.out, if_neg (by decide), List.append_nil]; exact HRW.out.to (below_seq HB1.out HB2.out)), Lib.hid (below_seq HBW.out (below_seq HB1.out HB2.out))⟩
        case measure => simp [intOf]; omega
    · obtain rfl : j = len := by omega
      go_wp2_with fail
      go_ret
      refine ⟨_, _, _, rfl, ?_, HBW.out⟩
      have h := HRW.out
      rw [List.take_of_length_le (by rw [HL.out]; exact Nat.le_refl _)] at h
      exact h
end Go.Proofs.Yticdkbcfahjpnaa

/- Scopes: sets of texts as maps, numbers of parameters, and what the names and calls of a program ask. -/
namespace Go.Proofs.Yticdkbcfahjpnaa
open Go.RowKit Go.Deep Go.Shelf

/-! ### Lists of texts -/
theorem memB_append (s : ByteArray) (l r : List ByteArray) : memB s (l ++ r) = (memB s l || memB s r) := by simp [memB]
theorem memB_nil (s : ByteArray) : memB s [] = false := rfl
theorem memB_one (s x : ByteArray) : memB s [x] = decide (x = s) := by simp [memB]
theorem memB_cons (s x : ByteArray) (l : List ByteArray) : memB s (x :: l) = (decide (x = s) || memB s l) := by simp [memB]
/-- Some text stands twice. -/
def dups : List ByteArray → Bool
  | [] => false
  | x :: r => memB x r || dups r
theorem dups_snoc (l : List ByteArray) (x : ByteArray) : dups (l ++ [x]) = (dups l || memB x l) := by
  induction l with
  | nil => rfl
  | cons y r ih =>
    rw [List.cons_append, dups, ih, memB_append, dups, memB_one, memB_cons, show decide (x = y) = decide (y = x) from by simp [eq_comm]]
    cases memB y r <;> cases dups r <;> cases decide (y = x) <;> cases memB x r <;> rfl
theorem dups_mono (l : List ByteArray) {j : Nat} (h : dups (l.take j) = true) : dups l = true := by
  have h1 : ∀ (a r : List ByteArray), dups a = true → dups (a ++ r) = true := by
    intro a r
    induction a with
    | nil => intro h; cases h
    | cons y a ih =>
      intro h
      rw [List.cons_append, dups, memB_append]
      rw [dups] at h
      cases hm : memB y a with
      | true => simp
      | false => rw [hm] at h; simp at h; rw [ih h]; simp
  rw [← List.take_append_drop j l]; exact h1 _ _ h

theorem intInfoS : (Try.prog.info? 3).map (fun i => (i.zero, i.size, i.bytes)) = some (some (.int .i64 0), 1, 8) := by kernel_rfl
theorem zero_intS (w : World) : (zeroValue 3).run Try.prog w = .ok (.int .i64 0) w := by
  obtain ⟨i0, hi, hz0, hz1, hz2⟩ := info_parts intInfoS
  simp [zeroValue, typeInfo, hi, hz0]

/-! ### Sets of texts -/
theorem boolKeyed : Maps.Keyed Try.prog 9 := Maps.string_keyed Try.underlying9
/-- Block b is a map that holds the texts of l, in at most n entries. -/
def SetIs (w : World) (b n : Nat) (l : List ByteArray) : Prop := ∃ D : DataW Unit, w.ownsMap Try.prog 9 (plainElem Try.prog 4) b n D ∧ (∀ s : ByteArray, Maps.has D (.string s.data.toList) = memB s l ∧ D.atKey (.string s.data.toList) (.lit (.bool false)) = .lit (.bool (memB s l))) ∧ Maps.size D ≤ l.length ∧ (Maps.size D < l.length ↔ dups l = true)
theorem SetIs.seen {w : World} {b n : Nat} {l : List ByteArray} (h : SetIs w b n l) : Seen w b n l := by
  obtain ⟨D, ho, hf, _⟩ := h; exact ⟨D, ho, fun s => (hf s).2⟩
theorem SetIs.look {w : World} {b n : Nat} {l : List ByteArray} (h : SetIs w b n l) {s : ByteArray} (hs : s.size ≤ maxLen) : (Instr.lookup 67 (.map (some b)) (.string s) false).run Try.prog w = .ok (.bool (memB s l)) w := h.seen.look hs
theorem SetIs.made (w : World) : SetIs (w.alloc (.map #[] 0)) w.heap.size 0 [] := ⟨.map [], World.ownsMap_made w _ _ _, fun _ => ⟨rfl, rfl⟩, by simp [Maps.size_eq], by simp [Maps.size_eq, dups]⟩
theorem SetIs.kept {w w' : World} {b n : Nat} {l : List ByteArray} (h : SetIs w b n l) {row : Option Nat} (hg : w.grownBy w' row) (hne : some b ≠ row) : SetIs w' b n l := by
  obtain ⟨D, ho, hf⟩ := h; exact ⟨D, ho.kept hg hne, hf⟩
theorem SetIs.lt {w : World} {b n : Nat} {l : List ByteArray} (h : SetIs w b n l) : b < w.heap.size := by obtain ⟨D, ho, _⟩ := h; exact ho.lt
theorem SetIs.below {w w' : World} {b n m : Nat} {l : List ByteArray} (h : SetIs w b n l) (hb : Below m w w') (hm : b < m) : SetIs w' b n l := by
  obtain ⟨D, ⟨es, clock, h1, r⟩, hf⟩ := h
  exact ⟨D, ⟨es, clock, (hb.block b hm).trans h1, r⟩, hf⟩
theorem SetIs.put {w : World} {b n : Nat} {l : List ByteArray} (h : SetIs w b n l) (hn : n < maxLen) {s : ByteArray} (hs : s.size ≤ maxLen) :
    ∃ w', (Instr.mapUpdate 67 (.map (some b)) (.string s) (.bool true)).run Try.prog w = .ok () w' ∧ SetIs w' b (n + 1) (l ++ [s]) ∧ w.grownBy w' (some b) := by
  obtain ⟨D, ho, hf, h1, h2⟩ := h
  obtain ⟨w', hr, ho', ht⟩ := ho.store boolKeyed Try.underlying67 hn (Go.WideMaps.keyOf_string_mk Try.underlying9 hs) (plainElem_bool Try.underlying4 true)
  have hk : WideAt.IsKeyLit (Lit.string s.data.toList) := by first | trivial | simp [WideAt.IsKeyLit]
  have hsz := Maps.size_put (k := Lit.string s.data.toList) (ho.tidy boolKeyed) (DataW.lit (H := Unit) (.bool true))
  rw [(hf s).1] at hsz
  have hd := dups_snoc l s
  refine ⟨w', hr, ⟨_, ho', fun x => ?_, ?_, ?_⟩, ht.grown⟩
  · by_cases e : x = s
    · subst e
      rw [Maps.atKey_put_same ho.isMap hk, Maps.has_put_same ho.isMap hk]
      have : memB x (l ++ [x]) = true := memB_true.2 (by simp)
      rw [this]; exact ⟨rfl, rfl⟩
    · have e1 : Lit.string x.data.toList ≠ Lit.string s.data.toList := fun h => e (by
        have := Lit.string.inj h
        cases x; cases s; simp at this; congr 1)
      rw [Maps.atKey_put_other e1, Maps.has_put_other e1, memB_append, memB_one]
      have e' : decide (s = x) = false := by simpa using fun h => e h.symm
      rw [e', Bool.or_false]; exact hf x
  · rw [List.length_append, List.length_singleton]; split at hsz <;> omega
  · rw [List.length_append, List.length_singleton, hd]
    cases hm : memB s l with
    | true => rw [hm] at hsz; simp at hsz; simp; omega
    | false => rw [hm] at hsz; simp at hsz; rw [Bool.or_false, ← h2]; omega
theorem SetIs.len {w : World} {b n : Nat} {l : List ByteArray} (h : SetIs w b n l) (ty : TypeId) :
    ∃ q : Nat, (Builtin.len_ #[67] ty #[.map (some b)]).run Try.prog w = .ok (.int .i64 q) w ∧ q ≤ l.length ∧ (q < l.length ↔ dups l = true) := by
  obtain ⟨D, ho, hf, h1, h2⟩ := h
  exact ⟨_, ho.len Try.underlying67 ty, h1, h2⟩

/-! ### Numbers by texts -/
def ArIs (w : World) (b n : Nat) (ar : ByteArray → Option Nat) : Prop := ∃ f : Lit → Option Value, MapIs w 9 b n f ∧ ∀ s : ByteArray, f (.string s.data.toList) = (ar s).map (fun k => Value.int .i64 (k : Int))
theorem ArIs.lt {w : World} {b n : Nat} {ar : ByteArray → Option Nat} (h : ArIs w b n ar) : b < w.heap.size := by obtain ⟨f, hm, _⟩ := h; exact hm.lt
theorem ArIs.below {w w' : World} {b n m : Nat} {ar : ByteArray → Option Nat} (h : ArIs w b n ar) (hb : Below m w w') (hm : b < m) : ArIs w' b n ar := by
  obtain ⟨f, h1, h2⟩ := h; exact ⟨f, h1.below hb hm, h2⟩
theorem ArIs.made (w : World) : ArIs (w.alloc (.map #[] 0)) w.heap.size 0 (fun _ => none) := ⟨_, MapIs.made _ _, fun _ => rfl⟩
/-! ### What is asked -/
/-- The numbers of parameters by names: of the last definition with the name. -/
def arOf : List Df → ByteArray → Option Nat
  | [], _ => none
  | d :: r, s => match arOf r s with
    | some k => some k
    | none => if s = d.n then some d.ms.length else none
theorem arOf_snoc (l : List Df) (d : Df) (s : ByteArray) : arOf (l ++ [d]) s = if s = d.n then some d.ms.length else arOf l s := by
  induction l with
  | nil => simp [arOf]
  | cons x r ih =>
    rw [List.cons_append, arOf, ih, arOf]
    by_cases e : s = d.n
    · simp [e]
    · simp [e]
/-- That of the first one. -/
def arFst : List Df → ByteArray → Option Nat
  | [], _ => none
  | d :: r, s => if s = d.n then some d.ms.length else arFst r s
theorem arFst_none {l : List Df} {s : ByteArray} (h : memB s (l.map Df.n) = false) : arFst l s = none := by
  induction l with
  | nil => rfl
  | cons d r ih =>
    rw [List.map_cons, memB_cons, Bool.or_eq_false_iff] at h
    rw [arFst, if_neg (fun e => by simp [e] at h), ih h.2]
theorem arOf_none {l : List Df} {s : ByteArray} (h : memB s (l.map Df.n) = false) : arOf l s = none := by
  induction l with
  | nil => rfl
  | cons d r ih =>
    rw [List.map_cons, memB_cons, Bool.or_eq_false_iff] at h
    rw [arOf, ih h.2]
    simp only
    rw [if_neg (fun e => by simp [e] at h)]
theorem arOf_fst {l : List Df} (h : dups (l.map Df.n) = false) (s : ByteArray) : arOf l s = arFst l s := by
  induction l with
  | nil => rfl
  | cons d r ih =>
    rw [List.map_cons, dups, Bool.or_eq_false_iff] at h
    rw [arOf, arFst]
    by_cases e : s = d.n
    · subst e
      rw [arOf_none h.1]; simp
    · rw [ih h.2, if_neg e, if_neg e]
      cases arFst r s <;> rfl

def badArg (sc : List ByteArray) (a : Vl) : Bool := decide (a.k = 1) && !memB a.n sc
/-- The error of a call, but for its arguments' names. -/
def callE (r : Option Nat) (n : Nat) (g : Bool) : Int := match r with
  | none => 4
  | some k => if k = n then (if g then 0 else 7) else 6
def Pr.nodeE (ar : ByteArray → Option Nat) (sc : List ByteArray) (g : Bool) (p : Pr) : Int :=
  if (prefixB p.k && !memB p.c sc) = true then 4
  else if p.vs.any (badArg sc) = true then 4
  else if p.bnd.any (fun s => memB s sc) = true then 5
  else if p.k = 8 then callE (ar p.c) p.vs.length g
  else 0
mutual
/-- The error of the first node that has one. -/
def Pr.scE (ar : ByteArray → Option Nat) : Pr → List ByteArray → Bool → Int
  | .mk k c x ls vs t ps, sc, g => if (Pr.mk k c x ls vs t ps).nodeE ar sc g = 0 then Pr.scEs ar ps (sc ++ (Pr.mk k c x ls vs t ps).bnd) (g || prefixB k) else (Pr.mk k c x ls vs t ps).nodeE ar sc g
def Pr.scEs (ar : ByteArray → Option Nat) : List Pr → List ByteArray → Bool → Int
  | [], _, _ => 0
  | p :: r, sc, g => if p.scE ar sc g = 0 then Pr.scEs ar r sc g else p.scE ar sc g
end
theorem Pr.scE_eq (ar : ByteArray → Option Nat) (p : Pr) (sc : List ByteArray) (g : Bool) : p.scE ar sc g = if p.nodeE ar sc g = 0 then Pr.scEs ar p.ps (sc ++ p.bnd) (g || prefixB p.k) else p.nodeE ar sc g := by cases p; simp [Pr.scE, Pr.ps, Pr.k]
theorem Pr.scEs_append {ar : ByteArray → Option Nat} {l : List Pr} {sc : List ByteArray} {g : Bool} (h : Pr.scEs ar l sc g = 0) (r : List Pr) : Pr.scEs ar (l ++ r) sc g = Pr.scEs ar r sc g := by
  induction l with
  | nil => rfl
  | cons p l ih =>
    rw [Pr.scEs] at h
    by_cases hp : p.scE ar sc g = 0
    · rw [if_pos hp] at h
      rw [List.cons_append, Pr.scEs, if_pos hp]; exact ih h
    · rw [if_neg hp] at h; exact absurd h hp
theorem Pr.scEs_next {ar : ByteArray → Option Nat} {l : List Pr} {sc : List ByteArray} {g : Bool} {j : Nat} {u : Pr} (hu : l[j]? = some u) (h : Pr.scEs ar (l.take j) sc g = 0) {x : Int} (hx : u.scE ar sc g = x) :
    Pr.scEs ar (l.take (j + 1)) sc g = x ∧ (x ≠ 0 → Pr.scEs ar l sc g = x) := by
  refine ⟨?_, fun h0 => ?_⟩
  · rw [take_snoc_get hu, Pr.scEs_append h, Pr.scEs, hx]
    by_cases h0 : x = 0
    · rw [if_pos h0, h0]; rfl
    · rw [if_neg h0]
  · have hjl : j < l.length := (List.getElem?_eq_some_iff.1 hu).1
    have e : l = l.take j ++ u :: l.drop (j + 1) := by
      conv => lhs; rw [← List.take_append_drop j l, List.drop_eq_getElem_cons hjl]
      congr 2
      exact (List.getElem?_eq_some_iff.1 hu).2
    rw [e, Pr.scEs_append h, Pr.scEs, hx, if_neg h0]

/-- The names and the parameters of a definition are not new. -/
def twiceAt (ds : List Df) (i : Nat) : Bool := match ds[i]? with
  | some d => memB d.n ((ds.take i).map Df.n) || dups (d.ms.map Pm.n)
  | none => false
def twF (ds : List Df) : Option Nat := (List.range ds.length).find? (twiceAt ds)
/-- The error of a body, Main last. -/
def Pg.bE (g : Pg) (ar : ByteArray → Option Nat) (i : Nat) : Int := match g.ds[i]? with
  | some d => d.b.scE ar (d.ms.map Pm.n) false
  | none => g.m.scE ar [] true
def Pg.bF (g : Pg) : Option Nat := (List.range (g.ds.length + 1)).find? (fun i => g.bE (arOf g.ds) i != 0)
theorem range_find {n i : Nat} {p : Nat → Bool} (hi : i < n) (h : ∀ j, j < i → p j = false) (hp : p i = true) : (List.range n).find? p = some i := by
  rw [List.find?_range_eq_some]
  exact ⟨hp, List.mem_range.2 hi, fun j hj => by simp [h j hj]⟩
theorem range_find_none {n : Nat} {p : Nat → Bool} (h : ∀ j, j < n → p j = false) : (List.range n).find? p = none := by
  rw [List.find?_eq_none]; intro j hj; simp [h j (List.mem_range.1 hj)]

end Go.Proofs.Yticdkbcfahjpnaa

/- Contexts: Drop, live entries, Live, the set of names, Split, Lowest. -/
namespace Go.Proofs.Yticdkbcfahjpnaa
open Go.RowKit Go.Deep Go.Shelf

/-! ### Drop -/
set_option maxHeartbeats 1000000 in
theorem drop1_any (e : Ent) (nm : ByteArray) (b : Nat) (w : World) (hb : ∀ W, Below w.heap.size w W → W.cell? ⟨b, 0, none⟩ = some (.string nm)) :
    Calls Try.prog 34 #[entV e, .pointer (some ⟨b, 0, none⟩)] w fun en w' => en = .returned (.bool (!entIs nm e)) ∧ Below w.heap.size w w' := by
  obtain ⟨W1, hW1⟩ : ∃ W1, w.alloc (.cells #[.string e.n, .int .i64 e.a, .int .i64 e.s] 30) = W1 := ⟨_, rfl⟩
  have hb1 : Below w.heap.size w W1 := by rw [← hW1]; exact blkBelow w _ _
  have x1 : W1.heap[w.heap.size]? = some (.cells #[.string e.n, .int .i64 e.a, .int .i64 e.s] 30) := by rw [← hW1]; exact World.alloc_heap_new _ _
  have c0 : W1.cell? ⟨w.heap.size, 0, none⟩ = some (.string e.n) := by simp [World.cell?, x1]
  have c1 := hb W1 hb1
  have HW1 := Lib.hid hW1
  have HB1 := Lib.hid hb1
  clear hb hW1 hb1 x1
  cases h : entIs nm e
  · have he : e.n ≠ nm := by simpa [entIs] using h
    have h1 := str_ne he
    have h2 : (e.n.toList == nm.toList) = false := by simpa using h1
    clear h he
    go_enter Try.func34, Try.ntmps34
    go_upto_region 1 with fail
    rw [show w.alloc (.cells #[.string e.n, .int .i64 e.a, .int .i64 e.s] 30) = W1 from HW1.out]
    go_wp2_with fail
    go_ret
    exact ⟨rfl, HB1.out⟩
  · obtain rfl : e.n = nm := by simpa [entIs] using h
    clear h
    go_enter Try.func34, Try.ntmps34
    go_upto_region 1 with fail
    rw [show w.alloc (.cells #[.string e.n, .int .i64 e.a, .int .i64 e.s] 30) = W1 from HW1.out]
    go_wp2_with fail
    go_ret
    exact ⟨rfl, HB1.out⟩
theorem RowRet.from {el : TypeId} {sz : Nat} {w W : World} {es : List (List Value)} {e : Ending} {w' : World} (h : RowRet el sz W es e w') (hb : Below w.heap.size w W) : RowRet el sz w es e w' := by
  obtain ⟨a, n, c, e1, hr, hB⟩ := h
  exact ⟨a, n, c, e1, hr.mono hb.size, below_seq hb hB⟩
set_option maxHeartbeats 2000000 in
theorem cdrop_any (es : List Ent) (nm : ByteArray) (v : Value) (w : World) (hk : EnSl (fun k => k < w.heap.size) w v es) (hl : es.length ≤ 1000000) :
    Calls Try.prog 17 #[v, .string nm] w (RowRet 30 3 w ((es.filter (fun e => !entIs nm e)).map entCells)) := by
  obtain ⟨W1, hW1⟩ : ∃ W1, w.alloc (.cells #[.string nm] 9) = W1 := ⟨_, rfl⟩
  have hb1 : Below w.heap.size w W1 := by rw [← hW1]; exact blkBelow w _ _
  have x1 : W1.heap[w.heap.size]? = some (.cells #[.string nm] 9) := by rw [← hW1]; exact World.alloc_heap_new _ _
  have hs1 : W1.heap.size = w.heap.size + 1 := by rw [← hW1]; simp
  have HI := Lib.hid (select_any es (fun e => !entIs nm e) 34 #[.pointer (some ⟨w.heap.size, 0, none⟩)] (enters_of Try.func34 (by kernel_rfl) rfl) v W1 (hk.to hb1) hl (fun e _ W hW => drop1_any e nm w.heap.size W (fun W' hW' => by
    have h : W'.heap[w.heap.size]? = some (.cells #[.string nm] 9) := ((below_seq hW hW').block _ (by omega)).trans x1
    simp [World.cell?, h])))
  have HW1 := Lib.hid hW1
  have HB1 := Lib.hid hb1
  obtain ⟨pa, len, c, rfl, _⟩ := hk.open
  obtain ⟨r, hr⟩ : ∃ r, (es.filter (fun e => !entIs nm e)).map entCells = r := ⟨_, rfl⟩
  rw [hr] at HI ⊢
  clear hk hW1 hb1 x1 hs1 hr
  go_enter Try.func17, Try.ntmps17
  go_upto_region 1 with fail
  rw [show w.alloc (.cells #[.string nm] 9) = W1 from HW1.out]
  go_wp2_with (go_at_call 28; go_loud (refine HI.out.mono ?_; rintro en w3 ⟨ka, kn, kc, rfl, hr3, hb3⟩; have HR3 := Lib.hid hr3; have HB3 := Lib.hid hb3; clear hr3 hb3))
  go_ret
  exact RowRet.from ⟨_, _, _, rfl, HR3.out, HB3.out⟩ HB1.out

/-! ### Live entries -/
def Ent.r (e : Ent) : GRef := ⟨e.a.toNat, e.s⟩
def livB (ns : List GNode) (e : Ent) : Bool := (prioE ns e.r).isSome
/-- An entry whose reference is to a node of the graph. -/
def EntOk (ns : List GNode) (e : Ent) : Prop := 0 ≤ e.a ∧ e.a.toNat < ns.length ∧ (-1000000000 ≤ e.s ∧ e.s ≤ 1000000000) ∧ e.n.size ≤ maxLen
set_option maxHeartbeats 2000000 in
set_option maxRecDepth 100000 in
theorem live_any (ns : List GNode) (na : Option Addr) (nn nc : Nat) (e : Ent) (w : World) (hns : NodeSl (fun k => k < w.heap.size) w (.slice na nn nc) ns) (hl : ns.length ≤ 1000000) (hsm : smallG ns) (he : EntOk ns e) :
    Calls Try.prog 30 #[grV na nn nc, entV e] w fun en w' => en = .returned (.bool (livB ns e)) ∧ Below w.heap.size w w' := by
  obtain ⟨h0, h1, h2, _⟩ := he
  obtain ⟨g, hg⟩ : ∃ g, ns[e.a.toNat]? = some g := ⟨_, List.getElem?_eq_getElem h1⟩
  have hlv : livB ns e = actI g.k := by
    unfold livB prioE Ent.r
    simp only [hg]
    cases actI g.k <;> rfl
  obtain ⟨W2, hW2⟩ : ∃ W2, (w.alloc (grO na nn nc)).alloc (.cells #[.string e.n, .int .i64 e.a, .int .i64 e.s] 30) = W2 := ⟨_, rfl⟩
  obtain ⟨hs2, hb2, x0, x1⟩ := two_made hW2
  have HPR : Hid (Calls Try.prog 42 #[grV na nn nc, rfI e.a e.s] W2 fun en w' => en = .returned (prioV g e.s) ∧ Below W2.heap.size W2 w') := Lib.hid (by
    have h := prio_any ns na nn nc e.a.toNat e.s g W2 ((hns.keep (hb2.keeps'.mono (fun k hk => hk))).mono (fun k hk => Nat.lt_of_lt_of_le hk hb2.size)) hg hl (hsm g (List.mem_of_getElem? hg)).1 (by omega)
    have e' : rfV e.a.toNat e.s = rfI e.a e.s := by
      show Value.agg _ = _
      rw [show ((e.a.toNat : Nat) : Int) = e.a by omega]
    rwa [e'] at h)
  have g0 : W2.cell? ⟨w.heap.size, 0, none⟩ = some (.slice na nn nc) := by simp [World.cell?, x0]
  have e0 : W2.cell? ⟨w.heap.size + 1, 0, none⟩ = some (.string e.n) := by simp [World.cell?, x1]
  have e1 : W2.cell? ⟨w.heap.size + 1, 1, none⟩ = some (.int .i64 e.a) := by simp [World.cell?, x1]
  have e2 : W2.cell? ⟨w.heap.size + 1, 2, none⟩ = some (.int .i64 e.s) := by simp [World.cell?, x1]
  have HW2 := Lib.hid hW2
  have HB2 := Lib.hid hb2
  rw [hlv]
  unfold prioV at HPR
  clear hns hl hsm h0 h1 h2 hg hlv hW2 hs2 hb2 x0 x1
  cases hac : actI g.k with
  | true =>
    rw [if_pos hac] at HPR
    clear hac
    go_enter Try.func30, Try.ntmps30
    go_upto_region 1 with fail
    rw [show (w.alloc (.cells #[.slice na nn nc] 37)).alloc (.cells #[.string e.n, .int .i64 e.a, .int .i64 e.s] 30) = W2 from HW2.out]
    go_wp2_with (go_at_call 42; go_loud (refine HPR.out.mono ?_; rintro en w3 ⟨rfl, hb3⟩; have HB3 := Lib.hid hb3; clear hb3))
    go_ret
    exact ⟨rfl, below_seq HB2.out HB3.out⟩
  | false =>
    rw [if_neg (by rw [hac]; decide)] at HPR
    clear hac
    go_enter Try.func30, Try.ntmps30
    go_upto_region 1 with fail
    rw [show (w.alloc (.cells #[.slice na nn nc] 37)).alloc (.cells #[.string e.n, .int .i64 e.a, .int .i64 e.s] 30) = W2 from HW2.out]
    go_wp2_with (go_at_call 42; go_loud (refine HPR.out.mono ?_; rintro en w3 ⟨rfl, hb3⟩; have HB3 := Lib.hid hb3; clear hb3))
    go_ret
    exact ⟨rfl, below_seq HB2.out HB3.out⟩

set_option maxHeartbeats 1000000 in
theorem live1_any (ns : List GNode) (na : Option Addr) (nn nc : Nat) (e : Ent) (b : Nat) (w : World) (hb : ∀ W, Below w.heap.size w W → W.cell? ⟨b, 0, none⟩ = some (.slice na nn nc)) (hns : NodeSl (fun k => k < w.heap.size) w (.slice na nn nc) ns) (hl : ns.length ≤ 1000000) (hsm : smallG ns) (he : EntOk ns e) :
    Calls Try.prog 38 #[entV e, .pointer (some ⟨b, 0, none⟩)] w fun en w' => en = .returned (.bool (livB ns e)) ∧ Below w.heap.size w w' := by
  obtain ⟨W1, hW1⟩ : ∃ W1, w.alloc (.cells #[.string e.n, .int .i64 e.a, .int .i64 e.s] 30) = W1 := ⟨_, rfl⟩
  have hb1 : Below w.heap.size w W1 := by rw [← hW1]; exact blkBelow w _ _
  have x1 : W1.heap[w.heap.size]? = some (.cells #[.string e.n, .int .i64 e.a, .int .i64 e.s] 30) := by rw [← hW1]; exact World.alloc_heap_new _ _
  have e0 : W1.cell? ⟨w.heap.size, 0, none⟩ = some (.string e.n) := by simp [World.cell?, x1]
  have e1 : W1.cell? ⟨w.heap.size, 1, none⟩ = some (.int .i64 e.a) := by simp [World.cell?, x1]
  have e2 : W1.cell? ⟨w.heap.size, 2, none⟩ = some (.int .i64 e.s) := by simp [World.cell?, x1]
  have c1 := hb W1 hb1
  have HL := Lib.hid (live_any ns na nn nc e W1 ((hns.keep (hb1.keeps'.mono (fun k hk => hk))).mono (fun k hk => Nat.lt_of_lt_of_le hk hb1.size)) hl hsm he)
  have HW1 := Lib.hid hW1
  have HB1 := Lib.hid hb1
  clear hb hW1 hb1 x1 hns hl hsm he
  go_enter Try.func38, Try.ntmps38
  go_upto_region 1 with fail
  rw [show w.alloc (.cells #[.string e.n, .int .i64 e.a, .int .i64 e.s] 30) = W1 from HW1.out]
  go_wp2_with (go_at_call 30; go_loud (refine HL.out.mono ?_; rintro en w3 ⟨rfl, hb3⟩; have HB3 := Lib.hid hb3; clear hb3))
  go_ret
  exact ⟨rfl, below_seq HB1.out HB3.out⟩
theorem NodeSl.to {w w' : World} {v : Value} {ns : List GNode} (h : NodeSl (fun k => k < w.heap.size) w v ns) (hb : Below w.heap.size w w') : NodeSl (fun k => k < w'.heap.size) w' v ns := (h.keep (hb.keeps'.mono (fun _ hk => hk))).mono (fun _ hk => Nat.lt_of_lt_of_le hk hb.size)
set_option maxHeartbeats 2000000 in
theorem clive_any (ns : List GNode) (na : Option Addr) (nn nc : Nat) (es : List Ent) (v : Value) (w : World) (hns : NodeSl (fun k => k < w.heap.size) w (.slice na nn nc) ns) (hnl : ns.length ≤ 1000000) (hsm : smallG ns) (he : ∀ e ∈ es, EntOk ns e) (hk : EnSl (fun k => k < w.heap.size) w v es) (hl : es.length ≤ 1000000) :
    Calls Try.prog 23 #[grV na nn nc, v] w (RowRet 30 3 w ((es.filter (livB ns)).map entCells)) := by
  obtain ⟨W1, hW1⟩ : ∃ W1, w.alloc (grO na nn nc) = W1 := ⟨_, rfl⟩
  have hb1 : Below w.heap.size w W1 := by rw [← hW1]; exact blkBelow w _ _
  have x1 : W1.heap[w.heap.size]? = some (grO na nn nc) := by rw [← hW1]; exact World.alloc_heap_new _ _
  have hs1 : W1.heap.size = w.heap.size + 1 := by rw [← hW1]; simp
  have HI := Lib.hid (select_any es (livB ns) 38 #[.pointer (some ⟨w.heap.size, 0, none⟩)] (enters_of Try.func38 (by kernel_rfl) rfl) v W1 (hk.to hb1) hl (fun e hm W hW => live1_any ns na nn nc e w.heap.size W (fun W' hW' => by
    have h : W'.heap[w.heap.size]? = some (grO na nn nc) := ((below_seq hW hW').block _ (by omega)).trans x1
    simp [World.cell?, h]) (hns.to (below_seq hb1 hW)) hnl hsm (he e hm)))
  have HW1 := Lib.hid hW1
  have HB1 := Lib.hid hb1
  obtain ⟨pa, len, c, rfl, _⟩ := hk.open
  obtain ⟨r, hr⟩ : ∃ r, (es.filter (livB ns)).map entCells = r := ⟨_, rfl⟩
  rw [hr] at HI ⊢
  clear hk hW1 hb1 x1 hs1 hr hns hnl hsm he hl
  go_enter Try.func23, Try.ntmps23
  go_upto_region 1 with fail
  rw [show w.alloc (.cells #[.slice na nn nc] 37) = W1 from HW1.out]
  go_wp2_with (go_at_call 28; go_loud (refine HI.out.mono ?_; rintro en w3 ⟨ka, kn, kc, rfl, hr3, hb3⟩; have HR3 := Lib.hid hr3; have HB3 := Lib.hid hb3; clear hr3 hb3))
  go_ret
  exact RowRet.from ⟨_, _, _, rfl, HR3.out, HB3.out⟩ HB1.out

/-! ### The set of names -/
set_option maxHeartbeats 2000000 in
theorem setOf_any (ls : List ByteArray) (v : Value) (w : World) (hv : StrSl (fun k => k < w.heap.size) w v ls) (hll : ls.length ≤ 1000000) :
    Calls Try.prog 27 #[v] w fun e w' => ∃ mb, e = .returned (.map (some mb)) ∧ w.heap.size ≤ mb ∧ SetIs w' mb ls.length ls ∧ Below w.heap.size w w' := by
  obtain ⟨pa, len, c, rfl, hlen, hmx, hget⟩ := hv.open
  have HG : Hid (∀ (j : Nat) (s : ByteArray), ls[j]? = some s → s.size ≤ maxLen ∧ ∃ kb ko, pa = some ⟨kb, ko, none⟩ ∧ ∀ W, Below w.heap.size w W → W.cell? ⟨kb, ko + j, none⟩ = some (.string s)) := Lib.hid (fun j s hj => by
    obtain ⟨h0, kb, ko, e, hkb, ha⟩ := hget j s hj
    exact ⟨h0, kb, ko, e, fun W hW => (hW.cell (p := ⟨kb, _, none⟩) hkb).trans ha⟩)
  have hmk := run_makeMap_hint
  have hlen1 : len ≤ 1000000 := by rw [hlen.out]; exact hll
  clear hv hget hll
  go_enter Try.func27, Try.ntmps27
  go_wp2_with fail
  go_loopw [11] (fun i wr => ∃ (j : Nat), i = .int .i64 (j : Int) ∧ j ≤ len ∧ Hid (SetIs wr w.heap.size j (ls.take j)) ∧ Below w.heap.size w wr) (fun i _ => len - (intOf i).toNat)
  case atStart => exact ⟨0, rfl, by omega, Lib.hid (SetIs.made w), (Below.refl _ _).alloc (Nat.le_refl _) _⟩
  case round =>
    obtain ⟨j, rfl, hj, HSE, hw⟩ := hrel
    by_cases hlt : j < len
    · obtain ⟨a, ha⟩ : ∃ a, ls[j]? = some a := ⟨_, List.getElem?_eq_getElem (by rw [← hlen.out]; exact hlt)⟩
      obtain ⟨has, kb, ko, rfl, hc⟩ := HG.out j a ha
      replace hc := hc wr hw
      obtain ⟨w1, hup, hse1, hgr⟩ := HSE.out.put (by unfold maxLen; omega) has
      have HS2 : Hid (SetIs w1 w.heap.size (j + 1) (ls.take (j + 1))) := Lib.hid (by rw [take_snoc_get ha]; exact hse1)
      have HW1 : Hid (Below w.heap.size w w1) := Lib.hid (hw.grown hgr hw.size (fun k e => by cases e; exact Nat.le_refl _))
      clear ha has hse1 hgr
      go_wp2_with fail
      go_roundw
      case rel => exact ⟨j + 1, by go_num, by omega, HS2, HW1.out⟩
      case measure => simp [intOf]; omega
    · obtain rfl : j = len := by omega
      have HF : Hid (SetIs wr w.heap.size ls.length ls) := Lib.hid (by
        have h := HSE.out
        rw [List.take_of_length_le (by rw [hlen.out]; exact Nat.le_refl _)] at h
        rw [← hlen.out]; exact h)
      go_wp2_with fail
      go_ret
      exact ⟨_, rfl, Nat.le_refl _, HF.out, hw⟩

/-! ### Split -/

set_option maxHeartbeats 2000000 in
theorem split1_any (ns : List GNode) (na : Option Addr) (nn nc : Nat) (ls : List ByteArray) (mb : Nat) (e : Ent) (bm bg : Nat) (w : World) (hm : ∀ W, Below w.heap.size w W → W.cell? ⟨bm, 0, none⟩ = some (.map (some mb)) ∧ SetIs W mb ls.length ls) (hb : ∀ W, Below w.heap.size w W → W.cell? ⟨bg, 0, none⟩ = some (.slice na nn nc)) (hns : NodeSl (fun k => k < w.heap.size) w (.slice na nn nc) ns) (hl : ns.length ≤ 1000000) (hsm : smallG ns) (he : EntOk ns e) :
    Calls Try.prog 29 #[entV e, .pointer (some ⟨bm, 0, none⟩), .pointer (some ⟨bg, 0, none⟩)] w fun en w' => en = .returned (.bool (memB e.n ls || !livB ns e)) ∧ Below w.heap.size w w' := by
  obtain ⟨W1, hW1⟩ : ∃ W1, w.alloc (.cells #[.string e.n, .int .i64 e.a, .int .i64 e.s] 30) = W1 := ⟨_, rfl⟩
  have hb1 : Below w.heap.size w W1 := by rw [← hW1]; exact blkBelow w _ _
  have x1 : W1.heap[w.heap.size]? = some (.cells #[.string e.n, .int .i64 e.a, .int .i64 e.s] 30) := by rw [← hW1]; exact World.alloc_heap_new _ _
  have e0 : W1.cell? ⟨w.heap.size, 0, none⟩ = some (.string e.n) := by simp [World.cell?, x1]
  have e1 : W1.cell? ⟨w.heap.size, 1, none⟩ = some (.int .i64 e.a) := by simp [World.cell?, x1]
  have e2 : W1.cell? ⟨w.heap.size, 2, none⟩ = some (.int .i64 e.s) := by simp [World.cell?, x1]
  have c1 := hb W1 hb1
  obtain ⟨c2, hset⟩ := hm W1 hb1
  have hlk := hset.look he.2.2.2
  have HL := Lib.hid (live_any ns na nn nc e W1 (hns.to hb1) hl hsm he)
  have HW1 := Lib.hid hW1
  have HB1 := Lib.hid hb1
  clear hb hm hset hW1 hb1 x1 hns hl hsm he
  cases hmb : memB e.n ls with
  | true =>
    rw [hmb] at hlk
    clear hmb
    clear HL
    go_enter Try.func29, Try.ntmps29
    go_upto_region 1 with fail
    rw [show w.alloc (.cells #[.string e.n, .int .i64 e.a, .int .i64 e.s] 30) = W1 from HW1.out]
    go_wp2_with fail
    go_ret
    exact ⟨rfl, HB1.out⟩
  | false =>
    rw [hmb] at hlk
    clear hmb
    obtain ⟨l, hll⟩ : ∃ l, livB ns e = l := ⟨_, rfl⟩
    rw [hll] at HL ⊢
    clear hll
    cases l with
    | true =>
      go_enter Try.func29, Try.ntmps29
      go_upto_region 1 with fail
      rw [show w.alloc (.cells #[.string e.n, .int .i64 e.a, .int .i64 e.s] 30) = W1 from HW1.out]
      go_wp2_with (go_at_call 30; go_loud (refine HL.out.mono ?_; rintro en w3 ⟨rfl, hb3⟩; have HB3 := Lib.hid hb3; clear hb3))
      go_ret
      exact ⟨rfl, below_seq HB1.out HB3.out⟩
    | false =>
      go_enter Try.func29, Try.ntmps29
      go_upto_region 1 with fail
      rw [show w.alloc (.cells #[.string e.n, .int .i64 e.a, .int .i64 e.s] 30) = W1 from HW1.out]
      go_wp2_with (go_at_call 30; go_loud (refine HL.out.mono ?_; rintro en w3 ⟨rfl, hb3⟩; have HB3 := Lib.hid hb3; clear hb3))
      go_ret
      exact ⟨rfl, below_seq HB1.out HB3.out⟩

set_option maxHeartbeats 2000000 in
theorem split2_any (ns : List GNode) (na : Option Addr) (nn nc : Nat) (ls : List ByteArray) (mb : Nat) (e : Ent) (bm bg : Nat) (w : World) (hm : ∀ W, Below w.heap.size w W → W.cell? ⟨bm, 0, none⟩ = some (.map (some mb)) ∧ SetIs W mb ls.length ls) (hb : ∀ W, Below w.heap.size w W → W.cell? ⟨bg, 0, none⟩ = some (.slice na nn nc)) (hns : NodeSl (fun k => k < w.heap.size) w (.slice na nn nc) ns) (hl : ns.length ≤ 1000000) (hsm : smallG ns) (he : EntOk ns e) :
    Calls Try.prog 31 #[entV e, .pointer (some ⟨bm, 0, none⟩), .pointer (some ⟨bg, 0, none⟩)] w fun en w' => en = .returned (.bool (!memB e.n ls || !livB ns e)) ∧ Below w.heap.size w w' := by
  obtain ⟨W1, hW1⟩ : ∃ W1, w.alloc (.cells #[.string e.n, .int .i64 e.a, .int .i64 e.s] 30) = W1 := ⟨_, rfl⟩
  have hb1 : Below w.heap.size w W1 := by rw [← hW1]; exact blkBelow w _ _
  have x1 : W1.heap[w.heap.size]? = some (.cells #[.string e.n, .int .i64 e.a, .int .i64 e.s] 30) := by rw [← hW1]; exact World.alloc_heap_new _ _
  have e0 : W1.cell? ⟨w.heap.size, 0, none⟩ = some (.string e.n) := by simp [World.cell?, x1]
  have e1 : W1.cell? ⟨w.heap.size, 1, none⟩ = some (.int .i64 e.a) := by simp [World.cell?, x1]
  have e2 : W1.cell? ⟨w.heap.size, 2, none⟩ = some (.int .i64 e.s) := by simp [World.cell?, x1]
  have c1 := hb W1 hb1
  obtain ⟨c2, hset⟩ := hm W1 hb1
  have hlk := hset.look he.2.2.2
  have HL := Lib.hid (live_any ns na nn nc e W1 (hns.to hb1) hl hsm he)
  have HW1 := Lib.hid hW1
  have HB1 := Lib.hid hb1
  clear hb hm hset hW1 hb1 x1 hns hl hsm he
  cases hmb : memB e.n ls with
  | false =>
    rw [hmb] at hlk
    clear hmb
    clear HL
    go_enter Try.func31, Try.ntmps31
    go_upto_region 1 with fail
    rw [show w.alloc (.cells #[.string e.n, .int .i64 e.a, .int .i64 e.s] 30) = W1 from HW1.out]
    go_wp2_with fail
    go_ret
    exact ⟨rfl, HB1.out⟩
  | true =>
    rw [hmb] at hlk
    clear hmb
    obtain ⟨l, hll⟩ : ∃ l, livB ns e = l := ⟨_, rfl⟩
    rw [hll] at HL ⊢
    clear hll
    cases l with
    | true =>
      go_enter Try.func31, Try.ntmps31
      go_upto_region 1 with fail
      rw [show w.alloc (.cells #[.string e.n, .int .i64 e.a, .int .i64 e.s] 30) = W1 from HW1.out]
      go_wp2_with (go_at_call 30; go_loud (refine HL.out.mono ?_; rintro en w3 ⟨rfl, hb3⟩; have HB3 := Lib.hid hb3; clear hb3))
      go_ret
      exact ⟨rfl, below_seq HB1.out HB3.out⟩
    | false =>
      go_enter Try.func31, Try.ntmps31
      go_upto_region 1 with fail
      rw [show w.alloc (.cells #[.string e.n, .int .i64 e.a, .int .i64 e.s] 30) = W1 from HW1.out]
      go_wp2_with (go_at_call 30; go_loud (refine HL.out.mono ?_; rintro en w3 ⟨rfl, hb3⟩; have HB3 := Lib.hid hb3; clear hb3))
      go_ret
      exact ⟨rfl, below_seq HB1.out HB3.out⟩

set_option maxHeartbeats 4000000 in
theorem csplit_any (ns : List GNode) (na : Option Addr) (nn nc : Nat) (es : List Ent) (ls : List ByteArray) (v sv : Value) (w : World) (hns : NodeSl (fun k => k < w.heap.size) w (.slice na nn nc) ns) (hnl : ns.length ≤ 1000000) (hsm : smallG ns) (he : ∀ e ∈ es, EntOk ns e) (hk : EnSl (fun k => k < w.heap.size) w v es) (hl : es.length ≤ 1000000) (hs : StrSl (fun k => k < w.heap.size) w sv ls) (hsl : ls.length ≤ 1000000) :
    Calls Try.prog 13 #[grV na nn nc, v, sv] w fun en w' => ∃ a n c a' n' c', en = .returned (.tuple #[.slice a n c, .slice a' n' c']) ∧ GRow 30 3 w.heap.size w' (.slice a n c) ((es.filter (fun e => memB e.n ls || !livB ns e)).map entCells) ∧ GRow 30 3 w.heap.size w' (.slice a' n' c') ((es.filter (fun e => !memB e.n ls || !livB ns e)).map entCells) ∧ Below w.heap.size w w' := by
  obtain ⟨W1, hW1⟩ : ∃ W1, w.alloc (grO na nn nc) = W1 := ⟨_, rfl⟩
  have hb1 : Below w.heap.size w W1 := by rw [← hW1]; exact blkBelow w _ _
  have x1 : W1.heap[w.heap.size]? = some (grO na nn nc) := by rw [← hW1]; exact World.alloc_heap_new _ _
  have hs1 : W1.heap.size = w.heap.size + 1 := by rw [← hW1]; simp
  have HSO := Lib.hid (setOf_any ls sv W1 ((hs.keep (hb1.keeps'.mono (fun k hk => hk))).mono (fun k hk => Nat.lt_of_lt_of_le hk hb1.size)) hsl)
  have HI1 : Hid (∀ (W : World) (bm mb : Nat), Below W1.heap.size W1 W → W.cell? ⟨bm, 0, none⟩ = some (.map (some mb)) → SetIs W mb ls.length ls → bm < W.heap.size → ∀ W', Below W.heap.size W W' → Calls Try.prog 28 #[v, .func (.func 29) #[] #[.pointer (some ⟨bm, 0, none⟩), .pointer (some ⟨w.heap.size, 0, none⟩)]] W' (RowRet 30 3 W' ((es.filter (fun e => memB e.n ls || !livB ns e)).map entCells))) := Lib.hid (fun W bm mb hW hc hset hbm W' hW' =>
    select_any es _ 29 _ (enters_of Try.func29 (by kernel_rfl) rfl) v W' (hk.to (below_seq hb1 (below_seq hW hW'))) hl (fun e hm V hV => split1_any ns na nn nc ls mb e bm w.heap.size V (fun V' hV' => ⟨((below_seq hW' (below_seq hV hV')).cell (p := ⟨bm, 0, none⟩) hbm).trans hc, hset.below (below_seq hW' (below_seq hV hV')) hset.lt⟩) (fun V' hV' => by
      have h : V'.heap[w.heap.size]? = some (grO na nn nc) := ((below_seq hW (below_seq hW' (below_seq hV hV'))).block _ (by omega)).trans x1
      simp [World.cell?, h]) (hns.to (below_seq hb1 (below_seq hW (below_seq hW' hV)))) hnl hsm (he e hm)))
  have HI2 : Hid (∀ (W : World) (bm mb : Nat), Below W1.heap.size W1 W → W.cell? ⟨bm, 0, none⟩ = some (.map (some mb)) → SetIs W mb ls.length ls → bm < W.heap.size → ∀ W', Below W.heap.size W W' → Calls Try.prog 28 #[v, .func (.func 31) #[] #[.pointer (some ⟨bm, 0, none⟩), .pointer (some ⟨w.heap.size, 0, none⟩)]] W' (RowRet 30 3 W' ((es.filter (fun e => !memB e.n ls || !livB ns e)).map entCells))) := Lib.hid (fun W bm mb hW hc hset hbm W' hW' =>
    select_any es _ 31 _ (enters_of Try.func31 (by kernel_rfl) rfl) v W' (hk.to (below_seq hb1 (below_seq hW hW'))) hl (fun e hm V hV => split2_any ns na nn nc ls mb e bm w.heap.size V (fun V' hV' => ⟨((below_seq hW' (below_seq hV hV')).cell (p := ⟨bm, 0, none⟩) hbm).trans hc, hset.below (below_seq hW' (below_seq hV hV')) hset.lt⟩) (fun V' hV' => by
      have h : V'.heap[w.heap.size]? = some (grO na nn nc) := ((below_seq hW (below_seq hW' (below_seq hV hV'))).block _ (by omega)).trans x1
      simp [World.cell?, h]) (hns.to (below_seq hb1 (below_seq hW (below_seq hW' hV)))) hnl hsm (he e hm)))
  have HW1 := Lib.hid hW1
  have HB1 := Lib.hid hb1
  obtain ⟨pa, len, c, rfl, _⟩ := hk.open
  obtain ⟨sa, sn, sc, rfl, _⟩ := hs.open
  obtain ⟨r1, hr1⟩ : ∃ r, (es.filter (fun e => memB e.n ls || !livB ns e)).map entCells = r := ⟨_, rfl⟩
  obtain ⟨r2, hr2⟩ : ∃ r, (es.filter (fun e => !memB e.n ls || !livB ns e)).map entCells = r := ⟨_, rfl⟩
  rw [hr1] at HI1 ⊢
  rw [hr2] at HI2 ⊢
  clear hk hW1 hb1 x1 hs1 hr1 hr2 hns hnl hsm he hl hs hsl
  go_enter Try.func13, Try.ntmps13
  go_upto_region 1 with fail
  rw [show w.alloc (.cells #[.slice na nn nc] 37) = W1 from HW1.out]
  go_upto_region 2 with (go_at_call 27; go_loud (refine HSO.out.mono ?_; rintro en w2 ⟨mb, rfl, _, hset, hb2⟩; have HSE := Lib.hid hset; have HB2 := Lib.hid hb2; clear hset hb2))
  obtain ⟨W3, hW3⟩ : ∃ W3, w2.alloc (.cells #[.map (some mb)] 67) = W3 := ⟨_, rfl⟩
  have hb3 : Below w2.heap.size w2 W3 := by rw [← hW3]; exact blkBelow w2 _ _
  have x3 : W3.heap[w2.heap.size]? = some (.cells #[.map (some mb)] 67) := by rw [← hW3]; exact World.alloc_heap_new _ _
  have hs3 : W3.heap.size = w2.heap.size + 1 := by rw [← hW3]; simp
  rw [hW3]
  have HB23 := Lib.hid (below_seq HB2.out hb3)
  have HF1 := Lib.hid (HI1.out W3 w2.heap.size mb HB23.out (by simp [World.cell?, x3]) (HSE.out.below hb3 HSE.out.lt) (by omega))
  have HF2 := Lib.hid (HI2.out W3 w2.heap.size mb HB23.out (by simp [World.cell?, x3]) (HSE.out.below hb3 HSE.out.lt) (by omega))
  clear hW3 hb3 x3 hs3 HI1 HI2
  go_upto_region 3 with (go_at_call 28; go_loud (refine (HF1.out W3 (Below.refl _ _)).mono ?_; rintro en w4 ⟨ka, kn, kc, rfl, hr4, hb4⟩; have HR4 := Lib.hid hr4; have HB4 := Lib.hid hb4; clear hr4 hb4))
  go_wp2_with (go_at_call 28; go_loud (refine (HF2.out w4 HB4.out).mono ?_; rintro en w5 ⟨ma, mn, mc, rfl, hr5, hb5⟩; have HR5 := Lib.hid hr5; have HB5 := Lib.hid hb5; clear hr5 hb5))
  go_ret2
  have h1 := HB1.out.size
  have h2 := HB23.out.size
  have h3 := HB4.out.size
  exact ⟨_, _, _, _, _, _, rfl, (HR4.out.mono (by omega)).to HB5.out, HR5.out.mono (by omega), below_seq HB1.out (below_seq HB23.out (below_seq HB4.out HB5.out))⟩

/-! ### The least priority -/
theorem one_ref (r : GRef) : ∀ e ∈ [refCells r], ∀ u ∈ e, u.oneCell' = true := by
  intro e he u hu
  rw [List.mem_singleton.1 he] at hu
  simp only [refCells, List.mem_cons, List.not_mem_nil, or_false] at hu
  rcases hu with rfl | rfl <;> rfl
set_option maxHeartbeats 4000000 in
set_option maxRecDepth 100000 in
theorem clowest_any (ns : List GNode) (na : Option Addr) (nn nc : Nat) (es : List Ent) (nm : ByteArray) (v : Value) (w : World) (hns : NodeSl (fun k => k < w.heap.size) w (.slice na nn nc) ns) (hnl : ns.length ≤ 1000000) (hsm : smallG ns) (he : ∀ e ∈ es, EntOk ns e) (hk : EnSl (fun k => k < w.heap.size) w v es) (hl : es.length ≤ 1000000) :
    Calls Try.prog 18 #[grV na nn nc, v, .string nm] w fun en w' => en = .returned (lowV (priosE ns ((es.filter (fun e => !entIs nm e)).map Ent.r))) ∧ Below w.heap.size w w' := by
  obtain ⟨W1, hW1⟩ : ∃ W1, w.alloc (grO na nn nc) = W1 := ⟨_, rfl⟩
  have hb1 : Below w.heap.size w W1 := by rw [← hW1]; exact blkBelow w _ _
  have x1 : W1.heap[w.heap.size]? = some (grO na nn nc) := by rw [← hW1]; exact World.alloc_heap_new _ _
  have hs1 : W1.heap.size = w.heap.size + 1 := by rw [← hW1]; simp
  have HX1 : Hid (∀ W, Below W1.heap.size W1 W → W.cell? ⟨w.heap.size, 0, none⟩ = some (.slice na nn nc)) := Lib.hid (fun W hW => by
    have h : W.heap[w.heap.size]? = some (grO na nn nc) := (hW.block _ (by omega)).trans x1
    simp [World.cell?, h])
  have HD := Lib.hid (cdrop_any es nm v W1 (hk.to hb1) hl)
  obtain ⟨ds, hds⟩ : ∃ ds, es.filter (fun e => !entIs nm e) = ds := ⟨_, rfl⟩
  rw [hds] at HD ⊢
  have hdl : ds.length ≤ 1000000 := by rw [← hds]; exact Nat.le_trans (List.length_filter_le _ _) hl
  have hde : ∀ e ∈ ds, EntOk ns e := fun e hm => he e (by rw [← hds] at hm; exact (List.mem_filter.1 hm).1)
  have HLO : Hid (∀ (W : World) (ra : Option Addr) (rn rc : Nat), Below W1.heap.size W1 W → RefSl (fun k => k < W.heap.size) W (.slice ra rn rc) (ds.map Ent.r) → rn ≤ 1000000 → Calls Try.prog 35 #[grV na nn nc, .slice ra rn rc] W fun e w' => e = .returned (lowV (priosE ns (ds.map Ent.r))) ∧ Below W.heap.size W w') := Lib.hid (fun W ra rn rc hW hr hrn =>
    lowest_any ns (ds.map Ent.r) na nn nc ra rn rc W (hns.to (below_seq hb1 hW)) hr hnl hsm hrn (fun r hr => by
      obtain ⟨e, hm, rfl⟩ := List.mem_map.1 hr
      obtain ⟨_, h1, h2, _⟩ := hde e hm
      exact ⟨h1, h2⟩))
  have HDE := Lib.hid hde
  have HW1 := Lib.hid hW1
  have HB1 := Lib.hid hb1
  obtain ⟨pa, len, c, rfl, _⟩ := hk.open
  obtain ⟨q, hq⟩ : ∃ q, priosE ns (ds.map Ent.r) = q := ⟨_, rfl⟩
  rw [hq] at HLO ⊢
  clear hk hW1 hb1 x1 hs1 hds hns hnl hsm he hl hde hq
  go_enter Try.func18, Try.ntmps18
  go_upto_region 1 with fail
  rw [show w.alloc (.cells #[.slice na nn nc] 37) = W1 from HW1.out]
  go_wp2_with (go_at_call 17; go_loud (refine HD.out.mono ?_; rintro en w2 ⟨ka, kn, kc, rfl, hr2, hb2⟩; have HR2 := Lib.hid hr2; have HB2 := Lib.hid hb2; clear hr2 hb2))
  obtain ⟨ka', kn', kc', hke, hlen, _, hget⟩ := (HR2.out.ents (by unfold maxLen; omega)).open
  simp only [Value.slice.injEq] at hke
  obtain ⟨rfl, rfl, rfl⟩ := hke
  have HG : Hid (∀ j e, ds[j]? = some e → ∃ kb ko, ka = some ⟨kb, ko, none⟩ ∧ ∀ W, Below w2.heap.size w2 W → EnAt W kb (ko + j * 3) e) := Lib.hid (fun j e hj => by
    obtain ⟨kb, ko, e1, hkb, hty⟩ := hget j e hj
    exact ⟨kb, ko, e1, fun W hW => hty.keep (B := fun k => k < w2.heap.size) (hW.keeps'.mono (fun k hk => hk)) hkb.2⟩)
  have HL : Hid (kn = ds.length) := Lib.hid hlen.out
  have hkn1 : kn ≤ 1000000 := by rw [HL.out]; exact hdl
  clear hget hlen HR2
  go_loopw [8, 15] (fun rv i wr => ∃ (j : Nat) (qa : Option Addr) (qn qc : Nat), i = .int .i64 j ∧ j ≤ kn ∧ rv = .slice qa qn qc ∧ Hid (GRow 24 2 w2.heap.size wr (.slice qa qn qc) (((ds.take j).map Ent.r).map refCells)) ∧ Hid (Below w2.heap.size w2 wr)) (fun _ i _ => kn - (intOf i).toNat)
  case atStart => exact ⟨0, none, 0, 0, rfl, Nat.zero_le _, rfl, Lib.hid (by simpa using GRow.nil _ _ _ _), Lib.hid (Below.refl _ _)⟩
  case round =>
    obtain ⟨j, qa, qn, qc, rfl, hj, rfl, HRW, HBW⟩ := hrel
    by_cases hlt : j < kn
    · obtain ⟨e, he⟩ : ∃ e, ds[j]? = some e := ⟨_, List.getElem?_eq_getElem (by rw [← HL.out]; exact hlt)⟩
      obtain ⟨kb, ko, rfl, hW⟩ := HG.out j e he
      obtain ⟨d0, d1, d2⟩ := hW wr HBW.out
      obtain ⟨V1, hV1⟩ : ∃ V1, wr.alloc (.cells #[.string e.n, .int .i64 e.a, .int .i64 e.s] 30) = V1 := ⟨_, rfl⟩
      have hb1 : Below wr.heap.size wr V1 := by rw [← hV1]; exact blkBelow wr _ _
      have x1 : V1.heap[wr.heap.size]? = some (.cells #[.string e.n, .int .i64 e.a, .int .i64 e.s] 30) := by rw [← hV1]; exact World.alloc_heap_new _ _
      have hs1 : V1.heap.size = wr.heap.size + 1 := by rw [← hV1]; simp
      have b1 : V1.cell? ⟨wr.heap.size, 1, none⟩ = some (.int .i64 e.a) := by simp [World.cell?, x1]
      have b2 : V1.cell? ⟨wr.heap.size, 2, none⟩ = some (.int .i64 e.s) := by simp [World.cell?, x1]
      have HV1 := Lib.hid hV1
      have HB1 := Lib.hid hb1
      have HS1 := Lib.hid hs1
      have hea : e.a = ((e.r.n : Nat) : Int) := by have := (HDE.out e (List.mem_of_getElem? he)).1; unfold Ent.r; simp only; omega
      have hes : e.s = e.r.s := rfl
      have HTK : Hid (((ds.take (j + 1)).map Ent.r).map refCells = ((ds.take j).map Ent.r).map refCells ++ [refCells e.r]) := Lib.hid (by
        rw [take_snoc_get he, List.map_append, List.map_append]; rfl)
      have hlr : (((ds.take j).map Ent.r).map refCells).length ≤ 1000000 := by simp; omega
      have hrow1 := HRW.out.to hb1
      obtain ⟨rr, hrr⟩ : ∃ rr, ((ds.take j).map Ent.r).map refCells = rr := ⟨_, rfl⟩
      rw [hrr] at HTK hrow1 hlr
      have HLR := Lib.hid hlr
      obtain ⟨ya, hya⟩ : ∃ y, e.a = y := ⟨_, rfl⟩
      obtain ⟨ys, hys⟩ : ∃ y, e.s = y := ⟨_, rfl⟩
      rw [hya] at b1
      rw [hys] at b2
      have HRC : Hid (refCells e.r = [.int .i64 ya, .int .i64 ys]) := Lib.hid (by rw [refCells, ← hea, ← hes, hya, hys])
      clear hW he hV1 hb1 hs1 x1 hea hes hlr hya hys hrr
      go_upto_region 5 with fail
      rw [show wr.alloc (.cells #[.string e.n, .int .i64 e.a, .int .i64 e.s] 30) = V1 from HV1.out]
      go_wp2_with (at_builtin; refine wpList_appG refElem rfl _ _ rfl rfl (hrow1.alloc _) (some ⟨V1.heap.size, 0, none⟩) 1 1 [refCells e.r] rfl rfl (by intro e' he'; rw [List.mem_singleton.1 he']; rfl) (src_one (cs := refCells e.r) (by rw [HRC.out]; exact World.alloc_heap_new _ _)) (one_ref _) ?_ ?_ ?_)
      · have := HLR.out
        simp only [List.length_singleton]
        omega
      · have := HBW.out.size
        have := HS1.out
        simp
        omega
      · intro ga gn gc w5 hrow hgrow _
        have hb : Below w2.heap.size w2 w5 := by
          have h0 := HBW.out.size
          have h1 := HS1.out
          refine ((below_seq HBW.out HB1.out).alloc (by omega) _).grown hgrow (by simp; omega) (fun k hk => (HRW.out.lt k hk).1)
        have HRN := Lib.hid hrow
        have HBN := Lib.hid hb
        clear hrow hb hgrow hrow1 b1 b2
        go_wp2_with fail
        go_roundw
        case rel => exact ⟨j + 1, _, _, _, by go_num, by omega, rfl, Lib.hid (by rw [HTK.out]; exact HRN.out), HBN⟩
        case measure => simp [intOf]; omega
    · obtain rfl : j = kn := by omega
      have h := HRW.out
      rw [List.take_of_length_le (by rw [HL.out]; exact Nat.le_refl _)] at h
      have hq : qn = ds.length := by
        obtain ⟨_, _, _, e, h1, _⟩ := h.src
        simp only [Value.slice.injEq] at e
        rw [e.2.1, h1]; simp
      have HRS : Hid (RefSl (fun k => k < wr.heap.size) wr (.slice qa qn qc) (ds.map Ent.r)) := Lib.hid ((h.refs (by simp; unfold maxLen; omega)).mono (fun k hk => hk.2))
      have g0 := HX1.out wr (below_seq HB2.out HBW.out)
      have HLQ := Lib.hid (HLO.out wr qa qn qc (below_seq HB2.out HBW.out) HRS.out (by omega))
      unfold lowV at HLQ
      clear h hq
      go_wp2_with (go_at_call 35; go_loud (refine HLQ.out.mono ?_; rintro en w6 ⟨rfl, hb6⟩; have HB6 := Lib.hid hb6; clear hb6))
      go_ret2
      exact ⟨rfl, below_seq HB1.out (below_seq HB2.out (below_seq HBW.out HB6.out))⟩
end Go.Proofs.Yticdkbcfahjpnaa
