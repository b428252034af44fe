/- Types: the reference's walk at a TRec. (and what follows from it) -/
import Derived.Test.YtecdapihfiahiaaDoorTyOc
import Derived.Test.YtecdapihfiahiaaDoorTyH
import Derived.Test.YtecdapihfiahiaaDoorTyY
import Derived.Deep.RegionHeld3
import Derived.Deep.RegionHeldLaw
import Derived.Deep.AppendLies
import Derived.Maps.AppendAt
import Derived.Laws.OwnMore
import Derived.Deep.RegionLaw
import Derived.Deep.RegionHeld
import Derived.Still
import Derived.Maps.OwnSet
import Derived.Maps.OwnOps

/- Types: the reference's walk at a TRec. -/
namespace Go.Proofs.YtecdapihfiahiaaDoor
open Go.RowKit

theorem strInfo' : (Tryd.prog.info? 9).map (fun i => (i.zero, i.size, i.bytes)) = some (some (.string ⟨#[]⟩), 1, 16) := by kernel_rfl

theorem fresh_row (w0 : World) (base : Nat) (h : base ≤ w0.heap.size) : (w0.alloc (.cells #[] 9)).ownsRow base 9 1 (.slice (some ⟨w0.heap.size, 0, none⟩) 0 0) 0 [] :=
  ⟨rfl, .inr ⟨w0.heap.size, 0, #[], rfl, h, heap_alloc_new w0 _, Nat.le_refl _, by unfold maxLen; omega, rfl, rfl⟩⟩

theorem strSl_of_row {w : World} {base g n cap : Nat} {ls : List ByteArray} (h : w.ownsRow base 9 1 (.slice (some ⟨g, 0, none⟩) n cap) n (ls.map .string)) (hn : n ≤ 1000000) (hs : ∀ s ∈ ls, s.size ≤ maxLen) : StrSl (fun k => k < w.heap.size) w (.slice (some ⟨g, 0, none⟩) n cap) ls := by
  have hl := h.1
  simp only [List.length_map, Nat.mul_one] at hl
  subst hl
  rcases h.2 with ⟨h, _⟩ | ⟨g', cap', cur, hv, hb, hg, hnc, hcm, hcs, htake⟩
  · cases h
  · simp only [Value.slice.injEq, Option.some.injEq, Addr.mk.injEq, and_true, true_and] at hv
    obtain ⟨rfl, rfl⟩ := hv
    have hlt : g < w.heap.size := by
      rcases Nat.lt_or_ge g w.heap.size with hlt | hge
      · exact hlt
      · rw [Array.getElem?_eq_none hge] at hg; cases hg
    refine ⟨.inr ⟨g, 0, cap, rfl, hlt, hnc, fun j s hj => ?_⟩, by unfold maxLen; omega, hs⟩
    rw [Nat.zero_add, cell_of_row w g j cur 9 (0, 0) hg]
    have e : (ls.map Value.string)[j]? = some (.string s) := by rw [List.getElem?_map, hj]; rfl
    rw [← htake, Nat.mul_one, List.getElem?_take] at e
    split at e
    · simpa using e
    · cases e

theorem fresh_row' (w0 : World) (base b : Nat) (hb : b = w0.heap.size) (h : base ≤ w0.heap.size) : (w0.alloc (.cells #[] 9)).ownsRow base 9 1 (.slice (some ⟨b, 0, none⟩) 0 0) 0 [] := by
  subst hb; exact fresh_row w0 base h

theorem run_append_empty (base : Nat) (ty : TypeId) (b0 c0 n0 : Nat) (xs : List Value) (w : World) (hown : w.ownsRow base 9 1 (.slice (some ⟨b0, 0, none⟩) n0 c0) n0 xs) (a : Option Addr) (c : Nat) :
    (Builtin.append_ #[45, 45] ty #[.slice (some ⟨b0, 0, none⟩) n0 c0, .slice a 0 c]).run Tryd.prog w = .ok (.slice (some ⟨b0, 0, none⟩) n0 c0) w := by
  obtain ⟨i0, hi, hz0, hz1, hz2⟩ := info_parts strInfo'
  have ht := Tryd.underlying45
  rcases hown.2 with ⟨e, _⟩ | ⟨g, cap, cur, e, _, _, hnc, _⟩
  · cases e
  · simp only [Value.slice.injEq] at e
    obtain ⟨_, _, rfl⟩ := e
    cases a with
    | none => simp [Builtin.append_, run_underlying ht, sizeOf, typeInfo, hi, Builtin.lenOf, Builtin.firstCells, hnc, storeCells]
    | some ad => simp [Builtin.append_, run_underlying ht, sizeOf, typeInfo, hi, Builtin.lenOf, Builtin.firstCells, hnc, storeCells, loadCells, loadCellsFrom]

/-- append of a list of texts to a row of one's own. -/
theorem run_append_strs (base : Nat) (ty : TypeId) (b0 c0 n0 : Nat) (xs : List Value) (w : World) (hown : w.ownsRow base 9 1 (.slice (some ⟨b0, 0, none⟩) n0 c0) n0 xs) (B : Nat → Prop) (na : Option Addr) (nn nc : Nat) (names : List ByteArray) (hnv : StrSl B w (.slice na nn nc) names) (h63 : n0 + nn ≤ 1000000) (hbase : base ≤ w.heap.size) :
    ∃ g cap w', (Builtin.append_ #[45, 45] ty #[.slice (some ⟨b0, 0, none⟩) n0 c0, .slice na nn nc]).run Tryd.prog w = .ok (.slice (some ⟨g, 0, none⟩) (n0 + nn) cap) w' ∧ w'.ownsRow base 9 1 (.slice (some ⟨g, 0, none⟩) (n0 + nn) cap) (n0 + nn) (xs ++ names.map .string) ∧ w.grownBy w' (some b0) := by
  obtain ⟨i0, hi, hz0, hz1, hz2⟩ := info_parts strInfo'
  rcases hnv.1 with ⟨⟨a, c, e⟩, rfl⟩ | ⟨b, o, c, e, _, _, hrow⟩
  · cases e
    refine ⟨b0, c0, w, run_append_empty base ty b0 c0 n0 xs w hown na nc, by simpa using hown, ⟨rfl, rfl, rfl, Nat.le_refl _, fun _ _ _ => rfl⟩⟩
  · cases e
    obtain ⟨v', w', hr, h2, h3, h4, _⟩ := run_append_own_at (P := Tryd.prog) w base 45 ty 9 i0 _ 1 16 Tryd.underlying45 hi hz0 hz1 hz2 rfl (by decide) _ _ xs hown ⟨b, o, none⟩ names.length nc (names.map .string) (by simp) (fun j u hj => by
      rw [List.getElem?_map] at hj
      cases hx : names[j]? with
      | none => simp [hx] at hj
      | some x => simp [hx] at hj; subst hj; have hc := hrow j x hx; cases j with | zero => simpa [Addr.add] using hc | succ j => simpa [Addr.add] using hc) (fun u hu => by
      obtain ⟨x, _, rfl⟩ := List.mem_map.1 hu; rfl) (by unfold maxLen; omega) (by omega) hbase
    rcases h2.2 with ⟨rfl, h0⟩ | ⟨g, cap, cur, rfl, r⟩
    · have := h4.1 rfl
      cases this.1
    · exact ⟨g, cap, w', hr, h2, h3⟩

theorem step_append_strs {ops : Array Oper} {o : Oper} {a : Act} {w : World} {K : Act → World → Prop} {Q : Exit → Act → World → Prop} {E : Prop} (hgd : o.guard = none) (s x : Operand)
    (ho : o.op = .call { callee := .builtin .append, args := #[s, x], argTypes := #[45, 45] })
    (base b0 c0 n0 : Nat) (xs : List Value) (hs : a.eval s = .slice (some ⟨b0, 0, none⟩) n0 c0) (hown : w.ownsRow base 9 1 (.slice (some ⟨b0, 0, none⟩) n0 c0) n0 xs)
    (B : Nat → Prop) (na : Option Addr) (nn nc : Nat) (names : List ByteArray) (hx : a.eval x = .slice na nn nc) (hnv : StrSl B w (.slice na nn nc) names) (h63 : n0 + nn ≤ 1000000) (m : Nat) (zs : List Value) (hm : n0 + nn = m) (hz : xs ++ names.map .string = zs) (hbase : base ≤ w.heap.size)
    (h : ∀ g cap w', w'.ownsRow base 9 1 (.slice (some ⟨g, 0, none⟩) m cap) m zs → w.grownBy w' (some b0) → K (a.put o.dst (.slice (some ⟨g, 0, none⟩) m cap)) w') :
    if Region.wanted o (yielded ops a.tmps) = true then Oper.wp Tryd.prog o a w K Q else E := by
  subst hm hz
  have hw : Region.wanted o (yielded ops a.tmps) = true := by simp [Region.wanted, hgd]
  rw [if_pos hw]
  obtain ⟨g, cap, w', hr, h2, h3⟩ := run_append_strs base o.type b0 c0 n0 xs w hown B na nn nc names hnv h63 hbase
  unfold Oper.wp execOp
  simp only [ho, resolve, invoke, builtin, Sem.run_bind, Sem.run_pure, Result.andThen_ok, List.map_toArray, List.map_cons, List.map_nil, hs, hx, hr]
  exact h g cap w' h2 h3

theorem own_block {W : World} {base : Nat} {e : TypeId} {size : Nat} {g n cap : Nat} {xs : List Value} (h : W.ownsRow base e size (.slice (some ⟨g, 0, none⟩) n cap) n xs) : base ≤ g ∧ g < W.heap.size := by
  rcases h.2 with ⟨h, _⟩ | ⟨g', cap', cur, hv, hb, hg, _⟩
  · cases h
  · simp only [Value.slice.injEq, Option.some.injEq, Addr.mk.injEq, and_true, true_and] at hv
    obtain ⟨rfl, _⟩ := hv
    refine ⟨hb, ?_⟩
    rcases Nat.lt_or_ge g W.heap.size with hlt | hge
    · exact hlt
    · rw [Array.getElem?_eq_none hge] at hg; cases hg
theorem strSl_one {W : World} {b : Nat} {n : ByteArray} (h : W.cell? ⟨b, 0, none⟩ = some (.string n)) (hn : n.size ≤ maxLen) : StrSl (fun _ => True) W (.slice (some ⟨b, 0, none⟩) 1 1) [n] :=
  ⟨.inr ⟨b, 0, 1, rfl, trivial, Nat.le_refl _, fun j s hj => by
    cases j with
    | zero => simp at hj; subst hj; exact h
    | succ j => simp at hj⟩, by simp [maxLen], fun s hs => by simp at hs; subst hs; exact hn⟩
theorem kidsR_one (names : List ByteArray) (g : Nat) (t : Ty) : kidsR names g true 0 [t] = nodeR names g true t := by
  simp only [kidsR, Bool.true_or]
  split
  · next h => exact h.symm
  · rfl

set_option maxHeartbeats 4000000 in
set_option maxRecDepth 100000 in
theorem rnode_rec (B : Nat → Prop) (k p s : Int) (n : ByteArray) (lv kv nv : Value) (names : List ByteArray) (g : Nat) (se : Bool) (ls : List ByteArray) (ts : List Ty) (hn : n.size ≤ maxLen) (w : World) (hB : Low B w) (hl : StrSl B w lv ls) (hkv : TySl B w kv ts) (hnv : StrSl B w nv names)
    (ih : ∀ t ∈ ts, NodeAt t) (hd : names.length + Ty.depths ts < 1000) (hk : k = 8) (hs : shapeC k p s n ls ts.length = true) :
    Calls Tryd.prog 30 #[.agg #[.int .i64 k, .int .i64 p, .string n, .int .i64 s, lv, kv], nv, .int .i64 g, .bool se] w fun e w' => e = .returned (.int .i64 (kidsR (names ++ [n]) g true 0 ts)) ∧ Below w.heap.size w w' := by
  subst hk
  have hS : ∀ W, Below w.heap.size w W → Calls Tryd.prog 35 #[.agg #[.int .i64 8, .int .i64 p, .string n, .int .i64 s, lv, kv]] W fun e w' => e = .returned (.bool true) ∧ Below W.heap.size W w' := fun W hW => by
    rw [← hs]; exact rshape_any B 8 p s n lv kv ls ts hn W (hB.le hW.size) (hl.keep (hW.keeps'.mono hB)) (hkv.keep (hW.keeps'.mono hB))
  have HS := Lib.hid hS
  have hone : ts.length = 1 := by
    rw [shapeC, if_neg (by omega), if_neg (by omega), if_neg (by omega), if_pos rfl] at hs; simp at hs; exact hs.2.2.2.2
  obtain ⟨t, rfl⟩ : ∃ t, ts = [t] := by
    match ts, hone with
    | [t], _ => exact ⟨t, rfl⟩
  obtain ⟨pa, len, c, rfl, hlen, hm, hget⟩ := hkv.open
  obtain ⟨la, ln, lc, rfl, hlln, hlm, hlget⟩ := hl.open
  have HN := Lib.hid (rsess_is 8 p s n (.slice la ln lc) (.slice pa len c) true rfl)
  have hlen1 : len = 1 := hlen.out
  subst hlen1
  obtain ⟨kb, ko, rfl, hkb, hty⟩ := hget 0 t rfl
  obtain ⟨la1, ln1, lc1, ka1, kn1, kc1, ⟨d0, d1, d2, d3, d4, d5⟩, hval⟩ := hty.load'
  have HNV := Lib.hid hnv
  obtain ⟨na, nn, nc, rfl, hnln, hnm, hnget⟩ := hnv.open
  simp only [Nat.zero_mul, Nat.add_zero] at d0 d1 d2 d3 d4 d5
  have IH := Lib.hid (ih t (by simp))
  have HD := Lib.hid hd
  clear hget hlget hl hkv hS hlln hs hnget hnv hlen hone ih hd
  have HNS := Lib.hid hn
  clear hn
  cases se
  all_goals
    go_enter Tryd.func30, Tryd.ntmps30
    go_wp2_with (first | (go_at_call 35; refine (HS.out _ (blkBelow w _ _)).mono ?_; rintro e w2 ⟨rfl, hb2⟩; obtain ⟨hcl, hfz⟩ := bcell hb2) | (go_at_call 36; refine (HN.out _).mono ?_; rintro e w3 ⟨rfl, hb3⟩; obtain ⟨hcl3, hfz3⟩ := bcell (below_seq hb2 hb3)))
    clear HS HN hcl hfz
    try clear hcl3 hfz3
    obtain ⟨W2, hW2, hbw⟩ : ∃ W2, W2 = (by first | exact w3 | exact w2) ∧ Below (w.heap.size + 1) (box1 w 8 p n s (.slice la ln lc) (.slice (some ⟨kb, ko, none⟩) 1 c)) W2 := ⟨_, rfl, by unfold box1; first | (simpa using below_seq hb2 hb3) | (simpa using hb2)⟩
    rw [← hW2]
    clear hW2 hb2
    try clear hb3
    have hkw := hB kb hkb
    have cells : ∀ W, Below (w.heap.size + 1) (box1 w 8 p n s (.slice la ln lc) (.slice (some ⟨kb, ko, none⟩) 1 c)) W → (W.cell? ⟨w.heap.size, 5, none⟩ = some (.slice (some ⟨kb, ko, none⟩) 1 c) ∧ W.cell? ⟨w.heap.size, 2, none⟩ = some (.string n) ∧ W.cell? ⟨kb, ko, none⟩ = some (.int .i64 t.k) ∧ W.cell? ⟨kb, ko + 1, none⟩ = some (.int .i64 t.p) ∧ W.cell? ⟨kb, ko + 2, none⟩ = some (.string t.n) ∧ W.cell? ⟨kb, ko + 3, none⟩ = some (.int .i64 t.s) ∧ W.cell? ⟨kb, ko + 4, none⟩ = some (.slice la1 ln1 lc1) ∧ W.cell? ⟨kb, ko + 5, none⟩ = some (.slice ka1 kn1 kc1)) ∧ Hid (Below (w.heap.size + 1) (box1 w 8 p n s (.slice la ln lc) (.slice (some ⟨kb, ko, none⟩) 1 c)) W) := fun W hW =>
      ⟨⟨blk_cell hW 5 rfl, blk_cell hW 2 rfl, ((blk_below hW).cell (p := ⟨kb, _, none⟩) hkw).trans d0, ((blk_below hW).cell (p := ⟨kb, _, none⟩) hkw).trans d1, ((blk_below hW).cell (p := ⟨kb, _, none⟩) hkw).trans d2, ((blk_below hW).cell (p := ⟨kb, _, none⟩) hkw).trans d3, ((blk_below hW).cell (p := ⟨kb, _, none⟩) hkw).trans d4, ((blk_below hW).cell (p := ⟨kb, _, none⟩) hkw).trans d5⟩, Lib.hid hW⟩
    obtain ⟨⟨f5, f2, g0, g1, g2, g3, g4, g5⟩, HB⟩ := cells W2 hbw
    have CE := Lib.hid cells
    have hsz2 : w.heap.size + 1 ≤ W2.heap.size := by have := hbw.size; rwa [box1_size] at this
    clear cells d0 d1 d2 d3 d4 d5 hbw
    have HNK : Hid (∀ W, Below (w.heap.size + 1) (box1 w 8 p n s (.slice la ln lc) (.slice (some ⟨kb, ko, none⟩) 1 c)) W → StrSl B W (.slice na nn nc) names) := Lib.hid (fun W hW => HNV.out.keep ((blk_below hW).keeps'.mono hB))
    have hnn : 0 + nn ≤ 1000000 := by have := HD.out; have := hnln.out; omega
    have hnn1 : nn + 1 ≤ 1000000 := by have := HD.out; have := hnln.out; omega
    have HC : Hid (∀ (W6 : World) (g2 cap2 : Nat), Below (w.heap.size + 1) (box1 w 8 p n s (.slice la ln lc) (.slice (some ⟨kb, ko, none⟩) 1 c)) W6 → W6.ownsRow (w.heap.size + 1) 9 1 (.slice (some ⟨g2, 0, none⟩) (nn + 1) cap2) (nn + 1) ((names ++ [n]).map .string) →
        Calls Tryd.prog 30 #[.agg #[.int .i64 t.k, .int .i64 t.p, .string t.n, .int .i64 t.s, .slice la1 ln1 lc1, .slice ka1 kn1 kc1], .slice (some ⟨g2, 0, none⟩) (nn + 1) cap2, .int .i64 g, .bool true] W6 fun e w' => e = .returned (.int .i64 (kidsR (names ++ [n]) g true 0 [t])) ∧ Below W6.heap.size W6 w') := Lib.hid (fun W6 g2 cap2 hB6 ho6 => by
      have hq := blk_below hB6
      rw [kidsR_one]
      refine IH.out (fun k => k < W6.heap.size) (names ++ [n]) g true _ _ W6 (fun _ h => h) ((hval.keep (hq.keeps'.mono hB)).mono (fun k hk => Nat.lt_of_lt_of_le (hB k hk) hq.size)) (strSl_of_row ho6 hnn1 (fun x hx => ?_)) ?_
      · rcases List.mem_append.1 hx with hx | hx
        · exact HNV.out.2.2 x hx
        · simp at hx; subst hx; exact HNS.out
      · have := HD.out; simp [Ty.depths] at this ⊢; omega)
    go_region_held_law (fun W => W.cell? ⟨w.heap.size, 5, none⟩ = some (.slice (some ⟨kb, ko, none⟩) 1 c) ∧ W.cell? ⟨w.heap.size, 2, none⟩ = some (.string n) ∧ W.cell? ⟨kb, ko, none⟩ = some (.int .i64 t.k) ∧ W.cell? ⟨kb, ko + 1, none⟩ = some (.int .i64 t.p) ∧ W.cell? ⟨kb, ko + 2, none⟩ = some (.string t.n) ∧ W.cell? ⟨kb, ko + 3, none⟩ = some (.int .i64 t.s) ∧ W.cell? ⟨kb, ko + 4, none⟩ = some (.slice la1 ln1 lc1) ∧ W.cell? ⟨kb, ko + 5, none⟩ = some (.slice ka1 kn1 kc1))
      (first | go_keep | exact (CE.out _ HB3.out).1 | exact (CE.out _ HB2.out).1 | exact (CE.out _ HB1.out).1 | fail)
      (first
        | (refine step_append_strs (by rfl) _ _ (by rfl) (w.heap.size + 1) W2.heap.size 0 0 [] ?_ ?_ B na nn nc names ?_ ?_ hnn nn (names.map .string) (Nat.zero_add nn) (List.nil_append _) ?_ ?_
           · rfl
           · (repeat (first | (with_reducible refine fresh_row' _ _ _ ?_ ?_ <;> first | omega | rfl | (simp; omega) | (simp; done)) | with_reducible refine World.ownsRow.alloc ?_ _ | with_reducible refine World.ownsRow.drew ?_))
           · rfl
           · exact HNK.out _ (by (repeat (first | with_reducible exact HB.out | with_reducible apply Below.drew | (with_reducible refine Below.alloc ?_ ?_ _; rotate_left; (first | omega | (simp; omega) | (simp; done))))))
           · (simp; omega)
           intro g1 cap1 w5 hown1 hgrow
           have HB1 := Lib.hid (Below.grown (B := w.heap.size + 1) (a := box1 w 8 p n s (.slice la ln lc) (.slice (some ⟨kb, ko, none⟩) 1 c)) (by (repeat (first | with_reducible exact HB.out | with_reducible apply Below.drew | (with_reducible refine Below.alloc ?_ ?_ _; rotate_left; (first | omega | (simp; omega) | (simp; done)))))) hgrow (by simp; omega) (fun k e => by cases e; omega))
           have hz5 : W2.heap.size ≤ w5.heap.size := Nat.le_trans (by first | (simp; done) | (simp; omega)) hgrow.size)
        | (refine step_append_strs (by rfl) _ _ (by rfl) (w.heap.size + 1) (W2.heap.size + 1) 0 0 [] ?_ ?_ B na nn nc names ?_ ?_ hnn nn (names.map .string) (Nat.zero_add nn) (List.nil_append _) ?_ ?_
           · rfl
           · (repeat (first | (with_reducible refine fresh_row' _ _ _ ?_ ?_ <;> first | omega | rfl | (simp; omega) | (simp; done)) | with_reducible refine World.ownsRow.alloc ?_ _ | with_reducible refine World.ownsRow.drew ?_))
           · rfl
           · exact HNK.out _ (by (repeat (first | with_reducible exact HB.out | with_reducible apply Below.drew | (with_reducible refine Below.alloc ?_ ?_ _; rotate_left; (first | omega | (simp; omega) | (simp; done))))))
           · (simp; omega)
           intro g1 cap1 w5 hown1 hgrow
           have HB1 := Lib.hid (Below.grown (B := w.heap.size + 1) (a := box1 w 8 p n s (.slice la ln lc) (.slice (some ⟨kb, ko, none⟩) 1 c)) (by (repeat (first | with_reducible exact HB.out | with_reducible apply Below.drew | (with_reducible refine Below.alloc ?_ ?_ _; rotate_left; (first | omega | (simp; omega) | (simp; done)))))) hgrow (by simp; omega) (fun k e => by cases e; omega))
           have hz5 : W2.heap.size ≤ w5.heap.size := Nat.le_trans (by first | (simp; done) | (simp; omega)) hgrow.size)
        | (refine step_append_strs (by rfl) _ _ (by rfl) (w.heap.size + 1) g1 cap1 nn (names.map .string) ?_ ?_ (fun _ => True) (some ⟨w5.heap.size, 0, none⟩) 1 1 [n] ?_ ?_ hnn1 (nn + 1) ((names ++ [n]).map .string) rfl (by rw [List.map_append]) ?_ ?_
           · rfl
           · (first | exact hown1 | exact hown1.drew | exact (hown1.alloc _).drew | exact (hown1.alloc _))
           · rfl
           · (refine strSl_one ?_ HNS.out; first | (simp; done) | (exact hgrow.cell (by simp) (by simp)) | (exact hgrow.cell (by simp) (by simp; omega)) | (simp; exact hgrow.cell (by simp) (by simp)))
           · (first | omega | (simp; omega))
           intro g2 cap2 w6 hown2 hgrow2
           have HB2 := Lib.hid (Below.grown (B := w.heap.size + 1) (a := box1 w 8 p n s (.slice la ln lc) (.slice (some ⟨kb, ko, none⟩) 1 c)) (by (repeat (first | with_reducible exact HB1.out | with_reducible apply Below.drew | (with_reducible refine Below.alloc ?_ ?_ _; rotate_left; (first | omega | (simp; omega) | (simp; done)))))) hgrow2 (by first | omega | (simp; omega)) (fun k e => by cases e; exact (own_block hown1).1))
           have hz6 : w5.heap.size ≤ w6.heap.size := Nat.le_trans (by first | (simp; done) | (simp; omega)) hgrow2.size)
        | (refine step_append_strs (by rfl) _ _ (by rfl) (w.heap.size + 1) g1 cap1 nn (names.map .string) ?_ ?_ (fun _ => True) (some ⟨W2.heap.size, 0, none⟩) 1 1 [n] ?_ ?_ hnn1 (nn + 1) ((names ++ [n]).map .string) rfl (by rw [List.map_append]) ?_ ?_
           · rfl
           · (first | exact hown1 | exact hown1.drew | exact (hown1.alloc _).drew | exact (hown1.alloc _))
           · rfl
           · (refine strSl_one ?_ HNS.out; first | (simp; done) | (exact hgrow.cell (by simp) (by simp)) | (exact hgrow.cell (by simp) (by simp; omega)) | (simp; exact hgrow.cell (by simp) (by simp)))
           · (first | omega | (simp; omega))
           intro g2 cap2 w6 hown2 hgrow2
           have HB2 := Lib.hid (Below.grown (B := w.heap.size + 1) (a := box1 w 8 p n s (.slice la ln lc) (.slice (some ⟨kb, ko, none⟩) 1 c)) (by (repeat (first | with_reducible exact HB1.out | with_reducible apply Below.drew | (with_reducible refine Below.alloc ?_ ?_ _; rotate_left; (first | omega | (simp; omega) | (simp; done)))))) hgrow2 (by first | omega | (simp; omega)) (fun k e => by cases e; exact (own_block hown1).1))
           have hz6 : w5.heap.size ≤ w6.heap.size := Nat.le_trans (by first | (simp; done) | (simp; omega)) hgrow2.size)
        | (refine step_append_strs (by rfl) _ _ (by rfl) (w.heap.size + 1) g1 cap1 nn (names.map .string) ?_ ?_ (fun _ => True) (some ⟨(W2.heap.size + 1), 0, none⟩) 1 1 [n] ?_ ?_ hnn1 (nn + 1) ((names ++ [n]).map .string) rfl (by rw [List.map_append]) ?_ ?_
           · rfl
           · (first | exact hown1 | exact hown1.drew | exact (hown1.alloc _).drew | exact (hown1.alloc _))
           · rfl
           · (refine strSl_one ?_ HNS.out; first | (simp; done) | (exact hgrow.cell (by simp) (by simp)) | (exact hgrow.cell (by simp) (by simp; omega)) | (simp; exact hgrow.cell (by simp) (by simp)))
           · (first | omega | (simp; omega))
           intro g2 cap2 w6 hown2 hgrow2
           have HB2 := Lib.hid (Below.grown (B := w.heap.size + 1) (a := box1 w 8 p n s (.slice la ln lc) (.slice (some ⟨kb, ko, none⟩) 1 c)) (by (repeat (first | with_reducible exact HB1.out | with_reducible apply Below.drew | (with_reducible refine Below.alloc ?_ ?_ _; rotate_left; (first | omega | (simp; omega) | (simp; done)))))) hgrow2 (by first | omega | (simp; omega)) (fun k e => by cases e; exact (own_block hown1).1))
           have hz6 : w5.heap.size ≤ w6.heap.size := Nat.le_trans (by first | (simp; done) | (simp; omega)) hgrow2.size)
        | (go_simp
           go_at_call 30
           refine (HC.out _ _ _ (by (repeat (first | with_reducible exact HB2.out | with_reducible apply Below.drew | (with_reducible refine Below.alloc ?_ ?_ _; rotate_left; (first | omega | (simp; omega) | (simp; done)))))) (by first | exact hown2 | exact hown2.drew)).mono ?_
           rintro e w7 ⟨rfl, hb7⟩
           dsimp only
           have HB3 := Lib.hid (Below.trans (by (repeat (first | with_reducible exact HB2.out | with_reducible apply Below.drew | (with_reducible refine Below.alloc ?_ ?_ _; rotate_left; (first | omega | (simp; omega) | (simp; done))))) : Below (w.heap.size + 1) (box1 w 8 p n s (.slice la ln lc) (.slice (some ⟨kb, ko, none⟩) 1 c)) _) (hb7.mono (by first | omega | (simp; omega)))))
        | fail)
    all_goals (go_wp2_with fail)
    all_goals go_ret
    all_goals exact ⟨rfl, blk_below HB3.out⟩

theorem rnode_any : ∀ t : Ty, NodeAt t := by
  refine Ty.ind ?_
  intro k p n s ls ts ih B names g se v nv w hB hv hnv hd
  obtain ⟨lv, kv, rfl, hn, hl, hkv⟩ := hv
  simp only [Ty.k, Ty.p, Ty.n, Ty.s, Ty.ls, Ty.ts] at hn hl hkv ⊢
  rw [Ty.depth_eq] at hd
  simp only [Ty.ts] at hd
  rw [nodeR]
  by_cases hbad : shapeC k p s n ls ts.length = false ∨ (se = true ∧ sessK k = false)
  · rw [if_pos hbad]
    exact rnode_bad B k p s n lv kv nv g se ls ts hn w hB hl hkv hbad
  · rw [if_neg hbad]
    have hs : shapeC k p s n ls ts.length = true := by
      cases e : shapeC k p s n ls ts.length with
      | true => rfl
      | false => exact absurd (.inl e) hbad
    have hse : se = true → sessK k = true := fun h => by
      cases e : sessK k with
      | true => rfl
      | false => exact absurd (.inr ⟨h, e⟩) hbad
    by_cases h9 : k = 9
    · rw [if_pos h9]
      exact rnode_var B k p s n lv kv nv names g se ls ts hn w hB hl hkv hnv h9 hs
    · rw [if_neg h9]
      by_cases h8 : k = 8
      · rw [if_pos h8]
        exact rnode_rec B k p s n lv kv nv names g se ls ts hn w hB hl hkv hnv ih (by omega) h8 hs
      · rw [if_neg h8]
        exact rnode_kids B k p s n lv kv nv names g se ls ts hn w hB hl hkv hnv ih (by omega) ⟨h9, h8⟩ hs hse

end Go.Proofs.YtecdapihfiahiaaDoor

/- Rows of structs that a call owns, whatever the struct: append to them, their cells, stores into them. -/
namespace Go.Proofs.YtecdapihfiahiaaDoor
open Go.RowKit Go.Deep Go.Shelf

/-- el is the type of the elements of the slice type sl, and has sz cells. -/
structure ElemOf (sl el : TypeId) (sz : Nat) : Prop where
  ht : Tryd.prog.underlying sl = some (.slice el)
  hi : ∃ (i : TypeInfo) (z : Value), Tryd.prog.info? el = some i ∧ i.zero = some z ∧ i.size = sz ∧ i.bytes ≤ 10000 ∧ z.cells.size = sz
  hs : 0 < sz
theorem elemOf {sl el : TypeId} {sz : Nat} {z : Value} {bytes : Nat} (ht : Tryd.prog.underlying sl = some (.slice el)) (h : (Tryd.prog.info? el).map (fun i => (i.zero, i.size, i.bytes)) = some (some z, sz, bytes)) (hb : bytes ≤ 10000) (hz : z.cells.size = sz) (hs : 0 < sz) : ElemOf sl el sz := by
  obtain ⟨i0, hi, hz0, hz1, hz2⟩ := info_parts h
  exact ⟨ht, ⟨i0, z, hi, hz0, hz1, by omega, hz⟩, hs⟩

/-! ### Elements one behind the other -/
theorem gflat_len {sz : Nat} : ∀ {l : List (List Value)}, (∀ e ∈ l, e.length = sz) → l.flatten.length = l.length * sz
  | [], _ => by simp
  | e :: r, h => by
    have h1 := h e (by simp)
    have h2 := gflat_len (l := r) (fun x hx => h x (by simp [hx]))
    rw [List.flatten_cons, List.length_append, h1, h2, List.length_cons, Nat.succ_mul]; omega
theorem gflat_get {sz : Nat} : ∀ {l : List (List Value)} (j i : Nat) (e : List Value), (∀ e ∈ l, e.length = sz) → l[j]? = some e → i < sz → l.flatten[j * sz + i]? = e[i]?
  | [], j, i, e, _, h, _ => by simp at h
  | x :: r, 0, i, e, hl, h, hi => by
    simp at h; subst h
    rw [List.flatten_cons, Nat.zero_mul, Nat.zero_add, List.getElem?_append_left (by rw [hl x (by simp)]; exact hi)]
  | x :: r, j + 1, i, e, hl, h, hi => by
    have hx := hl x (by simp)
    have e1 : (j + 1) * sz + i = x.length + (j * sz + i) := by rw [hx, Nat.succ_mul]; omega
    rw [List.flatten_cons, e1, List.getElem?_append_right (Nat.le_add_right _ _), Nat.add_sub_cancel_left]
    exact gflat_get j i e (fun y hy => hl y (by simp [hy])) (by simpa using h) hi
theorem gflat_inv {l : List (List Value)} {u : Value} (h : u ∈ l.flatten) : ∃ e ∈ l, u ∈ e := by
  obtain ⟨e, he, hu⟩ := List.mem_flatten.1 h; exact ⟨e, he, hu⟩
theorem gflat_set {sz : Nat} : ∀ {l : List (List Value)} (j i : Nat) (e : List Value) (u : Value), (∀ e ∈ l, e.length = sz) → l[j]? = some e → i < sz → l.flatten.set (j * sz + i) u = (l.set j (e.set i u)).flatten
  | [], j, i, e, u, _, h, _ => by simp at h
  | x :: r, 0, i, e, u, hl, h, hi => by
    simp at h; subst h
    rw [List.flatten_cons, Nat.zero_mul, Nat.zero_add, List.set_append_left _ _ (by rw [hl x (by simp)]; exact hi), List.set_cons_zero, List.flatten_cons]
  | x :: r, j + 1, i, e, u, hl, h, hi => by
    have hx := hl x (by simp)
    have e1 : (j + 1) * sz + i = x.length + (j * sz + i) := by rw [hx, Nat.succ_mul]; omega
    rw [List.flatten_cons, e1, List.set_append_right _ _ (Nat.le_add_right _ _), Nat.add_sub_cancel_left, gflat_set j i e u (fun y hy => hl y (by simp [hy])) (by simpa using h) hi, List.set_cons_succ, List.flatten_cons]

/-! ### Rows -/
structure GRow (el : TypeId) (sz base : Nat) (W : World) (v : Value) (es : List (List Value)) : Prop where
  own : W.ownsRow base el sz v es.length es.flatten
  len : ∀ e ∈ es, e.length = sz
section
variable {sl el : TypeId} {sz base : Nat} {W W' : World} {v : Value} {es : List (List Value)}
theorem GRow.nil (el : TypeId) (sz base : Nat) (W : World) : GRow el sz base W (.slice none 0 0) [] := ⟨World.ownsRow_nil _ _ _ _, fun _ h => by cases h⟩
theorem GRow.alloc (h : GRow el sz base W v es) (o : Obj) : GRow el sz base (W.alloc o) v es := ⟨World.ownsRow.alloc h.own o, h.len⟩
theorem GRow.drew (h : GRow el sz base W v es) : GRow el sz base W.drew v es := ⟨h.own, h.len⟩
theorem GRow.lt (h : GRow el sz base W v es) : ∀ k, v.ownBlock = some k → base ≤ k ∧ k < W.heap.size := World.ownsRow.lt h.own
theorem GRow.kept (h : GRow el sz base W v es) (hb : ∀ k, v.ownBlock = some k → W'.heap[k]? = W.heap[k]?) : GRow el sz base W' v es := by
  refine ⟨⟨h.own.1, ?_⟩, h.len⟩
  rcases h.own.2 with h0 | ⟨g, cap, cur, rfl, hbg, hg, r⟩
  · exact .inl h0
  · exact .inr ⟨g, cap, cur, rfl, hbg, (hb g rfl).trans hg, r⟩
theorem GRow.to (h : GRow el sz base W v es) (hb : Below W.heap.size W W') : GRow el sz base W' v es := h.kept fun k hk => hb.block k (h.lt k hk).2
theorem GRow.mono {base' : Nat} (h : GRow el sz base W v es) (hb : base' ≤ base) : GRow el sz base' W v es := by
  refine ⟨⟨h.own.1, ?_⟩, h.len⟩
  rcases h.own.2 with h0 | ⟨g, cap, cur, e, hbg, r⟩
  · exact .inl h0
  · exact .inr ⟨g, cap, cur, e, Nat.le_trans hb hbg, r⟩
theorem GRow.slice (h : GRow el sz base W v es) : ∃ a m c, v = .slice a m c := by
  rcases h.own.2 with ⟨rfl, _⟩ | ⟨g, cap, cur, rfl, _⟩
  · exact ⟨_, _, _, rfl⟩
  · exact ⟨_, _, _, rfl⟩
/-- Nil, or a block of its own. -/
theorem GRow.parts (h : GRow el sz base W v es) : (v = .slice none 0 0 ∧ es = []) ∨ ∃ g cap, v = .slice (some ⟨g, 0, none⟩) es.length cap ∧ base ≤ g ∧ g < W.heap.size ∧ es.length ≤ cap ∧ ∀ i, W.frozen? ⟨g, i, none⟩ = false := by
  rcases h.own.2 with ⟨rfl, h0⟩ | ⟨g, cap, cur, rfl, hbg, hg, hc, _⟩
  · exact .inl ⟨rfl, List.length_eq_zero_iff.1 h0⟩
  · exact .inr ⟨g, cap, rfl, hbg, (h.lt g rfl).2, hc, fun i => frozen_of_block hg i⟩
/-- The cells of an element. -/
theorem GRow.cell (h : GRow el sz base W v es) {j i : Nat} {e : List Value} {u : Value} (hj : es[j]? = some e) (hi : e[i]? = some u) : ∃ g cap, v = .slice (some ⟨g, 0, none⟩) es.length cap ∧ W.cell? ⟨g, j * sz + i, none⟩ = some u := by
  have hjl : j < es.length := (List.getElem?_eq_some_iff.1 hj).1
  have he := h.len e (List.mem_of_getElem? hj)
  have hil : i < sz := by have := (List.getElem?_eq_some_iff.1 hi).1; omega
  rcases h.parts with ⟨_, rfl⟩ | ⟨g, cap, rfl, _⟩
  · simp at hj
  · refine ⟨g, cap, rfl, ?_⟩
    have hlt : j * sz + i < es.length * sz := by
      have : (j + 1) * sz ≤ es.length * sz := Nat.mul_le_mul_right _ hjl
      rw [Nat.succ_mul] at this; omega
    rw [World.ownsRow.cellAt h.own (j * sz + i) hlt, gflat_get j i e h.len hj hil]
    exact hi
theorem GRow.empty (el : TypeId) (sz base : Nat) (w0 : World) (b : Nat) (hb : b = w0.heap.size) (h : base ≤ w0.heap.size) : GRow el sz base (w0.alloc (.cells #[] el)) (.slice (some ⟨b, 0, none⟩) 0 0) [] := by
  subst hb
  refine ⟨⟨by simp, .inr ⟨w0.heap.size, 0, #[], rfl, h, World.alloc_heap_new _ _, ?_⟩⟩, fun _ h => by cases h⟩
  simp
theorem GRow.ne {t : TypeId} {b : Nat} {cs : Array Value} {fr : Nat × Nat} (h : GRow el sz base W v es) (hb : W.heap[b]? = some (.cells cs t fr)) (hne : t ≠ el) : some b ≠ v.ownBlock := by
  intro e
  rcases h.own.2 with ⟨rfl, _⟩ | ⟨g, cap, cur, rfl, _, hg, _⟩
  · cases e
  · obtain rfl : b = g := Option.some.inj e
    rw [hg] at hb
    simp only [Option.some.injEq, Obj.cells.injEq] at hb
    exact hne hb.2.1.symm

theorem run_nothingG (I : ElemOf sl el sz) (ty : TypeId) (h : GRow el sz base W v es) (a : Option Addr) (c : Nat) :
    (Builtin.append_ #[sl, sl] ty #[v, .slice a 0 c]).run Tryd.prog W = .ok v W := by
  obtain ⟨i0, z, hi, hz0, hz1, hz2, hz3⟩ := I.hi
  have ht := I.ht
  rcases h.own.2 with ⟨rfl, h0⟩ | ⟨g, cap, cur, rfl, _, _, hnc, _⟩
  · cases a with
    | none => simp [Builtin.append_, run_underlying ht, sizeOf, typeInfo, hi, Builtin.lenOf, Builtin.firstCells]
    | some ad => simp [Builtin.append_, run_underlying ht, sizeOf, typeInfo, hi, Builtin.lenOf, Builtin.firstCells, loadCells, loadCellsFrom]
  · cases a with
    | none => simp [Builtin.append_, run_underlying ht, sizeOf, typeInfo, hi, Builtin.lenOf, Builtin.firstCells, hnc, storeCells]
    | some ad => simp [Builtin.append_, run_underlying ht, sizeOf, typeInfo, hi, Builtin.lenOf, Builtin.firstCells, hnc, storeCells, loadCells, loadCellsFrom]

/-- What lies at an address: elements. -/
def RowSrc (sz : Nat) (W : World) (na : Option Addr) (news : List (List Value)) : Prop :=
  news = [] ∨ ∃ b o, na = some ⟨b, o, none⟩ ∧ ∀ (j : Nat) (e : List Value) (i : Nat) (u : Value), news[j]? = some e → e[i]? = some u → W.cell? ⟨b, o + (j * sz + i), none⟩ = some u
theorem GRow.src (h : GRow el sz base W v es) : ∃ a n c, v = .slice a n c ∧ n = es.length ∧ RowSrc sz W a es := by
  rcases h.parts with ⟨rfl, rfl⟩ | ⟨g, cap, rfl, _⟩
  · exact ⟨_, _, _, rfl, rfl, .inl rfl⟩
  · refine ⟨_, _, _, rfl, rfl, .inr ⟨g, 0, rfl, fun j e i u hj hi => ?_⟩⟩
    obtain ⟨g', cap', e1, e2⟩ := h.cell hj hi
    simp only [Value.slice.injEq, Option.some.injEq, Addr.mk.injEq, and_true, true_and] at e1
    rw [Nat.zero_add, e1.1]; exact e2
/-- append of elements, which may be none, to a row of the call's own, which may be nil. -/
theorem run_appG (I : ElemOf sl el sz) (ty : TypeId) (h : GRow el sz base W v es) (na : Option Addr) (nn nc : Nat) (news : List (List Value)) (hnn : nn = news.length) (hlen : ∀ e ∈ news, e.length = sz) (hsrc : RowSrc sz W na news) (hone : ∀ e ∈ news, ∀ u ∈ e, u.oneCell' = true) (h63 : es.length + news.length ≤ 1000000000) (hbase : base ≤ W.heap.size) :
    ∃ ga gn gc w', (Builtin.append_ #[sl, sl] ty #[v, .slice na nn nc]).run Tryd.prog W = .ok (.slice ga gn gc) w' ∧ GRow el sz base w' (.slice ga gn gc) (es ++ news) ∧ W.grownBy w' v.ownBlock ∧ ((Value.slice ga gn gc).ownBlock = v.ownBlock ∨ (Value.slice ga gn gc).ownBlock = some W.heap.size) := by
  obtain ⟨i0, z, hi, hz0, hz1, hz2, hz3⟩ := I.hi
  have hs := I.hs
  subst hnn
  rcases hsrc with rfl | ⟨b, o, rfl, hc⟩
  · obtain ⟨ga, gn, gc, rfl⟩ := h.slice
    exact ⟨_, _, _, W, run_nothingG I ty h na nc, by rw [List.append_nil]; exact h, ⟨rfl, rfl, rfl, Nat.le_refl _, fun _ _ _ => rfl⟩, .inl rfl⟩
  · obtain ⟨v', w', hr, h2, h3, h4, h5⟩ := run_append_own_at (P := Tryd.prog) W base sl ty el i0 z sz i0.bytes I.ht hi hz0 hz1 rfl hz3 hs _ _ _ h.own ⟨b, o, none⟩ news.length nc news.flatten (gflat_len hlen) (fun j u hj => by
      have hjl : j < news.length * sz := by have := (List.getElem?_eq_some_iff.1 hj).1; rwa [gflat_len hlen] at this
      have hq : j / sz < news.length := (Nat.div_lt_iff_lt_mul hs).2 hjl
      obtain ⟨e, he⟩ : ∃ e, news[j / sz]? = some e := ⟨_, List.getElem?_eq_getElem hq⟩
      have hj2 : j = j / sz * sz + j % sz := by have := Nat.div_add_mod j sz; rw [Nat.mul_comm] at this; omega
      rw [hj2, gflat_get (j / sz) (j % sz) e hlen he (Nat.mod_lt _ hs)] at hj
      have h := hc (j / sz) e (j % sz) u he hj
      rw [← hj2] at h
      cases j with
      | zero => simpa [Addr.add] using h
      | succ j => simpa [Addr.add] using h) (fun u hu => by
      obtain ⟨e, he, hue⟩ := gflat_inv hu
      exact hone e he u hue) (by unfold maxLen; omega) (by
        have : (es.length + news.length) * i0.bytes ≤ 1000000000 * 10000 := Nat.mul_le_mul h63 hz2
        omega) hbase
    have h2' : GRow el sz base w' v' (es ++ news) := ⟨by rw [List.length_append, List.flatten_append]; exact h2, fun e he => by
      rcases List.mem_append.1 he with he | he
      · exact h.len e he
      · exact hlen e he⟩
    obtain ⟨ga, gn, gc, rfl⟩ := h2'.slice
    exact ⟨_, _, _, w', hr, h2', h3, h5⟩

/-- .. at a step of a region. -/
theorem step_appG {ops : Array Oper} {o : Oper} {a : Act} {w : World} {K : Act → World → Prop} {Q : Exit → Act → World → Prop} {E : Prop} (I : ElemOf sl el sz) (hgd : o.guard = none) (s x : Operand)
    (ho : o.op = .call { callee := .builtin .append, args := #[s, x], argTypes := #[sl, sl] })
    (hs : a.eval s = v) (h : GRow el sz base w v es) (na : Option Addr) (nn nc : Nat) (news : List (List Value)) (hx : a.eval x = .slice na nn nc) (hnn : nn = news.length) (hlen : ∀ e ∈ news, e.length = sz) (hsrc : RowSrc sz w na news) (hone : ∀ e ∈ news, ∀ u ∈ e, u.oneCell' = true) (h63 : es.length + news.length ≤ 1000000000) (hbase : base ≤ w.heap.size)
    (m : List (List Value)) (hm : es ++ news = m)
    (hk : ∀ ga gn gc w', GRow el sz base w' (.slice ga gn gc) m → w.grownBy w' v.ownBlock → ((Value.slice ga gn gc).ownBlock = v.ownBlock ∨ (Value.slice ga gn gc).ownBlock = some w.heap.size) → K (a.put o.dst (.slice ga gn gc)) w') :
    if Region.wanted o (yielded ops a.tmps) = true then Oper.wp Tryd.prog o a w K Q else E := by
  subst hm
  have hw : Region.wanted o (yielded ops a.tmps) = true := by simp [Region.wanted, hgd]
  rw [if_pos hw]
  obtain ⟨ga, gn, gc, w', hr, h2, h3, h4⟩ := run_appG I o.type h na nn nc news hnn hlen hsrc hone h63 hbase
  unfold Oper.wp execOp
  simp only [ho, resolve, invoke, builtin, Sem.run_bind, Sem.run_pure, Result.andThen_ok, List.map_toArray, List.map_cons, List.map_nil, hs, hx, hr]
  exact hk ga gn gc w' h2 h3 h4
/-- A store into a cell of an element. -/
theorem GRow.set (h : GRow el sz base W v es) {j i : Nat} {e : List Value} (hj : es[j]? = some e) (hi : i < sz) {g n cap : Nat} (hv : v = .slice (some ⟨g, 0, none⟩) n cap) (u : Value) : GRow el sz base (W.setCell ⟨g, j * sz + i, none⟩ u) v (es.set j (e.set i u)) := by
  have he := h.len e (List.mem_of_getElem? hj)
  refine ⟨⟨?_, ?_⟩, fun x hx => ?_⟩
  · rw [gflat_len (sz := sz)]
    intro x hx
    rcases List.mem_or_eq_of_mem_set hx with hx | rfl
    · exact h.len x hx
    · rw [List.length_set]; exact he
  · rcases h.own.2 with ⟨e1, _⟩ | ⟨g', cap', cur, e1, hbg, hg, hc, hcm, hcs, htk⟩
    · rw [hv] at e1; cases e1
    · rw [hv] at e1
      simp only [Value.slice.injEq, Option.some.injEq, Addr.mk.injEq, and_true] at e1
      obtain ⟨rfl, rfl, rfl⟩ := e1
      refine .inr ⟨g, cap, cur.setIfInBounds (j * sz + i) u, by rw [List.length_set]; exact hv, hbg, set_block hg _ u, by rw [List.length_set]; exact hc, hcm, by simpa using hcs, ?_⟩
      rw [List.length_set, ← gflat_set j i e u h.len hj hi, ← htk]
      rw [Array.toList_setIfInBounds, List.take_set]
  · rcases List.mem_or_eq_of_mem_set hx with hx | rfl
    · exact h.len x hx
    · rw [List.length_set]; exact he
end
end Go.Proofs.YtecdapihfiahiaaDoor

/- Regions that draw their order: a relation over the set of operations that are done, and one step for each operation, instead of one walk for each order. -/
namespace Go.Proofs.YtecdapihfiahiaaDoor

/-- The slot that an operation writes. -/
def dstAt (ops : Array Oper) (k : Nat) : Option Tmp := (ops[k]?).bind (·.dst)
/-- The slots while the region is under way: those of the operations in L hold vals. -/
def fillSel (ops : Array Oper) (L : Nat → Bool) (vals : Nat → Value) : List Nat → Array Value → Array Value
  | [], t => t
  | k :: r, t => fillSel ops L vals r (match dstAt ops k with | some d => t.setIfInBounds d (if L k = true then vals k else t.getD d undef) | none => t)
def midAct (ops : Array Oper) (a0 : Act) (rem : List Nat) (L : Nat → Bool) (vals : Nat → Value) : Act := ⟨fillSel ops L vals rem a0.tmps, a0.defers⟩
def updL (L : Nat → Bool) (k : Nat) : Nat → Bool := fun j => j == k || L j
def updV (vals : Nat → Value) (k : Nat) (v : Value) : Nat → Value := fun j => if j = k then v else vals j

/-- On which of the operations that are left an operation waits. -/
def depsAt (md : Region.Mode) (ops : Array Oper) (rem : List Nat) (k : Nat) : List Nat :=
  match ops[k]? with
  | some o => ((o.after.toList.filter (Region.binds md)).map (·.on)).filter rem.contains
  | none => []
/-- No two of the operations that are left write one slot; each waits for earlier ones alone; all others are done. -/
def invOk (md : Region.Mode) (ops : Array Oper) (rem : List Nat) (listed : Array Bool) : Bool :=
  decide (listed.size = ops.size) && ((List.range ops.size).all fun i => listed.getD i true == !rem.contains i) && (rem.all fun i => decide (i < ops.size)) &&
  (rem.all fun i => rem.all fun j => i == j || (match dstAt ops i with | some d => !(dstAt ops j == some d) | none => true)) &&
  (rem.all fun k => match ops[k]? with | some o => o.after.all fun e => !Region.binds md e || decide (e.on < k) | none => false) && decide rem.Nodup

section
variable {ops : Array Oper} {vals : Nat → Value}
theorem fillSel_size {L : Nat → Bool} : ∀ (rem : List Nat) (t : Array Value), (fillSel ops L vals rem t).size = t.size
  | [], t => rfl
  | k :: r, t => by
    rw [fillSel, fillSel_size r]
    cases dstAt ops k with
    | none => rfl
    | some d => simp
theorem fillSel_other {L : Nat → Bool} {s : Nat} : ∀ (rem : List Nat) (t : Array Value), (∀ k ∈ rem, L k = true → dstAt ops k ≠ some s) → (fillSel ops L vals rem t)[s]? = t[s]?
  | [], t, _ => rfl
  | k :: r, t, h => by
    rw [fillSel, fillSel_other r _ (fun j hj => h j (by simp [hj]))]
    cases hd : dstAt ops k with
    | none => rfl
    | some d =>
      simp only []
      by_cases hL : L k = true
      · have hne : d ≠ s := fun e => h k (by simp) hL (by rw [hd, e])
        rw [Array.getElem?_setIfInBounds]
        simp [hne]
      · rw [if_neg hL, Array.getElem?_setIfInBounds]
        by_cases e : d = s
        · subst e
          by_cases hlt : d < t.size
          · simp [hlt, Array.getD]
          · simp [hlt]
        · simp [e]
theorem fillSel_at {L : Nat → Bool} {k d : Nat} : ∀ (rem : List Nat) (t : Array Value), k ∈ rem → L k = true → dstAt ops k = some d → d < t.size → (∀ j ∈ rem, j ≠ k → dstAt ops j ≠ some d) → (fillSel ops L vals rem t)[d]? = some (vals k)
  | [], _, h, _, _, _, _ => by cases h
  | j :: r, t, hm, hL, hd, hlt, hne => by
    rw [fillSel]
    by_cases hjr : k ∈ r
    · refine fillSel_at r _ hjr hL hd ?_ (fun i hi => hne i (by simp [hi]))
      cases dstAt ops j with
      | none => exact hlt
      | some e => simpa using hlt
    · have hjk : k = j := by
        rcases List.mem_cons.1 hm with h | h
        · exact h
        · exact absurd h hjr
      subst hjk
      rw [hd]
      simp only [hL, if_true]
      rw [fillSel_other r _ (fun i hi _ => hne i (by simp [hi]) (fun e => hjr (e ▸ hi)))]
      simp [hlt]
theorem midAct_put {a0 : Act} {rem : List Nat} {L : Nat → Bool} {k : Nat} {o : Oper} (hk : k ∈ rem) (ho : ops[k]? = some o)
    (hd : ∀ i ∈ rem, ∀ j ∈ rem, i ≠ j → ∀ d, dstAt ops i = some d → dstAt ops j ≠ some d) (v : Value) :
    (midAct ops a0 rem L vals).put o.dst v = midAct ops a0 rem (updL L k) (updV vals k v) := by
  have hdk : dstAt ops k = o.dst := by simp [dstAt, ho]
  have key : ∀ s : Nat, ((midAct ops a0 rem L vals).put o.dst v).tmps[s]? = (fillSel ops (updL L k) (updV vals k v) rem a0.tmps)[s]? := by
    intro s
    by_cases hs : ∃ j ∈ rem, updL L k j = true ∧ dstAt ops j = some s
    · obtain ⟨j, hj, hLj, hdj⟩ := hs
      by_cases hlt : s < a0.tmps.size
      · rw [fillSel_at rem a0.tmps hj hLj hdj hlt (fun i hi hij => fun e => hd i hi j hj hij s e hdj)]
        by_cases hjk : j = k
        · subst hjk
          rw [hdk] at hdj
          rw [hdj]
          simp only [Act.put, midAct, updV, if_true]
          rw [Array.getElem?_setIfInBounds]
          simp [fillSel_size, hlt]
        · have hL : L j = true := by
            simp only [updL, Bool.or_eq_true, beq_iff_eq] at hLj
            rcases hLj with h | h
            · exact absurd h hjk
            · exact h
          have hne : o.dst ≠ some s := by rw [← hdk]; exact hd j hj k hk hjk s hdj
          have e2 := fillSel_at (vals := vals) rem a0.tmps hj hL hdj hlt (fun i hi hij => fun e => hd i hi j hj hij s e hdj)
          rw [updV, if_neg hjk, ← e2]
          cases hod : o.dst with
          | none => rfl
          | some d =>
            have : d ≠ s := fun e => hne (by rw [hod, e])
            simp [Act.put, midAct, this]
      · have h1 : (fillSel ops (updL L k) (updV vals k v) rem a0.tmps)[s]? = none := by
          rw [Array.getElem?_eq_none]; rw [fillSel_size]; omega
        rw [h1]
        rw [Array.getElem?_eq_none]
        cases o.dst with
        | none => simp [Act.put, midAct, fillSel_size]; omega
        | some d => simp [Act.put, midAct, fillSel_size]; omega
    · have hno : ∀ j ∈ rem, updL L k j = true → dstAt ops j ≠ some s := fun j hj hL he => hs ⟨j, hj, hL, he⟩
      rw [fillSel_other (s := s) rem a0.tmps hno]
      have hne : o.dst ≠ some s := by rw [← hdk]; exact hno k hk (by simp [updL])
      have h2 := fillSel_other (ops := ops) (vals := vals) (L := L) (s := s) rem a0.tmps (fun j hj hL => hno j hj (by simp [updL, hL]))
      rw [← h2]
      cases hod : o.dst with
      | none => rfl
      | some d =>
        have : d ≠ s := fun e => hne (by rw [hod, e])
        simp [Act.put, midAct, this]
  have h1 : ((midAct ops a0 rem L vals).put o.dst v).tmps = fillSel ops (updL L k) (updV vals k v) rem a0.tmps := Array.ext_getElem? key
  have h2 : ((midAct ops a0 rem L vals).put o.dst v).defers = a0.defers := by cases o.dst <;> rfl
  have h3 : midAct ops a0 rem (updL L k) (updV vals k v) = ⟨((midAct ops a0 rem L vals).put o.dst v).tmps, ((midAct ops a0 rem L vals).put o.dst v).defers⟩ := by rw [h1, h2]; rfl
  exact h3.symm
end

/-- One operation's step: from whatever set of operations that may be done before it. -/
def InvStep (P : Program) (md : Region.Mode) (ops : Array Oper) (Q : Exit → Act → World → Prop) (a0 : Act) (rem : List Nat) (R : (Nat → Bool) → (Nat → Value) → World → Prop) (k : Nat) : Prop :=
  ∀ o, ops[k]? = some o → ∀ (L : Nat → Bool) (vals : Nat → Value) (w : World), L k = false → (depsAt md ops rem k).all L = true → R L vals w →
    ∀ K : Act → World → Prop, (∀ v w', R (updL L k) (updV vals k v) w' → K ((midAct ops a0 rem L vals).put o.dst v) w') →
    if Region.wanted o (yielded ops (midAct ops a0 rem L vals).tmps) = true then Oper.wp P o (midAct ops a0 rem L vals) w K Q else K ((midAct ops a0 rem L vals).put o.dst undef) w

theorem filter_upd {L : Nat → Bool} {k : Nat} : ∀ (rem : List Nat), rem.Nodup → k ∈ rem → L k = false → (rem.filter fun j => !updL L k j).length + 1 = (rem.filter fun j => !L j).length
  | [], _, h, _ => by cases h
  | j :: r, hn, hm, hL => by
    have hn' := List.nodup_cons.1 hn
    by_cases hjk : j = k
    · subst hjk
      have h1 : updL L j j = true := by simp [updL]
      have h2 : ∀ i ∈ r, (!updL L j i) = !L i := fun i hi => by
        have : i ≠ j := fun e => hn'.1 (e ▸ hi)
        simp [updL, this]
      simp only [List.filter_cons, h1, hL, Bool.not_true, Bool.not_false, if_true, Bool.false_eq_true, if_false, List.length_cons]
      rw [List.filter_congr h2]
    · have hk : k ∈ r := by
        rcases List.mem_cons.1 hm with h | h
        · exact absurd h.symm hjk
        · exact h
      have h1 : updL L k j = L j := by simp [updL, hjk]
      have ih := filter_upd r hn'.2 hk hL
      simp only [List.filter_cons, h1]
      split <;> (try simp only [List.length_cons]) <;> omega

theorem wpAnyH_inv {P : Program} {md : Region.Mode} {ops : Array Oper} {Q : Exit → Act → World → Prop} {S : World → Prop} (a0 : Act) (rem : List Nat) (listed0 : Array Bool)
    (R : (Nat → Bool) → (Nat → Value) → World → Prop) (hok : invOk md ops rem listed0 = true) (hS : ∀ L vals w, R L vals w → S w)
    (hstep : ∀ k ∈ rem, InvStep P md ops Q a0 rem R k) (hend : ∀ L vals w, (∀ k ∈ rem, L k = true) → R L vals w → Q .normal (midAct ops a0 rem L vals) w) :
    ∀ (fuel : Nat) (listed : Array Bool) (L : Nat → Bool) (vals : Nat → Value) (w : World), listed.size = ops.size → (∀ i < ops.size, listed.getD i true = (!rem.contains i || L i)) → (rem.filter fun j => !L j).length = fuel → R L vals w →
      wpAnyH P md ops Q S fuel listed (midAct ops a0 rem L vals) w := by
  simp only [invOk, Bool.and_eq_true, decide_eq_true_eq, List.all_eq_true, List.mem_range] at hok
  obtain ⟨⟨⟨⟨⟨hsz, hls⟩, hlt⟩, hdd⟩, hor⟩, hnd⟩ := hok
  have hd : ∀ i ∈ rem, ∀ j ∈ rem, i ≠ j → ∀ d, dstAt ops i = some d → dstAt ops j ≠ some d := by
    intro i hi j hj hij d hdi
    have h := hdd i hi j hj
    rw [hdi] at h
    simp only [Bool.or_eq_true, beq_iff_eq, Bool.not_eq_true'] at h
    rcases h with h | h
    · exact absurd h hij
    · intro e; rw [e] at h; simp at h
  have hdone : ∀ L : Nat → Bool, (∀ k ∈ rem, L k = true) → ∀ listed : Array Bool, listed.size = ops.size → (∀ i < ops.size, listed.getD i true = (!rem.contains i || L i)) → Region.ready md ops listed = [] := by
    intro L hL listed hs hli
    rw [List.eq_nil_iff_forall_not_mem]
    intro i hi
    obtain ⟨h1, o, ho, _⟩ := mem_ready.1 hi
    have hilt : i < ops.size := (Array.getElem?_eq_some_iff.1 ho).1
    rw [hli i hilt] at h1
    by_cases hc : i ∈ rem
    · rw [hL i hc] at h1; simp at h1
    · simp [hc] at h1
  intro fuel
  induction fuel with
  | zero =>
    intro listed L vals w hs hli hf hR
    have hL : ∀ k ∈ rem, L k = true := by
      intro k hk
      cases h : L k with
      | true => rfl
      | false =>
        have : k ∈ rem.filter fun j => !L j := List.mem_filter.2 ⟨hk, by simp [h]⟩
        rw [List.length_eq_zero_iff.1 hf] at this
        cases this
    exact ⟨hdone L hL listed hs hli, hend L vals w hL hR⟩
  | succ fuel ih =>
    intro listed L vals w hs hli hf hR
    have hex : ∃ k ∈ rem, L k = false := by
      cases hl : rem.filter fun j => !L j with
      | nil => rw [hl] at hf; cases hf
      | cons k r =>
        have : k ∈ rem.filter fun j => !L j := by rw [hl]; simp
        obtain ⟨h1, h2⟩ := List.mem_filter.1 this
        exact ⟨k, h1, by simpa using h2⟩
    constructor
    · intro hr
      exfalso
      -- the least operation that is left may come up
      have hmin : ∀ n k, k ≤ n → k ∈ rem → L k = false → False := by
        intro n
        induction n with
        | zero =>
          intro k hkn hk hLk
          have h0 : k ∈ Region.ready md ops listed := by
            have ho := hor k hk
            cases hok : ops[k]? with
            | none => rw [hok] at ho; cases ho
            | some o =>
              rw [hok] at ho
              refine mem_ready.2 ⟨?_, o, hok, ?_⟩
              · rw [hli k (hlt k hk)]; simp [hk, hLk]
              · intro e he hb
                have := Array.all_eq_true'.1 ho e he
                simp only [hb, Bool.not_true, Bool.false_or, decide_eq_true_eq] at this
                omega
          rw [hr] at h0; cases h0
        | succ n ihn =>
          intro k hkn hk hLk
          by_cases hall : ∀ j ∈ rem, j < k → L j = true
          · have h0 : k ∈ Region.ready md ops listed := by
              have ho := hor k hk
              cases hok : ops[k]? with
              | none => rw [hok] at ho; cases ho
              | some o =>
                rw [hok] at ho
                refine mem_ready.2 ⟨?_, o, hok, ?_⟩
                · rw [hli k (hlt k hk)]; simp [hk, hLk]
                · intro e he hb
                  have hlt2 := Array.all_eq_true'.1 ho e he
                  simp only [hb, Bool.not_true, Bool.false_or, decide_eq_true_eq] at hlt2
                  have hes : e.on < ops.size := Nat.lt_trans hlt2 (hlt k hk)
                  have h1 := hli e.on hes
                  have h2 : listed.getD e.on true = true := by
                    rw [h1]
                    by_cases hc : e.on ∈ rem
                    · simp [hall e.on hc hlt2]
                    · simp [hc]
                  have h3 : e.on < listed.size := by omega
                  simp [Array.getD, h3] at h2 ⊢
                  exact h2
            rw [hr] at h0; cases h0
          · have : ∃ j, j ∈ rem ∧ j < k ∧ L j = false := by
              refine Classical.byContradiction fun hn => hall fun j hj hjk => ?_
              cases h : L j with
              | true => rfl
              | false => exact absurd ⟨j, hj, hjk, h⟩ hn
            obtain ⟨j, hj, hjk, hLj⟩ := this
            exact ihn j (by omega) hj hLj
      obtain ⟨k, hk, hLk⟩ := hex
      exact hmin k k (Nat.le_refl _) hk hLk
    · intro i hi
      obtain ⟨h1, o, ho, h3⟩ := mem_ready.1 hi
      have hilt : i < ops.size := (Array.getElem?_eq_some_iff.1 ho).1
      rw [hli i hilt] at h1
      have hc : i ∈ rem ∧ L i = false := by
        by_cases hc : i ∈ rem
        · simp [hc] at h1; exact ⟨hc, h1⟩
        · simp [hc] at h1
      have hdeps : (depsAt md ops rem i).all L = true := by
        rw [List.all_eq_true]
        intro j hj
        simp only [depsAt, ho, List.mem_filter, List.mem_map] at hj
        obtain ⟨⟨e, ⟨he, hb⟩, rfl⟩, hcr⟩ := hj
        have hm := h3 e (by simpa using he) hb
        have hlt2 := hor i hc.1
        rw [ho] at hlt2
        have hlt3 := Array.all_eq_true'.1 hlt2 e (by simpa using he)
        simp only [hb, Bool.not_true, Bool.false_or, decide_eq_true_eq] at hlt3
        have hes : e.on < ops.size := by omega
        have h4 := hli e.on hes
        have h5 : e.on < listed.size := by omega
        simp [Array.getD, h5] at hm h4
        rw [hm] at h4
        simpa [List.contains_iff_mem.1 hcr] using h4
      have st := hstep i hc.1 o ho L vals w hc.2 hdeps hR (fun a' w' => S w' ∧ wpAnyH P md ops Q S fuel (listed.setIfInBounds i true) a' w') (fun v w' hR' => by
        rw [midAct_put hc.1 ho hd v]
        refine ⟨hS _ _ _ hR', ih _ _ _ _ (by simpa using hs) ?_ ?_ hR'⟩
        · intro j hj
          by_cases hji : i = j
          · subst hji
            simp [Array.getD, hs, hilt, updL]
          · have := hli j hj
            have h6 : j < listed.size := by omega
            simp [Array.getD, h6] at this
            have hij : (j == i) = false := by simpa using Ne.symm hji
            simp [Array.getD, h6, hji, updL, hij, this]
        · have := filter_upd rem hnd hc.1 hc.2
          omega)
      unfold wpOp
      simp only [ho]
      split at st
      · next hw => rw [if_pos hw]; exact .inl st
      · next hw => rw [if_neg hw]; exact st

/-- The beginning: the slots are as they are, nothing of what is left is done. -/
theorem midAct_zero {ops : Array Oper} {a0 : Act} {vals : Nat → Value} : ∀ (rem : List Nat) (t : Array Value), fillSel ops (fun _ => false) vals rem t = t
  | [], t => rfl
  | k :: r, t => by
    rw [fillSel]
    have : (match dstAt ops k with | some d => t.setIfInBounds d (if (fun _ => false) k = true then vals k else t.getD d undef) | none => t) = t := by
      cases dstAt ops k with
      | none => rfl
      | some d =>
        simp only [Bool.false_eq_true, if_false]
        refine Array.ext_getElem? fun s => ?_
        rw [Array.getElem?_setIfInBounds]
        split
        · next e => subst e; split
                    · next h => simp [h]
                    · next h => simp [h]
        · rfl
    rw [this, midAct_zero (a0 := a0) r t]
theorem wpAnyH_start {P : Program} {md : Region.Mode} {ops : Array Oper} {Q : Exit → Act → World → Prop} {S : World → Prop} {a0 : Act} {w : World} {listed : Array Bool} {fuel : Nat} (rem : List Nat)
    (R : (Nat → Bool) → (Nat → Value) → World → Prop) (hok : invOk md ops rem listed = true) (hf : rem.length = fuel) (hS : ∀ L vals w, R L vals w → S w) (h0 : R (fun _ => false) (fun _ => undef) w)
    (hstep : ∀ k ∈ rem, InvStep P md ops Q a0 rem R k) (hend : ∀ L vals w, (∀ k ∈ rem, L k = true) → R L vals w → Q .normal (midAct ops a0 rem L vals) w) :
    wpAnyH P md ops Q S fuel listed a0 w := by
  have h := wpAnyH_inv a0 rem listed R hok hS hstep hend fuel listed (fun _ => false) (fun _ => undef) w
    (by simp only [invOk, Bool.and_eq_true, decide_eq_true_eq] at hok; exact hok.1.1.1.1.1)
    (fun i hi => by
      simp only [invOk, Bool.and_eq_true, List.all_eq_true, List.mem_range, beq_iff_eq] at hok
      rw [hok.1.1.1.1.2 i hi]; simp)
    (by rw [show (rem.filter fun j => !(fun _ => false) j) = rem from List.filter_eq_self.2 (fun _ _ => rfl)]; exact hf) h0
  have e : midAct ops a0 rem (fun _ => false) (fun _ => undef) = a0 := by rw [midAct, midAct_zero (a0 := a0)]
  rwa [e] at h
/-! ### The frame written out -/
def slotO (L : Nat → Bool) (vals olds : Nat → Value) (k : Nat) : Value := if L k = true then vals k else olds k
theorem slotO_done {L : Nat → Bool} {vals olds : Nat → Value} {k : Nat} (h : L k = true) : slotO L vals olds k = vals k := if_pos h
def fillO (L : Nat → Bool) (vals olds : Nat → Value) : List (Nat × Option Tmp) → Array Value → Array Value
  | [], t => t
  | (k, some d) :: r, t => fillO L vals olds r (t.setIfInBounds d (slotO L vals olds k))
  | (_, none) :: r, t => fillO L vals olds r t
theorem fillO_congr {L : Nat → Bool} {vals olds olds' : Nat → Value} : ∀ (l : List (Nat × Option Tmp)) (t : Array Value), (∀ x ∈ l, olds x.1 = olds' x.1) → fillO L vals olds l t = fillO L vals olds' l t
  | [], _, _ => rfl
  | (k, some d) :: r, t, h => by
    have hk : slotO L vals olds k = slotO L vals olds' k := by unfold slotO; rw [h (k, some d) (by simp)]
    simp only [fillO, hk]; exact fillO_congr r _ (fun x hx => h x (by simp [hx]))
  | (k, none) :: r, t, h => by simp only [fillO]; exact fillO_congr r _ (fun x hx => h x (by simp [hx]))
theorem fillSel_open {ops : Array Oper} (L : Nat → Bool) (vals : Nat → Value) : ∀ (rem : List Nat) (t : Array Value), rem.Nodup → ∃ olds : Nat → Value, fillSel ops L vals rem t = fillO L vals olds (rem.map fun k => (k, dstAt ops k)) t
  | [], t, _ => ⟨fun _ => undef, rfl⟩
  | k :: r, t, hn => by
    have hn' := List.nodup_cons.1 hn
    obtain ⟨olds, e⟩ := fillSel_open (ops := ops) L vals r (match dstAt ops k with | some d => t.setIfInBounds d (if L k = true then vals k else t.getD d undef) | none => t) hn'.2
    cases hd : dstAt ops k with
    | none =>
      refine ⟨olds, ?_⟩
      rw [fillSel, e]; simp only [hd, List.map_cons, fillO]
    | some d =>
      refine ⟨fun j => if j = k then t.getD d undef else olds j, ?_⟩
      have hs : (if L k = true then vals k else t.getD d undef) = slotO L vals (fun j => if j = k then t.getD d undef else olds j) k := by simp [slotO]
      rw [fillSel, e]; simp only [hd, List.map_cons, fillO, ← hs]
      refine fillO_congr _ _ (fun x hx => ?_)
      obtain ⟨j, hj, rfl⟩ := List.mem_map.1 hx
      have : j ≠ k := fun e => hn'.1 (e ▸ hj)
      simp [this]
theorem InvStep.lit {P : Program} {md : Region.Mode} {ops : Array Oper} {Q : Exit → Act → World → Prop} {a0 : Act} {rem : List Nat} {R : (Nat → Bool) → (Nat → Value) → World → Prop} {k : Nat} {o : Oper} (ho : ops[k]? = some o)
    (deps : List Nat) (hdeps : depsAt md ops rem k = deps) (lst : List (Nat × Option Tmp)) (hl : (rem.map fun k => (k, dstAt ops k)) = lst) (hn : rem.Nodup)
    (h : ∀ (L : Nat → Bool) (vals olds : Nat → Value) (w : World), L k = false → deps.all L = true → R L vals w →
      ∀ K : Act → World → Prop, Shut (∀ v w', R (updL L k) (updV vals k v) w' → K (Act.put ⟨fillO L vals olds lst a0.tmps, a0.defers⟩ o.dst v) w') →
      if Region.wanted o (yielded ops (fillO L vals olds lst a0.tmps)) = true then Oper.wp P o ⟨fillO L vals olds lst a0.tmps, a0.defers⟩ w K Q else K (Act.put ⟨fillO L vals olds lst a0.tmps, a0.defers⟩ o.dst undef) w) : InvStep P md ops Q a0 rem R k := by
  intro o' ho' L vals w hL hd hR K hK
  obtain rfl := Option.some.inj (ho.symm.trans ho')
  obtain ⟨olds, e⟩ := fillSel_open (ops := ops) L vals rem a0.tmps hn
  rw [hl] at e
  rw [hdeps] at hd
  have em : midAct ops a0 rem L vals = ⟨fillO L vals olds lst a0.tmps, a0.defers⟩ := by rw [midAct, e]
  rw [em] at hK ⊢
  exact h L vals olds w hL hd hR K hK
/-- The end: every slot holds what its operation yielded. -/
theorem end_lit {ops : Array Oper} {Q : Exit → Act → World → Prop} {a0 : Act} {rem : List Nat} {R : (Nat → Bool) → (Nat → Value) → World → Prop} (lst : List (Nat × Option Tmp)) (hl : (rem.map fun k => (k, dstAt ops k)) = lst) (hn : rem.Nodup)
    (h : ∀ (L : Nat → Bool) (vals olds : Nat → Value) (w : World), rem.all L = true → R L vals w → Q .normal ⟨fillO L vals olds lst a0.tmps, a0.defers⟩ w) :
    ∀ L vals w, (∀ k ∈ rem, L k = true) → R L vals w → Q .normal (midAct ops a0 rem L vals) w := by
  intro L vals w hL hR
  obtain ⟨olds, e⟩ := fillSel_open (ops := ops) L vals rem a0.tmps hn
  rw [hl] at e
  rw [midAct, e]
  exact h L vals olds w (List.all_eq_true.2 hL) hR
theorem updL_same (L : Nat → Bool) (k : Nat) : updL L k k = true := by simp [updL]
theorem updL_ne {L : Nat → Bool} {k j : Nat} (h : (j == k) = false) : updL L k j = L j := by simp [updL, h]
theorem updV_same (vals : Nat → Value) (k : Nat) (v : Value) : updV vals k v k = v := if_pos rfl
theorem updV_ne {vals : Nat → Value} {k j : Nat} {v : Value} (h : j ≠ k) : updV vals k v j = vals j := if_neg h
/-! ### .. as a list -/
def fillL (L : Nat → Bool) (vals olds : Nat → Value) : List (Nat × Option Tmp) → List Value → List Value
  | [], t => t
  | (k, some d) :: r, t => fillL L vals olds r (t.set d (slotO L vals olds k))
  | (_, none) :: r, t => fillL L vals olds r t
def setD (t : List Value) : Option Tmp → Value → List Value
  | some d, v => t.set d v
  | none, _ => t
theorem fillO_list {L : Nat → Bool} {vals olds : Nat → Value} : ∀ (l : List (Nat × Option Tmp)) (t : List Value), fillO L vals olds l t.toArray = (fillL L vals olds l t).toArray
  | [], _ => rfl
  | (k, some d) :: r, t => by rw [fillO, fillL, List.setIfInBounds_toArray, fillO_list r]
  | (k, none) :: r, t => by rw [fillO, fillL, fillO_list r]
theorem put_list (t : List Value) (ds : List Deferred) (d : Option Tmp) (v : Value) : Act.put ⟨t.toArray, ds⟩ d v = ⟨(setD t d v).toArray, ds⟩ := by
  cases d with
  | none => rfl
  | some d => rw [Act.put, setD, List.setIfInBounds_toArray]
theorem wp_wanted {P : Program} {ops : Array Oper} {o : Oper} {a : Act} {w : World} {K : Act → World → Prop} {Q : Exit → Act → World → Prop} (hg : o.guard = none) (h : if Region.wanted o (yielded ops a.tmps) = true then Oper.wp P o a w K Q else False) : Oper.wp P o a w K Q := by
  have hw : Region.wanted o (yielded ops a.tmps) = true := by simp [Region.wanted, hg]
  rwa [if_pos hw] at h
theorem InvStep.plain {P : Program} {md : Region.Mode} {ops : Array Oper} {Q : Exit → Act → World → Prop} {T : List Value} {ds : List Deferred} {rem : List Nat} {R : (Nat → Bool) → (Nat → Value) → World → Prop} {k : Nat} {o : Oper} (ho : ops[k]? = some o) (hg : o.guard = none)
    (deps : List Nat) (hdeps : depsAt md ops rem k = deps) (lst : List (Nat × Option Tmp)) (hl : (rem.map fun k => (k, dstAt ops k)) = lst) (hn : rem.Nodup)
    (h : ∀ (L : Nat → Bool) (vals olds : Nat → Value) (w : World), L k = false → deps.all L = true → R L vals w →
      ∀ K : Act → World → Prop, Shut (∀ v w', R (updL L k) (updV vals k v) w' → K ⟨(setD (fillL L vals olds lst T) o.dst v).toArray, ds⟩ w') →
      Oper.wp P o ⟨(fillL L vals olds lst T).toArray, ds⟩ w K Q) : InvStep P md ops Q ⟨T.toArray, ds⟩ rem R k := by
  refine InvStep.lit ho deps hdeps lst hl hn (fun L vals olds w hL hd hR K hK => ?_)
  have hw : Region.wanted o (yielded ops (fillO L vals olds lst T.toArray)) = true := by simp [Region.wanted, hg]
  rw [if_pos hw]
  have h' := h L vals olds w hL hd hR K
  rw [fillO_list] at hK ⊢
  refine h' (fun v w' hr => ?_)
  rw [← put_list]
  exact hK v w' hr
theorem end_plain {ops : Array Oper} {Q : Exit → Act → World → Prop} {T : List Value} {ds : List Deferred} {rem : List Nat} {R : (Nat → Bool) → (Nat → Value) → World → Prop} (lst : List (Nat × Option Tmp)) (hl : (rem.map fun k => (k, dstAt ops k)) = lst) (hn : rem.Nodup)
    (h : ∀ (L : Nat → Bool) (vals olds : Nat → Value) (w : World), rem.all L = true → R L vals w → Q .normal ⟨(fillL L vals olds lst T).toArray, ds⟩ w) :
    ∀ L vals w, (∀ k ∈ rem, L k = true) → R L vals w → Q .normal (midAct ops ⟨T.toArray, ds⟩ rem L vals) w :=
  end_lit lst hl hn (fun L vals olds w ha hr => by rw [fillO_list]; exact h L vals olds w ha hr)
/-! ### .. over a region that is written out as a list -/
/-- An operation that may be taken first. -/
theorem wpAnyH_take_l {P : Program} {md : Region.Mode} {l : List Oper} {Q : Exit → Act → World → Prop} {S : World → Prop} {fuel : Nat} {B : List Bool} {T : List Value} {ds : List Deferred} {w : World} (i : Nat) {oi : Oper} {v : Value} (hi : l[i]? = some oi) (hg : oi.guard = none)
    (hs : Region.noSelect l.toArray = true) (hf : Region.free md l.toArray B.toArray i = true) (hr : (Region.ready md l.toArray B.toArray).contains i = true)
    (hQ : ∀ c a w, Q (.panic c) (a.put oi.dst v) w → Q (.panic c) a w) (hv : ∀ w, S w → (execOp (Act.eval ⟨T.toArray, ds⟩) oi).run P w = .ok (.value v) w) (hS : S w)
    (h : wpAnyH P md l.toArray Q S fuel (B.set i true).toArray ⟨(setD T oi.dst v).toArray, ds⟩ w) : wpAnyH P md l.toArray Q S (fuel + 1) B.toArray ⟨T.toArray, ds⟩ w := by
  refine wpAnyH_take (i := i) (oi := oi) (v := v) (by simpa using hi) hs hf hr hQ (.inl ⟨by simp [Region.wanted, hg], hv⟩) hS ?_
  rw [put_list, List.setIfInBounds_toArray]
  exact h
theorem InvStep.list {P : Program} {md : Region.Mode} {l : List Oper} {Q : Exit → Act → World → Prop} {T : List Value} {ds : List Deferred} {rem : List Nat} {R : (Nat → Bool) → (Nat → Value) → World → Prop} {k : Nat} {o : Oper} (ho : l[k]? = some o) (hg : o.guard = none)
    (deps : List Nat) (hdeps : (deps.all (depsAt md l.toArray rem k).contains) = true) (lst : List (Nat × Option Tmp)) (hl : (rem.map fun k => (k, dstAt l.toArray k)) = lst) (hn : rem.Nodup)
    (h : ∀ (L : Nat → Bool) (vals olds : Nat → Value) (w : World), L k = false → deps.all L = true → R L vals w →
      ∀ K : Act → World → Prop, Shut (∀ v w', R (updL L k) (updV vals k v) w' → K ⟨(setD (fillL L vals olds lst T) o.dst v).toArray, ds⟩ w') →
      Oper.wp P o ⟨(fillL L vals olds lst T).toArray, ds⟩ w K Q) : InvStep P md l.toArray Q ⟨T.toArray, ds⟩ rem R k :=
  InvStep.plain (by simpa using ho) hg _ rfl lst hl hn (fun L vals olds w h1 h2 => h L vals olds w h1 (by
    rw [List.all_eq_true] at hdeps h2 ⊢
    exact fun j hj => h2 j (by simpa using hdeps j hj)))
end Go.Proofs.YtecdapihfiahiaaDoor

/- Types: the reference's Right. -/
namespace Go.Proofs.YtecdapihfiahiaaDoor
open Go.RowKit

set_option maxHeartbeats 1000000 in
theorem rright_any (B : Nat → Prop) (t : Ty) (v : Value) (w : World) (hsz : t.size ≤ 1000000) (hB : Low B w) (hv : TyVal B w v t) :
    Calls Tryd.prog 15 #[v] w fun e w' => e = .returned (.int .i64 (rightE t)) ∧ Below w.heap.size w w' := by
  have hds := t.depth_le_size
  have HDp := Lib.hid (fun W (hW : Below w.heap.size w W) => rdepth_any B t (by omega) v W (hB.le hW.size) (hv.keep (hW.keeps'.mono hB)))
  have HSz := Lib.hid (fun W (hW : Below w.heap.size w W) => rsize_any B t hsz v W (hB.le hW.size) (hv.keep (hW.keeps'.mono hB)))
  have HNd := Lib.hid (fun W (hW : Below w.heap.size w W) (hd : t.depth ≤ 100) => rnode_any t B [] 0 false v (.slice none 0 0) W (hB.le hW.size) (hv.keep (hW.keeps'.mono hB)) ⟨.inl ⟨⟨_, _, rfl⟩, rfl⟩, by simp [maxLen], fun s hs => by cases hs⟩ (by simp; omega))
  rw [rightE_eq]
  obtain ⟨lv, kv, rfl, hn, hl, hk⟩ := hv
  obtain ⟨pa, len, c, rfl, hlen, hm, hget⟩ := hk.open
  obtain ⟨la, ln, lc, rfl, hlln, hlm, hlget⟩ := hl.open
  obtain ⟨d, hd⟩ : ∃ d, t.depth = d := ⟨_, rfl⟩
  obtain ⟨z, hz⟩ : ∃ z, t.size = z := ⟨_, rfl⟩
  have HL1 : Hid (100 < d → t.large = true) := Lib.hid (fun h => by simp [Ty.large]; omega)
  have HL2 : Hid (10000 < z → t.large = true) := Lib.hid (fun h => by simp [Ty.large]; omega)
  have HL3 : Hid (¬ 100 < d → ¬ 10000 < z → t.large = false) := Lib.hid (fun h h' => by simp [Ty.large]; omega)
  rw [hd] at HDp HNd hds
  rw [hz] at HSz hsz hds
  clear hget hlget hl hk hlen hlln hn hd hz hB
  have b0 := blkBelow w #[.int .i64 t.k, .int .i64 t.p, .string t.n, .int .i64 t.s, .slice la ln lc, .slice pa len c] 47
  have HB0 := Lib.hid b0
  clear b0
  by_cases h1 : 100 < d
  · have h1' : decide ((100 : Int) < (d : Int)) = true := by simp; omega
    rw [HL1.out h1, if_pos rfl]
    go_enter Tryd.func15, Tryd.ntmps15
    go_wp2_with (go_at_call 28; refine (HDp.out _ HB0.out).mono ?_; rintro e w2 ⟨rfl, hb2⟩; obtain ⟨hcl, hfz⟩ := bcell hb2)
    go_ret
    exact ⟨rfl, below_seq HB0.out hb2⟩
  · have h1' : decide ((100 : Int) < (d : Int)) = false := by simp; omega
    by_cases h2 : 10000 < z
    · have h2' : decide ((10000 : Int) < (z : Int)) = true := by simp; omega
      rw [HL2.out h2, if_pos rfl]
      go_enter Tryd.func15, Tryd.ntmps15
      go_wp2_with (first | (go_at_call 28; refine (HDp.out _ HB0.out).mono ?_; rintro e w2 ⟨rfl, hb2⟩; obtain ⟨hcl, hfz⟩ := bcell hb2) | (go_at_call 29; refine (HSz.out _ (below_seq HB0.out hb2)).mono ?_; rintro e w3 ⟨rfl, hb3⟩; obtain ⟨hcl3, hfz3⟩ := bcell (below_seq hb2 hb3)))
      go_ret
      exact ⟨rfl, below_seq HB0.out (below_seq hb2 hb3)⟩
    · have h2' : decide ((10000 : Int) < (z : Int)) = false := by simp; omega
      rw [HL3.out h1 h2, if_neg (by decide)]
      go_enter Tryd.func15, Tryd.ntmps15
      go_wp2_with (first | (go_at_call 28; refine (HDp.out _ HB0.out).mono ?_; rintro e w2 ⟨rfl, hb2⟩; obtain ⟨hcl, hfz⟩ := bcell hb2) | (go_at_call 29; refine (HSz.out _ (below_seq HB0.out hb2)).mono ?_; rintro e w3 ⟨rfl, hb3⟩; obtain ⟨hcl3, hfz3⟩ := bcell (below_seq hb2 hb3)) | (go_at_call 30; refine (HNd.out _ (below_seq HB0.out (below_seq hb2 hb3)) (by omega)).mono ?_; rintro e w4 ⟨rfl, hb4⟩))
      go_ret
      exact ⟨rfl, below_seq HB0.out (below_seq hb2 (below_seq hb3 hb4))⟩

end Go.Proofs.YtecdapihfiahiaaDoor

/- Types: the program's small checks. -/
namespace Go.Proofs.YtecdapihfiahiaaDoor
open Go.RowKit

def numB (n : Int) (has : Bool) : Bool := if has then prioB n else n == 0
def namB (s : ByteArray) (has : Bool) : Bool := if has then nameB s else s.toList.isEmpty
end Go.Proofs.YtecdapihfiahiaaDoor

/- Types: the program's differentNames. -/
namespace Go.Proofs.YtecdapihfiahiaaDoor
open Go.RowKit

theorem boolInfo' : (Tryd.prog.info? 4).map (fun i => (i.zero, i.size, i.bytes)) = some (some (.bool false), 1, 1) := by kernel_rfl
theorem zero_bool (w : World) : (zeroValue 4).run Tryd.prog w = .ok (.bool false) w := by
  obtain ⟨i0, hi, hz0, hz1, hz2⟩ := info_parts boolInfo'
  simp [zeroValue, typeInfo, hi, hz0]
set_option maxRecDepth 100000 in
theorem plainElem_bool_inv {v : Value} {b : Bool} {ps : List MemPlace} (h : plainElem (H := Unit) Tryd.prog 4 v = some (.lit (.bool b), ps)) : v = .bool b := by
  unfold plainElem at h
  rw [Tryd.underlying4] at h
  cases v <;> simp at h
  rw [h.1]

/-- A map that tells which texts have been seen. -/
def Seen (w : World) (b j : Nat) (l : List ByteArray) : Prop := ∃ D : DataW Unit, w.ownsMap Tryd.prog 9 (plainElem Tryd.prog 4) b j D ∧ ∀ s : ByteArray, D.atKey (.string s.data.toList) (.lit (.bool false)) = .lit (.bool (memB s l))
end Go.Proofs.YtecdapihfiahiaaDoor

/- Types: the program's listsFit and fits. -/
namespace Go.Proofs.YtecdapihfiahiaaDoor
open Go.RowKit

def listsB (labels : Bool) (kids : Int) (ls : List ByteArray) (m : Nat) : Bool :=
  if labels then (!ls.isEmpty && (decide (m = ls.length) && labelsB ls)) else (ls.isEmpty && decide ((m : Int) = kids))

end Go.Proofs.YtecdapihfiahiaaDoor

/- Types: the program's fits. -/
namespace Go.Proofs.YtecdapihfiahiaaDoor
open Go.RowKit

def fitsB (a1 a2 a3 a4 : Bool) (kids : Int) (t : Ty) : Bool := numB t.p a1 && (numB t.s a3 && (namB t.n a2 && listsB a4 kids t.ls t.ts.length))

end Go.Proofs.YtecdapihfiahiaaDoor

/- A map of one's own, told by what its look-ups give; the program's rules. -/
namespace Go.Proofs.YtecdapihfiahiaaDoor
open Go.RowKit

/-- An entry reads as it is. -/
def asIs (v : Value) : Option (DataW Value × List MemPlace) := some (.held v, [])
/-- Block b is a map, of at most n entries, in which the key l has the value f l. -/
def MapIs (w : World) (k : TypeId) (b n : Nat) (f : Lit → Option Value) : Prop :=
  ∃ D : DataW Value, w.ownsMap Tryd.prog k asIs b n D ∧ ∀ l, Maps.has D l = (f l).isSome ∧ ∀ v, f l = some v → ∀ z, D.atKey l z = .held v
theorem MapIs.made (w : World) (k : TypeId) : MapIs (w.alloc (.map #[] 0)) k w.heap.size 0 (fun _ => none) :=
  ⟨.map [], World.ownsMap_made w _ _ _, fun _ => ⟨rfl, fun _ h => by cases h⟩⟩
theorem MapIs.congr {w : World} {k : TypeId} {b n : Nat} {f g : Lit → Option Value} (h : MapIs w k b n f) (e : ∀ l, f l = g l) : MapIs w k b n g := by
  obtain ⟨D, ho, hf⟩ := h
  exact ⟨D, ho, fun l => by rw [← e l]; exact hf l⟩
theorem MapIs.lt {w : World} {k : TypeId} {b n : Nat} {f : Lit → Option Value} (h : MapIs w k b n f) : b < w.heap.size := by
  obtain ⟨D, ho, _⟩ := h; exact ho.lt
theorem MapIs.kept {w w' : World} {k : TypeId} {b n : Nat} {f : Lit → Option Value} (h : MapIs w k b n f) {row : Option Nat} (hg : w.grownBy w' row) (hne : some b ≠ row) : MapIs w' k b n f := by
  obtain ⟨D, ho, hf⟩ := h; exact ⟨D, ho.kept hg hne, hf⟩
theorem MapIs.below {w w' : World} {k : TypeId} {b n m : Nat} {f : Lit → Option Value} (h : MapIs w k b n f) (hb : Below m w w') (hm : b < m) : MapIs w' k b n f := by
  obtain ⟨D, ⟨es, clock, h1, r⟩, hf⟩ := h
  exact ⟨D, ⟨es, clock, (hb.block b hm).trans h1, r⟩, hf⟩
open Classical in
theorem MapIs.put {w : World} {k : TypeId} {b n : Nat} {f : Lit → Option Value} (h : MapIs w k b n f) (K : Maps.Keyed Tryd.prog k) {t e : TypeId} (ht : Tryd.prog.underlying t = some (.map k e)) (hn : n < maxLen) {key val : Value} {kl : Lit} (hkey : keyOf Tryd.prog k key = some kl) (hkl : WideAt.IsKeyLit kl) :
    ∃ w', (Instr.mapUpdate t (.map (some b)) key val).run Tryd.prog w = .ok () w' ∧ MapIs w' k b (n + 1) (fun l => if l = kl then some val else f l) ∧ w.grownBy w' (some b) := by
  obtain ⟨D, ho, hf⟩ := h
  obtain ⟨w', hr, ho', htn⟩ := ho.store K ht hn hkey (d := .held val) (ps := []) rfl
  refine ⟨w', hr, ⟨_, ho', fun l => ?_⟩, htn.grown⟩
  by_cases e : l = kl
  · subst e
    simp only [if_true]
    exact ⟨by rw [Maps.has_put_same ho.isMap hkl]; rfl, fun v hv z => by rw [Maps.atKey_put_same ho.isMap hkl]; cases hv; rfl⟩
  · simp only [if_neg e]
    rw [Maps.has_put_other e]
    exact ⟨(hf l).1, fun v hv z => by rw [Maps.atKey_put_other e]; exact (hf l).2 v hv z⟩
set_option maxRecDepth 100000 in
theorem MapIs.look {w : World} {k : TypeId} {b n : Nat} {f : Lit → Option Value} (h : MapIs w k b n f) (K : Maps.Keyed Tryd.prog k) {t e : TypeId} (ht : Tryd.prog.underlying t = some (.map k e)) {z : Value} (hz : (zeroValue e).run Tryd.prog w = .ok z w) {key : Value} {kl : Lit} (hkey : keyOf Tryd.prog k key = some kl) :
    (Instr.lookup t (.map (some b)) key false).run Tryd.prog w = .ok ((f kl).getD z) w := by
  obtain ⟨D, ho, hf⟩ := h
  obtain ⟨v, ps, hr, hv⟩ := ho.lookup K ht hz (zd := .held z) (zp := []) rfl hkey
  rw [hr]
  obtain ⟨h1, h2⟩ := hf kl
  have hv' : DataW.held v = D.atKey kl (.held z) := by
    simp only [asIs, Option.some.injEq, Prod.mk.injEq] at hv; exact hv.1
  refine congrArg (fun x => Result.ok x w) ?_
  cases hfk : f kl with
  | none =>
    rw [hfk] at h1
    rw [Maps.atKey_of_not_has h1] at hv'
    exact DataW.held.inj hv'
  | some u =>
    rw [h2 u hfk] at hv'
    exact DataW.held.inj hv'
set_option maxRecDepth 100000 in
theorem MapIs.look_ok {w : World} {k : TypeId} {b n : Nat} {f : Lit → Option Value} (h : MapIs w k b n f) (K : Maps.Keyed Tryd.prog k) {t e : TypeId} (ht : Tryd.prog.underlying t = some (.map k e)) {z : Value} (hz : (zeroValue e).run Tryd.prog w = .ok z w) {key : Value} {kl : Lit} (hkey : keyOf Tryd.prog k key = some kl) :
    (Instr.lookup t (.map (some b)) key true).run Tryd.prog w = .ok (.tuple #[(f kl).getD z, .bool (f kl).isSome]) w := by
  obtain ⟨D, ho, hf⟩ := h
  obtain ⟨v, ps, hr, hv⟩ := ho.look_ok K ht hz (zd := .held z) (zp := []) rfl hkey
  obtain ⟨h1, h2⟩ := hf kl
  rw [hr, h1]
  have hv' : DataW.held v = D.atKey kl (.held z) := by
    simp only [asIs, Option.some.injEq, Prod.mk.injEq] at hv; exact hv.1
  have : v = (f kl).getD z := by
    cases hfk : f kl with
    | none =>
      rw [hfk] at h1
      rw [Maps.atKey_of_not_has h1] at hv'
      exact DataW.held.inj hv'
    | some u =>
      rw [h2 u hfk] at hv'
      exact DataW.held.inj hv'
  rw [this]

/-! ### The rules -/
def knK (k : Int) : Bool := decide (1 ≤ k) && decide (k ≤ 9)
def r2K (k : Int) : Bool := k == 8 || k == 9
def r3K (k : Int) : Bool := k == 9
def r4K (k : Int) : Bool := k == 6 || k == 7
def kidsK (k : Int) : Int := if k = 4 ∨ k = 5 then 2 else if k = 8 then 1 else 0
abbrev ruleVal (k : Int) : Value := .agg #[.bool (actB k), .bool (r2K k), .bool (r3K k), .bool (r4K k), .int .i64 (kidsK k), .int .i64 (paysK k)]
def ruleF : Lit → Option Value
  | .int .i64 k => if knK k then some (ruleVal k) else none
  | _ => none
def RulesAt (w : World) (b : Nat) : Prop := MapIs w 3 b 9 ruleF
abbrev rule0 : Value := .agg #[.bool false, .bool false, .bool false, .bool false, .int .i64 0, .int .i64 0]
theorem intKeyed : Maps.Keyed Tryd.prog 3 := Maps.int_keyed Tryd.underlying3
theorem wf64 {a : Int} (h1 : -9223372036854775808 ≤ a) (h2 : a ≤ 9223372036854775807) : (Lit.int .i64 a).wf = true := by
  unfold Lit.wf
  rw [Bool.and_eq_true, decide_eq_true_eq, decide_eq_true_eq]
  exact ⟨h1, h2⟩
theorem key_int {a : Int} (h1 : -9223372036854775808 ≤ a) (h2 : a ≤ 9223372036854775807) : keyOf Tryd.prog 3 (.int .i64 a) = some (.int .i64 a) := Maps.keyOf_int_mk Tryd.underlying3 (wf64 h1 h2)
theorem rule_unknown {k : Int} (h : knK k = false) : ruleVal k = rule0 := by
  have h1 : ¬ (1 ≤ k ∧ k ≤ 9) := by simpa [knK] using h
  have a1 : actB k = false := by rw [Bool.eq_false_iff]; intro e; rw [actB_iff] at e; omega
  have a2 : r2K k = false := by simp [r2K]; omega
  have a3 : r3K k = false := by simp [r3K]; omega
  have a4 : r4K k = false := by simp [r4K]; omega
  have a5 : kidsK k = 0 := by unfold kidsK; rw [if_neg (by omega), if_neg (by omega)]
  have a6 : paysK k = 0 := by unfold paysK; rw [if_neg (by omega)]
  unfold ruleVal rule0
  rw [a1, a2, a3, a4, a5, a6]
/-- What the rule of a kind says of a node is its shape. -/
theorem fits_shape (t : Ty) (h : knK t.k = true) : fitsB (actB t.k) (r2K t.k) (r3K t.k) (r4K t.k) (kidsK t.k) t = t.shape := by
  have hk : 1 ≤ t.k ∧ t.k ≤ 9 := by simpa [knK] using h
  have hcase : t.k = 1 ∨ t.k = 2 ∨ t.k = 3 ∨ t.k = 4 ∨ t.k = 5 ∨ t.k = 6 ∨ t.k = 7 ∨ t.k = 8 ∨ t.k = 9 := by omega
  unfold fitsB Ty.shape shapeC numB namB listsB
  rcases hcase with e | e | e | e | e | e | e | e | e <;> rw [e] <;> simp [actB, r2K, r3K, r4K, kidsK] <;> (try rw [Bool.eq_iff_iff]) <;> (try simp) <;> (try omega) <;> (try grind)
theorem shape_unknown (t : Ty) (h : knK t.k = false) : t.shape = false := by
  have h1 : ¬ (1 ≤ t.k ∧ t.k ≤ 9) := by simpa [knK] using h
  unfold Ty.shape shapeC
  rw [if_neg (by omega), if_neg (by omega), if_neg (by omega), if_neg (by omega), if_neg (by omega)]

end Go.Proofs.YtecdapihfiahiaaDoor

/- Processes as trees: a datatype for them, how they lie in memory, and that they go on lying so. -/
namespace Go.Proofs.YtecdapihfiahiaaDoor
open Go.RowKit

structure Vl where
  k : Int
  n : ByteArray
  x : Int
inductive Pr where
  | mk (k : Int) (c x : ByteArray) (ls : List ByteArray) (vs : List Vl) (t : Ty) (ps : List Pr)
instance : Inhabited Pr := ⟨.mk 0 ⟨#[]⟩ ⟨#[]⟩ [] [] default []⟩

namespace Pr
def k : Pr → Int | .mk k _ _ _ _ _ _ => k
def c : Pr → ByteArray | .mk _ c _ _ _ _ _ => c
def x : Pr → ByteArray | .mk _ _ x _ _ _ _ => x
def ls : Pr → List ByteArray | .mk _ _ _ ls _ _ _ => ls
def vs : Pr → List Vl | .mk _ _ _ _ vs _ _ => vs
def t : Pr → Ty | .mk _ _ _ _ _ t _ => t
def ps : Pr → List Pr | .mk _ _ _ _ _ _ ps => ps
end Pr

mutual
theorem Pr.ind {M : Pr → Prop} (h : ∀ k c x ls vs t ps, (∀ p ∈ ps, M p) → M (.mk k c x ls vs t ps)) : ∀ p, M p
  | .mk k c x ls vs t ps => h k c x ls vs t ps (Pr.inds h ps)
theorem Pr.inds {M : Pr → Prop} (h : ∀ k c x ls vs t ps, (∀ p ∈ ps, M p) → M (.mk k c x ls vs t ps)) : ∀ ps : List Pr, ∀ p ∈ ps, M p
  | [], _, hm => by cases hm
  | p :: r, u, hm => by
    rcases List.mem_cons.1 hm with e | hm
    · rw [e]; exact Pr.ind h p
    · exact Pr.inds h r u hm
end

/-! ### Measures -/
mutual
def Pr.size : Pr → Nat
  | .mk _ _ _ _ _ _ ps => Pr.sizes ps + 1
def Pr.sizes : List Pr → Nat
  | [] => 0
  | p :: r => p.size + Pr.sizes r
end
mutual
def Pr.depth : Pr → Nat
  | .mk _ _ _ _ _ _ ps => Pr.depths ps + 1
def Pr.depths : List Pr → Nat
  | [] => 0
  | p :: r => max p.depth (Pr.depths r)
end
theorem Pr.size_eq (p : Pr) : p.size = Pr.sizes p.ps + 1 := by cases p; simp [Pr.size, Pr.ps]
theorem Pr.depth_eq (p : Pr) : p.depth = Pr.depths p.ps + 1 := by cases p; simp [Pr.depth, Pr.ps]
theorem Pr.size_pos (p : Pr) : 1 ≤ p.size := by rw [Pr.size_eq]; omega
theorem Pr.depth_pos (p : Pr) : 1 ≤ p.depth := by rw [Pr.depth_eq]; omega
theorem Pr.sizes_append (l r : List Pr) : Pr.sizes (l ++ r) = Pr.sizes l + Pr.sizes r := by
  induction l with
  | nil => simp [Pr.sizes]
  | cons t l ih => simp only [List.cons_append, Pr.sizes, ih]; omega
theorem Pr.depths_append (l r : List Pr) : Pr.depths (l ++ r) = max (Pr.depths l) (Pr.depths r) := by
  induction l with
  | nil => simp [Pr.depths]
  | cons t l ih => simp only [List.cons_append, Pr.depths, ih]; omega
theorem Pr.sizes_take {l : List Pr} {i : Nat} {p : Pr} (h : l[i]? = some p) : Pr.sizes (l.take (i + 1)) = Pr.sizes (l.take i) + p.size := by
  rw [take_snoc_get h, Pr.sizes_append]; simp [Pr.sizes]
theorem Pr.depths_take {l : List Pr} {i : Nat} {p : Pr} (h : l[i]? = some p) : Pr.depths (l.take (i + 1)) = max (Pr.depths (l.take i)) p.depth := by
  rw [take_snoc_get h, Pr.depths_append]; simp [Pr.depths]
theorem Pr.sizes_take_le (l : List Pr) (i : Nat) : Pr.sizes (l.take i) ≤ Pr.sizes l := by
  have := Pr.sizes_append (l.take i) (l.drop i); rw [List.take_append_drop] at this; omega
theorem Pr.depths_take_le (l : List Pr) (i : Nat) : Pr.depths (l.take i) ≤ Pr.depths l := by
  have := Pr.depths_append (l.take i) (l.drop i); rw [List.take_append_drop] at this; omega
theorem Pr.depth_mem {l : List Pr} {p : Pr} (h : p ∈ l) : p.depth ≤ Pr.depths l := by
  induction l with
  | nil => cases h
  | cons u l ih =>
    simp only [Pr.depths]
    rcases List.mem_cons.1 h with rfl | h
    · omega
    · have := ih h; omega
theorem Pr.size_mem {l : List Pr} {p : Pr} (h : p ∈ l) : p.size ≤ Pr.sizes l := by
  induction l with
  | nil => cases h
  | cons u l ih =>
    simp only [Pr.sizes]
    rcases List.mem_cons.1 h with rfl | h
    · omega
    · have := ih h; omega
theorem Pr.length_sizes (l : List Pr) : l.length ≤ Pr.sizes l := by
  induction l with
  | nil => simp
  | cons u l ih => simp only [Pr.sizes, List.length_cons]; have := u.size_pos; omega
mutual
theorem Pr.depth_le_size : ∀ p : Pr, p.depth ≤ p.size
  | .mk k c x ls vs t ps => by have := Pr.depths_le_sizes ps; simp only [Pr.depth, Pr.size]; omega
theorem Pr.depths_le_sizes : ∀ ps : List Pr, Pr.depths ps ≤ Pr.sizes ps
  | [] => by simp [Pr.depths, Pr.sizes]
  | p :: r => by have := Pr.depth_le_size p; have := Pr.depths_le_sizes r; simp only [Pr.depths, Pr.sizes]; omega
end

/-! ### In memory -/
/-- A value that is a slice of values. -/
def VlRow (w : World) (b o : Nat) (vs : List Vl) : Prop := ∀ (j : Nat) (a : Vl), vs[j]? = some a → w.cell? ⟨b, o + j * 3, none⟩ = some (.int .i64 a.k) ∧ w.cell? ⟨b, o + j * 3 + 1, none⟩ = some (.string a.n) ∧ w.cell? ⟨b, o + j * 3 + 2, none⟩ = some (.int .i64 a.x)
def VlSl (B : Nat → Prop) (w : World) (v : Value) (vs : List Vl) : Prop :=
  (((∃ a c, v = .slice a 0 c) ∧ vs = []) ∨ ∃ b o c, v = .slice (some ⟨b, o, none⟩) vs.length c ∧ B b ∧ vs.length ≤ c ∧ VlRow w b o vs) ∧ vs.length ≤ maxLen ∧ ∀ a ∈ vs, a.n.size ≤ maxLen

mutual
/-- A process lies at cell o of block b. -/
def PrAt (B : Nat → Prop) (w : World) : Pr → Nat → Nat → Prop
  | .mk k c x ls vs t ps, b, o => B b ∧ (c.size ≤ maxLen ∧ x.size ≤ maxLen) ∧
      (w.cell? ⟨b, o, none⟩ = some (.int .i64 k) ∧ w.cell? ⟨b, o + 1, none⟩ = some (.string c) ∧ w.cell? ⟨b, o + 2, none⟩ = some (.string x)) ∧
      TyAt B w t b (o + 5) ∧
      ∃ lv av kv, w.cell? ⟨b, o + 3, none⟩ = some lv ∧ w.cell? ⟨b, o + 4, none⟩ = some av ∧ w.cell? ⟨b, o + 11, none⟩ = some kv ∧ StrSl B w lv ls ∧ VlSl B w av vs ∧
        (((∃ a c, kv = .slice a 0 c) ∧ ps = []) ∨ ∃ kb ko c, kv = .slice (some ⟨kb, ko, none⟩) ps.length c ∧ B kb ∧ PrsAt B w ps kb ko) ∧ ps.length ≤ maxLen
/-- Processes lie one behind the other from cell o of block b on. -/
def PrsAt (B : Nat → Prop) (w : World) : List Pr → Nat → Nat → Prop
  | [], _, _ => True
  | p :: r, b, o => PrAt B w p b o ∧ PrsAt B w r b (o + 12)
end
/-- A value that is a slice of processes. -/
def PrSl (B : Nat → Prop) (w : World) (kv : Value) (ps : List Pr) : Prop :=
  (((∃ a c, kv = .slice a 0 c) ∧ ps = []) ∨ ∃ kb ko c, kv = .slice (some ⟨kb, ko, none⟩) ps.length c ∧ B kb ∧ PrsAt B w ps kb ko) ∧ ps.length ≤ maxLen
/-- The twelve cells of a process. -/
abbrev prAgg (p : Pr) (lv av tl tk kv : Value) : Value := .agg #[.int .i64 p.k, .string p.c, .string p.x, lv, av, .int .i64 p.t.k, .int .i64 p.t.p, .string p.t.n, .int .i64 p.t.s, tl, tk, kv]
/-- A value that is a process. -/
def PrVal (B : Nat → Prop) (w : World) (v : Value) (p : Pr) : Prop :=
  ∃ lv av tl tk kv, v = prAgg p lv av tl tk kv ∧ (p.c.size ≤ maxLen ∧ p.x.size ≤ maxLen) ∧ StrSl B w lv p.ls ∧ VlSl B w av p.vs ∧ TyVal B w (.agg #[.int .i64 p.t.k, .int .i64 p.t.p, .string p.t.n, .int .i64 p.t.s, tl, tk]) p.t ∧ PrSl B w kv p.ps

theorem PrAt.eq {B : Nat → Prop} {w : World} {p : Pr} {b o : Nat} : PrAt B w p b o ↔ B b ∧ (p.c.size ≤ maxLen ∧ p.x.size ≤ maxLen) ∧
      (w.cell? ⟨b, o, none⟩ = some (.int .i64 p.k) ∧ w.cell? ⟨b, o + 1, none⟩ = some (.string p.c) ∧ w.cell? ⟨b, o + 2, none⟩ = some (.string p.x)) ∧
      TyAt B w p.t b (o + 5) ∧
      ∃ lv av kv, w.cell? ⟨b, o + 3, none⟩ = some lv ∧ w.cell? ⟨b, o + 4, none⟩ = some av ∧ w.cell? ⟨b, o + 11, none⟩ = some kv ∧ StrSl B w lv p.ls ∧ VlSl B w av p.vs ∧ PrSl B w kv p.ps := by
  cases p; simp only [PrAt, PrSl, Pr.k, Pr.c, Pr.x, Pr.t, Pr.ls, Pr.vs, Pr.ps]

theorem VlSl.keep {B : Nat → Prop} {w w' : World} (h : Keeps B w w') {v : Value} {vs : List Vl} (hv : VlSl B w v vs) : VlSl B w' v vs := by
  refine ⟨?_, hv.2⟩
  rcases hv.1 with h1 | ⟨b, o, c, h1, h2, hc, h3⟩
  · exact .inl h1
  · exact .inr ⟨b, o, c, h1, h2, hc, fun j a hj => ⟨h.cell h2 (h3 j a hj).1, h.cell h2 (h3 j a hj).2.1, h.cell h2 (h3 j a hj).2.2⟩⟩
theorem VlSl.mono {B C : Nat → Prop} {w : World} (h : ∀ k, B k → C k) {v : Value} {vs : List Vl} (hv : VlSl B w v vs) : VlSl C w v vs := by
  refine ⟨?_, hv.2⟩
  rcases hv.1 with h1 | ⟨b, o, c, h1, h2, hc, h3⟩
  · exact .inl h1
  · exact .inr ⟨b, o, c, h1, h _ h2, hc, h3⟩
mutual
theorem PrAt.keep {B : Nat → Prop} {w w' : World} (h : Keeps B w w') : ∀ (p : Pr) (b o : Nat), PrAt B w p b o → PrAt B w' p b o
  | .mk k c x ls vs t ps, b, o, hp => by
    simp only [PrAt] at hp ⊢
    obtain ⟨hb, hn, ⟨c0, c1, c2⟩, ht, lv, av, kv, c3, c4, c11, hl, ha, hk, hm⟩ := hp
    refine ⟨hb, hn, ⟨h.cell hb c0, h.cell hb c1, h.cell hb c2⟩, ht.keep h, lv, av, kv, h.cell hb c3, h.cell hb c4, h.cell hb c11, hl.keep h, ha.keep h, ?_, hm⟩
    rcases hk with h1 | ⟨kb, ko, c, h1, h2, h3⟩
    · exact .inl h1
    · exact .inr ⟨kb, ko, c, h1, h2, PrsAt.keep h ps kb ko h3⟩
theorem PrsAt.keep {B : Nat → Prop} {w w' : World} (h : Keeps B w w') : ∀ (ps : List Pr) (b o : Nat), PrsAt B w ps b o → PrsAt B w' ps b o
  | [], _, _, _ => by simp [PrsAt]
  | p :: r, b, o, hp => by
    simp only [PrsAt] at hp ⊢
    exact ⟨PrAt.keep h p b o hp.1, PrsAt.keep h r b (o + 12) hp.2⟩
end
theorem PrSl.keep {B : Nat → Prop} {w w' : World} (h : Keeps B w w') {v : Value} {ps : List Pr} (hv : PrSl B w v ps) : PrSl B w' v ps := by
  refine ⟨?_, hv.2⟩
  rcases hv.1 with h1 | ⟨b, o, c, h1, h2, h3⟩
  · exact .inl h1
  · exact .inr ⟨b, o, c, h1, h2, PrsAt.keep h _ _ _ h3⟩
theorem PrVal.keep {B : Nat → Prop} {w w' : World} (h : Keeps B w w') {v : Value} {p : Pr} (hv : PrVal B w v p) : PrVal B w' v p := by
  obtain ⟨lv, av, tl, tk, kv, e, hn, hl, ha, ht, hk⟩ := hv
  exact ⟨lv, av, tl, tk, kv, e, hn, hl.keep h, ha.keep h, ht.keep h, hk.keep h⟩
mutual
theorem PrAt.mono {B C : Nat → Prop} {w : World} (h : ∀ k, B k → C k) : ∀ (p : Pr) (b o : Nat), PrAt B w p b o → PrAt C w p b o
  | .mk k c x ls vs t ps, b, o, hp => by
    simp only [PrAt] at hp ⊢
    obtain ⟨hb, hn, hc, ht, lv, av, kv, c3, c4, c11, hl, ha, hk, hm⟩ := hp
    refine ⟨h _ hb, hn, hc, ht.mono h, lv, av, kv, c3, c4, c11, hl.mono h, ha.mono h, ?_, hm⟩
    rcases hk with h1 | ⟨kb, ko, c, h1, h2, h3⟩
    · exact .inl h1
    · exact .inr ⟨kb, ko, c, h1, h _ h2, PrsAt.mono h ps kb ko h3⟩
theorem PrsAt.mono {B C : Nat → Prop} {w : World} (h : ∀ k, B k → C k) : ∀ (ps : List Pr) (b o : Nat), PrsAt B w ps b o → PrsAt C w ps b o
  | [], _, _, _ => by simp [PrsAt]
  | p :: r, b, o, hp => by
    simp only [PrsAt] at hp ⊢
    exact ⟨PrAt.mono h p b o hp.1, PrsAt.mono h r b (o + 12) hp.2⟩
end
theorem PrSl.mono {B C : Nat → Prop} {w : World} (h : ∀ k, B k → C k) {v : Value} {ps : List Pr} (hv : PrSl B w v ps) : PrSl C w v ps := by
  refine ⟨?_, hv.2⟩
  rcases hv.1 with h1 | ⟨b, o, c, h1, h2, h3⟩
  · exact .inl h1
  · exact .inr ⟨b, o, c, h1, h _ h2, PrsAt.mono h _ _ _ h3⟩
theorem PrVal.mono {B C : Nat → Prop} {w : World} (h : ∀ k, B k → C k) {v : Value} {p : Pr} (hv : PrVal B w v p) : PrVal C w v p := by
  obtain ⟨lv, av, tl, tk, kv, e, hn, hl, ha, ht, hk⟩ := hv
  exact ⟨lv, av, tl, tk, kv, e, hn, hl.mono h, ha.mono h, ht.mono h, hk.mono h⟩
theorem PrVal.to {B : Nat → Prop} {C : Nat} {w w' : World} (hBC : ∀ k, B k → k < C) (hb : Below C w w') {v : Value} {p : Pr} (hv : PrVal B w v p) : PrVal B w' v p := hv.keep (hb.keeps'.mono hBC)

theorem PrsAt.get {B : Nat → Prop} {w : World} : ∀ {ps : List Pr} {b o : Nat}, PrsAt B w ps b o → ∀ {i : Nat} {p : Pr}, ps[i]? = some p → PrAt B w p b (o + i * 12)
  | [], _, _, _, i, p, hi => by simp at hi
  | u :: r, b, o, h, i, p, hi => by
    simp only [PrsAt] at h
    cases i with
    | zero => simp at hi; subst hi; simpa using h.1
    | succ i =>
      have := PrsAt.get h.2 (i := i) (p := p) (by simpa using hi)
      rw [show o + (i + 1) * 12 = o + 12 + i * 12 by omega]; exact this
theorem prsAt_of {B : Nat → Prop} {w : World} : ∀ {ps : List Pr} {b o : Nat}, (∀ i p, ps[i]? = some p → PrAt B w p b (o + i * 12)) → PrsAt B w ps b o
  | [], _, _, _ => by simp [PrsAt]
  | p :: r, b, o, h => by
    simp only [PrsAt]
    refine ⟨by simpa using h 0 p rfl, prsAt_of (fun i u hi => ?_)⟩
    have := h (i + 1) u (by simpa using hi)
    rw [show o + 12 + i * 12 = o + (i + 1) * 12 by omega]; exact this
theorem PrSl.open {B : Nat → Prop} {w : World} {kv : Value} {ps : List Pr} (h : PrSl B w kv ps) :
    ∃ pa len c, kv = .slice pa len c ∧ Hid (len = ps.length) ∧ len ≤ 9223372036854775807 ∧ ∀ i p, ps[i]? = some p → ∃ kb ko, pa = some ⟨kb, ko, none⟩ ∧ B kb ∧ PrAt B w p kb (ko + i * 12) := by
  obtain ⟨h, hm⟩ := h
  unfold maxLen at hm
  rcases h with ⟨⟨a, c, rfl⟩, rfl⟩ | ⟨kb, ko, c, rfl, hkb, hrow⟩
  · exact ⟨a, 0, c, rfl, Lib.hid rfl, by omega, fun i t hi => by simp at hi⟩
  · exact ⟨_, _, _, rfl, Lib.hid rfl, by omega, fun i t hi => ⟨kb, ko, rfl, hkb, hrow.get hi⟩⟩
theorem VlSl.open {B : Nat → Prop} {w : World} {v : Value} {vs : List Vl} (h : VlSl B w v vs) :
    ∃ pa len c, v = .slice pa len c ∧ Hid (len = vs.length) ∧ len ≤ 9223372036854775807 ∧ ∀ i a, vs[i]? = some a → a.n.size ≤ maxLen ∧ ∃ kb ko, pa = some ⟨kb, ko, none⟩ ∧ B kb ∧ w.cell? ⟨kb, ko + i * 3, none⟩ = some (.int .i64 a.k) ∧ w.cell? ⟨kb, ko + i * 3 + 1, none⟩ = some (.string a.n) ∧ w.cell? ⟨kb, ko + i * 3 + 2, none⟩ = some (.int .i64 a.x) := by
  obtain ⟨h, hm, hz⟩ := h
  unfold maxLen at hm
  rcases h with ⟨⟨a, c, rfl⟩, rfl⟩ | ⟨b, o, c, rfl, hb, _, hrow⟩
  · exact ⟨a, 0, c, rfl, Lib.hid rfl, by omega, fun i t hi => by simp at hi⟩
  · exact ⟨_, _, _, rfl, Lib.hid rfl, by omega, fun i a hi => ⟨hz _ (List.mem_of_getElem? hi), b, o, rfl, hb, hrow i a hi⟩⟩
/-- The cells of a process, all slices written out, and the value that is loaded. -/
theorem PrAt.load' {B : Nat → Prop} {w : World} {p : Pr} {b o : Nat} (h : PrAt B w p b o) :
    ∃ (la : Option Addr) (ln lc : Nat) (aa : Option Addr) (an ac : Nat) (ta : Option Addr) (tn tc : Nat) (ua : Option Addr) (un uc : Nat) (ka : Option Addr) (kn kc : Nat),
      (w.cell? ⟨b, o, none⟩ = some (.int .i64 p.k) ∧ w.cell? ⟨b, o + 1, none⟩ = some (.string p.c) ∧ w.cell? ⟨b, o + 2, none⟩ = some (.string p.x) ∧ w.cell? ⟨b, o + 3, none⟩ = some (.slice la ln lc) ∧ w.cell? ⟨b, o + 4, none⟩ = some (.slice aa an ac) ∧
       w.cell? ⟨b, o + 5, none⟩ = some (.int .i64 p.t.k) ∧ w.cell? ⟨b, o + 6, none⟩ = some (.int .i64 p.t.p) ∧ w.cell? ⟨b, o + 7, none⟩ = some (.string p.t.n) ∧ w.cell? ⟨b, o + 8, none⟩ = some (.int .i64 p.t.s) ∧
       w.cell? ⟨b, o + 9, none⟩ = some (.slice ta tn tc) ∧ w.cell? ⟨b, o + 10, none⟩ = some (.slice ua un uc) ∧ w.cell? ⟨b, o + 11, none⟩ = some (.slice ka kn kc)) ∧
      PrVal B w (prAgg p (.slice la ln lc) (.slice aa an ac) (.slice ta tn tc) (.slice ua un uc) (.slice ka kn kc)) p := by
  obtain ⟨hb, hn, ⟨c0, c1, c2⟩, ht, lv, av, kv, c3, c4, c11, hl, ha, hk⟩ := PrAt.eq.1 h
  obtain ⟨ta, tn, tc, ua, un, uc, ⟨d0, d1, d2, d3, d4, d5⟩, htv⟩ := ht.load'
  obtain ⟨la, ln, lc, rfl, _⟩ := hl.open
  obtain ⟨aa, an, ac, rfl, _⟩ := ha.open
  obtain ⟨ka, kn, kc, rfl, _⟩ := hk.open
  exact ⟨la, ln, lc, aa, an, ac, ta, tn, tc, ua, un, uc, ka, kn, kc, ⟨c0, c1, c2, c3, c4, d0, d1, d2, d3, d4, d5, c11⟩, _, _, _, _, _, rfl, hn, hl, ha, htv, hk⟩
/-- A process from its cells. -/
theorem prAt_of {B : Nat → Prop} {w : World} {p : Pr} {b o : Nat} {lv av tl tk kv : Value} (hb : B b)
    (c0 : w.cell? ⟨b, o, none⟩ = some (.int .i64 p.k)) (c1 : w.cell? ⟨b, o + 1, none⟩ = some (.string p.c)) (c2 : w.cell? ⟨b, o + 2, none⟩ = some (.string p.x)) (c3 : w.cell? ⟨b, o + 3, none⟩ = some lv) (c4 : w.cell? ⟨b, o + 4, none⟩ = some av)
    (c5 : w.cell? ⟨b, o + 5, none⟩ = some (.int .i64 p.t.k)) (c6 : w.cell? ⟨b, o + 6, none⟩ = some (.int .i64 p.t.p)) (c7 : w.cell? ⟨b, o + 7, none⟩ = some (.string p.t.n)) (c8 : w.cell? ⟨b, o + 8, none⟩ = some (.int .i64 p.t.s))
    (c9 : w.cell? ⟨b, o + 9, none⟩ = some tl) (c10 : w.cell? ⟨b, o + 10, none⟩ = some tk) (c11 : w.cell? ⟨b, o + 11, none⟩ = some kv) (hv : PrVal B w (prAgg p lv av tl tk kv) p) : PrAt B w p b o := by
  obtain ⟨lv', av', tl', tk', kv', e, hn, hl, ha, ht, hk⟩ := hv
  simp only [prAgg, Value.agg.injEq, Array.mk.injEq, List.cons.injEq, and_true, true_and] at e
  obtain ⟨rfl, rfl, rfl, rfl, rfl⟩ := e
  exact PrAt.eq.2 ⟨hb, hn, ⟨c0, c1, c2⟩, tyAt_of hb c5 c6 c7 c8 c9 c10 ht, _, _, _, c3, c4, c11, hl, ha, hk⟩

end Go.Proofs.YtecdapihfiahiaaDoor

/- Processes: the iterator over the nodes. -/
namespace Go.Proofs.YtecdapihfiahiaaDoor
open Go.RowKit Go.Deep Go.Shelf
attribute [local go_sem] Oper.semAt_some

/-- What a round is handed: the depth, the node. -/
structure Np where
  d : Nat
  b : Nat
  o : Nat
  p : Pr
abbrev npArgs (x : Np) : Array Value := #[.int .i64 x.d, .pointer (some ⟨x.b, x.o, none⟩)]
def Np.g (x : Np) : Nat × Pr := (x.d, x.p)
mutual
/-- All nodes, each before its Kids, with its depth. -/
def preP (d : Nat) : Pr → List (Nat × Pr)
  | .mk k c x ls vs t ps => (d, .mk k c x ls vs t ps) :: prePs (d + 1) ps
def prePs (d : Nat) : List Pr → List (Nat × Pr)
  | [] => []
  | p :: r => preP d p ++ prePs d r
end
theorem preP_eq (d : Nat) (p : Pr) : preP d p = (d, p) :: prePs (d + 1) p.ps := by cases p; simp [preP, Pr.ps]
theorem prePs_append (d : Nat) : ∀ (l r : List Pr), prePs d (l ++ r) = prePs d l ++ prePs d r
  | [], r => by simp [prePs]
  | p :: l, r => by simp only [List.cons_append, prePs, prePs_append d l r, List.append_assoc]
theorem prePs_take {d : Nat} {l : List Pr} {j : Nat} {p : Pr} (h : l[j]? = some p) : prePs d (l.take (j + 1)) = prePs d (l.take j) ++ preP d p := by
  rw [take_snoc_get h, prePs_append]
  simp [prePs]
theorem prePs_prefix (d : Nat) (l : List Pr) (j : Nat) : prePs d (l.take j) <+: prePs d l := by
  conv => rhs; rw [← List.take_append_drop j l, prePs_append]
  exact List.prefix_append _ _

/-- What holds in memory at a round. -/
def Pp (S : Nat → Prop) (G : Pr → Prop) (x : Np) (W : World) : Prop := PrAt S W x.p x.b x.o ∧ (1 ≤ x.d ∧ x.d ≤ 100000) ∧ G x.p
theorem Pp.kept {S : Nat → Prop} {G : Pr → Prop} {x : Np} {W W' : World} (h : CellsKept W W') (hp : Pp S G x W) : Pp S G x W' := ⟨hp.1.keep (h.keeps S), hp.2⟩
/-- What is returned by visit. -/
def PisPost (X : Nat → Prop) (J Jx : List Np → World → Prop) (pre : List Np) (d : Nat) (p : Pr) (W : World) (e : Ending) (W' : World) : Prop :=
  (e = .returned (.bool true) ∧ (∃ ys, ys.map Np.g = preP d p ∧ J (pre ++ ys) W') ∧ Kp X W W') ∨
  (e = .returned (.bool false) ∧ ∃ ys, ys.map Np.g <+: preP d p ∧ Jx (pre ++ ys) W')

end Go.Proofs.YtecdapihfiahiaaDoor
