/- Types: the reference's walk at a TRec. (and what follows from it) -/
import Derived.Test.YtliijbcgkkiekaaGreatDoorPz1
import Derived.Deep.RegionHeld3
import Derived.Deep.RegionHeldLaw
import Derived.Deep.AppendLies
import Derived.Maps.OwnSet
import Derived.Maps.OwnOps

/- Types: the reference's walk at a TRec. -/
namespace Go.Proofs.YtliijbcgkkiekaaGreatDoor
open Go.RowKit

theorem strInfo' : (Tryz.prog.info? 9).map (fun i => (i.zero, i.size, i.bytes)) = some (some (.string ⟨#[]⟩), 1, 16) := by kernel_rfl

theorem fresh_row (w0 : World) (base : Nat) (h : base ≤ w0.heap.size) : (w0.alloc (.cells #[] 9)).ownsRow base 9 1 (.slice (some ⟨w0.heap.size, 0, none⟩) 0 0) 0 [] :=
  ⟨rfl, .inr ⟨w0.heap.size, 0, #[], rfl, h, heap_alloc_new w0 _, Nat.le_refl _, by unfold maxLen; omega, rfl, rfl⟩⟩

theorem strSl_of_row {w : World} {base g n cap : Nat} {ls : List ByteArray} (h : w.ownsRow base 9 1 (.slice (some ⟨g, 0, none⟩) n cap) n (ls.map .string)) (hn : n ≤ 1000000) (hs : ∀ s ∈ ls, s.size ≤ maxLen) : StrSl (fun k => k < w.heap.size) w (.slice (some ⟨g, 0, none⟩) n cap) ls := by
  have hl := h.1
  simp only [List.length_map, Nat.mul_one] at hl
  subst hl
  rcases h.2 with ⟨h, _⟩ | ⟨g', cap', cur, hv, hb, hg, hnc, hcm, hcs, htake⟩
  · cases h
  · simp only [Value.slice.injEq, Option.some.injEq, Addr.mk.injEq, and_true, true_and] at hv
    obtain ⟨rfl, rfl⟩ := hv
    have hlt : g < w.heap.size := by
      rcases Nat.lt_or_ge g w.heap.size with hlt | hge
      · exact hlt
      · rw [Array.getElem?_eq_none hge] at hg; cases hg
    refine ⟨.inr ⟨g, 0, cap, rfl, hlt, hnc, fun j s hj => ?_⟩, by unfold maxLen; omega, hs⟩
    rw [Nat.zero_add, cell_of_row w g j cur 9 (0, 0) hg]
    have e : (ls.map Value.string)[j]? = some (.string s) := by rw [List.getElem?_map, hj]; rfl
    rw [← htake, Nat.mul_one, List.getElem?_take] at e
    split at e
    · simpa using e
    · cases e

theorem fresh_row' (w0 : World) (base b : Nat) (hb : b = w0.heap.size) (h : base ≤ w0.heap.size) : (w0.alloc (.cells #[] 9)).ownsRow base 9 1 (.slice (some ⟨b, 0, none⟩) 0 0) 0 [] := by
  subst hb; exact fresh_row w0 base h

theorem run_append_empty (base : Nat) (ty : TypeId) (b0 c0 n0 : Nat) (xs : List Value) (w : World) (hown : w.ownsRow base 9 1 (.slice (some ⟨b0, 0, none⟩) n0 c0) n0 xs) (a : Option Addr) (c : Nat) :
    (Builtin.append_ #[22, 22] ty #[.slice (some ⟨b0, 0, none⟩) n0 c0, .slice a 0 c]).run Tryz.prog w = .ok (.slice (some ⟨b0, 0, none⟩) n0 c0) w := by
  obtain ⟨i0, hi, hz0, hz1, hz2⟩ := info_parts strInfo'
  have ht := Tryz.underlying22
  rcases hown.2 with ⟨e, _⟩ | ⟨g, cap, cur, e, _, _, hnc, _⟩
  · cases e
  · simp only [Value.slice.injEq] at e
    obtain ⟨_, _, rfl⟩ := e
    cases a with
    | none => simp [Builtin.append_, run_underlying ht, sizeOf, typeInfo, hi, Builtin.lenOf, Builtin.firstCells, hnc, storeCells]
    | some ad => simp [Builtin.append_, run_underlying ht, sizeOf, typeInfo, hi, Builtin.lenOf, Builtin.firstCells, hnc, storeCells, loadCells, loadCellsFrom]

/-- append of a list of texts to a row of one's own. -/
theorem run_append_strs (base : Nat) (ty : TypeId) (b0 c0 n0 : Nat) (xs : List Value) (w : World) (hown : w.ownsRow base 9 1 (.slice (some ⟨b0, 0, none⟩) n0 c0) n0 xs) (B : Nat → Prop) (na : Option Addr) (nn nc : Nat) (names : List ByteArray) (hnv : StrSl B w (.slice na nn nc) names) (h63 : n0 + nn ≤ 1000000) (hbase : base ≤ w.heap.size) :
    ∃ g cap w', (Builtin.append_ #[22, 22] ty #[.slice (some ⟨b0, 0, none⟩) n0 c0, .slice na nn nc]).run Tryz.prog w = .ok (.slice (some ⟨g, 0, none⟩) (n0 + nn) cap) w' ∧ w'.ownsRow base 9 1 (.slice (some ⟨g, 0, none⟩) (n0 + nn) cap) (n0 + nn) (xs ++ names.map .string) ∧ w.grownBy w' (some b0) := by
  obtain ⟨i0, hi, hz0, hz1, hz2⟩ := info_parts strInfo'
  rcases hnv.1 with ⟨⟨a, c, e⟩, rfl⟩ | ⟨b, o, c, e, _, _, hrow⟩
  · cases e
    refine ⟨b0, c0, w, run_append_empty base ty b0 c0 n0 xs w hown na nc, by simpa using hown, ⟨rfl, rfl, rfl, Nat.le_refl _, fun _ _ _ => rfl⟩⟩
  · cases e
    obtain ⟨v', w', hr, h2, h3, h4, _⟩ := run_append_own_at (P := Tryz.prog) w base 22 ty 9 i0 _ 1 16 Tryz.underlying22 hi hz0 hz1 hz2 rfl (by decide) _ _ xs hown ⟨b, o, none⟩ names.length nc (names.map .string) (by simp) (fun j u hj => by
      rw [List.getElem?_map] at hj
      cases hx : names[j]? with
      | none => simp [hx] at hj
      | some x => simp [hx] at hj; subst hj; have hc := hrow j x hx; cases j with | zero => simpa [Addr.add] using hc | succ j => simpa [Addr.add] using hc) (fun u hu => by
      obtain ⟨x, _, rfl⟩ := List.mem_map.1 hu; rfl) (by unfold maxLen; omega) (by omega) hbase
    rcases h2.2 with ⟨rfl, h0⟩ | ⟨g, cap, cur, rfl, r⟩
    · have := h4.1 rfl
      cases this.1
    · exact ⟨g, cap, w', hr, h2, h3⟩

theorem step_append_strs {ops : Array Oper} {o : Oper} {a : Act} {w : World} {K : Act → World → Prop} {Q : Exit → Act → World → Prop} {E : Prop} (hgd : o.guard = none) (s x : Operand)
    (ho : o.op = .call { callee := .builtin .append, args := #[s, x], argTypes := #[22, 22] })
    (base b0 c0 n0 : Nat) (xs : List Value) (hs : a.eval s = .slice (some ⟨b0, 0, none⟩) n0 c0) (hown : w.ownsRow base 9 1 (.slice (some ⟨b0, 0, none⟩) n0 c0) n0 xs)
    (B : Nat → Prop) (na : Option Addr) (nn nc : Nat) (names : List ByteArray) (hx : a.eval x = .slice na nn nc) (hnv : StrSl B w (.slice na nn nc) names) (h63 : n0 + nn ≤ 1000000) (m : Nat) (zs : List Value) (hm : n0 + nn = m) (hz : xs ++ names.map .string = zs) (hbase : base ≤ w.heap.size)
    (h : ∀ g cap w', w'.ownsRow base 9 1 (.slice (some ⟨g, 0, none⟩) m cap) m zs → w.grownBy w' (some b0) → K (a.put o.dst (.slice (some ⟨g, 0, none⟩) m cap)) w') :
    if Region.wanted o (yielded ops a.tmps) = true then Oper.wp Tryz.prog o a w K Q else E := by
  subst hm hz
  have hw : Region.wanted o (yielded ops a.tmps) = true := by simp [Region.wanted, hgd]
  rw [if_pos hw]
  obtain ⟨g, cap, w', hr, h2, h3⟩ := run_append_strs base o.type b0 c0 n0 xs w hown B na nn nc names hnv h63 hbase
  unfold Oper.wp execOp
  simp only [ho, resolve, invoke, builtin, Sem.run_bind, Sem.run_pure, Result.andThen_ok, List.map_toArray, List.map_cons, List.map_nil, hs, hx, hr]
  exact h g cap w' h2 h3

theorem own_block {W : World} {base : Nat} {e : TypeId} {size : Nat} {g n cap : Nat} {xs : List Value} (h : W.ownsRow base e size (.slice (some ⟨g, 0, none⟩) n cap) n xs) : base ≤ g ∧ g < W.heap.size := by
  rcases h.2 with ⟨h, _⟩ | ⟨g', cap', cur, hv, hb, hg, _⟩
  · cases h
  · simp only [Value.slice.injEq, Option.some.injEq, Addr.mk.injEq, and_true, true_and] at hv
    obtain ⟨rfl, _⟩ := hv
    refine ⟨hb, ?_⟩
    rcases Nat.lt_or_ge g W.heap.size with hlt | hge
    · exact hlt
    · rw [Array.getElem?_eq_none hge] at hg; cases hg
theorem strSl_one {W : World} {b : Nat} {n : ByteArray} (h : W.cell? ⟨b, 0, none⟩ = some (.string n)) (hn : n.size ≤ maxLen) : StrSl (fun _ => True) W (.slice (some ⟨b, 0, none⟩) 1 1) [n] :=
  ⟨.inr ⟨b, 0, 1, rfl, trivial, Nat.le_refl _, fun j s hj => by
    cases j with
    | zero => simp at hj; subst hj; exact h
    | succ j => simp at hj⟩, by simp [maxLen], fun s hs => by simp at hs; subst hs; exact hn⟩
theorem kidsR_one (names : List ByteArray) (g : Nat) (t : Ty) : kidsR names g true 0 [t] = nodeR names g true t := by
  simp only [kidsR, Bool.true_or]
  split
  · next h => exact h.symm
  · rfl

set_option maxHeartbeats 4000000 in
set_option maxRecDepth 100000 in
theorem rnode_rec (B : Nat → Prop) (k p s : Int) (n : ByteArray) (lv kv nv : Value) (names : List ByteArray) (g : Nat) (se : Bool) (ls : List ByteArray) (ts : List Ty) (hn : n.size ≤ maxLen) (w : World) (hB : Low B w) (hl : StrSl B w lv ls) (hkv : TySl B w kv ts) (hnv : StrSl B w nv names)
    (ih : ∀ t ∈ ts, NodeAt t) (hd : names.length + Ty.depths ts < 1000) (hk : k = 8) (hs : shapeC k p s n ls ts.length = true) :
    Calls Tryz.prog 69 #[.agg #[.int .i64 k, .int .i64 p, .string n, .int .i64 s, lv, kv], nv, .int .i64 g, .bool se] w fun e w' => e = .returned (.int .i64 (kidsR (names ++ [n]) g true 0 ts)) ∧ Below w.heap.size w w' := by
  subst hk
  have hS : ∀ W, Below w.heap.size w W → Calls Tryz.prog 93 #[.agg #[.int .i64 8, .int .i64 p, .string n, .int .i64 s, lv, kv]] W fun e w' => e = .returned (.bool true) ∧ Below W.heap.size W w' := fun W hW => by
    rw [← hs]; exact rshape_any B 8 p s n lv kv ls ts hn W (hB.le hW.size) (hl.keep (hW.keeps'.mono hB)) (hkv.keep (hW.keeps'.mono hB))
  have HS := Lib.hid hS
  have hone : ts.length = 1 := by
    rw [shapeC, if_neg (by omega), if_neg (by omega), if_neg (by omega), if_pos rfl] at hs; simp at hs; exact hs.2.2.2.2
  obtain ⟨t, rfl⟩ : ∃ t, ts = [t] := by
    match ts, hone with
    | [t], _ => exact ⟨t, rfl⟩
  obtain ⟨pa, len, c, rfl, hlen, hm, hget⟩ := hkv.open
  obtain ⟨la, ln, lc, rfl, hlln, hlm, hlget⟩ := hl.open
  have HN := Lib.hid (rsess_is 8 p s n (.slice la ln lc) (.slice pa len c) true rfl)
  have hlen1 : len = 1 := hlen.out
  subst hlen1
  obtain ⟨kb, ko, rfl, hkb, hty⟩ := hget 0 t rfl
  obtain ⟨la1, ln1, lc1, ka1, kn1, kc1, ⟨d0, d1, d2, d3, d4, d5⟩, hval⟩ := hty.load'
  have HNV := Lib.hid hnv
  obtain ⟨na, nn, nc, rfl, hnln, hnm, hnget⟩ := hnv.open
  simp only [Nat.zero_mul, Nat.add_zero] at d0 d1 d2 d3 d4 d5
  have IH := Lib.hid (ih t (by simp))
  have HD := Lib.hid hd
  clear hget hlget hl hkv hS hlln hs hnget hnv hlen hone ih hd
  have HNS := Lib.hid hn
  clear hn
  cases se
  all_goals
    go_enter Tryz.func69, Tryz.ntmps69
    go_wp2_with (first | (go_at_call 93; refine (HS.out _ (blkBelow w _ _)).mono ?_; rintro e w2 ⟨rfl, hb2⟩; obtain ⟨hcl, hfz⟩ := bcell hb2) | (go_at_call 84; refine (HN.out _).mono ?_; rintro e w3 ⟨rfl, hb3⟩; obtain ⟨hcl3, hfz3⟩ := bcell (below_seq hb2 hb3)))
    clear HS HN hcl hfz
    try clear hcl3 hfz3
    obtain ⟨W2, hW2, hbw⟩ : ∃ W2, W2 = (by first | exact w3 | exact w2) ∧ Below (w.heap.size + 1) (box1 w 8 p n s (.slice la ln lc) (.slice (some ⟨kb, ko, none⟩) 1 c)) W2 := ⟨_, rfl, by unfold box1; first | (simpa using below_seq hb2 hb3) | (simpa using hb2)⟩
    rw [← hW2]
    clear hW2 hb2
    try clear hb3
    have hkw := hB kb hkb
    have cells : ∀ W, Below (w.heap.size + 1) (box1 w 8 p n s (.slice la ln lc) (.slice (some ⟨kb, ko, none⟩) 1 c)) W → (W.cell? ⟨w.heap.size, 5, none⟩ = some (.slice (some ⟨kb, ko, none⟩) 1 c) ∧ W.cell? ⟨w.heap.size, 2, none⟩ = some (.string n) ∧ W.cell? ⟨kb, ko, none⟩ = some (.int .i64 t.k) ∧ W.cell? ⟨kb, ko + 1, none⟩ = some (.int .i64 t.p) ∧ W.cell? ⟨kb, ko + 2, none⟩ = some (.string t.n) ∧ W.cell? ⟨kb, ko + 3, none⟩ = some (.int .i64 t.s) ∧ W.cell? ⟨kb, ko + 4, none⟩ = some (.slice la1 ln1 lc1) ∧ W.cell? ⟨kb, ko + 5, none⟩ = some (.slice ka1 kn1 kc1)) ∧ Hid (Below (w.heap.size + 1) (box1 w 8 p n s (.slice la ln lc) (.slice (some ⟨kb, ko, none⟩) 1 c)) W) := fun W hW =>
      ⟨⟨blk_cell hW 5 rfl, blk_cell hW 2 rfl, ((blk_below hW).cell (p := ⟨kb, _, none⟩) hkw).trans d0, ((blk_below hW).cell (p := ⟨kb, _, none⟩) hkw).trans d1, ((blk_below hW).cell (p := ⟨kb, _, none⟩) hkw).trans d2, ((blk_below hW).cell (p := ⟨kb, _, none⟩) hkw).trans d3, ((blk_below hW).cell (p := ⟨kb, _, none⟩) hkw).trans d4, ((blk_below hW).cell (p := ⟨kb, _, none⟩) hkw).trans d5⟩, Lib.hid hW⟩
    obtain ⟨⟨f5, f2, g0, g1, g2, g3, g4, g5⟩, HB⟩ := cells W2 hbw
    have CE := Lib.hid cells
    have hsz2 : w.heap.size + 1 ≤ W2.heap.size := by have := hbw.size; rwa [box1_size] at this
    clear cells d0 d1 d2 d3 d4 d5 hbw
    have HNK : Hid (∀ W, Below (w.heap.size + 1) (box1 w 8 p n s (.slice la ln lc) (.slice (some ⟨kb, ko, none⟩) 1 c)) W → StrSl B W (.slice na nn nc) names) := Lib.hid (fun W hW => HNV.out.keep ((blk_below hW).keeps'.mono hB))
    have hnn : 0 + nn ≤ 1000000 := by have := HD.out; have := hnln.out; omega
    have hnn1 : nn + 1 ≤ 1000000 := by have := HD.out; have := hnln.out; omega
    have HC : Hid (∀ (W6 : World) (g2 cap2 : Nat), Below (w.heap.size + 1) (box1 w 8 p n s (.slice la ln lc) (.slice (some ⟨kb, ko, none⟩) 1 c)) W6 → W6.ownsRow (w.heap.size + 1) 9 1 (.slice (some ⟨g2, 0, none⟩) (nn + 1) cap2) (nn + 1) ((names ++ [n]).map .string) →
        Calls Tryz.prog 69 #[.agg #[.int .i64 t.k, .int .i64 t.p, .string t.n, .int .i64 t.s, .slice la1 ln1 lc1, .slice ka1 kn1 kc1], .slice (some ⟨g2, 0, none⟩) (nn + 1) cap2, .int .i64 g, .bool true] W6 fun e w' => e = .returned (.int .i64 (kidsR (names ++ [n]) g true 0 [t])) ∧ Below W6.heap.size W6 w') := Lib.hid (fun W6 g2 cap2 hB6 ho6 => by
      have hq := blk_below hB6
      rw [kidsR_one]
      refine IH.out (fun k => k < W6.heap.size) (names ++ [n]) g true _ _ W6 (fun _ h => h) ((hval.keep (hq.keeps'.mono hB)).mono (fun k hk => Nat.lt_of_lt_of_le (hB k hk) hq.size)) (strSl_of_row ho6 hnn1 (fun x hx => ?_)) ?_
      · rcases List.mem_append.1 hx with hx | hx
        · exact HNV.out.2.2 x hx
        · simp at hx; subst hx; exact HNS.out
      · have := HD.out; simp [Ty.depths] at this ⊢; omega)
    go_region_held_law (fun W => W.cell? ⟨w.heap.size, 5, none⟩ = some (.slice (some ⟨kb, ko, none⟩) 1 c) ∧ W.cell? ⟨w.heap.size, 2, none⟩ = some (.string n) ∧ W.cell? ⟨kb, ko, none⟩ = some (.int .i64 t.k) ∧ W.cell? ⟨kb, ko + 1, none⟩ = some (.int .i64 t.p) ∧ W.cell? ⟨kb, ko + 2, none⟩ = some (.string t.n) ∧ W.cell? ⟨kb, ko + 3, none⟩ = some (.int .i64 t.s) ∧ W.cell? ⟨kb, ko + 4, none⟩ = some (.slice la1 ln1 lc1) ∧ W.cell? ⟨kb, ko + 5, none⟩ = some (.slice ka1 kn1 kc1))
      (first | go_keep | exact (CE.out _ HB3.out).1 | exact (CE.out _ HB2.out).1 | exact (CE.out _ HB1.out).1 | fail)
      (first
        | (refine step_append_strs (by rfl) _ _ (by rfl) (w.heap.size + 1) W2.heap.size 0 0 [] ?_ ?_ B na nn nc names ?_ ?_ hnn nn (names.map .string) (Nat.zero_add nn) (List.nil_append _) ?_ ?_
           · rfl
           · (repeat (first | (with_reducible refine fresh_row' _ _ _ ?_ ?_ <;> first | omega | rfl | (simp; omega) | (simp; done)) | with_reducible refine World.ownsRow.alloc ?_ _ | with_reducible refine World.ownsRow.drew ?_))
           · rfl
           · exact HNK.out _ (by (repeat (first | with_reducible exact HB.out | with_reducible apply Below.drew | (with_reducible refine Below.alloc ?_ ?_ _; rotate_left; (first | omega | (simp; omega) | (simp; done))))))
           · (simp; omega)
           intro g1 cap1 w5 hown1 hgrow
           have HB1 := Lib.hid (Below.grown (B := w.heap.size + 1) (a := box1 w 8 p n s (.slice la ln lc) (.slice (some ⟨kb, ko, none⟩) 1 c)) (by (repeat (first | with_reducible exact HB.out | with_reducible apply Below.drew | (with_reducible refine Below.alloc ?_ ?_ _; rotate_left; (first | omega | (simp; omega) | (simp; done)))))) hgrow (by simp; omega) (fun k e => by cases e; omega))
           have hz5 : W2.heap.size ≤ w5.heap.size := Nat.le_trans (by first | (simp; done) | (simp; omega)) hgrow.size)
        | (refine step_append_strs (by rfl) _ _ (by rfl) (w.heap.size + 1) (W2.heap.size + 1) 0 0 [] ?_ ?_ B na nn nc names ?_ ?_ hnn nn (names.map .string) (Nat.zero_add nn) (List.nil_append _) ?_ ?_
           · rfl
           · (repeat (first | (with_reducible refine fresh_row' _ _ _ ?_ ?_ <;> first | omega | rfl | (simp; omega) | (simp; done)) | with_reducible refine World.ownsRow.alloc ?_ _ | with_reducible refine World.ownsRow.drew ?_))
           · rfl
           · exact HNK.out _ (by (repeat (first | with_reducible exact HB.out | with_reducible apply Below.drew | (with_reducible refine Below.alloc ?_ ?_ _; rotate_left; (first | omega | (simp; omega) | (simp; done))))))
           · (simp; omega)
           intro g1 cap1 w5 hown1 hgrow
           have HB1 := Lib.hid (Below.grown (B := w.heap.size + 1) (a := box1 w 8 p n s (.slice la ln lc) (.slice (some ⟨kb, ko, none⟩) 1 c)) (by (repeat (first | with_reducible exact HB.out | with_reducible apply Below.drew | (with_reducible refine Below.alloc ?_ ?_ _; rotate_left; (first | omega | (simp; omega) | (simp; done)))))) hgrow (by simp; omega) (fun k e => by cases e; omega))
           have hz5 : W2.heap.size ≤ w5.heap.size := Nat.le_trans (by first | (simp; done) | (simp; omega)) hgrow.size)
        | (refine step_append_strs (by rfl) _ _ (by rfl) (w.heap.size + 1) g1 cap1 nn (names.map .string) ?_ ?_ (fun _ => True) (some ⟨w5.heap.size, 0, none⟩) 1 1 [n] ?_ ?_ hnn1 (nn + 1) ((names ++ [n]).map .string) rfl (by rw [List.map_append]) ?_ ?_
           · rfl
           · (first | exact hown1 | exact hown1.drew | exact (hown1.alloc _).drew | exact (hown1.alloc _))
           · rfl
           · (refine strSl_one ?_ HNS.out; first | (simp; done) | (exact hgrow.cell (by simp) (by simp)) | (exact hgrow.cell (by simp) (by simp; omega)) | (simp; exact hgrow.cell (by simp) (by simp)))
           · (first | omega | (simp; omega))
           intro g2 cap2 w6 hown2 hgrow2
           have HB2 := Lib.hid (Below.grown (B := w.heap.size + 1) (a := box1 w 8 p n s (.slice la ln lc) (.slice (some ⟨kb, ko, none⟩) 1 c)) (by (repeat (first | with_reducible exact HB1.out | with_reducible apply Below.drew | (with_reducible refine Below.alloc ?_ ?_ _; rotate_left; (first | omega | (simp; omega) | (simp; done)))))) hgrow2 (by first | omega | (simp; omega)) (fun k e => by cases e; exact (own_block hown1).1))
           have hz6 : w5.heap.size ≤ w6.heap.size := Nat.le_trans (by first | (simp; done) | (simp; omega)) hgrow2.size)
        | (refine step_append_strs (by rfl) _ _ (by rfl) (w.heap.size + 1) g1 cap1 nn (names.map .string) ?_ ?_ (fun _ => True) (some ⟨W2.heap.size, 0, none⟩) 1 1 [n] ?_ ?_ hnn1 (nn + 1) ((names ++ [n]).map .string) rfl (by rw [List.map_append]) ?_ ?_
           · rfl
           · (first | exact hown1 | exact hown1.drew | exact (hown1.alloc _).drew | exact (hown1.alloc _))
           · rfl
           · (refine strSl_one ?_ HNS.out; first | (simp; done) | (exact hgrow.cell (by simp) (by simp)) | (exact hgrow.cell (by simp) (by simp; omega)) | (simp; exact hgrow.cell (by simp) (by simp)))
           · (first | omega | (simp; omega))
           intro g2 cap2 w6 hown2 hgrow2
           have HB2 := Lib.hid (Below.grown (B := w.heap.size + 1) (a := box1 w 8 p n s (.slice la ln lc) (.slice (some ⟨kb, ko, none⟩) 1 c)) (by (repeat (first | with_reducible exact HB1.out | with_reducible apply Below.drew | (with_reducible refine Below.alloc ?_ ?_ _; rotate_left; (first | omega | (simp; omega) | (simp; done)))))) hgrow2 (by first | omega | (simp; omega)) (fun k e => by cases e; exact (own_block hown1).1))
           have hz6 : w5.heap.size ≤ w6.heap.size := Nat.le_trans (by first | (simp; done) | (simp; omega)) hgrow2.size)
        | (refine step_append_strs (by rfl) _ _ (by rfl) (w.heap.size + 1) g1 cap1 nn (names.map .string) ?_ ?_ (fun _ => True) (some ⟨(W2.heap.size + 1), 0, none⟩) 1 1 [n] ?_ ?_ hnn1 (nn + 1) ((names ++ [n]).map .string) rfl (by rw [List.map_append]) ?_ ?_
           · rfl
           · (first | exact hown1 | exact hown1.drew | exact (hown1.alloc _).drew | exact (hown1.alloc _))
           · rfl
           · (refine strSl_one ?_ HNS.out; first | (simp; done) | (exact hgrow.cell (by simp) (by simp)) | (exact hgrow.cell (by simp) (by simp; omega)) | (simp; exact hgrow.cell (by simp) (by simp)))
           · (first | omega | (simp; omega))
           intro g2 cap2 w6 hown2 hgrow2
           have HB2 := Lib.hid (Below.grown (B := w.heap.size + 1) (a := box1 w 8 p n s (.slice la ln lc) (.slice (some ⟨kb, ko, none⟩) 1 c)) (by (repeat (first | with_reducible exact HB1.out | with_reducible apply Below.drew | (with_reducible refine Below.alloc ?_ ?_ _; rotate_left; (first | omega | (simp; omega) | (simp; done)))))) hgrow2 (by first | omega | (simp; omega)) (fun k e => by cases e; exact (own_block hown1).1))
           have hz6 : w5.heap.size ≤ w6.heap.size := Nat.le_trans (by first | (simp; done) | (simp; omega)) hgrow2.size)
        | (go_simp
           go_at_call 69
           refine (HC.out _ _ _ (by (repeat (first | with_reducible exact HB2.out | with_reducible apply Below.drew | (with_reducible refine Below.alloc ?_ ?_ _; rotate_left; (first | omega | (simp; omega) | (simp; done)))))) (by first | exact hown2 | exact hown2.drew)).mono ?_
           rintro e w7 ⟨rfl, hb7⟩
           dsimp only
           have HB3 := Lib.hid (Below.trans (by (repeat (first | with_reducible exact HB2.out | with_reducible apply Below.drew | (with_reducible refine Below.alloc ?_ ?_ _; rotate_left; (first | omega | (simp; omega) | (simp; done))))) : Below (w.heap.size + 1) (box1 w 8 p n s (.slice la ln lc) (.slice (some ⟨kb, ko, none⟩) 1 c)) _) (hb7.mono (by first | omega | (simp; omega)))))
        | fail)
    all_goals (go_wp2_with fail)
    all_goals go_ret
    all_goals exact ⟨rfl, blk_below HB3.out⟩

theorem rnode_any : ∀ t : Ty, NodeAt t := by
  refine Ty.ind ?_
  intro k p n s ls ts ih B names g se v nv w hB hv hnv hd
  obtain ⟨lv, kv, rfl, hn, hl, hkv⟩ := hv
  simp only [Ty.k, Ty.p, Ty.n, Ty.s, Ty.ls, Ty.ts] at hn hl hkv ⊢
  rw [Ty.depth_eq] at hd
  simp only [Ty.ts] at hd
  rw [nodeR]
  by_cases hbad : shapeC k p s n ls ts.length = false ∨ (se = true ∧ sessK k = false)
  · rw [if_pos hbad]
    exact rnode_bad B k p s n lv kv nv g se ls ts hn w hB hl hkv hbad
  · rw [if_neg hbad]
    have hs : shapeC k p s n ls ts.length = true := by
      cases e : shapeC k p s n ls ts.length with
      | true => rfl
      | false => exact absurd (.inl e) hbad
    have hse : se = true → sessK k = true := fun h => by
      cases e : sessK k with
      | true => rfl
      | false => exact absurd (.inr ⟨h, e⟩) hbad
    by_cases h9 : k = 9
    · rw [if_pos h9]
      exact rnode_var B k p s n lv kv nv names g se ls ts hn w hB hl hkv hnv h9 hs
    · rw [if_neg h9]
      by_cases h8 : k = 8
      · rw [if_pos h8]
        exact rnode_rec B k p s n lv kv nv names g se ls ts hn w hB hl hkv hnv ih (by omega) h8 hs
      · rw [if_neg h8]
        exact rnode_kids B k p s n lv kv nv names g se ls ts hn w hB hl hkv hnv ih (by omega) ⟨h9, h8⟩ hs hse

end Go.Proofs.YtliijbcgkkiekaaGreatDoor

/- Types: the reference's Right. -/
namespace Go.Proofs.YtliijbcgkkiekaaGreatDoor
open Go.RowKit

set_option maxHeartbeats 1000000 in
theorem rright_any (B : Nat → Prop) (t : Ty) (v : Value) (w : World) (hsz : t.size ≤ 1000000) (hB : Low B w) (hv : TyVal B w v t) :
    Calls Tryz.prog 34 #[v] w fun e w' => e = .returned (.int .i64 (rightE t)) ∧ Below w.heap.size w w' := by
  have hds := t.depth_le_size
  have HDp := Lib.hid (fun W (hW : Below w.heap.size w W) => rdepth_any B t (by omega) v W (hB.le hW.size) (hv.keep (hW.keeps'.mono hB)))
  have HSz := Lib.hid (fun W (hW : Below w.heap.size w W) => rsize_any B t hsz v W (hB.le hW.size) (hv.keep (hW.keeps'.mono hB)))
  have HNd := Lib.hid (fun W (hW : Below w.heap.size w W) (hd : t.depth ≤ 100) => rnode_any t B [] 0 false v (.slice none 0 0) W (hB.le hW.size) (hv.keep (hW.keeps'.mono hB)) ⟨.inl ⟨⟨_, _, rfl⟩, rfl⟩, by simp [maxLen], fun s hs => by cases hs⟩ (by simp; omega))
  rw [rightE_eq]
  obtain ⟨lv, kv, rfl, hn, hl, hk⟩ := hv
  obtain ⟨pa, len, c, rfl, hlen, hm, hget⟩ := hk.open
  obtain ⟨la, ln, lc, rfl, hlln, hlm, hlget⟩ := hl.open
  obtain ⟨d, hd⟩ : ∃ d, t.depth = d := ⟨_, rfl⟩
  obtain ⟨z, hz⟩ : ∃ z, t.size = z := ⟨_, rfl⟩
  have HL1 : Hid (100 < d → t.large = true) := Lib.hid (fun h => by simp [Ty.large]; omega)
  have HL2 : Hid (10000 < z → t.large = true) := Lib.hid (fun h => by simp [Ty.large]; omega)
  have HL3 : Hid (¬ 100 < d → ¬ 10000 < z → t.large = false) := Lib.hid (fun h h' => by simp [Ty.large]; omega)
  rw [hd] at HDp HNd hds
  rw [hz] at HSz hsz hds
  clear hget hlget hl hk hlen hlln hn hd hz hB
  have b0 := blkBelow w #[.int .i64 t.k, .int .i64 t.p, .string t.n, .int .i64 t.s, .slice la ln lc, .slice pa len c] 26
  have HB0 := Lib.hid b0
  clear b0
  by_cases h1 : 100 < d
  · have h1' : decide ((100 : Int) < (d : Int)) = true := by simp; omega
    rw [HL1.out h1, if_pos rfl]
    go_enter Tryz.func34, Tryz.ntmps34
    go_wp2_with (go_at_call 47; refine (HDp.out _ HB0.out).mono ?_; rintro e w2 ⟨rfl, hb2⟩; obtain ⟨hcl, hfz⟩ := bcell hb2)
    go_ret
    exact ⟨rfl, below_seq HB0.out hb2⟩
  · have h1' : decide ((100 : Int) < (d : Int)) = false := by simp; omega
    by_cases h2 : 10000 < z
    · have h2' : decide ((10000 : Int) < (z : Int)) = true := by simp; omega
      rw [HL2.out h2, if_pos rfl]
      go_enter Tryz.func34, Tryz.ntmps34
      go_wp2_with (first | (go_at_call 47; refine (HDp.out _ HB0.out).mono ?_; rintro e w2 ⟨rfl, hb2⟩; obtain ⟨hcl, hfz⟩ := bcell hb2) | (go_at_call 67; refine (HSz.out _ (below_seq HB0.out hb2)).mono ?_; rintro e w3 ⟨rfl, hb3⟩; obtain ⟨hcl3, hfz3⟩ := bcell (below_seq hb2 hb3)))
      go_ret
      exact ⟨rfl, below_seq HB0.out (below_seq hb2 hb3)⟩
    · have h2' : decide ((10000 : Int) < (z : Int)) = false := by simp; omega
      rw [HL3.out h1 h2, if_neg (by decide)]
      go_enter Tryz.func34, Tryz.ntmps34
      go_wp2_with (first | (go_at_call 47; refine (HDp.out _ HB0.out).mono ?_; rintro e w2 ⟨rfl, hb2⟩; obtain ⟨hcl, hfz⟩ := bcell hb2) | (go_at_call 67; refine (HSz.out _ (below_seq HB0.out hb2)).mono ?_; rintro e w3 ⟨rfl, hb3⟩; obtain ⟨hcl3, hfz3⟩ := bcell (below_seq hb2 hb3)) | (go_at_call 69; refine (HNd.out _ (below_seq HB0.out (below_seq hb2 hb3)) (by omega)).mono ?_; rintro e w4 ⟨rfl, hb4⟩))
      go_ret
      exact ⟨rfl, below_seq HB0.out (below_seq hb2 (below_seq hb3 hb4))⟩

end Go.Proofs.YtliijbcgkkiekaaGreatDoor

/- Types: the program's small checks. -/
namespace Go.Proofs.YtliijbcgkkiekaaGreatDoor
open Go.RowKit

def numB (n : Int) (has : Bool) : Bool := if has then prioB n else n == 0
set_option maxHeartbeats 400000 in
theorem numberFits_any (n : Int) (has : Bool) (w : World) : Calls Tryz.prog 110 #[.int .i64 n, .bool has] w fun e w' => e = .returned (.bool (numB n has)) ∧ w = w' := by
  cases has
  · go_enter Tryz.func110, Tryz.ntmps110
    go_wp2
    all_goals (go_ret; refine ⟨ret_bool ?_, rfl⟩; simp [numB])
  · go_enter Tryz.func110, Tryz.ntmps110
    go_wp2
    all_goals (go_ret; refine ⟨ret_bool ?_, rfl⟩; unfold numB prioB; rw [Bool.eq_iff_iff]; simp; try omega)

def namB (s : ByteArray) (has : Bool) : Bool := if has then nameB s else s.toList.isEmpty
set_option maxHeartbeats 400000 in
theorem nameFits_any (s : ByteArray) (has : Bool) (hs : s.size ≤ maxLen) (E : Nat) (w : World) (he : Env E w) : Calls Tryz.prog 111 #[.string s, .bool has] w fun e w' => e = .returned (.bool (namB s has)) ∧ w = w' := by
  cases has
  · go_enter Tryz.func111, Tryz.ntmps111
    go_wp2
    all_goals (go_ret; refine ⟨ret_bool ?_, rfl⟩; first | rfl | simp [namB])
  · go_enter Tryz.func111, Tryz.ntmps111
    go_wp2_with (go_at_call 64; refine (name_any s hs E _ he).mono ?_; rintro e w2 ⟨rfl, rfl⟩)
    go_ret
    exact ⟨rfl, rfl⟩

end Go.Proofs.YtliijbcgkkiekaaGreatDoor

/- Types: the program's differentNames. -/
namespace Go.Proofs.YtliijbcgkkiekaaGreatDoor
open Go.RowKit

theorem run_makeMap_hint (n : Int) (w : World) : (Instr.makeMap 74 (some (.int .i64 n))).run Tryz.prog w = .ok (.map (some w.heap.size)) (w.alloc (.map #[] 0)) := by
  have ht := Tryz.underlying74
  simp [Instr.makeMap, run_underlying ht, asInt, asIntOf]

theorem boolInfo' : (Tryz.prog.info? 4).map (fun i => (i.zero, i.size, i.bytes)) = some (some (.bool false), 1, 1) := by kernel_rfl
theorem zero_bool (w : World) : (zeroValue 4).run Tryz.prog w = .ok (.bool false) w := by
  obtain ⟨i0, hi, hz0, hz1, hz2⟩ := info_parts boolInfo'
  simp [zeroValue, typeInfo, hi, hz0]
set_option maxRecDepth 100000 in
theorem plainElem_bool_inv {v : Value} {b : Bool} {ps : List MemPlace} (h : plainElem (H := Unit) Tryz.prog 4 v = some (.lit (.bool b), ps)) : v = .bool b := by
  unfold plainElem at h
  rw [Tryz.underlying4] at h
  cases v <;> simp at h
  rw [h.1]

/-- A map that tells which texts have been seen. -/
def Seen (w : World) (b j : Nat) (l : List ByteArray) : Prop := ∃ D : DataW Unit, w.ownsMap Tryz.prog 9 (plainElem Tryz.prog 4) b j D ∧ ∀ s : ByteArray, D.atKey (.string s.data.toList) (.lit (.bool false)) = .lit (.bool (memB s l))
theorem Seen.look {w : World} {b j : Nat} {l : List ByteArray} (h : Seen w b j l) {s : ByteArray} (hs : s.size ≤ maxLen) : (Instr.lookup 74 (.map (some b)) (.string s) false).run Tryz.prog w = .ok (.bool (memB s l)) w := by
  obtain ⟨D, ho, hat⟩ := h
  obtain ⟨v, ps, hr, hv⟩ := ho.lookup (Maps.string_keyed Tryz.underlying9) Tryz.underlying74 (zero_bool w) (plainElem_bool Tryz.underlying4 false) (Go.WideMaps.keyOf_string_mk Tryz.underlying9 hs)
  rw [hat] at hv
  rw [hr, plainElem_bool_inv hv]
theorem Seen.put {w : World} {b j : Nat} {l : List ByteArray} (h : Seen w b j l) (hj : j < maxLen) {s : ByteArray} (hs : s.size ≤ maxLen) :
    ∃ w', (Instr.mapUpdate 74 (.map (some b)) (.string s) (.bool true)).run Tryz.prog w = .ok () w' ∧ Seen w' b (j + 1) (l ++ [s]) ∧ w.grownBy w' (some b) := by
  obtain ⟨D, ho, hat⟩ := h
  obtain ⟨w', hr, ho', ht⟩ := ho.store (Maps.string_keyed Tryz.underlying9) Tryz.underlying74 hj (Go.WideMaps.keyOf_string_mk Tryz.underlying9 hs) (plainElem_bool Tryz.underlying4 true)
  refine ⟨w', hr, ⟨_, ho', fun x => ?_⟩, ht.grown⟩
  by_cases e : x = s
  · subst e
    rw [Maps.atKey_put_same ho.isMap (by first | trivial | simp [WideAt.IsKeyLit])]
    have : memB x (l ++ [x]) = true := memB_true.2 (by simp)
    rw [this]
  · rw [Maps.atKey_put_other (fun h => e (by
      have := Lit.string.inj h
      cases x; cases s; simp at this; congr 1)), hat]
    unfold memB
    have e' : decide (s = x) = false := by simpa using fun h => e h.symm
    simp [e']

set_option maxHeartbeats 2000000 in
theorem differentNames_any (B : Nat → Prop) (v : Value) (ls : List ByteArray) (E : Nat) (w : World) (hB : Low B w) (he : Env E w) (h : StrSl B w v ls) :
    Calls Tryz.prog 115 #[v] w fun e w' => e = .returned (.bool (labelsB ls)) ∧ Below w.heap.size w w' := by
  have hsz := h.2
  obtain ⟨pa, len, c, rfl, hlen, hm, hget⟩ := h.open
  have HG := Lib.hid hget
  have HS := Lib.hid hsz
  clear hget h hsz
  have hmk := run_makeMap_hint
  go_enter Tryz.func115, Tryz.ntmps115
  go_wp2_with fail
  go_loopw [11] (fun i wr => ∃ (j : Nat), i = .int .i64 (j : Int) ∧ j ≤ len ∧ Hid (labelsB (ls.take j) = true) ∧ Hid (Seen wr w.heap.size j (ls.take j)) ∧ Below w.heap.size w wr) (fun i _ => len - (intOf i).toNat)
  case atStart => exact ⟨0, rfl, by omega, Lib.hid (by simp [labelsB]), Lib.hid ⟨_, World.ownsMap_made w _ _ _, fun s => rfl⟩, (Below.refl _ _).alloc (Nat.le_refl _) _⟩
  case round =>
    obtain ⟨j, rfl, hj, HT, HSE, hw⟩ := hrel
    by_cases hlt : j < len
    · obtain ⟨x, hx⟩ : ∃ x, ls[j]? = some x := ⟨_, List.getElem?_eq_getElem (by rw [← hlen.out]; exact hlt)⟩
      obtain ⟨hxs, kb, ko, rfl, hkb, hc⟩ := HG.out j x hx
      replace hc := (hw.cell (p := ⟨kb, ko + j, none⟩) (hB kb hkb)).trans hc
      have hj' : j < maxLen := by unfold maxLen; omega
      have hlk := HSE.out.look hxs
      have HE := Lib.hid (he.below (hw.mono he.size))
      have HX := Lib.hid hx
      cases hmb : memB x (ls.take j) with
      | true =>
        have hf : Hid (labelsB ls = false) := Lib.hid (labelsB_prefix (j := j + 1) (by rw [take_snoc_get HX.out, labelsB_snoc, hmb]; simp))
        rw [hmb] at hlk
        clear hx hmb
        go_wp2_with fail
        go_ret
        exact ⟨ret_bool hf.out.symm, hw⟩
      | false =>
        rw [hmb] at hlk
        have HNM := Lib.hid (name_any x hxs E wr HE.out)
        cases hn : nameB x with
        | false =>
          have hf : Hid (labelsB ls = false) := Lib.hid (labelsB_prefix (j := j + 1) (by rw [take_snoc_get HX.out, labelsB_snoc, hn]; simp))
          rw [hn] at HNM
          clear hx hmb hn
          go_wp2_with (go_at_call 64; refine HNM.out.mono ?_; rintro e w2 ⟨rfl, rfl⟩)
          go_ret
          exact ⟨ret_bool hf.out.symm, hw⟩
        | true =>
          have hf : Hid (labelsB (ls.take (j + 1)) = true) := Lib.hid (by rw [take_snoc_get HX.out, labelsB_snoc, hn, hmb, HT.out]; rfl)
          rw [hn] at HNM
          obtain ⟨w1, hup, hse1, hgr⟩ := HSE.out.put hj' hxs
          have hse2 : Hid (Seen w1 w.heap.size (j + 1) (ls.take (j + 1))) := Lib.hid (by rw [take_snoc_get HX.out]; exact hse1)
          have hw1 : Hid (Below w.heap.size w w1) := Lib.hid (hw.grown hgr hw.size (fun k e => by cases e; exact Nat.le_refl _))
          clear hx hmb hn hse1 hgr
          go_wp2_with (go_at_call 64; refine HNM.out.mono ?_; rintro e w2 ⟨rfl, rfl⟩)
          go_roundw
          case rel => exact ⟨j + 1, by go_num, by omega, hf, hse2, hw1.out⟩
          case measure => (simp [intOf]) <;> omega
    · obtain rfl : j = len := by omega
      have hn : labelsB ls = true := by have := HT.out; rwa [List.take_of_length_le (by rw [hlen.out]; exact Nat.le_refl _)] at this
      have HN := Lib.hid hn
      clear hn
      go_wp2_with fail
      go_ret
      exact ⟨ret_bool HN.out.symm, hw⟩

end Go.Proofs.YtliijbcgkkiekaaGreatDoor

/- Types: the program's listsFit and fits. -/
namespace Go.Proofs.YtliijbcgkkiekaaGreatDoor
open Go.RowKit

def listsB (labels : Bool) (kids : Int) (ls : List ByteArray) (m : Nat) : Bool :=
  if labels then (!ls.isEmpty && (decide (m = ls.length) && labelsB ls)) else (ls.isEmpty && decide ((m : Int) = kids))

set_option maxHeartbeats 2000000 in
theorem listsFit_any (B : Nat → Prop) (t : Ty) (bt o : Nat) (a1 a2 a3 a4 : Bool) (kids pay : Int) (E : Nat) (w : World) (hB : Low B w) (he : Env E w) (ht : TyAt B w t bt o) :
    Calls Tryz.prog 112 #[.agg #[.bool a1, .bool a2, .bool a3, .bool a4, .int .i64 kids, .int .i64 pay], .pointer (some ⟨bt, o, none⟩)] w fun e w' => e = .returned (.bool (listsB a4 kids t.ls t.ts.length)) ∧ Below w.heap.size w w' := by
  obtain ⟨hb, hn, ⟨c0, c1, c2, c3⟩, lv, kv, c4, c5, hl, hkv⟩ := TyAt.eq.1 ht
  have hbt := hB bt hb
  have HDf := Lib.hid (fun W (hW : Below w.heap.size w W) => differentNames_any B lv t.ls E W (hB.le hW.size) (he.below (hW.mono he.size)) (hl.keep (hW.keeps'.mono hB)))
  obtain ⟨pa, len, c, rfl, hlen, hm, hget⟩ := hkv.open
  obtain ⟨la, ln, lc, rfl, hlln, hlm, hlget⟩ := hl.open
  have hls : t.ls.isEmpty = decide (ln = 0) := by rw [hlln.out]; cases t.ls <;> simp
  have hs : listsB a4 kids t.ls t.ts.length = if a4 then (!decide (ln = 0) && (decide (len = ln) && labelsB t.ls)) else (decide (ln = 0) && decide ((len : Int) = kids)) := by
    unfold listsB; rw [hls, hlen.out, hlln.out]
  rw [hs]
  clear hs hls hget hlget hl hkv hlen hlln ht hn
  cases a4
  · rw [if_neg (by decide)]
    have q4 : ∀ q : Later (w.heap.size + 1) (w.alloc (.cells #[.bool a1, .bool a2, .bool a3, .bool false, .int .i64 kids, .int .i64 pay] 123)), q.1.cell? ⟨bt, o + 4, none⟩ = some (.slice la ln lc) := fun q => ((blk_below q.2).cell (p := ⟨bt, _, none⟩) hbt).trans c4
    have q5 : ∀ q : Later (w.heap.size + 1) (w.alloc (.cells #[.bool a1, .bool a2, .bool a3, .bool false, .int .i64 kids, .int .i64 pay] 123)), q.1.cell? ⟨bt, o + 5, none⟩ = some (.slice pa len c) := fun q => ((blk_below q.2).cell (p := ⟨bt, _, none⟩) hbt).trans c5
    have q6 : ∀ q : Later (w.heap.size + 1) (w.alloc (.cells #[.bool a1, .bool a2, .bool a3, .bool false, .int .i64 kids, .int .i64 pay] 123)), q.1.cell? ⟨w.heap.size, 4, none⟩ = some (.int .i64 kids) := fun q => blk_cell q.2 4 rfl
    have HR : Hid (Below (w.heap.size + 1) (w.alloc (.cells #[.bool a1, .bool a2, .bool a3, .bool false, .int .i64 kids, .int .i64 pay] 123)) (w.alloc (.cells #[.bool a1, .bool a2, .bool a3, .bool false, .int .i64 kids, .int .i64 pay] 123))) := Lib.hid (Below.refl _ _)
    have hsz0 : w.heap.size + 1 ≤ (w.alloc (.cells #[.bool a1, .bool a2, .bool a3, .bool false, .int .i64 kids, .int .i64 pay] 123)).heap.size := by simp
    have HSZ := Lib.hid hsz0
    clear hsz0 c0 c1 c2 c3 c4 c5
    by_cases h0 : ln = 0
    · subst h0
      by_cases h1 : (len : Int) = kids
      · have h2 : ((len : Int) == kids) = true := by simpa using h1
        rw [show decide ((len : Int) = kids) = true by simpa using h1]
        clear h1
        go_enter Tryz.func112, Tryz.ntmps112
        go_wp2_with fail
        refine wp_region_later (w.heap.size + 1) (w.alloc (.cells #[.bool a1, .bool a2, .bool a3, .bool false, .int .i64 kids, .int .i64 pay] 123)) (by kernel_rfl) (by kernel_rfl) HR.out ?_
        repeat (go_big_quiet_step (first | (go_at_call 115; exact later_call _ HSZ.out (HDf.out _ (blk_below (Subtype.property _))))))
        refine wpQuiet_nil ?_
        rintro _ ⟨⟨w5, hb5⟩, rfl⟩
        clear q4 q5 q6
        go_wp2_with fail
        go_ret
        exact ⟨ret_bool (by first | rfl | (simp; done) | (simp; omega) | (rw [Bool.eq_iff_iff]; simp; omega)), blk_below hb5⟩
      · have h2 : ((len : Int) == kids) = false := by simpa using h1
        rw [show decide ((len : Int) = kids) = false by simpa using h1]
        clear h1
        go_enter Tryz.func112, Tryz.ntmps112
        go_wp2_with fail
        refine wp_region_later (w.heap.size + 1) (w.alloc (.cells #[.bool a1, .bool a2, .bool a3, .bool false, .int .i64 kids, .int .i64 pay] 123)) (by kernel_rfl) (by kernel_rfl) HR.out ?_
        repeat (go_big_quiet_step (first | (go_at_call 115; exact later_call _ HSZ.out (HDf.out _ (blk_below (Subtype.property _))))))
        refine wpQuiet_nil ?_
        rintro _ ⟨⟨w5, hb5⟩, rfl⟩
        clear q4 q5 q6
        go_wp2_with fail
        go_ret
        exact ⟨ret_bool (by first | rfl | (simp; done) | (simp; omega) | (rw [Bool.eq_iff_iff]; simp; omega)), blk_below hb5⟩
    · have h0' : ((ln : Int) == 0) = false := by simp; omega
      rw [show decide (ln = 0) = false by simpa using h0, Bool.false_and]
      clear h0
      go_enter Tryz.func112, Tryz.ntmps112
      go_wp2_with fail
      refine wp_region_later (w.heap.size + 1) (w.alloc (.cells #[.bool a1, .bool a2, .bool a3, .bool false, .int .i64 kids, .int .i64 pay] 123)) (by kernel_rfl) (by kernel_rfl) HR.out ?_
      repeat (go_big_quiet_step (first | (go_at_call 115; exact later_call _ HSZ.out (HDf.out _ (blk_below (Subtype.property _))))))
      refine wpQuiet_nil ?_
      rintro _ ⟨⟨w5, hb5⟩, rfl⟩
      clear q4 q5 q6
      go_wp2_with fail
      go_ret
      exact ⟨ret_bool (by first | rfl | (simp; done) | (simp; omega) | (rw [Bool.eq_iff_iff]; simp; omega)), blk_below hb5⟩
  · rw [if_pos rfl]
    have q4 : ∀ q : Later (w.heap.size + 1) (w.alloc (.cells #[.bool a1, .bool a2, .bool a3, .bool true, .int .i64 kids, .int .i64 pay] 123)), q.1.cell? ⟨bt, o + 4, none⟩ = some (.slice la ln lc) := fun q => ((blk_below q.2).cell (p := ⟨bt, _, none⟩) hbt).trans c4
    have q5 : ∀ q : Later (w.heap.size + 1) (w.alloc (.cells #[.bool a1, .bool a2, .bool a3, .bool true, .int .i64 kids, .int .i64 pay] 123)), q.1.cell? ⟨bt, o + 5, none⟩ = some (.slice pa len c) := fun q => ((blk_below q.2).cell (p := ⟨bt, _, none⟩) hbt).trans c5
    have q6 : ∀ q : Later (w.heap.size + 1) (w.alloc (.cells #[.bool a1, .bool a2, .bool a3, .bool true, .int .i64 kids, .int .i64 pay] 123)), q.1.cell? ⟨w.heap.size, 4, none⟩ = some (.int .i64 kids) := fun q => blk_cell q.2 4 rfl
    have HR : Hid (Below (w.heap.size + 1) (w.alloc (.cells #[.bool a1, .bool a2, .bool a3, .bool true, .int .i64 kids, .int .i64 pay] 123)) (w.alloc (.cells #[.bool a1, .bool a2, .bool a3, .bool true, .int .i64 kids, .int .i64 pay] 123))) := Lib.hid (Below.refl _ _)
    have hsz0 : w.heap.size + 1 ≤ (w.alloc (.cells #[.bool a1, .bool a2, .bool a3, .bool true, .int .i64 kids, .int .i64 pay] 123)).heap.size := by simp
    have HSZ := Lib.hid hsz0
    clear hsz0 c0 c1 c2 c3 c4 c5
    by_cases h0 : ln = 0
    · subst h0
      go_enter Tryz.func112, Tryz.ntmps112
      go_wp2_with fail
      refine wp_region_later (w.heap.size + 1) (w.alloc (.cells #[.bool a1, .bool a2, .bool a3, .bool true, .int .i64 kids, .int .i64 pay] 123)) (by kernel_rfl) (by kernel_rfl) HR.out ?_
      repeat (go_big_quiet_step (first | (go_at_call 115; exact later_call _ HSZ.out (HDf.out _ (blk_below (Subtype.property _))))))
      refine wpQuiet_nil ?_
      rintro _ ⟨⟨w5, hb5⟩, rfl⟩
      clear q4 q5 q6
      go_wp2_with fail
      go_ret
      exact ⟨ret_bool (by first | rfl | (simp; done) | (simp; omega) | (rw [Bool.eq_iff_iff]; simp; omega)), blk_below hb5⟩
    · have h0' : decide ((0 : Int) < (ln : Int)) = true := by simp; omega
      have h0p : 0 < ln := by omega
      have h0q : decide (0 < ln) = true := by simpa using h0p
      rw [show decide (ln = 0) = false by simpa using h0, Bool.not_false, Bool.true_and]
      clear h0
      by_cases h1 : len = ln
      · subst h1
        rw [show decide (len = len) = true by simp, Bool.true_and]
        go_enter Tryz.func112, Tryz.ntmps112
        go_wp2_with fail
        refine wp_region_later (w.heap.size + 1) (w.alloc (.cells #[.bool a1, .bool a2, .bool a3, .bool true, .int .i64 kids, .int .i64 pay] 123)) (by kernel_rfl) (by kernel_rfl) HR.out ?_
        repeat (go_big_quiet_step (first | (go_at_call 115; exact later_call _ HSZ.out (HDf.out _ (blk_below (Subtype.property _))))))
        refine wpQuiet_nil ?_
        rintro _ ⟨⟨w5, hb5⟩, rfl⟩
        clear q4 q5 q6
        go_wp2_with fail
        go_ret
        exact ⟨ret_bool (by first | rfl | (simp; done) | (simp; omega) | (rw [Bool.eq_iff_iff]; simp; omega)), blk_below hb5⟩
      · have h2 : ((len : Int) == (ln : Int)) = false := by simp; omega
        rw [show decide (len = ln) = false by simpa using h1, Bool.false_and]
        clear h1
        go_enter Tryz.func112, Tryz.ntmps112
        go_wp2_with fail
        refine wp_region_later (w.heap.size + 1) (w.alloc (.cells #[.bool a1, .bool a2, .bool a3, .bool true, .int .i64 kids, .int .i64 pay] 123)) (by kernel_rfl) (by kernel_rfl) HR.out ?_
        repeat (go_big_quiet_step (first | (go_at_call 115; exact later_call _ HSZ.out (HDf.out _ (blk_below (Subtype.property _))))))
        refine wpQuiet_nil ?_
        rintro _ ⟨⟨w5, hb5⟩, rfl⟩
        clear q4 q5 q6
        go_wp2_with fail
        go_ret
        exact ⟨ret_bool (by first | rfl | (simp; done) | (simp; omega) | (rw [Bool.eq_iff_iff]; simp; omega)), blk_below hb5⟩

end Go.Proofs.YtliijbcgkkiekaaGreatDoor

/- Types: the program's fits. -/
namespace Go.Proofs.YtliijbcgkkiekaaGreatDoor
open Go.RowKit

theorem number_is (n : Int) (has b : Bool) (h : numB n has = b) (w : World) : Calls Tryz.prog 110 #[.int .i64 n, .bool has] w fun e w' => e = .returned (.bool b) ∧ w = w' := by
  rw [← h]; exact numberFits_any n has w
theorem nameFit_is (s : ByteArray) (has b : Bool) (h : namB s has = b) (hs : s.size ≤ maxLen) (E : Nat) (w : World) (he : Env E w) : Calls Tryz.prog 111 #[.string s, .bool has] w fun e w' => e = .returned (.bool b) ∧ w = w' := by
  rw [← h]; exact nameFits_any s has hs E w he

def fitsB (a1 a2 a3 a4 : Bool) (kids : Int) (t : Ty) : Bool := numB t.p a1 && (numB t.s a3 && (namB t.n a2 && listsB a4 kids t.ls t.ts.length))

set_option maxHeartbeats 1500000 in
theorem fits_any (B : Nat → Prop) (t : Ty) (bt o : Nat) (a1 a2 a3 a4 : Bool) (kids pay : Int) (E : Nat) (w : World) (hB : Low B w) (he : Env E w) (ht : TyAt B w t bt o) :
    Calls Tryz.prog 103 #[.agg #[.bool a1, .bool a2, .bool a3, .bool a4, .int .i64 kids, .int .i64 pay], .pointer (some ⟨bt, o, none⟩)] w fun e w' => e = .returned (.bool (fitsB a1 a2 a3 a4 kids t)) ∧ Below w.heap.size w w' := by
  obtain ⟨hb, hn, ⟨c0, c1, c2, c3⟩, lv, kv, c4, c5, hl, hkv⟩ := TyAt.eq.1 ht
  have hbt := hB bt hb
  obtain ⟨b1, h1⟩ : ∃ b, numB t.p a1 = b := ⟨_, rfl⟩
  obtain ⟨b2, h2⟩ : ∃ b, numB t.s a3 = b := ⟨_, rfl⟩
  obtain ⟨b3, h3⟩ : ∃ b, namB t.n a2 = b := ⟨_, rfl⟩
  obtain ⟨b4, h4⟩ : ∃ b, listsB a4 kids t.ls t.ts.length = b := ⟨_, rfl⟩
  have HL : Hid (∀ W, Below w.heap.size w W → Calls Tryz.prog 112 #[.agg #[.bool a1, .bool a2, .bool a3, .bool a4, .int .i64 kids, .int .i64 pay], .pointer (some ⟨bt, o, none⟩)] W fun e w' => e = .returned (.bool b4) ∧ Below W.heap.size W w') := Lib.hid (fun W hW => by
    rw [← h4]; exact listsFit_any B t bt o a1 a2 a3 a4 kids pay E W (hB.le hW.size) (he.below (hW.mono he.size)) (TyAt.keep (hW.keeps'.mono hB) _ _ _ ht))
  have H1 := Lib.hid (number_is t.p a1 b1 h1)
  have H2 := Lib.hid (number_is t.s a3 b2 h2)
  have H3 := Lib.hid (fun (W : World) (hW : Below w.heap.size w W) => nameFit_is t.n a2 b3 h3 hn E W (he.below (hW.mono he.size)))
  have HF : Hid (fitsB a1 a2 a3 a4 kids t = (b1 && (b2 && (b3 && b4)))) := Lib.hid (by unfold fitsB; rw [h1, h2, h3, h4])
  rw [HF.out]
  have HW0 : Hid (Below (w.heap.size + 1) (w.alloc (.cells #[.bool a1, .bool a2, .bool a3, .bool a4, .int .i64 kids, .int .i64 pay] 123)) (w.alloc (.cells #[.bool a1, .bool a2, .bool a3, .bool a4, .int .i64 kids, .int .i64 pay] 123))) := Lib.hid (Below.refl _ _)
  clear h1 h2 h3 h4 HF hl hkv ht c0 c4 c5 hn
  go_enter Tryz.func103, Tryz.ntmps103
  go_wp2_with fail
  have p1 : ∀ q : Later (w.heap.size + 1) (w.alloc (.cells #[.bool a1, .bool a2, .bool a3, .bool a4, .int .i64 kids, .int .i64 pay] 123)), q.1.cell? ⟨bt, o + 1, none⟩ = some (.int .i64 t.p) := fun q => ((blk_below q.2).cell (p := ⟨bt, _, none⟩) hbt).trans c1
  have p2 : ∀ q : Later (w.heap.size + 1) (w.alloc (.cells #[.bool a1, .bool a2, .bool a3, .bool a4, .int .i64 kids, .int .i64 pay] 123)), q.1.cell? ⟨bt, o + 2, none⟩ = some (.string t.n) := fun q => ((blk_below q.2).cell (p := ⟨bt, _, none⟩) hbt).trans c2
  have p3 : ∀ q : Later (w.heap.size + 1) (w.alloc (.cells #[.bool a1, .bool a2, .bool a3, .bool a4, .int .i64 kids, .int .i64 pay] 123)), q.1.cell? ⟨bt, o + 3, none⟩ = some (.int .i64 t.s) := fun q => ((blk_below q.2).cell (p := ⟨bt, _, none⟩) hbt).trans c3
  have r0 : ∀ q : Later (w.heap.size + 1) (w.alloc (.cells #[.bool a1, .bool a2, .bool a3, .bool a4, .int .i64 kids, .int .i64 pay] 123)), q.1.cell? ⟨w.heap.size, 0, none⟩ = some (.bool a1) := fun q => blk_cell q.2 0 rfl
  have r1 : ∀ q : Later (w.heap.size + 1) (w.alloc (.cells #[.bool a1, .bool a2, .bool a3, .bool a4, .int .i64 kids, .int .i64 pay] 123)), q.1.cell? ⟨w.heap.size, 1, none⟩ = some (.bool a2) := fun q => blk_cell q.2 1 rfl
  have r2 : ∀ q : Later (w.heap.size + 1) (w.alloc (.cells #[.bool a1, .bool a2, .bool a3, .bool a4, .int .i64 kids, .int .i64 pay] 123)), q.1.cell? ⟨w.heap.size, 2, none⟩ = some (.bool a3) := fun q => blk_cell q.2 2 rfl
  have r3 : ∀ q : Later (w.heap.size + 1) (w.alloc (.cells #[.bool a1, .bool a2, .bool a3, .bool a4, .int .i64 kids, .int .i64 pay] 123)), q.1.cell? ⟨w.heap.size, 3, none⟩ = some (.bool a4) := fun q => blk_cell q.2 3 rfl
  have r4 : ∀ q : Later (w.heap.size + 1) (w.alloc (.cells #[.bool a1, .bool a2, .bool a3, .bool a4, .int .i64 kids, .int .i64 pay] 123)), q.1.cell? ⟨w.heap.size, 4, none⟩ = some (.int .i64 kids) := fun q => blk_cell q.2 4 rfl
  have r5 : ∀ q : Later (w.heap.size + 1) (w.alloc (.cells #[.bool a1, .bool a2, .bool a3, .bool a4, .int .i64 kids, .int .i64 pay] 123)), q.1.cell? ⟨w.heap.size, 5, none⟩ = some (.int .i64 pay) := fun q => blk_cell q.2 5 rfl
  have HSZ : Hid (w.heap.size + 1 ≤ (w.alloc (.cells #[.bool a1, .bool a2, .bool a3, .bool a4, .int .i64 kids, .int .i64 pay] 123)).heap.size) := Lib.hid (by simp)
  clear c1 c2 c3
  cases b1 <;> cases b2 <;> cases b3 <;> cases b4
  all_goals
    refine wp_region_later (w.heap.size + 1) (w.alloc (.cells #[.bool a1, .bool a2, .bool a3, .bool a4, .int .i64 kids, .int .i64 pay] 123)) (by kernel_rfl) (by kernel_rfl) HW0.out ?_
    repeat (go_big_quiet_step (first | (go_at_call 110; first | with_reducible exact later_call_same _ (H1.out _) | with_reducible exact later_call_same _ (H2.out _)) | (go_at_call 111; exact later_call_same _ (H3.out _ (blk_below (Subtype.property _)))) | (go_at_call 112; exact later_call _ HSZ.out (HL.out _ (blk_below (Subtype.property _))))))
    refine wpQuiet_nil ?_
    rintro _ ⟨⟨w5, hb5⟩, rfl⟩
    go_wp2_with fail
    go_ret
    exact ⟨rfl, blk_below hb5⟩

end Go.Proofs.YtliijbcgkkiekaaGreatDoor

/- A map of one's own, told by what its look-ups give; the program's rules. -/
namespace Go.Proofs.YtliijbcgkkiekaaGreatDoor
open Go.RowKit

/-- An entry reads as it is. -/
def asIs (v : Value) : Option (DataW Value × List MemPlace) := some (.held v, [])
/-- Block b is a map, of at most n entries, in which the key l has the value f l. -/
def MapIs (w : World) (k : TypeId) (b n : Nat) (f : Lit → Option Value) : Prop :=
  ∃ D : DataW Value, w.ownsMap Tryz.prog k asIs b n D ∧ ∀ l, Maps.has D l = (f l).isSome ∧ ∀ v, f l = some v → ∀ z, D.atKey l z = .held v
theorem MapIs.made (w : World) (k : TypeId) : MapIs (w.alloc (.map #[] 0)) k w.heap.size 0 (fun _ => none) :=
  ⟨.map [], World.ownsMap_made w _ _ _, fun _ => ⟨rfl, fun _ h => by cases h⟩⟩
theorem MapIs.congr {w : World} {k : TypeId} {b n : Nat} {f g : Lit → Option Value} (h : MapIs w k b n f) (e : ∀ l, f l = g l) : MapIs w k b n g := by
  obtain ⟨D, ho, hf⟩ := h
  exact ⟨D, ho, fun l => by rw [← e l]; exact hf l⟩
theorem MapIs.lt {w : World} {k : TypeId} {b n : Nat} {f : Lit → Option Value} (h : MapIs w k b n f) : b < w.heap.size := by
  obtain ⟨D, ho, _⟩ := h; exact ho.lt
theorem MapIs.kept {w w' : World} {k : TypeId} {b n : Nat} {f : Lit → Option Value} (h : MapIs w k b n f) {row : Option Nat} (hg : w.grownBy w' row) (hne : some b ≠ row) : MapIs w' k b n f := by
  obtain ⟨D, ho, hf⟩ := h; exact ⟨D, ho.kept hg hne, hf⟩
theorem MapIs.below {w w' : World} {k : TypeId} {b n m : Nat} {f : Lit → Option Value} (h : MapIs w k b n f) (hb : Below m w w') (hm : b < m) : MapIs w' k b n f := by
  obtain ⟨D, ⟨es, clock, h1, r⟩, hf⟩ := h
  exact ⟨D, ⟨es, clock, (hb.block b hm).trans h1, r⟩, hf⟩
open Classical in
theorem MapIs.put {w : World} {k : TypeId} {b n : Nat} {f : Lit → Option Value} (h : MapIs w k b n f) (K : Maps.Keyed Tryz.prog k) {t e : TypeId} (ht : Tryz.prog.underlying t = some (.map k e)) (hn : n < maxLen) {key val : Value} {kl : Lit} (hkey : keyOf Tryz.prog k key = some kl) (hkl : WideAt.IsKeyLit kl) :
    ∃ w', (Instr.mapUpdate t (.map (some b)) key val).run Tryz.prog w = .ok () w' ∧ MapIs w' k b (n + 1) (fun l => if l = kl then some val else f l) ∧ w.grownBy w' (some b) := by
  obtain ⟨D, ho, hf⟩ := h
  obtain ⟨w', hr, ho', htn⟩ := ho.store K ht hn hkey (d := .held val) (ps := []) rfl
  refine ⟨w', hr, ⟨_, ho', fun l => ?_⟩, htn.grown⟩
  by_cases e : l = kl
  · subst e
    simp only [if_true]
    exact ⟨by rw [Maps.has_put_same ho.isMap hkl]; rfl, fun v hv z => by rw [Maps.atKey_put_same ho.isMap hkl]; cases hv; rfl⟩
  · simp only [if_neg e]
    rw [Maps.has_put_other e]
    exact ⟨(hf l).1, fun v hv z => by rw [Maps.atKey_put_other e]; exact (hf l).2 v hv z⟩
set_option maxRecDepth 100000 in
theorem MapIs.look {w : World} {k : TypeId} {b n : Nat} {f : Lit → Option Value} (h : MapIs w k b n f) (K : Maps.Keyed Tryz.prog k) {t e : TypeId} (ht : Tryz.prog.underlying t = some (.map k e)) {z : Value} (hz : (zeroValue e).run Tryz.prog w = .ok z w) {key : Value} {kl : Lit} (hkey : keyOf Tryz.prog k key = some kl) :
    (Instr.lookup t (.map (some b)) key false).run Tryz.prog w = .ok ((f kl).getD z) w := by
  obtain ⟨D, ho, hf⟩ := h
  obtain ⟨v, ps, hr, hv⟩ := ho.lookup K ht hz (zd := .held z) (zp := []) rfl hkey
  rw [hr]
  obtain ⟨h1, h2⟩ := hf kl
  have hv' : DataW.held v = D.atKey kl (.held z) := by
    simp only [asIs, Option.some.injEq, Prod.mk.injEq] at hv; exact hv.1
  refine congrArg (fun x => Result.ok x w) ?_
  cases hfk : f kl with
  | none =>
    rw [hfk] at h1
    rw [Maps.atKey_of_not_has h1] at hv'
    exact DataW.held.inj hv'
  | some u =>
    rw [h2 u hfk] at hv'
    exact DataW.held.inj hv'
set_option maxRecDepth 100000 in
theorem MapIs.look_ok {w : World} {k : TypeId} {b n : Nat} {f : Lit → Option Value} (h : MapIs w k b n f) (K : Maps.Keyed Tryz.prog k) {t e : TypeId} (ht : Tryz.prog.underlying t = some (.map k e)) {z : Value} (hz : (zeroValue e).run Tryz.prog w = .ok z w) {key : Value} {kl : Lit} (hkey : keyOf Tryz.prog k key = some kl) :
    (Instr.lookup t (.map (some b)) key true).run Tryz.prog w = .ok (.tuple #[(f kl).getD z, .bool (f kl).isSome]) w := by
  obtain ⟨D, ho, hf⟩ := h
  obtain ⟨v, ps, hr, hv⟩ := ho.look_ok K ht hz (zd := .held z) (zp := []) rfl hkey
  obtain ⟨h1, h2⟩ := hf kl
  rw [hr, h1]
  have hv' : DataW.held v = D.atKey kl (.held z) := by
    simp only [asIs, Option.some.injEq, Prod.mk.injEq] at hv; exact hv.1
  have : v = (f kl).getD z := by
    cases hfk : f kl with
    | none =>
      rw [hfk] at h1
      rw [Maps.atKey_of_not_has h1] at hv'
      exact DataW.held.inj hv'
    | some u =>
      rw [h2 u hfk] at hv'
      exact DataW.held.inj hv'
  rw [this]

/-! ### The rules -/
def knK (k : Int) : Bool := decide (1 ≤ k) && decide (k ≤ 9)
def r2K (k : Int) : Bool := k == 8 || k == 9
def r3K (k : Int) : Bool := k == 9
def r4K (k : Int) : Bool := k == 6 || k == 7
def kidsK (k : Int) : Int := if k = 4 ∨ k = 5 then 2 else if k = 8 then 1 else 0
abbrev ruleVal (k : Int) : Value := .agg #[.bool (actB k), .bool (r2K k), .bool (r3K k), .bool (r4K k), .int .i64 (kidsK k), .int .i64 (paysK k)]
def ruleF : Lit → Option Value
  | .int .i64 k => if knK k then some (ruleVal k) else none
  | _ => none
def RulesAt (w : World) (b : Nat) : Prop := MapIs w 3 b 9 ruleF
abbrev rule0 : Value := .agg #[.bool false, .bool false, .bool false, .bool false, .int .i64 0, .int .i64 0]
theorem ruleInfo : (Tryz.prog.info? 123).map (fun i => (i.zero, i.size, i.bytes)) = some (some rule0, 6, 24) := by kernel_rfl
theorem zero_rule (w : World) : (zeroValue 123).run Tryz.prog w = .ok rule0 w := by
  obtain ⟨i0, hi, hz0, hz1, hz2⟩ := info_parts ruleInfo
  simp [zeroValue, typeInfo, hi, hz0]
theorem intKeyed : Maps.Keyed Tryz.prog 3 := Maps.int_keyed Tryz.underlying3
theorem wf64 {a : Int} (h1 : -9223372036854775808 ≤ a) (h2 : a ≤ 9223372036854775807) : (Lit.int .i64 a).wf = true := by
  unfold Lit.wf
  rw [Bool.and_eq_true, decide_eq_true_eq, decide_eq_true_eq]
  exact ⟨h1, h2⟩
theorem key_int {a : Int} (h1 : -9223372036854775808 ≤ a) (h2 : a ≤ 9223372036854775807) : keyOf Tryz.prog 3 (.int .i64 a) = some (.int .i64 a) := Maps.keyOf_int_mk Tryz.underlying3 (wf64 h1 h2)
theorem rule_unknown {k : Int} (h : knK k = false) : ruleVal k = rule0 := by
  have h1 : ¬ (1 ≤ k ∧ k ≤ 9) := by simpa [knK] using h
  have a1 : actB k = false := by rw [Bool.eq_false_iff]; intro e; rw [actB_iff] at e; omega
  have a2 : r2K k = false := by simp [r2K]; omega
  have a3 : r3K k = false := by simp [r3K]; omega
  have a4 : r4K k = false := by simp [r4K]; omega
  have a5 : kidsK k = 0 := by unfold kidsK; rw [if_neg (by omega), if_neg (by omega)]
  have a6 : paysK k = 0 := by unfold paysK; rw [if_neg (by omega)]
  unfold ruleVal rule0
  rw [a1, a2, a3, a4, a5, a6]
theorem RulesAt.look {w : World} {b : Nat} (h : RulesAt w b) {k : Int} (h1 : -9223372036854775808 ≤ k) (h2 : k ≤ 9223372036854775807) : (Instr.lookup 106 (.map (some b)) (.int .i64 k) false).run Tryz.prog w = .ok (ruleVal k) w := by
  rw [MapIs.look h intKeyed Tryz.underlying106 (zero_rule w) (key_int h1 h2)]
  simp only [ruleF]
  cases hk : knK k with
  | true => rfl
  | false => rw [rule_unknown hk]; rfl
theorem RulesAt.look_ok {w : World} {b : Nat} (h : RulesAt w b) {k : Int} (h1 : -9223372036854775808 ≤ k) (h2 : k ≤ 9223372036854775807) : (Instr.lookup 106 (.map (some b)) (.int .i64 k) true).run Tryz.prog w = .ok (.tuple #[ruleVal k, .bool (knK k)]) w := by
  rw [MapIs.look_ok h intKeyed Tryz.underlying106 (zero_rule w) (key_int h1 h2)]
  simp only [ruleF]
  cases hk : knK k with
  | true => rfl
  | false => rw [rule_unknown hk]; rfl

/-- What the rule of a kind says of a node is its shape. -/
theorem fits_shape (t : Ty) (h : knK t.k = true) : fitsB (actB t.k) (r2K t.k) (r3K t.k) (r4K t.k) (kidsK t.k) t = t.shape := by
  have hk : 1 ≤ t.k ∧ t.k ≤ 9 := by simpa [knK] using h
  have hcase : t.k = 1 ∨ t.k = 2 ∨ t.k = 3 ∨ t.k = 4 ∨ t.k = 5 ∨ t.k = 6 ∨ t.k = 7 ∨ t.k = 8 ∨ t.k = 9 := by omega
  unfold fitsB Ty.shape shapeC numB namB listsB
  rcases hcase with e | e | e | e | e | e | e | e | e <;> rw [e] <;> simp [actB, r2K, r3K, r4K, kidsK] <;> (try rw [Bool.eq_iff_iff]) <;> (try simp) <;> (try omega) <;> (try grind)
theorem shape_unknown (t : Ty) (h : knK t.k = false) : t.shape = false := by
  have h1 : ¬ (1 ≤ t.k ∧ t.k ≤ 9) := by simpa [knK] using h
  unfold Ty.shape shapeC
  rw [if_neg (by omega), if_neg (by omega), if_neg (by omega), if_neg (by omega), if_neg (by omega)]

end Go.Proofs.YtliijbcgkkiekaaGreatDoor
