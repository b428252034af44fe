/- Types: the reference's walk at a TRec. -/
import Derived.Test.YtjmnaibbljakaaaGreatDoorTyOc
import Derived.Deep.RegionHeld3
import Derived.Deep.RegionHeldLaw
import Derived.Deep.AppendLies
namespace Go.Proofs.YtjmnaibbljakaaaGreatDoor
open Go.RowKit

theorem strInfo' : (Tryz.prog.info? 9).map (fun i => (i.zero, i.size, i.bytes)) = some (some (.string ⟨#[]⟩), 1, 16) := by kernel_rfl

theorem fresh_row (w0 : World) (base : Nat) (h : base ≤ w0.heap.size) : (w0.alloc (.cells #[] 9)).ownsRow base 9 1 (.slice (some ⟨w0.heap.size, 0, none⟩) 0 0) 0 [] :=
  ⟨rfl, .inr ⟨w0.heap.size, 0, #[], rfl, h, heap_alloc_new w0 _, Nat.le_refl _, by unfold maxLen; omega, rfl, rfl⟩⟩

theorem strSl_of_row {w : World} {base g n cap : Nat} {ls : List ByteArray} (h : w.ownsRow base 9 1 (.slice (some ⟨g, 0, none⟩) n cap) n (ls.map .string)) (hn : n ≤ 1000000) (hs : ∀ s ∈ ls, s.size ≤ maxLen) : StrSl (fun k => k < w.heap.size) w (.slice (some ⟨g, 0, none⟩) n cap) ls := by
  have hl := h.1
  simp only [List.length_map, Nat.mul_one] at hl
  subst hl
  rcases h.2 with ⟨h, _⟩ | ⟨g', cap', cur, hv, hb, hg, hnc, hcm, hcs, htake⟩
  · cases h
  · simp only [Value.slice.injEq, Option.some.injEq, Addr.mk.injEq, and_true, true_and] at hv
    obtain ⟨rfl, rfl⟩ := hv
    have hlt : g < w.heap.size := by
      rcases Nat.lt_or_ge g w.heap.size with hlt | hge
      · exact hlt
      · rw [Array.getElem?_eq_none hge] at hg; cases hg
    refine ⟨.inr ⟨g, 0, cap, rfl, hlt, hnc, fun j s hj => ?_⟩, by unfold maxLen; omega, hs⟩
    rw [Nat.zero_add, cell_of_row w g j cur 9 (0, 0) hg]
    have e : (ls.map Value.string)[j]? = some (.string s) := by rw [List.getElem?_map, hj]; rfl
    rw [← htake, Nat.mul_one, List.getElem?_take] at e
    split at e
    · simpa using e
    · cases e

theorem fresh_row' (w0 : World) (base b : Nat) (hb : b = w0.heap.size) (h : base ≤ w0.heap.size) : (w0.alloc (.cells #[] 9)).ownsRow base 9 1 (.slice (some ⟨b, 0, none⟩) 0 0) 0 [] := by
  subst hb; exact fresh_row w0 base h

theorem run_append_empty (base : Nat) (ty : TypeId) (b0 c0 n0 : Nat) (xs : List Value) (w : World) (hown : w.ownsRow base 9 1 (.slice (some ⟨b0, 0, none⟩) n0 c0) n0 xs) (a : Option Addr) (c : Nat) :
    (Builtin.append_ #[22, 22] ty #[.slice (some ⟨b0, 0, none⟩) n0 c0, .slice a 0 c]).run Tryz.prog w = .ok (.slice (some ⟨b0, 0, none⟩) n0 c0) w := by
  obtain ⟨i0, hi, hz0, hz1, hz2⟩ := info_parts strInfo'
  have ht := Tryz.underlying22
  rcases hown.2 with ⟨e, _⟩ | ⟨g, cap, cur, e, _, _, hnc, _⟩
  · cases e
  · simp only [Value.slice.injEq] at e
    obtain ⟨_, _, rfl⟩ := e
    cases a with
    | none => simp [Builtin.append_, run_underlying ht, sizeOf, typeInfo, hi, Builtin.lenOf, Builtin.firstCells, hnc, storeCells]
    | some ad => simp [Builtin.append_, run_underlying ht, sizeOf, typeInfo, hi, Builtin.lenOf, Builtin.firstCells, hnc, storeCells, loadCells, loadCellsFrom]

/-- append of a list of texts to a row of one's own. -/
theorem run_append_strs (base : Nat) (ty : TypeId) (b0 c0 n0 : Nat) (xs : List Value) (w : World) (hown : w.ownsRow base 9 1 (.slice (some ⟨b0, 0, none⟩) n0 c0) n0 xs) (B : Nat → Prop) (na : Option Addr) (nn nc : Nat) (names : List ByteArray) (hnv : StrSl B w (.slice na nn nc) names) (h63 : n0 + nn ≤ 1000000) (hbase : base ≤ w.heap.size) :
    ∃ g cap w', (Builtin.append_ #[22, 22] ty #[.slice (some ⟨b0, 0, none⟩) n0 c0, .slice na nn nc]).run Tryz.prog w = .ok (.slice (some ⟨g, 0, none⟩) (n0 + nn) cap) w' ∧ w'.ownsRow base 9 1 (.slice (some ⟨g, 0, none⟩) (n0 + nn) cap) (n0 + nn) (xs ++ names.map .string) ∧ w.grownBy w' (some b0) := by
  obtain ⟨i0, hi, hz0, hz1, hz2⟩ := info_parts strInfo'
  rcases hnv.1 with ⟨⟨a, c, e⟩, rfl⟩ | ⟨b, o, c, e, _, _, hrow⟩
  · cases e
    refine ⟨b0, c0, w, run_append_empty base ty b0 c0 n0 xs w hown na nc, by simpa using hown, ⟨rfl, rfl, rfl, Nat.le_refl _, fun _ _ _ => rfl⟩⟩
  · cases e
    obtain ⟨v', w', hr, h2, h3, h4, _⟩ := run_append_own_at (P := Tryz.prog) w base 22 ty 9 i0 _ 1 16 Tryz.underlying22 hi hz0 hz1 hz2 rfl (by decide) _ _ xs hown ⟨b, o, none⟩ names.length nc (names.map .string) (by simp) (fun j u hj => by
      rw [List.getElem?_map] at hj
      cases hx : names[j]? with
      | none => simp [hx] at hj
      | some x => simp [hx] at hj; subst hj; have hc := hrow j x hx; cases j with | zero => simpa [Addr.add] using hc | succ j => simpa [Addr.add] using hc) (fun u hu => by
      obtain ⟨x, _, rfl⟩ := List.mem_map.1 hu; rfl) (by unfold maxLen; omega) (by omega) hbase
    rcases h2.2 with ⟨rfl, h0⟩ | ⟨g, cap, cur, rfl, r⟩
    · have := h4.1 rfl
      cases this.1
    · exact ⟨g, cap, w', hr, h2, h3⟩

theorem step_append_strs {ops : Array Oper} {o : Oper} {a : Act} {w : World} {K : Act → World → Prop} {Q : Exit → Act → World → Prop} {E : Prop} (hgd : o.guard = none) (s x : Operand)
    (ho : o.op = .call { callee := .builtin .append, args := #[s, x], argTypes := #[22, 22] })
    (base b0 c0 n0 : Nat) (xs : List Value) (hs : a.eval s = .slice (some ⟨b0, 0, none⟩) n0 c0) (hown : w.ownsRow base 9 1 (.slice (some ⟨b0, 0, none⟩) n0 c0) n0 xs)
    (B : Nat → Prop) (na : Option Addr) (nn nc : Nat) (names : List ByteArray) (hx : a.eval x = .slice na nn nc) (hnv : StrSl B w (.slice na nn nc) names) (h63 : n0 + nn ≤ 1000000) (m : Nat) (zs : List Value) (hm : n0 + nn = m) (hz : xs ++ names.map .string = zs) (hbase : base ≤ w.heap.size)
    (h : ∀ g cap w', w'.ownsRow base 9 1 (.slice (some ⟨g, 0, none⟩) m cap) m zs → w.grownBy w' (some b0) → K (a.put o.dst (.slice (some ⟨g, 0, none⟩) m cap)) w') :
    if Region.wanted o (yielded ops a.tmps) = true then Oper.wp Tryz.prog o a w K Q else E := by
  subst hm hz
  have hw : Region.wanted o (yielded ops a.tmps) = true := by simp [Region.wanted, hgd]
  rw [if_pos hw]
  obtain ⟨g, cap, w', hr, h2, h3⟩ := run_append_strs base o.type b0 c0 n0 xs w hown B na nn nc names hnv h63 hbase
  unfold Oper.wp execOp
  simp only [ho, resolve, invoke, builtin, Sem.run_bind, Sem.run_pure, Result.andThen_ok, List.map_toArray, List.map_cons, List.map_nil, hs, hx, hr]
  exact h g cap w' h2 h3

theorem own_block {W : World} {base : Nat} {e : TypeId} {size : Nat} {g n cap : Nat} {xs : List Value} (h : W.ownsRow base e size (.slice (some ⟨g, 0, none⟩) n cap) n xs) : base ≤ g ∧ g < W.heap.size := by
  rcases h.2 with ⟨h, _⟩ | ⟨g', cap', cur, hv, hb, hg, _⟩
  · cases h
  · simp only [Value.slice.injEq, Option.some.injEq, Addr.mk.injEq, and_true, true_and] at hv
    obtain ⟨rfl, _⟩ := hv
    refine ⟨hb, ?_⟩
    rcases Nat.lt_or_ge g W.heap.size with hlt | hge
    · exact hlt
    · rw [Array.getElem?_eq_none hge] at hg; cases hg
theorem strSl_one {W : World} {b : Nat} {n : ByteArray} (h : W.cell? ⟨b, 0, none⟩ = some (.string n)) (hn : n.size ≤ maxLen) : StrSl (fun _ => True) W (.slice (some ⟨b, 0, none⟩) 1 1) [n] :=
  ⟨.inr ⟨b, 0, 1, rfl, trivial, Nat.le_refl _, fun j s hj => by
    cases j with
    | zero => simp at hj; subst hj; exact h
    | succ j => simp at hj⟩, by simp [maxLen], fun s hs => by simp at hs; subst hs; exact hn⟩
theorem kidsR_one (names : List ByteArray) (g : Nat) (t : Ty) : kidsR names g true 0 [t] = nodeR names g true t := by
  simp only [kidsR, Bool.true_or]
  split
  · next h => exact h.symm
  · rfl

set_option maxHeartbeats 4000000 in
set_option maxRecDepth 100000 in
theorem rnode_rec (B : Nat → Prop) (k p s : Int) (n : ByteArray) (lv kv nv : Value) (names : List ByteArray) (g : Nat) (se : Bool) (ls : List ByteArray) (ts : List Ty) (hn : n.size ≤ maxLen) (w : World) (hB : Low B w) (hl : StrSl B w lv ls) (hkv : TySl B w kv ts) (hnv : StrSl B w nv names)
    (ih : ∀ t ∈ ts, NodeAt t) (hd : names.length + Ty.depths ts < 1000) (hk : k = 8) (hs : shapeC k p s n ls ts.length = true) :
    Calls Tryz.prog 40 #[.agg #[.int .i64 k, .int .i64 p, .string n, .int .i64 s, lv, kv], nv, .int .i64 g, .bool se] w fun e w' => e = .returned (.int .i64 (kidsR (names ++ [n]) g true 0 ts)) ∧ Below w.heap.size w w' := by
  subst hk
  have hS : ∀ W, Below w.heap.size w W → Calls Tryz.prog 58 #[.agg #[.int .i64 8, .int .i64 p, .string n, .int .i64 s, lv, kv]] W fun e w' => e = .returned (.bool true) ∧ Below W.heap.size W w' := fun W hW => by
    rw [← hs]; exact rshape_any B 8 p s n lv kv ls ts hn W (hB.le hW.size) (hl.keep (hW.keeps'.mono hB)) (hkv.keep (hW.keeps'.mono hB))
  have HS := Lib.hid hS
  have hone : ts.length = 1 := by
    rw [shapeC, if_neg (by omega), if_neg (by omega), if_neg (by omega), if_pos rfl] at hs; simp at hs; exact hs.2.2.2.2
  obtain ⟨t, rfl⟩ : ∃ t, ts = [t] := by
    match ts, hone with
    | [t], _ => exact ⟨t, rfl⟩
  obtain ⟨pa, len, c, rfl, hlen, hm, hget⟩ := hkv.open
  obtain ⟨la, ln, lc, rfl, hlln, hlm, hlget⟩ := hl.open
  have HN := Lib.hid (rsess_is 8 p s n (.slice la ln lc) (.slice pa len c) true rfl)
  have hlen1 : len = 1 := hlen.out
  subst hlen1
  obtain ⟨kb, ko, rfl, hkb, hty⟩ := hget 0 t rfl
  obtain ⟨la1, ln1, lc1, ka1, kn1, kc1, ⟨d0, d1, d2, d3, d4, d5⟩, hval⟩ := hty.load'
  have HNV := Lib.hid hnv
  obtain ⟨na, nn, nc, rfl, hnln, hnm, hnget⟩ := hnv.open
  simp only [Nat.zero_mul, Nat.add_zero] at d0 d1 d2 d3 d4 d5
  have IH := Lib.hid (ih t (by simp))
  have HD := Lib.hid hd
  clear hget hlget hl hkv hS hlln hs hnget hnv hlen hone ih hd
  have HNS := Lib.hid hn
  clear hn
  cases se
  all_goals
    go_enter Tryz.func40, Tryz.ntmps40
    go_wp2_with (first | (go_at_call 58; refine (HS.out _ (blkBelow w _ _)).mono ?_; rintro e w2 ⟨rfl, hb2⟩; obtain ⟨hcl, hfz⟩ := bcell hb2) | (go_at_call 59; refine (HN.out _).mono ?_; rintro e w3 ⟨rfl, hb3⟩; obtain ⟨hcl3, hfz3⟩ := bcell (below_seq hb2 hb3)))
    clear HS HN hcl hfz
    try clear hcl3 hfz3
    obtain ⟨W2, hW2, hbw⟩ : ∃ W2, W2 = (by first | exact w3 | exact w2) ∧ Below (w.heap.size + 1) (box1 w 8 p n s (.slice la ln lc) (.slice (some ⟨kb, ko, none⟩) 1 c)) W2 := ⟨_, rfl, by unfold box1; first | (simpa using below_seq hb2 hb3) | (simpa using hb2)⟩
    rw [← hW2]
    clear hW2 hb2
    try clear hb3
    have hkw := hB kb hkb
    have cells : ∀ W, Below (w.heap.size + 1) (box1 w 8 p n s (.slice la ln lc) (.slice (some ⟨kb, ko, none⟩) 1 c)) W → (W.cell? ⟨w.heap.size, 5, none⟩ = some (.slice (some ⟨kb, ko, none⟩) 1 c) ∧ W.cell? ⟨w.heap.size, 2, none⟩ = some (.string n) ∧ W.cell? ⟨kb, ko, none⟩ = some (.int .i64 t.k) ∧ W.cell? ⟨kb, ko + 1, none⟩ = some (.int .i64 t.p) ∧ W.cell? ⟨kb, ko + 2, none⟩ = some (.string t.n) ∧ W.cell? ⟨kb, ko + 3, none⟩ = some (.int .i64 t.s) ∧ W.cell? ⟨kb, ko + 4, none⟩ = some (.slice la1 ln1 lc1) ∧ W.cell? ⟨kb, ko + 5, none⟩ = some (.slice ka1 kn1 kc1)) ∧ Hid (Below (w.heap.size + 1) (box1 w 8 p n s (.slice la ln lc) (.slice (some ⟨kb, ko, none⟩) 1 c)) W) := fun W hW =>
      ⟨⟨blk_cell hW 5 rfl, blk_cell hW 2 rfl, ((blk_below hW).cell (p := ⟨kb, _, none⟩) hkw).trans d0, ((blk_below hW).cell (p := ⟨kb, _, none⟩) hkw).trans d1, ((blk_below hW).cell (p := ⟨kb, _, none⟩) hkw).trans d2, ((blk_below hW).cell (p := ⟨kb, _, none⟩) hkw).trans d3, ((blk_below hW).cell (p := ⟨kb, _, none⟩) hkw).trans d4, ((blk_below hW).cell (p := ⟨kb, _, none⟩) hkw).trans d5⟩, Lib.hid hW⟩
    obtain ⟨⟨f5, f2, g0, g1, g2, g3, g4, g5⟩, HB⟩ := cells W2 hbw
    have CE := Lib.hid cells
    have hsz2 : w.heap.size + 1 ≤ W2.heap.size := by have := hbw.size; rwa [box1_size] at this
    clear cells d0 d1 d2 d3 d4 d5 hbw
    have HNK : Hid (∀ W, Below (w.heap.size + 1) (box1 w 8 p n s (.slice la ln lc) (.slice (some ⟨kb, ko, none⟩) 1 c)) W → StrSl B W (.slice na nn nc) names) := Lib.hid (fun W hW => HNV.out.keep ((blk_below hW).keeps'.mono hB))
    have hnn : 0 + nn ≤ 1000000 := by have := HD.out; have := hnln.out; omega
    have hnn1 : nn + 1 ≤ 1000000 := by have := HD.out; have := hnln.out; omega
    have HC : Hid (∀ (W6 : World) (g2 cap2 : Nat), Below (w.heap.size + 1) (box1 w 8 p n s (.slice la ln lc) (.slice (some ⟨kb, ko, none⟩) 1 c)) W6 → W6.ownsRow (w.heap.size + 1) 9 1 (.slice (some ⟨g2, 0, none⟩) (nn + 1) cap2) (nn + 1) ((names ++ [n]).map .string) →
        Calls Tryz.prog 40 #[.agg #[.int .i64 t.k, .int .i64 t.p, .string t.n, .int .i64 t.s, .slice la1 ln1 lc1, .slice ka1 kn1 kc1], .slice (some ⟨g2, 0, none⟩) (nn + 1) cap2, .int .i64 g, .bool true] W6 fun e w' => e = .returned (.int .i64 (kidsR (names ++ [n]) g true 0 [t])) ∧ Below W6.heap.size W6 w') := Lib.hid (fun W6 g2 cap2 hB6 ho6 => by
      have hq := blk_below hB6
      rw [kidsR_one]
      refine IH.out (fun k => k < W6.heap.size) (names ++ [n]) g true _ _ W6 (fun _ h => h) ((hval.keep (hq.keeps'.mono hB)).mono (fun k hk => Nat.lt_of_lt_of_le (hB k hk) hq.size)) (strSl_of_row ho6 hnn1 (fun x hx => ?_)) ?_
      · rcases List.mem_append.1 hx with hx | hx
        · exact HNV.out.2.2 x hx
        · simp at hx; subst hx; exact HNS.out
      · have := HD.out; simp [Ty.depths] at this ⊢; omega)
    go_region_held_law (fun W => W.cell? ⟨w.heap.size, 5, none⟩ = some (.slice (some ⟨kb, ko, none⟩) 1 c) ∧ W.cell? ⟨w.heap.size, 2, none⟩ = some (.string n) ∧ W.cell? ⟨kb, ko, none⟩ = some (.int .i64 t.k) ∧ W.cell? ⟨kb, ko + 1, none⟩ = some (.int .i64 t.p) ∧ W.cell? ⟨kb, ko + 2, none⟩ = some (.string t.n) ∧ W.cell? ⟨kb, ko + 3, none⟩ = some (.int .i64 t.s) ∧ W.cell? ⟨kb, ko + 4, none⟩ = some (.slice la1 ln1 lc1) ∧ W.cell? ⟨kb, ko + 5, none⟩ = some (.slice ka1 kn1 kc1))
      (first | go_keep | exact (CE.out _ HB3.out).1 | exact (CE.out _ HB2.out).1 | exact (CE.out _ HB1.out).1 | fail)
      (first
        | (refine step_append_strs (by rfl) _ _ (by rfl) (w.heap.size + 1) W2.heap.size 0 0 [] ?_ ?_ B na nn nc names ?_ ?_ hnn nn (names.map .string) (Nat.zero_add nn) (List.nil_append _) ?_ ?_
           · rfl
           · (repeat (first | (with_reducible refine fresh_row' _ _ _ ?_ ?_ <;> first | omega | rfl | (simp; omega) | (simp; done)) | with_reducible refine World.ownsRow.alloc ?_ _ | with_reducible refine World.ownsRow.drew ?_))
           · rfl
           · exact HNK.out _ (by (repeat (first | with_reducible exact HB.out | with_reducible apply Below.drew | (with_reducible refine Below.alloc ?_ ?_ _; rotate_left; (first | omega | (simp; omega) | (simp; done))))))
           · (simp; omega)
           intro g1 cap1 w5 hown1 hgrow
           have HB1 := Lib.hid (Below.grown (B := w.heap.size + 1) (a := box1 w 8 p n s (.slice la ln lc) (.slice (some ⟨kb, ko, none⟩) 1 c)) (by (repeat (first | with_reducible exact HB.out | with_reducible apply Below.drew | (with_reducible refine Below.alloc ?_ ?_ _; rotate_left; (first | omega | (simp; omega) | (simp; done)))))) hgrow (by simp; omega) (fun k e => by cases e; omega))
           have hz5 : W2.heap.size ≤ w5.heap.size := Nat.le_trans (by first | (simp; done) | (simp; omega)) hgrow.size)
        | (refine step_append_strs (by rfl) _ _ (by rfl) (w.heap.size + 1) (W2.heap.size + 1) 0 0 [] ?_ ?_ B na nn nc names ?_ ?_ hnn nn (names.map .string) (Nat.zero_add nn) (List.nil_append _) ?_ ?_
           · rfl
           · (repeat (first | (with_reducible refine fresh_row' _ _ _ ?_ ?_ <;> first | omega | rfl | (simp; omega) | (simp; done)) | with_reducible refine World.ownsRow.alloc ?_ _ | with_reducible refine World.ownsRow.drew ?_))
           · rfl
           · exact HNK.out _ (by (repeat (first | with_reducible exact HB.out | with_reducible apply Below.drew | (with_reducible refine Below.alloc ?_ ?_ _; rotate_left; (first | omega | (simp; omega) | (simp; done))))))
           · (simp; omega)
           intro g1 cap1 w5 hown1 hgrow
           have HB1 := Lib.hid (Below.grown (B := w.heap.size + 1) (a := box1 w 8 p n s (.slice la ln lc) (.slice (some ⟨kb, ko, none⟩) 1 c)) (by (repeat (first | with_reducible exact HB.out | with_reducible apply Below.drew | (with_reducible refine Below.alloc ?_ ?_ _; rotate_left; (first | omega | (simp; omega) | (simp; done)))))) hgrow (by simp; omega) (fun k e => by cases e; omega))
           have hz5 : W2.heap.size ≤ w5.heap.size := Nat.le_trans (by first | (simp; done) | (simp; omega)) hgrow.size)
        | (refine step_append_strs (by rfl) _ _ (by rfl) (w.heap.size + 1) g1 cap1 nn (names.map .string) ?_ ?_ (fun _ => True) (some ⟨w5.heap.size, 0, none⟩) 1 1 [n] ?_ ?_ hnn1 (nn + 1) ((names ++ [n]).map .string) rfl (by rw [List.map_append]) ?_ ?_
           · rfl
           · (first | exact hown1 | exact hown1.drew | exact (hown1.alloc _).drew | exact (hown1.alloc _))
           · rfl
           · (refine strSl_one ?_ HNS.out; first | (simp; done) | (exact hgrow.cell (by simp) (by simp)) | (exact hgrow.cell (by simp) (by simp; omega)) | (simp; exact hgrow.cell (by simp) (by simp)))
           · (first | omega | (simp; omega))
           intro g2 cap2 w6 hown2 hgrow2
           have HB2 := Lib.hid (Below.grown (B := w.heap.size + 1) (a := box1 w 8 p n s (.slice la ln lc) (.slice (some ⟨kb, ko, none⟩) 1 c)) (by (repeat (first | with_reducible exact HB1.out | with_reducible apply Below.drew | (with_reducible refine Below.alloc ?_ ?_ _; rotate_left; (first | omega | (simp; omega) | (simp; done)))))) hgrow2 (by first | omega | (simp; omega)) (fun k e => by cases e; exact (own_block hown1).1))
           have hz6 : w5.heap.size ≤ w6.heap.size := Nat.le_trans (by first | (simp; done) | (simp; omega)) hgrow2.size)
        | (refine step_append_strs (by rfl) _ _ (by rfl) (w.heap.size + 1) g1 cap1 nn (names.map .string) ?_ ?_ (fun _ => True) (some ⟨W2.heap.size, 0, none⟩) 1 1 [n] ?_ ?_ hnn1 (nn + 1) ((names ++ [n]).map .string) rfl (by rw [List.map_append]) ?_ ?_
           · rfl
           · (first | exact hown1 | exact hown1.drew | exact (hown1.alloc _).drew | exact (hown1.alloc _))
           · rfl
           · (refine strSl_one ?_ HNS.out; first | (simp; done) | (exact hgrow.cell (by simp) (by simp)) | (exact hgrow.cell (by simp) (by simp; omega)) | (simp; exact hgrow.cell (by simp) (by simp)))
           · (first | omega | (simp; omega))
           intro g2 cap2 w6 hown2 hgrow2
           have HB2 := Lib.hid (Below.grown (B := w.heap.size + 1) (a := box1 w 8 p n s (.slice la ln lc) (.slice (some ⟨kb, ko, none⟩) 1 c)) (by (repeat (first | with_reducible exact HB1.out | with_reducible apply Below.drew | (with_reducible refine Below.alloc ?_ ?_ _; rotate_left; (first | omega | (simp; omega) | (simp; done)))))) hgrow2 (by first | omega | (simp; omega)) (fun k e => by cases e; exact (own_block hown1).1))
           have hz6 : w5.heap.size ≤ w6.heap.size := Nat.le_trans (by first | (simp; done) | (simp; omega)) hgrow2.size)
        | (refine step_append_strs (by rfl) _ _ (by rfl) (w.heap.size + 1) g1 cap1 nn (names.map .string) ?_ ?_ (fun _ => True) (some ⟨(W2.heap.size + 1), 0, none⟩) 1 1 [n] ?_ ?_ hnn1 (nn + 1) ((names ++ [n]).map .string) rfl (by rw [List.map_append]) ?_ ?_
           · rfl
           · (first | exact hown1 | exact hown1.drew | exact (hown1.alloc _).drew | exact (hown1.alloc _))
           · rfl
           · (refine strSl_one ?_ HNS.out; first | (simp; done) | (exact hgrow.cell (by simp) (by simp)) | (exact hgrow.cell (by simp) (by simp; omega)) | (simp; exact hgrow.cell (by simp) (by simp)))
           · (first | omega | (simp; omega))
           intro g2 cap2 w6 hown2 hgrow2
           have HB2 := Lib.hid (Below.grown (B := w.heap.size + 1) (a := box1 w 8 p n s (.slice la ln lc) (.slice (some ⟨kb, ko, none⟩) 1 c)) (by (repeat (first | with_reducible exact HB1.out | with_reducible apply Below.drew | (with_reducible refine Below.alloc ?_ ?_ _; rotate_left; (first | omega | (simp; omega) | (simp; done)))))) hgrow2 (by first | omega | (simp; omega)) (fun k e => by cases e; exact (own_block hown1).1))
           have hz6 : w5.heap.size ≤ w6.heap.size := Nat.le_trans (by first | (simp; done) | (simp; omega)) hgrow2.size)
        | (go_simp
           go_at_call 40
           refine (HC.out _ _ _ (by (repeat (first | with_reducible exact HB2.out | with_reducible apply Below.drew | (with_reducible refine Below.alloc ?_ ?_ _; rotate_left; (first | omega | (simp; omega) | (simp; done)))))) (by first | exact hown2 | exact hown2.drew)).mono ?_
           rintro e w7 ⟨rfl, hb7⟩
           dsimp only
           have HB3 := Lib.hid (Below.trans (by (repeat (first | with_reducible exact HB2.out | with_reducible apply Below.drew | (with_reducible refine Below.alloc ?_ ?_ _; rotate_left; (first | omega | (simp; omega) | (simp; done))))) : Below (w.heap.size + 1) (box1 w 8 p n s (.slice la ln lc) (.slice (some ⟨kb, ko, none⟩) 1 c)) _) (hb7.mono (by first | omega | (simp; omega)))))
        | fail)
    all_goals (go_wp2_with fail)
    all_goals go_ret
    all_goals exact ⟨rfl, blk_below HB3.out⟩

theorem rnode_any : ∀ t : Ty, NodeAt t := by
  refine Ty.ind ?_
  intro k p n s ls ts ih B names g se v nv w hB hv hnv hd
  obtain ⟨lv, kv, rfl, hn, hl, hkv⟩ := hv
  simp only [Ty.k, Ty.p, Ty.n, Ty.s, Ty.ls, Ty.ts] at hn hl hkv ⊢
  rw [Ty.depth_eq] at hd
  simp only [Ty.ts] at hd
  rw [nodeR]
  by_cases hbad : shapeC k p s n ls ts.length = false ∨ (se = true ∧ sessK k = false)
  · rw [if_pos hbad]
    exact rnode_bad B k p s n lv kv nv g se ls ts hn w hB hl hkv hbad
  · rw [if_neg hbad]
    have hs : shapeC k p s n ls ts.length = true := by
      cases e : shapeC k p s n ls ts.length with
      | true => rfl
      | false => exact absurd (.inl e) hbad
    have hse : se = true → sessK k = true := fun h => by
      cases e : sessK k with
      | true => rfl
      | false => exact absurd (.inr ⟨h, e⟩) hbad
    by_cases h9 : k = 9
    · rw [if_pos h9]
      exact rnode_var B k p s n lv kv nv names g se ls ts hn w hB hl hkv hnv h9 hs
    · rw [if_neg h9]
      by_cases h8 : k = 8
      · rw [if_pos h8]
        exact rnode_rec B k p s n lv kv nv names g se ls ts hn w hB hl hkv hnv ih (by omega) h8 hs
      · rw [if_neg h8]
        exact rnode_kids B k p s n lv kv nv names g se ls ts hn w hB hl hkv hnv ih (by omega) ⟨h9, h8⟩ hs hse

end Go.Proofs.YtjmnaibbljakaaaGreatDoor
