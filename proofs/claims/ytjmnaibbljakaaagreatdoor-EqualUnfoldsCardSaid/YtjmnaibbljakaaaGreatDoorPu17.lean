/- Equality, laws: the fixed example. (and what follows from it) -/
import Derived.Test.YtjmnaibbljakaaaGreatDoorPu16

/- Equality, laws: the fixed example. -/
namespace Go.Proofs.YtjmnaibbljakaaaGreatDoor
open Go.RowKit Go.Deep Go.Shelf

/-- The cells of a type. -/
abbrev tyC (k p s : Int) (n : ByteArray) (la : Option Addr) (ln lc : Nat) (ka : Option Addr) (kn kc : Nat) : Array Value := #[.int .i64 k, .int .i64 p, .string n, .int .i64 s, .slice la ln lc, .slice ka kn kc]
theorem loopc_any (p k : Int) (w : World) : Calls Tryz.prog 19 #[.int .i64 p, .int .i64 k] w fun e w' => ∃ la ln lc ka kn kc, e = .returned (.agg (tyC 8 0 0 ⟨#[116]⟩ la ln lc ka kn kc)) ∧ Lies w' (.agg (tyC 8 0 0 ⟨#[116]⟩ la ln lc ka kn kc)) (loopT p k) ∧ Below w.heap.size w w' := loop_any p k w
theorem sendc_any (p : Int) (r : Ty) (v : Value) (w : World) (h : Lies w v r) : Calls Tryz.prog 20 #[.int .i64 p, v] w fun e w' => ∃ la ln lc ka kn kc, e = .returned (.agg (tyC 4 p 0 ⟨#[]⟩ la ln lc ka kn kc)) ∧ Lies w' (.agg (tyC 4 p 0 ⟨#[]⟩ la ln lc ka kn kc)) (sendT p r) ∧ Below w.heap.size w w' :=
  (send_any (fun k => k < w.heap.size) p r v w (lies_low w) h).mono fun _ _ ⟨la, ln, lc, ka, kn, kc, he, hv, hb⟩ => ⟨la, ln, lc, ka, kn, kc, he, hv.mono (fun _ hk => hk.elim (fun h => Nat.lt_of_lt_of_le h hb.size) (fun h => h.2)), hb⟩
/-- The cells of a type in a block of its own. -/
theorem six_at {W : World} {b : Nat} {k p s : Int} {n : ByteArray} {la : Option Addr} {ln lc : Nat} {ka : Option Addr} {kn kc : Nat} (h : W.heap[b]? = some (.cells (tyC k p s n la ln lc ka kn kc) 25)) :
    W.cell? ⟨b, 0, none⟩ = some (.int .i64 k) ∧ W.cell? ⟨b, 1, none⟩ = some (.int .i64 p) ∧ W.cell? ⟨b, 2, none⟩ = some (.string n) ∧ W.cell? ⟨b, 3, none⟩ = some (.int .i64 s) ∧ W.cell? ⟨b, 4, none⟩ = some (.slice la ln lc) ∧ W.cell? ⟨b, 5, none⟩ = some (.slice ka kn kc) := by
  refine ⟨?_, ?_, ?_, ?_, ?_, ?_⟩ <;> simp [World.cell?, h]
theorem four_ts {W5 W6 : World} {t1 t2 t3 t4 : Ty} {k1 p1 s1 k2 p2 s2 k3 p3 s3 k4 p4 s4 : Int} {n1 n2 n3 n4 : ByteArray} {u1 v1 u2 v2 u3 v3 u4 v4 : Value} (hW : W5.alloc (.cells #[.int .i64 k1, .int .i64 p1, .string n1, .int .i64 s1, u1, v1, .int .i64 k2, .int .i64 p2, .string n2, .int .i64 s2, u2, v2, .int .i64 k3, .int .i64 p3, .string n3, .int .i64 s3, u3, v3, .int .i64 k4, .int .i64 p4, .string n4, .int .i64 s4, u4, v4] 25) = W6)
    (h1 : Lies W5 (.agg #[.int .i64 k1, .int .i64 p1, .string n1, .int .i64 s1, u1, v1]) t1) (h2 : Lies W5 (.agg #[.int .i64 k2, .int .i64 p2, .string n2, .int .i64 s2, u2, v2]) t2) (h3 : Lies W5 (.agg #[.int .i64 k3, .int .i64 p3, .string n3, .int .i64 s3, u3, v3]) t3) (h4 : Lies W5 (.agg #[.int .i64 k4, .int .i64 p4, .string n4, .int .i64 s4, u4, v4]) t4) :
    TySl (fun k => k < W6.heap.size) W6 (.slice (some ⟨W5.heap.size, 0, none⟩) 4 4) [t1, t2, t3, t4] := by
  have hb : Below W5.heap.size W5 W6 := by rw [← hW]; exact blkBelow W5 _ _
  have hs : W5.heap.size < W6.heap.size := by rw [← hW]; simp
  have hc : ∀ (j : Nat) (v : Value), #[.int .i64 k1, .int .i64 p1, .string n1, .int .i64 s1, u1, v1, .int .i64 k2, .int .i64 p2, .string n2, .int .i64 s2, u2, v2, .int .i64 k3, .int .i64 p3, .string n3, .int .i64 s3, u3, v3, .int .i64 k4, .int .i64 p4, .string n4, .int .i64 s4, u4, v4][j]? = some v → W6.cell? ⟨W5.heap.size, j, none⟩ = some v := fun j v hv => by rw [← hW]; exact blk_cell (Below.refl _ _) j hv
  refine ⟨.inr ⟨W5.heap.size, 0, 4, rfl, hs, ?_⟩, by simp [maxLen]⟩
  show TyAt _ _ t1 _ _ ∧ TyAt _ _ t2 _ _ ∧ TyAt _ _ t3 _ _ ∧ TyAt _ _ t4 _ _ ∧ True
  have q1 := lies_lies h1
  have q2 := lies_lies h2
  have q3 := lies_lies h3
  have q4 := lies_lies h4
  obtain ⟨rfl, rfl, rfl, rfl, _⟩ := q1
  obtain ⟨rfl, rfl, rfl, rfl, _⟩ := q2
  obtain ⟨rfl, rfl, rfl, rfl, _⟩ := q3
  obtain ⟨rfl, rfl, rfl, rfl, _⟩ := q4
  exact ⟨tyAt_of hs (hc 0 _ rfl) (hc 1 _ rfl) (hc 2 _ rfl) (hc 3 _ rfl) (hc 4 _ rfl) (hc 5 _ rfl) (h1.to hb), tyAt_of hs (hc 6 _ rfl) (hc 7 _ rfl) (hc 8 _ rfl) (hc 9 _ rfl) (hc 10 _ rfl) (hc 11 _ rfl) (h2.to hb), tyAt_of hs (hc 12 _ rfl) (hc 13 _ rfl) (hc 14 _ rfl) (hc 15 _ rfl) (hc 16 _ rfl) (hc 17 _ rfl) (h3.to hb), tyAt_of hs (hc 18 _ rfl) (hc 19 _ rfl) (hc 20 _ rfl) (hc 21 _ rfl) (hc 22 _ rfl) (hc 23 _ rfl) (h4.to hb), trivial⟩

set_option maxHeartbeats 16000000 in
set_option maxRecDepth 100000 in
theorem xawake_any (w : World) : Calls Tryz.prog 7 #[] w fun e w' => e = .returned (.bool true) ∧ Below w.heap.size w w' := by
  go_enter Tryz.func7, Tryz.ntmps7
  go_upto_region 2 with (go_at_call 19; go_loud (refine (loopc_any 0 1 _).mono ?_; rintro en w1 ⟨la, ma, na, ka, oa, pa, rfl, hv1, hb1⟩; replace hv1 := Lib.hid hv1; replace hb1 := Lib.hid hb1))
  obtain ⟨W1, hW1⟩ : ∃ W1, w1.alloc (.cells #[.int .i64 8, .int .i64 0, .string ⟨#[116]⟩, .int .i64 0, .slice la ma na, .slice ka oa pa] 25) = W1 := ⟨_, rfl⟩
  rw [hW1]
  have x1 : W1.heap[w1.heap.size]? = some (.cells (tyC 8 0 0 ⟨#[116]⟩ la ma na ka oa pa) 25) := by rw [← hW1]; exact World.alloc_heap_new _ _
  have hB1 : Below w1.heap.size w1 W1 := by rw [← hW1]; exact blkBelow w1 _ _
  have s1 : w1.heap.size < W1.heap.size := (Array.getElem?_eq_some_iff.1 x1).1
  have HB1 : Hid (Below w.heap.size w W1) := Lib.hid (below_seq hb1.out hB1)
  have HV1 : Hid (∀ W, Below W1.heap.size W1 W → Lies W (.agg (tyC 8 0 0 ⟨#[116]⟩ la ma na ka oa pa)) (loopT 0 1)) := Lib.hid (fun W hW => hv1.out.to (below_seq hB1 hW))
  have HX1 : Hid (∀ W, Below W1.heap.size W1 W → W.heap[w1.heap.size]? = some (.cells (tyC 8 0 0 ⟨#[116]⟩ la ma na ka oa pa) 25)) := Lib.hid (fun W hW => (hW.block _ s1).trans x1)
  clear hW1 x1 hB1 s1 hv1 hb1
  go_upto_region 3 with (first | (go_at_call 19; go_loud (refine (loopc_any 1 1 _).mono ?_; rintro en w2 ⟨lb, mb, nb, kb, ob, pb, rfl, hv2, hb2⟩; replace hv2 := Lib.hid hv2; replace hb2 := Lib.hid hb2)) | (go_at_call 20; go_loud (refine (sendc_any 0 _ _ _ hv2.out).mono ?_; rintro en w3 ⟨lc, mc, nc, kc, oc, pc, rfl, hv3, hb3⟩; replace hv3 := Lib.hid hv3; replace hb3 := Lib.hid hb3)))
  obtain ⟨W3, hW3⟩ : ∃ W3, w3.alloc (.cells #[.int .i64 4, .int .i64 0, .string ⟨#[]⟩, .int .i64 0, .slice lc mc nc, .slice kc oc pc] 25) = W3 := ⟨_, rfl⟩
  rw [hW3]
  have x3 : W3.heap[w3.heap.size]? = some (.cells (tyC 4 0 0 ⟨#[]⟩ lc mc nc kc oc pc) 25) := by rw [← hW3]; exact World.alloc_heap_new _ _
  have hB3 : Below w3.heap.size w3 W3 := by rw [← hW3]; exact blkBelow w3 _ _
  have s3 : w3.heap.size < W3.heap.size := (Array.getElem?_eq_some_iff.1 x3).1
  have HB13 : Hid (Below W1.heap.size W1 W3) := Lib.hid (below_seq (below_seq hb2.out hb3.out) hB3)
  have HV3 : Hid (∀ W, Below W3.heap.size W3 W → Lies W (.agg (tyC 4 0 0 ⟨#[]⟩ lc mc nc kc oc pc)) (sendT 0 (loopT 1 1))) := Lib.hid (fun W hW => hv3.out.to (below_seq hB3 hW))
  have HX3 : Hid (∀ W, Below W3.heap.size W3 W → W.heap[w3.heap.size]? = some (.cells (tyC 4 0 0 ⟨#[]⟩ lc mc nc kc oc pc) 25)) := Lib.hid (fun W hW => (hW.block _ s3).trans x3)
  clear hW3 x3 hB3 s3 hv2 hb2 hv3 hb3
  go_upto_region 4 with (first | (go_at_call 19; go_loud (refine (loopc_any 2 1 _).mono ?_; rintro en w4 ⟨ld, md, nd, kd, od, pd, rfl, hv4, hb4⟩; replace hv4 := Lib.hid hv4; replace hb4 := Lib.hid hb4)) | (go_at_call 20; go_loud (refine (sendc_any 0 _ _ _ hv4.out).mono ?_; rintro en w5 ⟨le, me, ne, ke, oe, pe, rfl, hv5, hb5⟩; replace hv5 := Lib.hid hv5; replace hb5 := Lib.hid hb5)))
  obtain ⟨W5, hW5⟩ : ∃ W5, w5.alloc (.cells #[.int .i64 4, .int .i64 0, .string ⟨#[]⟩, .int .i64 0, .slice le me ne, .slice ke oe pe] 25) = W5 := ⟨_, rfl⟩
  rw [hW5]
  have x5 : W5.heap[w5.heap.size]? = some (.cells (tyC 4 0 0 ⟨#[]⟩ le me ne ke oe pe) 25) := by rw [← hW5]; exact World.alloc_heap_new _ _
  have hB5 : Below w5.heap.size w5 W5 := by rw [← hW5]; exact blkBelow w5 _ _
  have HB35 : Hid (Below W3.heap.size W3 W5) := Lib.hid (below_seq (below_seq hb4.out hb5.out) hB5)
  have hv55 : Lies W5 (.agg (tyC 4 0 0 ⟨#[]⟩ le me ne ke oe pe)) (sendT 0 (loopT 2 1)) := hv5.out.to hB5
  have hv53 := HV3.out W5 HB35.out
  have HB15 : Hid (Below W1.heap.size W1 W5) := Lib.hid (below_seq HB13.out HB35.out)
  have hv51 := HV1.out W5 HB15.out
  obtain ⟨a0, a1, a2, a3, a4, a5⟩ := six_at (HX1.out W5 HB15.out)
  obtain ⟨c0, c1, c2, c3, c4, c5⟩ := six_at (HX3.out W5 HB35.out)
  obtain ⟨e0', e1, e2, e3, e4, e5⟩ := six_at x5
  have HB5 : Hid (Below w.heap.size w W5) := Lib.hid (below_seq HB1.out HB15.out)
  clear hW5 x5 hB5 hv4 hb4 hv5 hb5 HB1 HB13 HB35 HB15 HV1 HV3 HX1 HX3
  obtain ⟨W6, hW6⟩ : ∃ W6, W5.alloc (.cells #[.int .i64 8, .int .i64 0, .string ⟨#[116]⟩, .int .i64 0, .slice la ma na, .slice ka oa pa, .int .i64 4, .int .i64 0, .string ⟨#[]⟩, .int .i64 0, .slice lc mc nc, .slice kc oc pc, .int .i64 4, .int .i64 0, .string ⟨#[]⟩, .int .i64 0, .slice le me ne, .slice ke oe pe, .int .i64 3, .int .i64 0, .string ⟨#[]⟩, .int .i64 0, .slice none 0 0, .slice none 0 0] 25) = W6 := ⟨_, rfl⟩
  have hts := four_ts hW6 hv51 hv53 hv55 (lies_leaf W5 3 0 0 e0 (by decide))
  have HB6 : Hid (Below w.heap.size w W6) := Lib.hid (below_seq HB5.out (by rw [← hW6]; exact blkBelow W5 _ _))
  have HGR := Lib.hid (graph_any q4Ts _ W6 hts (by decide) (by decide) q4Right (by rw [q4Nodes]; decide) (by rw [q4Nodes]; decide) (by rw [q4Refs]; decide))
  rw [q4Nodes, q4Refs] at HGR
  have HW6 := Lib.hid hW6
  clear hts hv51 hv53 hv55 hW6 HB5
  go_upto_region 5 with (go_at_call 10; go_loud (refine ycalls_at HW6.out ?_; refine HGR.out.mono ?_; rintro en w8 ⟨na, nn, nc, ra, rn, rc, rfl, hn8, hr8, hb8⟩; have HN8 := Lib.hid hn8; have HR8 := Lib.hid hr8; have HB8 := Lib.hid (below_seq HB6.out hb8); clear hn8 hr8 hb8))
  clear a0 a1 a2 a3 a4 a5 c0 c1 c2 c3 c4 c5 e0' e1 e2 e3 e4 e5 HGR HB6 HW6
  obtain ⟨W9, hW9⟩ : ∃ W9, w8.alloc (.cells #[.slice na nn nc] 32) = W9 := ⟨_, rfl⟩
  have hb9 : Below w8.heap.size w8 W9 := by rw [← hW9]; exact blkBelow w8 _ _
  have x9 : W9.heap[w8.heap.size]? = some (grO na nn nc) := by rw [← hW9]; exact World.alloc_heap_new _ _
  have hs9 : w8.heap.size < W9.heap.size := (Array.getElem?_eq_some_iff.1 x9).1
  obtain rfl : nn = 11 := by
    obtain ⟨_, _, _, e, hl, _⟩ := HN8.out.open
    simp only [Value.slice.injEq] at e
    obtain ⟨_, rfl, _⟩ := e
    exact hl.out
  have HNG : Hid (∀ W, Below W9.heap.size W9 W → NodeSl (fun k => k < W.heap.size) W (.slice na 11 nc) q4Ns) := Lib.hid (fun W hW => by
    have b1 := below_seq hb9 hW
    exact (HN8.out.keep (b1.keeps'.mono (fun k hk => hk))).mono (fun k hk => Nat.lt_of_lt_of_le hk b1.size))
  obtain ⟨e9, rb, ro, rfl, hrc⟩ := refs_at HR8.out (by decide)
  obtain rfl : rn = 4 := e9
  have HS : Hid (∀ W, Below W9.heap.size W9 W → W.cell? ⟨w8.heap.size, 0, none⟩ = some (.slice na 11 nc) ∧ W.cell? ⟨rb, ro, none⟩ = some (.int .i64 0) ∧ W.cell? ⟨rb, ro + 1, none⟩ = some (.int .i64 0) ∧ W.cell? ⟨rb, ro + 2, none⟩ = some (.int .i64 2) ∧ W.cell? ⟨rb, ro + 3, none⟩ = some (.int .i64 0) ∧ W.cell? ⟨rb, ro + 4, none⟩ = some (.int .i64 6) ∧ W.cell? ⟨rb, ro + 5, none⟩ = some (.int .i64 0) ∧ W.cell? ⟨rb, ro + 6, none⟩ = some (.int .i64 10) ∧ W.cell? ⟨rb, ro + 7, none⟩ = some (.int .i64 0)) := Lib.hid (fun W hW => by
    have a1 : W.heap[w8.heap.size]? = _ := (hW.block _ hs9).trans x9
    have hW8 := below_seq hb9 hW
    obtain ⟨b0, b1⟩ := hrc W hW8 0 _ rfl
    obtain ⟨b2, b3⟩ := hrc W hW8 1 _ rfl
    obtain ⟨b4, b5⟩ := hrc W hW8 2 _ rfl
    obtain ⟨b6, b7⟩ := hrc W hW8 3 _ rfl
    exact ⟨by simp [World.cell?, a1], by simpa using b0, by simpa using b1, by simpa using b2, by simpa using b3, by simpa using b4, by simpa using b5, by simpa using b6, by simpa using b7⟩)
  have HB9 : Hid (Below w.heap.size w W9) := Lib.hid (below_seq HB8.out hb9)
  have HO1 : Hid (∀ q : Later W9.heap.size W9, Calls Tryz.prog 13 #[grV na 11 nc, .agg #[.int .i64 0, .int .i64 0], .agg #[.int .i64 2, .int .i64 7]] q.1 fun e w' => e = .returned (.tuple #[.int .i64 7, .bool true]) ∧ Below q.1.heap.size q.1 w') := Lib.hid (fun q => (offset_any q4Ns na 11 nc ⟨0, 0⟩ ⟨2, 7⟩ q.1 q4EqG (by decide) (HNG.out q.1 q.2) (by decide) (by decide) (by decide) (by decide)).mono fun e w' ⟨⟨r, he, hr⟩, hb⟩ => ⟨by
    rw [q4_off7] at he hr
    have h1 : r = true := hr.2 (q4Eqv.up 7)
    rw [h1] at he
    exact he, hb⟩)
  have HO2 : Hid (∀ q : Later W9.heap.size W9, Calls Tryz.prog 13 #[grV na 11 nc, .agg #[.int .i64 0, .int .i64 0], .agg #[.int .i64 6, .int .i64 0]] q.1 fun e w' => e = .returned (.tuple #[.int .i64 0, .bool false]) ∧ Below q.1.heap.size q.1 w') := Lib.hid (fun q => (offset_any q4Ns na 11 nc ⟨0, 0⟩ ⟨6, 0⟩ q.1 q4EqG (by decide) (HNG.out q.1 q.2) (by decide) (by decide) (by decide) (by decide)).mono fun e w' ⟨⟨r, he, hr⟩, hb⟩ => ⟨by
    rw [q4_off0] at he hr
    have h1 : r = false := Bool.eq_false_iff.2 (fun h => q4_not (hr.1 h))
    rw [h1] at he
    exact he, hb⟩)
  have HE1 : Hid (∀ W, Below W9.heap.size W9 W → Calls Tryz.prog 11 #[grV na 11 nc, .agg #[.int .i64 0, .int .i64 0], .agg #[.int .i64 2, .int .i64 0]] W fun e w' => e = .returned (.bool true) ∧ Below W.heap.size W w') := Lib.hid (fun W hW => (equal_any q4Ns na 11 nc ⟨0, 0⟩ ⟨2, 0⟩ W q4EqG (by decide) (HNG.out W hW) (by unfold Bd; decide) (by unfold Bd; decide)).mono fun e w' ⟨⟨r, he, hr⟩, hb⟩ => ⟨by rw [hr.2 q4Eqv] at he; exact he, hb⟩)
  have HE2 : Hid (∀ W, Below W9.heap.size W9 W → Calls Tryz.prog 11 #[grV na 11 nc, .agg #[.int .i64 0, .int .i64 0], .agg #[.int .i64 6, .int .i64 0]] W fun e w' => e = .returned (.bool false) ∧ Below W.heap.size W w') := Lib.hid (fun W hW => (equal_any q4Ns na 11 nc ⟨0, 0⟩ ⟨6, 0⟩ W q4EqG (by decide) (HNG.out W hW) (by unfold Bd; decide) (by unfold Bd; decide)).mono fun e w' ⟨⟨r, he, hr⟩, hb⟩ => ⟨by rw [Bool.eq_false_iff.2 (fun h => q4_not (hr.1 h))] at he; exact he, hb⟩)
  have HA1 : Hid (∀ W, Below W9.heap.size W9 W → Calls Tryz.prog 12 #[grV na 11 nc, .agg #[.int .i64 0, .int .i64 0], .agg #[.int .i64 6, .int .i64 0]] W fun e w' => e = .returned (.bool true) ∧ Below W.heap.size W w') := Lib.hid (fun W hW => (alike_any q4Ns na 11 nc ⟨0, 0⟩ ⟨6, 0⟩ W q4EqG (by decide) (HNG.out W hW) (by unfold Bd; decide) (by unfold Bd; decide)).mono fun e w' ⟨⟨r, he, hr⟩, hb⟩ => ⟨by rw [hr.2 q4_alike2] at he; exact he, hb⟩)
  have HA2 : Hid (∀ W, Below W9.heap.size W9 W → Calls Tryz.prog 12 #[grV na 11 nc, .agg #[.int .i64 0, .int .i64 0], .agg #[.int .i64 10, .int .i64 0]] W fun e w' => e = .returned (.bool false) ∧ Below W.heap.size W w') := Lib.hid (fun W hW => (alike_any q4Ns na 11 nc ⟨0, 0⟩ ⟨10, 0⟩ W q4EqG (by decide) (HNG.out W hW) (by unfold Bd; decide) (by unfold Bd; decide)).mono fun e w' ⟨⟨r, he, hr⟩, hb⟩ => ⟨by rw [Bool.eq_false_iff.2 (fun h => q4_notal (hr.1 h))] at he; exact he, hb⟩)
  have HCL : Hid (∀ W, Below W9.heap.size W9 W → Calls Tryz.prog 17 #[grV na 11 nc] W fun e w' => ∃ g c, e = .returned (.slice (some ⟨g, 0, none⟩) 11 c) ∧ (∀ W', Below w'.heap.size w' W' → W'.cell? ⟨g, 0, none⟩ = some (.int .i64 0) ∧ W'.cell? ⟨g, 2, none⟩ = some (.int .i64 0)) ∧ Below W.heap.size W w') := Lib.hid (fun W hW => (classes_any q4Ns na 11 nc W q4EqG q4Lab (by decide) (HNG.out W hW)).mono fun e w' ⟨a, m, c, R, he, hg, hr, hb⟩ => by
    obtain ⟨r0, r2, rl⟩ := q4_cls hr
    have i0 : (R.map natC)[0]? = some [.int .i64 0] := by
      rw [List.getElem?_map]
      cases h : R[0]? with
      | none => have := List.getElem?_eq_none_iff.1 h; omega
      | some v =>
        have : v = 0 := by simpa [List.getD_eq_getElem?_getD, h] using r0
        rw [this]; rfl
    have i2 : (R.map natC)[2]? = some [.int .i64 0] := by
      rw [List.getElem?_map]
      cases h : R[2]? with
      | none => have := List.getElem?_eq_none_iff.1 h; omega
      | some v =>
        have : v = 0 := by simpa [List.getD_eq_getElem?_getD, h] using r2
        rw [this]; rfl
    obtain ⟨g, cap, ev, _⟩ := hg.cell i0 (i := 0) rfl
    rw [List.length_map, rl] at ev
    rw [ev] at he hg
    refine ⟨g, cap, he, fun W' hW' => ?_, hb⟩
    have hg' := hg.to hW'
    obtain ⟨g0, cap0, ev0, z0⟩ := hg'.cell i0 (i := 0) rfl
    obtain ⟨g2, cap2, ev2, z2⟩ := hg'.cell i2 (i := 0) rfl
    simp only [Value.slice.injEq, Option.some.injEq, Addr.mk.injEq] at ev0 ev2
    obtain ⟨⟨rfl, _⟩, _⟩ := ev0
    obtain ⟨⟨rfl, _⟩, _⟩ := ev2
    exact ⟨z0, z2⟩)
  rw [show w8.alloc (.cells #[.slice na 11 nc] 32) = W9 from hW9]
  clear hb9 x9 hs9 hrc hW9 HN8 HR8 HNG HB8
  have g0 := fun q : Later W9.heap.size W9 => (HS.out q.1 q.2).1
  have g1 := fun q : Later W9.heap.size W9 => (HS.out q.1 q.2).2.1
  have g2 := fun q : Later W9.heap.size W9 => (HS.out q.1 q.2).2.2.1
  have g3 := fun q : Later W9.heap.size W9 => (HS.out q.1 q.2).2.2.2.1
  refine wp_region_later W9.heap.size W9 (by kernel_rfl) (by kernel_rfl) (Below.refl _ _) ?_
  repeat (go_big_quiet_step (first | (go_at_call 13; with_reducible exact later_call _ (Nat.le_refl _) (HO1.out _))))
  refine wpQuiet_nil ?_
  rintro wA ⟨⟨_, hbA⟩, rfl⟩
  clear g0 g1 g2 g3 HO1
  go_upto_region 6 with fail
  have g0 := fun q : Later W9.heap.size W9 => (HS.out q.1 q.2).1
  have g1 := fun q : Later W9.heap.size W9 => (HS.out q.1 q.2).2.1
  have g2 := fun q : Later W9.heap.size W9 => (HS.out q.1 q.2).2.2.1
  have g4 := fun q : Later W9.heap.size W9 => (HS.out q.1 q.2).2.2.2.2.2.1
  have g5 := fun q : Later W9.heap.size W9 => (HS.out q.1 q.2).2.2.2.2.2.2.1
  refine wp_region_later W9.heap.size W9 (by kernel_rfl) (by kernel_rfl) hbA ?_
  repeat (go_big_quiet_step (first | (go_at_call 13; with_reducible exact later_call _ (Nat.le_refl _) (HO2.out _))))
  refine wpQuiet_nil ?_
  rintro wB ⟨⟨_, hbB⟩, rfl⟩
  clear g0 g1 g2 g4 g5 HO2 hbA
  have HBB := Lib.hid hbB
  have gB := (HS.out wB hbB).1
  clear hbB
  go_upto_region 8 with (go_at_call 17; go_loud (refine (HCL.out _ HBB.out).mono ?_; rintro en wC ⟨g, c, rfl, hl, hbC⟩; have HL := Lib.hid hl; have HBC := Lib.hid hbC; clear hl hbC))
  clear gB HCL
  have HVC : Hid (Below W9.heap.size W9 wC) := Lib.hid (below_seq HBB.out HBC.out)
  have HLC : Hid (∀ q : Later wC.heap.size wC, q.1.cell? ⟨g, 0, none⟩ = some (.int .i64 0) ∧ q.1.cell? ⟨g, 2, none⟩ = some (.int .i64 0)) := Lib.hid (fun q => HL.out q.1 q.2)
  have HSC : Hid (∀ q : Later wC.heap.size wC, Below W9.heap.size W9 q.1) := Lib.hid (fun q => below_seq HVC.out q.2)
  have KE1 := Lib.hid (fun q : Later wC.heap.size wC => HE1.out q.1 (HSC.out q))
  have KE2 := Lib.hid (fun q : Later wC.heap.size wC => HE2.out q.1 (HSC.out q))
  have KA1 := Lib.hid (fun q : Later wC.heap.size wC => HA1.out q.1 (HSC.out q))
  have KA2 := Lib.hid (fun q : Later wC.heap.size wC => HA2.out q.1 (HSC.out q))
  have g0 := fun q : Later wC.heap.size wC => (HS.out q.1 (HSC.out q)).1
  have g1 := fun q : Later wC.heap.size wC => (HS.out q.1 (HSC.out q)).2.1
  have g2 := fun q : Later wC.heap.size wC => (HS.out q.1 (HSC.out q)).2.2.1
  have g3 := fun q : Later wC.heap.size wC => (HS.out q.1 (HSC.out q)).2.2.2.1
  have g3' := fun q : Later wC.heap.size wC => (HS.out q.1 (HSC.out q)).2.2.2.2.1
  have g4 := fun q : Later wC.heap.size wC => (HS.out q.1 (HSC.out q)).2.2.2.2.2.1
  have g5 := fun q : Later wC.heap.size wC => (HS.out q.1 (HSC.out q)).2.2.2.2.2.2.1
  have g6 := fun q : Later wC.heap.size wC => (HS.out q.1 (HSC.out q)).2.2.2.2.2.2.2.1
  have g7 := fun q : Later wC.heap.size wC => (HS.out q.1 (HSC.out q)).2.2.2.2.2.2.2.2
  have l0 := fun q : Later wC.heap.size wC => (HLC.out q).1
  have l2 := fun q : Later wC.heap.size wC => (HLC.out q).2
  clear HE1 HE2 HA1 HA2
  dsimp only [List.append]
  refine wp_region_later wC.heap.size wC (by kernel_rfl) (by kernel_rfl) (Below.refl _ _) ?_
  repeat (go_big_quiet_step (first | (go_at_call 11; with_reducible exact later_call _ (Nat.le_refl _) (KE1.out _)) | (go_at_call 11; with_reducible exact later_call _ (Nat.le_refl _) (KE2.out _)) | (go_at_call 12; with_reducible exact later_call _ (Nat.le_refl _) (KA1.out _)) | (go_at_call 12; with_reducible exact later_call _ (Nat.le_refl _) (KA2.out _))))
  refine wpQuiet_nil ?_
  rintro wD ⟨⟨_, hbD⟩, rfl⟩
  clear g0 g1 g2 g3 g3' g4 g5 g6 g7 l0 l2
  have HBD := Lib.hid hbD
  clear hbD
  go_wp2_with fail
  go_ret
  exact ⟨rfl, below_seq (below_seq HB9.out HVC.out) HBD.out⟩
end Go.Proofs.YtjmnaibbljakaaaGreatDoor
