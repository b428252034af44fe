/- Equality, laws: EqualUnfolds. (and what follows from it) -/
import Derived.Test.YtjmnaibbljakaaaGreatDoorPu18

/- Equality, laws: EqualUnfolds. -/
namespace Go.Proofs.YtjmnaibbljakaaaGreatDoor
open Go.RowKit Go.Deep Go.Shelf

theorem two_ts {W5 W6 : World} {t1 t2 : Ty} {k1 p1 s1 k2 p2 s2 : Int} {n1 n2 : ByteArray} {u1 v1 u2 v2 : Value} (hW : W5.alloc (.cells #[.int .i64 k1, .int .i64 p1, .string n1, .int .i64 s1, u1, v1, .int .i64 k2, .int .i64 p2, .string n2, .int .i64 s2, u2, v2] 25) = W6)
    (h1 : Lies W5 (.agg #[.int .i64 k1, .int .i64 p1, .string n1, .int .i64 s1, u1, v1]) t1) (h2 : Lies W5 (.agg #[.int .i64 k2, .int .i64 p2, .string n2, .int .i64 s2, u2, v2]) t2) :
    TySl (fun k => k < W6.heap.size) W6 (.slice (some ⟨W5.heap.size, 0, none⟩) 2 2) [t1, t2] := by
  have hb : Below W5.heap.size W5 W6 := by rw [← hW]; exact blkBelow W5 _ _
  have hs : W5.heap.size < W6.heap.size := by rw [← hW]; simp
  have hc : ∀ (j : Nat) (v : Value), #[.int .i64 k1, .int .i64 p1, .string n1, .int .i64 s1, u1, v1, .int .i64 k2, .int .i64 p2, .string n2, .int .i64 s2, u2, v2][j]? = some v → W6.cell? ⟨W5.heap.size, j, none⟩ = some v := fun j v hv => by rw [← hW]; exact blk_cell (Below.refl _ _) j hv
  refine ⟨.inr ⟨W5.heap.size, 0, 2, rfl, hs, ?_⟩, by simp [maxLen]⟩
  show TyAt _ _ t1 _ _ ∧ TyAt _ _ t2 _ _ ∧ True
  have q1 := lies_lies h1
  have q2 := lies_lies h2
  obtain ⟨rfl, rfl, rfl, rfl, _⟩ := q1
  obtain ⟨rfl, rfl, rfl, rfl, _⟩ := q2
  exact ⟨tyAt_of hs (hc 0 _ rfl) (hc 1 _ rfl) (hc 2 _ rfl) (hc 3 _ rfl) (hc 4 _ rfl) (hc 5 _ rfl) (h1.to hb), tyAt_of hs (hc 6 _ rfl) (hc 7 _ rfl) (hc 8 _ rfl) (hc 9 _ rfl) (hc 10 _ rfl) (hc 11 _ rfl) (h2.to hb), trivial⟩
/-- The cells of a type in a block, read later. -/
theorem six_later {W0 : World} {b : Nat} {k p s : Int} {n : ByteArray} {la : Option Addr} {ln lc : Nat} {ka : Option Addr} {kn kc : Nat} (h : W0.heap[b]? = some (.cells (tyC k p s n la ln lc ka kn kc) 25)) :
    ∀ W, Below W0.heap.size W0 W → W.cell? ⟨b, 0, none⟩ = some (.int .i64 k) ∧ W.cell? ⟨b, 1, none⟩ = some (.int .i64 p) ∧ W.cell? ⟨b, 2, none⟩ = some (.string n) ∧ W.cell? ⟨b, 3, none⟩ = some (.int .i64 s) ∧ W.cell? ⟨b, 4, none⟩ = some (.slice la ln lc) ∧ W.cell? ⟨b, 5, none⟩ = some (.slice ka kn kc) :=
  fun _ hW => six_at ((hW.block _ (Array.getElem?_eq_some_iff.1 h).1).trans h)

set_option maxHeartbeats 16000000 in
set_option maxRecDepth 100000 in
theorem EqualUnfolds_any (t : Ty) (k : Int) (hk : -32768 ≤ k ∧ k ≤ 32767) (v : Value) (w : World) (hv : Lies w v t) :
    Calls Tryz.prog 3 #[v, .int .i16 k] w fun e w' => e = .returned (.bool true) ∧ Below w.heap.size w w' := by
  have hv1 := hv
  obtain ⟨lv, kv, rfl, _, hl, hkk⟩ := hv1
  obtain ⟨la, ln, lc, rfl, _⟩ := hl.open
  obtain ⟨ka, kn, kc, rfl, _⟩ := hkk.open
  obtain ⟨W0, hW0⟩ : ∃ W0, w.alloc (.cells #[.int .i64 t.k, .int .i64 t.p, .string t.n, .int .i64 t.s, .slice la ln lc, .slice ka kn kc] 25) = W0 := ⟨_, rfl⟩
  have hb0 : Below w.heap.size w W0 := by rw [← hW0]; exact blkBelow w _ _
  have HX := Lib.hid (six_later (W0 := W0) (b := w.heap.size) (by rw [← hW0]; exact World.alloc_heap_new _ _))
  have HV : Hid (∀ W, Below W0.heap.size W0 W → Lies W (.agg #[.int .i64 t.k, .int .i64 t.p, .string t.n, .int .i64 t.s, .slice la ln lc, .slice ka kn kc]) t) := Lib.hid (fun W hW => hv.to (below_seq hb0 hW))
  have HSM : Hid (∀ W, Below W0.heap.size W0 W → Calls Tryz.prog 8 #[.agg #[.int .i64 t.k, .int .i64 t.p, .string t.n, .int .i64 t.s, .slice la ln lc, .slice ka kn kc], .int .i64 20] W fun e w' => e = .returned (.bool (smallB t 20)) ∧ Below W.heap.size W w') := Lib.hid (fun W hW => small_any t 20 (by decide) _ W (HV.out W hW))
  have HAW := Lib.hid xawake_any
  have HW0 := Lib.hid hW0
  have HB0 := Lib.hid hb0
  clear hl hkk hv hb0 hW0
  cases hf : smallB t 20
  · rw [hf] at HSM
    clear hf
    go_enter Tryz.func3, Tryz.ntmps3
    go_upto_region 1 with fail
    rw [show w.alloc (.cells #[.int .i64 t.k, .int .i64 t.p, .string t.n, .int .i64 t.s, .slice la ln lc, .slice ka kn kc] 25) = W0 from HW0.out]
    go_upto_region 2 with (first | (go_at_call 7; refine (HAW.out _).mono ?_; rintro en w3 ⟨rfl, hb3⟩; have HB3 := Lib.hid hb3; obtain ⟨x0, x1, x2, x3, x4, x5⟩ := HX.out w3 hb3; clear hb3) | (go_at_call 8; refine (HSM.out _ HB3.out).mono ?_; rintro en w4 ⟨rfl, hb4⟩; have HB4 := Lib.hid (below_seq HB3.out hb4); clear hb4))
    go_wp2_with (go_at_call 7; refine (HAW.out _).mono ?_; rintro en w5 ⟨rfl, hb5⟩)
    go_ret
    exact ⟨rfl, below_seq HB0.out (below_seq HB4.out hb5)⟩
  rw [hf] at HSM
  obtain ⟨hsz, hdp, hnr⟩ := small_has hf
  have huf := ufo_of hnr (by omega)
  obtain ⟨u, hu⟩ : ∃ u, unfT t = u := ⟨_, rfl⟩
  have huu : unfT t = unfT u := by rw [← hu, unfT_unfT huf.1]
  have hun : unfT u = u := by rw [← huu]; exact hu
  have HUN : Hid (∀ W, Below W0.heap.size W0 W → Calls Tryz.prog 9 #[.agg #[.int .i64 t.k, .int .i64 t.p, .string t.n, .int .i64 t.s, .slice la ln lc, .slice ka kn kc]] W fun e w' => ∃ ua un uc va vn vc, e = .returned (.agg #[.int .i64 u.k, .int .i64 u.p, .string u.n, .int .i64 u.s, .slice ua un uc, .slice va vn vc]) ∧ Lies w' (.agg #[.int .i64 u.k, .int .i64 u.p, .string u.n, .int .i64 u.s, .slice ua un uc, .slice va vn vc]) u ∧ Below W.heap.size W w') := Lib.hid (fun W hW => by
    have h := unfold_any t huf (fun k => k < W.heap.size) _ W (lies_low W) (HV.out W hW)
    rw [show t.unf t.rc = u from hu] at h
    exact h.mono fun e w' h => h.out)
  clear hf huf hu
  go_enter Tryz.func3, Tryz.ntmps3
  go_upto_region 1 with fail
  rw [show w.alloc (.cells #[.int .i64 t.k, .int .i64 t.p, .string t.n, .int .i64 t.s, .slice la ln lc, .slice ka kn kc] 25) = W0 from HW0.out]
  go_upto_region 3 with (first | (go_at_call 7; refine (HAW.out _).mono ?_; rintro en w3 ⟨rfl, hb3⟩; have HB3 := Lib.hid hb3; obtain ⟨x0, x1, x2, x3, x4, x5⟩ := HX.out w3 hb3; clear hb3) | (go_at_call 8; refine (HSM.out _ HB3.out).mono ?_; rintro en w4 ⟨rfl, hb4⟩; have HB4 := Lib.hid (below_seq HB3.out hb4); clear hb4 x0 x1 x2 x3 x4 x5; obtain ⟨x0, x1, x2, x3, x4, x5⟩ := HX.out w4 HB4.out))
  go_upto_region 4 with (go_at_call 9; go_loud (refine (HUN.out _ HB4.out).mono ?_; rintro en w5 ⟨ua, un, uc, va, vn, vc, rfl, hu5, hb5⟩; replace hu5 := Lib.hid hu5; replace hb5 := Lib.hid hb5))
  clear x0 x1 x2 x3 x4 x5
  obtain ⟨W5, hW5⟩ : ∃ W5, w5.alloc (.cells #[.int .i64 u.k, .int .i64 u.p, .string u.n, .int .i64 u.s, .slice ua un uc, .slice va vn vc] 25) = W5 := ⟨_, rfl⟩
  rw [hW5]
  have hB5 : Below w5.heap.size w5 W5 := by rw [← hW5]; exact blkBelow w5 _ _
  have HXU := Lib.hid (six_later (W0 := W5) (b := w5.heap.size) (by rw [← hW5]; exact World.alloc_heap_new _ _))
  have HVU : Hid (∀ W, Below W5.heap.size W5 W → Lies W (.agg #[.int .i64 u.k, .int .i64 u.p, .string u.n, .int .i64 u.s, .slice ua un uc, .slice va vn vc]) u) := Lib.hid (fun W hW => hu5.out.to (below_seq hB5 hW))
  have HB05 : Hid (Below W0.heap.size W0 W5) := Lib.hid (below_seq HB4.out (below_seq hb5.out hB5))
  have HSU : Hid (Calls Tryz.prog 8 #[.agg #[.int .i64 u.k, .int .i64 u.p, .string u.n, .int .i64 u.s, .slice ua un uc, .slice va vn vc], .int .i64 400] W5 fun e w' => e = .returned (.bool (smallB u 400)) ∧ Below W5.heap.size W5 w') := Lib.hid (small_any u 400 (by decide) _ W5 (HVU.out W5 (Below.refl _ _)))
  clear hW5 hB5 hu5 hb5 HB3 HB4 HUN HSM
  obtain ⟨x0, x1, x2, x3, x4, x5⟩ := HXU.out W5 (Below.refl _ _)
  cases hg : smallB u 400
  · rw [hg] at HSU
    clear hg
    go_wp2_with (go_at_call 8; refine HSU.out.mono ?_; rintro en w6 ⟨rfl, hb6⟩)
    go_ret
    exact ⟨rfl, below_seq HB0.out (below_seq HB05.out hb6)⟩
  rw [hg] at HSU
  obtain ⟨hsz2, hdp2, hnr2⟩ := small_has hg
  have hgr : GrOk [t, u] := GrOk.of (fun x hx => by
    simp only [List.mem_cons, List.not_mem_nil, or_false] at hx
    rcases hx with rfl | rfl
    · exact ⟨hdp, hnr⟩
    · exact ⟨hdp2, hnr2⟩) (by simp only [Ty.sizes]; omega) (fun x hx => by
    simp only [List.mem_cons, List.not_mem_nil, or_false] at hx
    rcases hx with rfl | rfl <;> omega)
  obtain ⟨r, q, hr, hq, heq, hrai⟩ := hgr.unfolds (i := 0) (j := 1) rfl rfl huu
  rw [huu, hun] at hrai
  go_upto_region 6 with (go_at_call 8; refine HSU.out.mono ?_; rintro en w6 ⟨rfl, hb6⟩; have HB6 := Lib.hid hb6; clear hb6)
  clear x0 x1 x2 x3 x4 x5 hg HSU
  obtain ⟨x0, x1, x2, x3, x4, x5⟩ := HXU.out w6 HB6.out
  obtain ⟨y0, y1, y2, y3, y4, y5⟩ := HX.out w6 (below_seq HB05.out HB6.out)
  obtain ⟨W7, hW7⟩ : ∃ W7, w6.alloc (.cells #[.int .i64 t.k, .int .i64 t.p, .string t.n, .int .i64 t.s, .slice la ln lc, .slice ka kn kc, .int .i64 u.k, .int .i64 u.p, .string u.n, .int .i64 u.s, .slice ua un uc, .slice va vn vc] 25) = W7 := ⟨_, rfl⟩
  have HB57 : Hid (Below W5.heap.size W5 W7) := Lib.hid (below_seq HB6.out (by rw [← hW7]; exact blkBelow w6 _ _))
  have HGR := Lib.hid (hgr.graph (by simp) _ W7 (two_ts hW7 (HV.out w6 (below_seq HB05.out HB6.out)) (HVU.out w6 HB6.out)))
  have HW7 := Lib.hid hW7
  clear hW7
  go_upto_region 7 with (go_at_call 10; go_loud (refine ycalls_at HW7.out ?_; refine HGR.out.mono ?_; rintro en w8 ⟨na, nn, nc, ra, rn, rc, rfl, hn8, hr8, hb8⟩; have HN8 := Lib.hid hn8; have HR8 := Lib.hid hr8; have HB8 := Lib.hid (below_seq HB57.out hb8); clear hn8 hr8 hb8))
  clear x0 x1 x2 x3 x4 x5 y0 y1 y2 y3 y4 y5 HGR HW7
  obtain ⟨ns, hns⟩ : ∃ ns, gNodes [t, u] = ns := ⟨_, rfl⟩
  have hG := hgr.eqG
  have hlen := hgr.len
  have hbr := hgr.bd hr
  have hbq := hgr.bd hq
  rw [hns] at HN8 heq hrai hG hlen hbr hbq
  obtain ⟨W9, hW9⟩ : ∃ W9, w8.alloc (.cells #[.slice na nn nc] 32) = W9 := ⟨_, rfl⟩
  have hb9 : Below w8.heap.size w8 W9 := by rw [← hW9]; exact blkBelow w8 _ _
  have x9 : W9.heap[w8.heap.size]? = some (grO na nn nc) := by rw [← hW9]; exact World.alloc_heap_new _ _
  have hs9 : w8.heap.size < W9.heap.size := (Array.getElem?_eq_some_iff.1 x9).1
  have HNG : Hid (∀ W, Below W9.heap.size W9 W → NodeSl (fun k => k < W.heap.size) W (.slice na nn nc) ns) := Lib.hid (fun W hW => by
    have b1 := below_seq hb9 hW
    exact (HN8.out.keep (b1.keeps'.mono (fun k hk => hk))).mono (fun k hk => Nat.lt_of_lt_of_le hk b1.size))
  obtain ⟨e9, rb, ro, rfl, hrc⟩ := refs_at HR8.out (by rw [hgr.refs]; simp)
  obtain rfl : rn = 2 := e9.trans hgr.refs
  have HS : Hid (∀ W, Below W9.heap.size W9 W → W.cell? ⟨w8.heap.size, 0, none⟩ = some (.slice na nn nc) ∧ W.cell? ⟨rb, ro, none⟩ = some (.int .i64 (r.n : Int)) ∧ W.cell? ⟨rb, ro + 1, none⟩ = some (.int .i64 r.s) ∧ W.cell? ⟨rb, ro + 2, none⟩ = some (.int .i64 (q.n : Int)) ∧ W.cell? ⟨rb, ro + 3, none⟩ = some (.int .i64 q.s)) := Lib.hid (fun W hW => by
    have a1 : W.heap[w8.heap.size]? = _ := (hW.block _ hs9).trans x9
    have hW8 := below_seq hb9 hW
    obtain ⟨b0, b1⟩ := hrc W hW8 0 _ hr
    obtain ⟨b2, b3⟩ := hrc W hW8 1 _ hq
    exact ⟨by simp [World.cell?, a1], by simpa using b0, by simpa using b1, by simpa using b2, by simpa using b3⟩)
  have HB9 : Hid (Below W5.heap.size W5 W9) := Lib.hid (below_seq HB8.out hb9)
  rw [show w8.alloc (.cells #[.slice na nn nc] 32) = W9 from hW9]
  have HUK : Hid (∀ W, Below W9.heap.size W9 W → W.cell? ⟨w5.heap.size, 0, none⟩ = some (.int .i64 u.k)) := Lib.hid (fun W hW => (HXU.out W (below_seq HB9.out hW)).1)
  have hek : IntKind.i64.wrap k = k := by rw [IntKind.wrap_i64]; omega
  have hwr : IntKind.i64.wrap (r.s + k) = r.s + k := by rw [IntKind.wrap_i64]; omega
  have hwq : IntKind.i64.wrap (q.s + k) = q.s + k := by rw [IntKind.wrap_i64]; omega
  clear e9 hb9 x9 hs9 hrc hW9 HN8 HR8 HB8 HB57 HV HVU HX HXU
  have S1 := HS.out W9 (Below.refl _ _)
  refine wp_region_held_drew (S := fun W => W.cell? ⟨w8.heap.size, 0, none⟩ = some (.slice na nn nc) ∧ W.cell? ⟨rb, ro, none⟩ = some (.int .i64 (r.n : Int)) ∧ W.cell? ⟨rb, ro + 1, none⟩ = some (.int .i64 r.s) ∧ W.cell? ⟨rb, ro + 2, none⟩ = some (.int .i64 (q.n : Int)) ∧ W.cell? ⟨rb, ro + 3, none⟩ = some (.int .i64 q.s)) (by kernel_rfl) S1 (fun hHeld => ?_)
  clear S1
  refine wpAnyH_take_l 0 (v := ?vb0) rfl rfl (by kernel_rfl) (by kernel_rfl) (by kernel_rfl) (fun _ _ _ h => h) ?hb0 (by assumption) ?rb0
  case hb0 => (intro w hSw; (try dsimp only at hSw); go_simp; try rfl)
  case' rb0 => simp only [setD, List.set_cons_succ, List.set_cons_zero]
  refine wpAnyH_take_l 1 (v := ?vb1) rfl rfl (by kernel_rfl) (by kernel_rfl) (by kernel_rfl) (fun _ _ _ h => h) ?hb1 (by assumption) ?rb1
  case hb1 => (intro w hSw; (try dsimp only at hSw); go_simp; try rfl)
  case' rb1 => simp only [setD, List.set_cons_succ, List.set_cons_zero]
  refine wpAnyH_take_l 2 (v := ?vb2) rfl rfl (by kernel_rfl) (by kernel_rfl) (by kernel_rfl) (fun _ _ _ h => h) ?hb2 (by assumption) ?rb2
  case hb2 => (intro w hSw; (try dsimp only at hSw); go_simp; try rfl)
  case' rb2 => simp only [setD, List.set_cons_succ, List.set_cons_zero]
  refine wpAnyH_take_l 3 (v := ?vb3) rfl rfl (by kernel_rfl) (by kernel_rfl) (by kernel_rfl) (fun _ _ _ h => h) ?hb3 (by assumption) ?rb3
  case hb3 => (intro w hSw; (try dsimp only at hSw); go_simp; try rfl)
  case' rb3 => simp only [setD, List.set_cons_succ, List.set_cons_zero]
  refine wpAnyH_take_l 4 (v := ?vb4) rfl rfl (by kernel_rfl) (by kernel_rfl) (by kernel_rfl) (fun _ _ _ h => h) ?hb4 (by assumption) ?rb4
  case hb4 => (intro w hSw; (try dsimp only at hSw); go_simp; try rfl)
  case' rb4 => simp only [setD, List.set_cons_succ, List.set_cons_zero]
  refine wpAnyH_take_l 5 (v := ?vb5) rfl rfl (by kernel_rfl) (by kernel_rfl) (by kernel_rfl) (fun _ _ _ h => h) ?hb5 (by assumption) ?rb5
  case hb5 => (intro w hSw; (try dsimp only at hSw); go_simp; try rfl)
  case' rb5 => simp only [setD, List.set_cons_succ, List.set_cons_zero]
  refine wpAnyH_take_l 6 (v := ?vb6) rfl rfl (by kernel_rfl) (by kernel_rfl) (by kernel_rfl) (fun _ _ _ h => h) ?hb6 (by assumption) ?rb6
  case hb6 => (intro w hSw; (try dsimp only at hSw); go_simp; try rfl)
  case' rb6 => simp only [setD, List.set_cons_succ, List.set_cons_zero]
  refine wpAnyH_take_l 7 (v := ?vb7) rfl rfl (by kernel_rfl) (by kernel_rfl) (by kernel_rfl) (fun _ _ _ h => h) ?hb7 (by assumption) ?rb7
  case hb7 => (intro w hSw; (try dsimp only at hSw); go_simp; try rfl)
  case' rb7 => simp only [setD, List.set_cons_succ, List.set_cons_zero]
  refine wpAnyH_take_l 8 (v := ?vb8) rfl rfl (by kernel_rfl) (by kernel_rfl) (by kernel_rfl) (fun _ _ _ h => h) ?hb8 (by assumption) ?rb8
  case hb8 => (intro w hSw; (try dsimp only at hSw); go_simp; try rfl)
  case' rb8 => simp only [setD, List.set_cons_succ, List.set_cons_zero]
  refine wpAnyH_take_l 9 (v := ?vb9) rfl rfl (by kernel_rfl) (by kernel_rfl) (by kernel_rfl) (fun _ _ _ h => h) ?hb9 (by assumption) ?rb9
  case hb9 => (intro w hSw; (try dsimp only at hSw); go_simp; try rfl)
  case' rb9 => simp only [setD, List.set_cons_succ, List.set_cons_zero]
  refine wpAnyH_take_l 10 (v := ?vb10) rfl rfl (by kernel_rfl) (by kernel_rfl) (by kernel_rfl) (fun _ _ _ h => h) ?hb10 (by assumption) ?rb10
  case hb10 => (intro w hSw; (try dsimp only at hSw); go_simp; try rfl)
  case' rb10 => simp only [setD, List.set_cons_succ, List.set_cons_zero]
  refine wpAnyH_take_l 11 (v := ?vb11) rfl rfl (by kernel_rfl) (by kernel_rfl) (by kernel_rfl) (fun _ _ _ h => h) ?hb11 (by assumption) ?rb11
  case hb11 => (intro w hSw; (try dsimp only at hSw); go_simp; try rfl)
  case' rb11 => simp only [setD, List.set_cons_succ, List.set_cons_zero]
  refine wpAnyH_one 12 rfl rfl (by kernel_rfl) (fun K hK => ?_)
  have hK2 := hK.out
  clear hK
  simp only [setD, List.set_cons_succ, List.set_cons_zero] at hK2 ⊢
  go_simp
  obtain ⟨WA1, hWA⟩ : ∃ WA, (W9.alloc (refO (.int .i64 0) (.int .i64 0))).drew = WA := ⟨_, rfl⟩
  rw [show (W9.alloc (.cells #[.int .i64 0, .int .i64 0] 37)).drew = WA1 from hWA]
  have bA : Below W9.heap.size W9 WA1 := by rw [← hWA]; exact (blkBelow W9 _ _).drew
  have xA : WA1.heap[W9.heap.size]? = some (refO (.int .i64 0) (.int .i64 0)) := by rw [← hWA]; exact World.alloc_heap_new _ _
  refine hK2 _ _ (HS.out WA1 (below_seq (Below.refl _ _) bA)) (fun _ => ?_)
  clear hK2 K hWA
  obtain ⟨z0, z1, z2, z3⟩ := refO_cells xA
  refine wpAnyH_one 13 rfl rfl (by kernel_rfl) (fun K hK => ?_)
  have hK2 := hK.out
  clear hK
  simp only [setD] at hK2 ⊢
  go_simp
  clear z0 z1 z2 z3
  obtain ⟨WB1, hWB⟩ : ∃ WB, (WA1.setCell ⟨W9.heap.size, 0, none⟩ (.int .i64 (r.n : Int))).setCell ⟨W9.heap.size, 1, none⟩ (.int .i64 (r.s + k)) = WB := ⟨_, rfl⟩
  rw [hWB]
  have bB : Below W9.heap.size W9 WB1 := by rw [← hWB]; exact (bA.setCell (p := ⟨W9.heap.size, 0, none⟩) (Nat.le_refl _) _).setCell (p := ⟨W9.heap.size, 1, none⟩) (Nat.le_refl _) _
  have xB : WB1.heap[W9.heap.size]? = some (refO (.int .i64 (r.n : Int)) (.int .i64 (r.s + k))) := by rw [← hWB]; exact refO_fill xA _ _
  refine hK2 undef _ (HS.out WB1 (below_seq (Below.refl _ _) bB)) (fun _ => ?_)
  clear hK2 K hWB xA bA
  refine wpAnyH_done (by kernel_rfl) ?_ _
  clear hHeld
  have HBB1 : Hid (Below W9.heap.size W9 WB1) := Lib.hid (below_seq (Below.refl _ _) bB)
  have HXB1 : Hid (∀ W, Below WB1.heap.size WB1 W → W.cell? ⟨W9.heap.size, 0, none⟩ = some (.int .i64 (r.n : Int)) ∧ W.cell? ⟨W9.heap.size, 1, none⟩ = some (.int .i64 (r.s + k))) := Lib.hid (fun W hW => by
    have h := refO_cells ((hW.block _ (Array.getElem?_eq_some_iff.1 xB).1).trans xB)
    exact ⟨h.1, h.2.1⟩)
  have HB21 : Hid (Below W9.heap.size W9 WB1) := Lib.hid bB
  clear bB xB
  go_upto_region 8 with fail
  have S2 := HS.out WB1 HBB1.out
  refine wp_region_held_drew (S := fun W => W.cell? ⟨w8.heap.size, 0, none⟩ = some (.slice na nn nc) ∧ W.cell? ⟨rb, ro, none⟩ = some (.int .i64 (r.n : Int)) ∧ W.cell? ⟨rb, ro + 1, none⟩ = some (.int .i64 r.s) ∧ W.cell? ⟨rb, ro + 2, none⟩ = some (.int .i64 (q.n : Int)) ∧ W.cell? ⟨rb, ro + 3, none⟩ = some (.int .i64 q.s)) (by kernel_rfl) S2 (fun hHeld => ?_)
  clear S2
  refine wpAnyH_take_l 0 (v := ?vc0) rfl rfl (by kernel_rfl) (by kernel_rfl) (by kernel_rfl) (fun _ _ _ h => h) ?hc0 (by assumption) ?rc0
  case hc0 => (intro w hSw; (try dsimp only at hSw); go_simp; try rfl)
  case' rc0 => simp only [setD, List.set_cons_succ, List.set_cons_zero]
  refine wpAnyH_take_l 1 (v := ?vc1) rfl rfl (by kernel_rfl) (by kernel_rfl) (by kernel_rfl) (fun _ _ _ h => h) ?hc1 (by assumption) ?rc1
  case hc1 => (intro w hSw; (try dsimp only at hSw); go_simp; try rfl)
  case' rc1 => simp only [setD, List.set_cons_succ, List.set_cons_zero]
  refine wpAnyH_take_l 2 (v := ?vc2) rfl rfl (by kernel_rfl) (by kernel_rfl) (by kernel_rfl) (fun _ _ _ h => h) ?hc2 (by assumption) ?rc2
  case hc2 => (intro w hSw; (try dsimp only at hSw); go_simp; try rfl)
  case' rc2 => simp only [setD, List.set_cons_succ, List.set_cons_zero]
  refine wpAnyH_take_l 3 (v := ?vc3) rfl rfl (by kernel_rfl) (by kernel_rfl) (by kernel_rfl) (fun _ _ _ h => h) ?hc3 (by assumption) ?rc3
  case hc3 => (intro w hSw; (try dsimp only at hSw); go_simp; try rfl)
  case' rc3 => simp only [setD, List.set_cons_succ, List.set_cons_zero]
  refine wpAnyH_take_l 4 (v := ?vc4) rfl rfl (by kernel_rfl) (by kernel_rfl) (by kernel_rfl) (fun _ _ _ h => h) ?hc4 (by assumption) ?rc4
  case hc4 => (intro w hSw; (try dsimp only at hSw); go_simp; try rfl)
  case' rc4 => simp only [setD, List.set_cons_succ, List.set_cons_zero]
  refine wpAnyH_take_l 5 (v := ?vc5) rfl rfl (by kernel_rfl) (by kernel_rfl) (by kernel_rfl) (fun _ _ _ h => h) ?hc5 (by assumption) ?rc5
  case hc5 => (intro w hSw; (try dsimp only at hSw); go_simp; try rfl)
  case' rc5 => simp only [setD, List.set_cons_succ, List.set_cons_zero]
  refine wpAnyH_take_l 6 (v := ?vc6) rfl rfl (by kernel_rfl) (by kernel_rfl) (by kernel_rfl) (fun _ _ _ h => h) ?hc6 (by assumption) ?rc6
  case hc6 => (intro w hSw; (try dsimp only at hSw); go_simp; try rfl)
  case' rc6 => simp only [setD, List.set_cons_succ, List.set_cons_zero]
  refine wpAnyH_take_l 7 (v := ?vc7) rfl rfl (by kernel_rfl) (by kernel_rfl) (by kernel_rfl) (fun _ _ _ h => h) ?hc7 (by assumption) ?rc7
  case hc7 => (intro w hSw; (try dsimp only at hSw); go_simp; try rfl)
  case' rc7 => simp only [setD, List.set_cons_succ, List.set_cons_zero]
  refine wpAnyH_take_l 8 (v := ?vc8) rfl rfl (by kernel_rfl) (by kernel_rfl) (by kernel_rfl) (fun _ _ _ h => h) ?hc8 (by assumption) ?rc8
  case hc8 => (intro w hSw; (try dsimp only at hSw); go_simp; try rfl)
  case' rc8 => simp only [setD, List.set_cons_succ, List.set_cons_zero]
  refine wpAnyH_take_l 9 (v := ?vc9) rfl rfl (by kernel_rfl) (by kernel_rfl) (by kernel_rfl) (fun _ _ _ h => h) ?hc9 (by assumption) ?rc9
  case hc9 => (intro w hSw; (try dsimp only at hSw); go_simp; try rfl)
  case' rc9 => simp only [setD, List.set_cons_succ, List.set_cons_zero]
  refine wpAnyH_take_l 10 (v := ?vc10) rfl rfl (by kernel_rfl) (by kernel_rfl) (by kernel_rfl) (fun _ _ _ h => h) ?hc10 (by assumption) ?rc10
  case hc10 => (intro w hSw; (try dsimp only at hSw); go_simp; try rfl)
  case' rc10 => simp only [setD, List.set_cons_succ, List.set_cons_zero]
  refine wpAnyH_take_l 11 (v := ?vc11) rfl rfl (by kernel_rfl) (by kernel_rfl) (by kernel_rfl) (fun _ _ _ h => h) ?hc11 (by assumption) ?rc11
  case hc11 => (intro w hSw; (try dsimp only at hSw); go_simp; try rfl)
  case' rc11 => simp only [setD, List.set_cons_succ, List.set_cons_zero]
  refine wpAnyH_one 12 rfl rfl (by kernel_rfl) (fun K hK => ?_)
  have hK2 := hK.out
  clear hK
  simp only [setD, List.set_cons_succ, List.set_cons_zero] at hK2 ⊢
  go_simp
  obtain ⟨WA2, hWA⟩ : ∃ WA, (WB1.alloc (refO (.int .i64 0) (.int .i64 0))).drew = WA := ⟨_, rfl⟩
  rw [show (WB1.alloc (.cells #[.int .i64 0, .int .i64 0] 37)).drew = WA2 from hWA]
  have bA : Below WB1.heap.size WB1 WA2 := by rw [← hWA]; exact (blkBelow WB1 _ _).drew
  have xA : WA2.heap[WB1.heap.size]? = some (refO (.int .i64 0) (.int .i64 0)) := by rw [← hWA]; exact World.alloc_heap_new _ _
  refine hK2 _ _ (HS.out WA2 (below_seq HBB1.out bA)) (fun _ => ?_)
  clear hK2 K hWA
  obtain ⟨z0, z1, z2, z3⟩ := refO_cells xA
  refine wpAnyH_one 13 rfl rfl (by kernel_rfl) (fun K hK => ?_)
  have hK2 := hK.out
  clear hK
  simp only [setD] at hK2 ⊢
  go_simp
  clear z0 z1 z2 z3
  obtain ⟨WB2, hWB⟩ : ∃ WB, (WA2.setCell ⟨WB1.heap.size, 0, none⟩ (.int .i64 (q.n : Int))).setCell ⟨WB1.heap.size, 1, none⟩ (.int .i64 (q.s + k)) = WB := ⟨_, rfl⟩
  rw [hWB]
  have bB : Below WB1.heap.size WB1 WB2 := by rw [← hWB]; exact (bA.setCell (p := ⟨WB1.heap.size, 0, none⟩) (Nat.le_refl _) _).setCell (p := ⟨WB1.heap.size, 1, none⟩) (Nat.le_refl _) _
  have xB : WB2.heap[WB1.heap.size]? = some (refO (.int .i64 (q.n : Int)) (.int .i64 (q.s + k))) := by rw [← hWB]; exact refO_fill xA _ _
  refine hK2 undef _ (HS.out WB2 (below_seq HBB1.out bB)) (fun _ => ?_)
  clear hK2 K hWB xA bA
  refine wpAnyH_done (by kernel_rfl) ?_ _
  clear hHeld
  have HBB2 : Hid (Below W9.heap.size W9 WB2) := Lib.hid (below_seq HBB1.out bB)
  have HXB2 : Hid (∀ W, Below WB2.heap.size WB2 W → W.cell? ⟨WB1.heap.size, 0, none⟩ = some (.int .i64 (q.n : Int)) ∧ W.cell? ⟨WB1.heap.size, 1, none⟩ = some (.int .i64 (q.s + k))) := Lib.hid (fun W hW => by
    have h := refO_cells ((hW.block _ (Array.getElem?_eq_some_iff.1 xB).1).trans xB)
    exact ⟨h.1, h.2.1⟩)
  have HB22 : Hid (Below WB1.heap.size WB1 WB2) := Lib.hid bB
  clear bB xB
  have HBW : Hid (Below W9.heap.size W9 WB2) := HBB2
  obtain ⟨c, hc⟩ : ∃ c, decide (k = 0) = c := ⟨_, rfl⟩
  have hc2 : (k == 0) = c := by rw [← hc]; rfl
  obtain ⟨d, hd⟩ : ∃ d, decide (u.k ≤ 3) = d := ⟨_, rfl⟩
  have hcd : (k = 0 ∨ u.k ≤ 3) ↔ (c || d) = true := by rw [← hc, ← hd]; simp
  have KE1 : Hid (∀ q' : Later WB2.heap.size WB2, Calls Tryz.prog 11 #[grV na nn nc, rfV r.n r.s, rfV q.n q.s] q'.1 fun e w' => e = .returned (.bool true) ∧ Below q'.1.heap.size q'.1 w') := Lib.hid (fun q' => (equal_any ns na nn nc ⟨r.n, r.s⟩ ⟨q.n, q.s⟩ q'.1 hG (by omega) (HNG.out q'.1 (below_seq HBW.out q'.2)) ⟨by simp only; omega, by simp only; omega, by simp only; omega⟩ ⟨by simp only; omega, by simp only; omega, by simp only; omega⟩).mono fun e w' ⟨⟨b, he, hb⟩, hbb⟩ => ⟨by
    have h1 : b = true := hb.2 heq
    rw [h1] at he
    exact he, hbb⟩)
  have KE2 : Hid (∀ q' : Later WB2.heap.size WB2, Calls Tryz.prog 11 #[grV na nn nc, rfV r.n (r.s + k), rfV q.n (q.s + k)] q'.1 fun e w' => e = .returned (.bool true) ∧ Below q'.1.heap.size q'.1 w') := Lib.hid (fun q' => (equal_any ns na nn nc ⟨r.n, r.s + k⟩ ⟨q.n, q.s + k⟩ q'.1 hG (by omega) (HNG.out q'.1 (below_seq HBW.out q'.2)) ⟨by simp only; omega, by simp only; omega, by simp only; omega⟩ ⟨by simp only; omega, by simp only; omega, by simp only; omega⟩).mono fun e w' ⟨⟨b, he, hb⟩, hbb⟩ => ⟨by
    have h1 : b = true := hb.2 (heq.up k)
    rw [h1] at he
    exact he, hbb⟩)
  have KA1 : Hid (∀ q' : Later WB2.heap.size WB2, Calls Tryz.prog 12 #[grV na nn nc, rfV r.n (r.s + k), rfV q.n q.s] q'.1 fun e w' => e = .returned (.bool true) ∧ Below q'.1.heap.size q'.1 w') := Lib.hid (fun q' => (alike_any ns na nn nc ⟨r.n, r.s + k⟩ ⟨q.n, q.s⟩ q'.1 hG (by omega) (HNG.out q'.1 (below_seq HBW.out q'.2)) ⟨by simp only; omega, by simp only; omega, by simp only; omega⟩ ⟨by simp only; omega, by simp only; omega, by simp only; omega⟩).mono fun e w' ⟨⟨b, he, hb⟩, hbb⟩ => ⟨by
    have h1 : b = true := hb.2 (by have h := alike_raised heq.alike k 0; rw [upG_zero] at h; exact h)
    rw [h1] at he
    exact he, hbb⟩)
  have KE3 : Hid (∀ q' : Later WB2.heap.size WB2, Calls Tryz.prog 11 #[grV na nn nc, rfV r.n (r.s + k), rfV q.n q.s] q'.1 fun e w' => e = .returned (.bool (c || d)) ∧ Below q'.1.heap.size q'.1 w') := Lib.hid (fun q' => (equal_any ns na nn nc ⟨r.n, r.s + k⟩ ⟨q.n, q.s⟩ q'.1 hG (by omega) (HNG.out q'.1 (below_seq HBW.out q'.2)) ⟨by simp only; omega, by simp only; omega, by simp only; omega⟩ ⟨by simp only; omega, by simp only; omega, by simp only; omega⟩).mono fun e w' ⟨⟨b, he, hb⟩, hbb⟩ => ⟨by
    have h1 : b = (c || d) := by rw [Bool.eq_iff_iff, ← hcd]; exact hb.trans (hrai k)
    rw [h1] at he
    exact he, hbb⟩)
  have hgF := fun q' : Later WB2.heap.size WB2 => HS.out q'.1 (below_seq HBW.out q'.2)
  have g0 := fun q' : Later WB2.heap.size WB2 => (hgF q').1
  have g1 := fun q' : Later WB2.heap.size WB2 => (hgF q').2.1
  have g2 := fun q' : Later WB2.heap.size WB2 => (hgF q').2.2.1
  have g3 := fun q' : Later WB2.heap.size WB2 => (hgF q').2.2.2.1
  have g4 := fun q' : Later WB2.heap.size WB2 => (hgF q').2.2.2.2
  have g5 := fun q' : Later WB2.heap.size WB2 => (HXB1.out q'.1 (below_seq HB22.out q'.2)).1
  have g6 := fun q' : Later WB2.heap.size WB2 => (HXB1.out q'.1 (below_seq HB22.out q'.2)).2
  have g7 := fun q' : Later WB2.heap.size WB2 => (HXB2.out q'.1 q'.2).1
  have g8 := fun q' : Later WB2.heap.size WB2 => (HXB2.out q'.1 q'.2).2
  have g9 := fun q' : Later WB2.heap.size WB2 => HUK.out q'.1 (below_seq HBW.out q'.2)
  clear hgF hG hlen hbr hbq hrai heq hcd hek hwr hwq hr hq hgr huu hun hk hsz hdp hnr hsz2 hdp2 hnr2 hns
  go_upto_region 9 with fail
  refine wp_region_later WB2.heap.size WB2 (by kernel_rfl) (by kernel_rfl) (Below.refl _ _) ?_
  cases c <;> cases d
  all_goals simp only [Bool.or_false, Bool.or_true] at KE3
  all_goals repeat (go_big_quiet_step (first | (go_at_call 11; with_reducible exact later_call _ (Nat.le_refl _) (KE1.out _)) | (go_at_call 11; with_reducible exact later_call _ (Nat.le_refl _) (KE2.out _)) | (go_at_call 12; with_reducible exact later_call _ (Nat.le_refl _) (KA1.out _)) | (go_at_call 11; with_reducible exact later_call _ (Nat.le_refl _) (KE3.out _))))
  all_goals refine wpQuiet_nil ?_
  all_goals rintro w10 ⟨⟨_, hb10⟩, rfl⟩
  all_goals have HBA := Lib.hid hb10
  all_goals clear g0 g1 g2 g3 g4 g5 g6 g7 g8 g9 hb10 KE1 KE2 KE3 KA1
  all_goals go_wp2_with fail
  all_goals go_ret
  all_goals exact ⟨rfl, below_seq HB0.out (below_seq HB05.out (below_seq HB9.out (below_seq HBW.out HBA.out)))⟩
end Go.Proofs.YtjmnaibbljakaaaGreatDoor
