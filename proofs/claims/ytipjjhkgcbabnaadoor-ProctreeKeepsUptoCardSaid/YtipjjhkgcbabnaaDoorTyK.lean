/- Types: Raise, whole. -/
import Derived.Test.YtipjjhkgcbabnaaDoorTyJ
namespace Go.Proofs.YtipjjhkgcbabnaaDoor
open Go.RowKit Go.Deep Go.Shelf

/-- The world in which Raise calls rebuild. -/
abbrev box3 (w : World) (k p : Int) (n : ByteArray) (s : Int) (lv kv : Value) (j : Int) : World := ((w.alloc (cell6 k p n s lv kv)).alloc (.cells #[.int .i64 j] 3)).alloc (cell6 0 0 ⟨#[]⟩ 0 (.slice none 0 0) (.slice none 0 0))
theorem box3_below (w : World) (o o' o'' : Obj) : Below w.heap.size w (((w.alloc o).alloc o').alloc o'') := (((Below.refl _ _).alloc (Nat.le_refl _) _).alloc (by simp) _).alloc (by simp; omega) _

theorem Above.set_new {lo : Nat} {a b : World} (h : Above lo a b) {c o : Nat} (hc : a.heap.size ≤ c) (v : Value) : Above lo a (b.setCell ⟨c, o, none⟩ v) :=
  ⟨by simpa using h.size, fun k hl hk => (Below.heap_setCell _ _ _ k (by simp; omega)).trans (h.same k hl hk)⟩
theorem ret_fill2 {w w3 W5 : World} {lo c : Nat} (hlo : w.heap.size ≤ lo) (hc : c < lo) (hwc : w.heap.size ≤ c) (hA : Above lo w3 W5) (hb : Below w.heap.size w W5) {g g' : Ty} {a0 a1 a2 a3 lv kv : Value} (hv : TyVal (Fresh lo w3.heap.size) w3 (.agg #[a0, a1, a2, a3, lv, kv]) g)
    (hl : g'.ls = g.ls) (ht : g'.ts = g.ts) (hn : g'.n = g.n) (v0 v1 v2 v3 v4 v5 : Value) :
    TyVal (Fresh w.heap.size ((((((W5.setCell ⟨c, 0, none⟩ v0).setCell ⟨c, 1, none⟩ v1).setCell ⟨c, 2, none⟩ v2).setCell ⟨c, 3, none⟩ v3).setCell ⟨c, 4, none⟩ v4).setCell ⟨c, 5, none⟩ v5).heap.size)
      ((((((W5.setCell ⟨c, 0, none⟩ v0).setCell ⟨c, 1, none⟩ v1).setCell ⟨c, 2, none⟩ v2).setCell ⟨c, 3, none⟩ v3).setCell ⟨c, 4, none⟩ v4).setCell ⟨c, 5, none⟩ v5) (.agg #[.int .i64 g'.k, .int .i64 g'.p, .string g'.n, .int .i64 g'.s, lv, kv]) g' ∧
    Below w.heap.size w ((((((W5.setCell ⟨c, 0, none⟩ v0).setCell ⟨c, 1, none⟩ v1).setCell ⟨c, 2, none⟩ v2).setCell ⟨c, 3, none⟩ v3).setCell ⟨c, 4, none⟩ v4).setCell ⟨c, 5, none⟩ v5) := by
  have ha := hA.fill hc v0 v1 v2 v3 v4 v5
  refine ⟨?_, below_fill hb hwc v0 v1 v2 v3 v4 v5⟩
  obtain ⟨lv', kv', e, hnn, h1, h2⟩ := hv
  simp only [Value.agg.injEq, Array.mk.injEq, List.cons.injEq, and_true] at e
  obtain ⟨_, _, _, _, rfl, rfl⟩ := e
  exact ⟨lv, kv, rfl, by rw [hn]; exact hnn, by rw [hl]; exact (h1.keep ha.keeps).mono (Fresh.mono hlo ha.size), by rw [ht]; exact (h2.keep ha.keeps).mono (Fresh.mono hlo ha.size)⟩

set_option maxHeartbeats 1000000 in
set_option maxRecDepth 100000 in
theorem raise_step (B : Nat → Prop) (j : Int) (hj : okI j) (k p s : Int) (n : ByteArray) (lv kv : Value) (ls : List ByteArray) (ts : List Ty) (hm : (Ty.mk k p n s ls ts).mod) (hnn : n.size ≤ maxLen) (w : World) (hB : Low B w) (hl : StrSl B w lv ls) (hk : TySl B w kv ts)
    (ih : ∀ t ∈ ts, ∀ (v : Value) (w : World), Low B w → TyVal B w v t → Calls Tryd.prog 46 #[v, .int .i64 j] w (TyRet w (t.raise j))) :
    Calls Tryd.prog 46 #[.agg #[.int .i64 k, .int .i64 p, .string n, .int .i64 s, lv, kv], .int .i64 j] w (TyRet w ((Ty.mk k p n s ls ts).raise j)) := by
  simp only [Ty.mod] at hm
  obtain ⟨hm1, hm2, hp, _⟩ := hm
  obtain ⟨hp1, hp2⟩ := hp
  obtain ⟨hj1, hj2⟩ := hj
  have hb0 := box3_below w (cell6 k p n s lv kv) (.cells #[.int .i64 j] 3) (cell6 0 0 ⟨#[]⟩ 0 (.slice none 0 0) (.slice none 0 0))
  have s2 := Six.new ((w.alloc (cell6 k p n s lv kv)).alloc (.cells #[.int .i64 j] 3)) (.int .i64 0) (.int .i64 0) (.string ⟨#[]⟩) (.int .i64 0) (.slice none 0 0) (.slice none 0 0)
  simp only [World.size_alloc] at s2
  have c1 : (box3 w k p n s lv kv j).cell? ⟨w.heap.size + 1, 0, none⟩ = some (.int .i64 j) := by
    have h := blk_cell (w := w.alloc (cell6 k p n s lv kv)) (cs := #[.int .i64 j]) (t := 3) (Below.refl _ _) 0 rfl
    rw [World.size_alloc] at h
    exact ((blkBelow _ _ _).cell (p := ⟨w.heap.size + 1, 0, none⟩) (by simp)).trans h
  have HR := Lib.hid (rebuild_any B k p s n lv kv ls ts (Ty.raise j) 79 #[.pointer (some ⟨w.heap.size + 1, 0, none⟩)] hnn (Nat.le_trans hm1 (by decide)) hm2 _ (hB.le hb0.size) (hl.keep (hb0.keeps'.mono hB)) (hk.keep (hb0.keeps'.mono hB)) enters_raise1
    (fun t ht v wr hwr hv => by
      obtain ⟨lv', kv', rfl, hv2⟩ := hv
      exact raise1_any _ _ _ _ lv' kv' j (w.heap.size + 1) _ wr ((hwr.cell (p := ⟨w.heap.size + 1, 0, none⟩) (by simp)).trans c1) (by have := hwr.size; simp at this; omega)
        (fun wr' hwr' _ => ih t ht _ wr' (hB.le (Nat.le_trans hb0.size (Nat.le_trans hwr.size hwr'.size))) (TyVal.to (hB.le (Nat.le_trans hb0.size hwr.size)) hwr' ⟨lv', kv', rfl, hv2⟩))))
  have S2 := Lib.hid s2
  have HB0 := Lib.hid hb0
  have C1 := Lib.hid c1
  clear s2 hl hk ih hb0 c1
  go_enter Tryd.func46, Tryd.ntmps46
  go_wp2_with fail
  refine HR.out.mono ?_
  rintro e w3 ⟨la, ln, lc, ka, kn, kc, rfl, hv3, hb3⟩
  have hz3 : w.heap.size + 3 ≤ w3.heap.size := by have := hb3.size; simp at this; omega
  dsimp only [Ty.k, Ty.p, Ty.n, Ty.s] at hv3 ⊢
  have hbx := blkBelow w3 #[.int .i64 k, .int .i64 p, .string n, .int .i64 s, .slice la ln lc, .slice ka kn kc] 25
  have h6 := Six.new w3 (.int .i64 k) (.int .i64 p) (.string n) (.int .i64 s) (.slice la ln lc) (.slice ka kn kc)
  have hsz4 : (w3.alloc (.cells #[.int .i64 k, .int .i64 p, .string n, .int .i64 s, .slice la ln lc, .slice ka kn kc] 25)).heap.size = w3.heap.size + 1 := by simp
  obtain ⟨w4, hw4⟩ : ∃ w4, w3.alloc (.cells #[.int .i64 k, .int .i64 p, .string n, .int .i64 s, .slice la ln lc, .slice ka kn kc] 25) = w4 := ⟨_, rfl⟩
  rw [hw4] at hbx h6 hsz4
  have c13 : w4.cell? ⟨w.heap.size + 1, 0, none⟩ = some (.int .i64 j) := (hbx.cell (p := ⟨w.heap.size + 1, 0, none⟩) (by simp; omega)).trans ((hb3.cell (p := ⟨w.heap.size + 1, 0, none⟩) (by simp)).trans C1.out)
  have s3 := (S2.out.to hb3).to hbx
  obtain ⟨⟨d0, d1, d2, d3, d4, d5⟩, hf1⟩ := s3.cells
  have hall : Above (w.heap.size + 3) w3 w4 := Above.of_below hbx
  have HV := Lib.hid hv3
  have HB4 := Lib.hid (below_seq (below_seq HB0.out hb3) hbx)
  have HA := Lib.hid hall
  obtain ⟨⟨e0, e1, e2, e3, e4, e5⟩, hf6⟩ := h6.cells
  have HZ := Lib.hid hsz4
  have HS3 := Lib.hid s3
  have H6 := Lib.hid h6
  clear hv3 hb3 hbx s3 hall h6 hsz4
  by_cases hact : actB k = true
  · go_wp2_with (go_at_call 80; refine (action_any _ _).mono ?_; rintro e w5 ⟨rfl, rfl⟩)
    have hfin := ret_fill2 (lo := w.heap.size + 3) (c := w.heap.size + 1 + 1) (g' := (Ty.mk k p n s ls ts).raise j) (by omega) (by omega) (by omega) (HA.out.set_new (c := w3.heap.size) (o := 1) (Nat.le_refl _) (.int .i64 (p + j))) (HB4.out.setCell (p := ⟨w3.heap.size, 1, none⟩) (by simp; omega) (.int .i64 (p + j))) (by simpa using HV.out)
      (by simp [Ty.raise, Ty.ls]) (by simp [Ty.raise, Ty.ts, Ty.raises_map]) (by simp [Ty.raise, Ty.n]) (.int .i64 k) (.int .i64 (p + j)) (.string n) (.int .i64 s) (.slice la ln lc) (.slice ka kn kc)
    have hrw : (Ty.mk k p n s ls ts).raise j = .mk k (p + j) n s ls (Ty.raises j ts) := by rw [Ty.raise, if_pos hact]
    rw [hrw] at hfin ⊢
    exact bodyPost_ret (v := .agg #[.int .i64 k, .int .i64 (p + j), .string n, .int .i64 s, .slice la ln lc, .slice ka kn kc]) (by simp [results, Tryd.results46, go_sem, d0, d1, d2, d3, d4, d5]) rfl ⟨la, ln, lc, ka, kn, kc, rfl, hfin.1, hfin.2⟩
  · have hact' : actB k = false := by simpa using hact
    go_wp2_with (go_at_call 80; refine (action_any _ _).mono ?_; rintro e w5 ⟨rfl, rfl⟩)
    have hfin := ret_fill2 (lo := w.heap.size + 3) (c := w.heap.size + 1 + 1) (g' := (Ty.mk k p n s ls ts).raise j) (by omega) (by omega) (by omega) HA.out (HB4.out.mono (Nat.le_refl _)) (by simpa using HV.out)
      (by simp [Ty.raise, Ty.ls]) (by simp [Ty.raise, Ty.ts, Ty.raises_map]) (by simp [Ty.raise, Ty.n]) (.int .i64 k) (.int .i64 p) (.string n) (.int .i64 s) (.slice la ln lc) (.slice ka kn kc)
    have hrw : (Ty.mk k p n s ls ts).raise j = .mk k p n s ls (Ty.raises j ts) := by rw [Ty.raise, if_neg hact]
    rw [hrw] at hfin ⊢
    exact bodyPost_ret (v := .agg #[.int .i64 k, .int .i64 p, .string n, .int .i64 s, .slice la ln lc, .slice ka kn kc]) (by simp [results, Tryd.results46, go_sem, d0, d1, d2, d3, d4, d5]) rfl ⟨la, ln, lc, ka, kn, kc, rfl, hfin.1, hfin.2⟩

theorem raise_any (B : Nat → Prop) (j : Int) (hj : okI j) : ∀ t : Ty, t.mod → ∀ (v : Value) (w : World), Low B w → TyVal B w v t → Calls Tryd.prog 46 #[v, .int .i64 j] w (TyRet w (t.raise j)) := by
  refine Ty.ind ?_
  intro k p n s ls ts ih hm v w hB hv
  obtain ⟨lv, kv, rfl, hn, hl, hk⟩ := hv
  have hm' := hm
  simp only [Ty.mod] at hm'
  exact raise_step B j hj k p s n lv kv ls ts hm hn w hB hl hk (fun t ht => ih t ht (Ty.mods_mem hm'.2.2.2.2 t ht))

end Go.Proofs.YtipjjhkgcbabnaaDoor
