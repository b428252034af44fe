/- Types: Raise, whole. -/
import Derived.Test.YtjmnaibbljakaaaGreatDoorTyJ
namespace Go.Proofs.YtjmnaibbljakaaaGreatDoor
open Go.RowKit Go.Deep Go.Shelf

/-- The world in which Raise calls rebuild. -/
abbrev box3 (w : World) (k p : Int) (n : ByteArray) (s : Int) (lv kv : Value) (j : Int) : World := ((w.alloc (cell6 k p n s lv kv)).alloc (.cells #[.int .i64 j] 3)).alloc (cell6 0 0 ⟨#[]⟩ 0 (.slice none 0 0) (.slice none 0 0))
theorem box3_below (w : World) (o o' o'' : Obj) : Below w.heap.size w (((w.alloc o).alloc o').alloc o'') := (((Below.refl _ _).alloc (Nat.le_refl _) _).alloc (by simp) _).alloc (by simp; omega) _

theorem Above.set_new {lo : Nat} {a b : World} (h : Above lo a b) {c o : Nat} (hc : a.heap.size ≤ c) (v : Value) : Above lo a (b.setCell ⟨c, o, none⟩ v) :=
  ⟨by simpa using h.size, fun k hl hk => (Below.heap_setCell _ _ _ k (by simp; omega)).trans (h.same k hl hk)⟩
theorem ret_fill2 {w w3 W5 : World} {lo c : Nat} (hlo : w.heap.size ≤ lo) (hc : c < lo) (hwc : w.heap.size ≤ c) (hA : Above lo w3 W5) (hb : Below w.heap.size w W5) {g g' : Ty} {a0 a1 a2 a3 lv kv : Value} (hv : TyVal (Fresh lo w3.heap.size) w3 (.agg #[a0, a1, a2, a3, lv, kv]) g)
    (hl : g'.ls = g.ls) (ht : g'.ts = g.ts) (hn : g'.n = g.n) (v0 v1 v2 v3 v4 v5 : Value) :
    TyVal (Fresh w.heap.size ((((((W5.setCell ⟨c, 0, none⟩ v0).setCell ⟨c, 1, none⟩ v1).setCell ⟨c, 2, none⟩ v2).setCell ⟨c, 3, none⟩ v3).setCell ⟨c, 4, none⟩ v4).setCell ⟨c, 5, none⟩ v5).heap.size)
      ((((((W5.setCell ⟨c, 0, none⟩ v0).setCell ⟨c, 1, none⟩ v1).setCell ⟨c, 2, none⟩ v2).setCell ⟨c, 3, none⟩ v3).setCell ⟨c, 4, none⟩ v4).setCell ⟨c, 5, none⟩ v5) (.agg #[.int .i64 g'.k, .int .i64 g'.p, .string g'.n, .int .i64 g'.s, lv, kv]) g' ∧
    Below w.heap.size w ((((((W5.setCell ⟨c, 0, none⟩ v0).setCell ⟨c, 1, none⟩ v1).setCell ⟨c, 2, none⟩ v2).setCell ⟨c, 3, none⟩ v3).setCell ⟨c, 4, none⟩ v4).setCell ⟨c, 5, none⟩ v5) := by
  have ha := hA.fill hc v0 v1 v2 v3 v4 v5
  refine ⟨?_, below_fill hb hwc v0 v1 v2 v3 v4 v5⟩
  obtain ⟨lv', kv', e, hnn, h1, h2⟩ := hv
  simp only [Value.agg.injEq, Array.mk.injEq, List.cons.injEq, and_true] at e
  obtain ⟨_, _, _, _, rfl, rfl⟩ := e
  exact ⟨lv, kv, rfl, by rw [hn]; exact hnn, by rw [hl]; exact (h1.keep ha.keeps).mono (Fresh.mono hlo ha.size), by rw [ht]; exact (h2.keep ha.keeps).mono (Fresh.mono hlo ha.size)⟩

end Go.Proofs.YtjmnaibbljakaaaGreatDoor
