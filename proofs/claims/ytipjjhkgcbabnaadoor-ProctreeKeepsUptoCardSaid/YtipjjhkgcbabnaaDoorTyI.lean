/- Types: rebuild, Copy, Raise. -/
import Derived.Test.YtipjjhkgcbabnaaDoorTyH
namespace Go.Proofs.YtipjjhkgcbabnaaDoor
open Go.RowKit Go.Deep

theorem MapsTo.later {f : Nat} {caps : Array Value} {B : Nat → Prop} {w0 w1 : World} {ts : List Ty} {g : Ty → Ty} (h : MapsTo f caps B w0 ts g) (hb : Below w0.heap.size w0 w1) : MapsTo f caps B w1 ts g :=
  fun t ht v wr hw hv => h t ht v wr (below_seq hb hw) hv

/-- A block of six cells, whole. -/
def Six (w : World) (b : Nat) (a0 a1 a2 a3 a4 a5 : Value) : Prop := w.heap[b]? = some (.cells #[a0, a1, a2, a3, a4, a5] 25 (0, 0))
theorem Six.cells {w : World} {b : Nat} {a0 a1 a2 a3 a4 a5 : Value} (h : Six w b a0 a1 a2 a3 a4 a5) :
    (w.cell? ⟨b, 0, none⟩ = some a0 ∧ w.cell? ⟨b, 1, none⟩ = some a1 ∧ w.cell? ⟨b, 2, none⟩ = some a2 ∧ w.cell? ⟨b, 3, none⟩ = some a3 ∧ w.cell? ⟨b, 4, none⟩ = some a4 ∧ w.cell? ⟨b, 5, none⟩ = some a5) ∧ ∀ j, w.frozen? ⟨b, j, none⟩ = false := by
  unfold Six at h
  refine ⟨⟨?_, ?_, ?_, ?_, ?_, ?_⟩, fun j => frozen_of_block h j⟩ <;> simp [World.cell?, h]
theorem Six.new (w : World) (a0 a1 a2 a3 a4 a5 : Value) : Six (w.alloc (.cells #[a0, a1, a2, a3, a4, a5] 25)) w.heap.size a0 a1 a2 a3 a4 a5 := World.alloc_heap_new w _
theorem Six.below {w w' : World} {b n : Nat} {a0 a1 a2 a3 a4 a5 : Value} (h : Six w b a0 a1 a2 a3 a4 a5) (hb : Below n w w') (hn : b < n) : Six w' b a0 a1 a2 a3 a4 a5 := (hb.block b hn).trans h
theorem Six.lt {w : World} {b : Nat} {a0 a1 a2 a3 a4 a5 : Value} (h : Six w b a0 a1 a2 a3 a4 a5) : b < w.heap.size := (Array.getElem?_eq_some_iff.1 h).1
theorem Six.to {w w' : World} {b : Nat} {a0 a1 a2 a3 a4 a5 : Value} (h : Six w b a0 a1 a2 a3 a4 a5) (hb : Below w.heap.size w w') : Six w' b a0 a1 a2 a3 a4 a5 := h.below hb h.lt
theorem set_block {W : World} {b : Nat} {cs : Array Value} {t : TypeId} {fr : Nat × Nat} (h : W.heap[b]? = some (.cells cs t fr)) (o : Nat) (v : Value) : (W.setCell ⟨b, o, none⟩ v).heap[b]? = some (.cells (cs.setIfInBounds o v) t fr) := by
  obtain ⟨hlt, hk⟩ := Array.getElem?_eq_some_iff.1 h
  show (W.heap.modify b _)[b]? = _
  rw [Array.getElem?_eq_getElem (by rw [Array.size_modify]; exact hlt), Array.getElem_modify_self, hk]
  rfl
theorem Six.set4 {w : World} {b : Nat} {a0 a1 a2 a3 a4 a5 : Value} (h : Six w b a0 a1 a2 a3 a4 a5) (v : Value) : Six (w.setCell ⟨b, 4, none⟩ v) b a0 a1 a2 a3 v a5 := set_block h 4 v
theorem Six.set5 {w : World} {b : Nat} {a0 a1 a2 a3 a4 a5 : Value} (h : Six w b a0 a1 a2 a3 a4 a5) (v : Value) : Six (w.setCell ⟨b, 5, none⟩ v) b a0 a1 a2 a3 a4 v := set_block h 5 v
theorem Six.other {w : World} {b c o : Nat} {a0 a1 a2 a3 a4 a5 : Value} (h : Six w b a0 a1 a2 a3 a4 a5) (hne : b ≠ c) (v : Value) : Six (w.setCell ⟨c, o, none⟩ v) b a0 a1 a2 a3 a4 a5 := (Below.heap_setCell _ _ _ b hne).trans h
/-- Both boxes of a call. -/
theorem Six.two (w : World) (a0 a1 a2 a3 a4 a5 b0 b1 b2 b3 b4 b5 : Value) : Six ((w.alloc (.cells #[a0, a1, a2, a3, a4, a5] 25)).alloc (.cells #[b0, b1, b2, b3, b4, b5] 25)) w.heap.size a0 a1 a2 a3 a4 a5 ∧
    Six ((w.alloc (.cells #[a0, a1, a2, a3, a4, a5] 25)).alloc (.cells #[b0, b1, b2, b3, b4, b5] 25)) (w.heap.size + 1) b0 b1 b2 b3 b4 b5 := by
  refine ⟨(Six.new w a0 a1 a2 a3 a4 a5).to (blkBelow _ _ _), ?_⟩
  have := Six.new (w.alloc (.cells #[a0, a1, a2, a3, a4, a5] 25)) b0 b1 b2 b3 b4 b5
  rwa [World.size_alloc] at this

theorem Six.fill {w : World} {b : Nat} {a0 a1 a2 a3 a4 a5 : Value} (h : Six w b a0 a1 a2 a3 a4 a5) (v0 v1 v2 v3 v4 v5 : Value) :
    Six ((((((w.setCell ⟨b, 0, none⟩ v0).setCell ⟨b, 1, none⟩ v1).setCell ⟨b, 2, none⟩ v2).setCell ⟨b, 3, none⟩ v3).setCell ⟨b, 4, none⟩ v4).setCell ⟨b, 5, none⟩ v5) b v0 v1 v2 v3 v4 v5 :=
  set_block (set_block (set_block (set_block (set_block (set_block h 0 v0) 1 v1) 2 v2) 3 v3) 4 v4) 5 v5
/-- Between lo and the end of w, everything lies as it lay. -/
structure Above (lo : Nat) (w w' : World) : Prop where
  size : w.heap.size ≤ w'.heap.size
  same : ∀ k, lo ≤ k → k < w.heap.size → w'.heap[k]? = w.heap[k]?
theorem Above.refl (lo : Nat) (w : World) : Above lo w w := ⟨Nat.le_refl _, fun _ _ _ => rfl⟩
theorem Above.trans {lo : Nat} {a b c : World} (h : Above lo a b) (g : Above lo b c) : Above lo a c :=
  ⟨Nat.le_trans h.size g.size, fun k hl hk => (g.same k hl (Nat.lt_of_lt_of_le hk h.size)).trans (h.same k hl hk)⟩
theorem Above.of_below {lo : Nat} {a b : World} (h : Below a.heap.size a b) : Above lo a b := ⟨h.size, fun k _ hk => h.block k hk⟩
theorem Above.set {lo : Nat} {a b : World} (h : Above lo a b) {c o : Nat} (hc : c < lo) (v : Value) : Above lo a (b.setCell ⟨c, o, none⟩ v) :=
  ⟨by simpa using h.size, fun k hl hk => (Below.heap_setCell _ _ _ k (by simp; omega)).trans (h.same k hl hk)⟩
theorem Above.keeps {lo : Nat} {a b : World} (h : Above lo a b) : Keeps (Fresh lo a.heap.size) a b := fun k _ hk ho _ => (h.same k hk.1 hk.2).trans ho
theorem Above.fill {lo : Nat} {a b : World} (h : Above lo a b) {c : Nat} (hc : c < lo) (v0 v1 v2 v3 v4 v5 : Value) :
    Above lo a ((((((b.setCell ⟨c, 0, none⟩ v0).setCell ⟨c, 1, none⟩ v1).setCell ⟨c, 2, none⟩ v2).setCell ⟨c, 3, none⟩ v3).setCell ⟨c, 4, none⟩ v4).setCell ⟨c, 5, none⟩ v5) :=
  (((((h.set hc v0).set hc v1).set hc v2).set hc v3).set hc v4).set hc v5
theorem below_fill {B : Nat} {a b : World} (h : Below B a b) {c : Nat} (hc : B ≤ c) (v0 v1 v2 v3 v4 v5 : Value) :
    Below B a ((((((b.setCell ⟨c, 0, none⟩ v0).setCell ⟨c, 1, none⟩ v1).setCell ⟨c, 2, none⟩ v2).setCell ⟨c, 3, none⟩ v3).setCell ⟨c, 4, none⟩ v4).setCell ⟨c, 5, none⟩ v5) :=
  (((((h.setCell (p := ⟨c, 0, none⟩) hc v0).setCell (p := ⟨c, 1, none⟩) hc v1).setCell (p := ⟨c, 2, none⟩) hc v2).setCell (p := ⟨c, 3, none⟩) hc v3).setCell (p := ⟨c, 4, none⟩) hc v4).setCell (p := ⟨c, 5, none⟩) hc v5

set_option maxHeartbeats 1000000 in
set_option maxRecDepth 100000 in
theorem rebuild_any (B : Nat → Prop) (k p s : Int) (n : ByteArray) (lv kv : Value) (ls : List ByteArray) (ts : List Ty) (g : Ty → Ty) (f : Nat) (caps : Array Value) (hnn : n.size ≤ maxLen) (hls : ls.length ≤ 400000000) (hts : ts.length ≤ 1048576) (w : World) (hB : Low B w) (hl : StrSl B w lv ls) (hk : TySl B w kv ts)
    (eg : ∀ args w, (callFunc f args).run Tryd.prog w = .ok (.enter f args) w) (hf : MapsTo f caps B w ts g) :
    Calls Tryd.prog 78 #[.agg #[.int .i64 k, .int .i64 p, .string n, .int .i64 s, lv, kv], .func (.func f) #[] caps] w (TyRet w (.mk k p n s ls (ts.map g))) := by
  have hb0 := box2_below w (cell6 k p n s lv kv) (cell6 0 0 ⟨#[]⟩ 0 (.slice none 0 0) (.slice none 0 0))
  have HS := Lib.hid (mappedS_any B lv ls hls _ (hB.le hb0.size) (hl.keep (hb0.keeps'.mono hB)))
  have HF := Lib.hid hf
  have HK := Lib.hid hk
  have HB := Lib.hid hb0
  clear hf hl hk hb0
  go_enter Tryd.func78, Tryd.ntmps78
  go_wp2_with (go_at_call 102; refine HS.out.mono ?_; rintro e w1 ⟨la, ln, lc, rfl, hs1, hb1⟩; obtain ⟨hcl, hfz⟩ := bcell hb1)
  have hz1 : w.heap.size + 1 < w1.heap.size := by have := hb1.size; simp at this; omega
  have hw2 : Below w.heap.size w (w1.setCell ⟨w.heap.size, 4, none⟩ (.slice la ln lc)) := (below_seq HB.out hb1).setCell (p := ⟨w.heap.size, 4, none⟩) (Nat.le_refl _) _
  obtain ⟨s0, s1⟩ := Six.two w (.int .i64 k) (.int .i64 p) (.string n) (.int .i64 s) lv kv (.int .i64 0) (.int .i64 0) (.string ⟨#[]⟩) (.int .i64 0) (.slice none 0 0) (.slice none 0 0)
  have S0 := Lib.hid ((s0.to hb1).set4 (.slice la ln lc))
  have S1 := Lib.hid ((s1.to hb1).other (c := w.heap.size) (o := 4) (by omega) (.slice la ln lc))
  have HS1 := Lib.hid hs1
  have HB1 := Lib.hid hb1
  clear hs1 hb1 s0 s1 hcl hfz
  refine (mappedT_any B kv ts g f caps hts _ (hB.le hw2.size) (HK.out.keep (hw2.keeps'.mono hB)) eg (HF.out.later hw2)).mono ?_
  rintro e w3 ⟨ka, kn, kc, rfl, hk3, hb3⟩
  have hz3 : w.heap.size + 1 < w3.heap.size := by have := hb3.size; simp at this; omega
  obtain ⟨⟨c0, c1, c2, c3, c4, c5⟩, hf0⟩ := (S0.out.to hb3).cells
  obtain ⟨⟨d0, d1, d2, d3, d4, d5⟩, hf1⟩ := (S1.out.to hb3).cells
  have HK3 := Lib.hid hk3
  have HB3 := Lib.hid hb3
  have HW2 := Lib.hid hw2
  clear hk3 hb3 hw2
  go_wp2_with fail
  have hlo : ((w.alloc (cell6 k p n s lv kv)).alloc (cell6 0 0 ⟨#[]⟩ 0 (.slice none 0 0) (.slice none 0 0))).heap.size = w.heap.size + 2 := by simp
  have ha1 : Above (w.heap.size + 2) w1 (w1.setCell ⟨w.heap.size, 4, none⟩ (.slice la ln lc)) := (Above.refl _ _).set (by omega) _
  have ha3 := fun v0 v1 v2 v3 v4 v5 v6 => (((Above.refl (w.heap.size + 2) w3).set (c := w.heap.size) (o := 5) (by omega) v6).fill (c := w.heap.size + 1) (by omega) v0 v1 v2 v3 v4 v5)
  have hbw := fun v0 v1 v2 v3 v4 v5 v6 => below_fill (c := w.heap.size + 1) ((below_seq HW2.out HB3.out).setCell (p := ⟨w.heap.size, 5, none⟩) (Nat.le_refl _) v6) (by omega) v0 v1 v2 v3 v4 v5
  refine bodyPost_ret (v := .agg #[.int .i64 k, .int .i64 p, .string n, .int .i64 s, .slice la ln lc, .slice ka kn kc]) (by simp [results, Tryd.results78, go_sem, d0, d1, d2, d3, d4, d5]) rfl
    ⟨la, ln, lc, ka, kn, kc, rfl, ⟨_, _, rfl, hnn, ?_, ?_⟩, hbw _ _ _ _ _ _ _⟩
  · have h := HS1.out
    rw [hlo] at h
    have hall := (ha1.trans (Above.of_below HB3.out)).trans (ha3 (.int .i64 k) (.int .i64 p) (.string n) (.int .i64 s) (.slice la ln lc) (.slice ka kn kc) (.slice ka kn kc))
    exact (h.keep hall.keeps).mono (Fresh.mono (by omega) hall.size)
  · have h := HK3.out
    have hall := ha3 (.int .i64 k) (.int .i64 p) (.string n) (.int .i64 s) (.slice la ln lc) (.slice ka kn kc) (.slice ka kn kc)
    exact (h.keep (hall.keeps.mono (Fresh.mono (by have := HB1.out.size; simp at this ⊢; omega) (Nat.le_refl _)))).mono (Fresh.mono (by have := HB1.out.size; simp at this ⊢; omega) hall.size)

end Go.Proofs.YtipjjhkgcbabnaaDoor
