/- Types: rebuild, Copy, Raise. (and what follows from it) -/
import Derived.Test.YtliijbcgkkiekaaDoorPb3
import Derived.Shelf.Abstract

/- Types: rebuild, Copy, Raise. -/
namespace Go.Proofs.YtliijbcgkkiekaaDoor
open Go.RowKit Go.Deep

theorem MapsTo.later {f : Nat} {caps : Array Value} {B : Nat → Prop} {w0 w1 : World} {ts : List Ty} {g : Ty → Ty} (h : MapsTo f caps B w0 ts g) (hb : Below w0.heap.size w0 w1) : MapsTo f caps B w1 ts g :=
  fun t ht v wr hw hv => h t ht v wr (below_seq hb hw) hv

/-- A block of six cells, whole. -/
def Six (w : World) (b : Nat) (a0 a1 a2 a3 a4 a5 : Value) : Prop := w.heap[b]? = some (.cells #[a0, a1, a2, a3, a4, a5] 25 (0, 0))
theorem Six.cells {w : World} {b : Nat} {a0 a1 a2 a3 a4 a5 : Value} (h : Six w b a0 a1 a2 a3 a4 a5) :
    (w.cell? ⟨b, 0, none⟩ = some a0 ∧ w.cell? ⟨b, 1, none⟩ = some a1 ∧ w.cell? ⟨b, 2, none⟩ = some a2 ∧ w.cell? ⟨b, 3, none⟩ = some a3 ∧ w.cell? ⟨b, 4, none⟩ = some a4 ∧ w.cell? ⟨b, 5, none⟩ = some a5) ∧ ∀ j, w.frozen? ⟨b, j, none⟩ = false := by
  unfold Six at h
  refine ⟨⟨?_, ?_, ?_, ?_, ?_, ?_⟩, fun j => frozen_of_block h j⟩ <;> simp [World.cell?, h]
theorem Six.new (w : World) (a0 a1 a2 a3 a4 a5 : Value) : Six (w.alloc (.cells #[a0, a1, a2, a3, a4, a5] 25)) w.heap.size a0 a1 a2 a3 a4 a5 := World.alloc_heap_new w _
theorem Six.below {w w' : World} {b n : Nat} {a0 a1 a2 a3 a4 a5 : Value} (h : Six w b a0 a1 a2 a3 a4 a5) (hb : Below n w w') (hn : b < n) : Six w' b a0 a1 a2 a3 a4 a5 := (hb.block b hn).trans h
theorem Six.lt {w : World} {b : Nat} {a0 a1 a2 a3 a4 a5 : Value} (h : Six w b a0 a1 a2 a3 a4 a5) : b < w.heap.size := (Array.getElem?_eq_some_iff.1 h).1
theorem Six.to {w w' : World} {b : Nat} {a0 a1 a2 a3 a4 a5 : Value} (h : Six w b a0 a1 a2 a3 a4 a5) (hb : Below w.heap.size w w') : Six w' b a0 a1 a2 a3 a4 a5 := h.below hb h.lt
theorem set_block {W : World} {b : Nat} {cs : Array Value} {t : TypeId} {fr : Nat × Nat} (h : W.heap[b]? = some (.cells cs t fr)) (o : Nat) (v : Value) : (W.setCell ⟨b, o, none⟩ v).heap[b]? = some (.cells (cs.setIfInBounds o v) t fr) := by
  obtain ⟨hlt, hk⟩ := Array.getElem?_eq_some_iff.1 h
  show (W.heap.modify b _)[b]? = _
  rw [Array.getElem?_eq_getElem (by rw [Array.size_modify]; exact hlt), Array.getElem_modify_self, hk]
  rfl
theorem Six.set4 {w : World} {b : Nat} {a0 a1 a2 a3 a4 a5 : Value} (h : Six w b a0 a1 a2 a3 a4 a5) (v : Value) : Six (w.setCell ⟨b, 4, none⟩ v) b a0 a1 a2 a3 v a5 := set_block h 4 v
theorem Six.set5 {w : World} {b : Nat} {a0 a1 a2 a3 a4 a5 : Value} (h : Six w b a0 a1 a2 a3 a4 a5) (v : Value) : Six (w.setCell ⟨b, 5, none⟩ v) b a0 a1 a2 a3 a4 v := set_block h 5 v
theorem Six.other {w : World} {b c o : Nat} {a0 a1 a2 a3 a4 a5 : Value} (h : Six w b a0 a1 a2 a3 a4 a5) (hne : b ≠ c) (v : Value) : Six (w.setCell ⟨c, o, none⟩ v) b a0 a1 a2 a3 a4 a5 := (Below.heap_setCell _ _ _ b hne).trans h
/-- Both boxes of a call. -/
theorem Six.two (w : World) (a0 a1 a2 a3 a4 a5 b0 b1 b2 b3 b4 b5 : Value) : Six ((w.alloc (.cells #[a0, a1, a2, a3, a4, a5] 25)).alloc (.cells #[b0, b1, b2, b3, b4, b5] 25)) w.heap.size a0 a1 a2 a3 a4 a5 ∧
    Six ((w.alloc (.cells #[a0, a1, a2, a3, a4, a5] 25)).alloc (.cells #[b0, b1, b2, b3, b4, b5] 25)) (w.heap.size + 1) b0 b1 b2 b3 b4 b5 := by
  refine ⟨(Six.new w a0 a1 a2 a3 a4 a5).to (blkBelow _ _ _), ?_⟩
  have := Six.new (w.alloc (.cells #[a0, a1, a2, a3, a4, a5] 25)) b0 b1 b2 b3 b4 b5
  rwa [World.size_alloc] at this

theorem Six.fill {w : World} {b : Nat} {a0 a1 a2 a3 a4 a5 : Value} (h : Six w b a0 a1 a2 a3 a4 a5) (v0 v1 v2 v3 v4 v5 : Value) :
    Six ((((((w.setCell ⟨b, 0, none⟩ v0).setCell ⟨b, 1, none⟩ v1).setCell ⟨b, 2, none⟩ v2).setCell ⟨b, 3, none⟩ v3).setCell ⟨b, 4, none⟩ v4).setCell ⟨b, 5, none⟩ v5) b v0 v1 v2 v3 v4 v5 :=
  set_block (set_block (set_block (set_block (set_block (set_block h 0 v0) 1 v1) 2 v2) 3 v3) 4 v4) 5 v5
/-- Between lo and the end of w, everything lies as it lay. -/
structure Above (lo : Nat) (w w' : World) : Prop where
  size : w.heap.size ≤ w'.heap.size
  same : ∀ k, lo ≤ k → k < w.heap.size → w'.heap[k]? = w.heap[k]?
theorem Above.refl (lo : Nat) (w : World) : Above lo w w := ⟨Nat.le_refl _, fun _ _ _ => rfl⟩
theorem Above.trans {lo : Nat} {a b c : World} (h : Above lo a b) (g : Above lo b c) : Above lo a c :=
  ⟨Nat.le_trans h.size g.size, fun k hl hk => (g.same k hl (Nat.lt_of_lt_of_le hk h.size)).trans (h.same k hl hk)⟩
theorem Above.of_below {lo : Nat} {a b : World} (h : Below a.heap.size a b) : Above lo a b := ⟨h.size, fun k _ hk => h.block k hk⟩
theorem Above.set {lo : Nat} {a b : World} (h : Above lo a b) {c o : Nat} (hc : c < lo) (v : Value) : Above lo a (b.setCell ⟨c, o, none⟩ v) :=
  ⟨by simpa using h.size, fun k hl hk => (Below.heap_setCell _ _ _ k (by simp; omega)).trans (h.same k hl hk)⟩
theorem Above.keeps {lo : Nat} {a b : World} (h : Above lo a b) : Keeps (Fresh lo a.heap.size) a b := fun k _ hk ho _ => (h.same k hk.1 hk.2).trans ho
theorem Above.fill {lo : Nat} {a b : World} (h : Above lo a b) {c : Nat} (hc : c < lo) (v0 v1 v2 v3 v4 v5 : Value) :
    Above lo a ((((((b.setCell ⟨c, 0, none⟩ v0).setCell ⟨c, 1, none⟩ v1).setCell ⟨c, 2, none⟩ v2).setCell ⟨c, 3, none⟩ v3).setCell ⟨c, 4, none⟩ v4).setCell ⟨c, 5, none⟩ v5) :=
  (((((h.set hc v0).set hc v1).set hc v2).set hc v3).set hc v4).set hc v5
theorem below_fill {B : Nat} {a b : World} (h : Below B a b) {c : Nat} (hc : B ≤ c) (v0 v1 v2 v3 v4 v5 : Value) :
    Below B a ((((((b.setCell ⟨c, 0, none⟩ v0).setCell ⟨c, 1, none⟩ v1).setCell ⟨c, 2, none⟩ v2).setCell ⟨c, 3, none⟩ v3).setCell ⟨c, 4, none⟩ v4).setCell ⟨c, 5, none⟩ v5) :=
  (((((h.setCell (p := ⟨c, 0, none⟩) hc v0).setCell (p := ⟨c, 1, none⟩) hc v1).setCell (p := ⟨c, 2, none⟩) hc v2).setCell (p := ⟨c, 3, none⟩) hc v3).setCell (p := ⟨c, 4, none⟩) hc v4).setCell (p := ⟨c, 5, none⟩) hc v5

set_option maxHeartbeats 1000000 in
set_option maxRecDepth 100000 in
theorem rebuild_any (B : Nat → Prop) (k p s : Int) (n : ByteArray) (lv kv : Value) (ls : List ByteArray) (ts : List Ty) (g : Ty → Ty) (f : Nat) (caps : Array Value) (hnn : n.size ≤ maxLen) (hls : ls.length ≤ 1048576) (hts : ts.length ≤ 1048576) (w : World) (hB : Low B w) (hl : StrSl B w lv ls) (hk : TySl B w kv ts)
    (eg : ∀ args w, (callFunc f args).run Tryd.prog w = .ok (.enter f args) w) (hf : MapsTo f caps B w ts g) :
    Calls Tryd.prog 78 #[.agg #[.int .i64 k, .int .i64 p, .string n, .int .i64 s, lv, kv], .func (.func f) #[] caps] w (TyRet w (.mk k p n s ls (ts.map g))) := by
  have hb0 := box2_below w (cell6 k p n s lv kv) (cell6 0 0 ⟨#[]⟩ 0 (.slice none 0 0) (.slice none 0 0))
  have HS := Lib.hid (mappedS_any B lv ls hls _ (hB.le hb0.size) (hl.keep (hb0.keeps'.mono hB)))
  have HF := Lib.hid hf
  have HK := Lib.hid hk
  have HB := Lib.hid hb0
  clear hf hl hk hb0
  go_enter Tryd.func78, Tryd.ntmps78
  go_wp2_with (go_at_call 102; refine HS.out.mono ?_; rintro e w1 ⟨la, ln, lc, rfl, hs1, hb1⟩; obtain ⟨hcl, hfz⟩ := bcell hb1)
  have hz1 : w.heap.size + 1 < w1.heap.size := by have := hb1.size; simp at this; omega
  have hw2 : Below w.heap.size w (w1.setCell ⟨w.heap.size, 4, none⟩ (.slice la ln lc)) := (below_seq HB.out hb1).setCell (p := ⟨w.heap.size, 4, none⟩) (Nat.le_refl _) _
  obtain ⟨s0, s1⟩ := Six.two w (.int .i64 k) (.int .i64 p) (.string n) (.int .i64 s) lv kv (.int .i64 0) (.int .i64 0) (.string ⟨#[]⟩) (.int .i64 0) (.slice none 0 0) (.slice none 0 0)
  have S0 := Lib.hid ((s0.to hb1).set4 (.slice la ln lc))
  have S1 := Lib.hid ((s1.to hb1).other (c := w.heap.size) (o := 4) (by omega) (.slice la ln lc))
  have HS1 := Lib.hid hs1
  have HB1 := Lib.hid hb1
  clear hs1 hb1 s0 s1 hcl hfz
  refine (mappedT_any B kv ts g f caps hts _ (hB.le hw2.size) (HK.out.keep (hw2.keeps'.mono hB)) eg (HF.out.later hw2)).mono ?_
  rintro e w3 ⟨ka, kn, kc, rfl, hk3, hb3⟩
  have hz3 : w.heap.size + 1 < w3.heap.size := by have := hb3.size; simp at this; omega
  obtain ⟨⟨c0, c1, c2, c3, c4, c5⟩, hf0⟩ := (S0.out.to hb3).cells
  obtain ⟨⟨d0, d1, d2, d3, d4, d5⟩, hf1⟩ := (S1.out.to hb3).cells
  have HK3 := Lib.hid hk3
  have HB3 := Lib.hid hb3
  have HW2 := Lib.hid hw2
  clear hk3 hb3 hw2
  go_wp2_with fail
  have hlo : ((w.alloc (cell6 k p n s lv kv)).alloc (cell6 0 0 ⟨#[]⟩ 0 (.slice none 0 0) (.slice none 0 0))).heap.size = w.heap.size + 2 := by simp
  have ha1 : Above (w.heap.size + 2) w1 (w1.setCell ⟨w.heap.size, 4, none⟩ (.slice la ln lc)) := (Above.refl _ _).set (by omega) _
  have ha3 := fun v0 v1 v2 v3 v4 v5 v6 => (((Above.refl (w.heap.size + 2) w3).set (c := w.heap.size) (o := 5) (by omega) v6).fill (c := w.heap.size + 1) (by omega) v0 v1 v2 v3 v4 v5)
  have hbw := fun v0 v1 v2 v3 v4 v5 v6 => below_fill (c := w.heap.size + 1) ((below_seq HW2.out HB3.out).setCell (p := ⟨w.heap.size, 5, none⟩) (Nat.le_refl _) v6) (by omega) v0 v1 v2 v3 v4 v5
  refine bodyPost_ret (v := .agg #[.int .i64 k, .int .i64 p, .string n, .int .i64 s, .slice la ln lc, .slice ka kn kc]) (by simp [results, Tryd.results78, go_sem, d0, d1, d2, d3, d4, d5]) rfl
    ⟨la, ln, lc, ka, kn, kc, rfl, ⟨_, _, rfl, hnn, ?_, ?_⟩, hbw _ _ _ _ _ _ _⟩
  · have h := HS1.out
    rw [hlo] at h
    have hall := (ha1.trans (Above.of_below HB3.out)).trans (ha3 (.int .i64 k) (.int .i64 p) (.string n) (.int .i64 s) (.slice la ln lc) (.slice ka kn kc) (.slice ka kn kc))
    exact (h.keep hall.keeps).mono (Fresh.mono (by omega) hall.size)
  · have h := HK3.out
    have hall := ha3 (.int .i64 k) (.int .i64 p) (.string n) (.int .i64 s) (.slice la ln lc) (.slice ka kn kc) (.slice ka kn kc)
    exact (h.keep (hall.keeps.mono (Fresh.mono (by have := HB1.out.size; simp at this ⊢; omega) (Nat.le_refl _)))).mono (Fresh.mono (by have := HB1.out.size; simp at this ⊢; omega) hall.size)

end Go.Proofs.YtliijbcgkkiekaaDoor

/- Types: Copy, Raise. -/
namespace Go.Proofs.YtliijbcgkkiekaaDoor
open Go.RowKit Go.Deep Go.Shelf

/-- Types whose lists are not too long, and whose priorities and shifts are not too great. -/
def okI (p : Int) : Prop := -1000000000000 ≤ p ∧ p ≤ 1000000000000
mutual
def Ty.mod : Ty → Prop
  | .mk _ p _ s ls ts => ls.length ≤ 1048576 ∧ ts.length ≤ 1048576 ∧ okI p ∧ okI s ∧ Ty.mods ts
def Ty.mods : List Ty → Prop
  | [] => True
  | t :: r => t.mod ∧ Ty.mods r
end
theorem Ty.mods_mem : ∀ {ts : List Ty}, Ty.mods ts → ∀ t ∈ ts, t.mod
  | [], _, _, h => by cases h
  | u :: r, h, t, ht => by
    simp only [Ty.mods] at h
    rcases List.mem_cons.1 ht with rfl | ht
    · exact h.1
    · exact Ty.mods_mem h.2 t ht

/-- A type that was returned, stored into a box of the caller's and read from it. -/
theorem ret_fill {w W w3 : World} {c : Nat} (hW : Below w.heap.size w W) (hwc : w.heap.size ≤ c) (hc : c < W.heap.size) (hb3 : Below W.heap.size W w3) {g : Ty} {v : Value} (hv : TyVal (Fresh W.heap.size w3.heap.size) w3 v g) (v0 v1 v2 v3 v4 v5 : Value) :
    TyVal (Fresh w.heap.size ((((((w3.setCell ⟨c, 0, none⟩ v0).setCell ⟨c, 1, none⟩ v1).setCell ⟨c, 2, none⟩ v2).setCell ⟨c, 3, none⟩ v3).setCell ⟨c, 4, none⟩ v4).setCell ⟨c, 5, none⟩ v5).heap.size)
      ((((((w3.setCell ⟨c, 0, none⟩ v0).setCell ⟨c, 1, none⟩ v1).setCell ⟨c, 2, none⟩ v2).setCell ⟨c, 3, none⟩ v3).setCell ⟨c, 4, none⟩ v4).setCell ⟨c, 5, none⟩ v5) v g ∧
    Below w.heap.size w ((((((w3.setCell ⟨c, 0, none⟩ v0).setCell ⟨c, 1, none⟩ v1).setCell ⟨c, 2, none⟩ v2).setCell ⟨c, 3, none⟩ v3).setCell ⟨c, 4, none⟩ v4).setCell ⟨c, 5, none⟩ v5) := by
  have ha := (Above.refl W.heap.size w3).fill hc v0 v1 v2 v3 v4 v5
  exact ⟨(hv.keep ha.keeps).mono (Fresh.mono hW.size ha.size), below_fill (below_seq hW hb3) hwc v0 v1 v2 v3 v4 v5⟩

theorem enters_copy : ∀ args w, (callFunc 74 args).run Tryd.prog w = .ok (.enter 74 args) w := enters_of Tryd.func74 (by kernel_rfl) rfl
theorem enters_raise1 : ∀ args w, (callFunc 79 args).run Tryd.prog w = .ok (.enter 79 args) w := enters_of Tryd.func79 (by kernel_rfl) rfl
theorem enters_replace1 : ∀ args w, (callFunc 101 args).run Tryd.prog w = .ok (.enter 101 args) w := enters_of Tryd.func101 (by kernel_rfl) rfl

set_option maxHeartbeats 1000000 in
set_option maxRecDepth 100000 in
theorem copy_step (B : Nat → Prop) (k p s : Int) (n : ByteArray) (lv kv : Value) (ls : List ByteArray) (ts : List Ty) (hm : (Ty.mk k p n s ls ts).mod) (hnn : n.size ≤ maxLen) (w : World) (hB : Low B w) (hl : StrSl B w lv ls) (hk : TySl B w kv ts)
    (ih : ∀ t ∈ ts, ∀ (v : Value) (w : World), Low B w → TyVal B w v t → Calls Tryd.prog 74 #[v] w (TyRet w t)) :
    Calls Tryd.prog 74 #[.agg #[.int .i64 k, .int .i64 p, .string n, .int .i64 s, lv, kv]] w (TyRet w (.mk k p n s ls ts)) := by
  simp only [Ty.mod] at hm
  obtain ⟨hm1, hm2, _⟩ := hm
  have hb0 := box2_below w (cell6 k p n s lv kv) (cell6 0 0 ⟨#[]⟩ 0 (.slice none 0 0) (.slice none 0 0))
  obtain ⟨s0, s1⟩ := Six.two w (.int .i64 k) (.int .i64 p) (.string n) (.int .i64 s) lv kv (.int .i64 0) (.int .i64 0) (.string ⟨#[]⟩) (.int .i64 0) (.slice none 0 0) (.slice none 0 0)
  have HR := Lib.hid (rebuild_any B k p s n lv kv ls ts id 74 #[] hnn hm1 hm2 _ (hB.le hb0.size) (hl.keep (hb0.keeps'.mono hB)) (hk.keep (hb0.keeps'.mono hB)) enters_copy
    (fun t ht v wr hwr hv => ih t ht v wr (hB.le (Nat.le_trans hb0.size hwr.size)) hv))
  have S1 := Lib.hid s1
  have HB0 := Lib.hid hb0
  clear s0 s1 hl hk ih hb0
  rw [List.map_id] at HR
  go_enter Tryd.func74, Tryd.ntmps74
  go_wp2_with fail
  refine HR.out.mono ?_
  rintro e w3 ⟨la, ln, lc, ka, kn, kc, rfl, hv3, hb3⟩
  obtain ⟨⟨d0, d1, d2, d3, d4, d5⟩, hf1⟩ := (S1.out.to hb3).cells
  have HV := Lib.hid hv3
  have HB3 := Lib.hid hb3
  clear hv3 hb3
  go_wp2_with fail
  have hfin := ret_fill (c := w.heap.size + 1) HB0.out (by omega) (by simp) HB3.out HV.out (.int .i64 k) (.int .i64 p) (.string n) (.int .i64 s) (.slice la ln lc) (.slice ka kn kc)
  exact bodyPost_ret (v := .agg #[.int .i64 k, .int .i64 p, .string n, .int .i64 s, .slice la ln lc, .slice ka kn kc]) (by simp [results, Tryd.results74, go_sem, d0, d1, d2, d3, d4, d5, Ty.k, Ty.p, Ty.n, Ty.s]) rfl ⟨la, ln, lc, ka, kn, kc, rfl, hfin.1, hfin.2⟩

theorem copy_any (B : Nat → Prop) : ∀ t : Ty, t.mod → ∀ (v : Value) (w : World), Low B w → TyVal B w v t → Calls Tryd.prog 74 #[v] w (TyRet w t) := by
  refine Ty.ind ?_
  intro k p n s ls ts ih hm v w hB hv
  obtain ⟨lv, kv, rfl, hn, hl, hk⟩ := hv
  have hm' := hm
  simp only [Ty.mod] at hm'
  exact copy_step B k p s n lv kv ls ts hm hn w hB hl hk (fun t ht => ih t ht (Ty.mods_mem hm'.2.2.2.2 t ht))

/-! ### Raise -/
mutual
def Ty.raise (j : Int) : Ty → Ty
  | .mk k p n s ls ts => .mk k (if actB k then p + j else p) n s ls (Ty.raises j ts)
def Ty.raises (j : Int) : List Ty → List Ty
  | [] => []
  | t :: r => t.raise j :: Ty.raises j r
end
theorem Ty.raises_map (j : Int) : ∀ ts : List Ty, Ty.raises j ts = ts.map (Ty.raise j)
  | [] => rfl
  | t :: r => by rw [Ty.raises, List.map_cons, Ty.raises_map j r]

set_option maxHeartbeats 1000000 in
set_option maxRecDepth 100000 in
theorem raise1_any (k p s : Int) (n : ByteArray) (lv kv : Value) (j : Int) (bk : Nat) (g : Ty) (w : World) (hbk : w.cell? ⟨bk, 0, none⟩ = some (.int .i64 j)) (hlt : bk < w.heap.size)
    (ih : ∀ (wr : World), Below w.heap.size w wr → w.heap.size < wr.heap.size → Calls Tryd.prog 46 #[.agg #[.int .i64 k, .int .i64 p, .string n, .int .i64 s, lv, kv], .int .i64 j] wr (TyRet wr g)) :
    Calls Tryd.prog 79 #[.agg #[.int .i64 k, .int .i64 p, .string n, .int .i64 s, lv, kv], .pointer (some ⟨bk, 0, none⟩)] w (TyRet w g) := by
  have hb0 := box2_below w (cell6 k p n s lv kv) (cell6 0 0 ⟨#[]⟩ 0 (.slice none 0 0) (.slice none 0 0))
  obtain ⟨s0, s1⟩ := Six.two w (.int .i64 k) (.int .i64 p) (.string n) (.int .i64 s) lv kv (.int .i64 0) (.int .i64 0) (.string ⟨#[]⟩) (.int .i64 0) (.slice none 0 0) (.slice none 0 0)
  have HR := Lib.hid (ih _ hb0 (by simp; omega))
  have S1 := Lib.hid s1
  have HB0 := Lib.hid hb0
  have hck := (hb0.cell (p := ⟨bk, 0, none⟩) hlt).trans hbk
  clear s0 s1 ih hb0
  go_enter Tryd.func79, Tryd.ntmps79
  go_wp2_with fail
  refine HR.out.mono ?_
  rintro e w3 ⟨la, ln, lc, ka, kn, kc, rfl, hv3, hb3⟩
  obtain ⟨⟨d0, d1, d2, d3, d4, d5⟩, hf1⟩ := (S1.out.to hb3).cells
  have HV := Lib.hid hv3
  have HB3 := Lib.hid hb3
  clear hv3 hb3 hck
  go_wp2_with fail
  have hfin := ret_fill (c := w.heap.size + 1) HB0.out (by omega) (by simp) HB3.out HV.out (.int .i64 g.k) (.int .i64 g.p) (.string g.n) (.int .i64 g.s) (.slice la ln lc) (.slice ka kn kc)
  exact bodyPost_ret (v := .agg #[.int .i64 g.k, .int .i64 g.p, .string g.n, .int .i64 g.s, .slice la ln lc, .slice ka kn kc]) (by simp [results, Tryd.results79, go_sem, d0, d1, d2, d3, d4, d5]) rfl ⟨la, ln, lc, ka, kn, kc, rfl, hfin.1, hfin.2⟩

end Go.Proofs.YtliijbcgkkiekaaDoor

/- Types: Raise, whole. -/
namespace Go.Proofs.YtliijbcgkkiekaaDoor
open Go.RowKit Go.Deep Go.Shelf

/-- The world in which Raise calls rebuild. -/
abbrev box3 (w : World) (k p : Int) (n : ByteArray) (s : Int) (lv kv : Value) (j : Int) : World := ((w.alloc (cell6 k p n s lv kv)).alloc (.cells #[.int .i64 j] 3)).alloc (cell6 0 0 ⟨#[]⟩ 0 (.slice none 0 0) (.slice none 0 0))
theorem box3_below (w : World) (o o' o'' : Obj) : Below w.heap.size w (((w.alloc o).alloc o').alloc o'') := (((Below.refl _ _).alloc (Nat.le_refl _) _).alloc (by simp) _).alloc (by simp; omega) _

theorem Above.set_new {lo : Nat} {a b : World} (h : Above lo a b) {c o : Nat} (hc : a.heap.size ≤ c) (v : Value) : Above lo a (b.setCell ⟨c, o, none⟩ v) :=
  ⟨by simpa using h.size, fun k hl hk => (Below.heap_setCell _ _ _ k (by simp; omega)).trans (h.same k hl hk)⟩
theorem ret_fill2 {w w3 W5 : World} {lo c : Nat} (hlo : w.heap.size ≤ lo) (hc : c < lo) (hwc : w.heap.size ≤ c) (hA : Above lo w3 W5) (hb : Below w.heap.size w W5) {g g' : Ty} {a0 a1 a2 a3 lv kv : Value} (hv : TyVal (Fresh lo w3.heap.size) w3 (.agg #[a0, a1, a2, a3, lv, kv]) g)
    (hl : g'.ls = g.ls) (ht : g'.ts = g.ts) (hn : g'.n = g.n) (v0 v1 v2 v3 v4 v5 : Value) :
    TyVal (Fresh w.heap.size ((((((W5.setCell ⟨c, 0, none⟩ v0).setCell ⟨c, 1, none⟩ v1).setCell ⟨c, 2, none⟩ v2).setCell ⟨c, 3, none⟩ v3).setCell ⟨c, 4, none⟩ v4).setCell ⟨c, 5, none⟩ v5).heap.size)
      ((((((W5.setCell ⟨c, 0, none⟩ v0).setCell ⟨c, 1, none⟩ v1).setCell ⟨c, 2, none⟩ v2).setCell ⟨c, 3, none⟩ v3).setCell ⟨c, 4, none⟩ v4).setCell ⟨c, 5, none⟩ v5) (.agg #[.int .i64 g'.k, .int .i64 g'.p, .string g'.n, .int .i64 g'.s, lv, kv]) g' ∧
    Below w.heap.size w ((((((W5.setCell ⟨c, 0, none⟩ v0).setCell ⟨c, 1, none⟩ v1).setCell ⟨c, 2, none⟩ v2).setCell ⟨c, 3, none⟩ v3).setCell ⟨c, 4, none⟩ v4).setCell ⟨c, 5, none⟩ v5) := by
  have ha := hA.fill hc v0 v1 v2 v3 v4 v5
  refine ⟨?_, below_fill hb hwc v0 v1 v2 v3 v4 v5⟩
  obtain ⟨lv', kv', e, hnn, h1, h2⟩ := hv
  simp only [Value.agg.injEq, Array.mk.injEq, List.cons.injEq, and_true] at e
  obtain ⟨_, _, _, _, rfl, rfl⟩ := e
  exact ⟨lv, kv, rfl, by rw [hn]; exact hnn, by rw [hl]; exact (h1.keep ha.keeps).mono (Fresh.mono hlo ha.size), by rw [ht]; exact (h2.keep ha.keeps).mono (Fresh.mono hlo ha.size)⟩

set_option maxHeartbeats 1000000 in
set_option maxRecDepth 100000 in
theorem raise_step (B : Nat → Prop) (j : Int) (hj : okI j) (k p s : Int) (n : ByteArray) (lv kv : Value) (ls : List ByteArray) (ts : List Ty) (hm : (Ty.mk k p n s ls ts).mod) (hnn : n.size ≤ maxLen) (w : World) (hB : Low B w) (hl : StrSl B w lv ls) (hk : TySl B w kv ts)
    (ih : ∀ t ∈ ts, ∀ (v : Value) (w : World), Low B w → TyVal B w v t → Calls Tryd.prog 46 #[v, .int .i64 j] w (TyRet w (t.raise j))) :
    Calls Tryd.prog 46 #[.agg #[.int .i64 k, .int .i64 p, .string n, .int .i64 s, lv, kv], .int .i64 j] w (TyRet w ((Ty.mk k p n s ls ts).raise j)) := by
  simp only [Ty.mod] at hm
  obtain ⟨hm1, hm2, hp, _⟩ := hm
  obtain ⟨hp1, hp2⟩ := hp
  obtain ⟨hj1, hj2⟩ := hj
  have hb0 := box3_below w (cell6 k p n s lv kv) (.cells #[.int .i64 j] 3) (cell6 0 0 ⟨#[]⟩ 0 (.slice none 0 0) (.slice none 0 0))
  have s2 := Six.new ((w.alloc (cell6 k p n s lv kv)).alloc (.cells #[.int .i64 j] 3)) (.int .i64 0) (.int .i64 0) (.string ⟨#[]⟩) (.int .i64 0) (.slice none 0 0) (.slice none 0 0)
  simp only [World.size_alloc] at s2
  have c1 : (box3 w k p n s lv kv j).cell? ⟨w.heap.size + 1, 0, none⟩ = some (.int .i64 j) := by
    have h := blk_cell (w := w.alloc (cell6 k p n s lv kv)) (cs := #[.int .i64 j]) (t := 3) (Below.refl _ _) 0 rfl
    rw [World.size_alloc] at h
    exact ((blkBelow _ _ _).cell (p := ⟨w.heap.size + 1, 0, none⟩) (by simp)).trans h
  have HR := Lib.hid (rebuild_any B k p s n lv kv ls ts (Ty.raise j) 79 #[.pointer (some ⟨w.heap.size + 1, 0, none⟩)] hnn hm1 hm2 _ (hB.le hb0.size) (hl.keep (hb0.keeps'.mono hB)) (hk.keep (hb0.keeps'.mono hB)) enters_raise1
    (fun t ht v wr hwr hv => by
      obtain ⟨lv', kv', rfl, hv2⟩ := hv
      exact raise1_any _ _ _ _ lv' kv' j (w.heap.size + 1) _ wr ((hwr.cell (p := ⟨w.heap.size + 1, 0, none⟩) (by simp)).trans c1) (by have := hwr.size; simp at this; omega)
        (fun wr' hwr' _ => ih t ht _ wr' (hB.le (Nat.le_trans hb0.size (Nat.le_trans hwr.size hwr'.size))) (TyVal.to (hB.le (Nat.le_trans hb0.size hwr.size)) hwr' ⟨lv', kv', rfl, hv2⟩))))
  have S2 := Lib.hid s2
  have HB0 := Lib.hid hb0
  have C1 := Lib.hid c1
  clear s2 hl hk ih hb0 c1
  go_enter Tryd.func46, Tryd.ntmps46
  go_wp2_with fail
  refine HR.out.mono ?_
  rintro e w3 ⟨la, ln, lc, ka, kn, kc, rfl, hv3, hb3⟩
  have hz3 : w.heap.size + 3 ≤ w3.heap.size := by have := hb3.size; simp at this; omega
  dsimp only [Ty.k, Ty.p, Ty.n, Ty.s] at hv3 ⊢
  have hbx := blkBelow w3 #[.int .i64 k, .int .i64 p, .string n, .int .i64 s, .slice la ln lc, .slice ka kn kc] 25
  have h6 := Six.new w3 (.int .i64 k) (.int .i64 p) (.string n) (.int .i64 s) (.slice la ln lc) (.slice ka kn kc)
  have hsz4 : (w3.alloc (.cells #[.int .i64 k, .int .i64 p, .string n, .int .i64 s, .slice la ln lc, .slice ka kn kc] 25)).heap.size = w3.heap.size + 1 := by simp
  obtain ⟨w4, hw4⟩ : ∃ w4, w3.alloc (.cells #[.int .i64 k, .int .i64 p, .string n, .int .i64 s, .slice la ln lc, .slice ka kn kc] 25) = w4 := ⟨_, rfl⟩
  rw [hw4] at hbx h6 hsz4
  have c13 : w4.cell? ⟨w.heap.size + 1, 0, none⟩ = some (.int .i64 j) := (hbx.cell (p := ⟨w.heap.size + 1, 0, none⟩) (by simp; omega)).trans ((hb3.cell (p := ⟨w.heap.size + 1, 0, none⟩) (by simp)).trans C1.out)
  have s3 := (S2.out.to hb3).to hbx
  obtain ⟨⟨d0, d1, d2, d3, d4, d5⟩, hf1⟩ := s3.cells
  have hall : Above (w.heap.size + 3) w3 w4 := Above.of_below hbx
  have HV := Lib.hid hv3
  have HB4 := Lib.hid (below_seq (below_seq HB0.out hb3) hbx)
  have HA := Lib.hid hall
  obtain ⟨⟨e0, e1, e2, e3, e4, e5⟩, hf6⟩ := h6.cells
  have HZ := Lib.hid hsz4
  have HS3 := Lib.hid s3
  have H6 := Lib.hid h6
  clear hv3 hb3 hbx s3 hall h6 hsz4
  by_cases hact : actB k = true
  · go_wp2_with (go_at_call 80; refine (action_any _ _).mono ?_; rintro e w5 ⟨rfl, rfl⟩)
    have hfin := ret_fill2 (lo := w.heap.size + 3) (c := w.heap.size + 1 + 1) (g' := (Ty.mk k p n s ls ts).raise j) (by omega) (by omega) (by omega) (HA.out.set_new (c := w3.heap.size) (o := 1) (Nat.le_refl _) (.int .i64 (p + j))) (HB4.out.setCell (p := ⟨w3.heap.size, 1, none⟩) (by simp; omega) (.int .i64 (p + j))) (by simpa using HV.out)
      (by simp [Ty.raise, Ty.ls]) (by simp [Ty.raise, Ty.ts, Ty.raises_map]) (by simp [Ty.raise, Ty.n]) (.int .i64 k) (.int .i64 (p + j)) (.string n) (.int .i64 s) (.slice la ln lc) (.slice ka kn kc)
    have hrw : (Ty.mk k p n s ls ts).raise j = .mk k (p + j) n s ls (Ty.raises j ts) := by rw [Ty.raise, if_pos hact]
    rw [hrw] at hfin ⊢
    exact bodyPost_ret (v := .agg #[.int .i64 k, .int .i64 (p + j), .string n, .int .i64 s, .slice la ln lc, .slice ka kn kc]) (by simp [results, Tryd.results46, go_sem, d0, d1, d2, d3, d4, d5]) rfl ⟨la, ln, lc, ka, kn, kc, rfl, hfin.1, hfin.2⟩
  · have hact' : actB k = false := by simpa using hact
    go_wp2_with (go_at_call 80; refine (action_any _ _).mono ?_; rintro e w5 ⟨rfl, rfl⟩)
    have hfin := ret_fill2 (lo := w.heap.size + 3) (c := w.heap.size + 1 + 1) (g' := (Ty.mk k p n s ls ts).raise j) (by omega) (by omega) (by omega) HA.out (HB4.out.mono (Nat.le_refl _)) (by simpa using HV.out)
      (by simp [Ty.raise, Ty.ls]) (by simp [Ty.raise, Ty.ts, Ty.raises_map]) (by simp [Ty.raise, Ty.n]) (.int .i64 k) (.int .i64 p) (.string n) (.int .i64 s) (.slice la ln lc) (.slice ka kn kc)
    have hrw : (Ty.mk k p n s ls ts).raise j = .mk k p n s ls (Ty.raises j ts) := by rw [Ty.raise, if_neg hact]
    rw [hrw] at hfin ⊢
    exact bodyPost_ret (v := .agg #[.int .i64 k, .int .i64 p, .string n, .int .i64 s, .slice la ln lc, .slice ka kn kc]) (by simp [results, Tryd.results46, go_sem, d0, d1, d2, d3, d4, d5]) rfl ⟨la, ln, lc, ka, kn, kc, rfl, hfin.1, hfin.2⟩

theorem raise_any (B : Nat → Prop) (j : Int) (hj : okI j) : ∀ t : Ty, t.mod → ∀ (v : Value) (w : World), Low B w → TyVal B w v t → Calls Tryd.prog 46 #[v, .int .i64 j] w (TyRet w (t.raise j)) := by
  refine Ty.ind ?_
  intro k p n s ls ts ih hm v w hB hv
  obtain ⟨lv, kv, rfl, hn, hl, hk⟩ := hv
  have hm' := hm
  simp only [Ty.mod] at hm'
  exact raise_step B j hj k p s n lv kv ls ts hm hn w hB hl hk (fun t ht => ih t ht (Ty.mods_mem hm'.2.2.2.2 t ht))

end Go.Proofs.YtliijbcgkkiekaaDoor

/- Types: replace. -/
namespace Go.Proofs.YtliijbcgkkiekaaDoor
open Go.RowKit Go.Deep Go.Shelf

def putC (nm : ByteArray) (b : Ty) (k p : Int) (n : ByteArray) (s : Int) (ls : List ByteArray) (ts ts' : List Ty) : Ty :=
  if k = 9 ∧ n = nm then b.raise s else if k = 8 ∧ n = nm then .mk k p n s ls ts else .mk k p n s ls ts'
section
variable (nm : ByteArray) (b : Ty)
mutual
def Ty.put : Ty → Ty
  | .mk k p n s ls ts => putC nm b k p n s ls ts (Ty.puts ts)
def Ty.puts : List Ty → List Ty
  | [] => []
  | t :: r => Ty.put t :: Ty.puts r
end
end
theorem Ty.puts_map (nm : ByteArray) (b : Ty) : ∀ ts : List Ty, Ty.puts nm b ts = ts.map (Ty.put nm b)
  | [] => rfl
  | t :: r => by rw [Ty.puts, List.map_cons, Ty.puts_map nm b r]

/-- The world in which replace calls. -/
abbrev box4 (w : World) (k p : Int) (n : ByteArray) (s : Int) (lv kv : Value) (nm : ByteArray) (k' p' : Int) (n' : ByteArray) (s' : Int) (lv' kv' : Value) : World :=
  (((w.alloc (cell6 k p n s lv kv)).alloc (.cells #[.string nm] 9)).alloc (cell6 k' p' n' s' lv' kv')).alloc (cell6 0 0 ⟨#[]⟩ 0 (.slice none 0 0) (.slice none 0 0))
theorem box4_below (w : World) (o o' o'' o3 : Obj) : Below w.heap.size w ((((w.alloc o).alloc o').alloc o'').alloc o3) := ((((Below.refl _ _).alloc (Nat.le_refl _) _).alloc (by simp) _).alloc (by simp; omega) _).alloc (by simp; omega) _

set_option maxHeartbeats 2000000 in
set_option maxRecDepth 100000 in
theorem replace_step (B : Nat → Prop) (nm : ByteArray) (bt : Ty) (hbm : bt.mod) (k p s : Int) (n : ByteArray) (lv kv blv bkv : Value) (ls : List ByteArray) (ts : List Ty) (hm : (Ty.mk k p n s ls ts).mod) (hnn : n.size ≤ maxLen) (w : World) (hB : Low B w) (hl : StrSl B w lv ls) (hk : TySl B w kv ts)
    (hby : TyVal B w (.agg #[.int .i64 bt.k, .int .i64 bt.p, .string bt.n, .int .i64 bt.s, blv, bkv]) bt)
    (h43 : ∀ (t : Ty) (v : Value) (wr : World), t ∈ ts → Low B wr → TyVal B wr v t → Below (box4 w k p n s lv kv nm bt.k bt.p bt.n bt.s blv bkv).heap.size (box4 w k p n s lv kv nm bt.k bt.p bt.n bt.s blv bkv) wr →
      Calls Tryd.prog 101 #[v, .pointer (some ⟨w.heap.size + 1, 0, none⟩), .pointer (some ⟨w.heap.size + 1 + 1, 0, none⟩)] wr (TyRet wr (Ty.put nm bt t))) :
    Calls Tryd.prog 77 #[.agg #[.int .i64 k, .int .i64 p, .string n, .int .i64 s, lv, kv], .string nm, .agg #[.int .i64 bt.k, .int .i64 bt.p, .string bt.n, .int .i64 bt.s, blv, bkv]] w (TyRet w (Ty.put nm bt (Ty.mk k p n s ls ts))) := by
  have hm' := hm
  simp only [Ty.mod] at hm'
  obtain ⟨hm1, hm2, hp, hs, _⟩ := hm'
  have hb0 := box4_below w (cell6 k p n s lv kv) (.cells #[.string nm] 9) (cell6 bt.k bt.p bt.n bt.s blv bkv) (cell6 0 0 ⟨#[]⟩ 0 (.slice none 0 0) (.slice none 0 0))
  have s2 := Six.new (((w.alloc (cell6 k p n s lv kv)).alloc (.cells #[.string nm] 9)).alloc (cell6 bt.k bt.p bt.n bt.s blv bkv)) (.int .i64 0) (.int .i64 0) (.string ⟨#[]⟩) (.int .i64 0) (.slice none 0 0) (.slice none 0 0)
  simp only [World.size_alloc] at s2
  have hsz : (box4 w k p n s lv kv nm bt.k bt.p bt.n bt.s blv bkv).heap.size = w.heap.size + 4 := by simp
  have HB0 := Lib.hid hb0
  have S2 := Lib.hid s2
  have HSZ := Lib.hid hsz
  have HLK := Lib.hid (And.intro (hl.keep (hb0.keeps'.mono hB)) (hk.keep (hb0.keeps'.mono hB)))
  have HV := Lib.hid (And.intro (hby.to hB hb0) (TyVal.to hB hb0 ⟨lv, kv, rfl, hnn, hl, hk⟩ : TyVal B (box4 w k p n s lv kv nm bt.k bt.p bt.n bt.s blv bkv) _ (Ty.mk k p n s ls ts)))
  have HIH := Lib.hid h43
  clear hb0 s2 hsz hl hk hby h43
  by_cases hn : n = nm
  · subst hn
    by_cases h9 : k = 9
    · subst h9
      have HC := Lib.hid (raise_any B s hs bt hbm _ _ (hB.le HB0.out.size) HV.out.1)
      have hq : Ty.put n bt (Ty.mk 9 p n s ls ts) = bt.raise s := by rw [Ty.put, putC, if_pos ⟨rfl, rfl⟩]
      rw [hq]
      obtain ⟨g, hg⟩ : ∃ g, bt.raise s = g := ⟨_, rfl⟩
      rw [hg] at HC ⊢
      clear hq hg
      go_enter Tryd.func77, Tryd.ntmps77
      go_wp2_with fail
      refine HC.out.mono ?_
      rintro e w3 ⟨la, ln, lc, ka, kn, kc, rfl, hv3, hb3⟩
      obtain ⟨⟨d0, d1, d2, d3, d4, d5⟩, hf1⟩ := (S2.out.to hb3).cells
      have HV3 := Lib.hid hv3
      have HB3 := Lib.hid hb3
      clear hv3 hb3
      go_wp2_with fail
      have hfin := ret_fill (c := w.heap.size + 1 + 1 + 1) HB0.out (by omega) (by simp) HB3.out HV3.out (.int .i64 g.k) (.int .i64 g.p) (.string g.n) (.int .i64 g.s) (.slice la ln lc) (.slice ka kn kc)
      exact bodyPost_ret (v := .agg #[.int .i64 g.k, .int .i64 g.p, .string g.n, .int .i64 g.s, .slice la ln lc, .slice ka kn kc]) (by simp [results, Tryd.results77, go_sem, d0, d1, d2, d3, d4, d5]) rfl ⟨la, ln, lc, ka, kn, kc, rfl, hfin.1, hfin.2⟩
    · by_cases h8 : k = 8
      · subst h8
        have HC := Lib.hid (copy_any B (Ty.mk 8 p n s ls ts) hm _ _ (hB.le HB0.out.size) HV.out.2)
        have hq : Ty.put n bt (Ty.mk 8 p n s ls ts) = Ty.mk 8 p n s ls ts := by rw [Ty.put, putC, if_neg (by omega), if_pos ⟨rfl, rfl⟩]
        rw [hq]
        clear hq
        dsimp only [Ty.k, Ty.p, Ty.n, Ty.s] at HC
        go_enter Tryd.func77, Tryd.ntmps77
        go_wp2_with fail
        refine HC.out.mono ?_
        rintro e w3 ⟨la, ln, lc, ka, kn, kc, rfl, hv3, hb3⟩
        dsimp only [Ty.k, Ty.p, Ty.n, Ty.s] at hv3 ⊢
        obtain ⟨⟨d0, d1, d2, d3, d4, d5⟩, hf1⟩ := (S2.out.to hb3).cells
        have HV3 := Lib.hid hv3
        have HB3 := Lib.hid hb3
        clear hv3 hb3
        go_wp2_with fail
        have hfin := ret_fill (c := w.heap.size + 1 + 1 + 1) HB0.out (by omega) (by simp) HB3.out HV3.out (.int .i64 8) (.int .i64 p) (.string n) (.int .i64 s) (.slice la ln lc) (.slice ka kn kc)
        exact bodyPost_ret (v := .agg #[.int .i64 8, .int .i64 p, .string n, .int .i64 s, .slice la ln lc, .slice ka kn kc]) (by simp [results, Tryd.results77, go_sem, d0, d1, d2, d3, d4, d5]) rfl ⟨la, ln, lc, ka, kn, kc, rfl, hfin.1, hfin.2⟩
      · have HC := Lib.hid (rebuild_any B k p s n lv kv ls ts (Ty.put n bt) 101 #[.pointer (some ⟨w.heap.size + 1, 0, none⟩), .pointer (some ⟨w.heap.size + 1 + 1, 0, none⟩)] hnn hm1 hm2 _ (hB.le HB0.out.size) HLK.out.1 HLK.out.2 enters_replace1
          (fun t ht v wr hwr hv => HIH.out t v wr ht (hB.le (Nat.le_trans HB0.out.size hwr.size)) hv hwr))
        have hq : Ty.put n bt (Ty.mk k p n s ls ts) = Ty.mk k p n s ls (ts.map (Ty.put n bt)) := by rw [Ty.put, putC, if_neg (by omega), if_neg (by omega), Ty.puts_map]
        rw [hq]
        have h9' : (k == 9) = false := by simpa using h9
        have h8' : (k == 8) = false := by simpa using h8
        clear hq
        go_enter Tryd.func77, Tryd.ntmps77
        go_wp2_with fail
        refine HC.out.mono ?_
        rintro e w3 ⟨la, ln, lc, ka, kn, kc, rfl, hv3, hb3⟩
        dsimp only [Ty.k, Ty.p, Ty.n, Ty.s] at hv3 ⊢
        obtain ⟨⟨d0, d1, d2, d3, d4, d5⟩, hf1⟩ := (S2.out.to hb3).cells
        have HV3 := Lib.hid hv3
        have HB3 := Lib.hid hb3
        clear hv3 hb3
        go_wp2_with fail
        have hfin := ret_fill (c := w.heap.size + 1 + 1 + 1) HB0.out (by omega) (by simp) HB3.out HV3.out (.int .i64 k) (.int .i64 p) (.string n) (.int .i64 s) (.slice la ln lc) (.slice ka kn kc)
        exact bodyPost_ret (v := .agg #[.int .i64 k, .int .i64 p, .string n, .int .i64 s, .slice la ln lc, .slice ka kn kc]) (by simp [results, Tryd.results77, go_sem, d0, d1, d2, d3, d4, d5]) rfl ⟨la, ln, lc, ka, kn, kc, rfl, hfin.1, hfin.2⟩
  · have HC := Lib.hid (rebuild_any B k p s n lv kv ls ts (Ty.put nm bt) 101 #[.pointer (some ⟨w.heap.size + 1, 0, none⟩), .pointer (some ⟨w.heap.size + 1 + 1, 0, none⟩)] hnn hm1 hm2 _ (hB.le HB0.out.size) HLK.out.1 HLK.out.2 enters_replace1
      (fun t ht v wr hwr hv => HIH.out t v wr ht (hB.le (Nat.le_trans HB0.out.size hwr.size)) hv hwr))
    have hq : Ty.put nm bt (Ty.mk k p n s ls ts) = Ty.mk k p n s ls (ts.map (Ty.put nm bt)) := by rw [Ty.put, putC, if_neg (fun h => hn h.2), if_neg (fun h => hn h.2), Ty.puts_map]
    rw [hq]
    have hn1 := str_ne hn
    have hn2 : (n.toList == nm.toList) = false := by simpa using hn1
    clear hq hn
    by_cases h9 : k = 9
    · subst h9
      go_enter Tryd.func77, Tryd.ntmps77
      go_wp2_with fail
      refine HC.out.mono ?_
      rintro e w3 ⟨la, ln, lc, ka, kn, kc, rfl, hv3, hb3⟩
      dsimp only [Ty.k, Ty.p, Ty.n, Ty.s] at hv3 ⊢
      obtain ⟨⟨d0, d1, d2, d3, d4, d5⟩, hf1⟩ := (S2.out.to hb3).cells
      have HV3 := Lib.hid hv3
      have HB3 := Lib.hid hb3
      clear hv3 hb3
      go_wp2_with fail
      have hfin := ret_fill (c := w.heap.size + 1 + 1 + 1) HB0.out (by omega) (by simp) HB3.out HV3.out (.int .i64 9) (.int .i64 p) (.string n) (.int .i64 s) (.slice la ln lc) (.slice ka kn kc)
      exact bodyPost_ret (v := .agg #[.int .i64 9, .int .i64 p, .string n, .int .i64 s, .slice la ln lc, .slice ka kn kc]) (by simp [results, Tryd.results77, go_sem, d0, d1, d2, d3, d4, d5]) rfl ⟨la, ln, lc, ka, kn, kc, rfl, hfin.1, hfin.2⟩
    · have h9' : (k == 9) = false := by simpa using h9
      by_cases h8 : k = 8
      · subst h8
        go_enter Tryd.func77, Tryd.ntmps77
        go_wp2_with fail
        refine HC.out.mono ?_
        rintro e w3 ⟨la, ln, lc, ka, kn, kc, rfl, hv3, hb3⟩
        dsimp only [Ty.k, Ty.p, Ty.n, Ty.s] at hv3 ⊢
        obtain ⟨⟨d0, d1, d2, d3, d4, d5⟩, hf1⟩ := (S2.out.to hb3).cells
        have HV3 := Lib.hid hv3
        have HB3 := Lib.hid hb3
        clear hv3 hb3
        go_wp2_with fail
        have hfin := ret_fill (c := w.heap.size + 1 + 1 + 1) HB0.out (by omega) (by simp) HB3.out HV3.out (.int .i64 8) (.int .i64 p) (.string n) (.int .i64 s) (.slice la ln lc) (.slice ka kn kc)
        exact bodyPost_ret (v := .agg #[.int .i64 8, .int .i64 p, .string n, .int .i64 s, .slice la ln lc, .slice ka kn kc]) (by simp [results, Tryd.results77, go_sem, d0, d1, d2, d3, d4, d5]) rfl ⟨la, ln, lc, ka, kn, kc, rfl, hfin.1, hfin.2⟩
      · have h8' : (k == 8) = false := by simpa using h8
        go_enter Tryd.func77, Tryd.ntmps77
        go_wp2_with fail
        refine HC.out.mono ?_
        rintro e w3 ⟨la, ln, lc, ka, kn, kc, rfl, hv3, hb3⟩
        dsimp only [Ty.k, Ty.p, Ty.n, Ty.s] at hv3 ⊢
        obtain ⟨⟨d0, d1, d2, d3, d4, d5⟩, hf1⟩ := (S2.out.to hb3).cells
        have HV3 := Lib.hid hv3
        have HB3 := Lib.hid hb3
        clear hv3 hb3
        go_wp2_with fail
        have hfin := ret_fill (c := w.heap.size + 1 + 1 + 1) HB0.out (by omega) (by simp) HB3.out HV3.out (.int .i64 k) (.int .i64 p) (.string n) (.int .i64 s) (.slice la ln lc) (.slice ka kn kc)
        exact bodyPost_ret (v := .agg #[.int .i64 k, .int .i64 p, .string n, .int .i64 s, .slice la ln lc, .slice ka kn kc]) (by simp [results, Tryd.results77, go_sem, d0, d1, d2, d3, d4, d5]) rfl ⟨la, ln, lc, ka, kn, kc, rfl, hfin.1, hfin.2⟩

set_option maxHeartbeats 1000000 in
set_option maxRecDepth 100000 in
theorem replace1_any (k p s : Int) (n : ByteArray) (lv kv : Value) (nm : ByteArray) (a0 a1 a2 a3 a4 a5 : Value) (b1 b2 : Nat) (g : Ty) (w : World) (h1 : w.cell? ⟨b1, 0, none⟩ = some (.string nm)) (hl1 : b1 < w.heap.size) (h2 : Six w b2 a0 a1 a2 a3 a4 a5)
    (ih : ∀ (wr : World), Below w.heap.size w wr → w.heap.size < wr.heap.size → Calls Tryd.prog 77 #[.agg #[.int .i64 k, .int .i64 p, .string n, .int .i64 s, lv, kv], .string nm, .agg #[a0, a1, a2, a3, a4, a5]] wr (TyRet wr g)) :
    Calls Tryd.prog 101 #[.agg #[.int .i64 k, .int .i64 p, .string n, .int .i64 s, lv, kv], .pointer (some ⟨b1, 0, none⟩), .pointer (some ⟨b2, 0, none⟩)] w (TyRet w g) := by
  have hb0 := box2_below w (cell6 k p n s lv kv) (cell6 0 0 ⟨#[]⟩ 0 (.slice none 0 0) (.slice none 0 0))
  obtain ⟨s0, s1⟩ := Six.two w (.int .i64 k) (.int .i64 p) (.string n) (.int .i64 s) lv kv (.int .i64 0) (.int .i64 0) (.string ⟨#[]⟩) (.int .i64 0) (.slice none 0 0) (.slice none 0 0)
  have HR := Lib.hid (ih _ hb0 (by simp; omega))
  have S1 := Lib.hid s1
  have HB0 := Lib.hid hb0
  have hck := (hb0.cell (p := ⟨b1, 0, none⟩) hl1).trans h1
  obtain ⟨⟨e0, e1, e2, e3, e4, e5⟩, hf2⟩ := (h2.to hb0).cells
  clear s0 s1 ih hb0
  go_enter Tryd.func101, Tryd.ntmps101
  go_wp2_with fail
  refine HR.out.mono ?_
  rintro e w3 ⟨la, ln, lc, ka, kn, kc, rfl, hv3, hb3⟩
  clear e0 e1 e2 e3 e4 e5 hf2 hck
  obtain ⟨⟨d0, d1, d2, d3, d4, d5⟩, hf1⟩ := (S1.out.to hb3).cells
  have HV := Lib.hid hv3
  have HB3 := Lib.hid hb3
  clear hv3 hb3
  go_wp2_with fail
  have hfin := ret_fill (c := w.heap.size + 1) HB0.out (by omega) (by simp) HB3.out HV.out (.int .i64 g.k) (.int .i64 g.p) (.string g.n) (.int .i64 g.s) (.slice la ln lc) (.slice ka kn kc)
  exact bodyPost_ret (v := .agg #[.int .i64 g.k, .int .i64 g.p, .string g.n, .int .i64 g.s, .slice la ln lc, .slice ka kn kc]) (by simp [results, Tryd.results101, go_sem, d0, d1, d2, d3, d4, d5]) rfl ⟨la, ln, lc, ka, kn, kc, rfl, hfin.1, hfin.2⟩

theorem replace_any (B : Nat → Prop) (nm : ByteArray) (bt : Ty) (hbm : bt.mod) : ∀ t : Ty, t.mod → ∀ (v vb : Value) (w : World), Low B w → TyVal B w v t → TyVal B w vb bt → Calls Tryd.prog 77 #[v, .string nm, vb] w (TyRet w (Ty.put nm bt t)) := by
  refine Ty.ind ?_
  intro k p n s ls ts ih hm v vb w hB hv hvb
  obtain ⟨lv, kv, rfl, hn, hl, hk⟩ := hv
  have hm' := hm
  simp only [Ty.mod] at hm'
  have hvb' := hvb
  obtain ⟨blv, bkv, rfl, _⟩ := hvb'
  have IH := fun t ht => ih t ht (Ty.mods_mem hm'.2.2.2.2 t ht)
  refine replace_step B nm bt hbm k p s n lv kv blv bkv ls ts hm hn w hB hl hk hvb ?_
  intro t v wr ht hBr hv hwr
  obtain ⟨lv', kv', rfl, hv2⟩ := hv
  have hb0 := box4_below w (cell6 k p n s lv kv) (.cells #[.string nm] 9) (cell6 bt.k bt.p bt.n bt.s blv bkv) (cell6 0 0 ⟨#[]⟩ 0 (.slice none 0 0) (.slice none 0 0))
  have c1 : (box4 w k p n s lv kv nm bt.k bt.p bt.n bt.s blv bkv).cell? ⟨w.heap.size + 1, 0, none⟩ = some (.string nm) := by
    have h := blk_cell (w := w.alloc (cell6 k p n s lv kv)) (cs := #[.string nm]) (t := 9) (Below.refl _ _) 0 rfl
    rw [World.size_alloc] at h
    exact ((box2_below ((w.alloc (cell6 k p n s lv kv)).alloc (.cells #[.string nm] 9)) _ _).cell (p := ⟨w.heap.size + 1, 0, none⟩) (by simp)).trans h
  have s2 := (Six.new ((w.alloc (cell6 k p n s lv kv)).alloc (.cells #[.string nm] 9)) (.int .i64 bt.k) (.int .i64 bt.p) (.string bt.n) (.int .i64 bt.s) blv bkv).to (blkBelow _ #[.int .i64 0, .int .i64 0, .string ⟨#[]⟩, .int .i64 0, .slice none 0 0, .slice none 0 0] 25)
  simp only [World.size_alloc] at s2
  have hsz : w.heap.size + 4 ≤ wr.heap.size := by have := hwr.size; simp at this; omega
  exact replace1_any _ _ _ _ lv' kv' nm _ _ _ _ _ _ (w.heap.size + 1) (w.heap.size + 1 + 1) _ wr ((hwr.cell (p := ⟨w.heap.size + 1, 0, none⟩) (by simp)).trans c1) (by omega) (s2.to hwr)
    (fun wr' hwr' _ => IH t ht _ _ wr' (hBr.le hwr'.size) (TyVal.to hBr hwr' ⟨lv', kv', rfl, hv2⟩) (hvb.to hB (hb0.trans ((hwr.mono (by simp; omega)).trans (hwr'.mono (by omega))))))

end Go.Proofs.YtliijbcgkkiekaaDoor
