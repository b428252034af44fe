/- Graphs: the law about the nodes of lists and of raised types. (and what follows from it) -/
import Derived.Test.YtkjngbliomckiaaPu4
import Derived.Test.YtkjngbliomckiaaPu1
import Derived.Deep.RegionHeld3
import Derived.Deep.Cut
import Derived.BigRegion
import Derived.StillTailTactics
import Derived.Deep.RegionWith

/- Graphs: the law about the nodes of lists and of raised types. -/
namespace Go.Proofs.Ytkjngbliomckiaa
open Go.RowKit Go.Deep Go.Shelf

theorem raise_size (j : Int) : ∀ t : Ty, (t.raise j).size = t.size := by
  refine Ty.ind ?_
  intro k p n s ls ts ih
  rw [Ty.raise, Ty.size, Ty.size]
  congr 1
  induction ts with
  | nil => rfl
  | cons t r ihr => rw [Ty.raises, Ty.sizes, Ty.sizes, ih t (by simp), ihr (fun u hu => ih u (by simp [hu]))]
abbrev tyCs (t : Ty) (la : Option Addr) (ln lc : Nat) (ka : Option Addr) (kn kc : Nat) : List Value := [.int .i64 t.k, .int .i64 t.p, .string t.n, .int .i64 t.s, .slice la ln lc, .slice ka kn kc]
/-- A block of six cells. -/
theorem six_cells {W : World} {b : Nat} {T : TypeId} {fr : Nat × Nat} {a0 a1 a2 a3 a4 a5 : Value} (h : W.heap[b]? = some (.cells #[a0, a1, a2, a3, a4, a5] T fr)) : W.cell? ⟨b, 0, none⟩ = some a0 ∧ W.cell? ⟨b, 1, none⟩ = some a1 ∧ W.cell? ⟨b, 2, none⟩ = some a2 ∧ W.cell? ⟨b, 3, none⟩ = some a3 ∧ W.cell? ⟨b, 4, none⟩ = some a4 ∧ W.cell? ⟨b, 5, none⟩ = some a5 := by
  refine ⟨?_, ?_, ?_, ?_, ?_, ?_⟩ <;> simp [World.cell?, h]
/-- Types in a block, one behind the other. -/
theorem two_types {W : World} {b : Nat} {T : TypeId} {fr : Nat × Nat} {t u : Ty} {la : Option Addr} {ln lc : Nat} {ka : Option Addr} {kn kc : Nat} {la' : Option Addr} {ln' lc' : Nat} {ka' : Option Addr} {kn' kc' : Nat}
    (h : W.heap[b]? = some (.cells (tyCs t la ln lc ka kn kc ++ tyCs u la' ln' lc' ka' kn' kc').toArray T fr)) (hb : b < W.heap.size) (ht : Lies W (.agg (tyCs t la ln lc ka kn kc).toArray) t) (hu : Lies W (.agg (tyCs u la' ln' lc' ka' kn' kc').toArray) u) : TySl (fun k => k < W.heap.size) W (.slice (some ⟨b, 0, none⟩) 2 2) [t, u] := by
  have cell : ∀ i v, (tyCs t la ln lc ka kn kc ++ tyCs u la' ln' lc' ka' kn' kc')[i]? = some v → W.cell? ⟨b, i, none⟩ = some v := by
    intro i v hi
    simp only [World.cell?, h]
    simpa using hi
  have a1 : TyAt (fun k => k < W.heap.size) W t b 0 := tyAt_of hb (cell 0 _ rfl) (cell 1 _ rfl) (cell 2 _ rfl) (cell 3 _ rfl) (cell 4 _ rfl) (cell 5 _ rfl) ht
  have a2 : TyAt (fun k => k < W.heap.size) W u b (0 + 6) := tyAt_of hb (cell 6 _ rfl) (cell 7 _ rfl) (cell 8 _ rfl) (cell 9 _ rfl) (cell 10 _ rfl) (cell 11 _ rfl) hu
  exact ⟨.inr ⟨b, 0, 2, rfl, hb, by simp only [TysAt]; exact ⟨a1, a2, trivial⟩⟩, by simp [maxLen]⟩
theorem one_type {W : World} {b : Nat} {T : TypeId} {fr : Nat × Nat} {t : Ty} {la : Option Addr} {ln lc : Nat} {ka : Option Addr} {kn kc : Nat}
    (h : W.heap[b]? = some (.cells (tyCs t la ln lc ka kn kc).toArray T fr)) (hb : b < W.heap.size) (ht : Lies W (.agg (tyCs t la ln lc ka kn kc).toArray) t) : TySl (fun k => k < W.heap.size) W (.slice (some ⟨b, 0, none⟩) 1 1) [t] := by
  have cell : ∀ i v, (tyCs t la ln lc ka kn kc)[i]? = some v → W.cell? ⟨b, i, none⟩ = some v := by
    intro i v hi
    simp only [World.cell?, h]
    simpa using hi
  have a1 : TyAt (fun k => k < W.heap.size) W t b 0 := tyAt_of hb (cell 0 _ rfl) (cell 1 _ rfl) (cell 2 _ rfl) (cell 3 _ rfl) (cell 4 _ rfl) (cell 5 _ rfl) ht
  exact ⟨.inr ⟨b, 0, 1, rfl, hb, by simp only [TysAt]; exact ⟨a1, trivial⟩⟩, by simp [maxLen]⟩

end Go.Proofs.Ytkjngbliomckiaa

/- Graphs: the reference's reference of a type. -/
namespace Go.Proofs.Ytkjngbliomckiaa
open Go.RowKit Go.Deep Go.Shelf

mutual
/-- Shifts are small; a TRec has one Kid. -/
def Ty.sok : Ty → Prop
  | .mk k _ _ s _ ts => (-1000000 ≤ s ∧ s ≤ 1000000) ∧ (k = 8 → ts.length = 1) ∧ Ty.soks ts
def Ty.soks : List Ty → Prop
  | [] => True
  | t :: r => t.sok ∧ Ty.soks r
end
theorem Ty.soks_mem : ∀ {ts : List Ty}, Ty.soks ts → ∀ t ∈ ts, t.sok
  | [], _, t, ht => by cases ht
  | u :: r, h, t, ht => by
    simp only [Ty.soks] at h
    rcases List.mem_cons.1 ht with rfl | ht
    · exact h.1
    · exact Ty.soks_mem h.2 t ht
theorem shape_s {k p s : Int} {n : ByteArray} {ls : List ByteArray} {m : Nat} (h : shapeC k p s n ls m = true) : -1000000 ≤ s ∧ s ≤ 1000000 := by
  unfold shapeC at h
  (repeat' split at h) <;> simp [prioB] at h <;> omega
theorem sok_of : ∀ (t : Ty) (names : List ByteArray) (g : Nat) (se : Bool), nodeR names g se t = 0 → t.sok := by
  refine Ty.ind ?_
  intro k p n s ls ts ih names g se h
  obtain ⟨hs, h2⟩ := nodeR_shape h
  have hof : ∀ (nm : List ByteArray) (g' : Nat) (f : Bool), kidsR nm g' f 0 ts = 0 → Ty.soks ts := by
    intro nm g' f hk0
    have hk := kidsR_all hk0
    have : ∀ l : List Ty, (∀ t ∈ l, t ∈ ts) → Ty.soks l := by
      intro l
      induction l with
      | nil => intro _; simp only [Ty.soks]
      | cons t r ihr =>
        intro hm
        obtain ⟨se', ht⟩ := hk t (hm t (by simp))
        simp only [Ty.soks]
        exact ⟨ih t (hm t (by simp)) nm g' se' ht, ihr (fun u hu => hm u (by simp [hu]))⟩
    exact this ts (fun _ h => h)
  simp only [Ty.sok]
  refine ⟨shape_s hs, fun h8 => by subst h8; exact shape_8 hs, ?_⟩
  by_cases h9 : k = 9
  · subst h9
    have := List.length_eq_zero_iff.1 (shape_9 hs)
    subst this; simp only [Ty.soks]
  · rw [if_neg h9] at h2
    by_cases h8 : k = 8
    · rw [if_pos h8] at h2; exact hof _ _ _ h2
    · rw [if_neg h8] at h2; exact hof _ _ _ h2

abbrev rbox (a b : Value) : Obj := .cells #[a, b] 59
theorem rbox_cells {w : World} {b : Nat} {a c : Value} (h : w.heap[b]? = some (rbox a c)) : w.cell? ⟨b, 0, none⟩ = some a ∧ w.cell? ⟨b, 1, none⟩ = some c ∧ w.frozen? ⟨b, 0, none⟩ = false ∧ w.frozen? ⟨b, 1, none⟩ = false := by
  refine ⟨?_, ?_, frozen_of_block h 0, frozen_of_block h 1⟩ <;> simp [World.cell?, h]
theorem rbox_fill {w : World} {b : Nat} {a c : Value} (h : w.heap[b]? = some (rbox a c)) (u v : Value) : ((w.setCell ⟨b, 0, none⟩ u).setCell ⟨b, 1, none⟩ v).heap[b]? = some (rbox u v) := set_block (set_block h 0 u) 1 v
/-- What reference answers. -/
def RRefAt (t : Ty) : Prop := ∀ (i : Nat) (env : GEnv) (v nv rv : Value) (w : World), i ≤ 1000000 → Lies w v t → StrSl (fun k => k < w.heap.size) w nv (env.map (·.1)) → RefSl (fun k => k < w.heap.size) w rv (env.map (·.2)) → (∀ r ∈ env, -1000000000 ≤ r.2.s ∧ r.2.s ≤ 1000000000) →
  Calls Try.prog 20 #[v, .int .i64 (i : Int), nv, rv] w fun e w' => e = .returned (.agg #[.int .i64 ((t.gref i env).n : Int), .int .i64 (t.gref i env).s]) ∧ Below w.heap.size w w'
theorem gref_8 {p s : Int} {n : ByteArray} {ls : List ByteArray} {u : Ty} (i : Nat) (env : GEnv) : (Ty.mk 8 p n s ls [u]).gref i env = u.gref i env := by rw [Ty.gref, if_pos rfl, Ty.gref1]
theorem gref_k {t : Ty} (h8 : t.k ≠ 8) (h9 : t.k ≠ 9) (i : Nat) (env : GEnv) : t.gref i env = ⟨i, 0⟩ := by cases t; simp only [Ty.k] at h8 h9; rw [Ty.gref, if_neg h8, if_neg h9]

set_option maxHeartbeats 4000000 in
set_option maxRecDepth 100000 in
theorem rref_8 (p s : Int) (n : ByteArray) (ls : List ByteArray) (u : Ty) (ih : RRefAt u) : RRefAt (.mk 8 p n s ls [u]) := by
  intro i env v nv rv w hi hv hn hr hb
  have g0 := hv
  obtain ⟨lv, kv, rfl, _, hl0, hk0⟩ := g0
  obtain ⟨la, ln, lc, rfl, _⟩ := hl0.open
  obtain ⟨ka, kn, kc, rfl, hkl, _, hkg⟩ := hk0.open
  obtain rfl : kn = 1 := hkl.out
  dsimp only [Ty.k, Ty.p, Ty.n, Ty.s]
  obtain ⟨W1, hW1⟩ : ∃ W1, w.alloc (.cells #[.int .i64 8, .int .i64 p, .string n, .int .i64 s, .slice la ln lc, .slice ka 1 kc] 50) = W1 := ⟨_, rfl⟩
  have hb1 : Below w.heap.size w W1 := by rw [← hW1]; exact blkBelow w _ _
  have hs1 : W1.heap.size = w.heap.size + 1 := by rw [← hW1]; simp
  have x1 : W1.heap[w.heap.size]? = some (.cells #[.int .i64 8, .int .i64 p, .string n, .int .i64 s, .slice la ln lc, .slice ka 1 kc] 50 (0, 0)) := by rw [← hW1]; exact World.alloc_heap_new _ _
  obtain ⟨W2, hW2⟩ : ∃ W2, W1.alloc (rbox (.int .i64 0) (.int .i64 0)) = W2 := ⟨_, rfl⟩
  have hb2 : Below W1.heap.size W1 W2 := by rw [← hW2]; exact blkBelow W1 _ _
  have x2 : W2.heap[w.heap.size + 1]? = some (rbox (.int .i64 0) (.int .i64 0)) := by rw [← hW2, ← hs1]; exact World.alloc_heap_new _ _
  have hb : Below w.heap.size w W2 := below_seq hb1 hb2
  obtain ⟨c0, _, _, _, _, c5⟩ := six_cells ((hb2.block _ (by omega)).trans x1)
  obtain ⟨kb, ko, rfl, hkb, hty⟩ := hkg 0 u rfl
  obtain ⟨lv', kv', ⟨d0, d1, d2, d3, d4, d5⟩, hval⟩ := (hty.keep (hb.keeps'.mono (fun k hk => hk))).load
  simp only [Nat.zero_mul, Nat.add_zero] at d0 d1 d2 d3 d4 d5
  have HC := Lib.hid (ih i env _ nv rv W2 hi (TyVal.mono (C := fun k => k < W2.heap.size) (fun k hk => Nat.lt_of_lt_of_le hk hb.size) hval) ((hn.keep (hb.keeps'.mono (fun k hk => hk))).mono (fun k hk => Nat.lt_of_lt_of_le hk hb.size)) ((hr.keep (hb.keeps'.mono (fun k hk => hk))).mono (fun k hk => Nat.lt_of_lt_of_le hk hb.size)) (by assumption))
  rw [← gref_8 (p := p) (s := s) (n := n) (ls := ls)] at HC
  obtain ⟨rg, hrg⟩ : ∃ rg, (Ty.mk 8 p n s ls [u]).gref i env = rg := ⟨_, rfl⟩
  rw [hrg] at HC ⊢
  have HB2 := Lib.hid hb
  have HX2 := Lib.hid x2
  have HS2 := Lib.hid (show w.heap.size + 1 < W2.heap.size from (Array.getElem?_eq_some_iff.1 x2).1)
  have HW1 := Lib.hid hW1
  have HW2 := Lib.hid hW2
  clear hn hr hl0 hk0 hkl hkg hv hval hty x1 x2 hb1 hb2 hb hW1 hW2 hrg
  go_enter Try.func20, Try.ntmps20
  go_upto_region 1 with fail
  rw [show w.alloc (.cells #[.int .i64 8, .int .i64 p, .string n, .int .i64 s, .slice la ln lc, .slice (some ⟨kb, ko, none⟩) 1 kc] 50) = W1 from HW1.out, show W1.alloc (.cells #[.int .i64 0, .int .i64 0] 59) = W2 from HW2.out]
  go_wp2_with (go_at_call 20; go_loud (refine HC.out.mono ?_; rintro en w3 ⟨rfl, hb3⟩; obtain ⟨z0, z1, z2, z3⟩ := rbox_cells ((hb3.block _ HS2.out).trans HX2.out); have HB3 := Lib.hid hb3; clear hb3))
  clear z0 z1 z2 z3
  have hx4 := rbox_fill ((HB3.out.block _ HS2.out).trans HX2.out) (.int .i64 (rg.n : Int)) (.int .i64 rg.s)
  obtain ⟨y0, y1, _, _⟩ := rbox_cells hx4
  refine bodyPost_ret (v := .agg #[.int .i64 (rg.n : Int), .int .i64 rg.s]) (by simp [results, Try.results20, go_sem, y0, y1]) rfl ?_
  exact ⟨rfl, ((below_seq HB2.out HB3.out).setCell (Nat.le_succ _) _).setCell (Nat.le_succ _) _⟩

set_option maxHeartbeats 4000000 in
set_option maxRecDepth 100000 in
theorem rref_k (t : Ty) (h8 : t.k ≠ 8) (h9 : t.k ≠ 9) : RRefAt t := by
  intro i env v nv rv w hi hv hn hr hb
  rw [gref_k h8 h9]
  obtain ⟨lv, kv, rfl, _, hl0, hk0⟩ := hv
  obtain ⟨la, ln, lc, rfl, _⟩ := hl0.open
  obtain ⟨ka, kn, kc, rfl, _⟩ := hk0.open
  obtain ⟨W1, hW1⟩ : ∃ W1, w.alloc (.cells #[.int .i64 t.k, .int .i64 t.p, .string t.n, .int .i64 t.s, .slice la ln lc, .slice ka kn kc] 50) = W1 := ⟨_, rfl⟩
  have hb1 : Below w.heap.size w W1 := by rw [← hW1]; exact blkBelow w _ _
  have hs1 : W1.heap.size = w.heap.size + 1 := by rw [← hW1]; simp
  have x1 : W1.heap[w.heap.size]? = some (.cells #[.int .i64 t.k, .int .i64 t.p, .string t.n, .int .i64 t.s, .slice la ln lc, .slice ka kn kc] 50 (0, 0)) := by rw [← hW1]; exact World.alloc_heap_new _ _
  obtain ⟨W2, hW2⟩ : ∃ W2, W1.alloc (rbox (.int .i64 0) (.int .i64 0)) = W2 := ⟨_, rfl⟩
  have hb2 : Below W1.heap.size W1 W2 := by rw [← hW2]; exact blkBelow W1 _ _
  have x2 : W2.heap[w.heap.size + 1]? = some (rbox (.int .i64 0) (.int .i64 0)) := by rw [← hW2, ← hs1]; exact World.alloc_heap_new _ _
  have hb : Below w.heap.size w W2 := below_seq hb1 hb2
  obtain ⟨c0, _, _, _, _, _⟩ := six_cells ((hb2.block _ (by omega)).trans x1)
  obtain ⟨z0, z1, z2, z3⟩ := rbox_cells x2
  have hk8 : (t.k == 8) = false := by simpa using h8
  have hk9 : (t.k == 9) = false := by simpa using h9
  have HB2 := Lib.hid hb
  have HX2 := Lib.hid x2
  have HW1 := Lib.hid hW1
  have HW2 := Lib.hid hW2
  clear hn hr hl0 hk0 x1 x2 hb1 hb2 hb hW1 hW2 h8 h9
  go_enter Try.func20, Try.ntmps20
  go_upto_region 1 with fail
  rw [show w.alloc (.cells #[.int .i64 t.k, .int .i64 t.p, .string t.n, .int .i64 t.s, .slice la ln lc, .slice ka kn kc] 50) = W1 from HW1.out, show W1.alloc (.cells #[.int .i64 0, .int .i64 0] 59) = W2 from HW2.out]
  go_wp2_with fail
  clear z0 z1 z2 z3
  have hx4 := rbox_fill HX2.out (.int .i64 (i : Int)) (.int .i64 0)
  obtain ⟨y0, y1, _, _⟩ := rbox_cells hx4
  refine bodyPost_ret (v := .agg #[.int .i64 (i : Int), .int .i64 0]) (by simp [results, Try.results20, go_sem, y0, y1]) rfl ?_
  exact ⟨rfl, (HB2.out.setCell (Nat.le_succ _) _).setCell (Nat.le_succ _) _⟩
end Go.Proofs.Ytkjngbliomckiaa

/- Graphs: the reference's reference of a variable, and of any type. -/
namespace Go.Proofs.Ytkjngbliomckiaa
open Go.RowKit Go.Deep Go.Shelf

theorem gref_hit {p s : Int} {n : ByteArray} {ls : List ByteArray} {ts : List Ty} (i : Nat) (env : GEnv) {r : GRef} (h : lookE n env = some r) : (Ty.mk 9 p n s ls ts).gref i env = ⟨r.n, r.s + s⟩ := by rw [Ty.gref, if_neg (by decide), if_pos rfl, h]
theorem gref_miss {p s : Int} {n : ByteArray} {ls : List ByteArray} {ts : List Ty} (i : Nat) (env : GEnv) (h : lookE n env = none) : (Ty.mk 9 p n s ls ts).gref i env = ⟨i, 0⟩ := by rw [Ty.gref, if_neg (by decide), if_pos rfl, h]
set_option maxHeartbeats 4000000 in
set_option maxRecDepth 100000 in
theorem rref_9 (p s : Int) (n : ByteArray) (ls : List ByteArray) (ts : List Ty) (hsb : -1000000 ≤ s ∧ s ≤ 1000000) : RRefAt (.mk 9 p n s ls ts) := by
  intro i env v nv rv w hi hv hn hr hb
  obtain ⟨lv, kv, rfl, _, hl0, hk0⟩ := hv
  obtain ⟨la, ln, lc, rfl, _⟩ := hl0.open
  obtain ⟨ka, kn, kc, rfl, _⟩ := hk0.open
  dsimp only [Ty.k, Ty.p, Ty.n, Ty.s]
  obtain ⟨na, nn, nc, rfl, hnl, hnm, hng⟩ := hn.open
  obtain ⟨ra, rn, rc, rfl, hrl, hrm, hrg⟩ := hr.open
  have hnl' : nn = env.length := hnl.out.trans (by rw [List.length_map])
  obtain rfl : rn = nn := hrl.out.trans (by rw [List.length_map, hnl'])
  obtain ⟨W1, hW1⟩ : ∃ W1, w.alloc (.cells #[.int .i64 9, .int .i64 p, .string n, .int .i64 s, .slice la ln lc, .slice ka kn kc] 50) = W1 := ⟨_, rfl⟩
  have hb1 : Below w.heap.size w W1 := by rw [← hW1]; exact blkBelow w _ _
  have hs1 : W1.heap.size = w.heap.size + 1 := by rw [← hW1]; simp
  have x1 : W1.heap[w.heap.size]? = some (.cells #[.int .i64 9, .int .i64 p, .string n, .int .i64 s, .slice la ln lc, .slice ka kn kc] 50 (0, 0)) := by rw [← hW1]; exact World.alloc_heap_new _ _
  obtain ⟨W2, hW2⟩ : ∃ W2, W1.alloc (rbox (.int .i64 0) (.int .i64 0)) = W2 := ⟨_, rfl⟩
  have hb2 : Below W1.heap.size W1 W2 := by rw [← hW2]; exact blkBelow W1 _ _
  have hs2 : W2.heap.size = w.heap.size + 2 := by rw [← hW2]; simp [hs1]
  have x2 : W2.heap[w.heap.size + 1]? = some (rbox (.int .i64 0) (.int .i64 0)) := by rw [← hW2, ← hs1]; exact World.alloc_heap_new _ _
  have hbw : Below w.heap.size w W2 := below_seq hb1 hb2
  have HX1 := Lib.hid (fun (W : World) (hW : Below W2.heap.size W2 W) => six_cells ((hW.block _ (by omega)).trans ((hb2.block _ (by omega)).trans x1)))
  have HX2 : Hid (∀ (W : World), Below W2.heap.size W2 W → W.heap[w.heap.size + 1]? = some (rbox (.int .i64 0) (.int .i64 0))) := Lib.hid (fun W hW => (hW.block _ (by omega)).trans x2)
  have HNG : Hid (∀ (W : World), Below W2.heap.size W2 W → ∀ j e, env[j]? = some e → ∃ kb ko, na = some ⟨kb, ko, none⟩ ∧ W.cell? ⟨kb, ko + j, none⟩ = some (.string e.1)) := Lib.hid (fun W hW j e he => by
    obtain ⟨_, kb, ko, e1, hkb, hc⟩ := hng j e.1 (by rw [List.getElem?_map, he]; rfl)
    exact ⟨kb, ko, e1, ((below_seq hbw hW).cell (p := ⟨kb, _, none⟩) hkb).trans hc⟩)
  have HRG : Hid (∀ (W : World), Below W2.heap.size W2 W → ∀ j e, env[j]? = some e → ∃ kb ko, ra = some ⟨kb, ko, none⟩ ∧ W.cell? ⟨kb, ko + j * 2, none⟩ = some (.int .i64 e.2.n) ∧ W.cell? ⟨kb, ko + j * 2 + 1, none⟩ = some (.int .i64 e.2.s)) := Lib.hid (fun W hW j e he => by
    obtain ⟨kb, ko, e1, hkb, hc, hd⟩ := hrg j e.2 (by rw [List.getElem?_map, he]; rfl)
    exact ⟨kb, ko, e1, ((below_seq hbw hW).cell (p := ⟨kb, _, none⟩) hkb).trans hc, ((below_seq hbw hW).cell (p := ⟨kb, _, none⟩) hkb).trans hd⟩)
  have HBW := Lib.hid hbw
  have HW1 := Lib.hid hW1
  have HW2 := Lib.hid hW2
  have HNL := Lib.hid hnl'
  have HSZ := Lib.hid hb
  obtain ⟨c0, _, _, _, _, _⟩ := HX1.out W2 (Below.refl _ _)
  clear hn hr hl0 hk0 x1 x2 hb1 hb2 hbw hW1 hW2 hng hrg hnl hrl hnl' hb hs1 hs2
  go_enter Try.func20, Try.ntmps20
  go_upto_region 1 with fail
  rw [show w.alloc (.cells #[.int .i64 9, .int .i64 p, .string n, .int .i64 s, .slice la ln lc, .slice ka kn kc] 50) = W1 from HW1.out, show W1.alloc (.cells #[.int .i64 0, .int .i64 0] 59) = W2 from HW2.out]
  go_wp2_with fail
  clear c0
  go_loopw [9] (fun v wr => ∃ j : Nat, v = .int .i64 ((j : Int) - 1) ∧ j ≤ rn ∧ Hid (∀ m, j ≤ m → m < env.length → ∀ e, env[m]? = some e → e.1 ≠ n) ∧ Below W2.heap.size W2 wr) (fun i _ => (intOf i + 1).toNat)
  case atStart => exact ⟨rn, by go_num, Nat.le_refl _, Lib.hid (fun m h1 h2 => by have := HNL.out; omega), Below.refl _ _⟩
  case round =>
    obtain ⟨j, rfl, hj, HT, hb⟩ := hrel
    cases j with
    | zero =>
      obtain ⟨z0, z1, z2, z3⟩ := rbox_cells (HX2.out wr hb)
      go_wp2_with fail
      clear z0 z1 z2 z3
      have hx4 := rbox_fill (HX2.out wr hb) (.int .i64 (i : Int)) (.int .i64 0)
      obtain ⟨y0, y1, _, _⟩ := rbox_cells hx4
      refine bodyPost_ret (v := .agg #[.int .i64 (i : Int), .int .i64 0]) (by simp [results, Try.results20, go_sem, y0, y1]) rfl ?_
      rw [gref_miss i env (lookE_miss (fun m hm => HT.out m (Nat.zero_le _) hm))]
      exact ⟨rfl, ((below_seq HBW.out hb).setCell (Nat.le_succ _) _).setCell (Nat.le_succ _) _⟩
    | succ j =>
      rw [show (((j + 1 : Nat) : Int) - 1) = (j : Int) by omega]
      obtain ⟨e, he⟩ : ∃ e, env[j]? = some e := ⟨_, List.getElem?_eq_getElem (by have := HNL.out; omega)⟩
      obtain ⟨kb, ko, rfl, q0⟩ := HNG.out wr hb j e he
      obtain ⟨c0, c1, c2, c3, c4, c5⟩ := HX1.out wr hb
      by_cases hx : e.1 = n
      · have hlook : lookE n env = some e.2 := lookE_hit (i := j) (r := e.2) (by rw [he, ← hx]) (fun m hm hml e' he' => HT.out m (by omega) hml e' he')
        have hbd := HSZ.out e (List.mem_of_getElem? he)
        obtain ⟨mb, mo, rfl, _, _⟩ := HRG.out wr hb j e he
        have HE := Lib.hid he
        have ew : IntKind.i64.wrap (e.2.s + s) = e.2.s + s := by rw [IntKind.wrap_i64]; omega
        have HLK := Lib.hid hlook
        have hjr : j < rn := by omega
        rw [hx] at q0
        clear he hx hlook
        go_wp2_with fail
        go_quiet (fail)
        go_upto_region 8 with fail
        clear c0 c1 c2 c3 c4 c5 q0
        have hb3 : Below W2.heap.size W2 (wr.drewN nq) := below_drewN hb nq
        generalize wr.drewN nq = w4 at *
        obtain ⟨_, _, _, c3, _, _⟩ := HX1.out w4 hb3
        obtain ⟨mb', mo', e1, q1, q2⟩ := HRG.out w4 hb3 j e HE.out
        simp only [Option.some.injEq, Addr.mk.injEq, and_true] at e1
        obtain ⟨rfl, rfl⟩ := e1
        go_still_tail 14, (by kernel_rfl)
        change wpList _ _ _ _ _ w4.drew
        clear c3 q1 q2
        replace hb3 : Below W2.heap.size W2 w4.drew := hb3.drew
        generalize w4.drew = w3 at *
        obtain ⟨z0, z1, z2, z3⟩ := rbox_cells (HX2.out w3 hb3)
        go_wp2_with fail
        clear z0 z1 z2 z3
        have hx4 := rbox_fill (HX2.out w3 hb3) (.int .i64 (e.2.n : Int)) (.int .i64 (e.2.s + s))
        obtain ⟨y0, y1, _, _⟩ := rbox_cells hx4
        refine bodyPost_ret (v := .agg #[.int .i64 (e.2.n : Int), .int .i64 (e.2.s + s)]) (by simp [results, Try.results20, go_sem, y0, y1]) rfl ?_
        rw [gref_hit i env HLK.out]
        exact ⟨rfl, ((below_seq HBW.out hb3).setCell (Nat.le_succ _) _).setCell (Nat.le_succ _) _⟩
      · have HV : Hid (∀ m, j ≤ m → m < env.length → ∀ e, env[m]? = some e → e.1 ≠ n) := Lib.hid (fun m hm hml e' he' => by
          rcases Nat.eq_or_lt_of_le hm with h | h
          · subst h
            rw [he] at he'
            rw [← Option.some.inj he']; exact hx
          · exact HT.out m h hml e' he')
        have h1 := str_ne hx
        have h2 : (e.1.toList == n.toList) = false := by simpa using h1
        clear hx he
        go_wp2_with fail
        go_quiet (fail)
        go_wp2_with fail
        go_roundw
        case rel => exact ⟨j, rfl, by omega, HV, below_drewN hb _⟩
        case measure => simp [intOf]
theorem rref_any : ∀ (t : Ty), t.sok → RRefAt t := by
  refine Ty.ind ?_
  intro k p n s ls ts ih h
  simp only [Ty.sok] at h
  by_cases h8 : k = 8
  · subst h8
    obtain ⟨u, rfl⟩ : ∃ u, ts = [u] := by
      match ts, h.2.1 rfl with
      | [u], _ => exact ⟨u, rfl⟩
    simp only [Ty.soks] at h
    exact rref_8 p s n ls u (ih u (by simp) h.2.2.1)
  · by_cases h9 : k = 9
    · subst h9; exact rref_9 p s n ls ts h.1
    · exact rref_k _ h8 h9
end Go.Proofs.Ytkjngbliomckiaa

/- Graphs: a list made anew and grown by one element, in a region that draws its order: the state of its four operations. -/
namespace Go.Proofs.Ytkjngbliomckiaa
open Go.RowKit Go.Deep Go.Shelf

/-- The four operations i0 (an empty list), i1 (append of es), i2 (a list of one element), i3 (append of it). -/
structure Chain (el : TypeId) (sz base : Nat) (one : List Value) (es : List (List Value)) (i0 i1 i2 i3 : Nat) (L : Nat → Bool) (vals : Nat → Value) (w : World) : Prop where
  d1 : L i1 = true → L i0 = true
  d3 : L i3 = true → L i1 = true ∧ L i2 = true
  s0 : L i0 = true → L i1 = false → ∃ b, vals i0 = .slice (some ⟨b, 0, none⟩) 0 0 ∧ GRow el sz base w (.slice (some ⟨b, 0, none⟩) 0 0) [] ∧ (L i2 = true → vals i2 ≠ .slice (some ⟨b, 0, none⟩) 1 1)
  s1 : L i1 = true → L i3 = false → ∃ a n c, vals i1 = .slice a n c ∧ GRow el sz base w (.slice a n c) es
  s2 : L i2 = true → L i3 = false → ∃ B, vals i2 = .slice (some ⟨B, 0, none⟩) 1 1 ∧ B < w.heap.size ∧ w.heap[B]? = some (.cells one.toArray el (0, 0))
  s3 : L i3 = true → ∃ a n c, vals i3 = .slice a n c ∧ GRow el sz base w (.slice a n c) (es ++ [one])
section
variable {el : TypeId} {sz base : Nat} {one : List Value} {es : List (List Value)} {i0 i1 i2 i3 : Nat} {L : Nat → Bool} {vals : Nat → Value} {w w' : World}
theorem upd_off {L : Nat → Bool} {vals : Nat → Value} {k j : Nat} {v : Value} (h : j ≠ k) : updL L k j = L j ∧ updV vals k v j = vals j := ⟨updL_ne (by simpa using h), updV_ne h⟩
theorem GRow.keptEl {v : Value} {es : List (List Value)} (h : GRow el sz base w v es) (hw : ∀ (B : Nat) (cs : Array Value), w.heap[B]? = some (.cells cs el (0, 0)) → w'.heap[B]? = w.heap[B]?) : GRow el sz base w' v es :=
  h.kept (fun k hk => by obtain ⟨cs, hc⟩ := h.obj hk; exact hw k cs hc)
theorem Chain.start (el : TypeId) (sz base : Nat) (one : List Value) (es : List (List Value)) (i0 i1 i2 i3 : Nat) (vals : Nat → Value) (w : World) : Chain el sz base one es i0 i1 i2 i3 (fun _ => false) vals w :=
  ⟨fun h => (Bool.false_ne_true h).elim, fun h => (Bool.false_ne_true h).elim, fun h => (Bool.false_ne_true h).elim, fun h => (Bool.false_ne_true h).elim, fun h => (Bool.false_ne_true h).elim, fun h => (Bool.false_ne_true h).elim⟩
/-- An operation of another kind. -/
theorem Chain.frame (h : Chain el sz base one es i0 i1 i2 i3 L vals w) (k : Nat) (v : Value) (hk : i0 ≠ k ∧ i1 ≠ k ∧ i2 ≠ k ∧ i3 ≠ k) (hs : w.heap.size ≤ w'.heap.size) (hw : ∀ (B : Nat) (cs : Array Value), w.heap[B]? = some (.cells cs el (0, 0)) → w'.heap[B]? = w.heap[B]?) : Chain el sz base one es i0 i1 i2 i3 (updL L k) (updV vals k v) w' := by
  obtain ⟨d1, d3, s0, s1, s2, s3⟩ := h
  obtain ⟨k0, k1, k2, k3⟩ := hk
  refine ⟨?_, ?_, ?_, ?_, ?_, ?_⟩
  · rw [(upd_off (vals := vals) (v := v) k0).1, (upd_off (vals := vals) (v := v) k1).1]; exact d1
  · rw [(upd_off (vals := vals) (v := v) k3).1, (upd_off (vals := vals) (v := v) k1).1, (upd_off (vals := vals) (v := v) k2).1]; exact d3
  · rw [(upd_off (vals := vals) (v := v) k0).1, (upd_off (vals := vals) (v := v) k1).1, (upd_off (vals := vals) (v := v) k2).1, (upd_off (L := L) k0).2, (upd_off (L := L) k2).2]
    intro a b
    obtain ⟨x, e, hr, hn⟩ := s0 a b
    exact ⟨x, e, hr.keptEl hw, hn⟩
  · rw [(upd_off (vals := vals) (v := v) k1).1, (upd_off (vals := vals) (v := v) k3).1, (upd_off (L := L) k1).2]
    intro a b
    obtain ⟨x, n, c, e, hr⟩ := s1 a b
    exact ⟨x, n, c, e, hr.keptEl hw⟩
  · rw [(upd_off (vals := vals) (v := v) k2).1, (upd_off (vals := vals) (v := v) k3).1, (upd_off (L := L) k2).2]
    intro a b
    obtain ⟨x, e, hl, hx⟩ := s2 a b
    exact ⟨x, e, Nat.lt_of_lt_of_le hl hs, (hw x _ hx).trans hx⟩
  · rw [(upd_off (vals := vals) (v := v) k3).1, (upd_off (L := L) k3).2]
    intro a
    obtain ⟨x, n, c, e, hr⟩ := s3 a
    exact ⟨x, n, c, e, hr.keptEl hw⟩
theorem Chain.off (h : Chain el sz base one es i0 i1 i2 i3 L vals w) : (L i0 = false → L i1 = false) ∧ (L i1 = false → L i3 = false) ∧ (L i2 = false → L i3 = false) := by
  refine ⟨fun e => ?_, fun e => ?_, fun e => ?_⟩
  · cases e1 : L i1 with
    | false => rfl
    | true => rw [h.d1 e1] at e; cases e
  · cases e1 : L i3 with
    | false => rfl
    | true => rw [(h.d3 e1).1] at e; cases e
  · cases e1 : L i3 with
    | false => rfl
    | true => rw [(h.d3 e1).2] at e; cases e
theorem Chain.op0 (h : Chain el sz base one es i0 i1 i2 i3 L vals w) (hk : i1 ≠ i0 ∧ i2 ≠ i0 ∧ i3 ≠ i0) (h0 : L i0 = false) (hb : base ≤ w.heap.size) : Chain el sz base one es i0 i1 i2 i3 (updL L i0) (updV vals i0 (.slice (some ⟨w.heap.size, 0, none⟩) 0 0)) (w.alloc (.cells #[] el)) := by
  obtain ⟨k1, k2, k3⟩ := hk
  have e1 := h.off.1 h0
  have e3 := h.off.2.1 e1
  obtain ⟨d1, d3, s0, s1, s2, s3⟩ := h
  refine ⟨fun _ => updL_same _ _, ?_, ?_, ?_, ?_, ?_⟩
  · rw [(upd_off (vals := vals) (v := undef) k3).1, e3]; intro a; cases a
  · rw [(upd_off (vals := vals) (v := undef) k2).1, (upd_off (L := L) k2).2]
    intro _ _
    refine ⟨_, updV_same _ _ _, GRow.empty _ _ _ _ _ rfl hb, fun h2 e => ?_⟩
    obtain ⟨B, e2, hl, _⟩ := s2 h2 e3
    rw [e2] at e
    simp only [Value.slice.injEq, Option.some.injEq, Addr.mk.injEq, and_true] at e
    omega
  · rw [(upd_off (vals := vals) (v := undef) k1).1, e1]; intro a; cases a
  · rw [(upd_off (vals := vals) (v := undef) k2).1, (upd_off (vals := vals) (v := undef) k3).1, (upd_off (L := L) k2).2]
    intro a b
    obtain ⟨x, e, hl, hx⟩ := s2 a b
    exact ⟨x, e, by simp; omega, (Below.heap_alloc _ _ _ hl).trans hx⟩
  · rw [(upd_off (vals := vals) (v := undef) k3).1, e3]; intro a; cases a
theorem Chain.op2 (h : Chain el sz base one es i0 i1 i2 i3 L vals w) (hk : i0 ≠ i2 ∧ i1 ≠ i2 ∧ i3 ≠ i2) (h2 : L i2 = false) : Chain el sz base one es i0 i1 i2 i3 (updL L i2) (updV vals i2 (.slice (some ⟨w.heap.size, 0, none⟩) 1 1)) (w.alloc (.cells one.toArray el)) := by
  obtain ⟨k0, k1, k3⟩ := hk
  have e3 := h.off.2.2 h2
  obtain ⟨d1, d3, s0, s1, s2, s3⟩ := h
  have hw : ∀ (B : Nat) (cs : Array Value), w.heap[B]? = some (.cells cs el (0, 0)) → (w.alloc (.cells one.toArray el)).heap[B]? = w.heap[B]? := fun B cs hB => Below.heap_alloc _ _ _ (Array.getElem?_eq_some_iff.1 hB).1
  refine ⟨?_, ?_, ?_, ?_, ?_, ?_⟩
  · rw [(upd_off (vals := vals) (v := undef) k0).1, (upd_off (vals := vals) (v := undef) k1).1]; exact d1
  · rw [(upd_off (vals := vals) (v := undef) k3).1, e3]; intro a; cases a
  · rw [(upd_off (vals := vals) (v := undef) k0).1, (upd_off (vals := vals) (v := undef) k1).1, (upd_off (L := L) k0).2]
    intro a b
    obtain ⟨x, e, hr, _⟩ := s0 a b
    refine ⟨x, e, hr.keptEl hw, fun _ => ?_⟩
    rw [updV_same]
    intro e2
    have := (hr.lt x rfl).2
    simp only [Value.slice.injEq, Option.some.injEq, Addr.mk.injEq, and_true] at e2
    omega
  · rw [(upd_off (vals := vals) (v := undef) k1).1, (upd_off (vals := vals) (v := undef) k3).1, (upd_off (L := L) k1).2]
    intro a b
    obtain ⟨x, n, c, e, hr⟩ := s1 a b
    exact ⟨x, n, c, e, hr.keptEl hw⟩
  · intro _ _
    exact ⟨_, updV_same _ _ _, by simp, World.alloc_heap_new _ _⟩
  · rw [(upd_off (vals := vals) (v := undef) k3).1, e3]; intro a; cases a
theorem Chain.op1 (h : Chain el sz base one es i0 i1 i2 i3 L vals w) (hk : i0 ≠ i1 ∧ i2 ≠ i1 ∧ i3 ≠ i1) (h0 : L i0 = true) (h1 : L i1 = false) {b : Nat} (hb : vals i0 = .slice (some ⟨b, 0, none⟩) 0 0) {ga : Option Addr} {gn gc : Nat} (hr : GRow el sz base w' (.slice ga gn gc) es) (hg : w.grownBy w' (some b)) : Chain el sz base one es i0 i1 i2 i3 (updL L i1) (updV vals i1 (.slice ga gn gc)) w' := by
  obtain ⟨k0, k2, k3⟩ := hk
  have e3 := h.off.2.1 h1
  obtain ⟨d1, d3, s0, s1, s2, s3⟩ := h
  obtain ⟨x, e, _, hn⟩ := s0 h0 h1
  rw [hb] at e
  obtain rfl : b = x := by simpa using e
  refine ⟨?_, ?_, ?_, ?_, ?_, ?_⟩
  · rw [(upd_off (vals := vals) (v := undef) k0).1]; exact fun _ => h0
  · rw [(upd_off (vals := vals) (v := undef) k3).1, e3]; intro a; cases a
  · rw [updL_same]; intro _ a; cases a
  · intro _ _
    exact ⟨ga, gn, gc, updV_same _ _ _, hr⟩
  · rw [(upd_off (vals := vals) (v := undef) k2).1, (upd_off (vals := vals) (v := undef) k3).1, (upd_off (L := L) k2).2]
    intro h2 _
    obtain ⟨B, e2, hl, hx⟩ := s2 h2 e3
    have hne := hn h2
    rw [e2] at hne
    refine ⟨B, e2, Nat.lt_of_lt_of_le hl hg.size, (hg.block B hl (fun e => hne ?_)).trans hx⟩
    rw [Option.some.inj e]
  · rw [(upd_off (vals := vals) (v := undef) k3).1, e3]; intro a; cases a
theorem Chain.op3 (h : Chain el sz base one es i0 i1 i2 i3 L vals w) (hk : i0 ≠ i3 ∧ i1 ≠ i3 ∧ i2 ≠ i3) (h1 : L i1 = true) (h2 : L i2 = true) {ga : Option Addr} {gn gc : Nat} (hr : GRow el sz base w' (.slice ga gn gc) (es ++ [one])) : Chain el sz base one es i0 i1 i2 i3 (updL L i3) (updV vals i3 (.slice ga gn gc)) w' := by
  obtain ⟨k0, k1, k2⟩ := hk
  obtain ⟨d1, d3, s0, s1, s2, s3⟩ := h
  refine ⟨?_, ?_, ?_, ?_, ?_, ?_⟩
  · rw [(upd_off (vals := vals) (v := undef) k0).1, (upd_off (vals := vals) (v := undef) k1).1]; exact d1
  · rw [(upd_off (vals := vals) (v := undef) k1).1, (upd_off (vals := vals) (v := undef) k2).1]; exact fun _ => ⟨h1, h2⟩
  · rw [(upd_off (vals := vals) (v := undef) k1).1, h1]; intro _ a; cases a
  · rw [updL_same]; intro _ a; cases a
  · rw [updL_same]; intro _ a; cases a
  · intro _
    exact ⟨ga, gn, gc, updV_same _ _ _, hr⟩
/-- What an append leaves alone: blocks of another kind. -/
theorem grown_other {t : TypeId} {v : Value} {es : List (List Value)} (h : GRow el sz base w v es) (hg : w.grownBy w' v.ownBlock) (ht : t ≠ el) : ∀ (B : Nat) (cs : Array Value), w.heap[B]? = some (.cells cs t (0, 0)) → w'.heap[B]? = w.heap[B]? :=
  fun B _ hB => hg.block B (Array.getElem?_eq_some_iff.1 hB).1 (h.ne hB ht)
end
/-! ### Lists of texts and of references as rows -/
abbrev strCells (s : ByteArray) : List Value := [.string s]
theorem src_strs {B : Nat → Prop} {w : World} {na : Option Addr} {nn nc : Nat} {ls : List ByteArray} (h : StrSl B w (.slice na nn nc) ls) : nn = (ls.map strCells).length ∧ RowSrc 1 w na (ls.map strCells) := by
  obtain ⟨pa, len, c, e, hl, _, hg⟩ := h.open
  simp only [Value.slice.injEq] at e
  obtain ⟨rfl, rfl, rfl⟩ := e
  refine ⟨by rw [List.length_map]; exact hl.out, ?_⟩
  cases ls with
  | nil => exact .inl rfl
  | cons s r =>
    obtain ⟨_, kb, ko, rfl, _, _⟩ := hg 0 s rfl
    refine .inr ⟨kb, ko, rfl, fun j e i u hj hi => ?_⟩
    rw [List.getElem?_map] at hj
    obtain ⟨x, hx, rfl⟩ := Option.map_eq_some_iff.1 hj
    obtain ⟨_, kb', ko', e', _, hc⟩ := hg j x hx
    simp only [Option.some.injEq, Addr.mk.injEq, and_true] at e'
    obtain ⟨rfl, rfl⟩ := e'
    cases i with
    | zero =>
      simp at hi
      subst hi
      rw [show ko + (j * 1 + 0) = ko + j by omega]; exact hc
    | succ i => simp at hi
theorem src_refs {B : Nat → Prop} {w : World} {na : Option Addr} {nn nc : Nat} {rs : List GRef} (h : RefSl B w (.slice na nn nc) rs) : nn = (rs.map refCells).length ∧ RowSrc 2 w na (rs.map refCells) := by
  obtain ⟨pa, len, c, e, hl, _, hg⟩ := h.open
  simp only [Value.slice.injEq] at e
  obtain ⟨rfl, rfl, rfl⟩ := e
  refine ⟨by rw [List.length_map]; exact hl.out, ?_⟩
  cases rs with
  | nil => exact .inl rfl
  | cons s r =>
    obtain ⟨kb, ko, rfl, _, _⟩ := hg 0 s rfl
    refine .inr ⟨kb, ko, rfl, fun j e i u hj hi => ?_⟩
    rw [List.getElem?_map] at hj
    obtain ⟨x, hx, rfl⟩ := Option.map_eq_some_iff.1 hj
    obtain ⟨kb', ko', e', _, h0, h1⟩ := hg j x hx
    simp only [Option.some.injEq, Addr.mk.injEq, and_true] at e'
    obtain ⟨rfl, rfl⟩ := e'
    match i, hi with
    | 0, hi =>
      simp [refCells] at hi
      subst hi
      rw [show ko + (j * 2 + 0) = ko + j * 2 by omega]; exact h0
    | 1, hi =>
      simp [refCells] at hi
      subst hi
      rw [show ko + (j * 2 + 1) = ko + j * 2 + 1 by omega]; exact h1
    | i + 2, hi => simp [refCells] at hi
theorem GRow.strs {base : Nat} {W : World} {v : Value} {ls : List ByteArray} (h : GRow 9 1 base W v (ls.map strCells)) (hl : ls.length ≤ maxLen) (hz : ∀ s ∈ ls, s.size ≤ maxLen) : StrSl (fun k => base ≤ k ∧ k < W.heap.size) W v ls := by
  refine ⟨?_, hl, hz⟩
  rcases h.parts with ⟨rfl, h0⟩ | ⟨g, cap, rfl, hg, hlt, hc, _⟩
  · exact .inl ⟨⟨_, _, rfl⟩, by simpa using h0⟩
  · refine .inr ⟨g, 0, cap, by rw [List.length_map], ⟨hg, hlt⟩, by simpa using hc, fun j s hj => ?_⟩
    have hj' : (ls.map strCells)[j]? = some (strCells s) := by rw [List.getElem?_map, hj]; rfl
    obtain ⟨g1, c1, e1, h1⟩ := h.cell (i := 0) hj' rfl
    simp only [Value.slice.injEq, Option.some.injEq, Addr.mk.injEq, and_true, true_and] at e1
    rw [e1.1, Nat.zero_add]
    simpa using h1
end Go.Proofs.Ytkjngbliomckiaa

/- Graphs (mathematics): the least closed set of a node, from those of the nodes behind it; from the first reference of a type all of its nodes are reached. -/
namespace Go.Proofs.Ytkjngbliomckiaa
open Go.RowKit Go.Deep

/-- What is reached from a node: the node, and what is reached from the nodes that it points to. -/
theorem least_unite {ns : List GNode} {a : Nat} {S : Nat → Bool} (h : Least ns a S) {g : GNode} (hg : ns[a]? = some g) {F : Nat → Nat → Bool} (hF : ∀ r ∈ g.nx, Least ns r.n (F r.n)) (i : Nat) :
    S i = true ↔ i = a ∨ ∃ r ∈ g.nx, F r.n i = true := by
  constructor
  · refine h.min (fun i => i = a ∨ ∃ r ∈ g.nx, F r.n i = true) (.inl rfl) ?_ i
    intro n g' hn hC r hr
    rcases hC with rfl | ⟨r0, hr0, hf⟩
    · obtain rfl : g = g' := Option.some.inj (hg.symm.trans hn)
      exact .inr ⟨r, hr, (hF r hr).start⟩
    · exact .inr ⟨r0, hr0, (hF r0 hr0).closed n g' hn hf r hr⟩
  · rintro (rfl | ⟨r, hr, hf⟩)
    · exact h.start
    · exact (hF r hr).min (fun i => S i = true) (h.closed a g hg h.start r hr) h.closed i hf

/-- A set that is closed and holds a type's first reference holds all nodes of the type. -/
theorem reach_all {ns : List GNode} {C : Nat → Prop} (hC : ClosedG ns C) : ∀ (t : Ty), t.okg → ∀ (i : Nat) (e : ByteArray → Nat), (∀ k x, (t.pnod i e)[k]? = some x → ns[i + k]? = some x) → C (t.pref i e).n → ∀ k, k < t.gcnt → C (i + k) := by
  refine Ty.ind ?_
  intro k p n s ls ts ih hok i e hns hr j hj
  have hok' := hok
  simp only [Ty.okg] at hok'
  obtain ⟨_, h1, h0, _, hk⟩ := hok'
  rw [Ty.pref] at hr
  rw [Ty.pnod] at hns
  rw [Ty.gcnt] at hj
  by_cases e8 : k = 8
  · subst e8
    obtain ⟨u, rfl⟩ : ∃ u, ts = [u] := by
      match ts, h1 rfl with
      | [u], _ => exact ⟨u, rfl⟩
    rw [if_pos rfl, Ty.pref1] at hr
    rw [if_pos rfl, Ty.pnod1] at hns
    rw [if_neg (by decide)] at hj
    simp only [Ty.gcnts] at hj
    simp only [Ty.okgs] at hk
    exact ih u (by simp) hk.1 i _ hns hr j (by omega)
  · rw [if_neg e8] at hr hns
    by_cases e9 : k = 9
    · subst e9
      rw [h0 rfl, if_neg (by decide)] at hj
      simp only [Ty.gcnts] at hj
      omega
    · rw [if_neg e9] at hr hns
      have hnode := hns 0 _ rfl
      rw [Nat.add_zero] at hnode
      have hkids : ∀ r ∈ Ty.prefs (i + 1) e ts, C r.n := fun r hr' => hC i _ hnode hr r hr'
      have hl : ∀ (l : List Ty) (i' : Nat), (∀ t ∈ l, t ∈ ts) → (∀ k x, (Ty.pnods i' e l)[k]? = some x → ns[i' + k]? = some x) → (∀ r ∈ Ty.prefs i' e l, C r.n) → ∀ j, j < Ty.gcnts l → C (i' + j) := by
        intro l
        induction l with
        | nil => intro i' _ _ _ j hj; simp only [Ty.gcnts] at hj; omega
        | cons t r ihl =>
          intro i' hm hns' hr' j hj
          rw [Ty.gcnts] at hj
          have hto := Ty.okgs_mem hk t (hm t (by simp))
          have hlen := pnod_ok t hto i' e
          rw [Ty.pnods] at hns'
          rw [Ty.prefs] at hr'
          by_cases hlt : j < t.gcnt
          · refine ih t (hm t (by simp)) hto i' e (fun k x hx => hns' k x ?_) (hr' _ (by simp)) j hlt
            rw [List.getElem?_append_left (List.getElem?_eq_some_iff.1 hx).1]; exact hx
          · have := ihl (i' + t.gcnt) (fun u hu => hm u (by simp [hu])) (fun k x hx => by
              have := hns' (t.gcnt + k) x (by rw [List.getElem?_append_right (by omega), hlen, Nat.add_sub_cancel_left]; exact hx)
              rwa [← Nat.add_assoc] at this) (fun q hq => hr' q (by simp [hq])) (j - t.gcnt) (by omega)
            rwa [show i' + t.gcnt + (j - t.gcnt) = i' + j by omega] at this
      cases j with
      | zero => exact hr
      | succ j =>
        have := hl ts (i + 1) (fun _ h => h) (fun k x hx => by
          have := hns (k + 1) x (by simpa using hx)
          rwa [show i + (k + 1) = i + 1 + k by omega] at this) hkids j (by split at hj <;> omega)
        rwa [show i + 1 + j = i + (j + 1) by omega] at this

/-- From the first reference of a right type all nodes of its graph are reached. -/
theorem reach_whole {t : Ty} (hok : t.okg) (hr : t.pref 0 (fun _ => 0) = ⟨0, 0⟩) {S : Nat → Bool} (h : Least (gNodes [t]) 0 S) : ∀ k, k < (gNodes [t]).length → S k = true := by
  intro k hk
  have e : gNodes [t] = t.pnod 0 (fun _ => 0) := by simp [gNodes, Ty.pnods]
  have := reach_all (ns := gNodes [t]) (C := fun n => S n = true) h.closed t hok 0 (fun _ => 0) (fun k x hx => by rw [Nat.zero_add, e]; exact hx) (by rw [hr]; exact h.start) k (by rw [e, pnod_ok t hok] at hk; exact hk)
  rwa [Nat.zero_add] at this
/-- So its list of bits names them all. -/
theorem reach_count {t : Ty} (hok : t.okg) (hr : t.pref 0 (fun _ => 0) = ⟨0, 0⟩) {S : Nat → Bool} (h : Least (gNodes [t]) 0 S) : ((List.range (gNodes [t]).length).filter S).length = (gNodes [t]).length := by
  rw [List.filter_eq_self.2 (fun k hk => reach_whole hok hr h k (List.mem_range.1 hk)), List.length_range]
/-- The numbers below n of a set, counted up: what stands at the place of the next one. -/
theorem filter_next (S : Nat → Bool) {n i : Nat} (hi : i < n) (hS : S i = true) : ((List.range n).filter S)[((List.range i).filter S).length]? = some i := by
  obtain ⟨d, rfl⟩ : ∃ d, n = i + (d + 1) := ⟨n - i - 1, by omega⟩
  rw [List.range_add, List.filter_append, List.getElem?_append_right (Nat.le_refl _), Nat.sub_self, List.range_succ_eq_map]
  simp [hS]
theorem filter_count (S : Nat → Bool) (i : Nat) : ((List.range (i + 1)).filter S).length = ((List.range i).filter S).length + (if S i = true then 1 else 0) := by
  rw [List.range_succ, List.filter_append, List.length_append]
  congr 1
  by_cases h : S i = true
  · simp [h]
  · simp [h]
theorem filter_count_le (S : Nat → Bool) {i n : Nat} (h : i ≤ n) : ((List.range i).filter S).length ≤ ((List.range n).filter S).length := by
  obtain ⟨d, rfl⟩ : ∃ d, n = i + d := ⟨n - i, by omega⟩
  rw [List.range_add, List.filter_append, List.length_append]
  omega
/-- Of a set that holds the next one there are more. -/
theorem filter_count_lt (S : Nat → Bool) {i n : Nat} (h : i < n) (hS : S i = true) : ((List.range i).filter S).length < ((List.range n).filter S).length := by
  have h1 := filter_count_le S (show i + 1 ≤ n from h)
  rw [filter_count, if_pos hS] at h1
  omega
/-- The list of a set: what is in it. -/
theorem filter_mem (S : Nat → Bool) {n j x : Nat} (h : ((List.range n).filter S)[j]? = some x) : x < n ∧ S x = true := by
  have := List.mem_of_getElem? h
  simpa using this
end Go.Proofs.Ytkjngbliomckiaa

/- Graphs: the graph as the law's own nodes (under way). -/
namespace Go.Proofs.Ytkjngbliomckiaa
open Go.RowKit Go.Deep Go.Shelf

end Go.Proofs.Ytkjngbliomckiaa
