/- Processes: Size, Depth, tooLarge. -/
import Derived.Test.YtipjjhkgcbabnaaDoorPrV
import Derived.Test.YtipjjhkgcbabnaaDoorTyZa
namespace Go.Proofs.YtipjjhkgcbabnaaDoor
open Go.RowKit Go.Deep Go.Shelf
attribute [local go_sem] Oper.semAt_some

abbrev cell12 (p : Pr) (lv av tl tk kv : Value) : Obj := .cells #[.int .i64 p.k, .string p.c, .string p.x, lv, av, .int .i64 p.t.k, .int .i64 p.t.p, .string p.t.n, .int .i64 p.t.s, tl, tk, kv] 36
/-- A process in a box of its own. -/
theorem boxed_prAt {B S : Nat → Prop} {w W : World} {p : Pr} {lv av tl tk kv : Value} (hB : Low B w) (hv : PrVal B w (prAgg p lv av tl tk kv) p) (hb : Below (w.heap.size + 1) (w.alloc (cell12 p lv av tl tk kv)) W) (hBS : ∀ k, B k → S k) (hS : S w.heap.size) : PrAt S W p w.heap.size 0 := by
  have hc : ∀ (j : Nat) (v : Value), #[.int .i64 p.k, .string p.c, .string p.x, lv, av, .int .i64 p.t.k, .int .i64 p.t.p, .string p.t.n, .int .i64 p.t.s, tl, tk, kv][j]? = some v → W.cell? ⟨w.heap.size, j, none⟩ = some v := fun j v hj => blk_cell hb j hj
  refine prAt_of hS (hc 0 _ rfl) (hc 1 _ rfl) (hc 2 _ rfl) (hc 3 _ rfl) (hc 4 _ rfl) (hc 5 _ rfl) (hc 6 _ rfl) (hc 7 _ rfl) (hc 8 _ rfl) (hc 9 _ rfl) (hc 10 _ rfl) (hc 11 _ rfl) ?_
  exact (hv.to hB (blk_below hb)).mono hBS

theorem preP_length : ∀ (p : Pr) (d : Nat), (preP d p).length = p.size := by
  refine Pr.ind ?_
  intro k c x ls vs t ps ih d
  have h : ∀ (l : List Pr) (d : Nat), (∀ p ∈ l, ∀ d, (preP d p).length = p.size) → (prePs d l).length = Pr.sizes l := by
    intro l
    induction l with
    | nil => intro _ _; simp [prePs, Pr.sizes]
    | cons u r ihl =>
      intro d hh
      rw [prePs, List.length_append, Pr.sizes, hh u (by simp), ihl d (fun t ht => hh t (by simp [ht]))]
  rw [preP_eq, Pr.size_eq, List.length_cons]
  show (prePs (d + 1) ps).length + 1 = Pr.sizes ps + 1
  rw [h _ _ ih]
/-- The greatest depth of the nodes that have come. -/
def mdP (l : List (Nat × Pr)) : Nat := l.foldl (fun m x => max m x.1) 0
theorem mdP_snoc (l : List (Nat × Pr)) (x : Nat × Pr) : mdP (l ++ [x]) = max (mdP l) x.1 := by simp [mdP]
theorem foldl_maxP (l : List (Nat × Pr)) : ∀ m : Nat, l.foldl (fun m x => max m x.1) m = max m (mdP l) := by
  induction l with
  | nil => intro m; simp [mdP]
  | cons x l ih => intro m; simp only [mdP, List.foldl_cons]; rw [ih, ih (max 0 _)]; omega
theorem mdP_append (l r : List (Nat × Pr)) : mdP (l ++ r) = max (mdP l) (mdP r) := by
  unfold mdP; rw [List.foldl_append, foldl_maxP]; rfl
theorem mdP_le_of_prefix {l r : List (Nat × Pr)} (h : l <+: r) : mdP l ≤ mdP r := by
  obtain ⟨s, rfl⟩ := h
  rw [mdP_append]; omega
theorem mdP_preP : ∀ (p : Pr) (d : Nat), mdP (preP (d + 1) p) = d + p.depth := by
  refine Pr.ind ?_
  intro k c x ls vs t ps ih d
  have h : ∀ (l : List Pr) (d : Nat), (∀ p ∈ l, ∀ d, mdP (preP (d + 1) p) = d + p.depth) → max d (mdP (prePs (d + 1) l)) = d + Pr.depths l := by
    intro l
    induction l with
    | nil => intro d _; simp [prePs, mdP, Pr.depths]
    | cons u r ihl =>
      intro d hh
      have h1 := hh u (by simp) d
      have h2 := ihl d (fun t ht => hh t (by simp [ht]))
      have h3 := u.depth_pos
      rw [prePs, mdP_append, Pr.depths]; omega
  have h1 := h ps (d + 1) ih
  rw [preP_eq, Pr.depth_eq]
  show mdP ([_] ++ _) = _
  rw [mdP_append]
  have h2 : mdP [(d + 1, Pr.mk k c x ls vs t ps)] = d + 1 := by simp [mdP]
  rw [h2]
  show max (d + 1) (mdP (prePs (d + 1 + 1) ps)) = _
  simp only [Pr.ps]
  omega
theorem w64_succP (x : Np) (pre : List Np) : wrap64 (wrap64 ((pre.length : Nat) : Int) + 1) = wrap64 (((pre ++ [x]).length : Nat) : Int) := by
  rw [List.length_append]; simp only [List.length_cons, List.length_nil]; unfold wrap64; omega

set_option maxRecDepth 100000 in
set_option maxHeartbeats 2000000 in
theorem psize_in (n : Nat) (hn : 3 ≤ n) (B : Nat → Prop) (p : Pr) (hsz : p.size ≤ 1000000) (hdep : p.depth ≤ 99999) (lv av tl tk kv : Value) (w : World) (hB : Low B w) (hv : PrVal B w (prAgg p lv av tl tk kv) p) :
    CallsIn Fence.wide n Tryd.prog 25 #[prAgg p lv av tl tk kv] w fun e w' => e = .returned (.int .i64 p.size) ∧ Below w.heap.size w w' := by
  have h1 : 1 ≤ n := by omega
  refine callsIn_of_wp_marks Tryd.func25 rfl trivial ?_ rfl
  simp only [prAgg, Tryd.ntmps25, List.size_toArray, List.length_cons, List.length_nil, Nat.reduceAdd, Nat.reduceSub, Array.replicate_succ, Array.replicate_zero, List.push_toArray, List.append_toArray, List.nil_append, List.cons_append]
  gi_wp2_with (refine ⟨trivial, ?_⟩; gi_at_call 60; refine (callsIn_wide.2 (pnodes_any _ _)).mono ?_; rintro e w' ⟨rfl, rfl⟩)
  have hbel := box3_below w (cell12 p lv av tl tk kv) (.cells #[.int .i64 0] 3) (.cells #[.pointer (some ⟨w.heap.size, 0, none⟩)] 86)
  have hpr := boxed_prAt (S := fun k => B k ∨ k = w.heap.size) hB hv ((((Below.refl (w.heap.size + 1) _).alloc (by simp) (.cells #[.int .i64 0] 3)).alloc (by simp) (.cells #[.pointer (some ⟨w.heap.size, 0, none⟩)] 86))) (fun _ h => .inl h) (.inr rfl)
  have hc : (((w.alloc (cell12 p lv av tl tk kv)).alloc (.cells #[.int .i64 0] 3)).alloc (.cells #[.pointer (some ⟨w.heap.size, 0, none⟩)] 86)).heap[w.heap.size + 1]? = some (.cells #[.int .i64 0] 3 (0, 0)) := by
    have h := World.alloc_heap_new (w.alloc (cell12 p lv av tl tk kv)) (.cells #[.int .i64 0] 3)
    rw [World.size_alloc] at h
    exact (Below.heap_alloc _ _ _ (by simp)).trans h
  have hp : (((w.alloc (cell12 p lv av tl tk kv)).alloc (.cells #[.int .i64 0] 3)).alloc (.cells #[.pointer (some ⟨w.heap.size, 0, none⟩)] 86)).cell? ⟨w.heap.size + 1 + 1, 0, none⟩ = some (.pointer (some ⟨w.heap.size, 0, none⟩)) := by
    have h := blk_cell (w := (w.alloc (cell12 p lv av tl tk kv)).alloc (.cells #[.int .i64 0] 3)) (cs := #[.pointer (some ⟨w.heap.size, 0, none⟩)]) (t := 86) (Below.refl _ _) 0 rfl
    simpa using h
  have hsz0 : (((w.alloc (cell12 p lv av tl tk kv)).alloc (.cells #[.int .i64 0] 3)).alloc (.cells #[.pointer (some ⟨w.heap.size, 0, none⟩)] 86)).heap.size = w.heap.size + 3 := by simp
  obtain ⟨W0, hW0⟩ : ∃ W0, (((w.alloc (cell12 p lv av tl tk kv)).alloc (.cells #[.int .i64 0] 3)).alloc (.cells #[.pointer (some ⟨w.heap.size, 0, none⟩)] 86)) = W0 := ⟨_, rfl⟩
  simp only [cell12] at hW0
  simp only [cell12] at hpr hc hp hbel hsz0
  rw [hW0] at hpr hc hp hbel hsz0 ⊢
  clear hW0
  have hX : ∀ k, k = w.heap.size + 1 → ¬ (B k ∨ k = w.heap.size) := fun k e h => h.elim (fun h => by have := hB k h; omega) (fun h => by omega)
  have hS : ∀ k, (B k ∨ k = w.heap.size) → k < W0.heap.size := fun k h => h.elim (fun h => by have := hB k h; omega) (fun h => by omega)
  refine wpIn_range_told rfl h1 (gf := 93) (lb := #[.pointer (some ⟨w.heap.size + 1 + 1, 0, none⟩)]) rfl trivial (enters_of Tryd.func93 (by kernel_rfl) rfl)
    (pnodes_tells (fun _ => True) (fun _ _ _ _ => trivial) (n - 1) (w.heap.size + 1 + 1) w.heap.size 0 p (fun k => B k ∨ k = w.heap.size) (fun k => k = w.heap.size + 1) W0 hX hS (by omega) hp hpr hdep trivial) (fun h g => KV.trans h g) (fun W l o o' _ h ho _ => KV.of_cells (by simp) (cellsKept_put h ho)) (fun x A B h hp => Pp.kept h hp) (Below.refl _ _) (fun _ => rfl)
    (fun pre W => W.heap[w.heap.size + 1]? = some (.cells #[.int .i64 (wrap64 pre.length)] 3 (0, 0)) ∧ Below w.heap.size w W) (fun _ _ _ => False)
    ((abides_boxed (by omega) _ _).and (abidesAll_below (by omega) (Nat.le_refl _))) (fun _ _ _ _ _ h _ _ => h) ⟨by rw [show wrap64 ((([] : List Np).length : Nat) : Int) = 0 from w64_id _ (by simp) (by simp)]; exact hc, hbel⟩
    (fun x a' _ => a' = { tmps := #[prAgg p lv av tl tk kv, .pointer (some ⟨w.heap.size, 0, none⟩), .int .i64 0, .pointer (some ⟨w.heap.size + 1, 0, none⟩),
      .func (.func 93) #[] #[.pointer (some ⟨w.heap.size + 1 + 1, 0, none⟩)], .int .i64 x.d, .pointer (some ⟨x.b, x.o, none⟩), undef, undef, undef], defers := [] }) (fun _ _ _ _ _ h => h) ?assign ?body ?done ?stop
  case assign =>
    intro l pre x W K hi hp hK
    simp only [npArgs]
    gi_wp2
    exact hK _ _ (KeepsFrom.refl _ _) (KV.refl _ _ _) hi hp (by simp)
  case body =>
    rintro l pre x a' W hl _ ⟨hb, hbw⟩ hpx rfl
    have c0 : W.cell? ⟨w.heap.size + 1, 0, none⟩ = some (.int .i64 (wrap64 pre.length)) := by simp [World.cell?, hb]
    have f0 : W.frozen? ⟨w.heap.size + 1, 0, none⟩ = false := by simp [World.frozen?, hb]
    have HB := Lib.hid hb
    clear hb hpx
    simp only [prAgg]
    gi_wp2
    refine ⟨(KeepsOthers.setCell _ _ _).from _, ?_, ?_, hbw.setCell (p := ⟨w.heap.size + 1, 0, none⟩) (by simp) _⟩
    · exact ⟨by simp, fun k o hk hc hx _ => (Below.heap_setCell _ _ _ k (fun e => hx e)).trans hk⟩
    · rw [w64_succP x pre]
      exact set_block HB.out 0 _
  case done =>
    rintro D ys W hD hys ⟨hb, hbw⟩ hK
    have hlen : ys.length = p.size := by
      have := congrArg List.length hys
      rwa [List.length_map, preP_length] at this
    rw [hlen, w64_id _ (by omega) (by omega)] at hb
    have c0 : W.cell? ⟨w.heap.size + 1, 0, none⟩ = some (.int .i64 p.size) := by simp [World.cell?, hb]
    have HK := Lib.hid hK
    clear hb hys hlen hK
    gi_wp2
    refine ⟨by simp, .inl ⟨_, _, rfl, run_takeDeferred HK.out, ?_⟩⟩
    exact ⟨_, results_tmp rfl _ _ _, rfl, hbw.trans (belowK_b (w := w) (Nat.le_refl _) W D _ _ (by omega) HK.out rfl rfl)⟩
  case stop =>
    rintro D c pre W _ _ h _
    exact h.elim

theorem psize_any (B : Nat → Prop) (p : Pr) (hsz : p.size ≤ 1000000) (hdep : p.depth ≤ 99999) (v : Value) (w : World) (hB : Low B w) (hv : PrVal B w v p) :
    Calls Tryd.prog 25 #[v] w fun e w' => e = .returned (.int .i64 p.size) ∧ Below w.heap.size w w' := by
  have hv' := hv
  obtain ⟨lv, av, tl, tk, kv, rfl, _⟩ := hv'
  exact callsIn_wide.1 (psize_in 3 (by omega) B p hsz hdep lv av tl tk kv w hB hv)

end Go.Proofs.YtipjjhkgcbabnaaDoor
