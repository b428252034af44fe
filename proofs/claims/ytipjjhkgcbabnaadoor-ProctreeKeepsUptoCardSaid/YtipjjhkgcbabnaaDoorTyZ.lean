/- Types: Depth, tooLarge. -/
import Derived.Test.YtipjjhkgcbabnaaDoorTyY
namespace Go.Proofs.YtipjjhkgcbabnaaDoor
open Go.RowKit Go.Deep Go.Shelf
attribute [local go_sem] Oper.semAt_some

set_option maxHeartbeats 1000000 in
theorem pdepth_any (pa : Option Addr) (an ac : Nat) (kid : Int) (hn : an ≤ 1000) (w : World) :
    Calls Tryd.prog 53 #[.agg #[.slice pa an ac, .int .i64 kid]] w fun e w' => e = .returned (.int .i64 ((an : Int) + 1)) ∧ w' = w.alloc (.cells #[.slice pa an ac, .int .i64 kid] 68) := by
  go_enter Tryd.func53, Tryd.ntmps53
  go_wp2
  go_ret
  exact ⟨rfl, rfl⟩

theorem Px.ar_eq {D : Nat} {S : Nat → Prop} {x : Nd} {W : World} (h : Px D S x W) : ∃ pa ac, x.ar = .slice pa x.path.length ac := by
  obtain ⟨⟨_, _, h2, _⟩, _⟩ := h
  rcases h2.2 with ⟨h, h0⟩ | ⟨g, cap, cur, h, _⟩
  · exact ⟨none, 0, by rw [h, h0]⟩
  · exact ⟨_, _, h⟩

/-- The greatest depth of the nodes that have come. -/
def mdep (l : List (List Ty × Int × Ty)) : Nat := l.foldl (fun m x => max m (x.1.length + 1)) 0
theorem mdep_snoc (l : List (List Ty × Int × Ty)) (x : List Ty × Int × Ty) : mdep (l ++ [x]) = max (mdep l) (x.1.length + 1) := by simp [mdep]
theorem foldl_max (l : List (List Ty × Int × Ty)) : ∀ m : Nat, l.foldl (fun m x => max m (x.1.length + 1)) m = max m (mdep l) := by
  induction l with
  | nil => intro m; simp [mdep]
  | cons x l ih => intro m; simp only [mdep, List.foldl_cons]; rw [ih, ih (max 0 _)]; omega
theorem mdep_append (l r : List (List Ty × Int × Ty)) : mdep (l ++ r) = max (mdep l) (mdep r) := by
  unfold mdep; rw [List.foldl_append, foldl_max]; rfl
theorem mdep_preT : ∀ (t : Ty) (path : List Ty) (kid : Int), mdep (preT path kid t) = path.length + t.depth := by
  refine Ty.ind ?_
  intro k p n s ls ts ih path kid
  have h : ∀ (l : List Ty) (path : List Ty) (kid : Int), (∀ t ∈ l, ∀ (path : List Ty) (kid : Int), mdep (preT path kid t) = path.length + t.depth) → max path.length (mdep (preTs path kid l)) = path.length + Ty.depths l := by
    intro l
    induction l with
    | nil => intro _ _ _; simp [preTs, Ty.depths, mdep]
    | cons u r ihl =>
      intro path kid hh
      have h1 := hh u (by simp) path kid
      have h2 := ihl path (kid + 1) (fun t ht => hh t (by simp [ht]))
      have h3 := u.depth_pos
      rw [preTs, mdep_append, Ty.depths]; omega
  have h1 := h ts (path ++ [Ty.mk k p n s ls ts]) 0 ih
  rw [preT_eq, Ty.depth_eq]
  show mdep ([_] ++ _) = _
  rw [mdep_append]
  simp only [List.length_append, List.length_cons, List.length_nil, Ty.ts] at h1 ⊢
  have h2 : mdep [(path, kid, Ty.mk k p n s ls ts)] = path.length + 1 := by simp [mdep]
  omega

/-- The round's box of the place. -/
def PlaceBox (D : Nat) (x : Nd) (b3 : Nat) (W : World) : Prop := D ≤ b3 ∧ W.heap[b3]? = some (.cells #[x.ar, .int .i64 x.kid] 68 (0, 0))
theorem PlaceBox.kept {D : Nat} {x : Nd} {b3 : Nat} {A B : World} (h : CellsKept A B) (hp : PlaceBox D x b3 A) : PlaceBox D x b3 B := ⟨hp.1, h _ _ hp.2 rfl⟩

theorem below_seq' {a b c : World} (h : Below a.heap.size a b) (k : Below b.heap.size b c) : Below a.heap.size a c := below_seq h k
/-- The world in which a function over a type begins to range over its nodes. -/
structure Begin (B : Nat → Prop) (t : Ty) (lv kv : Value) (w : World) (bt bp : Nat) (W0 : World) : Prop where
  below : Below w.heap.size w W0
  tyAt : TyAt (fun k => B k ∨ k = bt) W0 t bt 0
  ptr : W0.cell? ⟨bp, 0, none⟩ = some (.pointer (some ⟨bt, 0, none⟩))

set_option maxRecDepth 100000 in
set_option maxHeartbeats 2000000 in
theorem tdepth_in (n : Nat) (hn : 3 ≤ n) (B : Nat → Prop) (t : Ty) (hdep : t.depth ≤ 1000) (lv kv : Value) (w : World) (hB : Low B w) (hv : TyVal B w (.agg #[.int .i64 t.k, .int .i64 t.p, .string t.n, .int .i64 t.s, lv, kv]) t) :
    CallsIn Fence.wide n Tryd.prog 16 #[.agg #[.int .i64 t.k, .int .i64 t.p, .string t.n, .int .i64 t.s, lv, kv]] w fun e w' => e = .returned (.int .i64 t.depth) ∧ Below w.heap.size w w' := by
  have h1 : 1 ≤ n := by omega
  refine callsIn_of_wp_marks Tryd.func16 rfl trivial ?_ rfl
  simp only [Tryd.ntmps16, List.size_toArray, List.length_cons, List.length_nil, Nat.reduceAdd, Nat.reduceSub, Array.replicate_succ, Array.replicate_zero, List.push_toArray, List.append_toArray, List.nil_append, List.cons_append]
  gi_wp2_with (refine ⟨trivial, ?_⟩; gi_at_call 50; refine (callsIn_wide.2 (nodes_any _ _)).mono ?_; rintro e w' ⟨rfl, rfl⟩)
  have h6 := (Six.new w (.int .i64 t.k) (.int .i64 t.p) (.string t.n) (.int .i64 t.s) lv kv).to (box2_below _ (.cells #[.int .i64 0] 3) (.cells #[.pointer (some ⟨w.heap.size, 0, none⟩)] 60))
  have hc : (((w.alloc (cell6 t.k t.p t.n t.s lv kv)).alloc (.cells #[.int .i64 0] 3)).alloc (.cells #[.pointer (some ⟨w.heap.size, 0, none⟩)] 60)).heap[w.heap.size + 1]? = some (.cells #[.int .i64 0] 3 (0, 0)) := by
    have h := World.alloc_heap_new (w.alloc (cell6 t.k t.p t.n t.s lv kv)) (.cells #[.int .i64 0] 3)
    rw [World.size_alloc] at h
    exact (Below.heap_alloc _ _ _ (by simp)).trans h
  have hp : (((w.alloc (cell6 t.k t.p t.n t.s lv kv)).alloc (.cells #[.int .i64 0] 3)).alloc (.cells #[.pointer (some ⟨w.heap.size, 0, none⟩)] 60)).cell? ⟨w.heap.size + 1 + 1, 0, none⟩ = some (.pointer (some ⟨w.heap.size, 0, none⟩)) := by
    have h := blk_cell (w := (w.alloc (cell6 t.k t.p t.n t.s lv kv)).alloc (.cells #[.int .i64 0] 3)) (cs := #[.pointer (some ⟨w.heap.size, 0, none⟩)]) (t := 60) (Below.refl _ _) 0 rfl
    simpa using h
  have hbel := box3_below w (cell6 t.k t.p t.n t.s lv kv) (.cells #[.int .i64 0] 3) (.cells #[.pointer (some ⟨w.heap.size, 0, none⟩)] 60)
  have hsz0 : (((w.alloc (cell6 t.k t.p t.n t.s lv kv)).alloc (.cells #[.int .i64 0] 3)).alloc (.cells #[.pointer (some ⟨w.heap.size, 0, none⟩)] 60)).heap.size = w.heap.size + 3 := by simp
  obtain ⟨W0, hW0⟩ : ∃ W0, (((w.alloc (cell6 t.k t.p t.n t.s lv kv)).alloc (.cells #[.int .i64 0] 3)).alloc (.cells #[.pointer (some ⟨w.heap.size, 0, none⟩)] 60)) = W0 := ⟨_, rfl⟩
  rw [hW0] at h6 hc hp hbel hsz0 ⊢
  clear hW0
  have hty := boxed_tyAt (S := fun k => B k ∨ k = w.heap.size) h6 (hv.to hB hbel) (fun _ h => .inl h) (.inr rfl)
  have hX : ∀ k, k = w.heap.size + 1 → ¬ (B k ∨ k = w.heap.size) ∧ k < W0.heap.size := fun k e => ⟨fun h => h.elim (fun h => by have := hB k h; omega) (fun h => by omega), by omega⟩
  have hS : ∀ k, (B k ∨ k = w.heap.size) → k < W0.heap.size := fun k h => h.elim (fun h => by have := hB k h; omega) (fun h => by omega)
  refine wpIn_range_told rfl h1 (gf := 81) (lb := #[.pointer (some ⟨w.heap.size + 1 + 1, 0, none⟩)]) rfl trivial (enters_of Tryd.func81 (by kernel_rfl) rfl)
    (nodes_tells (n - 1) (w.heap.size + 1 + 1) w.heap.size 0 t (fun k => B k ∨ k = w.heap.size) (fun k => k = w.heap.size + 1) W0 hX hS (by omega) hp hty hdep) (fun h g => KV.trans h g) (fun W l o o' _ h ho _ => KV.of_cells (by simp) (cellsKept_put h ho)) (fun x A B h hp => Px.kept h hp) (Below.refl _ _) (fun _ => rfl)
    (fun pre W => (W.heap[w.heap.size + 1]? = some (.cells #[.int .i64 (mdep (pre.map Nd.g) : Nat)] 3 (0, 0)) ∧ mdep (pre.map Nd.g) ≤ 1001) ∧ Below w.heap.size w W) (fun _ _ _ => False)
    (((abides_boxed (by omega) _ _).and (abidesAll_pure _ _)).and (abidesAll_below (by omega) (Nat.le_refl _))) (fun _ _ _ _ _ h _ _ => h) ⟨⟨hc, by simp [mdep]⟩, hbel⟩
    (fun x a' W => ∃ b3, PlaceBox (w.heap.size + 2) x b3 W ∧ a' = { tmps := #[.agg #[.int .i64 t.k, .int .i64 t.p, .string t.n, .int .i64 t.s, lv, kv], .pointer (some ⟨w.heap.size, 0, none⟩), .int .i64 0, .pointer (some ⟨w.heap.size + 1, 0, none⟩), .pointer (some ⟨b3, 0, none⟩),
      .func (.func 81) #[] #[.pointer (some ⟨w.heap.size + 1 + 1, 0, none⟩)], .agg #[x.ar, .int .i64 x.kid], .pointer (some ⟨x.b, x.o, none⟩), undef, undef, undef, undef, undef], defers := [] }) (fun x a' A B hk ⟨b3, hb, e⟩ => ⟨b3, hb.kept hk, e⟩) ?assign ?body ?done ?stop
  case assign =>
    intro l pre x W K hi hp hK
    simp only [ndArgs]
    obtain ⟨pa, ac, har⟩ := hp.ar_eq
    have hz : w.heap.size + 1 < W.heap.size := (Array.getElem?_eq_some_iff.1 hi.1.1).1
    have hi2 := hi
    have HI := Lib.hid hi
    have HP := Lib.hid hp
    clear hi hp
    gi_wp2
    have hck := cellsKept_alloc W (.cells #[.slice pa x.path.length ac, .int .i64 x.kid] 68)
    exact hK _ _ ((KeepsOthers.alloc _ _).from _) (KV.of_cells (by simp) hck) ⟨⟨hck _ _ HI.out.1.1 rfl, HI.out.1.2⟩, below_seq' HI.out.2 (blkBelow W _ _)⟩ (Px.kept hck HP.out) ⟨W.heap.size, ⟨by omega, by rw [har]; exact World.alloc_heap_new W _⟩, by rw [har]⟩
  case body =>
    rintro l pre x a' W hl _ ⟨⟨hb, hmx⟩, hbw⟩ hpx ⟨b3, ⟨hb3, hpb⟩, rfl⟩
    obtain ⟨pa, ac, har⟩ := hpx.ar_eq
    have hpl := hpx.2.2
    have hlt := (Array.getElem?_eq_some_iff.1 hpb).1
    rw [har] at hpb ⊢
    obtain ⟨m, hm⟩ : ∃ m, mdep (pre.map Nd.g) = m := ⟨_, rfl⟩
    rw [hm] at hb hmx
    have c0 : W.cell? ⟨w.heap.size + 1, 0, none⟩ = some (.int .i64 (m : Nat)) := by simp [World.cell?, hb]
    have f0 : W.frozen? ⟨w.heap.size + 1, 0, none⟩ = false := by simp [World.frozen?, hb]
    have d0 : W.cell? ⟨b3, 0, none⟩ = some (.slice pa x.path.length ac) := by simp [World.cell?, hpb]
    have d1 : W.cell? ⟨b3, 1, none⟩ = some (.int .i64 x.kid) := by simp [World.cell?, hpb]
    have hbl : w.heap.size + 1 < W.heap.size := (Array.getElem?_eq_some_iff.1 hb).1
    have HB := Lib.hid hb
    have HM := Lib.hid hm
    clear hb hpx hpb har hm
    have hM2 : mdep ((pre ++ [x]).map Nd.g) = max m (x.path.length + 1) := by
      rw [List.map_append, List.map_cons, List.map_nil, mdep_snoc, HM.out]; rfl
    obtain ⟨M, hMM⟩ : ∃ M, mdep ((pre ++ [x]).map Nd.g) = M := ⟨_, rfl⟩
    have hMle : M ≤ 1001 := by omega
    have hMe : M = max m (x.path.length + 1) := by omega
    have HMM := Lib.hid hMM
    have HMe := Lib.hid hMe
    clear hM2 hMM hMe
    gi_wp2_with fail
    gi_region_with (refine ⟨trivial, ⟨fun h => (by cases h), ?_⟩⟩; refine (CallsIn.inRound l (callsIn_wide.2 (pdepth_any _ _ _ _ hpl _))).mono ?_; rintro e w1 ⟨rfl, rfl⟩)
    all_goals
      have hM : (if (m : Int) < (x.path.length : Int) + 1 then (x.path.length : Int) + 1 else (m : Int)) = (M : Int) := by
        have := HMe.out
        split <;> omega
      rw [hM]
      clear hM
      gi_wp2
      refine ⟨(((KeepsOthers.setCell _ _ _).trans (KeepsOthers.alloc _ _)).trans (KeepsOthers.drew _)).from _, ⟨by simp, fun k o hk hc hx _ => (Below.heap_alloc _ _ k (by have := (Array.getElem?_eq_some_iff.1 hk).1; simp; omega)).trans ((Below.heap_setCell _ _ _ k (fun e => hx e)).trans hk)⟩,
        ⟨?_, by rw [HMM.out]; exact hMle⟩, ((hbw.setCell (p := ⟨w.heap.size + 1, 0, none⟩) (by simp) _).alloc (by simp; omega) _).drew⟩
      rw [HMM.out]
      exact (Below.heap_alloc _ _ _ (by simp; omega)).trans (set_block HB.out 0 _)
  case done =>
    rintro D ys W hD hys ⟨⟨hb, _⟩, hbw⟩ hK
    rw [hys, mdep_preT] at hb
    simp only [List.length_nil, Nat.zero_add] at hb
    have c0 : W.cell? ⟨w.heap.size + 1, 0, none⟩ = some (.int .i64 t.depth) := by simp [World.cell?, hb]
    have HK := Lib.hid hK
    clear hb hys hK
    gi_wp2
    refine ⟨by simp, .inl ⟨_, _, rfl, run_takeDeferred HK.out, ?_⟩⟩
    exact ⟨_, results_tmp rfl _ _ _, rfl, hbw.trans (belowK_b (w := w) (Nat.le_refl _) W D _ _ (by omega) HK.out rfl rfl)⟩
  case stop =>
    rintro D c pre W _ _ h _
    exact h.elim

end Go.Proofs.YtipjjhkgcbabnaaDoor
