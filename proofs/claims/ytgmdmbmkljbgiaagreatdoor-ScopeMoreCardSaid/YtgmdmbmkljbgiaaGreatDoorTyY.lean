/- Types: nodes; Size. -/
import Derived.Test.YtgmdmbmkljbgiaaGreatDoorTyX
namespace Go.Proofs.YtgmdmbmkljbgiaaGreatDoor
open Go.RowKit Go.Deep Go.Shelf
attribute [local go_sem] Oper.semAt_some

theorem ARow.low {D D' : Nat} {S : Nat → Prop} {W : World} {ar : Value} {path : List Ty} (h : ARow D S W ar path) (hd : D' ≤ D) : ARow D' S W ar path := by
  obtain ⟨ads, h1, h2, h3⟩ := h
  refine ⟨ads, h1, ⟨h2.1, ?_⟩, h3⟩
  rcases h2.2 with h0 | ⟨g, cap, cur, rfl, hb, r⟩
  · exact .inl h0
  · exact .inr ⟨g, cap, cur, rfl, Nat.le_trans hd hb, r⟩

set_option maxHeartbeats 1000000 in
theorem nodes_any (a : Option Addr) (w : World) :
    Calls Tryz.prog 94 #[.pointer a] w fun e w' => e = .returned (.func (.func 112) #[] #[.pointer (some ⟨w.heap.size, 0, none⟩)]) ∧ w' = w.alloc (.cells #[.pointer a] 115) := by
  go_enter Tryz.func94, Tryz.ntmps94
  go_wp2
  go_ret
  exact ⟨rfl, rfl⟩

set_option maxRecDepth 100000 in
set_option maxHeartbeats 1000000 in
/-- The iterator that nodes returns tells each node, its place and the nodes around it. -/
theorem nodes_tells (n : Nat) (Bt b o : Nat) (t : Ty) (S X : Nat → Prop) (w : World) (hX : ∀ k, X k → ¬ S k ∧ k < w.heap.size) (hS : ∀ k, S k → k < w.heap.size) (hBt : Bt < w.heap.size) (hc : w.cell? ⟨Bt, 0, none⟩ = some (.pointer (some ⟨b, o, none⟩))) (hty : TyAt S w t b o) (hdep : t.depth ≤ 1000) :
    Tells Fence.wide n Tryz.prog 112 #[.pointer (some ⟨Bt, 0, none⟩)] ndArgs (Px w.heap.size S) (Kp X) (fun ys => ys.map Nd.g = preT [] 0 t) (fun pre => pre.map Nd.g <+: preT [] 0 t) w := by
  intro l J Jx W hW hJ _ hY h0
  have hp := visit_in Fence.wide rfl (fun _ => trivial) rfl l W.heap.size S X (fun k hk => ⟨(hX k hk).1, Nat.lt_of_lt_of_le (hX k hk).2 hW.size⟩) (fun k hk => Nat.lt_of_lt_of_le (hS k hk) hW.size) J Jx hJ
    (fun m pre x W1 hj hpx _ => yield_any rfl m (hY pre x W1 hj ⟨hpx.1.low hW.size, hpx.2⟩)) t (n - 1) [] 0 none 0 0 b o [] W (Nat.le_refl _) h0 (hty.keep (hW.keeps'.mono hS)) ⟨[], rfl, World.ownsRow_nil _ _ _ _, fun i a u ha _ => by simp at ha⟩ (by simpa using hdep)
  have hc' := (hW.cell (p := ⟨Bt, 0, none⟩) hBt).trans hc
  have HP := Lib.hid hp
  clear hp hY h0 hJ
  refine callsIn_of_wp Tryz.func112 rfl trivial ?_ rfl
  simp only [Tryz.ntmps112, List.size_toArray, List.length_cons, List.length_nil, Nat.reduceAdd, Nat.reduceSub, Array.replicate_succ, Array.replicate_zero, List.push_toArray, List.append_toArray, List.nil_append, List.cons_append]
  gi_wp2_with fail
  refine ⟨trivial, ⟨fun h => (by cases h), ?_⟩⟩
  refine HP.out.mono ?_
  rintro e W1 (⟨rfl, ⟨ys, h1, h2⟩, _, _⟩ | ⟨rfl, ys, h1, h2⟩)
  · have H1 := Lib.hid h1
    have H2 := Lib.hid h2
    clear h1 h2
    gi_wp2
    go_end0
    exact ⟨⟨_, rfl⟩, .inl ⟨ys, H1.out, by simpa using H2.out⟩⟩
  · have H1 := Lib.hid h1
    have H2 := Lib.hid h2
    clear h1 h2
    gi_wp2
    go_end0
    exact ⟨⟨_, rfl⟩, .inr ⟨ys, H1.out, by simpa using H2.out⟩⟩

/-- How many nodes: as all of them. -/
theorem preT_length : ∀ (t : Ty) (path : List Ty) (kid : Int), (preT path kid t).length = t.size := by
  refine Ty.ind ?_
  intro k p n s ls ts ih path kid
  rw [preT_eq, Ty.size_eq, List.length_cons]
  have h : ∀ (l : List Ty) (path : List Ty) (kid : Int), (∀ t ∈ l, ∀ (path : List Ty) (kid : Int), (preT path kid t).length = t.size) → (preTs path kid l).length = Ty.sizes l := by
    intro l
    induction l with
    | nil => intro _ _ _; simp [preTs, Ty.sizes]
    | cons u r ihl =>
      intro path kid hh
      rw [preTs, List.length_append, Ty.sizes, hh u (by simp), ihl path (kid + 1) (fun t ht => hh t (by simp [ht]))]
  show (preTs (path ++ [Ty.mk k p n s ls ts]) 0 ts).length + 1 = Ty.sizes ts + 1
  rw [h _ _ _ ih]

theorem w64_id (n : Int) (h1 : -9223372036854775808 ≤ n) (h2 : n ≤ 9223372036854775807) : wrap64 n = n := by unfold wrap64; omega
theorem w64_succ (x : Nd) (pre : List Nd) : wrap64 (wrap64 ((pre.length : Nat) : Int) + 1) = wrap64 (((pre ++ [x]).length : Nat) : Int) := by
  rw [List.length_append]; simp only [List.length_cons, List.length_nil]; unfold wrap64; omega
theorem abides_boxed {β : Type} {D b : Nat} (hb : b < D) (t : TypeId) (f : β → Value) : AbidesAll D (fun s W => W.heap[b]? = some (.cells #[f s] t (0, 0))) :=
  fun _ _ _ _ hs hg hr => (hg.block b (Array.getElem?_eq_some_iff.1 hs).1 (fun e => by have := hr b e.symm; omega)).trans hs

/-- Node and pointer: a box that holds a type is a place of the type. -/
theorem boxed_tyAt {B : Nat → Prop} {S : Nat → Prop} {W : World} {b : Nat} {t : Ty} {lv kv : Value} (h6 : Six W b (.int .i64 t.k) (.int .i64 t.p) (.string t.n) (.int .i64 t.s) lv kv) (hv : TyVal B W (.agg #[.int .i64 t.k, .int .i64 t.p, .string t.n, .int .i64 t.s, lv, kv]) t) (hB : ∀ k, B k → S k) (hb : S b) : TyAt S W t b 0 := by
  obtain ⟨⟨c0, c1, c2, c3, c4, c5⟩, _⟩ := h6.cells
  exact tyAt_of hb c0 c1 c2 c3 c4 c5 (hv.mono hB)

set_option maxRecDepth 100000 in
set_option maxHeartbeats 2000000 in
theorem tsize_in (n : Nat) (hn : 3 ≤ n) (B : Nat → Prop) (t : Ty) (hsz : t.size ≤ 1000000) (hdep : t.depth ≤ 1000) (lv kv : Value) (w : World) (hB : Low B w) (hv : TyVal B w (.agg #[.int .i64 t.k, .int .i64 t.p, .string t.n, .int .i64 t.s, lv, kv]) t) :
    CallsIn Fence.wide n Tryz.prog 73 #[.agg #[.int .i64 t.k, .int .i64 t.p, .string t.n, .int .i64 t.s, lv, kv]] w fun e w' => e = .returned (.int .i64 t.size) ∧ Below w.heap.size w w' := by
  have h1 : 1 ≤ n := by omega
  refine callsIn_of_wp_marks Tryz.func73 rfl trivial ?_ rfl
  simp only [Tryz.ntmps73, List.size_toArray, List.length_cons, List.length_nil, Nat.reduceAdd, Nat.reduceSub, Array.replicate_succ, Array.replicate_zero, List.push_toArray, List.append_toArray, List.nil_append, List.cons_append]
  gi_wp2_with (refine ⟨trivial, ?_⟩; gi_at_call 94; refine (callsIn_wide.2 (nodes_any _ _)).mono ?_; rintro e w' ⟨rfl, rfl⟩)
  have h6 := (Six.new w (.int .i64 t.k) (.int .i64 t.p) (.string t.n) (.int .i64 t.s) lv kv).to (box2_below _ (.cells #[.int .i64 0] 3) (.cells #[.pointer (some ⟨w.heap.size, 0, none⟩)] 115))
  have hc : (((w.alloc (cell6 t.k t.p t.n t.s lv kv)).alloc (.cells #[.int .i64 0] 3)).alloc (.cells #[.pointer (some ⟨w.heap.size, 0, none⟩)] 115)).heap[w.heap.size + 1]? = some (.cells #[.int .i64 0] 3 (0, 0)) := by
    have h := World.alloc_heap_new (w.alloc (cell6 t.k t.p t.n t.s lv kv)) (.cells #[.int .i64 0] 3)
    rw [World.size_alloc] at h
    exact (Below.heap_alloc _ _ _ (by simp)).trans h
  have hp : (((w.alloc (cell6 t.k t.p t.n t.s lv kv)).alloc (.cells #[.int .i64 0] 3)).alloc (.cells #[.pointer (some ⟨w.heap.size, 0, none⟩)] 115)).cell? ⟨w.heap.size + 1 + 1, 0, none⟩ = some (.pointer (some ⟨w.heap.size, 0, none⟩)) := by
    have h := blk_cell (w := (w.alloc (cell6 t.k t.p t.n t.s lv kv)).alloc (.cells #[.int .i64 0] 3)) (cs := #[.pointer (some ⟨w.heap.size, 0, none⟩)]) (t := 115) (Below.refl _ _) 0 rfl
    simpa using h
  have hbel := box3_below w (cell6 t.k t.p t.n t.s lv kv) (.cells #[.int .i64 0] 3) (.cells #[.pointer (some ⟨w.heap.size, 0, none⟩)] 115)
  have hsz0 : (((w.alloc (cell6 t.k t.p t.n t.s lv kv)).alloc (.cells #[.int .i64 0] 3)).alloc (.cells #[.pointer (some ⟨w.heap.size, 0, none⟩)] 115)).heap.size = w.heap.size + 3 := by simp
  obtain ⟨W0, hW0⟩ : ∃ W0, (((w.alloc (cell6 t.k t.p t.n t.s lv kv)).alloc (.cells #[.int .i64 0] 3)).alloc (.cells #[.pointer (some ⟨w.heap.size, 0, none⟩)] 115)) = W0 := ⟨_, rfl⟩
  rw [hW0] at h6 hc hp hbel hsz0 ⊢
  clear hW0
  have hty := boxed_tyAt (S := fun k => B k ∨ k = w.heap.size) h6 (hv.to hB hbel) (fun _ h => .inl h) (.inr rfl)
  have hX : ∀ k, k = w.heap.size + 1 → ¬ (B k ∨ k = w.heap.size) ∧ k < W0.heap.size := fun k e => ⟨fun h => h.elim (fun h => by have := hB k h; omega) (fun h => by omega), by omega⟩
  have hS : ∀ k, (B k ∨ k = w.heap.size) → k < W0.heap.size := fun k h => h.elim (fun h => by have := hB k h; omega) (fun h => by omega)
  refine wpIn_range_told rfl h1 (gf := 112) (lb := #[.pointer (some ⟨w.heap.size + 1 + 1, 0, none⟩)]) rfl trivial (enters_of Tryz.func112 (by kernel_rfl) rfl)
    (nodes_tells (n - 1) (w.heap.size + 1 + 1) w.heap.size 0 t (fun k => B k ∨ k = w.heap.size) (fun k => k = w.heap.size + 1) W0 hX hS (by omega) hp hty hdep) (fun h g => KV.trans h g) (fun W l o o' _ h ho _ => KV.of_cells (by simp) (cellsKept_put h ho)) (fun x A B h hp => Px.kept h hp) (Below.refl _ _) (fun _ => rfl)
    (fun pre W => W.heap[w.heap.size + 1]? = some (.cells #[.int .i64 (wrap64 pre.length)] 3 (0, 0)) ∧ Below w.heap.size w W) (fun _ _ _ => False)
    ((abides_boxed (by omega) _ _).and (abidesAll_below (by omega) (Nat.le_refl _))) (fun _ _ _ _ _ h _ _ => h) ⟨by rw [show wrap64 ((([] : List Nd).length : Nat) : Int) = 0 from w64_id _ (by simp) (by simp)]; exact hc, hbel⟩
    (fun x a' _ => a' = { tmps := #[.agg #[.int .i64 t.k, .int .i64 t.p, .string t.n, .int .i64 t.s, lv, kv], .pointer (some ⟨w.heap.size, 0, none⟩), .int .i64 0, .pointer (some ⟨w.heap.size + 1, 0, none⟩),
      .func (.func 112) #[] #[.pointer (some ⟨w.heap.size + 1 + 1, 0, none⟩)], .agg #[x.ar, .int .i64 x.kid], .pointer (some ⟨x.b, x.o, none⟩), undef, undef, undef], defers := [] }) (fun _ _ _ _ _ h => h) ?assign ?body ?done ?stop
  case assign =>
    intro l pre x W K hi hp hK
    simp only [ndArgs]
    gi_wp2
    exact hK _ _ (KeepsFrom.refl _ _) (KV.refl _ _ _) hi hp (by simp)
  case body =>
    rintro l pre x a' W hl _ ⟨hb, hbw⟩ hpx rfl
    have c0 : W.cell? ⟨w.heap.size + 1, 0, none⟩ = some (.int .i64 (wrap64 pre.length)) := by simp [World.cell?, hb]
    have f0 : W.frozen? ⟨w.heap.size + 1, 0, none⟩ = false := by simp [World.frozen?, hb]
    have HB := Lib.hid hb
    clear hb hpx
    gi_wp2
    refine ⟨(KeepsOthers.setCell _ _ _).from _, ?_, ?_, hbw.setCell (p := ⟨w.heap.size + 1, 0, none⟩) (by simp) _⟩
    · exact ⟨by simp, fun k o hk hc hx _ => (Below.heap_setCell _ _ _ k (fun e => hx e)).trans hk⟩
    · rw [w64_succ x pre]
      exact set_block HB.out 0 _
  case done =>
    rintro D ys W hD hys ⟨hb, hbw⟩ hK
    have hlen : ys.length = t.size := by
      have := congrArg List.length hys
      rwa [List.length_map, preT_length] at this
    rw [hlen, w64_id _ (by omega) (by omega)] at hb
    have c0 : W.cell? ⟨w.heap.size + 1, 0, none⟩ = some (.int .i64 t.size) := by simp [World.cell?, hb]
    have HK := Lib.hid hK
    clear hb hys hlen hK
    gi_wp2
    refine ⟨by simp, .inl ⟨_, _, rfl, run_takeDeferred HK.out, ?_⟩⟩
    exact ⟨_, results_tmp rfl _ _ _, rfl, hbw.trans (belowK_b (w := w) (Nat.le_refl _) W D _ _ (by omega) HK.out rfl rfl)⟩
  case stop =>
    rintro D c pre W _ _ h _
    exact h.elim

theorem tsize_any (B : Nat → Prop) (t : Ty) (hsz : t.size ≤ 1000000) (hdep : t.depth ≤ 1000) (v : Value) (w : World) (hB : Low B w) (hv : TyVal B w v t) :
    Calls Tryz.prog 73 #[v] w fun e w' => e = .returned (.int .i64 t.size) ∧ Below w.heap.size w w' := by
  have hv' := hv
  obtain ⟨lv, kv, rfl, _⟩ := hv'
  exact callsIn_wide.1 (tsize_in 3 (by omega) B t hsz hdep lv kv w hB hv)

end Go.Proofs.YtgmdmbmkljbgiaaGreatDoor
