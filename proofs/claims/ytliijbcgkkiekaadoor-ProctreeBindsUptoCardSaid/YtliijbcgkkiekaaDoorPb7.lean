/- Types: tooLarge. (and what follows from it) -/
import Derived.Test.YtliijbcgkkiekaaDoorPb6

/- Types: tooLarge. -/
namespace Go.Proofs.YtliijbcgkkiekaaDoor
open Go.RowKit Go.Deep Go.Shelf
attribute [local go_sem] Oper.semAt_some

theorem tdepth_any (B : Nat → Prop) (t : Ty) (hdep : t.depth ≤ 1000) (v : Value) (w : World) (hB : Low B w) (hv : TyVal B w v t) :
    Calls Tryd.prog 16 #[v] w fun e w' => e = .returned (.int .i64 t.depth) ∧ Below w.heap.size w w' := by
  have hv' := hv
  obtain ⟨lv, kv, rfl, _⟩ := hv'
  exact callsIn_wide.1 (tdepth_in 3 (by omega) B t hdep lv kv w hB hv)

/-- Is a type too large? -/
def Ty.large (t : Ty) : Bool := decide (10000 < t.size ∨ 100 < t.depth)

theorem mdep_le_of_prefix {l r : List (List Ty × Int × Ty)} (h : l <+: r) : mdep l ≤ mdep r := by
  obtain ⟨s, rfl⟩ := h
  rw [mdep_append]; omega

set_option maxRecDepth 100000 in
set_option maxHeartbeats 2000000 in
theorem tooLarge_in (n : Nat) (hn : 3 ≤ n) (S : Nat → Prop) (t : Ty) (hdep : t.depth ≤ 1000) (bt o : Nat) (w : World) (hS : Low S w) (hty : TyAt S w t bt o) :
    CallsIn Fence.wide n Tryd.prog 48 #[.pointer (some ⟨bt, o, none⟩)] w fun e w' => e = .returned (.bool t.large) ∧ Below w.heap.size w w' := by
  have h1 : 1 ≤ n := by omega
  refine callsIn_of_wp_marks Tryd.func48 rfl trivial ?_ rfl
  simp only [Tryd.ntmps48, List.size_toArray, List.length_cons, List.length_nil, Nat.reduceAdd, Nat.reduceSub, Array.replicate_succ, Array.replicate_zero, List.push_toArray, List.append_toArray, List.nil_append, List.cons_append]
  gi_wp2_with (refine ⟨trivial, ?_⟩; gi_at_call 50; refine (callsIn_wide.2 (nodes_any _ _)).mono ?_; rintro e w' ⟨rfl, rfl⟩)
  have hr : (((w.alloc (.cells #[.bool false] 4)).alloc (.cells #[.int .i64 0] 3)).alloc (.cells #[.pointer (some ⟨bt, o, none⟩)] 60)).heap[w.heap.size]? = some (.cells #[.bool false] 4 (0, 0)) :=
    (Below.heap_alloc _ _ _ (by simp; omega)).trans ((Below.heap_alloc _ _ _ (by simp)).trans (World.alloc_heap_new w _))
  have hc : (((w.alloc (.cells #[.bool false] 4)).alloc (.cells #[.int .i64 0] 3)).alloc (.cells #[.pointer (some ⟨bt, o, none⟩)] 60)).heap[w.heap.size + 1]? = some (.cells #[.int .i64 0] 3 (0, 0)) := by
    have h := World.alloc_heap_new (w.alloc (.cells #[.bool false] 4)) (.cells #[.int .i64 0] 3)
    rw [World.size_alloc] at h
    exact (Below.heap_alloc _ _ _ (by simp)).trans h
  have hp : (((w.alloc (.cells #[.bool false] 4)).alloc (.cells #[.int .i64 0] 3)).alloc (.cells #[.pointer (some ⟨bt, o, none⟩)] 60)).cell? ⟨w.heap.size + 1 + 1, 0, none⟩ = some (.pointer (some ⟨bt, o, none⟩)) := by
    have h := blk_cell (w := (w.alloc (.cells #[.bool false] 4)).alloc (.cells #[.int .i64 0] 3)) (cs := #[.pointer (some ⟨bt, o, none⟩)]) (t := 60) (Below.refl _ _) 0 rfl
    simpa using h
  have hbel := box3_below w (.cells #[.bool false] 4) (.cells #[.int .i64 0] 3) (.cells #[.pointer (some ⟨bt, o, none⟩)] 60)
  have hsz0 : (((w.alloc (.cells #[.bool false] 4)).alloc (.cells #[.int .i64 0] 3)).alloc (.cells #[.pointer (some ⟨bt, o, none⟩)] 60)).heap.size = w.heap.size + 3 := by simp
  obtain ⟨W0, hW0⟩ : ∃ W0, (((w.alloc (.cells #[.bool false] 4)).alloc (.cells #[.int .i64 0] 3)).alloc (.cells #[.pointer (some ⟨bt, o, none⟩)] 60)) = W0 := ⟨_, rfl⟩
  rw [hW0] at hr hc hp hbel hsz0 ⊢
  clear hW0
  have hX : ∀ k, k = w.heap.size + 1 → ¬ S k ∧ k < W0.heap.size := fun k e => ⟨fun h => by have := hS k h; omega, by omega⟩
  have hS0 : ∀ k, S k → k < W0.heap.size := fun k h => by have := hS k h; omega
  refine wpIn_range_told rfl h1 (gf := 81) (lb := #[.pointer (some ⟨w.heap.size + 1 + 1, 0, none⟩)]) rfl trivial (enters_of Tryd.func81 (by kernel_rfl) rfl)
    (nodes_tells (n - 1) (w.heap.size + 1 + 1) bt o t S (fun k => k = w.heap.size + 1) W0 hX hS0 (by omega) hp (hty.keep (hbel.keeps'.mono hS)) hdep) (fun h g => KV.trans h g) (fun W l o o' _ h ho _ => KV.of_cells (by simp) (cellsKept_put h ho)) (fun x A B h hp => Px.kept h hp) (Below.refl _ _) (fun _ => rfl)
    (fun pre W => ((W.heap[w.heap.size + 1]? = some (.cells #[.int .i64 (pre.length : Nat)] 3 (0, 0)) ∧ W.heap[w.heap.size]? = some (.cells #[.bool false] 4 (0, 0))) ∧ (pre.length ≤ 10000 ∧ mdep (pre.map Nd.g) ≤ 100)) ∧ Below w.heap.size w W)
    (fun c pre W => ((c = .ret ∧ (10000 < pre.length ∨ 100 < mdep (pre.map Nd.g))) ∧ W.heap[w.heap.size]? = some (.cells #[.bool true] 4 (0, 0))) ∧ Below w.heap.size w W)
    ((((abides_boxed (by omega) _ _).and (abides_boxed (by omega) _ (fun _ => .bool false))).and (abidesAll_pure _ _)).and (abidesAll_below (by omega) (Nat.le_refl _)))
    (fun c => (((abidesAll_pure _ _).and (abides_boxed (by omega) _ (fun _ => .bool true))).and (abidesAll_below (by omega) (Nat.le_refl _)))) ⟨⟨⟨hc, hr⟩, by simp, by simp [mdep]⟩, hbel⟩
    (fun x a' W => ∃ b3, PlaceBox (w.heap.size + 2) x b3 W ∧ a' = { tmps := #[.pointer (some ⟨bt, o, none⟩), undef, .pointer (some ⟨w.heap.size, 0, none⟩), .pointer (some ⟨w.heap.size + 1, 0, none⟩), .pointer (some ⟨b3, 0, none⟩), .pointer (some ⟨bt, o, none⟩),
      .func (.func 81) #[] #[.pointer (some ⟨w.heap.size + 1 + 1, 0, none⟩)], .agg #[x.ar, .int .i64 x.kid], .pointer (some ⟨x.b, x.o, none⟩), undef, undef, undef, undef, undef, undef, undef, undef, undef], defers := [] }) (fun x a' A B hk ⟨b3, hb, e⟩ => ⟨b3, hb.kept hk, e⟩) ?assign ?body ?done ?stop
  case assign =>
    intro l pre x W K hi hp hK
    simp only [ndArgs]
    obtain ⟨pa, ac, har⟩ := hp.ar_eq
    have hz : w.heap.size + 1 < W.heap.size := (Array.getElem?_eq_some_iff.1 hi.1.1.1).1
    have HI := Lib.hid hi
    have HP := Lib.hid hp
    clear hi hp
    gi_wp2
    have hck := cellsKept_alloc W (.cells #[.slice pa x.path.length ac, .int .i64 x.kid] 68)
    exact hK _ _ ((KeepsOthers.alloc _ _).from _) (KV.of_cells (by simp) hck) ⟨⟨⟨hck _ _ HI.out.1.1.1 rfl, hck _ _ HI.out.1.1.2 rfl⟩, HI.out.1.2⟩, below_seq' HI.out.2 (blkBelow W _ _)⟩ (Px.kept hck HP.out) ⟨W.heap.size, ⟨by omega, by rw [har]; exact World.alloc_heap_new W _⟩, by rw [har]⟩
  case body =>
    rintro l pre x a' W hl _ ⟨⟨⟨hb, hr⟩, hm1, hm2⟩, hbw⟩ hpx ⟨b3, ⟨hb3, hpb⟩, rfl⟩
    obtain ⟨pa, ac, har⟩ := hpx.ar_eq
    have hpl := hpx.2.2
    have hlt := (Array.getElem?_eq_some_iff.1 hpb).1
    rw [har] at hpb ⊢
    obtain ⟨m, hm⟩ : ∃ m, pre.length = m := ⟨_, rfl⟩
    rw [hm] at hb hm1
    have c0 : W.cell? ⟨w.heap.size + 1, 0, none⟩ = some (.int .i64 (m : Nat)) := by simp [World.cell?, hb]
    have f0 : W.frozen? ⟨w.heap.size + 1, 0, none⟩ = false := by simp [World.frozen?, hb]
    have r0 : W.cell? ⟨w.heap.size, 0, none⟩ = some (.bool false) := by simp [World.cell?, hr]
    have r1 : W.frozen? ⟨w.heap.size, 0, none⟩ = false := by simp [World.frozen?, hr]
    have d0 : W.cell? ⟨b3, 0, none⟩ = some (.slice pa x.path.length ac) := by simp [World.cell?, hpb]
    have d1 : W.cell? ⟨b3, 1, none⟩ = some (.int .i64 x.kid) := by simp [World.cell?, hpb]
    have hbl : w.heap.size + 1 < W.heap.size := (Array.getElem?_eq_some_iff.1 hb).1
    have hM2 : Hid (mdep ((pre ++ [x]).map Nd.g) = max (mdep (pre.map Nd.g)) (x.path.length + 1)) := Lib.hid (by
      rw [List.map_append, List.map_cons, List.map_nil, mdep_snoc]; rfl)
    have hl1 : Hid ((pre ++ [x]).length = m + 1) := Lib.hid (by simp [hm])
    have HB := Lib.hid hb
    have HR := Lib.hid hr
    clear hb hr hpx hpb har hm
    by_cases hq : m + 1 ≤ 10000
    · have hq1 : decide ((10000 : Int) < (m : Int) + 1) = false := by simp; omega
      by_cases hd : x.path.length + 1 ≤ 100
      · have hd1 : decide ((100 : Int) < (x.path.length : Int) + 1) = false := by simp; omega
        gi_wp2_with (refine ⟨trivial, ⟨fun h => (by cases h), ?_⟩⟩; refine (CallsIn.inRound l (callsIn_wide.2 (pdepth_any _ _ _ _ hpl _))).mono ?_; rintro e w1 ⟨rfl, rfl⟩)
        refine ⟨((KeepsOthers.setCell _ _ _).trans (KeepsOthers.alloc _ _)).from _, ⟨by simp, fun k o hk hc hx _ => (Below.heap_alloc _ _ k (by have := (Array.getElem?_eq_some_iff.1 hk).1; simp; omega)).trans ((Below.heap_setCell _ _ _ k (fun e => hx e)).trans hk)⟩,
          ⟨⟨?_, ?_⟩, by rw [hl1.out]; exact hq, by rw [hM2.out]; omega⟩, (hbw.setCell (p := ⟨w.heap.size + 1, 0, none⟩) (by simp) _).alloc (by simp; omega) _⟩
        · rw [hl1.out]
          exact (Below.heap_alloc _ _ _ (by simp; omega)).trans (set_block HB.out 0 _)
        · exact (Below.heap_alloc _ _ _ (by simp; omega)).trans ((Below.heap_setCell _ _ _ _ (by simp)).trans HR.out)
      · have hd1 : decide ((100 : Int) < (x.path.length : Int) + 1) = true := by simp; omega
        have hd2 : (100 : Int) < (x.path.length : Int) + 1 := by omega
        have k2 : ((W.setCell ⟨w.heap.size + 1, 0, none⟩ (.int .i64 ((m : Int) + 1))).alloc (.cells #[.slice pa x.path.length ac, .int .i64 x.kid] 68)).heap[w.heap.size]? = some (.cells #[.bool false] 4 (0, 0)) :=
          (Below.heap_alloc _ _ _ (by simp; omega)).trans ((Below.heap_setCell _ _ _ _ (by simp)).trans HR.out)
        have q0 : ((W.setCell ⟨w.heap.size + 1, 0, none⟩ (.int .i64 ((m : Int) + 1))).alloc (.cells #[.slice pa x.path.length ac, .int .i64 x.kid] 68)).cell? ⟨w.heap.size, 0, none⟩ = some (.bool false) := by simp [World.cell?, k2]
        have q1 : ((W.setCell ⟨w.heap.size + 1, 0, none⟩ (.int .i64 ((m : Int) + 1))).alloc (.cells #[.slice pa x.path.length ac, .int .i64 x.kid] 68)).frozen? ⟨w.heap.size, 0, none⟩ = false := by simp [World.frozen?, k2]
        have K2 := Lib.hid k2
        clear k2
        gi_wp2_with (refine ⟨trivial, ⟨fun h => (by cases h), ?_⟩⟩; refine (CallsIn.inRound l (callsIn_wide.2 (pdepth_any _ _ _ _ hpl _))).mono ?_; rintro e w1 ⟨rfl, rfl⟩)
        refine ⟨(((KeepsOthers.setCell _ _ _).trans (KeepsOthers.alloc _ _)).trans (KeepsOthers.setCell _ _ _)).from _, ⟨⟨rfl, .inr (by rw [hM2.out]; omega)⟩, ?_⟩, ((hbw.setCell (p := ⟨w.heap.size + 1, 0, none⟩) (by simp) _).alloc (by simp; omega) _).setCell (p := ⟨w.heap.size, 0, none⟩) (by simp) _⟩
        exact set_block K2.out 0 _
    · have hq1 : decide ((10000 : Int) < (m : Int) + 1) = true := by simp; omega
      have hq2 : (10000 : Int) < (m : Int) + 1 := by omega
      gi_wp2_with fail
      refine ⟨trivial, ?_⟩
      gi_wp2_with fail
      refine ⟨((KeepsOthers.setCell _ _ _).trans (KeepsOthers.setCell _ _ _)).from _, ⟨⟨rfl, .inl (by rw [hl1.out]; omega)⟩, ?_⟩, (hbw.setCell (p := ⟨w.heap.size + 1, 0, none⟩) (by simp) _).setCell (p := ⟨w.heap.size, 0, none⟩) (by simp) _⟩
      exact set_block ((Below.heap_setCell _ _ _ _ (by simp)).trans HR.out) 0 _
  case done =>
    rintro D ys W hD hys ⟨⟨⟨hb, hr⟩, hm1, hm2⟩, hbw⟩ hK
    have hlen : ys.length = t.size := by
      have := congrArg List.length hys
      rwa [List.length_map, preT_length] at this
    have hdp : mdep (ys.map Nd.g) = t.depth := by rw [hys, mdep_preT]; simp
    have hlg : t.large = false := by simp [Ty.large]; omega
    have r0 : W.cell? ⟨w.heap.size, 0, none⟩ = some (.bool false) := by simp [World.cell?, hr]
    have r1 : W.frozen? ⟨w.heap.size, 0, none⟩ = false := by simp [World.frozen?, hr]
    have hltD : w.heap.size < D := by omega
    have HK := Lib.hid hK
    have HR := Lib.hid hr
    have HLG := Lib.hid hlg
    clear hb hys hK hlen hdp hlg hr
    gi_wp2
    have k3 : (W.setCell ⟨w.heap.size, 0, none⟩ (.bool false)).heap[D]? = some (.deferred (some [])) := (Below.heap_setCell _ _ _ D (by simp; omega)).trans HK.out
    refine ⟨by simp, .inl ⟨_, _, rfl, run_takeDeferred k3, ?_⟩⟩
    have k1 : ((W.setCell ⟨w.heap.size, 0, none⟩ (.bool false)).putObj D (.deferred none)).heap[w.heap.size]? = some (.cells #[.bool false] 4 (0, 0)) := (World.putObj_heap_other (by omega)).trans (set_block HR.out 0 _)
    have c1 : ((W.setCell ⟨w.heap.size, 0, none⟩ (.bool false)).putObj D (.deferred none)).cell? ⟨w.heap.size, 0, none⟩ = some (.bool false) := by simp [World.cell?, k1]
    have k7 := (hbw.setCell (p := ⟨w.heap.size, 0, none⟩) (by simp) (.bool false)).trans (belowK_b (w := w) (Nat.le_refl _) _ D _ (.deferred none) (by omega) k3 rfl rfl)
    generalize (W.setCell ⟨w.heap.size, 0, none⟩ (.bool false)).putObj D (.deferred none) = W4 at *
    exact ⟨.bool false, by simp [results, Tryd.results48, go_sem, c1], by rw [HLG.out], k7⟩
  case stop =>
    rintro D c pre W hD hpre ⟨⟨⟨rfl, hbig⟩, hr⟩, hbw⟩ hK
    have hlg : t.large = true := by
      have h1 := hpre.length_le
      rw [List.length_map, preT_length] at h1
      have h2 := mdep_le_of_prefix hpre
      rw [mdep_preT, List.length_nil] at h2
      simp [Ty.large]; omega
    have HLG := Lib.hid hlg
    clear hpre hlg
    gi_wp2
    refine ⟨by simp, .inl ⟨_, _, rfl, run_takeDeferred hK, ?_⟩⟩
    have k1 : (W.putObj D (.deferred none)).heap[w.heap.size]? = some (.cells #[.bool true] 4 (0, 0)) := (World.putObj_heap_other (by omega)).trans hr
    have c1 : (W.putObj D (.deferred none)).cell? ⟨w.heap.size, 0, none⟩ = some (.bool true) := by simp [World.cell?, k1]
    have k7 := hbw.trans (belowK_b (w := w) (Nat.le_refl _) W D _ (.deferred none) (by omega) hK rfl rfl)
    generalize W.putObj D (.deferred none) = W4 at *
    exact ⟨.bool true, by simp [results, Tryd.results48, go_sem, c1], by rw [HLG.out], k7⟩

theorem tooLarge_any (S : Nat → Prop) (t : Ty) (hdep : t.depth ≤ 1000) (bt o : Nat) (w : World) (hS : Low S w) (hty : TyAt S w t bt o) :
    Calls Tryd.prog 48 #[.pointer (some ⟨bt, o, none⟩)] w fun e w' => e = .returned (.bool t.large) ∧ Below w.heap.size w w' :=
  callsIn_wide.1 (tooLarge_in 3 (by omega) S t hdep bt o w hS hty)

end Go.Proofs.YtliijbcgkkiekaaDoor

/- Processes: Size, Depth, tooLarge. -/
namespace Go.Proofs.YtliijbcgkkiekaaDoor
open Go.RowKit Go.Deep Go.Shelf
attribute [local go_sem] Oper.semAt_some

abbrev cell12 (p : Pr) (lv av tl tk kv : Value) : Obj := .cells #[.int .i64 p.k, .string p.c, .string p.x, lv, av, .int .i64 p.t.k, .int .i64 p.t.p, .string p.t.n, .int .i64 p.t.s, tl, tk, kv] 36
/-- A process in a box of its own. -/
theorem boxed_prAt {B S : Nat → Prop} {w W : World} {p : Pr} {lv av tl tk kv : Value} (hB : Low B w) (hv : PrVal B w (prAgg p lv av tl tk kv) p) (hb : Below (w.heap.size + 1) (w.alloc (cell12 p lv av tl tk kv)) W) (hBS : ∀ k, B k → S k) (hS : S w.heap.size) : PrAt S W p w.heap.size 0 := by
  have hc : ∀ (j : Nat) (v : Value), #[.int .i64 p.k, .string p.c, .string p.x, lv, av, .int .i64 p.t.k, .int .i64 p.t.p, .string p.t.n, .int .i64 p.t.s, tl, tk, kv][j]? = some v → W.cell? ⟨w.heap.size, j, none⟩ = some v := fun j v hj => blk_cell hb j hj
  refine prAt_of hS (hc 0 _ rfl) (hc 1 _ rfl) (hc 2 _ rfl) (hc 3 _ rfl) (hc 4 _ rfl) (hc 5 _ rfl) (hc 6 _ rfl) (hc 7 _ rfl) (hc 8 _ rfl) (hc 9 _ rfl) (hc 10 _ rfl) (hc 11 _ rfl) ?_
  exact (hv.to hB (blk_below hb)).mono hBS

theorem preP_length : ∀ (p : Pr) (d : Nat), (preP d p).length = p.size := by
  refine Pr.ind ?_
  intro k c x ls vs t ps ih d
  have h : ∀ (l : List Pr) (d : Nat), (∀ p ∈ l, ∀ d, (preP d p).length = p.size) → (prePs d l).length = Pr.sizes l := by
    intro l
    induction l with
    | nil => intro _ _; simp [prePs, Pr.sizes]
    | cons u r ihl =>
      intro d hh
      rw [prePs, List.length_append, Pr.sizes, hh u (by simp), ihl d (fun t ht => hh t (by simp [ht]))]
  rw [preP_eq, Pr.size_eq, List.length_cons]
  show (prePs (d + 1) ps).length + 1 = Pr.sizes ps + 1
  rw [h _ _ ih]
/-- The greatest depth of the nodes that have come. -/
def mdP (l : List (Nat × Pr)) : Nat := l.foldl (fun m x => max m x.1) 0
theorem mdP_snoc (l : List (Nat × Pr)) (x : Nat × Pr) : mdP (l ++ [x]) = max (mdP l) x.1 := by simp [mdP]
theorem foldl_maxP (l : List (Nat × Pr)) : ∀ m : Nat, l.foldl (fun m x => max m x.1) m = max m (mdP l) := by
  induction l with
  | nil => intro m; simp [mdP]
  | cons x l ih => intro m; simp only [mdP, List.foldl_cons]; rw [ih, ih (max 0 _)]; omega
theorem mdP_append (l r : List (Nat × Pr)) : mdP (l ++ r) = max (mdP l) (mdP r) := by
  unfold mdP; rw [List.foldl_append, foldl_maxP]; rfl
theorem mdP_le_of_prefix {l r : List (Nat × Pr)} (h : l <+: r) : mdP l ≤ mdP r := by
  obtain ⟨s, rfl⟩ := h
  rw [mdP_append]; omega
theorem mdP_preP : ∀ (p : Pr) (d : Nat), mdP (preP (d + 1) p) = d + p.depth := by
  refine Pr.ind ?_
  intro k c x ls vs t ps ih d
  have h : ∀ (l : List Pr) (d : Nat), (∀ p ∈ l, ∀ d, mdP (preP (d + 1) p) = d + p.depth) → max d (mdP (prePs (d + 1) l)) = d + Pr.depths l := by
    intro l
    induction l with
    | nil => intro d _; simp [prePs, mdP, Pr.depths]
    | cons u r ihl =>
      intro d hh
      have h1 := hh u (by simp) d
      have h2 := ihl d (fun t ht => hh t (by simp [ht]))
      have h3 := u.depth_pos
      rw [prePs, mdP_append, Pr.depths]; omega
  have h1 := h ps (d + 1) ih
  rw [preP_eq, Pr.depth_eq]
  show mdP ([_] ++ _) = _
  rw [mdP_append]
  have h2 : mdP [(d + 1, Pr.mk k c x ls vs t ps)] = d + 1 := by simp [mdP]
  rw [h2]
  show max (d + 1) (mdP (prePs (d + 1 + 1) ps)) = _
  simp only [Pr.ps]
  omega
theorem w64_succP (x : Np) (pre : List Np) : wrap64 (wrap64 ((pre.length : Nat) : Int) + 1) = wrap64 (((pre ++ [x]).length : Nat) : Int) := by
  rw [List.length_append]; simp only [List.length_cons, List.length_nil]; unfold wrap64; omega

set_option maxRecDepth 100000 in
set_option maxHeartbeats 2000000 in
theorem psize_in (n : Nat) (hn : 3 ≤ n) (B : Nat → Prop) (p : Pr) (hsz : p.size ≤ 1000000) (hdep : p.depth ≤ 99999) (lv av tl tk kv : Value) (w : World) (hB : Low B w) (hv : PrVal B w (prAgg p lv av tl tk kv) p) :
    CallsIn Fence.wide n Tryd.prog 25 #[prAgg p lv av tl tk kv] w fun e w' => e = .returned (.int .i64 p.size) ∧ Below w.heap.size w w' := by
  have h1 : 1 ≤ n := by omega
  refine callsIn_of_wp_marks Tryd.func25 rfl trivial ?_ rfl
  simp only [prAgg, Tryd.ntmps25, List.size_toArray, List.length_cons, List.length_nil, Nat.reduceAdd, Nat.reduceSub, Array.replicate_succ, Array.replicate_zero, List.push_toArray, List.append_toArray, List.nil_append, List.cons_append]
  gi_wp2_with (refine ⟨trivial, ?_⟩; gi_at_call 60; refine (callsIn_wide.2 (pnodes_any _ _)).mono ?_; rintro e w' ⟨rfl, rfl⟩)
  have hbel := box3_below w (cell12 p lv av tl tk kv) (.cells #[.int .i64 0] 3) (.cells #[.pointer (some ⟨w.heap.size, 0, none⟩)] 86)
  have hpr := boxed_prAt (S := fun k => B k ∨ k = w.heap.size) hB hv ((((Below.refl (w.heap.size + 1) _).alloc (by simp) (.cells #[.int .i64 0] 3)).alloc (by simp) (.cells #[.pointer (some ⟨w.heap.size, 0, none⟩)] 86))) (fun _ h => .inl h) (.inr rfl)
  have hc : (((w.alloc (cell12 p lv av tl tk kv)).alloc (.cells #[.int .i64 0] 3)).alloc (.cells #[.pointer (some ⟨w.heap.size, 0, none⟩)] 86)).heap[w.heap.size + 1]? = some (.cells #[.int .i64 0] 3 (0, 0)) := by
    have h := World.alloc_heap_new (w.alloc (cell12 p lv av tl tk kv)) (.cells #[.int .i64 0] 3)
    rw [World.size_alloc] at h
    exact (Below.heap_alloc _ _ _ (by simp)).trans h
  have hp : (((w.alloc (cell12 p lv av tl tk kv)).alloc (.cells #[.int .i64 0] 3)).alloc (.cells #[.pointer (some ⟨w.heap.size, 0, none⟩)] 86)).cell? ⟨w.heap.size + 1 + 1, 0, none⟩ = some (.pointer (some ⟨w.heap.size, 0, none⟩)) := by
    have h := blk_cell (w := (w.alloc (cell12 p lv av tl tk kv)).alloc (.cells #[.int .i64 0] 3)) (cs := #[.pointer (some ⟨w.heap.size, 0, none⟩)]) (t := 86) (Below.refl _ _) 0 rfl
    simpa using h
  have hsz0 : (((w.alloc (cell12 p lv av tl tk kv)).alloc (.cells #[.int .i64 0] 3)).alloc (.cells #[.pointer (some ⟨w.heap.size, 0, none⟩)] 86)).heap.size = w.heap.size + 3 := by simp
  obtain ⟨W0, hW0⟩ : ∃ W0, (((w.alloc (cell12 p lv av tl tk kv)).alloc (.cells #[.int .i64 0] 3)).alloc (.cells #[.pointer (some ⟨w.heap.size, 0, none⟩)] 86)) = W0 := ⟨_, rfl⟩
  simp only [cell12] at hW0
  simp only [cell12] at hpr hc hp hbel hsz0
  rw [hW0] at hpr hc hp hbel hsz0 ⊢
  clear hW0
  have hX : ∀ k, k = w.heap.size + 1 → ¬ (B k ∨ k = w.heap.size) := fun k e h => h.elim (fun h => by have := hB k h; omega) (fun h => by omega)
  have hS : ∀ k, (B k ∨ k = w.heap.size) → k < W0.heap.size := fun k h => h.elim (fun h => by have := hB k h; omega) (fun h => by omega)
  refine wpIn_range_told rfl h1 (gf := 93) (lb := #[.pointer (some ⟨w.heap.size + 1 + 1, 0, none⟩)]) rfl trivial (enters_of Tryd.func93 (by kernel_rfl) rfl)
    (pnodes_tells (fun _ => True) (fun _ _ _ _ => trivial) (n - 1) (w.heap.size + 1 + 1) w.heap.size 0 p (fun k => B k ∨ k = w.heap.size) (fun k => k = w.heap.size + 1) W0 hX hS (by omega) hp hpr hdep trivial) (fun h g => KV.trans h g) (fun W l o o' _ h ho _ => KV.of_cells (by simp) (cellsKept_put h ho)) (fun x A B h hp => Pp.kept h hp) (Below.refl _ _) (fun _ => rfl)
    (fun pre W => W.heap[w.heap.size + 1]? = some (.cells #[.int .i64 (wrap64 pre.length)] 3 (0, 0)) ∧ Below w.heap.size w W) (fun _ _ _ => False)
    ((abides_boxed (by omega) _ _).and (abidesAll_below (by omega) (Nat.le_refl _))) (fun _ _ _ _ _ h _ _ => h) ⟨by rw [show wrap64 ((([] : List Np).length : Nat) : Int) = 0 from w64_id _ (by simp) (by simp)]; exact hc, hbel⟩
    (fun x a' _ => a' = { tmps := #[prAgg p lv av tl tk kv, .pointer (some ⟨w.heap.size, 0, none⟩), .int .i64 0, .pointer (some ⟨w.heap.size + 1, 0, none⟩),
      .func (.func 93) #[] #[.pointer (some ⟨w.heap.size + 1 + 1, 0, none⟩)], .int .i64 x.d, .pointer (some ⟨x.b, x.o, none⟩), undef, undef, undef], defers := [] }) (fun _ _ _ _ _ h => h) ?assign ?body ?done ?stop
  case assign =>
    intro l pre x W K hi hp hK
    simp only [npArgs]
    gi_wp2
    exact hK _ _ (KeepsFrom.refl _ _) (KV.refl _ _ _) hi hp (by simp)
  case body =>
    rintro l pre x a' W hl _ ⟨hb, hbw⟩ hpx rfl
    have c0 : W.cell? ⟨w.heap.size + 1, 0, none⟩ = some (.int .i64 (wrap64 pre.length)) := by simp [World.cell?, hb]
    have f0 : W.frozen? ⟨w.heap.size + 1, 0, none⟩ = false := by simp [World.frozen?, hb]
    have HB := Lib.hid hb
    clear hb hpx
    simp only [prAgg]
    gi_wp2
    refine ⟨(KeepsOthers.setCell _ _ _).from _, ?_, ?_, hbw.setCell (p := ⟨w.heap.size + 1, 0, none⟩) (by simp) _⟩
    · exact ⟨by simp, fun k o hk hc hx _ => (Below.heap_setCell _ _ _ k (fun e => hx e)).trans hk⟩
    · rw [w64_succP x pre]
      exact set_block HB.out 0 _
  case done =>
    rintro D ys W hD hys ⟨hb, hbw⟩ hK
    have hlen : ys.length = p.size := by
      have := congrArg List.length hys
      rwa [List.length_map, preP_length] at this
    rw [hlen, w64_id _ (by omega) (by omega)] at hb
    have c0 : W.cell? ⟨w.heap.size + 1, 0, none⟩ = some (.int .i64 p.size) := by simp [World.cell?, hb]
    have HK := Lib.hid hK
    clear hb hys hlen hK
    gi_wp2
    refine ⟨by simp, .inl ⟨_, _, rfl, run_takeDeferred HK.out, ?_⟩⟩
    exact ⟨_, results_tmp rfl _ _ _, rfl, hbw.trans (belowK_b (w := w) (Nat.le_refl _) W D _ _ (by omega) HK.out rfl rfl)⟩
  case stop =>
    rintro D c pre W _ _ h _
    exact h.elim

theorem psize_any (B : Nat → Prop) (p : Pr) (hsz : p.size ≤ 1000000) (hdep : p.depth ≤ 99999) (v : Value) (w : World) (hB : Low B w) (hv : PrVal B w v p) :
    Calls Tryd.prog 25 #[v] w fun e w' => e = .returned (.int .i64 p.size) ∧ Below w.heap.size w w' := by
  have hv' := hv
  obtain ⟨lv, av, tl, tk, kv, rfl, _⟩ := hv'
  exact callsIn_wide.1 (psize_in 3 (by omega) B p hsz hdep lv av tl tk kv w hB hv)

end Go.Proofs.YtliijbcgkkiekaaDoor

/- Processes: Depth, tooLarge. -/
namespace Go.Proofs.YtliijbcgkkiekaaDoor
open Go.RowKit Go.Deep Go.Shelf
attribute [local go_sem] Oper.semAt_some

set_option maxRecDepth 100000 in
set_option maxHeartbeats 2000000 in
theorem pdepthP_in (n : Nat) (hn : 3 ≤ n) (B : Nat → Prop) (p : Pr) (hdep : p.depth ≤ 99999) (lv av tl tk kv : Value) (w : World) (hB : Low B w) (hv : PrVal B w (prAgg p lv av tl tk kv) p) :
    CallsIn Fence.wide n Tryd.prog 27 #[prAgg p lv av tl tk kv] w fun e w' => e = .returned (.int .i64 p.depth) ∧ Below w.heap.size w w' := by
  have h1 : 1 ≤ n := by omega
  refine callsIn_of_wp_marks Tryd.func27 rfl trivial ?_ rfl
  simp only [prAgg, Tryd.ntmps27, List.size_toArray, List.length_cons, List.length_nil, Nat.reduceAdd, Nat.reduceSub, Array.replicate_succ, Array.replicate_zero, List.push_toArray, List.append_toArray, List.nil_append, List.cons_append]
  gi_wp2_with (refine ⟨trivial, ?_⟩; gi_at_call 60; refine (callsIn_wide.2 (pnodes_any _ _)).mono ?_; rintro e w' ⟨rfl, rfl⟩)
  have hbel := box3_below w (cell12 p lv av tl tk kv) (.cells #[.int .i64 0] 3) (.cells #[.pointer (some ⟨w.heap.size, 0, none⟩)] 86)
  have hpr := boxed_prAt (S := fun k => B k ∨ k = w.heap.size) hB hv ((((Below.refl (w.heap.size + 1) _).alloc (by simp) (.cells #[.int .i64 0] 3)).alloc (by simp) (.cells #[.pointer (some ⟨w.heap.size, 0, none⟩)] 86))) (fun _ h => .inl h) (.inr rfl)
  have hc : (((w.alloc (cell12 p lv av tl tk kv)).alloc (.cells #[.int .i64 0] 3)).alloc (.cells #[.pointer (some ⟨w.heap.size, 0, none⟩)] 86)).heap[w.heap.size + 1]? = some (.cells #[.int .i64 0] 3 (0, 0)) := by
    have h := World.alloc_heap_new (w.alloc (cell12 p lv av tl tk kv)) (.cells #[.int .i64 0] 3)
    rw [World.size_alloc] at h
    exact (Below.heap_alloc _ _ _ (by simp)).trans h
  have hp : (((w.alloc (cell12 p lv av tl tk kv)).alloc (.cells #[.int .i64 0] 3)).alloc (.cells #[.pointer (some ⟨w.heap.size, 0, none⟩)] 86)).cell? ⟨w.heap.size + 1 + 1, 0, none⟩ = some (.pointer (some ⟨w.heap.size, 0, none⟩)) := by
    have h := blk_cell (w := (w.alloc (cell12 p lv av tl tk kv)).alloc (.cells #[.int .i64 0] 3)) (cs := #[.pointer (some ⟨w.heap.size, 0, none⟩)]) (t := 86) (Below.refl _ _) 0 rfl
    simpa using h
  have hsz0 : (((w.alloc (cell12 p lv av tl tk kv)).alloc (.cells #[.int .i64 0] 3)).alloc (.cells #[.pointer (some ⟨w.heap.size, 0, none⟩)] 86)).heap.size = w.heap.size + 3 := by simp
  obtain ⟨W0, hW0⟩ : ∃ W0, (((w.alloc (cell12 p lv av tl tk kv)).alloc (.cells #[.int .i64 0] 3)).alloc (.cells #[.pointer (some ⟨w.heap.size, 0, none⟩)] 86)) = W0 := ⟨_, rfl⟩
  simp only [cell12] at hW0
  simp only [cell12] at hpr hc hp hbel hsz0
  rw [hW0] at hpr hc hp hbel hsz0 ⊢
  clear hW0
  have hX : ∀ k, k = w.heap.size + 1 → ¬ (B k ∨ k = w.heap.size) := fun k e h => h.elim (fun h => by have := hB k h; omega) (fun h => by omega)
  have hS : ∀ k, (B k ∨ k = w.heap.size) → k < W0.heap.size := fun k h => h.elim (fun h => by have := hB k h; omega) (fun h => by omega)
  refine wpIn_range_told rfl h1 (gf := 93) (lb := #[.pointer (some ⟨w.heap.size + 1 + 1, 0, none⟩)]) rfl trivial (enters_of Tryd.func93 (by kernel_rfl) rfl)
    (pnodes_tells (fun _ => True) (fun _ _ _ _ => trivial) (n - 1) (w.heap.size + 1 + 1) w.heap.size 0 p (fun k => B k ∨ k = w.heap.size) (fun k => k = w.heap.size + 1) W0 hX hS (by omega) hp hpr hdep trivial) (fun h g => KV.trans h g) (fun W l o o' _ h ho _ => KV.of_cells (by simp) (cellsKept_put h ho)) (fun x A B h hp => Pp.kept h hp) (Below.refl _ _) (fun _ => rfl)
    (fun pre W => (W.heap[w.heap.size + 1]? = some (.cells #[.int .i64 (mdP (pre.map Np.g) : Nat)] 3 (0, 0)) ∧ mdP (pre.map Np.g) ≤ 100000) ∧ Below w.heap.size w W) (fun _ _ _ => False)
    (((abides_boxed (by omega) _ (fun pre : List Np => .int .i64 (mdP (pre.map Np.g) : Nat))).and (abidesAll_pure _ _)).and (abidesAll_below (by omega) (Nat.le_refl _))) (fun _ _ _ _ _ h _ _ => h) ⟨⟨hc, by simp [mdP]⟩, hbel⟩
    (fun x a' _ => a' = { tmps := #[prAgg p lv av tl tk kv, .pointer (some ⟨w.heap.size, 0, none⟩), .int .i64 0, .pointer (some ⟨w.heap.size + 1, 0, none⟩),
      .int .i64 x.d,
      .func (.func 93) #[] #[.pointer (some ⟨w.heap.size + 1 + 1, 0, none⟩)], .int .i64 x.d, .pointer (some ⟨x.b, x.o, none⟩), undef, undef, undef, undef], defers := [] }) (fun _ _ _ _ _ h => h) ?assign ?body ?done ?stop
  case assign =>
    intro l pre x W K hi hp hK
    simp only [npArgs]
    gi_wp2
    exact hK _ _ (KeepsFrom.refl _ _) (KV.refl _ _ _) hi hp (by simp)
  case body =>
    rintro l pre x a' W hl _ ⟨⟨hb, hmx⟩, hbw⟩ hpx rfl
    have hdx := hpx.2.1
    obtain ⟨m, hm⟩ : ∃ m, mdP (pre.map Np.g) = m := ⟨_, rfl⟩
    rw [hm] at hb hmx
    have c0 : W.cell? ⟨w.heap.size + 1, 0, none⟩ = some (.int .i64 (m : Nat)) := by simp [World.cell?, hb]
    have f0 : W.frozen? ⟨w.heap.size + 1, 0, none⟩ = false := by simp [World.frozen?, hb]
    have HM2 : Hid (mdP ((pre ++ [x]).map Np.g) = max m x.d) := Lib.hid (by
      rw [List.map_append, List.map_cons, List.map_nil, mdP_snoc, hm]; rfl)
    have HB := Lib.hid hb
    clear hb hpx hm
    simp only [prAgg]
    by_cases hlt : m < x.d
    · have hlt' : decide ((m : Int) < (x.d : Int)) = true := by simp; omega
      have hlt2 : (m : Int) < (x.d : Int) := by omega
      have hM : max m x.d = x.d := by omega
      have HMM := Lib.hid hM
      clear hM
      gi_wp2
      refine ⟨(KeepsOthers.setCell _ _ _).from _, ⟨by simp, fun k o hk hc hx _ => (Below.heap_setCell _ _ _ k (fun e => hx e)).trans hk⟩, ⟨?_, by rw [HM2.out]; omega⟩, hbw.setCell (p := ⟨w.heap.size + 1, 0, none⟩) (by simp) _⟩
      rw [HM2.out, HMM.out]
      exact set_block HB.out 0 _
    · have hlt' : decide ((m : Int) < (x.d : Int)) = false := by simp; omega
      have hlt2 : ¬ (m : Int) < (x.d : Int) := by omega
      have hM : max m x.d = m := by omega
      have HMM := Lib.hid hM
      clear hM
      gi_wp2
      refine ⟨(KeepsOthers.setCell _ _ _).from _, ⟨by simp, fun k o hk hc hx _ => (Below.heap_setCell _ _ _ k (fun e => hx e)).trans hk⟩, ⟨?_, by rw [HM2.out]; omega⟩, hbw.setCell (p := ⟨w.heap.size + 1, 0, none⟩) (by simp) _⟩
      rw [HM2.out, HMM.out]
      exact set_block HB.out 0 _
  case done =>
    rintro D ys W hD hys ⟨⟨hb, _⟩, hbw⟩ hK
    have hmd : mdP (preP 1 p) = p.depth := by have := mdP_preP p 0; simpa using this
    rw [hys, hmd] at hb
    have c0 : W.cell? ⟨w.heap.size + 1, 0, none⟩ = some (.int .i64 p.depth) := by simp [World.cell?, hb]
    have HK := Lib.hid hK
    clear hb hys hK hmd
    gi_wp2
    refine ⟨by simp, .inl ⟨_, _, rfl, run_takeDeferred HK.out, ?_⟩⟩
    exact ⟨_, results_tmp rfl _ _ _, rfl, hbw.trans (belowK_b (w := w) (Nat.le_refl _) W D _ _ (by omega) HK.out rfl rfl)⟩
  case stop =>
    rintro D c pre W _ _ h _
    exact h.elim

theorem pdepthP_any (B : Nat → Prop) (p : Pr) (hdep : p.depth ≤ 99999) (v : Value) (w : World) (hB : Low B w) (hv : PrVal B w v p) :
    Calls Tryd.prog 27 #[v] w fun e w' => e = .returned (.int .i64 p.depth) ∧ Below w.heap.size w w' := by
  have hv' := hv
  obtain ⟨lv, av, tl, tk, kv, rfl, _⟩ := hv'
  exact callsIn_wide.1 (pdepthP_in 3 (by omega) B p hdep lv av tl tk kv w hB hv)

/-- Is a process too large? -/
def Pr.large (p : Pr) : Bool := decide (10000 < p.size ∨ 100 < p.depth)

set_option maxRecDepth 100000 in
set_option maxHeartbeats 2000000 in
theorem ptooLarge_in (n : Nat) (hn : 3 ≤ n) (S : Nat → Prop) (t : Pr) (hdep : t.depth ≤ 99999) (bt o : Nat) (w : World) (hS : Low S w) (hty : PrAt S w t bt o) :
    CallsIn Fence.wide n Tryd.prog 87 #[.pointer (some ⟨bt, o, none⟩)] w fun e w' => e = .returned (.bool t.large) ∧ Below w.heap.size w w' := by
  have h1 : 1 ≤ n := by omega
  refine callsIn_of_wp_marks Tryd.func87 rfl trivial ?_ rfl
  simp only [Tryd.ntmps87, List.size_toArray, List.length_cons, List.length_nil, Nat.reduceAdd, Nat.reduceSub, Array.replicate_succ, Array.replicate_zero, List.push_toArray, List.append_toArray, List.nil_append, List.cons_append]
  gi_wp2_with (refine ⟨trivial, ?_⟩; gi_at_call 60; refine (callsIn_wide.2 (pnodes_any _ _)).mono ?_; rintro e w' ⟨rfl, rfl⟩)
  have hr : (((w.alloc (.cells #[.bool false] 4)).alloc (.cells #[.int .i64 0] 3)).alloc (.cells #[.pointer (some ⟨bt, o, none⟩)] 86)).heap[w.heap.size]? = some (.cells #[.bool false] 4 (0, 0)) :=
    (Below.heap_alloc _ _ _ (by simp; omega)).trans ((Below.heap_alloc _ _ _ (by simp)).trans (World.alloc_heap_new w _))
  have hc : (((w.alloc (.cells #[.bool false] 4)).alloc (.cells #[.int .i64 0] 3)).alloc (.cells #[.pointer (some ⟨bt, o, none⟩)] 86)).heap[w.heap.size + 1]? = some (.cells #[.int .i64 0] 3 (0, 0)) := by
    have h := World.alloc_heap_new (w.alloc (.cells #[.bool false] 4)) (.cells #[.int .i64 0] 3)
    rw [World.size_alloc] at h
    exact (Below.heap_alloc _ _ _ (by simp)).trans h
  have hp : (((w.alloc (.cells #[.bool false] 4)).alloc (.cells #[.int .i64 0] 3)).alloc (.cells #[.pointer (some ⟨bt, o, none⟩)] 86)).cell? ⟨w.heap.size + 1 + 1, 0, none⟩ = some (.pointer (some ⟨bt, o, none⟩)) := by
    have h := blk_cell (w := (w.alloc (.cells #[.bool false] 4)).alloc (.cells #[.int .i64 0] 3)) (cs := #[.pointer (some ⟨bt, o, none⟩)]) (t := 86) (Below.refl _ _) 0 rfl
    simpa using h
  have hbel := box3_below w (.cells #[.bool false] 4) (.cells #[.int .i64 0] 3) (.cells #[.pointer (some ⟨bt, o, none⟩)] 86)
  have hsz0 : (((w.alloc (.cells #[.bool false] 4)).alloc (.cells #[.int .i64 0] 3)).alloc (.cells #[.pointer (some ⟨bt, o, none⟩)] 86)).heap.size = w.heap.size + 3 := by simp
  obtain ⟨W0, hW0⟩ : ∃ W0, (((w.alloc (.cells #[.bool false] 4)).alloc (.cells #[.int .i64 0] 3)).alloc (.cells #[.pointer (some ⟨bt, o, none⟩)] 86)) = W0 := ⟨_, rfl⟩
  rw [hW0] at hr hc hp hbel hsz0 ⊢
  clear hW0
  have hX : ∀ k, k = w.heap.size + 1 → ¬ S k := fun k e h => by have := hS k h; omega
  have hS0 : ∀ k, S k → k < W0.heap.size := fun k h => by have := hS k h; omega
  refine wpIn_range_told rfl h1 (gf := 93) (lb := #[.pointer (some ⟨w.heap.size + 1 + 1, 0, none⟩)]) rfl trivial (enters_of Tryd.func93 (by kernel_rfl) rfl)
    (pnodes_tells (fun _ => True) (fun _ _ _ _ => trivial) (n - 1) (w.heap.size + 1 + 1) bt o t S (fun k => k = w.heap.size + 1) W0 hX hS0 (by omega) hp (hty.keep (hbel.keeps'.mono hS)) hdep trivial) (fun h g => KV.trans h g) (fun W l o o' _ h ho _ => KV.of_cells (by simp) (cellsKept_put h ho)) (fun x A B h hp => Pp.kept h hp) (Below.refl _ _) (fun _ => rfl)
    (fun pre W => ((W.heap[w.heap.size + 1]? = some (.cells #[.int .i64 (pre.length : Nat)] 3 (0, 0)) ∧ W.heap[w.heap.size]? = some (.cells #[.bool false] 4 (0, 0))) ∧ (pre.length ≤ 10000 ∧ mdP (pre.map Np.g) ≤ 100)) ∧ Below w.heap.size w W)
    (fun c pre W => ((c = .ret ∧ (10000 < pre.length ∨ 100 < mdP (pre.map Np.g))) ∧ W.heap[w.heap.size]? = some (.cells #[.bool true] 4 (0, 0))) ∧ Below w.heap.size w W)
    ((((abides_boxed (by omega) _ _).and (abides_boxed (by omega) _ (fun _ => .bool false))).and (abidesAll_pure _ _)).and (abidesAll_below (by omega) (Nat.le_refl _)))
    (fun c => (((abidesAll_pure _ _).and (abides_boxed (by omega) _ (fun _ => .bool true))).and (abidesAll_below (by omega) (Nat.le_refl _)))) ⟨⟨⟨hc, hr⟩, by simp, by simp [mdP]⟩, hbel⟩
    (fun x a' _ => a' = { tmps := #[.pointer (some ⟨bt, o, none⟩), undef, .pointer (some ⟨w.heap.size, 0, none⟩), .pointer (some ⟨w.heap.size + 1, 0, none⟩), .int .i64 x.d, .pointer (some ⟨bt, o, none⟩),
      .func (.func 93) #[] #[.pointer (some ⟨w.heap.size + 1 + 1, 0, none⟩)], .int .i64 x.d, .pointer (some ⟨x.b, x.o, none⟩), undef, undef, undef, undef, undef, undef, undef, undef], defers := [] }) (fun _ _ _ _ _ h => h) ?assign ?body ?done ?stop
  case assign =>
    intro l pre x W K hi hp hK
    simp only [npArgs]
    gi_wp2
    exact hK _ _ (KeepsFrom.refl _ _) (KV.refl _ _ _) hi hp (by simp)
  case body =>
    rintro l pre x a' W hl _ ⟨⟨⟨hb, hr⟩, hm1, hm2⟩, hbw⟩ hpx rfl
    have hdx := hpx.2.1
    obtain ⟨m, hm⟩ : ∃ m, pre.length = m := ⟨_, rfl⟩
    rw [hm] at hb hm1
    have c0 : W.cell? ⟨w.heap.size + 1, 0, none⟩ = some (.int .i64 (m : Nat)) := by simp [World.cell?, hb]
    have f0 : W.frozen? ⟨w.heap.size + 1, 0, none⟩ = false := by simp [World.frozen?, hb]
    have r0 : W.cell? ⟨w.heap.size, 0, none⟩ = some (.bool false) := by simp [World.cell?, hr]
    have r1 : W.frozen? ⟨w.heap.size, 0, none⟩ = false := by simp [World.frozen?, hr]
    have hbl : w.heap.size + 1 < W.heap.size := (Array.getElem?_eq_some_iff.1 hb).1
    have hM2 : Hid (mdP ((pre ++ [x]).map Np.g) = max (mdP (pre.map Np.g)) x.d) := Lib.hid (by
      rw [List.map_append, List.map_cons, List.map_nil, mdP_snoc]; rfl)
    have hl1 : Hid ((pre ++ [x]).length = m + 1) := Lib.hid (by simp [hm])
    have HB := Lib.hid hb
    have HR := Lib.hid hr
    clear hb hr hpx hm
    by_cases hq : m + 1 ≤ 10000
    · have hq1 : decide ((10000 : Int) < (m : Int) + 1) = false := by simp; omega
      by_cases hd : x.d ≤ 100
      · have hd1 : decide ((100 : Int) < (x.d : Int)) = false := by simp; omega
        have hd2 : ¬ (100 : Int) < (x.d : Int) := by omega
        gi_wp2
        refine ⟨(KeepsOthers.setCell _ _ _).from _, ⟨by simp, fun k o hk hc hx _ => (Below.heap_setCell _ _ _ k (fun e => hx e)).trans hk⟩,
          ⟨⟨?_, ?_⟩, by rw [hl1.out]; exact hq, by rw [hM2.out]; omega⟩, hbw.setCell (p := ⟨w.heap.size + 1, 0, none⟩) (by simp) _⟩
        · rw [hl1.out]
          exact set_block HB.out 0 _
        · exact (Below.heap_setCell _ _ _ _ (by simp)).trans HR.out
      · have hd1 : decide ((100 : Int) < (x.d : Int)) = true := by simp; omega
        have hd2 : (100 : Int) < (x.d : Int) := by omega
        gi_wp2
        refine ⟨((KeepsOthers.setCell _ _ _).trans (KeepsOthers.setCell _ _ _)).from _, ⟨⟨rfl, .inr (by rw [hM2.out]; omega)⟩, ?_⟩, (hbw.setCell (p := ⟨w.heap.size + 1, 0, none⟩) (by simp) _).setCell (p := ⟨w.heap.size, 0, none⟩) (by simp) _⟩
        exact set_block ((Below.heap_setCell _ _ _ _ (by simp)).trans HR.out) 0 _
    · have hq1 : decide ((10000 : Int) < (m : Int) + 1) = true := by simp; omega
      have hq2 : (10000 : Int) < (m : Int) + 1 := by omega
      gi_wp2
      refine ⟨((KeepsOthers.setCell _ _ _).trans (KeepsOthers.setCell _ _ _)).from _, ⟨⟨rfl, .inl (by rw [hl1.out]; omega)⟩, ?_⟩, (hbw.setCell (p := ⟨w.heap.size + 1, 0, none⟩) (by simp) _).setCell (p := ⟨w.heap.size, 0, none⟩) (by simp) _⟩
      exact set_block ((Below.heap_setCell _ _ _ _ (by simp)).trans HR.out) 0 _
  case done =>
    rintro D ys W hD hys ⟨⟨⟨hb, hr⟩, hm1, hm2⟩, hbw⟩ hK
    have hlen : ys.length = t.size := by
      have := congrArg List.length hys
      rwa [List.length_map, preP_length] at this
    have hdp : mdP (ys.map Np.g) = t.depth := by rw [hys]; have := mdP_preP t 0; simpa using this
    have hlg : t.large = false := by simp [Pr.large]; omega
    have r0 : W.cell? ⟨w.heap.size, 0, none⟩ = some (.bool false) := by simp [World.cell?, hr]
    have r1 : W.frozen? ⟨w.heap.size, 0, none⟩ = false := by simp [World.frozen?, hr]
    have hltD : w.heap.size < D := by omega
    have HK := Lib.hid hK
    have HR := Lib.hid hr
    have HLG := Lib.hid hlg
    clear hb hys hK hlen hdp hlg hr
    gi_wp2
    have k3 : (W.setCell ⟨w.heap.size, 0, none⟩ (.bool false)).heap[D]? = some (.deferred (some [])) := (Below.heap_setCell _ _ _ D (by simp; omega)).trans HK.out
    refine ⟨by simp, .inl ⟨_, _, rfl, run_takeDeferred k3, ?_⟩⟩
    have k1 : ((W.setCell ⟨w.heap.size, 0, none⟩ (.bool false)).putObj D (.deferred none)).heap[w.heap.size]? = some (.cells #[.bool false] 4 (0, 0)) := (World.putObj_heap_other (by omega)).trans (set_block HR.out 0 _)
    have c1 : ((W.setCell ⟨w.heap.size, 0, none⟩ (.bool false)).putObj D (.deferred none)).cell? ⟨w.heap.size, 0, none⟩ = some (.bool false) := by simp [World.cell?, k1]
    have k7 := (hbw.setCell (p := ⟨w.heap.size, 0, none⟩) (by simp) (.bool false)).trans (belowK_b (w := w) (Nat.le_refl _) _ D _ (.deferred none) (by omega) k3 rfl rfl)
    generalize (W.setCell ⟨w.heap.size, 0, none⟩ (.bool false)).putObj D (.deferred none) = W4 at *
    exact ⟨.bool false, by simp [results, Tryd.results87, go_sem, c1], by rw [HLG.out], k7⟩
  case stop =>
    rintro D c pre W hD hpre ⟨⟨⟨rfl, hbig⟩, hr⟩, hbw⟩ hK
    have hlg : t.large = true := by
      have h1 := hpre.length_le
      rw [List.length_map, preP_length] at h1
      have h2 := mdP_le_of_prefix hpre
      rw [show mdP (preP 1 t) = t.depth by have := mdP_preP t 0; simpa using this] at h2
      simp [Pr.large]; omega
    have HLG := Lib.hid hlg
    clear hpre hlg
    gi_wp2
    refine ⟨by simp, .inl ⟨_, _, rfl, run_takeDeferred hK, ?_⟩⟩
    have k1 : (W.putObj D (.deferred none)).heap[w.heap.size]? = some (.cells #[.bool true] 4 (0, 0)) := (World.putObj_heap_other (by omega)).trans hr
    have c1 : (W.putObj D (.deferred none)).cell? ⟨w.heap.size, 0, none⟩ = some (.bool true) := by simp [World.cell?, k1]
    have k7 := hbw.trans (belowK_b (w := w) (Nat.le_refl _) W D _ (.deferred none) (by omega) hK rfl rfl)
    generalize W.putObj D (.deferred none) = W4 at *
    exact ⟨.bool true, by simp [results, Tryd.results87, go_sem, c1], by rw [HLG.out], k7⟩

theorem ptooLarge_any (S : Nat → Prop) (t : Pr) (hdep : t.depth ≤ 99999) (bt o : Nat) (w : World) (hS : Low S w) (hty : PrAt S w t bt o) :
    Calls Tryd.prog 87 #[.pointer (some ⟨bt, o, none⟩)] w fun e w' => e = .returned (.bool t.large) ∧ Below w.heap.size w w' :=
  callsIn_wide.1 (ptooLarge_in 3 (by omega) S t hdep bt o w hS hty)

end Go.Proofs.YtliijbcgkkiekaaDoor
