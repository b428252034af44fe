/- Types: nodes; Size. (and what follows from it) -/
import Derived.Test.YtliijbcgkkiekaaDoorPb5
import Derived.Test.YtliijbcgkkiekaaDoorPb3

/- Types: nodes; Size. -/
namespace Go.Proofs.YtliijbcgkkiekaaDoor
open Go.RowKit Go.Deep Go.Shelf
attribute [local go_sem] Oper.semAt_some

theorem ARow.low {D D' : Nat} {S : Nat → Prop} {W : World} {ar : Value} {path : List Ty} (h : ARow D S W ar path) (hd : D' ≤ D) : ARow D' S W ar path := by
  obtain ⟨ads, h1, h2, h3⟩ := h
  refine ⟨ads, h1, ⟨h2.1, ?_⟩, h3⟩
  rcases h2.2 with h0 | ⟨g, cap, cur, rfl, hb, r⟩
  · exact .inl h0
  · exact .inr ⟨g, cap, cur, rfl, Nat.le_trans hd hb, r⟩

set_option maxHeartbeats 1000000 in
theorem nodes_any (a : Option Addr) (w : World) :
    Calls Tryd.prog 50 #[.pointer a] w fun e w' => e = .returned (.func (.func 81) #[] #[.pointer (some ⟨w.heap.size, 0, none⟩)]) ∧ w' = w.alloc (.cells #[.pointer a] 60) := by
  go_enter Tryd.func50, Tryd.ntmps50
  go_wp2
  go_ret
  exact ⟨rfl, rfl⟩

set_option maxRecDepth 100000 in
set_option maxHeartbeats 1000000 in
/-- The iterator that nodes returns tells each node, its place and the nodes around it. -/
theorem nodes_tells (n : Nat) (Bt b o : Nat) (t : Ty) (S X : Nat → Prop) (w : World) (hX : ∀ k, X k → ¬ S k ∧ k < w.heap.size) (hS : ∀ k, S k → k < w.heap.size) (hBt : Bt < w.heap.size) (hc : w.cell? ⟨Bt, 0, none⟩ = some (.pointer (some ⟨b, o, none⟩))) (hty : TyAt S w t b o) (hdep : t.depth ≤ 1000) :
    Tells Fence.wide n Tryd.prog 81 #[.pointer (some ⟨Bt, 0, none⟩)] ndArgs (Px w.heap.size S) (Kp X) (fun ys => ys.map Nd.g = preT [] 0 t) (fun pre => pre.map Nd.g <+: preT [] 0 t) w := by
  intro l J Jx W hW hJ _ hY h0
  have hp := visit_in Fence.wide rfl (fun _ => trivial) rfl l W.heap.size S X (fun k hk => ⟨(hX k hk).1, Nat.lt_of_lt_of_le (hX k hk).2 hW.size⟩) (fun k hk => Nat.lt_of_lt_of_le (hS k hk) hW.size) J Jx hJ
    (fun m pre x W1 hj hpx _ => yield_any rfl m (hY pre x W1 hj ⟨hpx.1.low hW.size, hpx.2⟩)) t (n - 1) [] 0 none 0 0 b o [] W (Nat.le_refl _) h0 (hty.keep (hW.keeps'.mono hS)) ⟨[], rfl, World.ownsRow_nil _ _ _ _, fun i a u ha _ => by simp at ha⟩ (by simpa using hdep)
  have hc' := (hW.cell (p := ⟨Bt, 0, none⟩) hBt).trans hc
  have HP := Lib.hid hp
  clear hp hY h0 hJ
  refine callsIn_of_wp Tryd.func81 rfl trivial ?_ rfl
  simp only [Tryd.ntmps81, List.size_toArray, List.length_cons, List.length_nil, Nat.reduceAdd, Nat.reduceSub, Array.replicate_succ, Array.replicate_zero, List.push_toArray, List.append_toArray, List.nil_append, List.cons_append]
  gi_wp2_with fail
  refine ⟨trivial, ⟨fun h => (by cases h), ?_⟩⟩
  refine HP.out.mono ?_
  rintro e W1 (⟨rfl, ⟨ys, h1, h2⟩, _, _⟩ | ⟨rfl, ys, h1, h2⟩)
  · have H1 := Lib.hid h1
    have H2 := Lib.hid h2
    clear h1 h2
    gi_wp2
    go_end0
    exact ⟨⟨_, rfl⟩, .inl ⟨ys, H1.out, by simpa using H2.out⟩⟩
  · have H1 := Lib.hid h1
    have H2 := Lib.hid h2
    clear h1 h2
    gi_wp2
    go_end0
    exact ⟨⟨_, rfl⟩, .inr ⟨ys, H1.out, by simpa using H2.out⟩⟩

/-- How many nodes: as all of them. -/
theorem preT_length : ∀ (t : Ty) (path : List Ty) (kid : Int), (preT path kid t).length = t.size := by
  refine Ty.ind ?_
  intro k p n s ls ts ih path kid
  rw [preT_eq, Ty.size_eq, List.length_cons]
  have h : ∀ (l : List Ty) (path : List Ty) (kid : Int), (∀ t ∈ l, ∀ (path : List Ty) (kid : Int), (preT path kid t).length = t.size) → (preTs path kid l).length = Ty.sizes l := by
    intro l
    induction l with
    | nil => intro _ _ _; simp [preTs, Ty.sizes]
    | cons u r ihl =>
      intro path kid hh
      rw [preTs, List.length_append, Ty.sizes, hh u (by simp), ihl path (kid + 1) (fun t ht => hh t (by simp [ht]))]
  show (preTs (path ++ [Ty.mk k p n s ls ts]) 0 ts).length + 1 = Ty.sizes ts + 1
  rw [h _ _ _ ih]

theorem w64_id (n : Int) (h1 : -9223372036854775808 ≤ n) (h2 : n ≤ 9223372036854775807) : wrap64 n = n := by unfold wrap64; omega
theorem w64_succ (x : Nd) (pre : List Nd) : wrap64 (wrap64 ((pre.length : Nat) : Int) + 1) = wrap64 (((pre ++ [x]).length : Nat) : Int) := by
  rw [List.length_append]; simp only [List.length_cons, List.length_nil]; unfold wrap64; omega
theorem abides_boxed {β : Type} {D b : Nat} (hb : b < D) (t : TypeId) (f : β → Value) : AbidesAll D (fun s W => W.heap[b]? = some (.cells #[f s] t (0, 0))) :=
  fun _ _ _ _ hs hg hr => (hg.block b (Array.getElem?_eq_some_iff.1 hs).1 (fun e => by have := hr b e.symm; omega)).trans hs

/-- Node and pointer: a box that holds a type is a place of the type. -/
theorem boxed_tyAt {B : Nat → Prop} {S : Nat → Prop} {W : World} {b : Nat} {t : Ty} {lv kv : Value} (h6 : Six W b (.int .i64 t.k) (.int .i64 t.p) (.string t.n) (.int .i64 t.s) lv kv) (hv : TyVal B W (.agg #[.int .i64 t.k, .int .i64 t.p, .string t.n, .int .i64 t.s, lv, kv]) t) (hB : ∀ k, B k → S k) (hb : S b) : TyAt S W t b 0 := by
  obtain ⟨⟨c0, c1, c2, c3, c4, c5⟩, _⟩ := h6.cells
  exact tyAt_of hb c0 c1 c2 c3 c4 c5 (hv.mono hB)

set_option maxRecDepth 100000 in
set_option maxHeartbeats 2000000 in
theorem tsize_in (n : Nat) (hn : 3 ≤ n) (B : Nat → Prop) (t : Ty) (hsz : t.size ≤ 1000000) (hdep : t.depth ≤ 1000) (lv kv : Value) (w : World) (hB : Low B w) (hv : TyVal B w (.agg #[.int .i64 t.k, .int .i64 t.p, .string t.n, .int .i64 t.s, lv, kv]) t) :
    CallsIn Fence.wide n Tryd.prog 14 #[.agg #[.int .i64 t.k, .int .i64 t.p, .string t.n, .int .i64 t.s, lv, kv]] w fun e w' => e = .returned (.int .i64 t.size) ∧ Below w.heap.size w w' := by
  have h1 : 1 ≤ n := by omega
  refine callsIn_of_wp_marks Tryd.func14 rfl trivial ?_ rfl
  simp only [Tryd.ntmps14, List.size_toArray, List.length_cons, List.length_nil, Nat.reduceAdd, Nat.reduceSub, Array.replicate_succ, Array.replicate_zero, List.push_toArray, List.append_toArray, List.nil_append, List.cons_append]
  gi_wp2_with (refine ⟨trivial, ?_⟩; gi_at_call 50; refine (callsIn_wide.2 (nodes_any _ _)).mono ?_; rintro e w' ⟨rfl, rfl⟩)
  have h6 := (Six.new w (.int .i64 t.k) (.int .i64 t.p) (.string t.n) (.int .i64 t.s) lv kv).to (box2_below _ (.cells #[.int .i64 0] 3) (.cells #[.pointer (some ⟨w.heap.size, 0, none⟩)] 60))
  have hc : (((w.alloc (cell6 t.k t.p t.n t.s lv kv)).alloc (.cells #[.int .i64 0] 3)).alloc (.cells #[.pointer (some ⟨w.heap.size, 0, none⟩)] 60)).heap[w.heap.size + 1]? = some (.cells #[.int .i64 0] 3 (0, 0)) := by
    have h := World.alloc_heap_new (w.alloc (cell6 t.k t.p t.n t.s lv kv)) (.cells #[.int .i64 0] 3)
    rw [World.size_alloc] at h
    exact (Below.heap_alloc _ _ _ (by simp)).trans h
  have hp : (((w.alloc (cell6 t.k t.p t.n t.s lv kv)).alloc (.cells #[.int .i64 0] 3)).alloc (.cells #[.pointer (some ⟨w.heap.size, 0, none⟩)] 60)).cell? ⟨w.heap.size + 1 + 1, 0, none⟩ = some (.pointer (some ⟨w.heap.size, 0, none⟩)) := by
    have h := blk_cell (w := (w.alloc (cell6 t.k t.p t.n t.s lv kv)).alloc (.cells #[.int .i64 0] 3)) (cs := #[.pointer (some ⟨w.heap.size, 0, none⟩)]) (t := 60) (Below.refl _ _) 0 rfl
    simpa using h
  have hbel := box3_below w (cell6 t.k t.p t.n t.s lv kv) (.cells #[.int .i64 0] 3) (.cells #[.pointer (some ⟨w.heap.size, 0, none⟩)] 60)
  have hsz0 : (((w.alloc (cell6 t.k t.p t.n t.s lv kv)).alloc (.cells #[.int .i64 0] 3)).alloc (.cells #[.pointer (some ⟨w.heap.size, 0, none⟩)] 60)).heap.size = w.heap.size + 3 := by simp
  obtain ⟨W0, hW0⟩ : ∃ W0, (((w.alloc (cell6 t.k t.p t.n t.s lv kv)).alloc (.cells #[.int .i64 0] 3)).alloc (.cells #[.pointer (some ⟨w.heap.size, 0, none⟩)] 60)) = W0 := ⟨_, rfl⟩
  rw [hW0] at h6 hc hp hbel hsz0 ⊢
  clear hW0
  have hty := boxed_tyAt (S := fun k => B k ∨ k = w.heap.size) h6 (hv.to hB hbel) (fun _ h => .inl h) (.inr rfl)
  have hX : ∀ k, k = w.heap.size + 1 → ¬ (B k ∨ k = w.heap.size) ∧ k < W0.heap.size := fun k e => ⟨fun h => h.elim (fun h => by have := hB k h; omega) (fun h => by omega), by omega⟩
  have hS : ∀ k, (B k ∨ k = w.heap.size) → k < W0.heap.size := fun k h => h.elim (fun h => by have := hB k h; omega) (fun h => by omega)
  refine wpIn_range_told rfl h1 (gf := 81) (lb := #[.pointer (some ⟨w.heap.size + 1 + 1, 0, none⟩)]) rfl trivial (enters_of Tryd.func81 (by kernel_rfl) rfl)
    (nodes_tells (n - 1) (w.heap.size + 1 + 1) w.heap.size 0 t (fun k => B k ∨ k = w.heap.size) (fun k => k = w.heap.size + 1) W0 hX hS (by omega) hp hty hdep) (fun h g => KV.trans h g) (fun W l o o' _ h ho _ => KV.of_cells (by simp) (cellsKept_put h ho)) (fun x A B h hp => Px.kept h hp) (Below.refl _ _) (fun _ => rfl)
    (fun pre W => W.heap[w.heap.size + 1]? = some (.cells #[.int .i64 (wrap64 pre.length)] 3 (0, 0)) ∧ Below w.heap.size w W) (fun _ _ _ => False)
    ((abides_boxed (by omega) _ _).and (abidesAll_below (by omega) (Nat.le_refl _))) (fun _ _ _ _ _ h _ _ => h) ⟨by rw [show wrap64 ((([] : List Nd).length : Nat) : Int) = 0 from w64_id _ (by simp) (by simp)]; exact hc, hbel⟩
    (fun x a' _ => a' = { tmps := #[.agg #[.int .i64 t.k, .int .i64 t.p, .string t.n, .int .i64 t.s, lv, kv], .pointer (some ⟨w.heap.size, 0, none⟩), .int .i64 0, .pointer (some ⟨w.heap.size + 1, 0, none⟩),
      .func (.func 81) #[] #[.pointer (some ⟨w.heap.size + 1 + 1, 0, none⟩)], .agg #[x.ar, .int .i64 x.kid], .pointer (some ⟨x.b, x.o, none⟩), undef, undef, undef], defers := [] }) (fun _ _ _ _ _ h => h) ?assign ?body ?done ?stop
  case assign =>
    intro l pre x W K hi hp hK
    simp only [ndArgs]
    gi_wp2
    exact hK _ _ (KeepsFrom.refl _ _) (KV.refl _ _ _) hi hp (by simp)
  case body =>
    rintro l pre x a' W hl _ ⟨hb, hbw⟩ hpx rfl
    have c0 : W.cell? ⟨w.heap.size + 1, 0, none⟩ = some (.int .i64 (wrap64 pre.length)) := by simp [World.cell?, hb]
    have f0 : W.frozen? ⟨w.heap.size + 1, 0, none⟩ = false := by simp [World.frozen?, hb]
    have HB := Lib.hid hb
    clear hb hpx
    gi_wp2
    refine ⟨(KeepsOthers.setCell _ _ _).from _, ?_, ?_, hbw.setCell (p := ⟨w.heap.size + 1, 0, none⟩) (by simp) _⟩
    · exact ⟨by simp, fun k o hk hc hx _ => (Below.heap_setCell _ _ _ k (fun e => hx e)).trans hk⟩
    · rw [w64_succ x pre]
      exact set_block HB.out 0 _
  case done =>
    rintro D ys W hD hys ⟨hb, hbw⟩ hK
    have hlen : ys.length = t.size := by
      have := congrArg List.length hys
      rwa [List.length_map, preT_length] at this
    rw [hlen, w64_id _ (by omega) (by omega)] at hb
    have c0 : W.cell? ⟨w.heap.size + 1, 0, none⟩ = some (.int .i64 t.size) := by simp [World.cell?, hb]
    have HK := Lib.hid hK
    clear hb hys hlen hK
    gi_wp2
    refine ⟨by simp, .inl ⟨_, _, rfl, run_takeDeferred HK.out, ?_⟩⟩
    exact ⟨_, results_tmp rfl _ _ _, rfl, hbw.trans (belowK_b (w := w) (Nat.le_refl _) W D _ _ (by omega) HK.out rfl rfl)⟩
  case stop =>
    rintro D c pre W _ _ h _
    exact h.elim

theorem tsize_any (B : Nat → Prop) (t : Ty) (hsz : t.size ≤ 1000000) (hdep : t.depth ≤ 1000) (v : Value) (w : World) (hB : Low B w) (hv : TyVal B w v t) :
    Calls Tryd.prog 14 #[v] w fun e w' => e = .returned (.int .i64 t.size) ∧ Below w.heap.size w w' := by
  have hv' := hv
  obtain ⟨lv, kv, rfl, _⟩ := hv'
  exact callsIn_wide.1 (tsize_in 3 (by omega) B t hsz hdep lv kv w hB hv)

end Go.Proofs.YtliijbcgkkiekaaDoor

/- Processes: the iterator over the nodes. -/
namespace Go.Proofs.YtliijbcgkkiekaaDoor
open Go.RowKit Go.Deep Go.Shelf
attribute [local go_sem] Oper.semAt_some

/-- What a round is handed: the depth, the node. -/
structure Np where
  d : Nat
  b : Nat
  o : Nat
  p : Pr
abbrev npArgs (x : Np) : Array Value := #[.int .i64 x.d, .pointer (some ⟨x.b, x.o, none⟩)]
def Np.g (x : Np) : Nat × Pr := (x.d, x.p)
mutual
/-- All nodes, each before its Kids, with its depth. -/
def preP (d : Nat) : Pr → List (Nat × Pr)
  | .mk k c x ls vs t ps => (d, .mk k c x ls vs t ps) :: prePs (d + 1) ps
def prePs (d : Nat) : List Pr → List (Nat × Pr)
  | [] => []
  | p :: r => preP d p ++ prePs d r
end
theorem preP_eq (d : Nat) (p : Pr) : preP d p = (d, p) :: prePs (d + 1) p.ps := by cases p; simp [preP, Pr.ps]
theorem prePs_append (d : Nat) : ∀ (l r : List Pr), prePs d (l ++ r) = prePs d l ++ prePs d r
  | [], r => by simp [prePs]
  | p :: l, r => by simp only [List.cons_append, prePs, prePs_append d l r, List.append_assoc]
theorem prePs_take {d : Nat} {l : List Pr} {j : Nat} {p : Pr} (h : l[j]? = some p) : prePs d (l.take (j + 1)) = prePs d (l.take j) ++ preP d p := by
  rw [take_snoc_get h, prePs_append]
  simp [prePs]
theorem prePs_prefix (d : Nat) (l : List Pr) (j : Nat) : prePs d (l.take j) <+: prePs d l := by
  conv => rhs; rw [← List.take_append_drop j l, prePs_append]
  exact List.prefix_append _ _

/-- What holds in memory at a round. -/
def Pp (S : Nat → Prop) (G : Pr → Prop) (x : Np) (W : World) : Prop := PrAt S W x.p x.b x.o ∧ (1 ≤ x.d ∧ x.d ≤ 100000) ∧ G x.p
theorem Pp.kept {S : Nat → Prop} {G : Pr → Prop} {x : Np} {W W' : World} (h : CellsKept W W') (hp : Pp S G x W) : Pp S G x W' := ⟨hp.1.keep (h.keeps S), hp.2⟩
/-- What is returned by visit. -/
def PisPost (X : Nat → Prop) (J Jx : List Np → World → Prop) (pre : List Np) (d : Nat) (p : Pr) (W : World) (e : Ending) (W' : World) : Prop :=
  (e = .returned (.bool true) ∧ (∃ ys, ys.map Np.g = preP d p ∧ J (pre ++ ys) W') ∧ Kp X W W') ∨
  (e = .returned (.bool false) ∧ ∃ ys, ys.map Np.g <+: preP d p ∧ Jx (pre ++ ys) W')

set_option maxRecDepth 100000 in
set_option maxHeartbeats 2000000 in
theorem pvisit_in (G : Pr → Prop) (hG : ∀ p, G p → ∀ u ∈ p.ps, G u) (F : Fence) (hd : F.depth = none) (hF : ∀ f, F.fn f) (hro : F.round = none) (l : Nat) (S X : Nat → Prop) (hX : ∀ k, X k → ¬ S k) (J Jx : List Np → World → Prop)
    (hY : ∀ m pre x W, J pre W → Pp S G x W → YieldAt F m Tryd.prog l (npArgs x) W fun e W' => (e = .returned (.bool true) ∧ J (pre ++ [x]) W' ∧ Kp X W W') ∨ (e = .returned (.bool false) ∧ Jx (pre ++ [x]) W')) :
    ∀ (p : Pr) (n d b o : Nat) (pre : List Np) (W : World), J pre W → PrAt S W p b o → d + p.depth ≤ 100000 → 1 ≤ d → G p →
      CallsIn F n Tryd.prog 94 #[.int .i64 d, .pointer (some ⟨b, o, none⟩), .func (.yield l) #[] #[]] W (PisPost X J Jx pre d p W) := by
  refine Pr.ind ?_
  intro k c x ls vs t ps ih n d b o pre W hj hpr hdep hd1 hg0
  obtain ⟨p, hp0⟩ : ∃ p, Pr.mk k c x ls vs t ps = p := ⟨_, rfl⟩
  have hps : ps = p.ps := by rw [← hp0]; rfl
  rw [hp0] at hpr hdep hg0 ⊢
  have hdd : ∀ k : Nat, (F.depth.isSome = true → 1 ≤ k) := fun k h => by rw [hd] at h; cases h
  have hpos := p.depth_pos
  obtain ⟨fn, tmps, assign, body, hy, hR⟩ := hY (n - 1) pre ⟨d, b, o, p⟩ W hj ⟨hpr, ⟨hd1, by show d ≤ _; omega⟩, hg0⟩
  simp only [npArgs] at hy
  have HR := Lib.hid hR
  have HGK := Lib.hid (hG p hg0)
  have HPR := Lib.hid hpr
  have HPS := Lib.hid hps
  have HIH := Lib.hid ih
  clear hR hg0 hpr hps hp0 hj ih
  refine callsIn_of_wp Tryd.func94 rfl (hF _) ?_ hro
  simp only [Tryd.ntmps94, List.size_toArray, List.length_cons, List.length_nil, Nat.reduceAdd, Nat.reduceSub, Array.replicate_succ, Array.replicate_zero, List.push_toArray, List.append_toArray, List.nil_append, List.cons_append]
  gi_wp2_with fail
  refine HR.out.mono ?_
  rintro e W2 (⟨rfl, hj2, hk2⟩ | ⟨rfl, hx2⟩)
  · have hkS : Keeps S W W2 := hk2.keeps (fun k hk => ⟨fun hx => hX k hx hk, by simp [Value.ownBlock]⟩)
    obtain ⟨la, ln, lc, aa, an, ac, ta, tn, tc, ua, un, uc, ka, kn, kc, ⟨_, _, _, _, _, _, _, _, _, _, _, c11⟩, hval⟩ := (HPR.out.keep hkS).load'
    obtain ⟨_, _, _, _, _, e, _, _, _, _, hks⟩ := hval
    simp only [prAgg, Value.agg.injEq, Array.mk.injEq, List.cons.injEq, and_true, true_and] at e
    obtain ⟨rfl, rfl, rfl, rfl, rfl⟩ := e
    obtain ⟨ka', kn', kc', he, hlen, hmx, hget⟩ := hks.open
    simp only [Value.slice.injEq] at he
    obtain ⟨rfl, rfl, rfl⟩ := he
    have hSb : S b := (PrAt.eq.1 HPR.out).1
    have HG := Lib.hid hget
    have HC := Lib.hid c11
    have HJ2 := Lib.hid hj2
    have HK2 := Lib.hid hk2
    clear hget hj2 hk2 hkS hks hy
    gi_wp2_with fail
    gi_loopw [18] (fun i wr => ∃ (j : Nat) (ys : List Np), i = .int .i64 j ∧ j ≤ kn ∧ Hid (ys.map Np.g = prePs (d + 1) (p.ps.take j)) ∧ Hid (J (pre ++ [⟨d, b, o, p⟩] ++ ys) wr) ∧ Hid (Kp X W2 wr)) (fun i _ => kn - (intOf i).toNat)
    case atStart => exact ⟨0, [], rfl, by omega, Lib.hid (by simp [prePs]), Lib.hid (by rw [List.append_nil]; exact HJ2.out), Lib.hid (KV.refl _ _ _)⟩
    case round =>
      obtain ⟨j, ys, rfl, hj, HYS, HJJ, HKV⟩ := hrel
      by_cases hlt : j < kn
      · obtain ⟨u, hu⟩ : ∃ u, p.ps[j]? = some u := ⟨_, List.getElem?_eq_getElem (by rw [← hlen.out]; exact hlt)⟩
        obtain ⟨kb, ko, rfl, hkb, hu'⟩ := HG.out j u hu
        have hkS : Keeps S W2 wr := HKV.out.keeps (fun k hk => ⟨fun hx => hX k hx hk, by simp [Value.ownBlock]⟩)
        have c11 := hkS.cell hSb HC.out
        have hmem : u ∈ ps := by rw [HPS.out]; exact List.mem_of_getElem? hu
        have hdu : u.depth + 1 ≤ p.depth := by rw [p.depth_eq]; have := Pr.depth_mem (List.mem_of_getElem? hu); omega
        have IH := Lib.hid (fun n' => HIH.out u hmem n' (d + 1) kb (ko + j * 12) (pre ++ [⟨d, b, o, p⟩] ++ ys) wr HJJ.out (hu'.keep hkS) (by omega) (by omega) (HGK.out u (List.mem_of_getElem? hu)))
        have hcast : (((d + 1 : Nat)) : Int) = (d : Int) + 1 := by omega
        rw [hcast] at IH
        have HPT := Lib.hid (prePs_take (d := d + 1) hu)
        have HPP := Lib.hid (prePs_prefix (d + 1) p.ps (j + 1))
        clear hu hu' hkS hmem hdu hcast
        gi_wp2_with fail
        refine (IH.out _).mono ?_
        rintro e w4 (⟨rfl, ⟨zs, hz1, hz2⟩, hkv⟩ | ⟨rfl, zs, hz1, hz2⟩)
        · have hys : Hid ((ys ++ zs).map Np.g = prePs (d + 1) (p.ps.take (j + 1))) := Lib.hid (by rw [List.map_append, HYS.out, hz1, HPT.out])
          have hjj : Hid (J (pre ++ [⟨d, b, o, p⟩] ++ (ys ++ zs)) w4) := Lib.hid (by rw [← List.append_assoc]; exact hz2)
          have hkk := Lib.hid (HKV.out.trans hkv)
          clear hz1 hz2 hkv
          gi_wp2_with fail
          exact ⟨⟨j + 1, ys ++ zs, by go_num, by omega, hys, hjj, hkk⟩, by simp [intOf]; omega⟩
        · have hq : ∃ q, q.map Np.g <+: preP d p ∧ Jx (pre ++ q) w4 := by
            refine ⟨[⟨d, b, o, p⟩] ++ (ys ++ zs), ?_, by simpa [List.append_assoc] using hz2⟩
            rw [preP_eq, List.map_append, List.map_append, HYS.out]
            refine (List.prefix_cons_inj _).2 ((List.IsPrefix.trans ?_ HPP.out))
            rw [HPT.out]
            refine (List.prefix_append_right_inj _).2 ?_
            simpa using hz1
          have HQ := Lib.hid hq
          clear hz1 hz2 hq
          gi_wp2
          go_ret
          exact .inr ⟨rfl, HQ.out⟩
      · obtain rfl : j = kn := by omega
        have hq : ∃ q, q.map Np.g = preP d p ∧ J (pre ++ q) wr := by
          refine ⟨[⟨d, b, o, p⟩] ++ ys, ?_, by simpa [List.append_assoc] using HJJ.out⟩
          rw [preP_eq, List.map_append, HYS.out, List.take_of_length_le (by rw [hlen.out]; exact Nat.le_refl _)]
          rfl
        have HQ := Lib.hid hq
        clear hq
        gi_wp2
        go_ret
        exact .inl ⟨rfl, HQ.out, HK2.out.trans HKV.out⟩
  · gi_wp2
    go_ret
    exact .inr ⟨rfl, [_], by rw [preP_eq]; exact ⟨prePs (d + 1) p.ps, rfl⟩, hx2⟩

set_option maxHeartbeats 1000000 in
theorem pnodes_any (a : Option Addr) (w : World) :
    Calls Tryd.prog 60 #[.pointer a] w fun e w' => e = .returned (.func (.func 93) #[] #[.pointer (some ⟨w.heap.size, 0, none⟩)]) ∧ w' = w.alloc (.cells #[.pointer a] 86) := by
  go_enter Tryd.func60, Tryd.ntmps60
  go_wp2
  go_ret
  exact ⟨rfl, rfl⟩

set_option maxRecDepth 100000 in
set_option maxHeartbeats 1000000 in
/-- The iterator that nodes returns tells each node, and its depth. -/
theorem pnodes_tells (G : Pr → Prop) (hG : ∀ p, G p → ∀ u ∈ p.ps, G u) (n : Nat) (Bt b o : Nat) (p : Pr) (S X : Nat → Prop) (w : World) (hX : ∀ k, X k → ¬ S k) (hS : ∀ k, S k → k < w.heap.size) (hBt : Bt < w.heap.size) (hc : w.cell? ⟨Bt, 0, none⟩ = some (.pointer (some ⟨b, o, none⟩))) (hpr : PrAt S w p b o) (hdep : p.depth ≤ 99999) (hg : G p) :
    Tells Fence.wide n Tryd.prog 93 #[.pointer (some ⟨Bt, 0, none⟩)] npArgs (Pp S G) (Kp X) (fun ys => ys.map Np.g = preP 1 p) (fun pre => pre.map Np.g <+: preP 1 p) w := by
  intro l J Jx W hW hJ _ hY h0
  have hp := pvisit_in G hG Fence.wide rfl (fun _ => trivial) rfl l S X hX J Jx (fun m pre x W1 hj hpx => yield_any rfl m (hY pre x W1 hj hpx)) p (n - 1) 1 b o [] W h0 (hpr.keep (hW.keeps'.mono hS)) (by omega) (by omega) hg
  have hc' := (hW.cell (p := ⟨Bt, 0, none⟩) hBt).trans hc
  have HP := Lib.hid hp
  clear hp hY h0 hJ
  refine callsIn_of_wp Tryd.func93 rfl trivial ?_ rfl
  simp only [Tryd.ntmps93, List.size_toArray, List.length_cons, List.length_nil, Nat.reduceAdd, Nat.reduceSub, Array.replicate_succ, Array.replicate_zero, List.push_toArray, List.append_toArray, List.nil_append, List.cons_append]
  gi_wp2_with fail
  refine ⟨trivial, ⟨fun h => (by cases h), ?_⟩⟩
  refine HP.out.mono ?_
  rintro e W1 (⟨rfl, ⟨ys, h1, h2⟩, _⟩ | ⟨rfl, ys, h1, h2⟩)
  · have H1 := Lib.hid h1
    have H2 := Lib.hid h2
    clear h1 h2
    gi_wp2
    go_end0
    exact ⟨⟨_, rfl⟩, .inl ⟨ys, H1.out, by simpa using H2.out⟩⟩
  · have H1 := Lib.hid h1
    have H2 := Lib.hid h2
    clear h1 h2
    gi_wp2
    go_end0
    exact ⟨⟨_, rfl⟩, .inr ⟨ys, H1.out, by simpa using H2.out⟩⟩

end Go.Proofs.YtliijbcgkkiekaaDoor

/- Types: Depth, tooLarge. -/
namespace Go.Proofs.YtliijbcgkkiekaaDoor
open Go.RowKit Go.Deep Go.Shelf
attribute [local go_sem] Oper.semAt_some

set_option maxHeartbeats 1000000 in
theorem pdepth_any (pa : Option Addr) (an ac : Nat) (kid : Int) (hn : an ≤ 1000) (w : World) :
    Calls Tryd.prog 53 #[.agg #[.slice pa an ac, .int .i64 kid]] w fun e w' => e = .returned (.int .i64 ((an : Int) + 1)) ∧ w' = w.alloc (.cells #[.slice pa an ac, .int .i64 kid] 68) := by
  go_enter Tryd.func53, Tryd.ntmps53
  go_wp2
  go_ret
  exact ⟨rfl, rfl⟩

theorem Px.ar_eq {D : Nat} {S : Nat → Prop} {x : Nd} {W : World} (h : Px D S x W) : ∃ pa ac, x.ar = .slice pa x.path.length ac := by
  obtain ⟨⟨_, _, h2, _⟩, _⟩ := h
  rcases h2.2 with ⟨h, h0⟩ | ⟨g, cap, cur, h, _⟩
  · exact ⟨none, 0, by rw [h, h0]⟩
  · exact ⟨_, _, h⟩

/-- The greatest depth of the nodes that have come. -/
def mdep (l : List (List Ty × Int × Ty)) : Nat := l.foldl (fun m x => max m (x.1.length + 1)) 0
theorem mdep_snoc (l : List (List Ty × Int × Ty)) (x : List Ty × Int × Ty) : mdep (l ++ [x]) = max (mdep l) (x.1.length + 1) := by simp [mdep]
theorem foldl_max (l : List (List Ty × Int × Ty)) : ∀ m : Nat, l.foldl (fun m x => max m (x.1.length + 1)) m = max m (mdep l) := by
  induction l with
  | nil => intro m; simp [mdep]
  | cons x l ih => intro m; simp only [mdep, List.foldl_cons]; rw [ih, ih (max 0 _)]; omega
theorem mdep_append (l r : List (List Ty × Int × Ty)) : mdep (l ++ r) = max (mdep l) (mdep r) := by
  unfold mdep; rw [List.foldl_append, foldl_max]; rfl
theorem mdep_preT : ∀ (t : Ty) (path : List Ty) (kid : Int), mdep (preT path kid t) = path.length + t.depth := by
  refine Ty.ind ?_
  intro k p n s ls ts ih path kid
  have h : ∀ (l : List Ty) (path : List Ty) (kid : Int), (∀ t ∈ l, ∀ (path : List Ty) (kid : Int), mdep (preT path kid t) = path.length + t.depth) → max path.length (mdep (preTs path kid l)) = path.length + Ty.depths l := by
    intro l
    induction l with
    | nil => intro _ _ _; simp [preTs, Ty.depths, mdep]
    | cons u r ihl =>
      intro path kid hh
      have h1 := hh u (by simp) path kid
      have h2 := ihl path (kid + 1) (fun t ht => hh t (by simp [ht]))
      have h3 := u.depth_pos
      rw [preTs, mdep_append, Ty.depths]; omega
  have h1 := h ts (path ++ [Ty.mk k p n s ls ts]) 0 ih
  rw [preT_eq, Ty.depth_eq]
  show mdep ([_] ++ _) = _
  rw [mdep_append]
  simp only [List.length_append, List.length_cons, List.length_nil, Ty.ts] at h1 ⊢
  have h2 : mdep [(path, kid, Ty.mk k p n s ls ts)] = path.length + 1 := by simp [mdep]
  omega

/-- The round's box of the place. -/
def PlaceBox (D : Nat) (x : Nd) (b3 : Nat) (W : World) : Prop := D ≤ b3 ∧ W.heap[b3]? = some (.cells #[x.ar, .int .i64 x.kid] 68 (0, 0))
theorem PlaceBox.kept {D : Nat} {x : Nd} {b3 : Nat} {A B : World} (h : CellsKept A B) (hp : PlaceBox D x b3 A) : PlaceBox D x b3 B := ⟨hp.1, h _ _ hp.2 rfl⟩

theorem below_seq' {a b c : World} (h : Below a.heap.size a b) (k : Below b.heap.size b c) : Below a.heap.size a c := below_seq h k
/-- The world in which a function over a type begins to range over its nodes. -/
structure Begin (B : Nat → Prop) (t : Ty) (lv kv : Value) (w : World) (bt bp : Nat) (W0 : World) : Prop where
  below : Below w.heap.size w W0
  tyAt : TyAt (fun k => B k ∨ k = bt) W0 t bt 0
  ptr : W0.cell? ⟨bp, 0, none⟩ = some (.pointer (some ⟨bt, 0, none⟩))

set_option maxRecDepth 100000 in
set_option maxHeartbeats 2000000 in
theorem tdepth_in (n : Nat) (hn : 3 ≤ n) (B : Nat → Prop) (t : Ty) (hdep : t.depth ≤ 1000) (lv kv : Value) (w : World) (hB : Low B w) (hv : TyVal B w (.agg #[.int .i64 t.k, .int .i64 t.p, .string t.n, .int .i64 t.s, lv, kv]) t) :
    CallsIn Fence.wide n Tryd.prog 16 #[.agg #[.int .i64 t.k, .int .i64 t.p, .string t.n, .int .i64 t.s, lv, kv]] w fun e w' => e = .returned (.int .i64 t.depth) ∧ Below w.heap.size w w' := by
  have h1 : 1 ≤ n := by omega
  refine callsIn_of_wp_marks Tryd.func16 rfl trivial ?_ rfl
  simp only [Tryd.ntmps16, List.size_toArray, List.length_cons, List.length_nil, Nat.reduceAdd, Nat.reduceSub, Array.replicate_succ, Array.replicate_zero, List.push_toArray, List.append_toArray, List.nil_append, List.cons_append]
  gi_wp2_with (refine ⟨trivial, ?_⟩; gi_at_call 50; refine (callsIn_wide.2 (nodes_any _ _)).mono ?_; rintro e w' ⟨rfl, rfl⟩)
  have h6 := (Six.new w (.int .i64 t.k) (.int .i64 t.p) (.string t.n) (.int .i64 t.s) lv kv).to (box2_below _ (.cells #[.int .i64 0] 3) (.cells #[.pointer (some ⟨w.heap.size, 0, none⟩)] 60))
  have hc : (((w.alloc (cell6 t.k t.p t.n t.s lv kv)).alloc (.cells #[.int .i64 0] 3)).alloc (.cells #[.pointer (some ⟨w.heap.size, 0, none⟩)] 60)).heap[w.heap.size + 1]? = some (.cells #[.int .i64 0] 3 (0, 0)) := by
    have h := World.alloc_heap_new (w.alloc (cell6 t.k t.p t.n t.s lv kv)) (.cells #[.int .i64 0] 3)
    rw [World.size_alloc] at h
    exact (Below.heap_alloc _ _ _ (by simp)).trans h
  have hp : (((w.alloc (cell6 t.k t.p t.n t.s lv kv)).alloc (.cells #[.int .i64 0] 3)).alloc (.cells #[.pointer (some ⟨w.heap.size, 0, none⟩)] 60)).cell? ⟨w.heap.size + 1 + 1, 0, none⟩ = some (.pointer (some ⟨w.heap.size, 0, none⟩)) := by
    have h := blk_cell (w := (w.alloc (cell6 t.k t.p t.n t.s lv kv)).alloc (.cells #[.int .i64 0] 3)) (cs := #[.pointer (some ⟨w.heap.size, 0, none⟩)]) (t := 60) (Below.refl _ _) 0 rfl
    simpa using h
  have hbel := box3_below w (cell6 t.k t.p t.n t.s lv kv) (.cells #[.int .i64 0] 3) (.cells #[.pointer (some ⟨w.heap.size, 0, none⟩)] 60)
  have hsz0 : (((w.alloc (cell6 t.k t.p t.n t.s lv kv)).alloc (.cells #[.int .i64 0] 3)).alloc (.cells #[.pointer (some ⟨w.heap.size, 0, none⟩)] 60)).heap.size = w.heap.size + 3 := by simp
  obtain ⟨W0, hW0⟩ : ∃ W0, (((w.alloc (cell6 t.k t.p t.n t.s lv kv)).alloc (.cells #[.int .i64 0] 3)).alloc (.cells #[.pointer (some ⟨w.heap.size, 0, none⟩)] 60)) = W0 := ⟨_, rfl⟩
  rw [hW0] at h6 hc hp hbel hsz0 ⊢
  clear hW0
  have hty := boxed_tyAt (S := fun k => B k ∨ k = w.heap.size) h6 (hv.to hB hbel) (fun _ h => .inl h) (.inr rfl)
  have hX : ∀ k, k = w.heap.size + 1 → ¬ (B k ∨ k = w.heap.size) ∧ k < W0.heap.size := fun k e => ⟨fun h => h.elim (fun h => by have := hB k h; omega) (fun h => by omega), by omega⟩
  have hS : ∀ k, (B k ∨ k = w.heap.size) → k < W0.heap.size := fun k h => h.elim (fun h => by have := hB k h; omega) (fun h => by omega)
  refine wpIn_range_told rfl h1 (gf := 81) (lb := #[.pointer (some ⟨w.heap.size + 1 + 1, 0, none⟩)]) rfl trivial (enters_of Tryd.func81 (by kernel_rfl) rfl)
    (nodes_tells (n - 1) (w.heap.size + 1 + 1) w.heap.size 0 t (fun k => B k ∨ k = w.heap.size) (fun k => k = w.heap.size + 1) W0 hX hS (by omega) hp hty hdep) (fun h g => KV.trans h g) (fun W l o o' _ h ho _ => KV.of_cells (by simp) (cellsKept_put h ho)) (fun x A B h hp => Px.kept h hp) (Below.refl _ _) (fun _ => rfl)
    (fun pre W => (W.heap[w.heap.size + 1]? = some (.cells #[.int .i64 (mdep (pre.map Nd.g) : Nat)] 3 (0, 0)) ∧ mdep (pre.map Nd.g) ≤ 1001) ∧ Below w.heap.size w W) (fun _ _ _ => False)
    (((abides_boxed (by omega) _ _).and (abidesAll_pure _ _)).and (abidesAll_below (by omega) (Nat.le_refl _))) (fun _ _ _ _ _ h _ _ => h) ⟨⟨hc, by simp [mdep]⟩, hbel⟩
    (fun x a' W => ∃ b3, PlaceBox (w.heap.size + 2) x b3 W ∧ a' = { tmps := #[.agg #[.int .i64 t.k, .int .i64 t.p, .string t.n, .int .i64 t.s, lv, kv], .pointer (some ⟨w.heap.size, 0, none⟩), .int .i64 0, .pointer (some ⟨w.heap.size + 1, 0, none⟩), .pointer (some ⟨b3, 0, none⟩),
      .func (.func 81) #[] #[.pointer (some ⟨w.heap.size + 1 + 1, 0, none⟩)], .agg #[x.ar, .int .i64 x.kid], .pointer (some ⟨x.b, x.o, none⟩), undef, undef, undef, undef, undef], defers := [] }) (fun x a' A B hk ⟨b3, hb, e⟩ => ⟨b3, hb.kept hk, e⟩) ?assign ?body ?done ?stop
  case assign =>
    intro l pre x W K hi hp hK
    simp only [ndArgs]
    obtain ⟨pa, ac, har⟩ := hp.ar_eq
    have hz : w.heap.size + 1 < W.heap.size := (Array.getElem?_eq_some_iff.1 hi.1.1).1
    have hi2 := hi
    have HI := Lib.hid hi
    have HP := Lib.hid hp
    clear hi hp
    gi_wp2
    have hck := cellsKept_alloc W (.cells #[.slice pa x.path.length ac, .int .i64 x.kid] 68)
    exact hK _ _ ((KeepsOthers.alloc _ _).from _) (KV.of_cells (by simp) hck) ⟨⟨hck _ _ HI.out.1.1 rfl, HI.out.1.2⟩, below_seq' HI.out.2 (blkBelow W _ _)⟩ (Px.kept hck HP.out) ⟨W.heap.size, ⟨by omega, by rw [har]; exact World.alloc_heap_new W _⟩, by rw [har]⟩
  case body =>
    rintro l pre x a' W hl _ ⟨⟨hb, hmx⟩, hbw⟩ hpx ⟨b3, ⟨hb3, hpb⟩, rfl⟩
    obtain ⟨pa, ac, har⟩ := hpx.ar_eq
    have hpl := hpx.2.2
    have hlt := (Array.getElem?_eq_some_iff.1 hpb).1
    rw [har] at hpb ⊢
    obtain ⟨m, hm⟩ : ∃ m, mdep (pre.map Nd.g) = m := ⟨_, rfl⟩
    rw [hm] at hb hmx
    have c0 : W.cell? ⟨w.heap.size + 1, 0, none⟩ = some (.int .i64 (m : Nat)) := by simp [World.cell?, hb]
    have f0 : W.frozen? ⟨w.heap.size + 1, 0, none⟩ = false := by simp [World.frozen?, hb]
    have d0 : W.cell? ⟨b3, 0, none⟩ = some (.slice pa x.path.length ac) := by simp [World.cell?, hpb]
    have d1 : W.cell? ⟨b3, 1, none⟩ = some (.int .i64 x.kid) := by simp [World.cell?, hpb]
    have hbl : w.heap.size + 1 < W.heap.size := (Array.getElem?_eq_some_iff.1 hb).1
    have HB := Lib.hid hb
    have HM := Lib.hid hm
    clear hb hpx hpb har hm
    have hM2 : mdep ((pre ++ [x]).map Nd.g) = max m (x.path.length + 1) := by
      rw [List.map_append, List.map_cons, List.map_nil, mdep_snoc, HM.out]; rfl
    obtain ⟨M, hMM⟩ : ∃ M, mdep ((pre ++ [x]).map Nd.g) = M := ⟨_, rfl⟩
    have hMle : M ≤ 1001 := by omega
    have hMe : M = max m (x.path.length + 1) := by omega
    have HMM := Lib.hid hMM
    have HMe := Lib.hid hMe
    clear hM2 hMM hMe
    gi_wp2_with fail
    gi_region_with (refine ⟨trivial, ⟨fun h => (by cases h), ?_⟩⟩; refine (CallsIn.inRound l (callsIn_wide.2 (pdepth_any _ _ _ _ hpl _))).mono ?_; rintro e w1 ⟨rfl, rfl⟩)
    all_goals
      have hM : (if (m : Int) < (x.path.length : Int) + 1 then (x.path.length : Int) + 1 else (m : Int)) = (M : Int) := by
        have := HMe.out
        split <;> omega
      rw [hM]
      clear hM
      gi_wp2
      refine ⟨(((KeepsOthers.setCell _ _ _).trans (KeepsOthers.alloc _ _)).trans (KeepsOthers.drew _)).from _, ⟨by simp, fun k o hk hc hx _ => (Below.heap_alloc _ _ k (by have := (Array.getElem?_eq_some_iff.1 hk).1; simp; omega)).trans ((Below.heap_setCell _ _ _ k (fun e => hx e)).trans hk)⟩,
        ⟨?_, by rw [HMM.out]; exact hMle⟩, ((hbw.setCell (p := ⟨w.heap.size + 1, 0, none⟩) (by simp) _).alloc (by simp; omega) _).drew⟩
      rw [HMM.out]
      exact (Below.heap_alloc _ _ _ (by simp; omega)).trans (set_block HB.out 0 _)
  case done =>
    rintro D ys W hD hys ⟨⟨hb, _⟩, hbw⟩ hK
    rw [hys, mdep_preT] at hb
    simp only [List.length_nil, Nat.zero_add] at hb
    have c0 : W.cell? ⟨w.heap.size + 1, 0, none⟩ = some (.int .i64 t.depth) := by simp [World.cell?, hb]
    have HK := Lib.hid hK
    clear hb hys hK
    gi_wp2
    refine ⟨by simp, .inl ⟨_, _, rfl, run_takeDeferred HK.out, ?_⟩⟩
    exact ⟨_, results_tmp rfl _ _ _, rfl, hbw.trans (belowK_b (w := w) (Nat.le_refl _) W D _ _ (by omega) HK.out rfl rfl)⟩
  case stop =>
    rintro D c pre W _ _ h _
    exact h.elim

end Go.Proofs.YtliijbcgkkiekaaDoor
