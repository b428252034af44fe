/- Heads: the graph of few right types is small; raised references. (and what follows from it) -/
import Derived.Test.YtecdapihfiahiaaPv8

/- Heads: the graph of few right types is small; raised references. -/
namespace Go.Proofs.Ytecdapihfiahiaa
open Go.RowKit Go.Deep Go.Shelf

theorem pref_sh : ∀ (t : Ty) (i : Nat) (e : ByteArray → Nat), t.sok → -1000000 ≤ (t.pref i e).s ∧ (t.pref i e).s ≤ 1000000 := by
  refine Ty.ind ?_
  intro k p n s ls ts ih i e h
  simp only [Ty.sok] at h
  rw [Ty.pref]
  by_cases h8 : k = 8
  · rw [if_pos h8]
    match ts, ih, h with
    | [], _, _ => rw [Ty.pref1]; exact ⟨by show (-1000000 : Int) ≤ 0; decide, by show (0 : Int) ≤ 1000000; decide⟩
    | u :: r, ih, h => rw [Ty.pref1]; simp only [Ty.soks] at h; exact ih u (by simp) _ _ h.2.2.1
  · rw [if_neg h8]
    split
    · exact h.1
    · exact ⟨by show (-1000000 : Int) ≤ 0; decide, by show (0 : Int) ≤ 1000000; decide⟩
theorem prefs_sh (e : ByteArray → Nat) : ∀ (l : List Ty) (i : Nat), Ty.soks l → ∀ q ∈ Ty.prefs i e l, -1000000 ≤ q.s ∧ q.s ≤ 1000000
  | [], _, _, q, hq => by rw [Ty.prefs] at hq; cases hq
  | t :: r, i, h, q, hq => by
    rw [Ty.prefs] at hq
    simp only [Ty.soks] at h
    rcases List.mem_cons.1 hq with rfl | hq
    · exact pref_sh t i e h.1
    · exact prefs_sh e r _ h.2 q hq
theorem pnods_mem {x : GNode} {e : ByteArray → Nat} : ∀ (l : List Ty) (i : Nat), x ∈ Ty.pnods i e l → ∃ t ∈ l, ∃ j, x ∈ t.pnod j e
  | [], i, h => by rw [Ty.pnods] at h; cases h
  | t :: r, i, h => by
    rw [Ty.pnods] at h
    rcases List.mem_append.1 h with h | h
    · exact ⟨t, by simp, i, h⟩
    · obtain ⟨u, hu, j, hj⟩ := pnods_mem r _ h
      exact ⟨u, by simp [hu], j, hj⟩
theorem pnod_sh : ∀ (t : Ty) (i : Nat) (e : ByteArray → Nat), t.sok → ∀ x ∈ t.pnod i e, ∀ q ∈ x.nx, -1000000 ≤ q.s ∧ q.s ≤ 1000000 := by
  refine Ty.ind ?_
  intro k p n s ls ts ih i e h x hx
  simp only [Ty.sok] at h
  rw [Ty.pnod] at hx
  by_cases h8 : k = 8
  · rw [if_pos h8] at hx
    match ts, ih, h, hx with
    | [], _, _, hx => rw [Ty.pnod1] at hx; cases hx
    | u :: r, ih, h, hx =>
      rw [Ty.pnod1] at hx
      simp only [Ty.soks] at h
      exact ih u (by simp) _ _ h.2.2.1 x hx
  · rw [if_neg h8] at hx
    by_cases h9 : k = 9
    · rw [if_pos h9] at hx; cases hx
    · rw [if_neg h9] at hx
      rcases List.mem_cons.1 hx with rfl | hx
      · exact prefs_sh e ts _ h.2.2
      · obtain ⟨u, hu, j, hj⟩ := pnods_mem ts _ hx
        exact ih u hu j e (Ty.soks_mem h.2.2 u hu) x hj
theorem pnod_ls : ∀ (t : Ty) (names : List ByteArray) (g : Nat) (se : Bool) (i : Nat) (e : ByteArray → Nat), nodeR names g se t = 0 → ∀ x ∈ t.pnod i e, x.ls.length ≤ t.size := by
  refine Ty.ind ?_
  intro k p n s ls ts ih names g se i e h x hx
  obtain ⟨hs, h2⟩ := nodeR_shape h
  have hlen := Ty.length_sizes ts
  rw [Ty.size]
  rw [Ty.pnod] at hx
  by_cases h8 : k = 8
  · subst h8
    rw [if_pos rfl] at hx
    rw [if_neg (by decide), if_pos rfl] at h2
    match ts, ih, h2, hx with
    | [], _, _, hx => rw [Ty.pnod1] at hx; cases hx
    | u :: r, ih, h2, hx =>
      obtain ⟨se', hu⟩ := kidsR_all h2 u (by simp)
      rw [Ty.pnod1] at hx
      have := ih u (by simp) _ _ _ _ _ hu x hx
      rw [Ty.sizes]
      omega
  · rw [if_neg h8] at hx
    by_cases h9 : k = 9
    · rw [if_pos h9] at hx; cases hx
    · rw [if_neg h9] at hx
      rw [if_neg h9, if_neg h8] at h2
      rcases List.mem_cons.1 hx with rfl | hx
      · have hp := shape_ls hs
        simp only
        omega
      · obtain ⟨u, hu, j, hj⟩ := pnods_mem ts _ hx
        obtain ⟨se', ht⟩ := kidsR_all h2 u hu
        have := ih u hu _ _ _ j e ht x hj
        have := Ty.size_mem hu
        omega

theorem small_all {ts : List Ty} (h : ∀ t ∈ ts, nodeR [] 0 false t = 0) : smallG (gNodes ts) := by
  intro g hg
  obtain ⟨t, ht, j, hj⟩ := pnods_mem ts 0 hg
  have h1 := pnod_kp t [] 0 false j _ (h t ht) g hj
  exact ⟨h1.2.2, pnod_sh t j _ (sok_of t [] 0 false (h t ht)) g hj⟩
theorem labels_all {ts : List Ty} (h : ∀ t ∈ ts, nodeR [] 0 false t = 0) : ∀ g ∈ gNodes ts, g.ls.length ≤ Ty.sizes ts := by
  intro g hg
  obtain ⟨t, ht, j, hj⟩ := pnods_mem ts 0 hg
  have := pnod_ls t [] 0 false j _ (h t ht) g hj
  have := Ty.size_mem ht
  omega
theorem hnods_wf (L : Nat) : ∀ (l : List Ty) (i : Nat), (∀ t ∈ l, nodeR [] 0 false t = 0) → i + Ty.gcnts l ≤ L → ∀ x ∈ Ty.pnods i (fun _ => 0) l, ∀ r ∈ x.nx, r.n < L
  | [], i, _, _, x, hx => by rw [Ty.pnods] at hx; cases hx
  | t :: l, i, h, hi, x, hx => by
    rw [Ty.pnods] at hx
    rw [Ty.gcnts] at hi
    rcases List.mem_append.1 hx with hx | hx
    · exact (pnod_wf L t [] 0 false i (fun _ => 0) (h t (by simp)) (Nat.le_refl _) (fun x hx => absurd hx (varR_nil 0 x)) (fun x hx => by cases hx) (by omega)).2 x hx
    · exact hnods_wf L l _ (fun u hu => h u (by simp [hu])) (by omega) x hx
theorem hwf_all {ts : List Ty} (h : ∀ t ∈ ts, nodeR [] 0 false t = 0) (hok : Ty.okgs ts) : wfG (gNodes ts) := by
  intro n g hg
  have hl : (gNodes ts).length = Ty.gcnts ts := by unfold gNodes; rw [pnods_ok _ _ hok]
  rw [hl]
  exact hnods_wf (Ty.gcnts ts) ts 0 h (by omega) g (List.mem_of_getElem? hg)
theorem prefs_wf (L : Nat) : ∀ (l : List Ty) (i : Nat), (∀ t ∈ l, nodeR [] 0 false t = 0) → i + Ty.gcnts l ≤ L → ∀ r ∈ Ty.prefs i (fun _ => 0) l, r.n < L
  | [], i, _, _, r, hr => by rw [Ty.prefs] at hr; cases hr
  | t :: l, i, h, hi, r, hr => by
    rw [Ty.prefs] at hr
    rw [Ty.gcnts] at hi
    rcases List.mem_cons.1 hr with rfl | hr
    · exact (pnod_wf L t [] 0 false i (fun _ => 0) (h t (by simp)) (Nat.le_refl _) (fun x hx => absurd hx (varR_nil 0 x)) (fun x hx => by cases hx) (by omega)).1
    · exact prefs_wf L l _ (fun u hu => h u (by simp [hu])) (by omega) r hr
theorem refs_all {ts : List Ty} (h : ∀ t ∈ ts, nodeR [] 0 false t = 0) (hok : Ty.okgs ts) : ∀ r ∈ gRefs ts, r.n < (gNodes ts).length ∧ -1000000 ≤ r.s ∧ r.s ≤ 1000000 := by
  intro r hr
  have hl : (gNodes ts).length = Ty.gcnts ts := by unfold gNodes; rw [pnods_ok _ _ hok]
  have hsk : ∀ l : List Ty, (∀ t ∈ l, nodeR [] 0 false t = 0) → Ty.soks l := by
    intro l
    induction l with
    | nil => intro _; simp [Ty.soks]
    | cons t r ih => intro hh; rw [Ty.soks]; exact ⟨sok_of t [] 0 false (hh t (by simp)), ih (fun u hu => hh u (by simp [hu]))⟩
  refine ⟨?_, prefs_sh _ ts 0 (hsk ts h) r hr⟩
  rw [hl]
  exact prefs_wf (Ty.gcnts ts) ts 0 h (by omega) r hr

/-! ### Raised references -/
def upR (k : Int) (r : GRef) : GRef := ⟨r.n, r.s + k⟩
theorem next_up (ns : List GNode) (k : Int) (r : GRef) (i : Int) : nextE ns (upR k r) i = (nextE ns r i).map (upR k) := by
  unfold nextE
  show (match ns[r.n]? with | some g => _ | none => none) = _
  cases ns[r.n]? with
  | none => rfl
  | some g =>
    dsimp only
    split
    · cases g.nx[i.toNat]? with
      | none => rfl
      | some q => simp only [upR, Option.map_some, Int.add_assoc]
    · rfl
theorem aft_up (ns : List GNode) (k : Int) : ∀ (l : List Int) (r : GRef), aftE ns (upR k r) l = (aftE ns r l).map (upR k)
  | [], r => rfl
  | i :: l, r => by
    rw [aftE, aftE, next_up]
    cases nextE ns r i with
    | none => rfl
    | some q => exact aft_up ns k l q
theorem aft_in {ns : List GNode} (hw : wfG ns) (hs : smallG ns) : ∀ (l : List Int) (r q : GRef), aftE ns r l = some q → -1000000 * (l.length : Int) ≤ q.s - r.s ∧ q.s - r.s ≤ 1000000 * (l.length : Int)
  | [], r, q, h => by
    obtain rfl := Option.some.inj h
    simp
  | i :: l, r, q, h => by
    rw [aftE] at h
    split at h
    · next p hp =>
      have h1 := next_in hw hs hp
      have h2 := aft_in hw hs l p q h
      rw [List.length_cons]
      omega
    · cases h
theorem prio_up (ns : List GNode) (k : Int) (r : GRef) : prioE ns (upR k r) = (prioE ns r).map (· + k) := by
  unfold prioE
  show (match ns[r.n]? with | some g => _ | none => none) = _
  cases ns[r.n]? with
  | none => rfl
  | some g =>
    dsimp only
    split
    · simp only [upR, Option.map_some, Int.add_assoc]
    · rfl
theorem prios_up (ns : List GNode) (k : Int) (rs : List GRef) : priosE ns (rs.map (upR k)) = (priosE ns rs).map (· + k) := by
  induction rs with
  | nil => rfl
  | cons r l ih =>
    have h : ∀ (r : GRef) (l : List GRef), priosE ns (r :: l) = (prioE ns r).toList ++ priosE ns l := fun r l => by
      unfold priosE
      rw [List.filterMap_cons]
      cases prioE ns r <;> rfl
    rw [List.map_cons, h, h, ih, prio_up, List.map_append]
    cases prioE ns r <;> rfl
theorem minF_up (k : Int) (l : List Int) (h : l ≠ []) : minF (l.map (· + k)) = minF l + k := by
  match l, h with
  | x :: l, _ =>
    simp only [List.map_cons, minF]
    induction l generalizing x with
    | nil => rfl
    | cons y r ih =>
      simp only [List.map_cons, List.foldl_cons]
      rw [show min (x + k) (y + k) = min x y + k by omega]
      exact ih _ (by simp)
theorem prios_le {ns : List GNode} (hs : smallG ns) {rs : List GRef} (hr : ∀ r ∈ rs, -1000000 ≤ r.s ∧ r.s ≤ 1000000) : ∀ x ∈ priosE ns rs, -2000000 ≤ x ∧ x ≤ 2000000 := by
  intro x hx
  obtain ⟨r, hm, h⟩ := List.mem_filterMap.1 hx
  unfold prioE at h
  split at h
  · next g hg =>
    split at h
    · obtain rfl := Option.some.inj h
      have h1 := (hs g (List.mem_of_getElem? hg)).1
      have h2 := hr r hm
      omega
    · cases h
  · cases h
theorem minF_mem {l : List Int} (h : l ≠ []) : minF l ∈ l := by
  match l, h with
  | x :: l, _ =>
    simp only [minF]
    induction l generalizing x with
    | nil => simp
    | cons y r ih =>
      rw [List.foldl_cons]
      have := ih (min x y) (by simp)
      rcases List.mem_cons.1 this with h | h
      · rw [h]
        rcases Int.le_total x y with h1 | h1
        · rw [Int.min_eq_left h1]; simp
        · rw [Int.min_eq_right h1]; simp
      · exact List.mem_cons_of_mem _ (List.mem_cons_of_mem _ h)
end Go.Proofs.Ytecdapihfiahiaa

/- Heads: Label. -/
namespace Go.Proofs.Ytecdapihfiahiaa
open Go.RowKit Go.Deep Go.Shelf

/-- The cells of what a call of Next answers. -/
def refN : Option GRef → Int
  | some q => (q.n : Int)
  | none => 0
def refS : Option GRef → Int
  | some q => q.s
  | none => 0
theorem refR_eq (o : Option GRef) : refR o = .tuple #[.agg #[.int .i64 (refN o), .int .i64 (refS o)], .bool o.isSome] := by cases o <;> rfl

set_option maxHeartbeats 8000000 in
set_option maxRecDepth 100000 in
theorem label_any (ns : List GNode) (na : Option Addr) (nn nc : Nat) (r : GRef) (g : GNode) (x : ByteArray) (w : World) (hns : NodeSl (fun k => k < w.heap.size) w (.slice na nn nc) ns) (hg : ns[r.n]? = some g) (hl : ns.length ≤ 1000000) (hx : ∀ g ∈ ns, g.nx.length ≤ 1000000) (hsm : smallG ns) (hs : -1000000000000 ≤ r.s ∧ r.s ≤ 1000000000000) :
    Calls Try.prog 11 #[grV na nn nc, rfV r.n r.s, .string x] w fun e w' => e = .returned (refR (nextE ns r (idxE x g.ls 0))) ∧ Below w.heap.size w w' := by
  have hr : r.n < ns.length := (List.getElem?_eq_some_iff.1 hg).1
  obtain ⟨hlt, hln, kb, ko, lv, xa, xc, rfl, hcl, _⟩ := node_at hns hg
  obtain ⟨la, ln, lc, rfl, _⟩ := ((hcl w (Below.refl _ _)).2.2.2.2).open
  obtain ⟨W3, hW3⟩ : ∃ W3, ((w.alloc (grO (some ⟨kb, ko, none⟩) nn nc)).alloc (refO (.int .i64 (r.n : Int)) (.int .i64 r.s))).alloc (refO (.int .i64 0) (.int .i64 0)) = W3 := ⟨_, rfl⟩
  obtain ⟨hs3, hb3, x0, x1, x2⟩ := three_made hW3
  obtain ⟨z, hz⟩ : ∃ z, idxE x g.ls 0 = z := ⟨_, rfl⟩
  rw [hz]
  obtain ⟨o, ho⟩ : ∃ o, nextE ns r z = o := ⟨_, rfl⟩
  rw [ho, refR_eq]
  have HIX : Hid (∀ (W : World), Below w.heap.size w W → Calls Try.prog 22 #[.slice la ln lc, .string x] W fun e w' => e = .returned (.int .i64 z) ∧ Below W.heap.size W w') := Lib.hid (fun W hW => by
    have h := index_any g.ls x (.slice la ln lc) (fun k => k < W.heap.size) W (hcl W hW).2.2.2.2
    rwa [hz] at h)
  have HNX : Hid (∀ (W : World), Below w.heap.size w W → Calls Try.prog 17 #[grV (some ⟨kb, ko, none⟩) nn nc, rfV r.n r.s, .int .i64 z] W fun e w' => e = .returned (.tuple #[.agg #[.int .i64 (refN o), .int .i64 (refS o)], .bool o.isSome]) ∧ Below W.heap.size W w') := Lib.hid (fun W hW => by
    have h := next_any ns (some ⟨kb, ko, none⟩) nn nc r z W ((hns.keep (hW.keeps'.mono (fun k hk => hk))).mono (fun k hk => Nat.lt_of_lt_of_le hk hW.size)) hr hl hx hsm (by omega)
    rwa [ho, refR_eq] at h)
  have HS : Hid (∀ (W : World), Below (w.heap.size + 2) W3 W → W.cell? ⟨w.heap.size, 0, none⟩ = some (.slice (some ⟨kb, ko, none⟩) nn nc) ∧ W.cell? ⟨w.heap.size + 1, 0, none⟩ = some (.int .i64 (r.n : Int)) ∧ W.cell? ⟨w.heap.size + 1, 1, none⟩ = some (.int .i64 r.s) ∧ W.cell? ⟨kb, ko + r.n * 4 + 2, none⟩ = some (.slice la ln lc)) := Lib.hid (fun W hW => by
    have a0 : W.heap[w.heap.size]? = _ := (hW.block _ (by omega)).trans x0
    obtain ⟨r0, r1, _, _⟩ := refO_cells ((hW.block _ (by omega)).trans x1)
    exact ⟨by simp [World.cell?, a0], r0, r1, (hcl W (hb3.trans (hW.mono (by omega)))).2.2.1⟩)
  have HW3 := Lib.hid hW3
  have HB3 := Lib.hid hb3
  have HX2 := Lib.hid x2
  have HS3 := Lib.hid hs3
  have hnn : nn ≤ 1000000 := by omega
  clear hln
  obtain ⟨tf, htf⟩ : ∃ b, o.isSome = b := ⟨_, rfl⟩
  rw [htf] at HNX
  rw [htf]
  obtain ⟨on, hon⟩ : ∃ n, refN o = n := ⟨_, rfl⟩
  obtain ⟨os, hos⟩ : ∃ n, refS o = n := ⟨_, rfl⟩
  rw [hon, hos] at HNX
  rw [hon, hos]
  clear hns hcl hW3 hb3 x0 x1 x2 hs3 hx hsm hr hg hl hz ho htf hon hos hs
  go_enter Try.func11, Try.ntmps11
  go_upto_region 1 with fail
  rw [show ((w.alloc (.cells #[.slice (some ⟨kb, ko, none⟩) nn nc] 29)).alloc (.cells #[.int .i64 (r.n : Int), .int .i64 r.s] 34)).alloc (.cells #[.int .i64 0, .int .i64 0] 34) = W3 from HW3.out]
  refine wp_region_held_drew (S := fun W => W.cell? ⟨w.heap.size, 0, none⟩ = some (.slice (some ⟨kb, ko, none⟩) nn nc) ∧ W.cell? ⟨w.heap.size + 1, 0, none⟩ = some (.int .i64 (r.n : Int)) ∧ W.cell? ⟨w.heap.size + 1, 1, none⟩ = some (.int .i64 r.s) ∧ W.cell? ⟨kb, ko + r.n * 4 + 2, none⟩ = some (.slice la ln lc)) (by kernel_rfl) (HS.out W3 (Below.refl _ _)) (fun hHeld => ?_)
  refine wpAnyH_take_l 0 (v := ?v0) rfl rfl (by kernel_rfl) (by kernel_rfl) (by kernel_rfl) (fun _ _ _ h => h) ?h0 (by assumption) ?r0
  case h0 => (intro w hSw; (try dsimp only at hSw); go_simp; try rfl)
  case' r0 => simp only [setD, List.set_cons_succ, List.set_cons_zero]
  refine wpAnyH_take_l 1 (v := ?v1) rfl rfl (by kernel_rfl) (by kernel_rfl) (by kernel_rfl) (fun _ _ _ h => h) ?h1 (by assumption) ?r1
  case h1 => (intro w hSw; (try dsimp only at hSw); go_simp; try rfl)
  case' r1 => simp only [setD, List.set_cons_succ, List.set_cons_zero]
  refine wpAnyH_take_l 2 (v := ?v2) rfl rfl (by kernel_rfl) (by kernel_rfl) (by kernel_rfl) (fun _ _ _ h => h) ?h2 (by assumption) ?r2
  case h2 => (intro w hSw; (try dsimp only at hSw); go_simp; try rfl)
  case' r2 => simp only [setD, List.set_cons_succ, List.set_cons_zero]
  refine wpAnyH_take_l 3 (v := ?v3) rfl rfl (by kernel_rfl) (by kernel_rfl) (by kernel_rfl) (fun _ _ _ h => h) ?h3 (by assumption) ?r3
  case h3 => (intro w hSw; (try dsimp only at hSw); go_simp; try rfl)
  case' r3 => simp only [setD, List.set_cons_succ, List.set_cons_zero]
  refine wpAnyH_take_l 4 (v := ?v4) rfl rfl (by kernel_rfl) (by kernel_rfl) (by kernel_rfl) (fun _ _ _ h => h) ?h4 (by assumption) ?r4
  case h4 => (intro w hSw; (try dsimp only at hSw); go_simp; try rfl)
  case' r4 => simp only [setD, List.set_cons_succ, List.set_cons_zero]
  refine wpAnyH_take_l 5 (v := ?v5) rfl rfl (by kernel_rfl) (by kernel_rfl) (by kernel_rfl) (fun _ _ _ h => h) ?h5 (by assumption) ?r5
  case h5 => (intro w hSw; (try dsimp only at hSw); go_simp; try rfl)
  case' r5 => simp only [setD, List.set_cons_succ, List.set_cons_zero]
  refine wpAnyH_take_l 6 (v := ?v6) rfl rfl (by kernel_rfl) (by kernel_rfl) (by kernel_rfl) (fun _ _ _ h => h) ?h6 (by assumption) ?r6
  case h6 => (intro w hSw; (try dsimp only at hSw); go_simp; try rfl)
  case' r6 => simp only [setD, List.set_cons_succ, List.set_cons_zero]
  refine wpAnyH_take_l 7 (v := ?v7) rfl rfl (by kernel_rfl) (by kernel_rfl) (by kernel_rfl) (fun _ _ _ h => h) ?h7 (by assumption) ?r7
  case h7 => (intro w hSw; (try dsimp only at hSw); go_simp; try rfl)
  case' r7 => simp only [setD, List.set_cons_succ, List.set_cons_zero]
  refine wpAnyH_take_l 8 (v := ?v8) rfl rfl (by kernel_rfl) (by kernel_rfl) (by kernel_rfl) (fun _ _ _ h => h) ?h8 (by assumption) ?r8
  case h8 => (intro w hSw; (try dsimp only at hSw); go_simp; try rfl)
  case' r8 => simp only [setD, List.set_cons_succ, List.set_cons_zero]
  refine wpAnyH_take_l 9 (v := ?v9) rfl rfl (by kernel_rfl) (by kernel_rfl) (by kernel_rfl) (fun _ _ _ h => h) ?h9 (by assumption) ?r9
  case h9 => (intro w hSw; (try dsimp only at hSw); go_simp; try rfl)
  case' r9 => simp only [setD, List.set_cons_succ, List.set_cons_zero]
  refine wpAnyH_one 10 rfl rfl (by kernel_rfl) (fun K hK => ?_)
  have hK2 := hK.out
  clear hK
  simp only [setD, List.set_cons_succ, List.set_cons_zero] at hK2 ⊢
  go_simp
  refine (HIX.out _ HB3.out.drew).mono ?_
  rintro en w4 ⟨rfl, hb4⟩
  dsimp only
  have hb4' : Below W3.heap.size W3 w4 := below_seq (Below.refl _ _).drew hb4
  refine hK2 _ _ (HS.out w4 (hb4'.mono (by have := HS3.out; omega))) (fun _ => ?_)
  clear hK2 K hb4
  have HB4 := Lib.hid hb4'
  clear hb4'
  refine wpAnyH_one 11 rfl rfl (by kernel_rfl) (fun K hK => ?_)
  have hK2 := hK.out
  clear hK
  simp only [setD, List.set_cons_succ, List.set_cons_zero] at hK2 ⊢
  go_simp
  refine (HNX.out w4 (HB3.out.trans (HB4.out.mono (by have := HS3.out; omega)))).mono ?_
  rintro en w5 ⟨rfl, hb5⟩
  dsimp only
  have hb5' : Below W3.heap.size W3 w5 := below_seq HB4.out hb5
  refine hK2 _ _ (HS.out w5 (hb5'.mono (by have := HS3.out; omega))) (fun _ => ?_)
  clear hK2 K hb5
  have HB5 := Lib.hid hb5'
  clear hb5'
  refine wpAnyH_take_l 12 (v := ?v12) rfl rfl (by kernel_rfl) (by kernel_rfl) (by kernel_rfl) (fun _ _ _ h => h) ?h12 (by assumption) ?r12
  case h12 => (intro w hSw; (try dsimp only at hSw); go_simp; try rfl)
  case' r12 => simp only [setD, List.set_cons_succ, List.set_cons_zero]
  refine wpAnyH_take_l 13 (v := ?v13) rfl rfl (by kernel_rfl) (by kernel_rfl) (by kernel_rfl) (fun _ _ _ h => h) ?h13 (by assumption) ?r13
  case h13 => (intro w hSw; (try dsimp only at hSw); go_simp; try rfl)
  case' r13 => simp only [setD, List.set_cons_succ, List.set_cons_zero]
  have x25 : w5.heap[w.heap.size + 2]? = some (refO (.int .i64 0) (.int .i64 0)) := (HB5.out.block _ (by have := HS3.out; omega)).trans HX2.out
  obtain ⟨z0, z1, z2, z3⟩ := refO_cells x25
  refine wpAnyH_one 14 rfl rfl (by kernel_rfl) (fun K hK => ?_)
  have hK2 := hK.out
  clear hK
  simp only [setD] at hK2 ⊢
  go_simp
  clear z0 z1 z2 z3
  obtain ⟨W6, hW6⟩ : ∃ W6, (w5.setCell ⟨w.heap.size + 2, 0, none⟩ (.int .i64 on)).setCell ⟨w.heap.size + 2, 1, none⟩ (.int .i64 os) = W6 := ⟨_, rfl⟩
  have hb6 : Below (w.heap.size + 2) w5 W6 := by rw [← hW6]; exact ((Below.refl (w.heap.size + 2) w5).setCell (p := ⟨w.heap.size + 2, 0, none⟩) (Nat.le_refl _) _).setCell (p := ⟨w.heap.size + 2, 1, none⟩) (Nat.le_refl _) _
  have x26 : W6.heap[w.heap.size + 2]? = some (refO (.int .i64 on) (.int .i64 os)) := by rw [← hW6]; exact refO_fill x25 _ _
  have hb36 : Below (w.heap.size + 2) W3 W6 := (HB5.out.mono (by have := HS3.out; omega)).trans hb6
  rw [hW6]
  refine hK2 undef W6 (HS.out W6 hb36) (fun _ => ?_)
  clear hK2 K hW6
  refine wpAnyH_take_l 15 (v := ?v15) rfl rfl (by kernel_rfl) (by kernel_rfl) (by kernel_rfl) (fun _ _ _ h => h) ?h15 (by assumption) ?r15
  case h15 => (intro w hSw; (try dsimp only at hSw); go_simp; try rfl)
  case' r15 => simp only [setD, List.set_cons_succ, List.set_cons_zero]
  refine wpAnyH_done (by kernel_rfl) ?_ _
  clear hHeld
  go_wp2_with fail
  obtain ⟨u0, u1, _, _⟩ := refO_cells x26
  refine bodyPost_ret (v := .tuple #[.agg #[.int .i64 on, .int .i64 os], .bool tf]) (by simp [results, Try.results11, go_sem, u0, u1]) rfl ?_
  exact ⟨rfl, HB3.out.trans (hb36.mono (by omega))⟩
end Go.Proofs.Ytecdapihfiahiaa
