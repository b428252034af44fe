/- Graphs: all references of a right type's graph are to nodes of it; least closed sets exist; rows of bools that are set one by one. (and what follows from it) -/
import Derived.Test.YtecdapihfiahiaaDoorPz9
import Derived.Laws.MakeOwn

/- Graphs: all references of a right type's graph are to nodes of it; least closed sets exist; rows of bools that are set one by one. -/
namespace Go.Proofs.YtecdapihfiahiaaDoor
open Go.RowKit Go.Deep Go.Shelf

/-! ### References of right types -/
theorem varR_nil (g : Nat) (n : ByteArray) : varR [] g n ≠ 0 := by
  unfold varR
  rw [List.length_nil, vR]
  decide
theorem varR_mem (g : Nat) (n : ByteArray) : ∀ (m : Nat) (l : List ByteArray), l.length = m → varR l g n = 0 → n ∈ l
  | 0, l, hl, h => by
    rw [List.length_eq_zero_iff.1 hl] at h
    exact absurd h (varR_nil g n)
  | m + 1, l, hl, h => by
    rcases List.eq_nil_or_concat l with rfl | ⟨l', x, rfl⟩
    · cases hl
    · simp only [List.concat_eq_append] at h hl ⊢
      rw [vR_snoc] at h
      by_cases hx : x = n
      · subst hx; simp
      · rw [if_neg hx] at h
        have := varR_mem g n m l' (by simp at hl; omega) h
        simp [this]
theorem prefs_lt {L : Nat} (e : ByteArray → Nat) {ts : List Ty} (h : ∀ t ∈ ts, ∀ i, i + t.gcnt ≤ L → (t.pref i e).n < L) : ∀ (l : List Ty) (i : Nat), (∀ t ∈ l, t ∈ ts) → i + Ty.gcnts l ≤ L → ∀ r ∈ Ty.prefs i e l, r.n < L
  | [], _, _, _, r, hr => by simp [Ty.prefs] at hr
  | t :: l, i, hm, hi, r, hr => by
    rw [Ty.prefs] at hr
    rw [Ty.gcnts] at hi
    rcases List.mem_cons.1 hr with rfl | hr
    · exact h t (hm t (by simp)) i (by omega)
    · exact prefs_lt e h l _ (fun u hu => hm u (by simp [hu])) (by omega) r hr
theorem pnod_wf (L : Nat) : ∀ (t : Ty) (names : List ByteArray) (g : Nat) (se : Bool) (i : Nat) (e : ByteArray → Nat), nodeR names g se t = 0 → g ≤ names.length → (∀ x, varR names g x = 0 → e x < L) → (∀ x ∈ names, e x < L ∨ e x = i) → i + t.gcnt ≤ L → (t.pref i e).n < L ∧ ∀ x ∈ t.pnod i e, ∀ r ∈ x.nx, r.n < L := by
  refine Ty.ind ?_
  intro k p n s ls ts ih names g se i e h hg hA hB hi
  obtain ⟨hs, h2⟩ := nodeR_shape h
  have hk := shape_k hs
  rw [Ty.pnod, Ty.pref]
  rw [Ty.gcnt] at hi
  by_cases h8 : k = 8
  · subst h8
    rw [if_neg (by decide), if_pos rfl] at h2
    rw [if_pos rfl, if_pos rfl]
    rw [if_neg (by decide)] at hi
    obtain ⟨u, rfl⟩ : ∃ u, ts = [u] := by
      match ts, shape_8 hs with
      | [u], _ => exact ⟨u, rfl⟩
    obtain ⟨se', hu⟩ := kidsR_all h2 u (by simp)
    rw [Ty.pnod1, Ty.pref1]
    simp only [Ty.gcnts] at hi
    refine ih u (by simp) (names ++ [n]) g se' i (upE e n i) hu (by simp; omega) (fun x hx => ?_) (fun x hx => ?_) (by omega)
    · rw [vR_snoc] at hx
      by_cases hn : n = x
      · rw [if_pos hn, if_neg (by omega)] at hx; exact absurd hx (by decide)
      · rw [if_neg hn] at hx
        simp only [upE, if_neg hn]; exact hA x hx
    · by_cases hn : n = x
      · right; simp [upE, hn]
      · simp only [upE, if_neg hn]
        rcases List.mem_append.1 hx with hx | hx
        · exact hB x hx
        · exact absurd (List.mem_singleton.1 hx).symm hn
  · rw [if_neg h8, if_neg h8]
    by_cases h9 : k = 9
    · rw [if_pos h9] at h2
      rw [if_pos h9, if_pos h9]
      exact ⟨hA n h2, fun x hx => by cases hx⟩
    · rw [if_neg h9, if_neg h8] at h2
      rw [if_neg h9, if_neg h9]
      rw [if_pos (by omega)] at hi
      have hkk := kidsR_all h2
      have hN : ∀ x ∈ names, e x < L := fun x hx => by rcases hB x hx with h | h <;> omega
      have hall : ∀ t ∈ ts, ∀ i, i + t.gcnt ≤ L → (t.pref i e).n < L ∧ ∀ x ∈ t.pnod i e, ∀ r ∈ x.nx, r.n < L := fun t ht i' hi' => by
        obtain ⟨se', ht'⟩ := hkk t ht
        exact ih t ht names names.length se' i' e ht' (Nat.le_refl _) (fun x hx => hN x (varR_mem _ x _ names rfl hx)) (fun x hx => .inl (hN x hx)) hi'
      refine ⟨by show i < L; omega, fun x hx => ?_⟩
      rcases List.mem_cons.1 hx with rfl | hx
      · exact prefs_lt e (fun t ht i' hi' => (hall t ht i' hi').1) ts (i + 1) (fun _ h => h) (by omega)
      · have h3 : ∀ (l : List Ty) (i : Nat), (∀ t ∈ l, t ∈ ts) → i + Ty.gcnts l ≤ L → ∀ x ∈ Ty.pnods i e l, ∀ r ∈ x.nx, r.n < L := by
          intro l
          induction l with
          | nil => intro i _ _ x hx; rw [Ty.pnods] at hx; cases hx
          | cons t r ihl =>
            intro i hm hi x hx
            rw [Ty.pnods] at hx
            rw [Ty.gcnts] at hi
            rcases List.mem_append.1 hx with hx | hx
            · exact (hall t (hm t (by simp)) i (by omega)).2 x hx
            · exact ihl _ (fun u hu => hm u (by simp [hu])) (by omega) x hx
        exact h3 ts (i + 1) (fun _ h => h) (by omega) x hx
theorem real_gcnt : ∀ t : Ty, t.okg → t.real = true → 1 ≤ t.gcnt := by
  refine Ty.ind ?_
  intro k p n s ls ts ih hok hr
  simp only [Ty.okg] at hok
  obtain ⟨hk9, h1, _, _, hk⟩ := hok
  rw [Ty.real] at hr
  rw [Ty.gcnt]
  by_cases h8 : k = 8
  · rw [if_pos h8] at hr
    obtain ⟨u, rfl⟩ : ∃ u, ts = [u] := by
      match ts, h1 h8 with
      | [u], _ => exact ⟨u, rfl⟩
    rw [Ty.real1] at hr
    simp only [Ty.okgs] at hk
    have := ih u (by simp) hk.1 hr
    simp only [Ty.gcnts]
    omega
  · rw [if_neg h8] at hr
    have h9 : k ≠ 9 := by simpa using hr
    rw [if_pos (by omega)]
    omega
/-- The graph of one right type. -/
theorem wf_one {t : Ty} (h : nodeR [] 0 false t = 0) (hok : t.okg) : wfG (gNodes [t]) := by
  have e : gNodes [t] = t.pnod 0 (fun _ => 0) := by simp [gNodes, Ty.pnods]
  intro n g hg
  have hm := List.mem_of_getElem? hg
  rw [e] at hm ⊢
  rw [pnod_ok t hok]
  exact (pnod_wf t.gcnt t [] 0 false 0 (fun _ => 0) h (Nat.le_refl _) (fun x hx => absurd hx (varR_nil 0 x)) (fun x hx => by cases hx) (by omega)).2 g hm
theorem pnod_nx : ∀ (t : Ty) (i : Nat) (e : ByteArray → Nat), ∀ x ∈ t.pnod i e, x.nx.length ≤ t.size := by
  refine Ty.ind ?_
  intro k p n s ls ts ih i e x hx
  have hl := Ty.length_sizes ts
  rw [Ty.size]
  have h1 : ∀ (i : Nat) (e : ByteArray → Nat), ∀ x ∈ Ty.pnod1 i e ts, x.nx.length ≤ Ty.sizes ts := by
    intro i e x hx
    match ts, ih, hx with
    | [], _, hx => rw [Ty.pnod1] at hx; cases hx
    | u :: r, ih, hx =>
      rw [Ty.pnod1] at hx
      have := ih u (by simp) i e x hx
      rw [Ty.sizes]
      omega
  have h3 : ∀ (l : List Ty) (i : Nat), (∀ t ∈ l, t ∈ ts) → ∀ x ∈ Ty.pnods i e l, x.nx.length ≤ Ty.sizes ts := by
    intro l
    induction l with
    | nil => intro i _ x hx; rw [Ty.pnods] at hx; cases hx
    | cons t r ihl =>
      intro i hm x hx
      rw [Ty.pnods] at hx
      rcases List.mem_append.1 hx with hx | hx
      · have := ih t (hm t (by simp)) i e x hx
        have := Ty.size_mem (hm t (by simp))
        omega
      · exact ihl _ (fun u hu => hm u (by simp [hu])) x hx
  rw [Ty.pnod] at hx
  split at hx
  · have := h1 _ _ x hx; omega
  · split at hx
    · cases hx
    · rcases List.mem_cons.1 hx with rfl | hx
      · show (Ty.prefs (i + 1) e ts).length ≤ _
        rw [prefs_len]; omega
      · have := h3 ts _ (fun _ h => h) x hx; omega

/-! ### Least sets -/
open Classical in
theorem least_exists (ns : List GNode) : ∃ F : Nat → Nat → Bool, ∀ a, Least ns a (F a) := by
  refine ⟨fun a i => decide (∀ C : Nat → Prop, C a → ClosedG ns C → C i), fun a => ⟨?_, ?_, ?_⟩⟩
  · simp only [decide_eq_true_eq]; exact fun C h _ => h
  · intro n g hn hS r hr
    simp only [decide_eq_true_eq] at hS ⊢
    exact fun C h hc => hc n g hn (hS C h hc) r hr
  · intro C h hc n hn
    simp only [decide_eq_true_eq] at hn
    exact hn C h hc

/-! ### Rows of bools -/
/-- Block b holds n bools. -/
structure Bools (W : World) (b n : Nat) (f : Nat → Bool) : Prop where
  at_ : W.heap[b]? = some (.cells (((List.range n).map f).map Value.bool).toArray 4 (0, 0))
theorem Bools.cell {W : World} {b n : Nat} {f : Nat → Bool} (h : Bools W b n f) {i : Nat} (hi : i < n) : W.cell? ⟨b, i, none⟩ = some (.bool (f i)) ∧ W.frozen? ⟨b, i, none⟩ = false := by
  refine ⟨?_, frozen_of_block h.at_ i⟩
  simp only [World.cell?, h.at_]
  simp [hi]
theorem Bools.same {W W' : World} {b n : Nat} {f : Nat → Bool} (h : Bools W b n f) (e : W'.heap[b]? = W.heap[b]?) : Bools W' b n f := ⟨e.trans h.at_⟩
theorem Bools.lt {W : World} {b n : Nat} {f : Nat → Bool} (h : Bools W b n f) : b < W.heap.size := (Array.getElem?_eq_some_iff.1 h.at_).1
theorem Bools.set {W : World} {b n : Nat} {f : Nat → Bool} (h : Bools W b n f) (i : Nat) : Bools (W.setCell ⟨b, i, none⟩ (.bool true)) b n (updL f i) := by
  refine ⟨?_⟩
  rw [set_block h.at_ i (.bool true), List.setIfInBounds_toArray, ← List.map_set]
  have e : ((List.range n).map f).set i true = (List.range n).map (updL f i) := by
    apply List.ext_getElem?
    intro j
    rw [List.getElem?_set, List.getElem?_map, List.getElem?_map]
    by_cases hj : j < n
    · by_cases hij : i = j
      · subst hij; simp [hj, updL]
      · rw [if_neg hij]
        simp [hj, updL, Ne.symm hij]
    · by_cases hij : i = j
      · subst hij; simp [hj]
      · rw [if_neg hij]; simp [hj]
  rw [e]
theorem Bools.congr {W : World} {b n : Nat} {f g : Nat → Bool} (h : Bools W b n f) (e : ∀ i, i < n → f i = g i) : Bools W b n g := by
  refine ⟨h.at_.trans ?_⟩
  have : (List.range n).map f = (List.range n).map g := List.map_congr_left (fun i hi => e i (List.mem_range.1 hi))
  rw [this]
end Go.Proofs.YtecdapihfiahiaaDoor

/- Graphs: the reference's Small; types anywhere in memory. -/
namespace Go.Proofs.YtecdapihfiahiaaDoor
open Go.RowKit Go.Deep Go.Shelf

/-- Few nodes, and right. -/
def smallB (t : Ty) (m : Nat) : Bool := t.few m && decide (rightE t = 0)
set_option maxHeartbeats 4000000 in
set_option maxRecDepth 100000 in
theorem small_any (t : Ty) (m : Nat) (hm : m ≤ 1000000) (v : Value) (w : World) (hv : Lies w v t) :
    Calls Tryd.prog 14 #[v, .int .i64 (m : Int)] w fun e w' => e = .returned (.bool (smallB t m)) ∧ Below w.heap.size w w' := by
  have hv1 := hv
  obtain ⟨lv, kv, rfl, _, hl, hk⟩ := hv1
  obtain ⟨la, ln, lc, rfl, _⟩ := hl.open
  obtain ⟨ka, kn, kc, rfl, _⟩ := hk.open
  obtain ⟨W0, hW0⟩ : ∃ W0, w.alloc (.cells #[.int .i64 t.k, .int .i64 t.p, .string t.n, .int .i64 t.s, .slice la ln lc, .slice ka kn kc] 47) = W0 := ⟨_, rfl⟩
  have hb0 : Below w.heap.size w W0 := by rw [← hW0]; exact blkBelow w _ _
  have hx0 : ∀ W, Below W0.heap.size W0 W → (W.cell? ⟨w.heap.size, 0, none⟩ = some (.int .i64 t.k) ∧ W.cell? ⟨w.heap.size, 1, none⟩ = some (.int .i64 t.p) ∧ W.cell? ⟨w.heap.size, 2, none⟩ = some (.string t.n) ∧ W.cell? ⟨w.heap.size, 3, none⟩ = some (.int .i64 t.s) ∧ W.cell? ⟨w.heap.size, 4, none⟩ = some (.slice la ln lc) ∧ W.cell? ⟨w.heap.size, 5, none⟩ = some (.slice ka kn kc)) := fun W hW => by
    have h : W.heap[w.heap.size]? = some (.cells #[.int .i64 t.k, .int .i64 t.p, .string t.n, .int .i64 t.s, .slice la ln lc, .slice ka kn kc] 47) := (hW.block _ (by rw [← hW0]; simp)).trans (by rw [← hW0]; exact World.alloc_heap_new _ _)
    refine ⟨?_, ?_, ?_, ?_, ?_, ?_⟩ <;> simp [World.cell?, h]
  have HX := Lib.hid hx0
  have HW0 := Lib.hid hW0
  have HB0 := Lib.hid hb0
  have HV := Lib.hid hv
  have HFW := Lib.hid (rfew_any (fun k => k < W0.heap.size) t m hm _ W0 (fun _ h => h) (hv.to hb0))
  obtain ⟨c0, c1, c2, c3, c4, c5⟩ := hx0 W0 (Below.refl _ _)
  clear hl hk hv hb0 hW0 hx0
  cases hf : t.few m
  · rw [hf] at HFW
    have HS : Hid (smallB t m = false) := Lib.hid (by rw [smallB, hf]; rfl)
    rw [HS.out]
    clear hf
    go_enter Tryd.func14, Tryd.ntmps14
    go_upto_region 1 with fail
    rw [show w.alloc (.cells #[.int .i64 t.k, .int .i64 t.p, .string t.n, .int .i64 t.s, .slice la ln lc, .slice ka kn kc] 47) = W0 from HW0.out]
    go_wp2_with (go_at_call 27; refine HFW.out.mono ?_; rintro en w1 ⟨rfl, hb1⟩)
    go_ret
    exact ⟨rfl, below_seq HB0.out hb1⟩
  · rw [hf] at HFW
    have hsz : t.size ≤ 1000000 := by simp only [Ty.few, Bool.and_eq_true, decide_eq_true_eq] at hf; omega
    obtain ⟨r, hr⟩ : ∃ r, rightE t = r := ⟨_, rfl⟩
    have HS : Hid (smallB t m = (r == 0)) := Lib.hid (by rw [smallB, hf, hr, Bool.true_and]; rw [Bool.eq_iff_iff]; simp)
    rw [HS.out]
    have HRG : Hid (∀ W, Below W0.heap.size W0 W → Calls Tryd.prog 15 #[.agg #[.int .i64 t.k, .int .i64 t.p, .string t.n, .int .i64 t.s, .slice la ln lc, .slice ka kn kc]] W fun e w' => e = .returned (.int .i64 r) ∧ Below W.heap.size W w') := Lib.hid (fun W hW => by
      rw [← hr]; exact rright_any _ t _ W hsz (lies_low W) (HV.out.to (below_seq HB0.out hW)))
    clear hf hr hsz
    go_enter Tryd.func14, Tryd.ntmps14
    go_upto_region 1 with fail
    rw [show w.alloc (.cells #[.int .i64 t.k, .int .i64 t.p, .string t.n, .int .i64 t.s, .slice la ln lc, .slice ka kn kc] 47) = W0 from HW0.out]
    go_wp2_with (first | (go_at_call 27; refine HFW.out.mono ?_; rintro en w1 ⟨rfl, hb1⟩; obtain ⟨x0, x1, x2, x3, x4, x5⟩ := HX.out w1 hb1; have HB1 := Lib.hid hb1; clear hb1) | (go_at_call 15; refine (HRG.out _ HB1.out).mono ?_; rintro en w2 ⟨rfl, hb2⟩; have HB2 := Lib.hid hb2; clear hb2))
    all_goals go_ret
    all_goals exact ⟨ret_bool (by simp_all), below_seq HB0.out (below_seq HB1.out HB2.out)⟩
end Go.Proofs.YtecdapihfiahiaaDoor
