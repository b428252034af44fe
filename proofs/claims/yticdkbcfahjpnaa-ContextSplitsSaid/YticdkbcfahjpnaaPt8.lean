/- Graphs: all references of a right type's graph are to nodes of it; least closed sets exist; rows of bools that are set one by one. (and what follows from it) -/
import Derived.Test.YticdkbcfahjpnaaPt5
import Derived.Test.YticdkbcfahjpnaaPt7
import Derived.Test.YticdkbcfahjpnaaTyX
import Derived.Test.YticdkbcfahjpnaaTyY
import Derived.Test.YticdkbcfahjpnaaPt2
import Derived.Test.YticdkbcfahjpnaaPt1
import Derived.Laws.MakeOwn
import Derived.BigRegion
import Derived.StillTailTactics
import Derived.Deep.RegionHeld

/- Graphs: all references of a right type's graph are to nodes of it; least closed sets exist; rows of bools that are set one by one. -/
namespace Go.Proofs.Yticdkbcfahjpnaa
open Go.RowKit Go.Deep Go.Shelf

/-! ### References of right types -/
theorem varR_nil (g : Nat) (n : ByteArray) : varR [] g n ≠ 0 := by
  unfold varR
  rw [List.length_nil, vR]
  decide
theorem varR_mem (g : Nat) (n : ByteArray) : ∀ (m : Nat) (l : List ByteArray), l.length = m → varR l g n = 0 → n ∈ l
  | 0, l, hl, h => by
    rw [List.length_eq_zero_iff.1 hl] at h
    exact absurd h (varR_nil g n)
  | m + 1, l, hl, h => by
    rcases List.eq_nil_or_concat l with rfl | ⟨l', x, rfl⟩
    · cases hl
    · simp only [List.concat_eq_append] at h hl ⊢
      rw [vR_snoc] at h
      by_cases hx : x = n
      · subst hx; simp
      · rw [if_neg hx] at h
        have := varR_mem g n m l' (by simp at hl; omega) h
        simp [this]
theorem prefs_lt {L : Nat} (e : ByteArray → Nat) {ts : List Ty} (h : ∀ t ∈ ts, ∀ i, i + t.gcnt ≤ L → (t.pref i e).n < L) : ∀ (l : List Ty) (i : Nat), (∀ t ∈ l, t ∈ ts) → i + Ty.gcnts l ≤ L → ∀ r ∈ Ty.prefs i e l, r.n < L
  | [], _, _, _, r, hr => by simp [Ty.prefs] at hr
  | t :: l, i, hm, hi, r, hr => by
    rw [Ty.prefs] at hr
    rw [Ty.gcnts] at hi
    rcases List.mem_cons.1 hr with rfl | hr
    · exact h t (hm t (by simp)) i (by omega)
    · exact prefs_lt e h l _ (fun u hu => hm u (by simp [hu])) (by omega) r hr
theorem pnod_wf (L : Nat) : ∀ (t : Ty) (names : List ByteArray) (g : Nat) (se : Bool) (i : Nat) (e : ByteArray → Nat), nodeR names g se t = 0 → g ≤ names.length → (∀ x, varR names g x = 0 → e x < L) → (∀ x ∈ names, e x < L ∨ e x = i) → i + t.gcnt ≤ L → (t.pref i e).n < L ∧ ∀ x ∈ t.pnod i e, ∀ r ∈ x.nx, r.n < L := by
  refine Ty.ind ?_
  intro k p n s ls ts ih names g se i e h hg hA hB hi
  obtain ⟨hs, h2⟩ := nodeR_shape h
  have hk := shape_k hs
  rw [Ty.pnod, Ty.pref]
  rw [Ty.gcnt] at hi
  by_cases h8 : k = 8
  · subst h8
    rw [if_neg (by decide), if_pos rfl] at h2
    rw [if_pos rfl, if_pos rfl]
    rw [if_neg (by decide)] at hi
    obtain ⟨u, rfl⟩ : ∃ u, ts = [u] := by
      match ts, shape_8 hs with
      | [u], _ => exact ⟨u, rfl⟩
    obtain ⟨se', hu⟩ := kidsR_all h2 u (by simp)
    rw [Ty.pnod1, Ty.pref1]
    simp only [Ty.gcnts] at hi
    refine ih u (by simp) (names ++ [n]) g se' i (upE e n i) hu (by simp; omega) (fun x hx => ?_) (fun x hx => ?_) (by omega)
    · rw [vR_snoc] at hx
      by_cases hn : n = x
      · rw [if_pos hn, if_neg (by omega)] at hx; exact absurd hx (by decide)
      · rw [if_neg hn] at hx
        simp only [upE, if_neg hn]; exact hA x hx
    · by_cases hn : n = x
      · right; simp [upE, hn]
      · simp only [upE, if_neg hn]
        rcases List.mem_append.1 hx with hx | hx
        · exact hB x hx
        · exact absurd (List.mem_singleton.1 hx).symm hn
  · rw [if_neg h8, if_neg h8]
    by_cases h9 : k = 9
    · rw [if_pos h9] at h2
      rw [if_pos h9, if_pos h9]
      exact ⟨hA n h2, fun x hx => by cases hx⟩
    · rw [if_neg h9, if_neg h8] at h2
      rw [if_neg h9, if_neg h9]
      rw [if_pos (by omega)] at hi
      have hkk := kidsR_all h2
      have hN : ∀ x ∈ names, e x < L := fun x hx => by rcases hB x hx with h | h <;> omega
      have hall : ∀ t ∈ ts, ∀ i, i + t.gcnt ≤ L → (t.pref i e).n < L ∧ ∀ x ∈ t.pnod i e, ∀ r ∈ x.nx, r.n < L := fun t ht i' hi' => by
        obtain ⟨se', ht'⟩ := hkk t ht
        exact ih t ht names names.length se' i' e ht' (Nat.le_refl _) (fun x hx => hN x (varR_mem _ x _ names rfl hx)) (fun x hx => .inl (hN x hx)) hi'
      refine ⟨by show i < L; omega, fun x hx => ?_⟩
      rcases List.mem_cons.1 hx with rfl | hx
      · exact prefs_lt e (fun t ht i' hi' => (hall t ht i' hi').1) ts (i + 1) (fun _ h => h) (by omega)
      · have h3 : ∀ (l : List Ty) (i : Nat), (∀ t ∈ l, t ∈ ts) → i + Ty.gcnts l ≤ L → ∀ x ∈ Ty.pnods i e l, ∀ r ∈ x.nx, r.n < L := by
          intro l
          induction l with
          | nil => intro i _ _ x hx; rw [Ty.pnods] at hx; cases hx
          | cons t r ihl =>
            intro i hm hi x hx
            rw [Ty.pnods] at hx
            rw [Ty.gcnts] at hi
            rcases List.mem_append.1 hx with hx | hx
            · exact (hall t (hm t (by simp)) i (by omega)).2 x hx
            · exact ihl _ (fun u hu => hm u (by simp [hu])) (by omega) x hx
        exact h3 ts (i + 1) (fun _ h => h) (by omega) x hx
theorem real_gcnt : ∀ t : Ty, t.okg → t.real = true → 1 ≤ t.gcnt := by
  refine Ty.ind ?_
  intro k p n s ls ts ih hok hr
  simp only [Ty.okg] at hok
  obtain ⟨hk9, h1, _, _, hk⟩ := hok
  rw [Ty.real] at hr
  rw [Ty.gcnt]
  by_cases h8 : k = 8
  · rw [if_pos h8] at hr
    obtain ⟨u, rfl⟩ : ∃ u, ts = [u] := by
      match ts, h1 h8 with
      | [u], _ => exact ⟨u, rfl⟩
    rw [Ty.real1] at hr
    simp only [Ty.okgs] at hk
    have := ih u (by simp) hk.1 hr
    simp only [Ty.gcnts]
    omega
  · rw [if_neg h8] at hr
    have h9 : k ≠ 9 := by simpa using hr
    rw [if_pos (by omega)]
    omega
/-- The graph of one right type. -/
theorem wf_one {t : Ty} (h : nodeR [] 0 false t = 0) (hok : t.okg) : wfG (gNodes [t]) := by
  have e : gNodes [t] = t.pnod 0 (fun _ => 0) := by simp [gNodes, Ty.pnods]
  intro n g hg
  have hm := List.mem_of_getElem? hg
  rw [e] at hm ⊢
  rw [pnod_ok t hok]
  exact (pnod_wf t.gcnt t [] 0 false 0 (fun _ => 0) h (Nat.le_refl _) (fun x hx => absurd hx (varR_nil 0 x)) (fun x hx => by cases hx) (by omega)).2 g hm
theorem pnod_nx : ∀ (t : Ty) (i : Nat) (e : ByteArray → Nat), ∀ x ∈ t.pnod i e, x.nx.length ≤ t.size := by
  refine Ty.ind ?_
  intro k p n s ls ts ih i e x hx
  have hl := Ty.length_sizes ts
  rw [Ty.size]
  have h1 : ∀ (i : Nat) (e : ByteArray → Nat), ∀ x ∈ Ty.pnod1 i e ts, x.nx.length ≤ Ty.sizes ts := by
    intro i e x hx
    match ts, ih, hx with
    | [], _, hx => rw [Ty.pnod1] at hx; cases hx
    | u :: r, ih, hx =>
      rw [Ty.pnod1] at hx
      have := ih u (by simp) i e x hx
      rw [Ty.sizes]
      omega
  have h3 : ∀ (l : List Ty) (i : Nat), (∀ t ∈ l, t ∈ ts) → ∀ x ∈ Ty.pnods i e l, x.nx.length ≤ Ty.sizes ts := by
    intro l
    induction l with
    | nil => intro i _ x hx; rw [Ty.pnods] at hx; cases hx
    | cons t r ihl =>
      intro i hm x hx
      rw [Ty.pnods] at hx
      rcases List.mem_append.1 hx with hx | hx
      · have := ih t (hm t (by simp)) i e x hx
        have := Ty.size_mem (hm t (by simp))
        omega
      · exact ihl _ (fun u hu => hm u (by simp [hu])) x hx
  rw [Ty.pnod] at hx
  split at hx
  · have := h1 _ _ x hx; omega
  · split at hx
    · cases hx
    · rcases List.mem_cons.1 hx with rfl | hx
      · show (Ty.prefs (i + 1) e ts).length ≤ _
        rw [prefs_len]; omega
      · have := h3 ts _ (fun _ h => h) x hx; omega

/-! ### Least sets -/
open Classical in
theorem least_exists (ns : List GNode) : ∃ F : Nat → Nat → Bool, ∀ a, Least ns a (F a) := by
  refine ⟨fun a i => decide (∀ C : Nat → Prop, C a → ClosedG ns C → C i), fun a => ⟨?_, ?_, ?_⟩⟩
  · simp only [decide_eq_true_eq]; exact fun C h _ => h
  · intro n g hn hS r hr
    simp only [decide_eq_true_eq] at hS ⊢
    exact fun C h hc => hc n g hn (hS C h hc) r hr
  · intro C h hc n hn
    simp only [decide_eq_true_eq] at hn
    exact hn C h hc

/-! ### Rows of bools -/
/-- Block b holds n bools. -/
structure Bools (W : World) (b n : Nat) (f : Nat → Bool) : Prop where
  at_ : W.heap[b]? = some (.cells (((List.range n).map f).map Value.bool).toArray 4 (0, 0))
theorem Bools.cell {W : World} {b n : Nat} {f : Nat → Bool} (h : Bools W b n f) {i : Nat} (hi : i < n) : W.cell? ⟨b, i, none⟩ = some (.bool (f i)) ∧ W.frozen? ⟨b, i, none⟩ = false := by
  refine ⟨?_, frozen_of_block h.at_ i⟩
  simp only [World.cell?, h.at_]
  simp [hi]
theorem Bools.same {W W' : World} {b n : Nat} {f : Nat → Bool} (h : Bools W b n f) (e : W'.heap[b]? = W.heap[b]?) : Bools W' b n f := ⟨e.trans h.at_⟩
theorem Bools.lt {W : World} {b n : Nat} {f : Nat → Bool} (h : Bools W b n f) : b < W.heap.size := (Array.getElem?_eq_some_iff.1 h.at_).1
theorem Bools.set {W : World} {b n : Nat} {f : Nat → Bool} (h : Bools W b n f) (i : Nat) : Bools (W.setCell ⟨b, i, none⟩ (.bool true)) b n (updL f i) := by
  refine ⟨?_⟩
  rw [set_block h.at_ i (.bool true), List.setIfInBounds_toArray, ← List.map_set]
  have e : ((List.range n).map f).set i true = (List.range n).map (updL f i) := by
    apply List.ext_getElem?
    intro j
    rw [List.getElem?_set, List.getElem?_map, List.getElem?_map]
    by_cases hj : j < n
    · by_cases hij : i = j
      · subst hij; simp [hj, updL]
      · rw [if_neg hij]
        simp [hj, updL, Ne.symm hij]
    · by_cases hij : i = j
      · subst hij; simp [hj]
      · rw [if_neg hij]; simp [hj]
  rw [e]
theorem Bools.congr {W : World} {b n : Nat} {f g : Nat → Bool} (h : Bools W b n f) (e : ∀ i, i < n → f i = g i) : Bools W b n g := by
  refine ⟨h.at_.trans ?_⟩
  have : (List.range n).map f = (List.range n).map g := List.map_congr_left (fun i hi => e i (List.mem_range.1 hi))
  rw [this]
end Go.Proofs.Yticdkbcfahjpnaa

/- Graphs: the reference's Build. -/
namespace Go.Proofs.Yticdkbcfahjpnaa
open Go.RowKit Go.Deep Go.Shelf

theorem gnod_right {t : Ty} (h : nodeR [] 0 false t = 0) (i : Nat) : t.gnod i [] = t.pnod i (fun _ => 0) ∧ t.gref i [] = t.pref i (fun _ => 0) ∧ (t.gnod i []).length = t.gcnt := by
  have h1 : t.pnod i (fun _ => 0) = t.gnod i [] := gnod_eq t [] 0 false i (fun _ => 0) [] (Nat.le_refl _) h (fun x hx => absurd hx (varR_nil 0 x)) (fun _ x hx => by cases hx)
  have h2 : t.pref i (fun _ => 0) = t.gref i [] := gref_eq t [] 0 false i (fun _ => 0) [] (Nat.le_refl _) h (fun x hx => absurd hx (varR_nil 0 x))
  exact ⟨h1.symm, h2.symm, by rw [← h1, pnod_len t [] 0 false i _ h]⟩
theorem gnods_right : ∀ (ts : List Ty) (i : Nat), (∀ t ∈ ts, nodeR [] 0 false t = 0) → Ty.gnods i [] ts = Ty.pnods i (fun _ => 0) ts ∧ Ty.grefs i [] ts = Ty.prefs i (fun _ => 0) ts ∧ (Ty.gnods i [] ts).length = Ty.gcnts ts
  | [], _, _ => ⟨by rw [Ty.gnods, Ty.pnods], rfl, by rw [Ty.gnods, Ty.gcnts]; rfl⟩
  | t :: r, i, h => by
    obtain ⟨h1, h2, h3⟩ := gnod_right (h t (by simp)) i
    obtain ⟨g1, g2, g3⟩ := gnods_right r (i + t.gcnt) (fun u hu => h u (by simp [hu]))
    exact ⟨by rw [Ty.gnods, Ty.pnods, h1, g1], by rw [Ty.grefs, Ty.prefs, h2, g2], by rw [Ty.gnods, Ty.gcnts, List.length_append, h3, g3]⟩
theorem strs_nil (w : World) : StrSl (fun k => k < w.heap.size) w (.slice none 0 0) (([] : GEnv).map (·.1)) := ⟨.inl ⟨⟨_, _, rfl⟩, rfl⟩, by simp [maxLen], fun s hs => by cases hs⟩
theorem refs_nil (w : World) : RefSl (fun k => k < w.heap.size) w (.slice none 0 0) (([] : GEnv).map (·.2)) := ⟨.inl ⟨⟨_, _, rfl⟩, rfl⟩, by simp [maxLen]⟩

set_option maxHeartbeats 8000000 in
set_option maxRecDepth 100000 in
theorem rbuild_any (ts : List Ty) (v : Value) (w : World) (hts : TySl (fun k => k < w.heap.size) w v ts) (hs : Ty.sizes ts ≤ 100000) (hd : ∀ t ∈ ts, t.depth ≤ 800) (hok : ∀ t ∈ ts, nodeR [] 0 false t = 0) :
    Calls Try.prog 37 #[v] w fun en w' => ∃ (na : Option Addr) (nn nc : Nat) (ra : Option Addr) (rn rc : Nat), en = .returned (.tuple #[.slice na nn nc, .slice ra rn rc]) ∧ NodeSl (fun k => k < w'.heap.size) w' (.slice na nn nc) (gNodes ts) ∧ RefSl (fun k => k < w'.heap.size) w' (.slice ra rn rc) (gRefs ts) ∧ Below w.heap.size w w' := by
  obtain ⟨pa, len, c, rfl, hlen, hmx, hget⟩ := hts.open
  have HG := Lib.hid hget
  have HL := Lib.hid hlen.out
  have HD := Lib.hid hd
  have HOK := Lib.hid hok
  have HSZ := Lib.hid hs
  have hlb : len ≤ 100000 := by have := Ty.length_sizes ts; have := hlen.out; omega
  have hgr := gnods_right ts 0 hok
  have HGR := Lib.hid hgr
  clear hget hts hlen hd hok hs hgr
  go_enter Try.func37, Try.ntmps37
  go_wp2_with fail
  go_loopw [4, 5, 6] (fun ov rv iv wr => ∃ (j : Nat) (oa : Option Addr) (on oc : Nat) (ra : Option Addr) (rn rc : Nat) (xs : List NV), ov = .slice oa on oc ∧ rv = .slice ra rn rc ∧ iv = .int .i64 j ∧ j ≤ len ∧ Hid (GRow 81 4 w.heap.size wr (.slice oa on oc) (xs.map NV.cells)) ∧ Hid (∀ x ∈ xs, x.Ok (fun k => k < wr.heap.size ∧ some k ≠ (Value.slice oa on oc).ownBlock ∧ some k ≠ (Value.slice ra rn rc).ownBlock) wr) ∧ Hid (xs.map NV.g = Ty.gnods 0 [] (ts.take j)) ∧ Hid (GRow 84 2 w.heap.size wr (.slice ra rn rc) ((Ty.grefs 0 [] (ts.take j)).map refCells)) ∧ Hid (Below w.heap.size w wr)) (fun _ _ iv _ => len - (intOf iv).toNat)
  case atStart => exact ⟨0, _, _, _, _, _, _, [], rfl, rfl, rfl, by omega, Lib.hid (by simpa using GRow.nil _ _ _ _), Lib.hid (fun x hx => by cases hx), Lib.hid (by simp [Ty.gnods]), Lib.hid (by simpa [Ty.grefs] using GRow.nil _ _ _ _), Lib.hid (Below.refl _ _)⟩
  case round =>
    rename World => V
    obtain ⟨j, oa, on, oc, ra, rn, rc, xs, rfl, rfl, rfl, hj, HO, HX, HM, HR, HBV⟩ := hrel
    have hszV : w.heap.size ≤ V.heap.size := HBV.out.size
    by_cases hlt : j < len
    · obtain ⟨u, hu⟩ : ∃ u, ts[j]? = some u := ⟨_, List.getElem?_eq_getElem (by rw [← HL.out]; exact hlt)⟩
      have hum := List.mem_of_getElem? hu
      obtain ⟨kb, ko, rfl, hkb, hty⟩ := HG.out j u hu
      obtain ⟨lv', kv', ⟨d0, d1, d2, d3, d4, d5⟩, hval⟩ := (hty.keep (HBV.out.keeps'.mono (fun k hk => hk))).load
      have hur := HOK.out u hum
      have hsok := sok_of u [] 0 false hur
      have hdu := HD.out u hum
      have hsu := Ty.size_mem hum
      obtain ⟨fr, hfr⟩ : ∃ fr, Ty.gcnts (ts.take j) = fr := ⟨_, rfl⟩
      have hxl : xs.length = fr := by
        have h := congrArg List.length HM.out
        rw [List.length_map, (gnods_right (ts.take j) 0 (fun t ht => HOK.out t (List.mem_of_mem_take ht))).2.2, hfr] at h
        exact h
      have hfb : fr + u.size ≤ 100000 := by
        have h1 := Ty.gcnts_le (ts.take j)
        have h2 := Ty.sizes_take hu
        have h3 := Ty.sizes_take_le ts (j + 1)
        have := HSZ.out
        omega
      obtain rfl : on = fr := by
        obtain ⟨_, _, _, e, hnn, _⟩ := HO.out.src
        simp only [Value.slice.injEq] at e
        rw [e.2.1, hnn, List.length_map, hxl]
      have hgr := grefs_snoc [] ts 0 j hu
      have hgs := gnods_snoc [] ts 0 j hu
      rw [hfr, Nat.zero_add] at hgr hgs
      obtain ⟨r, hrr⟩ : ∃ r, u.gref on [] = r := ⟨_, rfl⟩
      rw [hrr] at hgr
      have HGRS := Lib.hid hgr
      have HGS := Lib.hid hgs
      have HXL := Lib.hid hxl
      have HUL := Lib.hid (show (u.gnod on []).length ≤ 100000 from Nat.le_trans (gnod_len u on []) (by omega))
      have HRC := Lib.hid (rref_any u hsok on [] (.agg #[.int .i64 u.k, .int .i64 u.p, .string u.n, .int .i64 u.s, lv', kv']) (.slice none 0 0) (.slice none 0 0) V (by omega) (TyVal.mono (C := fun k => k < V.heap.size) (fun k hk => Nat.lt_of_lt_of_le hk hszV) hval) (strs_nil V) (refs_nil V) (fun r hr => by cases hr))
      rw [hrr] at HRC
      have HKID : Hid (∀ W, Below w.heap.size w W → (W.cell? ⟨kb, ko + j * 6, none⟩ = some (.int .i64 u.k) ∧ W.cell? ⟨kb, ko + j * 6 + 1, none⟩ = some (.int .i64 u.p) ∧ W.cell? ⟨kb, ko + j * 6 + 2, none⟩ = some (.string u.n) ∧ W.cell? ⟨kb, ko + j * 6 + 3, none⟩ = some (.int .i64 u.s) ∧ W.cell? ⟨kb, ko + j * 6 + 4, none⟩ = some lv' ∧ W.cell? ⟨kb, ko + j * 6 + 5, none⟩ = some kv') ∧ TyVal (fun k => k < w.heap.size) W (.agg #[.int .i64 u.k, .int .i64 u.p, .string u.n, .int .i64 u.s, lv', kv']) u) := Lib.hid (fun W hW => by
        have hc : ∀ o x, V.cell? ⟨kb, o, none⟩ = some x → W.cell? ⟨kb, o, none⟩ = some x := fun o x h => (hW.cell (p := ⟨kb, o, none⟩) hkb).trans ((HBV.out.cell (p := ⟨kb, o, none⟩) hkb).symm.trans h)
        exact ⟨⟨hc _ _ d0, hc _ _ d1, hc _ _ d2, hc _ _ d3, hc _ _ d4, hc _ _ d5⟩, hval.keep (fun k _ hk ho _ => (hW.block k hk).trans ((HBV.out.block k hk).symm.trans ho))⟩)
      have HPL : Hid ((Ty.grefs 0 [] (ts.take j)).length ≤ 1000000) := Lib.hid (by rw [grefs_len, List.length_take]; omega)
      have HNC : Hid (∀ W, Below w.heap.size w W → Calls Try.prog 48 #[.agg #[.int .i64 u.k, .int .i64 u.p, .string u.n, .int .i64 u.s, lv', kv'], .int .i64 (on : Int), .slice none 0 0, .slice none 0 0] W fun e w' => ∃ v', e = .returned v' ∧ NodRes w.heap.size W.heap.size (u.gnod on []) w' v' ∧ Below W.heap.size W w') := Lib.hid (fun W hW => rnod_any u hsok w.heap.size on [] _ _ _ W hW.size (by omega) (by simp; omega) (HKID.out W hW).2 (strs_nil W) (refs_nil W) (fun r hr => by cases hr))
      clear hu hum hty hval hur hgr hgs hrr hxl hdu hsok
      go_upto_region 7 with (first | (go_at_call 47; go_loud (refine HRC.out.mono ?_; rintro en w5 ⟨rfl, hb5⟩; have HB5 := Lib.hid hb5; have HR5 := Lib.hid (HR.out.to hb5); clear hb5)) | (at_builtin; refine wpList_appG rrefElem rfl _ _ rfl rfl (HR5.out.alloc _) (some ⟨w5.heap.size, 0, none⟩) 1 1 [refCells r] rfl rfl ?_ ?_ ?_ ?_ ?_ ?_))
      · intro e he; rw [List.mem_singleton.1 he]; rfl
      · exact src_new w5 (refCells r) _
      · intro e he u hu
        rw [List.mem_singleton.1 he] at hu
        simp only [refCells, List.mem_cons, List.not_mem_nil, or_false] at hu
        rcases hu with rfl | rfl <;> rfl
      · have := HPL.out
        simp only [List.length_map, List.length_singleton]
        omega
      · rw [World.size_alloc]; have := HB5.out.size; omega
      intro ga gn gc w6 hr6 hg6 hq6
      have h5s := HB5.out.size
      have h6s := hg6.size
      rw [World.size_alloc] at h6s
      have hro : ∀ k, (Value.slice ra rn rc).ownBlock = some k → w.heap.size ≤ k ∧ k < V.heap.size := fun k hk => HR.out.lt k hk
      have hoo : ∀ k, (Value.slice oa on oc).ownBlock = some k → w.heap.size ≤ k ∧ k < V.heap.size := fun k hk => HO.out.lt k hk
      have hkeep : ∀ k, k < V.heap.size → some k ≠ (Value.slice ra rn rc).ownBlock → w6.heap[k]? = V.heap[k]? := fun k hk hn => (hg6.block k (by rw [World.size_alloc]; omega) hn).trans ((Below.heap_alloc _ _ _ (by omega)).trans (HB5.out.block k hk))
      have HO6 : Hid (GRow 81 4 w.heap.size w6 (.slice oa on oc) (xs.map NV.cells)) := Lib.hid (HO.out.kept (fun k hk => hkeep k (hoo k hk).2 (by
        obtain ⟨cs, hc⟩ := HO.out.obj hk
        exact HR.out.ne hc (by decide))))
      have HR6 : Hid (GRow 84 2 w.heap.size w6 (.slice ga gn gc) ((Ty.grefs 0 [] (ts.take (j + 1))).map refCells)) := Lib.hid (by rw [HGRS.out]; simpa using hr6)
      have HX6 : Hid (∀ x ∈ xs, x.Ok (fun k => k < w6.heap.size ∧ some k ≠ (Value.slice oa on oc).ownBlock ∧ some k ≠ (Value.slice ga gn gc).ownBlock) w6) := Lib.hid (fun x hx => ((HX.out x hx).keep (fun k _ hk ho _ => (hkeep k hk.1 hk.2.2).trans ho)).mono (fun k hk => ⟨by omega, hk.2.1, fun e => by
        rcases hq6 with h | h
        · exact hk.2.2 (e.trans h)
        · have := Option.some.inj (e.trans h); omega⟩))
      have HB6 : Hid (Below w.heap.size w w6) := Lib.hid (((HBV.out.trans (HB5.out.mono hszV)).alloc (by omega) _).grown hg6 (by rw [World.size_alloc]; omega) (fun k hk => (hro k hk).1))
      have HNC6 := Lib.hid (HNC.out w6 HB6.out)
      have hq6' : ∀ k, (Value.slice ga gn gc).ownBlock = some k → k < w6.heap.size := fun k hk => (HR6.out.lt k hk).2
      obtain ⟨⟨d0, d1, d2, d3, d4, d5⟩, _⟩ := HKID.out w6 HB6.out
      clear hr6 hg6 hq6 hkeep
      go_wp2_with (first | (go_at_call 48; go_loud (refine HNC6.out.mono ?_; rintro en w7 ⟨v7, rfl, ⟨za, zn, zc, zs, rfl, hrow7, hok7, hmap7⟩, hb7⟩; have HB7 := Lib.hid hb7; have HZ7 := Lib.hid hrow7; have HZO := Lib.hid hok7; have HZM := Lib.hid hmap7; have HO7 := Lib.hid (HO6.out.to hb7); clear hb7 hrow7 hok7 hmap7)) | (at_builtin; refine wpList_appG rnodeElem rfl _ _ rfl rfl HO7.out za zn zc (zs.map NV.cells) rfl ?_ ?_ ?_ ?_ ?_ ?_ ?_))
      · obtain ⟨_, _, _, e, hnn, _⟩ := HZ7.out.src
        simp only [Value.slice.injEq] at e
        rw [e.2.1]; exact hnn
      · intro e he
        obtain ⟨x, _, rfl⟩ := List.mem_map.1 he; rfl
      · obtain ⟨_, _, _, e, _, hsrc⟩ := HZ7.out.src
        simp only [Value.slice.injEq] at e
        rw [e.1]; exact hsrc
      · intro e he u hu
        obtain ⟨x, hx, rfl⟩ := List.mem_map.1 he
        exact (HZO.out x hx).one u hu
      · have h := congrArg List.length HZM.out
        rw [List.length_map] at h
        have := HUL.out
        have := HXL.out
        simp only [List.length_map]
        omega
      · have := HB7.out.size; omega
      intro ha hn hc w8 hr8 hg8 hq8
      have h7s := HB7.out.size
      have h8s := hg8.size
      have HR8 : Hid (GRow 84 2 w.heap.size w8 (.slice ga gn gc) ((Ty.grefs 0 [] (ts.take (j + 1))).map refCells)) := Lib.hid ((HR6.out.to HB7.out).kept (fun k hk => by
        obtain ⟨cs, hc⟩ := (HR6.out.to HB7.out).obj hk
        exact hg8.block k (Array.getElem?_eq_some_iff.1 hc).1 (HO7.out.ne hc (by decide))))
      have HO8 : Hid (GRow 81 4 w.heap.size w8 (.slice ha hn hc) ((xs ++ zs).map NV.cells)) := Lib.hid (by rw [List.map_append]; exact hr8)
      have HM8 : Hid ((xs ++ zs).map NV.g = Ty.gnods 0 [] (ts.take (j + 1))) := Lib.hid (by rw [List.map_append, HM.out, HZM.out, HGS.out])
      have HB8 : Hid (Below w.heap.size w w8) := Lib.hid ((HB6.out.trans (HB7.out.mono (by omega))).grown hg8 (by omega) (fun k hk => (hoo k hk).1))
      have HX8 : Hid (∀ x ∈ xs ++ zs, x.Ok (fun k => k < w8.heap.size ∧ some k ≠ (Value.slice ha hn hc).ownBlock ∧ some k ≠ (Value.slice ga gn gc).ownBlock) w8) := Lib.hid (by
        have hqn : ∀ k, k < w7.heap.size → some k ≠ (Value.slice oa on oc).ownBlock → some k ≠ (Value.slice ha hn hc).ownBlock := fun k hk hne e => by
          rcases hq8 with h | h
          · exact hne (e.trans h)
          · have := Option.some.inj (e.trans h); omega
        have hrg : ∀ k, (Value.slice ga gn gc).ownBlock = some k → w.heap.size ≤ k := fun k hk => (HR6.out.lt k hk).1
        intro x hx
        rcases List.mem_append.1 hx with hx | hx
        · have h1 := (HX6.out x hx).keep (HB7.out.keeps'.mono (fun k hk => hk.1))
          exact (h1.keep (Keeps.grown hg8 (fun k hk => hk.2.1))).mono (fun k hk => ⟨by omega, hqn k (by omega) hk.2.1, hk.2.2⟩)
        · have h1 := HZO.out x hx
          have hne : ∀ k, (k < w.heap.size ∨ (w6.heap.size ≤ k ∧ k < w7.heap.size ∧ some k ≠ (Value.slice za zn zc).ownBlock)) → some k ≠ (Value.slice oa on oc).ownBlock := fun k hk e => by
            have := hoo k e.symm
            rcases hk with hk | hk <;> omega
          refine (h1.keep (Keeps.grown hg8 hne)).mono (fun k hk => ⟨by rcases hk with hk | hk <;> omega, hqn k (by rcases hk with hk | hk <;> omega) (hne k hk), fun e => ?_⟩)
          have a1 := hrg k e.symm
          have a2 := hq6' k e.symm
          rcases hk with hk | hk <;> omega)
      clear hr8 hg8 hq8 d0 d1 d2 d3 d4 d5
      go_wp2_with fail
      go_roundw
      case rel => exact ⟨j + 1, ha, hn, hc, ga, gn, gc, xs ++ zs, rfl, rfl, by go_num, by omega, HO8, HX8, HM8, HR8, HB8⟩
      case measure => simp [intOf]; omega
    · obtain rfl : j = len := by omega
      have hlen : ts.take j = ts := List.take_of_length_le (by rw [HL.out]; exact Nat.le_refl _)
      have hM := HM.out
      have hR := HR.out
      rw [hlen] at hM hR
      have hxl : xs.length ≤ 100000 := by
        have h := congrArg List.length hM
        rw [List.length_map, HGR.out.2.2] at h
        have := Ty.gcnts_le ts
        have := HSZ.out
        omega
      have hn1 := HO.out.nodes HX.out (by simp only [maxLen]; omega)
      rw [hM, HGR.out.1] at hn1
      have hr1 := hR.refs (by rw [grefs_len, ← HL.out]; simp only [maxLen]; omega)
      rw [HGR.out.2.1] at hr1
      have HN1 := Lib.hid (hn1.mono (C := fun k => k < V.heap.size) (fun k hk => by
        rcases hk with hk | hk
        · exact hk.1
        · exact hk.2))
      have HR1 := Lib.hid (hr1.mono (C := fun k => k < V.heap.size) (fun k hk => hk.2))
      clear hn1 hr1 hM hR hlen hxl
      go_wp2_with fail
      go_ret2
      exact ⟨oa, on, oc, ra, rn, rc, rfl, HN1.out, HR1.out, HBV.out⟩
end Go.Proofs.Yticdkbcfahjpnaa

/- Heads: Kind, action, Prio, Raise. -/
namespace Go.Proofs.Yticdkbcfahjpnaa
open Go.RowKit Go.Deep Go.Shelf

abbrev refO (a b : Value) : Obj := .cells #[a, b] 24
theorem refO_cells {w : World} {b : Nat} {a c : Value} (h : w.heap[b]? = some (refO a c)) : w.cell? ⟨b, 0, none⟩ = some a ∧ w.cell? ⟨b, 1, none⟩ = some c ∧ w.frozen? ⟨b, 0, none⟩ = false ∧ w.frozen? ⟨b, 1, none⟩ = false := by
  refine ⟨?_, ?_, frozen_of_block h 0, frozen_of_block h 1⟩ <;> simp [World.cell?, h]
theorem refO_fill {w : World} {b : Nat} {a c : Value} (h : w.heap[b]? = some (refO a c)) (u v : Value) : ((w.setCell ⟨b, 0, none⟩ u).setCell ⟨b, 1, none⟩ v).heap[b]? = some (refO u v) := set_block (set_block h 0 u) 1 v
/-- Two blocks made one behind the other. -/
theorem two_made {w W : World} {o o' : Obj} (h : (w.alloc o).alloc o' = W) : W.heap.size = w.heap.size + 2 ∧ Below w.heap.size w W ∧ W.heap[w.heap.size]? = some o ∧ W.heap[w.heap.size + 1]? = some o' := by
  subst h
  refine ⟨by simp, ((Below.refl _ _).alloc (Nat.le_refl _) _).alloc (by simp) _, (Below.heap_alloc _ _ _ (by simp)).trans (World.alloc_heap_new _ _), ?_⟩
  have := World.alloc_heap_new (w.alloc o) o'
  rwa [World.size_alloc] at this
theorem three_made {w W : World} {o o' o'' : Obj} (h : ((w.alloc o).alloc o').alloc o'' = W) : W.heap.size = w.heap.size + 3 ∧ Below w.heap.size w W ∧ W.heap[w.heap.size]? = some o ∧ W.heap[w.heap.size + 1]? = some o' ∧ W.heap[w.heap.size + 2]? = some o'' := by
  obtain ⟨V, hV⟩ : ∃ V, (w.alloc o).alloc o' = V := ⟨_, rfl⟩
  obtain ⟨h1, h2, h3, h4⟩ := two_made hV
  rw [hV] at h
  subst h
  refine ⟨by simp [h1], h2.alloc (by omega) _, (Below.heap_alloc _ _ _ (by omega)).trans h3, (Below.heap_alloc _ _ _ (by omega)).trans h4, ?_⟩
  have := World.alloc_heap_new V o''
  rwa [h1] at this

/-- The cells of a node of a graph that lies in memory. -/
theorem node_at {na : Option Addr} {nn nc : Nat} {ns : List GNode} {w : World} (h : NodeSl (fun k => k < w.heap.size) w (.slice na nn nc) ns) {a : Nat} {g : GNode} (hg : ns[a]? = some g) :
    a < nn ∧ nn = ns.length ∧ ∃ kb ko lv xa xc, na = some ⟨kb, ko, none⟩ ∧ (∀ W, Below w.heap.size w W → W.cell? ⟨kb, ko + a * 4, none⟩ = some (.int .i64 g.k) ∧ W.cell? ⟨kb, ko + a * 4 + 1, none⟩ = some (.int .i64 g.p) ∧ W.cell? ⟨kb, ko + a * 4 + 2, none⟩ = some lv ∧ W.cell? ⟨kb, ko + a * 4 + 3, none⟩ = some (.slice xa g.nx.length xc) ∧ StrSl (fun k => k < W.heap.size) W lv g.ls) ∧ ∀ (q : Nat) (r : GRef), g.nx[q]? = some r → ∃ rb ro, xa = some ⟨rb, ro, none⟩ ∧ ∀ W, Below w.heap.size w W → W.cell? ⟨rb, ro + q * 2, none⟩ = some (.int .i64 r.n) ∧ W.cell? ⟨rb, ro + q * 2 + 1, none⟩ = some (.int .i64 r.s) := by
  obtain ⟨_, _, _, e, hln, _, hg1⟩ := h.open
  simp only [Value.slice.injEq] at e
  obtain ⟨rfl, rfl, rfl⟩ := e
  obtain ⟨kb, ko, e1, hkb, n0, n1, lv, nv, n2, n3, n4, n5⟩ := hg1 a g hg
  obtain ⟨xa, xn, xc, rfl, hxn, _, hgx⟩ := n5.open
  rw [hxn.out] at n3
  refine ⟨by rw [hln.out]; exact (List.getElem?_eq_some_iff.1 hg).1, hln.out, kb, ko, lv, xa, xc, e1, fun W hW => ⟨(hW.cell (p := ⟨kb, _, none⟩) hkb).trans n0, (hW.cell (p := ⟨kb, _, none⟩) hkb).trans n1, (hW.cell (p := ⟨kb, _, none⟩) hkb).trans n2, (hW.cell (p := ⟨kb, _, none⟩) hkb).trans n3, (n4.keep (hW.keeps'.mono (fun k hk => hk))).mono (fun k hk => Nat.lt_of_lt_of_le hk hW.size)⟩, fun q r hr => ?_⟩
  obtain ⟨rb, ro, f1, hrb, r0, r1⟩ := hgx q r hr
  exact ⟨rb, ro, f1, fun W hW => ⟨(hW.cell (p := ⟨rb, _, none⟩) hrb).trans r0, (hW.cell (p := ⟨rb, _, none⟩) hrb).trans r1⟩⟩

abbrev grO (na : Option Addr) (nn nc : Nat) : Obj := .cells #[.slice na nn nc] 37
abbrev grV (na : Option Addr) (nn nc : Nat) : Value := .agg #[.slice na nn nc]
abbrev rfV (n : Nat) (s : Int) : Value := .agg #[.int .i64 (n : Int), .int .i64 s]

set_option maxHeartbeats 2000000 in
set_option maxRecDepth 100000 in
theorem kind_any (ns : List GNode) (na : Option Addr) (nn nc : Nat) (a : Nat) (s : Int) (g : GNode) (w : World) (hns : NodeSl (fun k => k < w.heap.size) w (.slice na nn nc) ns) (hg : ns[a]? = some g) (hl : ns.length ≤ 1000000) :
    Calls Try.prog 52 #[grV na nn nc, rfV a s] w fun e w' => e = .returned (.int .i64 g.k) ∧ Below w.heap.size w w' := by
  obtain ⟨hlt, hln, kb, ko, lv, xa, xc, rfl, hcl, _⟩ := node_at hns hg
  obtain ⟨W2, hW2⟩ : ∃ W2, (w.alloc (grO (some ⟨kb, ko, none⟩) nn nc)).alloc (refO (.int .i64 (a : Int)) (.int .i64 s)) = W2 := ⟨_, rfl⟩
  obtain ⟨hs2, hb2, x0, x1⟩ := two_made hW2
  have g0 : W2.cell? ⟨w.heap.size, 0, none⟩ = some (.slice (some ⟨kb, ko, none⟩) nn nc) := by simp [World.cell?, x0]
  obtain ⟨r0, r1, _, _⟩ := refO_cells x1
  obtain ⟨n0, _, _, _, _⟩ := hcl W2 hb2
  have HW2 := Lib.hid hW2
  have HB2 := Lib.hid hb2
  have hnn : nn ≤ 1000000 := by omega
  clear hln
  clear hns hg hcl hW2 hb2 x0 x1 hs2
  go_enter Try.func52, Try.ntmps52
  go_upto_region 1 with fail
  rw [show (w.alloc (.cells #[.slice (some ⟨kb, ko, none⟩) nn nc] 37)).alloc (.cells #[.int .i64 (a : Int), .int .i64 s] 24) = W2 from HW2.out]
  go_wp2_with fail
  go_ret
  exact ⟨rfl, HB2.out⟩

/-- Is a kind an action? -/
def actI (k : Int) : Bool := decide (4 ≤ k) && decide (k ≤ 7)
set_option maxHeartbeats 2000000 in
theorem act_any (k : Int) (w : World) : Calls Try.prog 51 #[.int .i64 k] w fun e w' => e = .returned (.bool (actI k)) ∧ Below w.heap.size w w' := by
  by_cases h4 : k = 4
  · subst h4
    go_enter Try.func51, Try.ntmps51
    go_wp2_with fail
    go_ret
    exact ⟨rfl, Below.refl _ _⟩
  by_cases h5 : k = 5
  · subst h5
    go_enter Try.func51, Try.ntmps51
    go_wp2_with fail
    go_ret
    exact ⟨rfl, Below.refl _ _⟩
  by_cases h6 : k = 6
  · subst h6
    go_enter Try.func51, Try.ntmps51
    go_wp2_with fail
    go_ret
    exact ⟨rfl, Below.refl _ _⟩
  by_cases h7 : k = 7
  · subst h7
    go_enter Try.func51, Try.ntmps51
    go_wp2_with fail
    go_ret
    exact ⟨rfl, Below.refl _ _⟩
  have ha : actI k = false := by
    cases e : actI k with
    | false => rfl
    | true =>
      simp only [actI, Bool.and_eq_true, decide_eq_true_eq] at e
      omega
  rw [ha]
  have b4 : (k == 4) = false := by simpa using h4
  have b5 : (k == 5) = false := by simpa using h5
  have b6 : (k == 6) = false := by simpa using h6
  have b7 : (k == 7) = false := by simpa using h7
  clear ha h4 h5 h6 h7
  go_enter Try.func51, Try.ntmps51
  go_wp2_with fail
  go_ret
  exact ⟨rfl, Below.refl _ _⟩

/-- What Prio answers. -/
def prioV (g : GNode) (s : Int) : Value := if actI g.k = true then .tuple #[.int .i64 (g.p + s), .bool true] else .tuple #[.int .i64 0, .bool false]
set_option maxHeartbeats 2000000 in
set_option maxRecDepth 100000 in
theorem prio_any (ns : List GNode) (na : Option Addr) (nn nc : Nat) (a : Nat) (s : Int) (g : GNode) (w : World) (hns : NodeSl (fun k => k < w.heap.size) w (.slice na nn nc) ns) (hg : ns[a]? = some g) (hl : ns.length ≤ 1000000) (hp : 0 ≤ g.p ∧ g.p ≤ 1000000) (hs : -1000000000000 ≤ s ∧ s ≤ 1000000000000) :
    Calls Try.prog 42 #[grV na nn nc, rfV a s] w fun e w' => e = .returned (prioV g s) ∧ Below w.heap.size w w' := by
  have HNS := Lib.hid hns
  have HGG := Lib.hid hg
  obtain ⟨hlt, hln, kb, ko, lv, xa, xc, rfl, hcl, _⟩ := node_at hns hg
  obtain ⟨W2, hW2⟩ : ∃ W2, (w.alloc (grO (some ⟨kb, ko, none⟩) nn nc)).alloc (refO (.int .i64 (a : Int)) (.int .i64 s)) = W2 := ⟨_, rfl⟩
  obtain ⟨hs2, hb2, x0, x1⟩ := two_made hW2
  have HX : Hid (∀ W, Below W2.heap.size W2 W → W.cell? ⟨w.heap.size, 0, none⟩ = some (.slice (some ⟨kb, ko, none⟩) nn nc) ∧ W.cell? ⟨w.heap.size + 1, 0, none⟩ = some (.int .i64 (a : Int)) ∧ W.cell? ⟨w.heap.size + 1, 1, none⟩ = some (.int .i64 s) ∧ W.cell? ⟨kb, ko + a * 4 + 1, none⟩ = some (.int .i64 g.p)) := Lib.hid (fun W hW => by
    have a0 : W.heap[w.heap.size]? = _ := (hW.block _ (by omega)).trans x0
    obtain ⟨r0, r1, _, _⟩ := refO_cells ((hW.block _ (by omega)).trans x1)
    exact ⟨by simp [World.cell?, a0], r0, r1, (hcl W (below_seq hb2 hW)).2.1⟩)
  have HKD := Lib.hid (kind_any ns (some ⟨kb, ko, none⟩) nn nc a s g W2 ((hns.keep (hb2.keeps'.mono (fun k hk => hk))).mono (fun k hk => Nat.lt_of_lt_of_le hk hb2.size)) hg hl)
  have HAC := Lib.hid (fun W => act_any g.k W)
  have HW2 := Lib.hid hW2
  have HB2 := Lib.hid hb2
  have hnn : nn ≤ 1000000 := by omega
  clear hln
  have e1 : IntKind.i64.wrap (g.p + s) = g.p + s := by rw [IntKind.wrap_i64]; omega
  obtain ⟨g0, r0, r1, _⟩ := HX.out W2 (Below.refl _ _)
  clear hns hg hcl hW2 hb2 x0 x1 hs2
  cases hac : actI g.k
  · have hpv : Hid (prioV g s = .tuple #[.int .i64 0, .bool false]) := Lib.hid (by rw [prioV, hac]; rfl)
    rw [hpv.out]
    rw [hac] at HAC
    clear hac
    go_enter Try.func42, Try.ntmps42
    go_upto_region 1 with fail
    rw [show (w.alloc (.cells #[.slice (some ⟨kb, ko, none⟩) nn nc] 37)).alloc (.cells #[.int .i64 (a : Int), .int .i64 s] 24) = W2 from HW2.out]
    go_wp2_with (first | (go_at_call 52; go_loud (refine HKD.out.mono ?_; rintro en w3 ⟨rfl, hb3⟩; have HB3 := Lib.hid hb3; clear hb3)) | (go_at_call 51; go_loud (refine (HAC.out w3).mono ?_; rintro en w4 ⟨rfl, hb4⟩; have HB4 := Lib.hid hb4; clear hb4)))
    go_ret2
    exact ⟨rfl, below_seq HB2.out (below_seq HB3.out HB4.out)⟩
  · have hpv : Hid (prioV g s = .tuple #[.int .i64 (g.p + s), .bool true]) := Lib.hid (by rw [prioV, hac]; rfl)
    rw [hpv.out]
    rw [hac] at HAC
    clear hac
    go_enter Try.func42, Try.ntmps42
    go_upto_region 1 with fail
    rw [show (w.alloc (.cells #[.slice (some ⟨kb, ko, none⟩) nn nc] 37)).alloc (.cells #[.int .i64 (a : Int), .int .i64 s] 24) = W2 from HW2.out]
    go_upto_region 3 with (first | (go_at_call 52; go_loud (refine HKD.out.mono ?_; rintro en w3 ⟨rfl, hb3⟩; have HB3 := Lib.hid hb3; clear hb3)) | (go_at_call 51; go_loud (refine (HAC.out w3).mono ?_; rintro en w4 ⟨rfl, hb4⟩; have HB4 := Lib.hid (below_seq HB3.out hb4); clear hb4)))
    clear g0 r0 r1
    obtain ⟨g0, r0, r1, n1⟩ := HX.out w4 HB4.out
    go_quiet (fail)
    go_wp2_with fail
    go_ret2
    exact ⟨rfl, below_drewN (below_seq HB2.out HB4.out) _⟩

end Go.Proofs.Yticdkbcfahjpnaa

/- Heads: Next, After, Label; slices.Index. -/
namespace Go.Proofs.Yticdkbcfahjpnaa
open Go.RowKit Go.Deep Go.Shelf

abbrev rfZ : Value := .agg #[.int .i64 0, .int .i64 0]
/-- The reference behind a reference. -/
def nextE (ns : List GNode) (r : GRef) (i : Int) : Option GRef := match ns[r.n]? with
  | some g => if 0 ≤ i then (match g.nx[i.toNat]? with | some q => some ⟨q.n, q.s + r.s⟩ | none => none) else none
  | none => none
def refR : Option GRef → Value
  | some q => .tuple #[rfV q.n q.s, .bool true]
  | none => .tuple #[rfZ, .bool false]
/-- The shifts of a graph are small. -/
def smallG (ns : List GNode) : Prop := ∀ g ∈ ns, (0 ≤ g.p ∧ g.p ≤ 1000000) ∧ ∀ q ∈ g.nx, -1000000 ≤ q.s ∧ q.s ≤ 1000000

theorem next_none {ns : List GNode} {r : GRef} {g : GNode} {i : Int} (hg : ns[r.n]? = some g) (h : i < 0 ∨ (g.nx.length : Int) ≤ i) : nextE ns r i = none := by
  unfold nextE
  rw [hg]
  simp only
  by_cases h0 : 0 ≤ i
  · rw [if_pos h0, List.getElem?_eq_none (by omega)]
  · rw [if_neg h0]
theorem next_some {ns : List GNode} {r : GRef} {g : GNode} {q : GRef} {j : Nat} (hg : ns[r.n]? = some g) (hq : g.nx[j]? = some q) : nextE ns r (j : Int) = some ⟨q.n, q.s + r.s⟩ := by
  unfold nextE
  rw [hg]
  simp only
  rw [if_pos (by omega), Int.toNat_natCast, hq]

/-! ### slices.Index -/
def idxE (x : ByteArray) : List ByteArray → Int → Int
  | [], _ => -1
  | y :: r, j => if y = x then j else idxE x r (j + 1)
end Go.Proofs.Yticdkbcfahjpnaa

/- Heads: After. -/
namespace Go.Proofs.Yticdkbcfahjpnaa
open Go.RowKit Go.Deep Go.Shelf

/-- A list of numbers in memory. -/
structure IntSl (w : World) (pa : Option Addr) (pn : Nat) (xs : List Int) : Prop where
  len : pn = xs.length
  get : ∀ (j : Nat) (x : Int), xs[j]? = some x → ∃ b o, pa = some ⟨b, o, none⟩ ∧ b < w.heap.size ∧ w.cell? ⟨b, o + j, none⟩ = some (.int .i64 x)
theorem IntSl.to {w w' : World} {pa : Option Addr} {pn : Nat} {xs : List Int} (h : IntSl w pa pn xs) (hb : Below w.heap.size w w') : IntSl w' pa pn xs :=
  ⟨h.len, fun j x hj => by
    obtain ⟨b, o, e, hl, hc⟩ := h.get j x hj
    exact ⟨b, o, e, Nat.lt_of_lt_of_le hl hb.size, (hb.cell (p := ⟨b, _, none⟩) hl).trans hc⟩⟩
/-- Where a path leads. -/
def aftE (ns : List GNode) : GRef → List Int → Option GRef
  | r, [] => some r
  | r, i :: l => match nextE ns r i with
    | some q => aftE ns q l
    | none => none
theorem next_in {ns : List GNode} (hw : wfG ns) (hs : smallG ns) {r q : GRef} {i : Int} (h : nextE ns r i = some q) : q.n < ns.length ∧ -1000000 ≤ q.s - r.s ∧ q.s - r.s ≤ 1000000 := by
  unfold nextE at h
  split at h
  · next g hg =>
    split at h
    · split at h
      · next p hp =>
        obtain rfl := Option.some.inj h
        have hm := List.mem_of_getElem? hp
        have h1 := hw r.n g hg p hm
        have h2 := (hs g (List.mem_of_getElem? hg)).2 p hm
        exact ⟨h1, by simp only; omega, by simp only; omega⟩
      · cases h
    · cases h
  · cases h

end Go.Proofs.Yticdkbcfahjpnaa

/- Heads: the priorities of references, one after the other. -/
namespace Go.Proofs.Yticdkbcfahjpnaa
open Go.RowKit Go.Deep Go.Shelf
attribute [local go_sem] Oper.semAt_some

def prioE (ns : List GNode) (r : GRef) : Option Int := match ns[r.n]? with
  | some g => if actI g.k = true then some (g.p + r.s) else none
  | none => none
def priosE (ns : List GNode) (rs : List GRef) : List Int := rs.filterMap (prioE ns)
theorem prios_snoc {ns : List GNode} {rs : List GRef} {j : Nat} {r : GRef} (h : rs[j]? = some r) : priosE ns (rs.take (j + 1)) = priosE ns (rs.take j) ++ (prioE ns r).toList := by
  unfold priosE
  rw [take_snoc_get h, List.filterMap_append]
  congr 1
theorem prios_prefix (ns : List GNode) (rs : List GRef) (j : Nat) : priosE ns (rs.take j) <+: priosE ns rs := by
  refine ⟨priosE ns (rs.drop j), ?_⟩
  unfold priosE
  rw [← List.filterMap_append, List.take_append_drop]
theorem grown_of_below {w w' : World} (h : Below w.heap.size w w') : w.grownBy w' none := ⟨h.os, h.tape, h.output, h.size, fun k hk _ => h.block k hk⟩
abbrev rfO (ra : Option Addr) (rn rc : Nat) : Obj := .cells #[.slice ra rn rc] 60

set_option maxRecDepth 100000 in
set_option maxHeartbeats 4000000 in
/-- The iterator of priorities tells the priorities. -/
theorem prio_tells (n B0 bl bg : Nat) (ns : List GNode) (rs : List GRef) (na : Option Addr) (nn nc : Nat) (ra : Option Addr) (rn rc : Nat) (X : Nat → Prop) (w : World) (hX : ∀ k, X k → B0 ≤ k) (hB0 : B0 ≤ w.heap.size) (hbl : bl < B0) (hbg : bg < B0)
    (hc : w.heap[bl]? = some (rfO ra rn rc)) (hg : w.heap[bg]? = some (grO na nn nc)) (hns : NodeSl (fun k => k < B0) w (.slice na nn nc) ns) (hrs : RefSl (fun k => k < B0) w (.slice ra rn rc) rs) (hl : ns.length ≤ 1000000) (hsm : smallG ns) (hrl : rn ≤ 1000000) (hrb : ∀ r ∈ rs, r.n < ns.length ∧ -1000000000 ≤ r.s ∧ r.s ≤ 1000000000) :
    Tells Fence.wide n Try.prog 55 #[.pointer (some ⟨bl, 0, none⟩), .pointer (some ⟨bg, 0, none⟩)] (fun p : Int => #[.int .i64 p]) (fun _ _ => True) (Kp X) (fun ys => ys = priosE ns rs) (fun pre => pre <+: priosE ns rs) w := by
  intro l J Jx W hW hJ _ hY h0
  have hY' : ∀ m pre x W1, J pre W1 → True → YieldAt Fence.wide m Try.prog l #[.int .i64 x] W1 fun e W' => (e = .returned (.bool true) ∧ J (pre ++ [x]) W' ∧ Kp X W1 W') ∨ (e = .returned (.bool false) ∧ Jx (pre ++ [x]) W') :=
    fun m pre x W1 hj hpx => yield_any rfl m (hY pre x W1 hj hpx)
  have hkW : Keeps (fun k => k < B0) w W := hW.keeps'.mono (fun k hk => Nat.lt_of_lt_of_le hk hB0)
  obtain ⟨_, _, _, e, hrn, _, hget⟩ := (hrs.keep hkW).open
  simp only [Value.slice.injEq] at e
  obtain ⟨rfl, rfl, rfl⟩ := e
  have hnW := hns.keep hkW
  have hcW : W.heap[bl]? = some (rfO ra rn rc) := (hW.block _ (by omega)).trans hc
  have hgW : W.heap[bg]? = some (grO na nn nc) := (hW.block _ (by omega)).trans hg
  have hkv : ∀ V, Kp X W V → Keeps (fun k => k < B0) W V := fun V h => h.keeps (fun k hk => ⟨fun hx => by have := hX k hx; omega, by simp [Value.ownBlock]⟩)
  have hWs : B0 ≤ W.heap.size := Nat.le_trans hB0 hW.size
  have HCELL : Hid (∀ V, Kp X W V → V.heap[bg]? = some (grO na nn nc) ∧ NodeSl (fun k => k < V.heap.size) V (.slice na nn nc) ns ∧ ∀ i r, rs[i]? = some r → ∃ b o, ra = some ⟨b, o, none⟩ ∧ V.cell? ⟨b, o + i * 2, none⟩ = some (.int .i64 r.n) ∧ V.cell? ⟨b, o + i * 2 + 1, none⟩ = some (.int .i64 r.s)) := Lib.hid (fun V hV => by
    have hk := hkv V hV
    refine ⟨hk bg _ hbg hgW rfl, (hnW.keep hk).mono (fun k hk => Nat.lt_of_lt_of_le hk (Nat.le_trans hWs hV.size)), fun i r hi => ?_⟩
    obtain ⟨b, o, e, hb, h0, h1⟩ := hget i r hi
    exact ⟨b, o, e, hk.cell hb h0, hk.cell hb h1⟩)
  have c0 : W.cell? ⟨bl, 0, none⟩ = some (.slice ra rn rc) := by simp [World.cell?, hcW]
  have HY := Lib.hid hY'
  have H0 := Lib.hid h0
  have HRN := Lib.hid hrn.out
  have HJ := Lib.hid hJ
  have HSM := Lib.hid hsm
  have HRB := Lib.hid hrb
  have HL := Lib.hid hl
  clear hY hY' h0 hW hkW hget hnW hcW hgW hkv hns hrs hc hg hrn hJ hsm hrb hl
  refine callsIn_of_wp Try.func55 rfl trivial ?_ rfl
  simp only [Try.ntmps55, List.size_toArray, List.length_cons, List.length_nil, Nat.reduceAdd, Nat.reduceSub, Array.replicate_succ, Array.replicate_zero, List.push_toArray, List.append_toArray, List.nil_append, List.cons_append]
  gi_wp2_with fail
  gi_loopw [10] (fun i wr => ∃ (j : Nat) (ys : List Int), i = .int .i64 j ∧ j ≤ rn ∧ Hid (ys = priosE ns (rs.take j)) ∧ Hid (J ys wr) ∧ Hid (Kp X W wr)) (fun i _ => rn - (intOf i).toNat)
  case atStart => exact ⟨0, [], rfl, by omega, Lib.hid (by simp [priosE]), H0, Lib.hid (KV.refl _ _ _)⟩
  case round =>
    obtain ⟨j, ys, rfl, hj, HYS, HJJ, HKV⟩ := hrel
    by_cases hlt : j < rn
    · obtain ⟨r, hr⟩ : ∃ r, rs[j]? = some r := ⟨_, List.getElem?_eq_getElem (by rw [← HRN.out]; exact hlt)⟩
      obtain ⟨hgb, hnV, hcl⟩ := HCELL.out wr HKV.out
      obtain ⟨b, o, rfl, r0, r1⟩ := hcl j r hr
      obtain ⟨hrn', hrs'⟩ := HRB.out r (List.mem_of_getElem? hr)
      obtain ⟨g, hgn⟩ : ∃ g, ns[r.n]? = some g := ⟨_, List.getElem?_eq_getElem hrn'⟩
      obtain ⟨W5, hW5⟩ : ∃ W5, wr.alloc (.cells #[.int .i64 (r.n : Int), .int .i64 r.s] 24) = W5 := ⟨_, rfl⟩
      have hb5 : Below wr.heap.size wr W5 := by rw [← hW5]; exact blkBelow wr _ _
      have x5 : W5.heap[wr.heap.size]? = some (refO (.int .i64 (r.n : Int)) (.int .i64 r.s)) := by rw [← hW5]; exact World.alloc_heap_new _ _
      have g5 : W5.heap[bg]? = some (grO na nn nc) := (hb5.block _ (Array.getElem?_eq_some_iff.1 hgb).1).trans hgb
      have g0 : W5.cell? ⟨bg, 0, none⟩ = some (.slice na nn nc) := by simp [World.cell?, g5]
      obtain ⟨q0, q1, _, _⟩ := refO_cells x5
      have HPR := Lib.hid (prio_any ns na nn nc r.n r.s g W5 ((hnV.keep (hb5.keeps'.mono (fun k hk => hk))).mono (fun k hk => Nat.lt_of_lt_of_le hk hb5.size)) hgn HL.out (HSM.out g (List.mem_of_getElem? hgn)).1 (by omega))
      obtain ⟨o', ho⟩ : ∃ o, prioE ns r = o := ⟨_, rfl⟩
      have hsn := prios_snoc (ns := ns) hr
      rw [ho] at hsn
      have HSN := Lib.hid hsn
      have HJ5 : Hid (J ys W5) := Lib.hid (HJ.out _ _ _ none HJJ.out (grown_of_below hb5) (fun r e => by cases e))
      have hjs : ∀ (V : World), Below wr.heap.size wr V → J ys V := fun V hV => HJ.out _ _ _ none HJJ.out (grown_of_below hV) (fun r e => by cases e)
      have HJ6 := Lib.hid hjs
      have HB5 := Lib.hid hb5
      rw [← hW5] at g0 q0 q1 HPR HB5
      obtain ⟨pv, hpv⟩ : ∃ v, prioV g r.s = v := ⟨_, rfl⟩
      rw [hpv] at HPR
      cases o' with
      | none =>
        have HV : Hid (pv = .tuple #[.int .i64 0, .bool false]) := Lib.hid (by
          rw [← hpv, prioV]
          unfold prioE at ho
          rw [hgn] at ho
          simp only at ho
          split at ho
          · cases ho
          · next hh => rw [if_neg hh])
        rw [HV.out] at HPR
        have HS : Hid (ys = priosE ns (rs.take (j + 1))) := Lib.hid (by rw [HSN.out, HYS.out]; simp)
        clear hr hgb hnV hcl hgn hsn ho hpv hjs hb5 x5 g5 hW5 hrs' hrn'
        gi_wp2_with (first | (refine ⟨trivial, fun h => (by cases h), ?_⟩; gi_at_call 42; go_loud (refine (callsIn_wide.2 HPR.out).mono ?_); rintro en w6 ⟨rfl, hb6⟩; have HB6 := Lib.hid (below_seq HB5.out hb6); clear hb6))
        clear g0 q0 q1
        refine ⟨fun f h => (by cases h), ?_⟩
        gi_wp2_with fail
        refine ⟨⟨j + 1, ys, by go_num, by omega, HS, Lib.hid (HJ6.out w6 HB6.out), Lib.hid (HKV.out.trans (KV.of_below HB6.out))⟩, ?_⟩
        simp [intOf]; omega
      | some p =>
        have HV : Hid (pv = .tuple #[.int .i64 p, .bool true]) := Lib.hid (by
          rw [← hpv, prioV]
          unfold prioE at ho
          rw [hgn] at ho
          simp only at ho
          split at ho
          · next hh =>
            rw [if_pos hh]
            have := Option.some.inj ho
            rw [this]
          · cases ho)
        rw [HV.out] at HPR
        have HS : Hid (ys ++ [p] = priosE ns (rs.take (j + 1))) := Lib.hid (by rw [HSN.out, HYS.out]; simp)
        clear hr hgb hnV hcl hgn hsn ho hpv hjs hb5 x5 g5 hW5 hrs' hrn'
        gi_wp2_with (first | (refine ⟨trivial, fun h => (by cases h), ?_⟩; gi_at_call 42; go_loud (refine (callsIn_wide.2 HPR.out).mono ?_); rintro en w6 ⟨rfl, hb6⟩; have HB6 := Lib.hid (below_seq HB5.out hb6); clear hb6; obtain ⟨fn, tmps, assign, body, hy, hR⟩ := HY.out (n - 1) ys p w6 (HJ6.out w6 HB6.out) trivial; have HR := Lib.hid hR; clear hR))
        clear g0 q0 q1
        refine ⟨fun h => (by cases h), HR.out.mono ?_⟩
        rintro e w7 (⟨rfl, hj7, hk7⟩ | ⟨rfl, hx7⟩)
        · have HJ7 := Lib.hid hj7
          have HK7 := Lib.hid (HKV.out.trans (KV.trans (KV.of_below HB6.out) hk7))
          clear hj7 hk7 hy
          gi_wp2_with fail
          refine ⟨⟨j + 1, _, by go_num, by omega, HS, HJ7, HK7⟩, ?_⟩
          simp [intOf]; omega
        · have HX7 := Lib.hid hx7
          have HPF : Hid (ys ++ [p] <+: priosE ns rs) := Lib.hid (by rw [HS.out]; exact prios_prefix ns rs (j + 1))
          clear hx7 hy
          gi_wp2_with fail
          exact bodyPost_ret (results_none rfl _ _ _) rfl ⟨⟨_, rfl⟩, .inr ⟨_, HPF.out, HX7.out⟩⟩
    · obtain rfl : j = rn := by omega
      have HQ : Hid (ys = priosE ns rs) := Lib.hid (by rw [HYS.out, List.take_of_length_le (by rw [HRN.out]; exact Nat.le_refl _)])
      gi_wp2
      go_end0
      exact ⟨⟨_, rfl⟩, .inl ⟨ys, HQ.out, HJJ.out⟩⟩
end Go.Proofs.Yticdkbcfahjpnaa

/- Heads: fold over the priorities; Lowest. -/
namespace Go.Proofs.Yticdkbcfahjpnaa
open Go.RowKit Go.Deep Go.Shelf
attribute [local go_sem] Oper.semAt_some

/-- The least number of a list. -/
def minF : List Int → Int
  | [] => 0
  | x :: l => l.foldl min x
theorem minF_snoc (pre : List Int) (x : Int) : minF (pre ++ [x]) = if pre.isEmpty = true then x else min (minF pre) x := by
  cases pre with
  | nil => rfl
  | cons y r => simp [minF, List.foldl_append]
set_option maxHeartbeats 1000000 in
theorem min_any (a b : Int) (w : World) : Calls Try.prog 46 #[.int .i64 a, .int .i64 b] w fun e w' => e = .returned (.int .i64 (min a b)) ∧ w' = w := by
  go_enter Try.func46, Try.ntmps46
  go_wp2_with fail
  all_goals go_ret
  all_goals exact ⟨ret_int (by omega), rfl⟩

set_option maxRecDepth 100000 in
set_option maxHeartbeats 4000000 in
theorem fold_in (n : Nat) (hn : 3 ≤ n) (bl bg : Nat) (ns : List GNode) (rs : List GRef) (na : Option Addr) (nn nc : Nat) (ra : Option Addr) (rn rc : Nat) (w : World) (hbl : bl < w.heap.size) (hbg : bg < w.heap.size)
    (hc : w.heap[bl]? = some (rfO ra rn rc)) (hg : w.heap[bg]? = some (grO na nn nc)) (hns : NodeSl (fun k => k < w.heap.size) w (.slice na nn nc) ns) (hrs : RefSl (fun k => k < w.heap.size) w (.slice ra rn rc) rs) (hl : ns.length ≤ 1000000) (hsm : smallG ns) (hrl : rn ≤ 1000000) (hrb : ∀ r ∈ rs, r.n < ns.length ∧ -1000000000 ≤ r.s ∧ r.s ≤ 1000000000) :
    CallsIn Fence.wide n Try.prog 44 #[.func (.func 55) #[] #[.pointer (some ⟨bl, 0, none⟩), .pointer (some ⟨bg, 0, none⟩)], .func (.func 46) #[] #[]] w fun e w' => e = .returned (.tuple #[.int .i64 (minF (priosE ns rs)), .bool (!(priosE ns rs).isEmpty)]) ∧ Below w.heap.size w w' := by
  have h1 : 1 ≤ n := by omega
  obtain ⟨m, hm⟩ : ∃ m, minF (priosE ns rs) = m := ⟨_, rfl⟩
  obtain ⟨t, ht⟩ : ∃ t, (!(priosE ns rs).isEmpty) = t := ⟨_, rfl⟩
  rw [hm, ht]
  have HMM := Lib.hid hm
  have HTT := Lib.hid ht
  clear hm ht
  obtain ⟨W0, hW0⟩ : ∃ W0, ((w.alloc (.cells #[.func (.func 46) #[] #[]] 93)).alloc (.cells #[.int .i64 0] 3)).alloc (.cells #[.bool false] 4) = W0 := ⟨_, rfl⟩
  obtain ⟨hs0, hb00, y0, y1, y2⟩ := three_made hW0
  have c2 : W0.cell? ⟨w.heap.size + 1 + 1, 0, none⟩ = some (.bool false) := by
    have h : W0.heap[w.heap.size + 1 + 1]? = _ := y2
    simp [World.cell?, h]
  have f2 : W0.frozen? ⟨w.heap.size + 1 + 1, 0, none⟩ = false := frozen_of_block (g := w.heap.size + 1 + 1) y2 0
  obtain ⟨W1, hW1⟩ : ∃ W1, W0.setCell ⟨w.heap.size + 1 + 1, 0, none⟩ (.bool false) = W1 := ⟨_, rfl⟩
  have hs1 : W1.heap.size = w.heap.size + 3 := by rw [← hW1]; simpa [World.setCell] using hs0
  have hb0 : Below w.heap.size w W1 := by rw [← hW1]; exact hb00.setCell (by show w.heap.size ≤ w.heap.size + 1 + 1; omega) _
  have x0 : W1.heap[w.heap.size]? = some (.cells #[.func (.func 46) #[] #[]] 93 (0, 0)) := by rw [← hW1]; exact (set_oth W0 0 _ (by omega)).trans y0
  have x1 : W1.heap[w.heap.size + 1]? = some (.cells #[.int .i64 0] 3 (0, 0)) := by rw [← hW1]; exact (set_oth W0 0 _ (by omega)).trans y1
  have x2 : W1.heap[w.heap.size + 2]? = some (.cells #[.bool false] 4 (0, 0)) := by rw [← hW1]; exact set_block y2 0 _
  refine callsIn_of_wp_marks Try.func44 rfl trivial ?_ rfl
  simp only [Try.ntmps44, List.size_toArray, List.length_cons, List.length_nil, Nat.reduceAdd, Nat.reduceSub, Array.replicate_succ, Array.replicate_zero, List.push_toArray, List.append_toArray, List.nil_append, List.cons_append]
  gi_wp2_with fail
  clear c2 f2 hW0 hW1 y0 y1 y2 hb00
  refine wpIn_range_told rfl h1 (gf := 55) (lb := #[.pointer (some ⟨bl, 0, none⟩), .pointer (some ⟨bg, 0, none⟩)]) rfl trivial (enters_of Try.func55 (by kernel_rfl) rfl)
    (prio_tells (n - 1) w.heap.size bl bg ns rs na nn nc ra rn rc (fun k => k = w.heap.size + 1 ∨ k = w.heap.size + 2) W1 (fun k hk => by omega) (by omega) hbl hbg ((hb0.block _ hbl).trans hc) ((hb0.block _ hbg).trans hg) (hns.keep (hb0.keeps'.mono (fun k hk => hk))) (hrs.keep (hb0.keeps'.mono (fun k hk => hk))) hl hsm hrl hrb) (fun h g => KV.trans h g) (fun W l o o' _ h ho _ => KV.of_cells (by simp) (cellsKept_put h ho)) (fun _ _ _ _ h => h) (Below.refl _ _) (fun _ => rfl)
    (fun pre W => W.heap[w.heap.size]? = some (.cells #[.func (.func 46) #[] #[]] 93 (0, 0)) ∧ W.heap[w.heap.size + 1]? = some (.cells #[.int .i64 (minF pre)] 3 (0, 0)) ∧ W.heap[w.heap.size + 2]? = some (.cells #[.bool (!pre.isEmpty)] 4 (0, 0)) ∧ Below w.heap.size w W) (fun _ _ _ => False)
    ((abides_boxed (by omega) _ _).and ((abides_boxed (by omega) _ _).and ((abides_boxed (by omega) _ _).and (abidesAll_below (by omega) (Nat.le_refl _))))) (fun _ _ _ _ _ h _ _ => h) ⟨x0, x1, x2, hb0⟩
    (fun x a' _ => a' = { tmps := #[.func (.func 55) #[] #[.pointer (some ⟨bl, 0, none⟩), .pointer (some ⟨bg, 0, none⟩)], .func (.func 46) #[] #[], undef, .pointer (some ⟨w.heap.size, 0, none⟩), .int .i64 0, .bool false, .pointer (some ⟨w.heap.size + 1, 0, none⟩), .pointer (some ⟨w.heap.size + 1 + 1, 0, none⟩), .int .i64 x,
      .func (.func 55) #[] #[.pointer (some ⟨bl, 0, none⟩), .pointer (some ⟨bg, 0, none⟩)], .int .i64 x, undef, undef, undef, undef, undef, undef, undef, undef], defers := [] }) (fun _ _ _ _ _ h => h) ?assign ?body ?done ?stop
  case assign =>
    intro l pre x W K hi hp hK
    gi_wp2
    exact hK _ _ (KeepsFrom.refl _ _) (KV.refl _ _ _) hi hp (by simp)
  case body =>
    rintro l pre x a' W hl' _ ⟨hj, ha, hf, hbw⟩ hpx rfl
    have c0 : W.cell? ⟨w.heap.size, 0, none⟩ = some (.func (.func 46) #[] #[]) := by simp [World.cell?, hj]
    have c1 : W.cell? ⟨w.heap.size + 1, 0, none⟩ = some (.int .i64 (minF pre)) := by simp [World.cell?, ha]
    have f1 : W.frozen? ⟨w.heap.size + 1, 0, none⟩ = false := frozen_of_block ha 0
    have c2 : W.cell? ⟨w.heap.size + 1 + 1, 0, none⟩ = some (.bool (!pre.isEmpty)) := by
      have h : W.heap[w.heap.size + 1 + 1]? = _ := hf
      simp [World.cell?, h]
    have f2 : W.frozen? ⟨w.heap.size + 1 + 1, 0, none⟩ = false := frozen_of_block (g := w.heap.size + 1 + 1) hf 0
    have HJ := Lib.hid hj
    have HA := Lib.hid ha
    have HF := Lib.hid hf
    have HBW := Lib.hid hbw
    have HE : Hid ((pre ++ [x]).isEmpty = false) := Lib.hid (by simp)
    have fin : ∀ y : Int, y = minF (pre ++ [x]) → KeepsFrom W1.heap.size W ((W.setCell ⟨w.heap.size + 1, 0, none⟩ (.int .i64 y)).setCell ⟨w.heap.size + 1 + 1, 0, none⟩ (.bool true)) ∧ Kp (fun k => k = w.heap.size + 1 ∨ k = w.heap.size + 2) W ((W.setCell ⟨w.heap.size + 1, 0, none⟩ (.int .i64 y)).setCell ⟨w.heap.size + 1 + 1, 0, none⟩ (.bool true)) ∧
        ((W.setCell ⟨w.heap.size + 1, 0, none⟩ (.int .i64 y)).setCell ⟨w.heap.size + 1 + 1, 0, none⟩ (.bool true)).heap[w.heap.size]? = some (.cells #[.func (.func 46) #[] #[]] 93 (0, 0)) ∧ ((W.setCell ⟨w.heap.size + 1, 0, none⟩ (.int .i64 y)).setCell ⟨w.heap.size + 1 + 1, 0, none⟩ (.bool true)).heap[w.heap.size + 1]? = some (.cells #[.int .i64 (minF (pre ++ [x]))] 3 (0, 0)) ∧ ((W.setCell ⟨w.heap.size + 1, 0, none⟩ (.int .i64 y)).setCell ⟨w.heap.size + 1 + 1, 0, none⟩ (.bool true)).heap[w.heap.size + 2]? = some (.cells #[.bool (!(pre ++ [x]).isEmpty)] 4 (0, 0)) ∧ Below w.heap.size w ((W.setCell ⟨w.heap.size + 1, 0, none⟩ (.int .i64 y)).setCell ⟨w.heap.size + 1 + 1, 0, none⟩ (.bool true)) := by
      rintro y rfl
      refine ⟨((KeepsOthers.setCell _ _ _).trans (KeepsOthers.setCell _ _ _)).from _, ⟨by simp, fun k o hk hc hx _ => (set_oth _ 0 _ (fun e => hx (.inr e))).trans ((set_oth _ 0 _ (fun e => hx (.inl e))).trans hk)⟩, ?_, ?_, ?_, ?_⟩
      · exact (set_oth _ 0 _ (by omega)).trans ((set_oth _ 0 _ (by omega)).trans HJ.out)
      · exact (set_oth _ 0 _ (by omega)).trans (set_block HA.out 0 _)
      · rw [HE.out]
        exact set_block (b := w.heap.size + 2) ((set_oth _ 0 _ (by omega)).trans HF.out) 0 _
      · exact (HBW.out.setCell (p := ⟨w.heap.size + 1, 0, none⟩) (Nat.le_succ _) _).setCell (p := ⟨w.heap.size + 1 + 1, 0, none⟩) (by show w.heap.size ≤ w.heap.size + 1 + 1; omega) _
    have hm := minF_snoc pre x
    clear hj ha hf hbw hpx
    cases he : pre.isEmpty
    · rw [he] at c2 hm
      rw [if_neg (by decide)] at hm
      obtain ⟨m, hmm⟩ : ∃ m, minF pre = m := ⟨_, rfl⟩
      rw [hmm] at c1 hm
      have HM := Lib.hid (min_any m x W)
      have HFIN := Lib.hid (fin (min m x) hm.symm)
      clear fin hm he hmm
      gi_wp2_with (first | (refine ⟨trivial, fun h => (by cases h), ?_⟩; gi_at_call 46; go_loud (refine (callsIn_wide.2 HM.out).mono ?_); rintro en w6 ⟨rfl, rfl⟩))
      exact HFIN.out
    · rw [he] at c2 hm
      rw [if_pos rfl] at hm
      have HFIN := Lib.hid (fin x hm.symm)
      clear fin hm he
      gi_wp2_with fail
      exact HFIN.out
  case done =>
    rintro D ys W hD hys ⟨hj, ha, hf, hbw⟩ hK
    rw [hys] at ha hf
    rw [HMM.out] at ha
    rw [HTT.out] at hf
    have c1 : W.cell? ⟨w.heap.size + 1, 0, none⟩ = some (.int .i64 m) := by simp [World.cell?, ha]
    have c2 : W.cell? ⟨w.heap.size + 1 + 1, 0, none⟩ = some (.bool t) := by
      have h : W.heap[w.heap.size + 1 + 1]? = _ := hf
      simp [World.cell?, h]
    have HK := Lib.hid hK
    have HBW := Lib.hid hbw
    clear hj ha hf hys hK hbw
    gi_wp2_with fail
    gi_region
    gi_wp2_with fail
    have hk : W.drew.heap[D]? = some (.deferred (some [])) := HK.out
    refine ⟨by simp, .inl ⟨_, _, rfl, run_takeDeferred hk, ?_⟩⟩
    exact ⟨_, results_tmp2 rfl _ _ _, rfl, HBW.out.drew.trans (belowK_b (w := w) (Nat.le_refl _) W.drew D _ _ (by omega) hk rfl rfl)⟩
  case stop =>
    rintro D c pre W _ _ h _
    exact h.elim

set_option maxHeartbeats 1000000 in
theorem priorities_any (na : Option Addr) (nn nc : Nat) (ra : Option Addr) (rn rc : Nat) (w : World) :
    Calls Try.prog 45 #[grV na nn nc, .slice ra rn rc] w fun e w' => e = .returned (.func (.func 55) #[] #[.pointer (some ⟨w.heap.size + 1, 0, none⟩), .pointer (some ⟨w.heap.size, 0, none⟩)]) ∧ w' = (w.alloc (grO na nn nc)).alloc (rfO ra rn rc) := by
  go_enter Try.func45, Try.ntmps45
  go_wp2
  go_ret
  exact ⟨rfl, rfl⟩

/-- What Lowest answers. -/
def lowV (l : List Int) : Value := .tuple #[.int .i64 (minF l), .bool (!l.isEmpty)]
set_option maxHeartbeats 2000000 in
set_option maxRecDepth 100000 in
theorem lowest_any (ns : List GNode) (rs : List GRef) (na : Option Addr) (nn nc : Nat) (ra : Option Addr) (rn rc : Nat) (w : World)
    (hns : NodeSl (fun k => k < w.heap.size) w (.slice na nn nc) ns) (hrs : RefSl (fun k => k < w.heap.size) w (.slice ra rn rc) rs) (hl : ns.length ≤ 1000000) (hsm : smallG ns) (hrl : rn ≤ 1000000) (hrb : ∀ r ∈ rs, r.n < ns.length ∧ -1000000000 ≤ r.s ∧ r.s ≤ 1000000000) :
    Calls Try.prog 35 #[grV na nn nc, .slice ra rn rc] w fun e w' => e = .returned (lowV (priosE ns rs)) ∧ Below w.heap.size w w' := by
  obtain ⟨W1, hW1⟩ : ∃ W1, w.alloc (grO na nn nc) = W1 := ⟨_, rfl⟩
  have hb1 : Below w.heap.size w W1 := by rw [← hW1]; exact blkBelow w _ _
  have x1 : W1.heap[w.heap.size]? = some (grO na nn nc) := by rw [← hW1]; exact World.alloc_heap_new _ _
  have g0 : W1.cell? ⟨w.heap.size, 0, none⟩ = some (.slice na nn nc) := by simp [World.cell?, x1]
  obtain ⟨W3, hW3⟩ : ∃ W3, (W1.alloc (grO na nn nc)).alloc (rfO ra rn rc) = W3 := ⟨_, rfl⟩
  obtain ⟨hs3, hb3, y0, y1⟩ := two_made hW3
  have hb : Below w.heap.size w W3 := below_seq hb1 hb3
  have HF := Lib.hid (callsIn_wide.1 (fold_in 3 (by omega) (W1.heap.size + 1) W1.heap.size ns rs na nn nc ra rn rc W3 (by omega) (by omega) y1 y0 ((hns.keep (hb.keeps'.mono (fun k hk => hk))).mono (fun k hk => Nat.lt_of_lt_of_le hk hb.size)) ((hrs.keep (hb.keeps'.mono (fun k hk => hk))).mono (fun k hk => Nat.lt_of_lt_of_le hk hb.size)) hl hsm hrl hrb))
  have HPI := Lib.hid (priorities_any na nn nc ra rn rc W1)
  rw [hW3] at HPI
  obtain ⟨m, hm⟩ : ∃ m, minF (priosE ns rs) = m := ⟨_, rfl⟩
  obtain ⟨t, ht⟩ : ∃ t, (!(priosE ns rs).isEmpty) = t := ⟨_, rfl⟩
  rw [hm, ht] at HF
  unfold lowV
  rw [hm, ht]
  have HW1 := Lib.hid hW1
  have HB := Lib.hid hb
  clear hns hrs hl hsm hrl hrb hb1 x1 hW1 hW3 hs3 hb3 y0 y1 hb hm ht
  go_enter Try.func35, Try.ntmps35
  go_upto_region 1 with fail
  rw [show w.alloc (.cells #[.slice na nn nc] 37) = W1 from HW1.out]
  go_wp2_with (first | (go_at_call 45; go_loud (refine HPI.out.mono ?_; rintro en w3 ⟨rfl, rfl⟩)) | (go_at_call 44; go_loud (refine HF.out.mono ?_; rintro en w4 ⟨rfl, hb4⟩; have HB4 := Lib.hid hb4; clear hb4)))
  go_ret2
  exact ⟨rfl, below_seq HB.out HB4.out⟩
end Go.Proofs.Yticdkbcfahjpnaa

/- Processes: the reference's Texts and Same. -/
namespace Go.Proofs.Yticdkbcfahjpnaa
open Go.RowKit Go.Deep Go.Shelf

end Go.Proofs.Yticdkbcfahjpnaa

/- Graphs: the law's comparison of a graph with the reference's. -/
namespace Go.Proofs.Yticdkbcfahjpnaa
open Go.RowKit Go.Deep Go.Shelf

end Go.Proofs.Yticdkbcfahjpnaa

/- Graphs: the reference's Few (lists of few right types). -/
namespace Go.Proofs.Yticdkbcfahjpnaa
open Go.RowKit Go.Deep Go.Shelf

/-- Few types, all of them small and right. -/
def fewB (ts : List Ty) (m z : Nat) : Bool := decide (ts.length ≤ m) && ts.all (fun t => smallB t z)
theorem fewB_all {ts : List Ty} {m z : Nat} (h : fewB ts m z = true) : ts.length ≤ m ∧ ∀ t ∈ ts, t.size ≤ z ∧ t.depth ≤ 150 ∧ rightE t = 0 := by
  simp only [fewB, Bool.and_eq_true, decide_eq_true_eq, List.all_eq_true, smallB, Ty.few] at h
  exact ⟨h.1, fun t ht => by have := h.2 t ht; exact ⟨this.1.1, by omega, this.2⟩⟩
set_option maxHeartbeats 4000000 in
set_option maxRecDepth 100000 in
theorem few_any (ts : List Ty) (m z : Nat) (hz : z ≤ 1000000) (v : Value) (w : World) (hts : TySl (fun k => k < w.heap.size) w v ts) :
    Calls Try.prog 26 #[v, .int .i64 (m : Int), .int .i64 (z : Int)] w fun e w' => e = .returned (.bool (fewB ts m z)) ∧ Below w.heap.size w w' := by
  obtain ⟨pa, len, c, rfl, hlen, hmx, hget⟩ := hts.open
  have HG := Lib.hid hget
  have HL := Lib.hid hlen.out
  clear hget hts hlen
  by_cases hlm : len ≤ m
  · have hd1 : decide (m < len) = false := by simpa using hlm
    have hd2 : decide ((m : Int) < (len : Int)) = false := by simpa using hlm
    have HLM := Lib.hid hlm
    clear hlm
    go_enter Try.func26, Try.ntmps26
    go_wp2_with fail
    go_loopw [7] (fun i wr => ∃ j : Nat, i = .int .i64 j ∧ j ≤ len ∧ Hid ((ts.take j).all (fun t => smallB t z) = true) ∧ Below w.heap.size w wr) (fun i _ => len - (intOf i).toNat)
    case atStart => exact ⟨0, rfl, by omega, Lib.hid (by simp), Below.refl _ _⟩
    case round =>
      obtain ⟨j, rfl, hj, HT, hb⟩ := hrel
      by_cases hlt : j < len
      · obtain ⟨t, ht⟩ : ∃ t, ts[j]? = some t := ⟨_, List.getElem?_eq_getElem (by rw [← HL.out]; exact hlt)⟩
        obtain ⟨kb, ko, rfl, hkb, hty⟩ := HG.out j t ht
        obtain ⟨lv', kv', ⟨d0, d1, d2, d3, d4, d5⟩, hval⟩ := (hty.keep (hb.keeps'.mono (fun k hk => hk))).load
        have HS := Lib.hid (small_any t z hz _ wr (TyVal.mono (C := fun k => k < wr.heap.size) (fun k hk => Nat.lt_of_lt_of_le hk hb.size) hval))
        obtain ⟨sb, hsb⟩ : ∃ b, smallB t z = b := ⟨_, rfl⟩
        rw [hsb] at HS
        have HN : Hid ((ts.take (j + 1)).all (fun t => smallB t z) = sb) := Lib.hid (by rw [take_snoc_get ht, List.all_append, HT.out, ← hsb]; simp)
        clear hsb ht hval hty
        cases sb
        · go_wp2_with (go_at_call 41; refine HS.out.mono ?_; rintro e w1 ⟨rfl, hb1⟩)
          go_ret
          refine ⟨ret_bool ?_, below_seq hb hb1⟩
          have h := HN.out
          cases hf : fewB ts m z with
          | false => rfl
          | true =>
            simp only [fewB, Bool.and_eq_true, List.all_eq_true] at hf
            rw [List.all_eq_true.2 (fun t ht => hf.2 t (List.mem_of_mem_take ht))] at h
            cases h
        · go_wp2_with (go_at_call 41; refine HS.out.mono ?_; rintro e w1 ⟨rfl, hb1⟩)
          go_roundw
          case rel => exact ⟨j + 1, by go_num, by omega, HN, below_seq hb hb1⟩
          case measure => simp [intOf]; omega
      · obtain rfl : j = len := by omega
        have hf : fewB ts m z = true := by
          have h := HT.out
          rw [List.take_of_length_le (by rw [HL.out]; exact Nat.le_refl _)] at h
          rw [fewB, h, Bool.and_true, decide_eq_true_eq, ← HL.out]; exact HLM.out
        have HF := Lib.hid hf
        clear hf
        go_wp2_with fail
        go_ret
        exact ⟨ret_bool HF.out.symm, hb⟩
  · have hf : fewB ts m z = false := by
      rw [fewB, decide_eq_false (by rw [← HL.out]; exact hlm)]; rfl
    rw [hf]
    clear hf
    go_enter Try.func26, Try.ntmps26
    go_wp2_with fail
    go_ret
    exact ⟨rfl, Below.refl _ _⟩
end Go.Proofs.Yticdkbcfahjpnaa

/- Graphs: the law that the program's graph is the reference's. -/
namespace Go.Proofs.Yticdkbcfahjpnaa
open Go.RowKit Go.Deep Go.Shelf

theorem pnods_nx (e : ByteArray → Nat) : ∀ (l : List Ty) (i : Nat), ∀ x ∈ Ty.pnods i e l, x.nx.length ≤ Ty.sizes l
  | [], i, x, hx => by rw [Ty.pnods] at hx; cases hx
  | t :: r, i, x, hx => by
    rw [Ty.pnods] at hx
    rw [Ty.sizes]
    rcases List.mem_append.1 hx with hx | hx
    · have := pnod_nx t i e x hx; omega
    · have := pnods_nx e r _ x hx; omega
/-- What few right types give. -/
theorem few_facts {ts : List Ty} {m z : Nat} (h : fewB ts m z = true) (hz : z ≤ 1000) : ts.length ≤ m ∧ Ty.sizes ts ≤ m * z ∧ Ty.depths ts ≤ 150 ∧ Ty.okgs ts ∧ (∀ t ∈ ts, nodeR [] 0 false t = 0) ∧ ∀ t ∈ ts, t.depth ≤ 800 := by
  obtain ⟨hl, ha⟩ := fewB_all h
  have hsz : ∀ l : List Ty, (∀ t ∈ l, t.size ≤ z) → Ty.sizes l ≤ l.length * z := by
    intro l
    induction l with
    | nil => intro _; simp [Ty.sizes]
    | cons t r ih =>
      intro hh
      have h1 := hh t (by simp)
      have h2 := ih (fun u hu => hh u (by simp [hu]))
      rw [Ty.sizes, List.length_cons, Nat.add_mul]
      omega
  have hdp : ∀ l : List Ty, (∀ t ∈ l, t.depth ≤ 150) → Ty.depths l ≤ 150 := by
    intro l
    induction l with
    | nil => intro _; simp [Ty.depths]
    | cons t r ih =>
      intro hh
      have h1 := hh t (by simp)
      have h2 := ih (fun u hu => hh u (by simp [hu]))
      rw [Ty.depths]
      omega
  refine ⟨hl, Nat.le_trans (hsz ts (fun t ht => (ha t ht).1)) (Nat.mul_le_mul_right z hl), hdp ts (fun t ht => (ha t ht).2.1), Ty.okgs_of (fun t ht => okg_of t [] 0 false (right_node (ha t ht).2.2) (by have := (ha t ht).1; omega)), fun t ht => right_node (ha t ht).2.2, fun t ht => by have := (ha t ht).2.1; omega⟩

end Go.Proofs.Yticdkbcfahjpnaa

/- Heads: the graph of few right types is small; raised references. -/
namespace Go.Proofs.Yticdkbcfahjpnaa
open Go.RowKit Go.Deep Go.Shelf

theorem pref_sh : ∀ (t : Ty) (i : Nat) (e : ByteArray → Nat), t.sok → -1000000 ≤ (t.pref i e).s ∧ (t.pref i e).s ≤ 1000000 := by
  refine Ty.ind ?_
  intro k p n s ls ts ih i e h
  simp only [Ty.sok] at h
  rw [Ty.pref]
  by_cases h8 : k = 8
  · rw [if_pos h8]
    match ts, ih, h with
    | [], _, _ => rw [Ty.pref1]; exact ⟨by show (-1000000 : Int) ≤ 0; decide, by show (0 : Int) ≤ 1000000; decide⟩
    | u :: r, ih, h => rw [Ty.pref1]; simp only [Ty.soks] at h; exact ih u (by simp) _ _ h.2.2.1
  · rw [if_neg h8]
    split
    · exact h.1
    · exact ⟨by show (-1000000 : Int) ≤ 0; decide, by show (0 : Int) ≤ 1000000; decide⟩
theorem prefs_sh (e : ByteArray → Nat) : ∀ (l : List Ty) (i : Nat), Ty.soks l → ∀ q ∈ Ty.prefs i e l, -1000000 ≤ q.s ∧ q.s ≤ 1000000
  | [], _, _, q, hq => by rw [Ty.prefs] at hq; cases hq
  | t :: r, i, h, q, hq => by
    rw [Ty.prefs] at hq
    simp only [Ty.soks] at h
    rcases List.mem_cons.1 hq with rfl | hq
    · exact pref_sh t i e h.1
    · exact prefs_sh e r _ h.2 q hq
theorem pnods_mem {x : GNode} {e : ByteArray → Nat} : ∀ (l : List Ty) (i : Nat), x ∈ Ty.pnods i e l → ∃ t ∈ l, ∃ j, x ∈ t.pnod j e
  | [], i, h => by rw [Ty.pnods] at h; cases h
  | t :: r, i, h => by
    rw [Ty.pnods] at h
    rcases List.mem_append.1 h with h | h
    · exact ⟨t, by simp, i, h⟩
    · obtain ⟨u, hu, j, hj⟩ := pnods_mem r _ h
      exact ⟨u, by simp [hu], j, hj⟩
theorem pnod_sh : ∀ (t : Ty) (i : Nat) (e : ByteArray → Nat), t.sok → ∀ x ∈ t.pnod i e, ∀ q ∈ x.nx, -1000000 ≤ q.s ∧ q.s ≤ 1000000 := by
  refine Ty.ind ?_
  intro k p n s ls ts ih i e h x hx
  simp only [Ty.sok] at h
  rw [Ty.pnod] at hx
  by_cases h8 : k = 8
  · rw [if_pos h8] at hx
    match ts, ih, h, hx with
    | [], _, _, hx => rw [Ty.pnod1] at hx; cases hx
    | u :: r, ih, h, hx =>
      rw [Ty.pnod1] at hx
      simp only [Ty.soks] at h
      exact ih u (by simp) _ _ h.2.2.1 x hx
  · rw [if_neg h8] at hx
    by_cases h9 : k = 9
    · rw [if_pos h9] at hx; cases hx
    · rw [if_neg h9] at hx
      rcases List.mem_cons.1 hx with rfl | hx
      · exact prefs_sh e ts _ h.2.2
      · obtain ⟨u, hu, j, hj⟩ := pnods_mem ts _ hx
        exact ih u hu j e (Ty.soks_mem h.2.2 u hu) x hj
theorem pnod_ls : ∀ (t : Ty) (names : List ByteArray) (g : Nat) (se : Bool) (i : Nat) (e : ByteArray → Nat), nodeR names g se t = 0 → ∀ x ∈ t.pnod i e, x.ls.length ≤ t.size := by
  refine Ty.ind ?_
  intro k p n s ls ts ih names g se i e h x hx
  obtain ⟨hs, h2⟩ := nodeR_shape h
  have hlen := Ty.length_sizes ts
  rw [Ty.size]
  rw [Ty.pnod] at hx
  by_cases h8 : k = 8
  · subst h8
    rw [if_pos rfl] at hx
    rw [if_neg (by decide), if_pos rfl] at h2
    match ts, ih, h2, hx with
    | [], _, _, hx => rw [Ty.pnod1] at hx; cases hx
    | u :: r, ih, h2, hx =>
      obtain ⟨se', hu⟩ := kidsR_all h2 u (by simp)
      rw [Ty.pnod1] at hx
      have := ih u (by simp) _ _ _ _ _ hu x hx
      rw [Ty.sizes]
      omega
  · rw [if_neg h8] at hx
    by_cases h9 : k = 9
    · rw [if_pos h9] at hx; cases hx
    · rw [if_neg h9] at hx
      rw [if_neg h9, if_neg h8] at h2
      rcases List.mem_cons.1 hx with rfl | hx
      · have hp := shape_ls hs
        simp only
        omega
      · obtain ⟨u, hu, j, hj⟩ := pnods_mem ts _ hx
        obtain ⟨se', ht⟩ := kidsR_all h2 u hu
        have := ih u hu _ _ _ j e ht x hj
        have := Ty.size_mem hu
        omega

theorem small_all {ts : List Ty} (h : ∀ t ∈ ts, nodeR [] 0 false t = 0) : smallG (gNodes ts) := by
  intro g hg
  obtain ⟨t, ht, j, hj⟩ := pnods_mem ts 0 hg
  have h1 := pnod_kp t [] 0 false j _ (h t ht) g hj
  exact ⟨h1.2.2, pnod_sh t j _ (sok_of t [] 0 false (h t ht)) g hj⟩
theorem labels_all {ts : List Ty} (h : ∀ t ∈ ts, nodeR [] 0 false t = 0) : ∀ g ∈ gNodes ts, g.ls.length ≤ Ty.sizes ts := by
  intro g hg
  obtain ⟨t, ht, j, hj⟩ := pnods_mem ts 0 hg
  have := pnod_ls t [] 0 false j _ (h t ht) g hj
  have := Ty.size_mem ht
  omega
theorem hnods_wf (L : Nat) : ∀ (l : List Ty) (i : Nat), (∀ t ∈ l, nodeR [] 0 false t = 0) → i + Ty.gcnts l ≤ L → ∀ x ∈ Ty.pnods i (fun _ => 0) l, ∀ r ∈ x.nx, r.n < L
  | [], i, _, _, x, hx => by rw [Ty.pnods] at hx; cases hx
  | t :: l, i, h, hi, x, hx => by
    rw [Ty.pnods] at hx
    rw [Ty.gcnts] at hi
    rcases List.mem_append.1 hx with hx | hx
    · exact (pnod_wf L t [] 0 false i (fun _ => 0) (h t (by simp)) (Nat.le_refl _) (fun x hx => absurd hx (varR_nil 0 x)) (fun x hx => by cases hx) (by omega)).2 x hx
    · exact hnods_wf L l _ (fun u hu => h u (by simp [hu])) (by omega) x hx
theorem hwf_all {ts : List Ty} (h : ∀ t ∈ ts, nodeR [] 0 false t = 0) (hok : Ty.okgs ts) : wfG (gNodes ts) := by
  intro n g hg
  have hl : (gNodes ts).length = Ty.gcnts ts := by unfold gNodes; rw [pnods_ok _ _ hok]
  rw [hl]
  exact hnods_wf (Ty.gcnts ts) ts 0 h (by omega) g (List.mem_of_getElem? hg)
theorem prefs_wf (L : Nat) : ∀ (l : List Ty) (i : Nat), (∀ t ∈ l, nodeR [] 0 false t = 0) → i + Ty.gcnts l ≤ L → ∀ r ∈ Ty.prefs i (fun _ => 0) l, r.n < L
  | [], i, _, _, r, hr => by rw [Ty.prefs] at hr; cases hr
  | t :: l, i, h, hi, r, hr => by
    rw [Ty.prefs] at hr
    rw [Ty.gcnts] at hi
    rcases List.mem_cons.1 hr with rfl | hr
    · exact (pnod_wf L t [] 0 false i (fun _ => 0) (h t (by simp)) (Nat.le_refl _) (fun x hx => absurd hx (varR_nil 0 x)) (fun x hx => by cases hx) (by omega)).1
    · exact prefs_wf L l _ (fun u hu => h u (by simp [hu])) (by omega) r hr
theorem refs_all {ts : List Ty} (h : ∀ t ∈ ts, nodeR [] 0 false t = 0) (hok : Ty.okgs ts) : ∀ r ∈ gRefs ts, r.n < (gNodes ts).length ∧ -1000000 ≤ r.s ∧ r.s ≤ 1000000 := by
  intro r hr
  have hl : (gNodes ts).length = Ty.gcnts ts := by unfold gNodes; rw [pnods_ok _ _ hok]
  have hsk : ∀ l : List Ty, (∀ t ∈ l, nodeR [] 0 false t = 0) → Ty.soks l := by
    intro l
    induction l with
    | nil => intro _; simp [Ty.soks]
    | cons t r ih => intro hh; rw [Ty.soks]; exact ⟨sok_of t [] 0 false (hh t (by simp)), ih (fun u hu => hh u (by simp [hu]))⟩
  refine ⟨?_, prefs_sh _ ts 0 (hsk ts h) r hr⟩
  rw [hl]
  exact prefs_wf (Ty.gcnts ts) ts 0 h (by omega) r hr

/-! ### Raised references -/
def upR (k : Int) (r : GRef) : GRef := ⟨r.n, r.s + k⟩
theorem next_up (ns : List GNode) (k : Int) (r : GRef) (i : Int) : nextE ns (upR k r) i = (nextE ns r i).map (upR k) := by
  unfold nextE
  show (match ns[r.n]? with | some g => _ | none => none) = _
  cases ns[r.n]? with
  | none => rfl
  | some g =>
    dsimp only
    split
    · cases g.nx[i.toNat]? with
      | none => rfl
      | some q => simp only [upR, Option.map_some, Int.add_assoc]
    · rfl
theorem aft_up (ns : List GNode) (k : Int) : ∀ (l : List Int) (r : GRef), aftE ns (upR k r) l = (aftE ns r l).map (upR k)
  | [], r => rfl
  | i :: l, r => by
    rw [aftE, aftE, next_up]
    cases nextE ns r i with
    | none => rfl
    | some q => exact aft_up ns k l q
theorem aft_in {ns : List GNode} (hw : wfG ns) (hs : smallG ns) : ∀ (l : List Int) (r q : GRef), aftE ns r l = some q → -1000000 * (l.length : Int) ≤ q.s - r.s ∧ q.s - r.s ≤ 1000000 * (l.length : Int)
  | [], r, q, h => by
    obtain rfl := Option.some.inj h
    simp
  | i :: l, r, q, h => by
    rw [aftE] at h
    split at h
    · next p hp =>
      have h1 := next_in hw hs hp
      have h2 := aft_in hw hs l p q h
      rw [List.length_cons]
      omega
    · cases h
theorem prio_up (ns : List GNode) (k : Int) (r : GRef) : prioE ns (upR k r) = (prioE ns r).map (· + k) := by
  unfold prioE
  show (match ns[r.n]? with | some g => _ | none => none) = _
  cases ns[r.n]? with
  | none => rfl
  | some g =>
    dsimp only
    split
    · simp only [upR, Option.map_some, Int.add_assoc]
    · rfl
theorem prios_up (ns : List GNode) (k : Int) (rs : List GRef) : priosE ns (rs.map (upR k)) = (priosE ns rs).map (· + k) := by
  induction rs with
  | nil => rfl
  | cons r l ih =>
    have h : ∀ (r : GRef) (l : List GRef), priosE ns (r :: l) = (prioE ns r).toList ++ priosE ns l := fun r l => by
      unfold priosE
      rw [List.filterMap_cons]
      cases prioE ns r <;> rfl
    rw [List.map_cons, h, h, ih, prio_up, List.map_append]
    cases prioE ns r <;> rfl
theorem minF_up (k : Int) (l : List Int) (h : l ≠ []) : minF (l.map (· + k)) = minF l + k := by
  match l, h with
  | x :: l, _ =>
    simp only [List.map_cons, minF]
    induction l generalizing x with
    | nil => rfl
    | cons y r ih =>
      simp only [List.map_cons, List.foldl_cons]
      rw [show min (x + k) (y + k) = min x y + k by omega]
      exact ih _ (by simp)
theorem prios_le {ns : List GNode} (hs : smallG ns) {rs : List GRef} (hr : ∀ r ∈ rs, -1000000 ≤ r.s ∧ r.s ≤ 1000000) : ∀ x ∈ priosE ns rs, -2000000 ≤ x ∧ x ≤ 2000000 := by
  intro x hx
  obtain ⟨r, hm, h⟩ := List.mem_filterMap.1 hx
  unfold prioE at h
  split at h
  · next g hg =>
    split at h
    · obtain rfl := Option.some.inj h
      have h1 := (hs g (List.mem_of_getElem? hg)).1
      have h2 := hr r hm
      omega
    · cases h
  · cases h
theorem minF_mem {l : List Int} (h : l ≠ []) : minF l ∈ l := by
  match l, h with
  | x :: l, _ =>
    simp only [minF]
    induction l generalizing x with
    | nil => simp
    | cons y r ih =>
      rw [List.foldl_cons]
      have := ih (min x y) (by simp)
      rcases List.mem_cons.1 this with h | h
      · rw [h]
        rcases Int.le_total x y with h1 | h1
        · rw [Int.min_eq_left h1]; simp
        · rw [Int.min_eq_right h1]; simp
      · exact List.mem_cons_of_mem _ (List.mem_cons_of_mem _ h)
end Go.Proofs.Yticdkbcfahjpnaa

/- Contexts (mathematics): the first action of a type, behind TRecs; its node in the graph; what unfolding keeps. -/
namespace Go.Proofs.Yticdkbcfahjpnaa
open Go.RowKit

mutual
/-- The kind behind TRecs. -/
def Ty.hk : Ty → Int
  | .mk k _ _ _ _ ts => if k = 8 then Ty.hk1 ts else k
def Ty.hk1 : List Ty → Int
  | [] => 8
  | t :: _ => t.hk
end
mutual
/-- .. and the priority. -/
def Ty.hp : Ty → Int
  | .mk k p _ _ _ ts => if k = 8 then Ty.hp1 ts else p
def Ty.hp1 : List Ty → Int
  | [] => 0
  | t :: _ => t.hp
end
mutual
/-- How many TRecs stand in front. -/
def Ty.rc : Ty → Nat
  | .mk k _ _ _ _ ts => if k = 8 then Ty.rc1 ts + 1 else 0
def Ty.rc1 : List Ty → Nat
  | [] => 0
  | t :: _ => t.rc
end
/-- The priority of a type that begins with an action. -/
def Ty.pri (t : Ty) : Option Int := if actI t.hk = true then some t.hp else none

theorem pnod_hd : ∀ (t : Ty) (i : Nat) (e : ByteArray → Nat), t.okg → t.real = true → ∃ ls nx r, t.pnod i e = ⟨t.hk, t.hp, ls, nx⟩ :: r := by
  refine Ty.ind ?_
  intro k p n s ls ts ih i e hok hr
  simp only [Ty.okg] at hok
  by_cases h8 : k = 8
  · subst h8
    have hl := hok.2.1 rfl
    match ts, hl, ih, hok, hr with
    | [t], _, ih, hok, hr =>
      rw [Ty.real, if_pos rfl, Ty.real1] at hr
      simp only [Ty.okgs] at hok
      obtain ⟨ls', nx, r, h⟩ := ih t (by simp) i (upE e n i) hok.2.2.2.2.1 hr
      refine ⟨ls', nx, r, ?_⟩
      rw [Ty.pnod, if_pos rfl, Ty.pnod1, h, Ty.hk, if_pos rfl, Ty.hk1, Ty.hp, if_pos rfl, Ty.hp1]
  · by_cases h9 : k = 9
    · subst h9
      rw [Ty.real, if_neg (by decide)] at hr
      simp at hr
    · refine ⟨ls, Ty.prefs (i + 1) e ts, Ty.pnods (i + 1) e ts, ?_⟩
      rw [Ty.pnod, if_neg h8, if_neg h9, Ty.hk, if_neg h8, Ty.hp, if_neg h8]

/-- The reference of a type of a list, and its node. -/
theorem head_at (e : ByteArray → Nat) : ∀ (l : List Ty) (i : Nat) (j : Nat) (t : Ty), (∀ t ∈ l, t.okg ∧ t.real = true) → l[j]? = some t → ∃ a ls nx, (Ty.prefs i e l)[j]? = some ⟨i + a, 0⟩ ∧ (Ty.pnods i e l)[a]? = some ⟨t.hk, t.hp, ls, nx⟩
  | [], _, _, _, _, h => by simp at h
  | u :: r, i, 0, t, hl, h => by
    obtain rfl : u = t := by simpa using h
    obtain ⟨h1, h2⟩ := hl u (by simp)
    obtain ⟨ls, nx, q, hq⟩ := pnod_hd u i e h1 h2
    refine ⟨0, ls, nx, ?_, ?_⟩
    · rw [Ty.prefs, real_pref u i e h2]; rfl
    · rw [Ty.pnods, hq]; rfl
  | u :: r, i, j + 1, t, hl, h => by
    obtain ⟨a, ls, nx, h1, h2⟩ := head_at e r (i + u.gcnt) j t (fun t ht => hl t (by simp [ht])) (by simpa using h)
    refine ⟨u.gcnt + a, ls, nx, ?_, ?_⟩
    · rw [Ty.prefs, List.getElem?_cons_succ, h1, Nat.add_assoc]
    · have hlen := pnod_ok u (hl u (by simp)).1 i e
      rw [Ty.pnods, List.getElem?_append_right (by rw [hlen]; exact Nat.le_add_right _ _), hlen, Nat.add_sub_cancel_left, h2]
theorem pri_at {ts : List Ty} (h : ∀ t ∈ ts, nodeR [] 0 false t = 0 ∧ t.okg) {j : Nat} {t : Ty} (hj : ts[j]? = some t) : ∃ r, (gRefs ts)[j]? = some r ∧ prioE (gNodes ts) r = t.pri := by
  obtain ⟨a, ls, nx, h1, h2⟩ := head_at (fun _ => 0) ts 0 j t (fun t ht => ⟨(h t ht).2, real_of t [] false (h t ht).1⟩) hj
  refine ⟨⟨0 + a, 0⟩, h1, ?_⟩
  have h3 : (gNodes ts)[0 + a]? = some ⟨t.hk, t.hp, ls, nx⟩ := by rw [Nat.zero_add]; exact h2
  unfold prioE Ty.pri
  rw [h3]
  simp
/-! ### Unfolding -/
mutual
/-- TRecs in front, one inside the other, and no variable behind them. -/
def Ty.ch : Ty → Bool
  | .mk k _ _ _ _ ts => if k = 8 then Ty.ch1 ts else k != 9
def Ty.ch1 : List Ty → Bool
  | [] => false
  | t :: r => t.ch && r.isEmpty
end
theorem ch_8 {p s : Int} {n : ByteArray} {ls : List ByteArray} {ts : List Ty} (h : (Ty.mk 8 p n s ls ts).ch = true) : ∃ b, ts = [b] ∧ b.ch = true := by
  rw [Ty.ch, if_pos rfl] at h
  match ts, h with
  | [b], h => rw [Ty.ch1] at h; exact ⟨b, rfl, by simpa using h⟩
  | [], h => rw [Ty.ch1] at h; cases h
  | b :: c :: r, h => rw [Ty.ch1] at h; simp at h
theorem ch_of : ∀ t : Ty, t.okg → t.real = true → t.ch = true := by
  refine Ty.ind ?_
  intro k p n s ls ts ih hok hr
  simp only [Ty.okg] at hok
  by_cases h8 : k = 8
  · subst h8
    have hl := hok.2.1 rfl
    match ts, hl, ih, hok, hr with
    | [t], _, ih, hok, hr =>
      rw [Ty.real, if_pos rfl, Ty.real1] at hr
      simp only [Ty.okgs] at hok
      rw [Ty.ch, if_pos rfl, Ty.ch1, ih t (by simp) hok.2.2.2.2.1 hr]
      rfl
  · rw [Ty.real, if_neg h8] at hr
    rw [Ty.ch, if_neg h8]
    exact hr
theorem put_hd (nm : ByteArray) (by_ : Ty) : ∀ b : Ty, b.ch = true → (Ty.put nm by_ b).hk = b.hk ∧ (Ty.put nm by_ b).hp = b.hp ∧ (Ty.put nm by_ b).rc = b.rc ∧ (Ty.put nm by_ b).ch = true := by
  refine Ty.ind ?_
  intro k p n s ls ts ih hc
  by_cases h8 : k = 8
  · subst h8
    obtain ⟨t, rfl, ht⟩ := ch_8 hc
    rw [Ty.put, putC, if_neg (by rintro ⟨h, _⟩; exact absurd h (by decide))]
    by_cases hn : n = nm
    · rw [if_pos ⟨rfl, hn⟩]
      exact ⟨rfl, rfl, rfl, hc⟩
    · rw [if_neg (by rintro ⟨_, h⟩; exact hn h), Ty.puts, Ty.puts]
      obtain ⟨h1, h2, h3, h4⟩ := ih t (by simp) ht
      refine ⟨?_, ?_, ?_, ?_⟩
      · rw [Ty.hk, if_pos rfl, Ty.hk1, h1, Ty.hk, if_pos rfl, Ty.hk1]
      · rw [Ty.hp, if_pos rfl, Ty.hp1, h2, Ty.hp, if_pos rfl, Ty.hp1]
      · rw [Ty.rc, if_pos rfl, Ty.rc1, h3, Ty.rc, if_pos rfl, Ty.rc1]
      · rw [Ty.ch, if_pos rfl, Ty.ch1, h4]; rfl
  · have h9 : k ≠ 9 := by
      rintro rfl
      rw [Ty.ch, if_neg (by decide)] at hc
      simp at hc
    rw [Ty.put, putC, if_neg (fun h => h9 h.1), if_neg (fun h => h8 h.1)]
    refine ⟨?_, ?_, ?_, ?_⟩
    · rw [Ty.hk, if_neg h8, Ty.hk, if_neg h8]
    · rw [Ty.hp, if_neg h8, Ty.hp, if_neg h8]
    · rw [Ty.rc, if_neg h8, Ty.rc, if_neg h8]
    · rw [Ty.ch, if_neg h8]; simpa using h9

mutual
/-- No priority, no shift and no list is too large. -/
def Ty.bd (P : Int) : Ty → Prop
  | .mk _ p _ s ls ts => (-P ≤ p ∧ p ≤ P) ∧ (-1000000 ≤ s ∧ s ≤ 1000000) ∧ ls.length ≤ 400000000 ∧ ts.length ≤ 1000000 ∧ Ty.bds P ts
def Ty.bds (P : Int) : List Ty → Prop
  | [] => True
  | t :: r => t.bd P ∧ Ty.bds P r
end
theorem Ty.bds_mem {P : Int} : ∀ {ts : List Ty}, Ty.bds P ts → ∀ t ∈ ts, t.bd P
  | [], _, _, h => by cases h
  | u :: r, h, t, ht => by
    simp only [Ty.bds] at h
    rcases List.mem_cons.1 ht with rfl | ht
    · exact h.1
    · exact Ty.bds_mem h.2 t ht
theorem Ty.bds_of {P : Int} : ∀ {ts : List Ty}, (∀ t ∈ ts, t.bd P) → Ty.bds P ts
  | [], _ => by simp only [Ty.bds]
  | u :: r, h => by simp only [Ty.bds]; exact ⟨h u (by simp), Ty.bds_of (fun t ht => h t (by simp [ht]))⟩
theorem Ty.bd_mono {P Q : Int} (h : P ≤ Q) : ∀ t : Ty, t.bd P → t.bd Q := by
  refine Ty.ind ?_
  intro k p n s ls ts ih ht
  simp only [Ty.bd] at ht ⊢
  exact ⟨⟨by omega, by omega⟩, ht.2.1, ht.2.2.1, ht.2.2.2.1, Ty.bds_of (fun t hm => ih t hm (Ty.bds_mem ht.2.2.2.2 t hm))⟩
theorem raise_bd {P : Int} {j : Int} (hj : -1000000 ≤ j ∧ j ≤ 1000000) : ∀ t : Ty, t.bd P → (t.raise j).bd (P + 1000000) := by
  refine Ty.ind ?_
  intro k p n s ls ts ih ht
  simp only [Ty.bd] at ht
  rw [Ty.raise]
  simp only [Ty.bd]
  refine ⟨by split <;> omega, ht.2.1, ht.2.2.1, by rw [Ty.raises_map, List.length_map]; exact ht.2.2.2.1, Ty.bds_of (fun t hm => ?_)⟩
  rw [Ty.raises_map] at hm
  obtain ⟨u, hu, rfl⟩ := List.mem_map.1 hm
  exact ih u hu (Ty.bds_mem ht.2.2.2.2 u hu)
theorem put_bd {P : Int} {nm : ByteArray} {by_ : Ty} (_hP : 0 ≤ P) (hb : by_.bd P) : ∀ t : Ty, t.bd P → (Ty.put nm by_ t).bd (P + 1000000) := by
  refine Ty.ind ?_
  intro k p n s ls ts ih ht
  have ht' := ht
  simp only [Ty.bd] at ht
  rw [Ty.put, putC]
  split
  · exact raise_bd ht.2.1 by_ hb
  · split
    · exact Ty.bd_mono (by omega) _ ht'
    · simp only [Ty.bd]
      refine ⟨⟨by omega, by omega⟩, ht.2.1, ht.2.2.1, by rw [Ty.puts_map, List.length_map]; exact ht.2.2.2.1, Ty.bds_of (fun t hm => ?_)⟩
      rw [Ty.puts_map] at hm
      obtain ⟨u, hu, rfl⟩ := List.mem_map.1 hm
      exact ih u hu (Ty.bds_mem ht.2.2.2.2 u hu)
theorem can_bd {P : Int} {j : Int} (h0 : 0 ≤ P) (hP : P ≤ 1000000000000000) (hj : -1000000 ≤ j ∧ j ≤ 1000000) : ∀ t : Ty, t.bd P → t.can j := by
  refine Ty.ind ?_
  intro k p n s ls ts ih ht
  simp only [Ty.bd] at ht
  simp only [Ty.can]
  refine ⟨fun _ => ⟨by omega, by omega⟩, ht.2.2.1, by omega, ?_⟩
  have : ∀ l : List Ty, (∀ t ∈ l, t ∈ ts) → Ty.cans j l := by
    intro l
    induction l with
    | nil => intro _; simp only [Ty.cans]
    | cons u r ihl => intro hl; simp only [Ty.cans]; exact ⟨ih u (hl u (by simp)) (Ty.bds_mem ht.2.2.2.2 u (hl u (by simp))), ihl (fun t h => hl t (by simp [h]))⟩
  exact this ts (fun t h => h)

/-- Unfolded, as far as TRecs stand in front. -/
def Ty.unf : Nat → Ty → Ty
  | 0, t => t
  | f + 1, .mk k p n s ls ts => if k = 8 then (match ts with | b :: _ => Ty.unf f (Ty.put n (.mk k p n s ls ts) b) | [] => .mk k p n s ls ts) else .mk k p n s ls ts
theorem unf_hd : ∀ (f : Nat) (t : Ty), t.rc = f → t.ch = true → (t.unf f).k = t.hk ∧ (t.unf f).p = t.hp
  | 0, .mk k p n s ls ts, hf, hc => by
    by_cases h8 : k = 8
    · rw [Ty.rc, if_pos h8] at hf; omega
    · rw [Ty.unf, Ty.hk, if_neg h8, Ty.hp, if_neg h8]; exact ⟨rfl, rfl⟩
  | f + 1, .mk k p n s ls ts, hf, hc => by
    by_cases h8 : k = 8
    · subst h8
      obtain ⟨b, rfl, hb⟩ := ch_8 hc
      rw [Ty.rc, if_pos rfl, Ty.rc1] at hf
      obtain ⟨h1, h2, h3, h4⟩ := put_hd n (.mk 8 p n s ls [b]) b hb
      obtain ⟨h5, h6⟩ := unf_hd f (Ty.put n (.mk 8 p n s ls [b]) b) (by omega) h4
      rw [Ty.unf, if_pos rfl]
      refine ⟨?_, ?_⟩
      · rw [h5, h1, Ty.hk, if_pos rfl, Ty.hk1]
      · rw [h6, h2, Ty.hp, if_pos rfl, Ty.hp1]
    · rw [Ty.rc, if_neg h8] at hf; omega
theorem rc_depth : ∀ t : Ty, t.rc ≤ t.size := by
  refine Ty.ind ?_
  intro k p n s ls ts ih
  rw [Ty.rc, Ty.size]
  split
  · match ts, ih with
    | [], _ => rw [Ty.rc1]; omega
    | t :: r, ih => rw [Ty.rc1, Ty.sizes]; have := ih t (by simp); omega
  · omega
theorem shape_bd {k p s : Int} {n : ByteArray} {ls : List ByteArray} {m : Nat} (h : shapeC k p s n ls m = true) : 0 ≤ s ∧ s ≤ 1000000 := by
  unfold shapeC at h
  repeat' split at h
  all_goals simp [prioB] at h
  all_goals omega
theorem bd_of : ∀ (t : Ty) (names : List ByteArray) (g : Nat) (se : Bool), nodeR names g se t = 0 → t.size ≤ 10000 → t.bd 1000000 := by
  refine Ty.ind ?_
  intro k p n s ls ts ih names g se h hz
  obtain ⟨hs, h2⟩ := nodeR_shape h
  have hl := shape_ls hs
  have hp := shape_p hs
  have hsh := shape_bd hs
  simp only [Ty.size] at hz
  have hlen := Ty.length_sizes ts
  have hkids : ∀ (nm : List ByteArray) (g' : Nat) (f : Bool), kidsR nm g' f 0 ts = 0 → Ty.bds 1000000 ts := fun nm g' f hk0 => Ty.bds_of (fun t ht => by
    obtain ⟨se', ht'⟩ := kidsR_all hk0 t ht
    exact ih t ht nm g' se' ht' (by have := Ty.size_mem ht; omega))
  simp only [Ty.bd]
  refine ⟨⟨by omega, by omega⟩, ⟨by omega, by omega⟩, by omega, by omega, ?_⟩
  by_cases h9 : k = 9
  · subst h9
    have := List.length_eq_zero_iff.1 (shape_9 hs)
    subst this; simp only [Ty.bds]
  · rw [if_neg h9] at h2
    by_cases h8 : k = 8
    · rw [if_pos h8] at h2; exact hkids _ _ _ h2
    · rw [if_neg h8] at h2; exact hkids _ _ _ h2
end Go.Proofs.Yticdkbcfahjpnaa
