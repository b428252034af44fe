/- Graphs: all references of a right type's graph are to nodes of it; least closed sets exist; rows of bools that are set one by one. (and what follows from it) -/
import Derived.Test.YtkjngbliomckiaaPu5
import Derived.Test.YtkjngbliomckiaaPu7
import Derived.Laws.MakeOwn
import Derived.BigRegion
import Derived.StillTailTactics

/- Graphs: all references of a right type's graph are to nodes of it; least closed sets exist; rows of bools that are set one by one. -/
namespace Go.Proofs.Ytkjngbliomckiaa
open Go.RowKit Go.Deep Go.Shelf

/-! ### References of right types -/
theorem varR_nil (g : Nat) (n : ByteArray) : varR [] g n ≠ 0 := by
  unfold varR
  rw [List.length_nil, vR]
  decide
theorem varR_mem (g : Nat) (n : ByteArray) : ∀ (m : Nat) (l : List ByteArray), l.length = m → varR l g n = 0 → n ∈ l
  | 0, l, hl, h => by
    rw [List.length_eq_zero_iff.1 hl] at h
    exact absurd h (varR_nil g n)
  | m + 1, l, hl, h => by
    rcases List.eq_nil_or_concat l with rfl | ⟨l', x, rfl⟩
    · cases hl
    · simp only [List.concat_eq_append] at h hl ⊢
      rw [vR_snoc] at h
      by_cases hx : x = n
      · subst hx; simp
      · rw [if_neg hx] at h
        have := varR_mem g n m l' (by simp at hl; omega) h
        simp [this]
theorem prefs_lt {L : Nat} (e : ByteArray → Nat) {ts : List Ty} (h : ∀ t ∈ ts, ∀ i, i + t.gcnt ≤ L → (t.pref i e).n < L) : ∀ (l : List Ty) (i : Nat), (∀ t ∈ l, t ∈ ts) → i + Ty.gcnts l ≤ L → ∀ r ∈ Ty.prefs i e l, r.n < L
  | [], _, _, _, r, hr => by simp [Ty.prefs] at hr
  | t :: l, i, hm, hi, r, hr => by
    rw [Ty.prefs] at hr
    rw [Ty.gcnts] at hi
    rcases List.mem_cons.1 hr with rfl | hr
    · exact h t (hm t (by simp)) i (by omega)
    · exact prefs_lt e h l _ (fun u hu => hm u (by simp [hu])) (by omega) r hr
theorem pnod_wf (L : Nat) : ∀ (t : Ty) (names : List ByteArray) (g : Nat) (se : Bool) (i : Nat) (e : ByteArray → Nat), nodeR names g se t = 0 → g ≤ names.length → (∀ x, varR names g x = 0 → e x < L) → (∀ x ∈ names, e x < L ∨ e x = i) → i + t.gcnt ≤ L → (t.pref i e).n < L ∧ ∀ x ∈ t.pnod i e, ∀ r ∈ x.nx, r.n < L := by
  refine Ty.ind ?_
  intro k p n s ls ts ih names g se i e h hg hA hB hi
  obtain ⟨hs, h2⟩ := nodeR_shape h
  have hk := shape_k hs
  rw [Ty.pnod, Ty.pref]
  rw [Ty.gcnt] at hi
  by_cases h8 : k = 8
  · subst h8
    rw [if_neg (by decide), if_pos rfl] at h2
    rw [if_pos rfl, if_pos rfl]
    rw [if_neg (by decide)] at hi
    obtain ⟨u, rfl⟩ : ∃ u, ts = [u] := by
      match ts, shape_8 hs with
      | [u], _ => exact ⟨u, rfl⟩
    obtain ⟨se', hu⟩ := kidsR_all h2 u (by simp)
    rw [Ty.pnod1, Ty.pref1]
    simp only [Ty.gcnts] at hi
    refine ih u (by simp) (names ++ [n]) g se' i (upE e n i) hu (by simp; omega) (fun x hx => ?_) (fun x hx => ?_) (by omega)
    · rw [vR_snoc] at hx
      by_cases hn : n = x
      · rw [if_pos hn, if_neg (by omega)] at hx; exact absurd hx (by decide)
      · rw [if_neg hn] at hx
        simp only [upE, if_neg hn]; exact hA x hx
    · by_cases hn : n = x
      · right; simp [upE, hn]
      · simp only [upE, if_neg hn]
        rcases List.mem_append.1 hx with hx | hx
        · exact hB x hx
        · exact absurd (List.mem_singleton.1 hx).symm hn
  · rw [if_neg h8, if_neg h8]
    by_cases h9 : k = 9
    · rw [if_pos h9] at h2
      rw [if_pos h9, if_pos h9]
      exact ⟨hA n h2, fun x hx => by cases hx⟩
    · rw [if_neg h9, if_neg h8] at h2
      rw [if_neg h9, if_neg h9]
      rw [if_pos (by omega)] at hi
      have hkk := kidsR_all h2
      have hN : ∀ x ∈ names, e x < L := fun x hx => by rcases hB x hx with h | h <;> omega
      have hall : ∀ t ∈ ts, ∀ i, i + t.gcnt ≤ L → (t.pref i e).n < L ∧ ∀ x ∈ t.pnod i e, ∀ r ∈ x.nx, r.n < L := fun t ht i' hi' => by
        obtain ⟨se', ht'⟩ := hkk t ht
        exact ih t ht names names.length se' i' e ht' (Nat.le_refl _) (fun x hx => hN x (varR_mem _ x _ names rfl hx)) (fun x hx => .inl (hN x hx)) hi'
      refine ⟨by show i < L; omega, fun x hx => ?_⟩
      rcases List.mem_cons.1 hx with rfl | hx
      · exact prefs_lt e (fun t ht i' hi' => (hall t ht i' hi').1) ts (i + 1) (fun _ h => h) (by omega)
      · have h3 : ∀ (l : List Ty) (i : Nat), (∀ t ∈ l, t ∈ ts) → i + Ty.gcnts l ≤ L → ∀ x ∈ Ty.pnods i e l, ∀ r ∈ x.nx, r.n < L := by
          intro l
          induction l with
          | nil => intro i _ _ x hx; rw [Ty.pnods] at hx; cases hx
          | cons t r ihl =>
            intro i hm hi x hx
            rw [Ty.pnods] at hx
            rw [Ty.gcnts] at hi
            rcases List.mem_append.1 hx with hx | hx
            · exact (hall t (hm t (by simp)) i (by omega)).2 x hx
            · exact ihl _ (fun u hu => hm u (by simp [hu])) (by omega) x hx
        exact h3 ts (i + 1) (fun _ h => h) (by omega) x hx
theorem real_gcnt : ∀ t : Ty, t.okg → t.real = true → 1 ≤ t.gcnt := by
  refine Ty.ind ?_
  intro k p n s ls ts ih hok hr
  simp only [Ty.okg] at hok
  obtain ⟨hk9, h1, _, _, hk⟩ := hok
  rw [Ty.real] at hr
  rw [Ty.gcnt]
  by_cases h8 : k = 8
  · rw [if_pos h8] at hr
    obtain ⟨u, rfl⟩ : ∃ u, ts = [u] := by
      match ts, h1 h8 with
      | [u], _ => exact ⟨u, rfl⟩
    rw [Ty.real1] at hr
    simp only [Ty.okgs] at hk
    have := ih u (by simp) hk.1 hr
    simp only [Ty.gcnts]
    omega
  · rw [if_neg h8] at hr
    have h9 : k ≠ 9 := by simpa using hr
    rw [if_pos (by omega)]
    omega
/-- The graph of one right type. -/
theorem wf_one {t : Ty} (h : nodeR [] 0 false t = 0) (hok : t.okg) : wfG (gNodes [t]) := by
  have e : gNodes [t] = t.pnod 0 (fun _ => 0) := by simp [gNodes, Ty.pnods]
  intro n g hg
  have hm := List.mem_of_getElem? hg
  rw [e] at hm ⊢
  rw [pnod_ok t hok]
  exact (pnod_wf t.gcnt t [] 0 false 0 (fun _ => 0) h (Nat.le_refl _) (fun x hx => absurd hx (varR_nil 0 x)) (fun x hx => by cases hx) (by omega)).2 g hm
theorem pnod_nx : ∀ (t : Ty) (i : Nat) (e : ByteArray → Nat), ∀ x ∈ t.pnod i e, x.nx.length ≤ t.size := by
  refine Ty.ind ?_
  intro k p n s ls ts ih i e x hx
  have hl := Ty.length_sizes ts
  rw [Ty.size]
  have h1 : ∀ (i : Nat) (e : ByteArray → Nat), ∀ x ∈ Ty.pnod1 i e ts, x.nx.length ≤ Ty.sizes ts := by
    intro i e x hx
    match ts, ih, hx with
    | [], _, hx => rw [Ty.pnod1] at hx; cases hx
    | u :: r, ih, hx =>
      rw [Ty.pnod1] at hx
      have := ih u (by simp) i e x hx
      rw [Ty.sizes]
      omega
  have h3 : ∀ (l : List Ty) (i : Nat), (∀ t ∈ l, t ∈ ts) → ∀ x ∈ Ty.pnods i e l, x.nx.length ≤ Ty.sizes ts := by
    intro l
    induction l with
    | nil => intro i _ x hx; rw [Ty.pnods] at hx; cases hx
    | cons t r ihl =>
      intro i hm x hx
      rw [Ty.pnods] at hx
      rcases List.mem_append.1 hx with hx | hx
      · have := ih t (hm t (by simp)) i e x hx
        have := Ty.size_mem (hm t (by simp))
        omega
      · exact ihl _ (fun u hu => hm u (by simp [hu])) x hx
  rw [Ty.pnod] at hx
  split at hx
  · have := h1 _ _ x hx; omega
  · split at hx
    · cases hx
    · rcases List.mem_cons.1 hx with rfl | hx
      · show (Ty.prefs (i + 1) e ts).length ≤ _
        rw [prefs_len]; omega
      · have := h3 ts _ (fun _ h => h) x hx; omega

/-! ### Least sets -/
open Classical in
theorem least_exists (ns : List GNode) : ∃ F : Nat → Nat → Bool, ∀ a, Least ns a (F a) := by
  refine ⟨fun a i => decide (∀ C : Nat → Prop, C a → ClosedG ns C → C i), fun a => ⟨?_, ?_, ?_⟩⟩
  · simp only [decide_eq_true_eq]; exact fun C h _ => h
  · intro n g hn hS r hr
    simp only [decide_eq_true_eq] at hS ⊢
    exact fun C h hc => hc n g hn (hS C h hc) r hr
  · intro C h hc n hn
    simp only [decide_eq_true_eq] at hn
    exact hn C h hc

/-! ### Rows of bools -/
/-- Block b holds n bools. -/
structure Bools (W : World) (b n : Nat) (f : Nat → Bool) : Prop where
  at_ : W.heap[b]? = some (.cells (((List.range n).map f).map Value.bool).toArray 4 (0, 0))
theorem Bools.cell {W : World} {b n : Nat} {f : Nat → Bool} (h : Bools W b n f) {i : Nat} (hi : i < n) : W.cell? ⟨b, i, none⟩ = some (.bool (f i)) ∧ W.frozen? ⟨b, i, none⟩ = false := by
  refine ⟨?_, frozen_of_block h.at_ i⟩
  simp only [World.cell?, h.at_]
  simp [hi]
theorem Bools.same {W W' : World} {b n : Nat} {f : Nat → Bool} (h : Bools W b n f) (e : W'.heap[b]? = W.heap[b]?) : Bools W' b n f := ⟨e.trans h.at_⟩
theorem Bools.lt {W : World} {b n : Nat} {f : Nat → Bool} (h : Bools W b n f) : b < W.heap.size := (Array.getElem?_eq_some_iff.1 h.at_).1
theorem Bools.set {W : World} {b n : Nat} {f : Nat → Bool} (h : Bools W b n f) (i : Nat) : Bools (W.setCell ⟨b, i, none⟩ (.bool true)) b n (updL f i) := by
  refine ⟨?_⟩
  rw [set_block h.at_ i (.bool true), List.setIfInBounds_toArray, ← List.map_set]
  have e : ((List.range n).map f).set i true = (List.range n).map (updL f i) := by
    apply List.ext_getElem?
    intro j
    rw [List.getElem?_set, List.getElem?_map, List.getElem?_map]
    by_cases hj : j < n
    · by_cases hij : i = j
      · subst hij; simp [hj, updL]
      · rw [if_neg hij]
        simp [hj, updL, Ne.symm hij]
    · by_cases hij : i = j
      · subst hij; simp [hj]
      · rw [if_neg hij]; simp [hj]
  rw [e]
theorem Bools.congr {W : World} {b n : Nat} {f g : Nat → Bool} (h : Bools W b n f) (e : ∀ i, i < n → f i = g i) : Bools W b n g := by
  refine ⟨h.at_.trans ?_⟩
  have : (List.range n).map f = (List.range n).map g := List.map_congr_left (fun i hi => e i (List.mem_range.1 hi))
  rw [this]
end Go.Proofs.Ytkjngbliomckiaa

/- Graphs: the reference's Build. -/
namespace Go.Proofs.Ytkjngbliomckiaa
open Go.RowKit Go.Deep Go.Shelf

theorem gnod_right {t : Ty} (h : nodeR [] 0 false t = 0) (i : Nat) : t.gnod i [] = t.pnod i (fun _ => 0) ∧ t.gref i [] = t.pref i (fun _ => 0) ∧ (t.gnod i []).length = t.gcnt := by
  have h1 : t.pnod i (fun _ => 0) = t.gnod i [] := gnod_eq t [] 0 false i (fun _ => 0) [] (Nat.le_refl _) h (fun x hx => absurd hx (varR_nil 0 x)) (fun _ x hx => by cases hx)
  have h2 : t.pref i (fun _ => 0) = t.gref i [] := gref_eq t [] 0 false i (fun _ => 0) [] (Nat.le_refl _) h (fun x hx => absurd hx (varR_nil 0 x))
  exact ⟨h1.symm, h2.symm, by rw [← h1, pnod_len t [] 0 false i _ h]⟩
theorem gnods_right : ∀ (ts : List Ty) (i : Nat), (∀ t ∈ ts, nodeR [] 0 false t = 0) → Ty.gnods i [] ts = Ty.pnods i (fun _ => 0) ts ∧ Ty.grefs i [] ts = Ty.prefs i (fun _ => 0) ts ∧ (Ty.gnods i [] ts).length = Ty.gcnts ts
  | [], _, _ => ⟨by rw [Ty.gnods, Ty.pnods], rfl, by rw [Ty.gnods, Ty.gcnts]; rfl⟩
  | t :: r, i, h => by
    obtain ⟨h1, h2, h3⟩ := gnod_right (h t (by simp)) i
    obtain ⟨g1, g2, g3⟩ := gnods_right r (i + t.gcnt) (fun u hu => h u (by simp [hu]))
    exact ⟨by rw [Ty.gnods, Ty.pnods, h1, g1], by rw [Ty.grefs, Ty.prefs, h2, g2], by rw [Ty.gnods, Ty.gcnts, List.length_append, h3, g3]⟩
theorem strs_nil (w : World) : StrSl (fun k => k < w.heap.size) w (.slice none 0 0) (([] : GEnv).map (·.1)) := ⟨.inl ⟨⟨_, _, rfl⟩, rfl⟩, by simp [maxLen], fun s hs => by cases hs⟩
theorem refs_nil (w : World) : RefSl (fun k => k < w.heap.size) w (.slice none 0 0) (([] : GEnv).map (·.2)) := ⟨.inl ⟨⟨_, _, rfl⟩, rfl⟩, by simp [maxLen]⟩

set_option maxHeartbeats 8000000 in
set_option maxRecDepth 100000 in
theorem rbuild_any (ts : List Ty) (v : Value) (w : World) (hts : TySl (fun k => k < w.heap.size) w v ts) (hs : Ty.sizes ts ≤ 100000) (hd : ∀ t ∈ ts, t.depth ≤ 800) (hok : ∀ t ∈ ts, nodeR [] 0 false t = 0) :
    Calls Try.prog 10 #[v] w fun en w' => ∃ (na : Option Addr) (nn nc : Nat) (ra : Option Addr) (rn rc : Nat), en = .returned (.tuple #[.slice na nn nc, .slice ra rn rc]) ∧ NodeSl (fun k => k < w'.heap.size) w' (.slice na nn nc) (gNodes ts) ∧ RefSl (fun k => k < w'.heap.size) w' (.slice ra rn rc) (gRefs ts) ∧ Below w.heap.size w w' := by
  obtain ⟨pa, len, c, rfl, hlen, hmx, hget⟩ := hts.open
  have HG := Lib.hid hget
  have HL := Lib.hid hlen.out
  have HD := Lib.hid hd
  have HOK := Lib.hid hok
  have HSZ := Lib.hid hs
  have hlb : len ≤ 100000 := by have := Ty.length_sizes ts; have := hlen.out; omega
  have hgr := gnods_right ts 0 hok
  have HGR := Lib.hid hgr
  clear hget hts hlen hd hok hs hgr
  go_enter Try.func10, Try.ntmps10
  go_wp2_with fail
  go_loopw [4, 5, 6] (fun ov rv iv wr => ∃ (j : Nat) (oa : Option Addr) (on oc : Nat) (ra : Option Addr) (rn rc : Nat) (xs : List NV), ov = .slice oa on oc ∧ rv = .slice ra rn rc ∧ iv = .int .i64 j ∧ j ≤ len ∧ Hid (GRow 58 4 w.heap.size wr (.slice oa on oc) (xs.map NV.cells)) ∧ Hid (∀ x ∈ xs, x.Ok (fun k => k < wr.heap.size ∧ some k ≠ (Value.slice oa on oc).ownBlock ∧ some k ≠ (Value.slice ra rn rc).ownBlock) wr) ∧ Hid (xs.map NV.g = Ty.gnods 0 [] (ts.take j)) ∧ Hid (GRow 59 2 w.heap.size wr (.slice ra rn rc) ((Ty.grefs 0 [] (ts.take j)).map refCells)) ∧ Hid (Below w.heap.size w wr)) (fun _ _ iv _ => len - (intOf iv).toNat)
  case atStart => exact ⟨0, _, _, _, _, _, _, [], rfl, rfl, rfl, by omega, Lib.hid (by simpa using GRow.nil _ _ _ _), Lib.hid (fun x hx => by cases hx), Lib.hid (by simp [Ty.gnods]), Lib.hid (by simpa [Ty.grefs] using GRow.nil _ _ _ _), Lib.hid (Below.refl _ _)⟩
  case round =>
    rename World => V
    obtain ⟨j, oa, on, oc, ra, rn, rc, xs, rfl, rfl, rfl, hj, HO, HX, HM, HR, HBV⟩ := hrel
    have hszV : w.heap.size ≤ V.heap.size := HBV.out.size
    by_cases hlt : j < len
    · obtain ⟨u, hu⟩ : ∃ u, ts[j]? = some u := ⟨_, List.getElem?_eq_getElem (by rw [← HL.out]; exact hlt)⟩
      have hum := List.mem_of_getElem? hu
      obtain ⟨kb, ko, rfl, hkb, hty⟩ := HG.out j u hu
      obtain ⟨lv', kv', ⟨d0, d1, d2, d3, d4, d5⟩, hval⟩ := (hty.keep (HBV.out.keeps'.mono (fun k hk => hk))).load
      have hur := HOK.out u hum
      have hsok := sok_of u [] 0 false hur
      have hdu := HD.out u hum
      have hsu := Ty.size_mem hum
      obtain ⟨fr, hfr⟩ : ∃ fr, Ty.gcnts (ts.take j) = fr := ⟨_, rfl⟩
      have hxl : xs.length = fr := by
        have h := congrArg List.length HM.out
        rw [List.length_map, (gnods_right (ts.take j) 0 (fun t ht => HOK.out t (List.mem_of_mem_take ht))).2.2, hfr] at h
        exact h
      have hfb : fr + u.size ≤ 100000 := by
        have h1 := Ty.gcnts_le (ts.take j)
        have h2 := Ty.sizes_take hu
        have h3 := Ty.sizes_take_le ts (j + 1)
        have := HSZ.out
        omega
      obtain rfl : on = fr := by
        obtain ⟨_, _, _, e, hnn, _⟩ := HO.out.src
        simp only [Value.slice.injEq] at e
        rw [e.2.1, hnn, List.length_map, hxl]
      have hgr := grefs_snoc [] ts 0 j hu
      have hgs := gnods_snoc [] ts 0 j hu
      rw [hfr, Nat.zero_add] at hgr hgs
      obtain ⟨r, hrr⟩ : ∃ r, u.gref on [] = r := ⟨_, rfl⟩
      rw [hrr] at hgr
      have HGRS := Lib.hid hgr
      have HGS := Lib.hid hgs
      have HXL := Lib.hid hxl
      have HUL := Lib.hid (show (u.gnod on []).length ≤ 100000 from Nat.le_trans (gnod_len u on []) (by omega))
      have HRC := Lib.hid (rref_any u hsok on [] (.agg #[.int .i64 u.k, .int .i64 u.p, .string u.n, .int .i64 u.s, lv', kv']) (.slice none 0 0) (.slice none 0 0) V (by omega) (TyVal.mono (C := fun k => k < V.heap.size) (fun k hk => Nat.lt_of_lt_of_le hk hszV) hval) (strs_nil V) (refs_nil V) (fun r hr => by cases hr))
      rw [hrr] at HRC
      have HKID : Hid (∀ W, Below w.heap.size w W → (W.cell? ⟨kb, ko + j * 6, none⟩ = some (.int .i64 u.k) ∧ W.cell? ⟨kb, ko + j * 6 + 1, none⟩ = some (.int .i64 u.p) ∧ W.cell? ⟨kb, ko + j * 6 + 2, none⟩ = some (.string u.n) ∧ W.cell? ⟨kb, ko + j * 6 + 3, none⟩ = some (.int .i64 u.s) ∧ W.cell? ⟨kb, ko + j * 6 + 4, none⟩ = some lv' ∧ W.cell? ⟨kb, ko + j * 6 + 5, none⟩ = some kv') ∧ TyVal (fun k => k < w.heap.size) W (.agg #[.int .i64 u.k, .int .i64 u.p, .string u.n, .int .i64 u.s, lv', kv']) u) := Lib.hid (fun W hW => by
        have hc : ∀ o x, V.cell? ⟨kb, o, none⟩ = some x → W.cell? ⟨kb, o, none⟩ = some x := fun o x h => (hW.cell (p := ⟨kb, o, none⟩) hkb).trans ((HBV.out.cell (p := ⟨kb, o, none⟩) hkb).symm.trans h)
        exact ⟨⟨hc _ _ d0, hc _ _ d1, hc _ _ d2, hc _ _ d3, hc _ _ d4, hc _ _ d5⟩, hval.keep (fun k _ hk ho _ => (hW.block k hk).trans ((HBV.out.block k hk).symm.trans ho))⟩)
      have HPL : Hid ((Ty.grefs 0 [] (ts.take j)).length ≤ 1000000) := Lib.hid (by rw [grefs_len, List.length_take]; omega)
      have HNC : Hid (∀ W, Below w.heap.size w W → Calls Try.prog 21 #[.agg #[.int .i64 u.k, .int .i64 u.p, .string u.n, .int .i64 u.s, lv', kv'], .int .i64 (on : Int), .slice none 0 0, .slice none 0 0] W fun e w' => ∃ v', e = .returned v' ∧ NodRes w.heap.size W.heap.size (u.gnod on []) w' v' ∧ Below W.heap.size W w') := Lib.hid (fun W hW => rnod_any u hsok w.heap.size on [] _ _ _ W hW.size (by omega) (by simp; omega) (HKID.out W hW).2 (strs_nil W) (refs_nil W) (fun r hr => by cases hr))
      clear hu hum hty hval hur hgr hgs hrr hxl hdu hsok
      go_upto_region 7 with (first | (go_at_call 20; go_loud (refine HRC.out.mono ?_; rintro en w5 ⟨rfl, hb5⟩; have HB5 := Lib.hid hb5; have HR5 := Lib.hid (HR.out.to hb5); clear hb5)) | (at_builtin; refine wpList_appG rrefElem rfl _ _ rfl rfl (HR5.out.alloc _) (some ⟨w5.heap.size, 0, none⟩) 1 1 [refCells r] rfl rfl ?_ ?_ ?_ ?_ ?_ ?_))
      · intro e he; rw [List.mem_singleton.1 he]; rfl
      · exact src_new w5 (refCells r) _
      · intro e he u hu
        rw [List.mem_singleton.1 he] at hu
        simp only [refCells, List.mem_cons, List.not_mem_nil, or_false] at hu
        rcases hu with rfl | rfl <;> rfl
      · have := HPL.out
        simp only [List.length_map, List.length_singleton]
        omega
      · rw [World.size_alloc]; have := HB5.out.size; omega
      intro ga gn gc w6 hr6 hg6 hq6
      have h5s := HB5.out.size
      have h6s := hg6.size
      rw [World.size_alloc] at h6s
      have hro : ∀ k, (Value.slice ra rn rc).ownBlock = some k → w.heap.size ≤ k ∧ k < V.heap.size := fun k hk => HR.out.lt k hk
      have hoo : ∀ k, (Value.slice oa on oc).ownBlock = some k → w.heap.size ≤ k ∧ k < V.heap.size := fun k hk => HO.out.lt k hk
      have hkeep : ∀ k, k < V.heap.size → some k ≠ (Value.slice ra rn rc).ownBlock → w6.heap[k]? = V.heap[k]? := fun k hk hn => (hg6.block k (by rw [World.size_alloc]; omega) hn).trans ((Below.heap_alloc _ _ _ (by omega)).trans (HB5.out.block k hk))
      have HO6 : Hid (GRow 58 4 w.heap.size w6 (.slice oa on oc) (xs.map NV.cells)) := Lib.hid (HO.out.kept (fun k hk => hkeep k (hoo k hk).2 (by
        obtain ⟨cs, hc⟩ := HO.out.obj hk
        exact HR.out.ne hc (by decide))))
      have HR6 : Hid (GRow 59 2 w.heap.size w6 (.slice ga gn gc) ((Ty.grefs 0 [] (ts.take (j + 1))).map refCells)) := Lib.hid (by rw [HGRS.out]; simpa using hr6)
      have HX6 : Hid (∀ x ∈ xs, x.Ok (fun k => k < w6.heap.size ∧ some k ≠ (Value.slice oa on oc).ownBlock ∧ some k ≠ (Value.slice ga gn gc).ownBlock) w6) := Lib.hid (fun x hx => ((HX.out x hx).keep (fun k _ hk ho _ => (hkeep k hk.1 hk.2.2).trans ho)).mono (fun k hk => ⟨by omega, hk.2.1, fun e => by
        rcases hq6 with h | h
        · exact hk.2.2 (e.trans h)
        · have := Option.some.inj (e.trans h); omega⟩))
      have HB6 : Hid (Below w.heap.size w w6) := Lib.hid (((HBV.out.trans (HB5.out.mono hszV)).alloc (by omega) _).grown hg6 (by rw [World.size_alloc]; omega) (fun k hk => (hro k hk).1))
      have HNC6 := Lib.hid (HNC.out w6 HB6.out)
      have hq6' : ∀ k, (Value.slice ga gn gc).ownBlock = some k → k < w6.heap.size := fun k hk => (HR6.out.lt k hk).2
      obtain ⟨⟨d0, d1, d2, d3, d4, d5⟩, _⟩ := HKID.out w6 HB6.out
      clear hr6 hg6 hq6 hkeep
      go_wp2_with (first | (go_at_call 21; go_loud (refine HNC6.out.mono ?_; rintro en w7 ⟨v7, rfl, ⟨za, zn, zc, zs, rfl, hrow7, hok7, hmap7⟩, hb7⟩; have HB7 := Lib.hid hb7; have HZ7 := Lib.hid hrow7; have HZO := Lib.hid hok7; have HZM := Lib.hid hmap7; have HO7 := Lib.hid (HO6.out.to hb7); clear hb7 hrow7 hok7 hmap7)) | (at_builtin; refine wpList_appG rnodeElem rfl _ _ rfl rfl HO7.out za zn zc (zs.map NV.cells) rfl ?_ ?_ ?_ ?_ ?_ ?_ ?_))
      · obtain ⟨_, _, _, e, hnn, _⟩ := HZ7.out.src
        simp only [Value.slice.injEq] at e
        rw [e.2.1]; exact hnn
      · intro e he
        obtain ⟨x, _, rfl⟩ := List.mem_map.1 he; rfl
      · obtain ⟨_, _, _, e, _, hsrc⟩ := HZ7.out.src
        simp only [Value.slice.injEq] at e
        rw [e.1]; exact hsrc
      · intro e he u hu
        obtain ⟨x, hx, rfl⟩ := List.mem_map.1 he
        exact (HZO.out x hx).one u hu
      · have h := congrArg List.length HZM.out
        rw [List.length_map] at h
        have := HUL.out
        have := HXL.out
        simp only [List.length_map]
        omega
      · have := HB7.out.size; omega
      intro ha hn hc w8 hr8 hg8 hq8
      have h7s := HB7.out.size
      have h8s := hg8.size
      have HR8 : Hid (GRow 59 2 w.heap.size w8 (.slice ga gn gc) ((Ty.grefs 0 [] (ts.take (j + 1))).map refCells)) := Lib.hid ((HR6.out.to HB7.out).kept (fun k hk => by
        obtain ⟨cs, hc⟩ := (HR6.out.to HB7.out).obj hk
        exact hg8.block k (Array.getElem?_eq_some_iff.1 hc).1 (HO7.out.ne hc (by decide))))
      have HO8 : Hid (GRow 58 4 w.heap.size w8 (.slice ha hn hc) ((xs ++ zs).map NV.cells)) := Lib.hid (by rw [List.map_append]; exact hr8)
      have HM8 : Hid ((xs ++ zs).map NV.g = Ty.gnods 0 [] (ts.take (j + 1))) := Lib.hid (by rw [List.map_append, HM.out, HZM.out, HGS.out])
      have HB8 : Hid (Below w.heap.size w w8) := Lib.hid ((HB6.out.trans (HB7.out.mono (by omega))).grown hg8 (by omega) (fun k hk => (hoo k hk).1))
      have HX8 : Hid (∀ x ∈ xs ++ zs, x.Ok (fun k => k < w8.heap.size ∧ some k ≠ (Value.slice ha hn hc).ownBlock ∧ some k ≠ (Value.slice ga gn gc).ownBlock) w8) := Lib.hid (by
        have hqn : ∀ k, k < w7.heap.size → some k ≠ (Value.slice oa on oc).ownBlock → some k ≠ (Value.slice ha hn hc).ownBlock := fun k hk hne e => by
          rcases hq8 with h | h
          · exact hne (e.trans h)
          · have := Option.some.inj (e.trans h); omega
        have hrg : ∀ k, (Value.slice ga gn gc).ownBlock = some k → w.heap.size ≤ k := fun k hk => (HR6.out.lt k hk).1
        intro x hx
        rcases List.mem_append.1 hx with hx | hx
        · have h1 := (HX6.out x hx).keep (HB7.out.keeps'.mono (fun k hk => hk.1))
          exact (h1.keep (Keeps.grown hg8 (fun k hk => hk.2.1))).mono (fun k hk => ⟨by omega, hqn k (by omega) hk.2.1, hk.2.2⟩)
        · have h1 := HZO.out x hx
          have hne : ∀ k, (k < w.heap.size ∨ (w6.heap.size ≤ k ∧ k < w7.heap.size ∧ some k ≠ (Value.slice za zn zc).ownBlock)) → some k ≠ (Value.slice oa on oc).ownBlock := fun k hk e => by
            have := hoo k e.symm
            rcases hk with hk | hk <;> omega
          refine (h1.keep (Keeps.grown hg8 hne)).mono (fun k hk => ⟨by rcases hk with hk | hk <;> omega, hqn k (by rcases hk with hk | hk <;> omega) (hne k hk), fun e => ?_⟩)
          have a1 := hrg k e.symm
          have a2 := hq6' k e.symm
          rcases hk with hk | hk <;> omega)
      clear hr8 hg8 hq8 d0 d1 d2 d3 d4 d5
      go_wp2_with fail
      go_roundw
      case rel => exact ⟨j + 1, ha, hn, hc, ga, gn, gc, xs ++ zs, rfl, rfl, by go_num, by omega, HO8, HX8, HM8, HR8, HB8⟩
      case measure => simp [intOf]; omega
    · obtain rfl : j = len := by omega
      have hlen : ts.take j = ts := List.take_of_length_le (by rw [HL.out]; exact Nat.le_refl _)
      have hM := HM.out
      have hR := HR.out
      rw [hlen] at hM hR
      have hxl : xs.length ≤ 100000 := by
        have h := congrArg List.length hM
        rw [List.length_map, HGR.out.2.2] at h
        have := Ty.gcnts_le ts
        have := HSZ.out
        omega
      have hn1 := HO.out.nodes HX.out (by simp only [maxLen]; omega)
      rw [hM, HGR.out.1] at hn1
      have hr1 := hR.refs (by rw [grefs_len, ← HL.out]; simp only [maxLen]; omega)
      rw [HGR.out.2.1] at hr1
      have HN1 := Lib.hid (hn1.mono (C := fun k => k < V.heap.size) (fun k hk => by
        rcases hk with hk | hk
        · exact hk.1
        · exact hk.2))
      have HR1 := Lib.hid (hr1.mono (C := fun k => k < V.heap.size) (fun k hk => hk.2))
      clear hn1 hr1 hM hR hlen hxl
      go_wp2_with fail
      go_ret2
      exact ⟨oa, on, oc, ra, rn, rc, rfl, HN1.out, HR1.out, HBV.out⟩
end Go.Proofs.Ytkjngbliomckiaa

/- Heads: Kind, action, Prio, Raise. -/
namespace Go.Proofs.Ytkjngbliomckiaa
open Go.RowKit Go.Deep Go.Shelf

abbrev refO (a b : Value) : Obj := .cells #[a, b] 42
theorem refO_cells {w : World} {b : Nat} {a c : Value} (h : w.heap[b]? = some (refO a c)) : w.cell? ⟨b, 0, none⟩ = some a ∧ w.cell? ⟨b, 1, none⟩ = some c ∧ w.frozen? ⟨b, 0, none⟩ = false ∧ w.frozen? ⟨b, 1, none⟩ = false := by
  refine ⟨?_, ?_, frozen_of_block h 0, frozen_of_block h 1⟩ <;> simp [World.cell?, h]
theorem refO_fill {w : World} {b : Nat} {a c : Value} (h : w.heap[b]? = some (refO a c)) (u v : Value) : ((w.setCell ⟨b, 0, none⟩ u).setCell ⟨b, 1, none⟩ v).heap[b]? = some (refO u v) := set_block (set_block h 0 u) 1 v
/-- Two blocks made one behind the other. -/
theorem two_made {w W : World} {o o' : Obj} (h : (w.alloc o).alloc o' = W) : W.heap.size = w.heap.size + 2 ∧ Below w.heap.size w W ∧ W.heap[w.heap.size]? = some o ∧ W.heap[w.heap.size + 1]? = some o' := by
  subst h
  refine ⟨by simp, ((Below.refl _ _).alloc (Nat.le_refl _) _).alloc (by simp) _, (Below.heap_alloc _ _ _ (by simp)).trans (World.alloc_heap_new _ _), ?_⟩
  have := World.alloc_heap_new (w.alloc o) o'
  rwa [World.size_alloc] at this
theorem three_made {w W : World} {o o' o'' : Obj} (h : ((w.alloc o).alloc o').alloc o'' = W) : W.heap.size = w.heap.size + 3 ∧ Below w.heap.size w W ∧ W.heap[w.heap.size]? = some o ∧ W.heap[w.heap.size + 1]? = some o' ∧ W.heap[w.heap.size + 2]? = some o'' := by
  obtain ⟨V, hV⟩ : ∃ V, (w.alloc o).alloc o' = V := ⟨_, rfl⟩
  obtain ⟨h1, h2, h3, h4⟩ := two_made hV
  rw [hV] at h
  subst h
  refine ⟨by simp [h1], h2.alloc (by omega) _, (Below.heap_alloc _ _ _ (by omega)).trans h3, (Below.heap_alloc _ _ _ (by omega)).trans h4, ?_⟩
  have := World.alloc_heap_new V o''
  rwa [h1] at this

/-- The cells of a node of a graph that lies in memory. -/
theorem node_at {na : Option Addr} {nn nc : Nat} {ns : List GNode} {w : World} (h : NodeSl (fun k => k < w.heap.size) w (.slice na nn nc) ns) {a : Nat} {g : GNode} (hg : ns[a]? = some g) :
    a < nn ∧ nn = ns.length ∧ ∃ kb ko lv xa xc, na = some ⟨kb, ko, none⟩ ∧ (∀ W, Below w.heap.size w W → W.cell? ⟨kb, ko + a * 4, none⟩ = some (.int .i64 g.k) ∧ W.cell? ⟨kb, ko + a * 4 + 1, none⟩ = some (.int .i64 g.p) ∧ W.cell? ⟨kb, ko + a * 4 + 2, none⟩ = some lv ∧ W.cell? ⟨kb, ko + a * 4 + 3, none⟩ = some (.slice xa g.nx.length xc) ∧ StrSl (fun k => k < W.heap.size) W lv g.ls) ∧ ∀ (q : Nat) (r : GRef), g.nx[q]? = some r → ∃ rb ro, xa = some ⟨rb, ro, none⟩ ∧ ∀ W, Below w.heap.size w W → W.cell? ⟨rb, ro + q * 2, none⟩ = some (.int .i64 r.n) ∧ W.cell? ⟨rb, ro + q * 2 + 1, none⟩ = some (.int .i64 r.s) := by
  obtain ⟨_, _, _, e, hln, _, hg1⟩ := h.open
  simp only [Value.slice.injEq] at e
  obtain ⟨rfl, rfl, rfl⟩ := e
  obtain ⟨kb, ko, e1, hkb, n0, n1, lv, nv, n2, n3, n4, n5⟩ := hg1 a g hg
  obtain ⟨xa, xn, xc, rfl, hxn, _, hgx⟩ := n5.open
  rw [hxn.out] at n3
  refine ⟨by rw [hln.out]; exact (List.getElem?_eq_some_iff.1 hg).1, hln.out, kb, ko, lv, xa, xc, e1, fun W hW => ⟨(hW.cell (p := ⟨kb, _, none⟩) hkb).trans n0, (hW.cell (p := ⟨kb, _, none⟩) hkb).trans n1, (hW.cell (p := ⟨kb, _, none⟩) hkb).trans n2, (hW.cell (p := ⟨kb, _, none⟩) hkb).trans n3, (n4.keep (hW.keeps'.mono (fun k hk => hk))).mono (fun k hk => Nat.lt_of_lt_of_le hk hW.size)⟩, fun q r hr => ?_⟩
  obtain ⟨rb, ro, f1, hrb, r0, r1⟩ := hgx q r hr
  exact ⟨rb, ro, f1, fun W hW => ⟨(hW.cell (p := ⟨rb, _, none⟩) hrb).trans r0, (hW.cell (p := ⟨rb, _, none⟩) hrb).trans r1⟩⟩

abbrev grO (na : Option Addr) (nn nc : Nat) : Obj := .cells #[.slice na nn nc] 27
abbrev grV (na : Option Addr) (nn nc : Nat) : Value := .agg #[.slice na nn nc]
abbrev rfV (n : Nat) (s : Int) : Value := .agg #[.int .i64 (n : Int), .int .i64 s]

/-- Is a kind an action? -/
def actI (k : Int) : Bool := decide (4 ≤ k) && decide (k ≤ 7)
/-- What Prio answers. -/
def prioV (g : GNode) (s : Int) : Value := if actI g.k = true then .tuple #[.int .i64 (g.p + s), .bool true] else .tuple #[.int .i64 0, .bool false]
end Go.Proofs.Ytkjngbliomckiaa

/- Duals: kinds, small functions. -/
namespace Go.Proofs.Ytkjngbliomckiaa
open Go.RowKit Go.Deep Go.Shelf

/-- The dual kind. -/
def kindD (k : Int) : Int := if k = 4 then 5 else if k = 5 then 4 else if k = 6 then 7 else if k = 7 then 6 else k
theorem kindD_other {k : Int} (h : k < 4 ∨ 8 ≤ k) : kindD k = k := by
  unfold kindD
  rw [if_neg (by omega), if_neg (by omega), if_neg (by omega), if_neg (by omega)]
theorem kindD_twice (k : Int) : kindD (kindD k) = k := by
  by_cases h : k < 4 ∨ 8 ≤ k
  · rw [kindD_other h, kindD_other h]
  · have : k = 4 ∨ k = 5 ∨ k = 6 ∨ k = 7 := by omega
    rcases this with rfl | rfl | rfl | rfl <;> decide
theorem kindD_same (k : Int) : kindD k = k ↔ k < 4 ∨ 7 < k := by
  by_cases h : k < 4 ∨ 8 ≤ k
  · rw [kindD_other h]; exact ⟨fun _ => by omega, fun _ => rfl⟩
  · have : k = 4 ∨ k = 5 ∨ k = 6 ∨ k = 7 := by omega
    rcases this with rfl | rfl | rfl | rfl <;> simp [kindD]

theorem below_new (w : World) (cs : Array Value) (t : TypeId) (fr : Nat × Nat) : Below w.heap.size w (w.alloc (.cells cs t fr)) := (Below.refl _ _).alloc (Nat.le_refl _) _
set_option maxHeartbeats 2000000 in
set_option maxRecDepth 100000 in
theorem dkind_any (k : Int) (w : World) : Calls Try.prog 14 #[.int .i64 k] w fun e w' => e = .returned (.int .i64 (kindD k)) ∧ Below w.heap.size w w' := by
  by_cases hlo : k < 4
  · rw [kindD_other (.inl hlo)]
    go_enter Try.func14, Try.ntmps14
    go_wp2_with fail
    go_ret
    exact ⟨rfl, below_new _ _ _ _⟩
  by_cases hhi : 8 ≤ k
  · rw [kindD_other (.inr hhi)]
    go_enter Try.func14, Try.ntmps14
    go_wp2_with fail
    go_ret
    exact ⟨rfl, below_new _ _ _ _⟩
  have hk : k = 4 ∨ k = 5 ∨ k = 6 ∨ k = 7 := by omega
  clear hlo hhi
  rcases hk with rfl | rfl | rfl | rfl
  all_goals
    go_enter Try.func14, Try.ntmps14
    go_wp2_with fail
    go_ret
    exact ⟨rfl, below_new _ _ _ _⟩

set_option maxHeartbeats 2000000 in
theorem rkind_any (k : Int) (w : World) : Calls Try.prog 15 #[.int .i64 k] w fun e w' => e = .returned (.int .i64 (kindD k)) ∧ w = w' := by
  by_cases h4 : k = 4
  · subst h4
    go_enter Try.func15, Try.ntmps15
    go_wp2_with fail
    go_ret
    exact ⟨rfl, rfl⟩
  by_cases h5 : k = 5
  · subst h5
    go_enter Try.func15, Try.ntmps15
    go_wp2_with fail
    go_ret
    exact ⟨rfl, rfl⟩
  by_cases h6 : k = 6
  · subst h6
    go_enter Try.func15, Try.ntmps15
    go_wp2_with fail
    go_ret
    exact ⟨rfl, rfl⟩
  by_cases h7 : k = 7
  · subst h7
    go_enter Try.func15, Try.ntmps15
    go_wp2_with fail
    go_ret
    exact ⟨rfl, rfl⟩
  rw [kindD_other (by omega)]
  have b4 : (k == 4) = false := by simpa using h4
  have b5 : (k == 5) = false := by simpa using h5
  have b6 : (k == 6) = false := by simpa using h6
  have b7 : (k == 7) = false := by simpa using h7
  clear h4 h5 h6 h7
  go_enter Try.func15, Try.ntmps15
  go_wp2_with fail
  go_ret
  exact ⟨rfl, rfl⟩

/-- Has a node of a kind a payload? -/
def payB (k : Int) : Bool := decide (k = 4 ∨ k = 5)
set_option maxHeartbeats 2000000 in
theorem pay_any (k : Int) (w : World) : Calls Try.prog 37 #[.int .i64 k] w fun e w' => e = .returned (.bool (payB k)) ∧ w = w' := by
  by_cases h4 : k = 4
  · subst h4
    go_enter Try.func37, Try.ntmps37
    go_wp2_with fail
    go_ret
    exact ⟨rfl, rfl⟩
  by_cases h5 : k = 5
  · subst h5
    go_enter Try.func37, Try.ntmps37
    go_wp2_with fail
    go_ret
    exact ⟨rfl, rfl⟩
  have e : payB k = false := by simp [payB, h4, h5]
  rw [e]
  have b4 : (k == 4) = false := by simpa using h4
  have b5 : (k == 5) = false := by simpa using h5
  clear h4 h5 e
  go_enter Try.func37, Try.ntmps37
  go_wp2_with fail
  go_ret
  exact ⟨rfl, rfl⟩

set_option maxHeartbeats 2000000 in
set_option maxRecDepth 100000 in
theorem behind_any (a s n : Int) (w : World) (h : IntKind.i64.wrap (a + n) = a + n) :
    Calls Try.prog 28 #[.agg #[.int .i64 a, .int .i64 s], .int .i64 n] w fun e w' => e = .returned (.agg #[.int .i64 (a + n), .int .i64 s]) ∧ Below w.heap.size w w' := by
  obtain ⟨W2, hW2⟩ : ∃ W2, (w.alloc (refO (.int .i64 a) (.int .i64 s))).alloc (refO (.int .i64 0) (.int .i64 0)) = W2 := ⟨_, rfl⟩
  obtain ⟨hs2, hb2, x0, x1⟩ := two_made hW2
  obtain ⟨r0, r1, r2, r3⟩ := refO_cells x0
  have HW2 := Lib.hid hW2
  have HB2 := Lib.hid hb2
  have HX0 := Lib.hid x0
  have HX1 := Lib.hid x1
  clear hW2 hb2 x0 x1
  go_enter Try.func28, Try.ntmps28
  go_upto_region 1 with fail
  rw [show (w.alloc (.cells #[.int .i64 a, .int .i64 s] 42)).alloc (.cells #[.int .i64 0, .int .i64 0] 42) = W2 from HW2.out]
  go_upto_region 2 with fail
  obtain ⟨W3, hW3⟩ : ∃ W3, W2.setCell ⟨w.heap.size, 0, none⟩ (.int .i64 (a + n)) = W3 := ⟨_, rfl⟩
  have y0 : W3.heap[w.heap.size]? = some (refO (.int .i64 (a + n)) (.int .i64 s)) := by rw [← hW3]; exact set_block HX0.out 0 _
  have y1 : W3.heap[w.heap.size + 1]? = some (refO (.int .i64 0) (.int .i64 0)) := by rw [← hW3]; exact (set_oth _ _ _ (by omega)).trans HX1.out
  have hb3 : Below w.heap.size w W3 := by rw [← hW3]; exact HB2.out.setCell (p := ⟨w.heap.size, 0, none⟩) (Nat.le_refl _) _
  rw [hW3]
  clear r0 r1 r2 r3 hW3
  obtain ⟨q0, q1, q2, q3⟩ := refO_cells y0
  obtain ⟨p0, p1, p2, p3⟩ := refO_cells y1
  have HY := Lib.hid (refO_fill y1 (.int .i64 (a + n)) (.int .i64 s))
  have HB3 := Lib.hid hb3
  clear y0 y1 hb3
  go_wp2_with fail
  obtain ⟨z0, z1, _, _⟩ := refO_cells HY.out
  refine bodyPost_ret (v := .agg #[.int .i64 (a + n), .int .i64 s]) (by simp [results, Try.results28, go_sem, z0, z1]) rfl ?_
  exact ⟨rfl, (HB3.out.setCell (p := ⟨w.heap.size + 1, 0, none⟩) (Nat.le_succ _) _).setCell (p := ⟨w.heap.size + 1, 1, none⟩) (Nat.le_succ _) _⟩
end Go.Proofs.Ytkjngbliomckiaa
