/- Graphs: all references of a right type's graph are to nodes of it; least closed sets exist; rows of bools that are set one by one. (and what follows from it) -/
import Derived.Test.YtjmnaibbljakaaaGreatDoorPu5
import Derived.Test.YtjmnaibbljakaaaGreatDoorPu7
import Derived.Test.YtjmnaibbljakaaaGreatDoorTyX
import Derived.Test.YtjmnaibbljakaaaGreatDoorTyY
import Derived.Test.YtjmnaibbljakaaaGreatDoorPu2
import Derived.Test.YtjmnaibbljakaaaGreatDoorPu1
import Derived.Laws.MakeOwn
import Derived.BigRegion
import Derived.StillTailTactics
import Derived.Deep.RegionHeld

/- Graphs: all references of a right type's graph are to nodes of it; least closed sets exist; rows of bools that are set one by one. -/
namespace Go.Proofs.YtjmnaibbljakaaaGreatDoor
open Go.RowKit Go.Deep Go.Shelf

/-! ### References of right types -/
theorem varR_nil (g : Nat) (n : ByteArray) : varR [] g n ≠ 0 := by
  unfold varR
  rw [List.length_nil, vR]
  decide
theorem varR_mem (g : Nat) (n : ByteArray) : ∀ (m : Nat) (l : List ByteArray), l.length = m → varR l g n = 0 → n ∈ l
  | 0, l, hl, h => by
    rw [List.length_eq_zero_iff.1 hl] at h
    exact absurd h (varR_nil g n)
  | m + 1, l, hl, h => by
    rcases List.eq_nil_or_concat l with rfl | ⟨l', x, rfl⟩
    · cases hl
    · simp only [List.concat_eq_append] at h hl ⊢
      rw [vR_snoc] at h
      by_cases hx : x = n
      · subst hx; simp
      · rw [if_neg hx] at h
        have := varR_mem g n m l' (by simp at hl; omega) h
        simp [this]
theorem prefs_lt {L : Nat} (e : ByteArray → Nat) {ts : List Ty} (h : ∀ t ∈ ts, ∀ i, i + t.gcnt ≤ L → (t.pref i e).n < L) : ∀ (l : List Ty) (i : Nat), (∀ t ∈ l, t ∈ ts) → i + Ty.gcnts l ≤ L → ∀ r ∈ Ty.prefs i e l, r.n < L
  | [], _, _, _, r, hr => by simp [Ty.prefs] at hr
  | t :: l, i, hm, hi, r, hr => by
    rw [Ty.prefs] at hr
    rw [Ty.gcnts] at hi
    rcases List.mem_cons.1 hr with rfl | hr
    · exact h t (hm t (by simp)) i (by omega)
    · exact prefs_lt e h l _ (fun u hu => hm u (by simp [hu])) (by omega) r hr
theorem pnod_wf (L : Nat) : ∀ (t : Ty) (names : List ByteArray) (g : Nat) (se : Bool) (i : Nat) (e : ByteArray → Nat), nodeR names g se t = 0 → g ≤ names.length → (∀ x, varR names g x = 0 → e x < L) → (∀ x ∈ names, e x < L ∨ e x = i) → i + t.gcnt ≤ L → (t.pref i e).n < L ∧ ∀ x ∈ t.pnod i e, ∀ r ∈ x.nx, r.n < L := by
  refine Ty.ind ?_
  intro k p n s ls ts ih names g se i e h hg hA hB hi
  obtain ⟨hs, h2⟩ := nodeR_shape h
  have hk := shape_k hs
  rw [Ty.pnod, Ty.pref]
  rw [Ty.gcnt] at hi
  by_cases h8 : k = 8
  · subst h8
    rw [if_neg (by decide), if_pos rfl] at h2
    rw [if_pos rfl, if_pos rfl]
    rw [if_neg (by decide)] at hi
    obtain ⟨u, rfl⟩ : ∃ u, ts = [u] := by
      match ts, shape_8 hs with
      | [u], _ => exact ⟨u, rfl⟩
    obtain ⟨se', hu⟩ := kidsR_all h2 u (by simp)
    rw [Ty.pnod1, Ty.pref1]
    simp only [Ty.gcnts] at hi
    refine ih u (by simp) (names ++ [n]) g se' i (upE e n i) hu (by simp; omega) (fun x hx => ?_) (fun x hx => ?_) (by omega)
    · rw [vR_snoc] at hx
      by_cases hn : n = x
      · rw [if_pos hn, if_neg (by omega)] at hx; exact absurd hx (by decide)
      · rw [if_neg hn] at hx
        simp only [upE, if_neg hn]; exact hA x hx
    · by_cases hn : n = x
      · right; simp [upE, hn]
      · simp only [upE, if_neg hn]
        rcases List.mem_append.1 hx with hx | hx
        · exact hB x hx
        · exact absurd (List.mem_singleton.1 hx).symm hn
  · rw [if_neg h8, if_neg h8]
    by_cases h9 : k = 9
    · rw [if_pos h9] at h2
      rw [if_pos h9, if_pos h9]
      exact ⟨hA n h2, fun x hx => by cases hx⟩
    · rw [if_neg h9, if_neg h8] at h2
      rw [if_neg h9, if_neg h9]
      rw [if_pos (by omega)] at hi
      have hkk := kidsR_all h2
      have hN : ∀ x ∈ names, e x < L := fun x hx => by rcases hB x hx with h | h <;> omega
      have hall : ∀ t ∈ ts, ∀ i, i + t.gcnt ≤ L → (t.pref i e).n < L ∧ ∀ x ∈ t.pnod i e, ∀ r ∈ x.nx, r.n < L := fun t ht i' hi' => by
        obtain ⟨se', ht'⟩ := hkk t ht
        exact ih t ht names names.length se' i' e ht' (Nat.le_refl _) (fun x hx => hN x (varR_mem _ x _ names rfl hx)) (fun x hx => .inl (hN x hx)) hi'
      refine ⟨by show i < L; omega, fun x hx => ?_⟩
      rcases List.mem_cons.1 hx with rfl | hx
      · exact prefs_lt e (fun t ht i' hi' => (hall t ht i' hi').1) ts (i + 1) (fun _ h => h) (by omega)
      · have h3 : ∀ (l : List Ty) (i : Nat), (∀ t ∈ l, t ∈ ts) → i + Ty.gcnts l ≤ L → ∀ x ∈ Ty.pnods i e l, ∀ r ∈ x.nx, r.n < L := by
          intro l
          induction l with
          | nil => intro i _ _ x hx; rw [Ty.pnods] at hx; cases hx
          | cons t r ihl =>
            intro i hm hi x hx
            rw [Ty.pnods] at hx
            rw [Ty.gcnts] at hi
            rcases List.mem_append.1 hx with hx | hx
            · exact (hall t (hm t (by simp)) i (by omega)).2 x hx
            · exact ihl _ (fun u hu => hm u (by simp [hu])) (by omega) x hx
        exact h3 ts (i + 1) (fun _ h => h) (by omega) x hx
theorem real_gcnt : ∀ t : Ty, t.okg → t.real = true → 1 ≤ t.gcnt := by
  refine Ty.ind ?_
  intro k p n s ls ts ih hok hr
  simp only [Ty.okg] at hok
  obtain ⟨hk9, h1, _, _, hk⟩ := hok
  rw [Ty.real] at hr
  rw [Ty.gcnt]
  by_cases h8 : k = 8
  · rw [if_pos h8] at hr
    obtain ⟨u, rfl⟩ : ∃ u, ts = [u] := by
      match ts, h1 h8 with
      | [u], _ => exact ⟨u, rfl⟩
    rw [Ty.real1] at hr
    simp only [Ty.okgs] at hk
    have := ih u (by simp) hk.1 hr
    simp only [Ty.gcnts]
    omega
  · rw [if_neg h8] at hr
    have h9 : k ≠ 9 := by simpa using hr
    rw [if_pos (by omega)]
    omega
/-- The graph of one right type. -/
theorem wf_one {t : Ty} (h : nodeR [] 0 false t = 0) (hok : t.okg) : wfG (gNodes [t]) := by
  have e : gNodes [t] = t.pnod 0 (fun _ => 0) := by simp [gNodes, Ty.pnods]
  intro n g hg
  have hm := List.mem_of_getElem? hg
  rw [e] at hm ⊢
  rw [pnod_ok t hok]
  exact (pnod_wf t.gcnt t [] 0 false 0 (fun _ => 0) h (Nat.le_refl _) (fun x hx => absurd hx (varR_nil 0 x)) (fun x hx => by cases hx) (by omega)).2 g hm
theorem pnod_nx : ∀ (t : Ty) (i : Nat) (e : ByteArray → Nat), ∀ x ∈ t.pnod i e, x.nx.length ≤ t.size := by
  refine Ty.ind ?_
  intro k p n s ls ts ih i e x hx
  have hl := Ty.length_sizes ts
  rw [Ty.size]
  have h1 : ∀ (i : Nat) (e : ByteArray → Nat), ∀ x ∈ Ty.pnod1 i e ts, x.nx.length ≤ Ty.sizes ts := by
    intro i e x hx
    match ts, ih, hx with
    | [], _, hx => rw [Ty.pnod1] at hx; cases hx
    | u :: r, ih, hx =>
      rw [Ty.pnod1] at hx
      have := ih u (by simp) i e x hx
      rw [Ty.sizes]
      omega
  have h3 : ∀ (l : List Ty) (i : Nat), (∀ t ∈ l, t ∈ ts) → ∀ x ∈ Ty.pnods i e l, x.nx.length ≤ Ty.sizes ts := by
    intro l
    induction l with
    | nil => intro i _ x hx; rw [Ty.pnods] at hx; cases hx
    | cons t r ihl =>
      intro i hm x hx
      rw [Ty.pnods] at hx
      rcases List.mem_append.1 hx with hx | hx
      · have := ih t (hm t (by simp)) i e x hx
        have := Ty.size_mem (hm t (by simp))
        omega
      · exact ihl _ (fun u hu => hm u (by simp [hu])) x hx
  rw [Ty.pnod] at hx
  split at hx
  · have := h1 _ _ x hx; omega
  · split at hx
    · cases hx
    · rcases List.mem_cons.1 hx with rfl | hx
      · show (Ty.prefs (i + 1) e ts).length ≤ _
        rw [prefs_len]; omega
      · have := h3 ts _ (fun _ h => h) x hx; omega

/-! ### Least sets -/
open Classical in
theorem least_exists (ns : List GNode) : ∃ F : Nat → Nat → Bool, ∀ a, Least ns a (F a) := by
  refine ⟨fun a i => decide (∀ C : Nat → Prop, C a → ClosedG ns C → C i), fun a => ⟨?_, ?_, ?_⟩⟩
  · simp only [decide_eq_true_eq]; exact fun C h _ => h
  · intro n g hn hS r hr
    simp only [decide_eq_true_eq] at hS ⊢
    exact fun C h hc => hc n g hn (hS C h hc) r hr
  · intro C h hc n hn
    simp only [decide_eq_true_eq] at hn
    exact hn C h hc

/-! ### Rows of bools -/
/-- Block b holds n bools. -/
structure Bools (W : World) (b n : Nat) (f : Nat → Bool) : Prop where
  at_ : W.heap[b]? = some (.cells (((List.range n).map f).map Value.bool).toArray 4 (0, 0))
theorem Bools.cell {W : World} {b n : Nat} {f : Nat → Bool} (h : Bools W b n f) {i : Nat} (hi : i < n) : W.cell? ⟨b, i, none⟩ = some (.bool (f i)) ∧ W.frozen? ⟨b, i, none⟩ = false := by
  refine ⟨?_, frozen_of_block h.at_ i⟩
  simp only [World.cell?, h.at_]
  simp [hi]
theorem Bools.same {W W' : World} {b n : Nat} {f : Nat → Bool} (h : Bools W b n f) (e : W'.heap[b]? = W.heap[b]?) : Bools W' b n f := ⟨e.trans h.at_⟩
theorem Bools.lt {W : World} {b n : Nat} {f : Nat → Bool} (h : Bools W b n f) : b < W.heap.size := (Array.getElem?_eq_some_iff.1 h.at_).1
theorem Bools.set {W : World} {b n : Nat} {f : Nat → Bool} (h : Bools W b n f) (i : Nat) : Bools (W.setCell ⟨b, i, none⟩ (.bool true)) b n (updL f i) := by
  refine ⟨?_⟩
  rw [set_block h.at_ i (.bool true), List.setIfInBounds_toArray, ← List.map_set]
  have e : ((List.range n).map f).set i true = (List.range n).map (updL f i) := by
    apply List.ext_getElem?
    intro j
    rw [List.getElem?_set, List.getElem?_map, List.getElem?_map]
    by_cases hj : j < n
    · by_cases hij : i = j
      · subst hij; simp [hj, updL]
      · rw [if_neg hij]
        simp [hj, updL, Ne.symm hij]
    · by_cases hij : i = j
      · subst hij; simp [hj]
      · rw [if_neg hij]; simp [hj]
  rw [e]
theorem Bools.congr {W : World} {b n : Nat} {f g : Nat → Bool} (h : Bools W b n f) (e : ∀ i, i < n → f i = g i) : Bools W b n g := by
  refine ⟨h.at_.trans ?_⟩
  have : (List.range n).map f = (List.range n).map g := List.map_congr_left (fun i hi => e i (List.mem_range.1 hi))
  rw [this]
end Go.Proofs.YtjmnaibbljakaaaGreatDoor

/- Graphs: the reference's Build. -/
namespace Go.Proofs.YtjmnaibbljakaaaGreatDoor
open Go.RowKit Go.Deep Go.Shelf

theorem gnod_right {t : Ty} (h : nodeR [] 0 false t = 0) (i : Nat) : t.gnod i [] = t.pnod i (fun _ => 0) ∧ t.gref i [] = t.pref i (fun _ => 0) ∧ (t.gnod i []).length = t.gcnt := by
  have h1 : t.pnod i (fun _ => 0) = t.gnod i [] := gnod_eq t [] 0 false i (fun _ => 0) [] (Nat.le_refl _) h (fun x hx => absurd hx (varR_nil 0 x)) (fun _ x hx => by cases hx)
  have h2 : t.pref i (fun _ => 0) = t.gref i [] := gref_eq t [] 0 false i (fun _ => 0) [] (Nat.le_refl _) h (fun x hx => absurd hx (varR_nil 0 x))
  exact ⟨h1.symm, h2.symm, by rw [← h1, pnod_len t [] 0 false i _ h]⟩
theorem gnods_right : ∀ (ts : List Ty) (i : Nat), (∀ t ∈ ts, nodeR [] 0 false t = 0) → Ty.gnods i [] ts = Ty.pnods i (fun _ => 0) ts ∧ Ty.grefs i [] ts = Ty.prefs i (fun _ => 0) ts ∧ (Ty.gnods i [] ts).length = Ty.gcnts ts
  | [], _, _ => ⟨by rw [Ty.gnods, Ty.pnods], rfl, by rw [Ty.gnods, Ty.gcnts]; rfl⟩
  | t :: r, i, h => by
    obtain ⟨h1, h2, h3⟩ := gnod_right (h t (by simp)) i
    obtain ⟨g1, g2, g3⟩ := gnods_right r (i + t.gcnt) (fun u hu => h u (by simp [hu]))
    exact ⟨by rw [Ty.gnods, Ty.pnods, h1, g1], by rw [Ty.grefs, Ty.prefs, h2, g2], by rw [Ty.gnods, Ty.gcnts, List.length_append, h3, g3]⟩
theorem strs_nil (w : World) : StrSl (fun k => k < w.heap.size) w (.slice none 0 0) (([] : GEnv).map (·.1)) := ⟨.inl ⟨⟨_, _, rfl⟩, rfl⟩, by simp [maxLen], fun s hs => by cases hs⟩
theorem refs_nil (w : World) : RefSl (fun k => k < w.heap.size) w (.slice none 0 0) (([] : GEnv).map (·.2)) := ⟨.inl ⟨⟨_, _, rfl⟩, rfl⟩, by simp [maxLen]⟩

set_option maxHeartbeats 8000000 in
set_option maxRecDepth 100000 in
theorem rbuild_any (ts : List Ty) (v : Value) (w : World) (hts : TySl (fun k => k < w.heap.size) w v ts) (hs : Ty.sizes ts ≤ 100000) (hd : ∀ t ∈ ts, t.depth ≤ 800) (hok : ∀ t ∈ ts, nodeR [] 0 false t = 0) :
    Calls Tryz.prog 24 #[v] w fun en w' => ∃ (na : Option Addr) (nn nc : Nat) (ra : Option Addr) (rn rc : Nat), en = .returned (.tuple #[.slice na nn nc, .slice ra rn rc]) ∧ NodeSl (fun k => k < w'.heap.size) w' (.slice na nn nc) (gNodes ts) ∧ RefSl (fun k => k < w'.heap.size) w' (.slice ra rn rc) (gRefs ts) ∧ Below w.heap.size w w' := by
  obtain ⟨pa, len, c, rfl, hlen, hmx, hget⟩ := hts.open
  have HG := Lib.hid hget
  have HL := Lib.hid hlen.out
  have HD := Lib.hid hd
  have HOK := Lib.hid hok
  have HSZ := Lib.hid hs
  have hlb : len ≤ 100000 := by have := Ty.length_sizes ts; have := hlen.out; omega
  have hgr := gnods_right ts 0 hok
  have HGR := Lib.hid hgr
  clear hget hts hlen hd hok hs hgr
  go_enter Tryz.func24, Tryz.ntmps24
  go_wp2_with fail
  go_loopw [4, 5, 6] (fun ov rv iv wr => ∃ (j : Nat) (oa : Option Addr) (on oc : Nat) (ra : Option Addr) (rn rc : Nat) (xs : List NV), ov = .slice oa on oc ∧ rv = .slice ra rn rc ∧ iv = .int .i64 j ∧ j ≤ len ∧ Hid (GRow 59 4 w.heap.size wr (.slice oa on oc) (xs.map NV.cells)) ∧ Hid (∀ x ∈ xs, x.Ok (fun k => k < wr.heap.size ∧ some k ≠ (Value.slice oa on oc).ownBlock ∧ some k ≠ (Value.slice ra rn rc).ownBlock) wr) ∧ Hid (xs.map NV.g = Ty.gnods 0 [] (ts.take j)) ∧ Hid (GRow 62 2 w.heap.size wr (.slice ra rn rc) ((Ty.grefs 0 [] (ts.take j)).map refCells)) ∧ Hid (Below w.heap.size w wr)) (fun _ _ iv _ => len - (intOf iv).toNat)
  case atStart => exact ⟨0, _, _, _, _, _, _, [], rfl, rfl, rfl, by omega, Lib.hid (by simpa using GRow.nil _ _ _ _), Lib.hid (fun x hx => by cases hx), Lib.hid (by simp [Ty.gnods]), Lib.hid (by simpa [Ty.grefs] using GRow.nil _ _ _ _), Lib.hid (Below.refl _ _)⟩
  case round =>
    rename World => V
    obtain ⟨j, oa, on, oc, ra, rn, rc, xs, rfl, rfl, rfl, hj, HO, HX, HM, HR, HBV⟩ := hrel
    have hszV : w.heap.size ≤ V.heap.size := HBV.out.size
    by_cases hlt : j < len
    · obtain ⟨u, hu⟩ : ∃ u, ts[j]? = some u := ⟨_, List.getElem?_eq_getElem (by rw [← HL.out]; exact hlt)⟩
      have hum := List.mem_of_getElem? hu
      obtain ⟨kb, ko, rfl, hkb, hty⟩ := HG.out j u hu
      obtain ⟨lv', kv', ⟨d0, d1, d2, d3, d4, d5⟩, hval⟩ := (hty.keep (HBV.out.keeps'.mono (fun k hk => hk))).load
      have hur := HOK.out u hum
      have hsok := sok_of u [] 0 false hur
      have hdu := HD.out u hum
      have hsu := Ty.size_mem hum
      obtain ⟨fr, hfr⟩ : ∃ fr, Ty.gcnts (ts.take j) = fr := ⟨_, rfl⟩
      have hxl : xs.length = fr := by
        have h := congrArg List.length HM.out
        rw [List.length_map, (gnods_right (ts.take j) 0 (fun t ht => HOK.out t (List.mem_of_mem_take ht))).2.2, hfr] at h
        exact h
      have hfb : fr + u.size ≤ 100000 := by
        have h1 := Ty.gcnts_le (ts.take j)
        have h2 := Ty.sizes_take hu
        have h3 := Ty.sizes_take_le ts (j + 1)
        have := HSZ.out
        omega
      obtain rfl : on = fr := by
        obtain ⟨_, _, _, e, hnn, _⟩ := HO.out.src
        simp only [Value.slice.injEq] at e
        rw [e.2.1, hnn, List.length_map, hxl]
      have hgr := grefs_snoc [] ts 0 j hu
      have hgs := gnods_snoc [] ts 0 j hu
      rw [hfr, Nat.zero_add] at hgr hgs
      obtain ⟨r, hrr⟩ : ∃ r, u.gref on [] = r := ⟨_, rfl⟩
      rw [hrr] at hgr
      have HGRS := Lib.hid hgr
      have HGS := Lib.hid hgs
      have HXL := Lib.hid hxl
      have HUL := Lib.hid (show (u.gnod on []).length ≤ 100000 from Nat.le_trans (gnod_len u on []) (by omega))
      have HRC := Lib.hid (rref_any u hsok on [] (.agg #[.int .i64 u.k, .int .i64 u.p, .string u.n, .int .i64 u.s, lv', kv']) (.slice none 0 0) (.slice none 0 0) V (by omega) (TyVal.mono (C := fun k => k < V.heap.size) (fun k hk => Nat.lt_of_lt_of_le hk hszV) hval) (strs_nil V) (refs_nil V) (fun r hr => by cases hr))
      rw [hrr] at HRC
      have HKID : Hid (∀ W, Below w.heap.size w W → (W.cell? ⟨kb, ko + j * 6, none⟩ = some (.int .i64 u.k) ∧ W.cell? ⟨kb, ko + j * 6 + 1, none⟩ = some (.int .i64 u.p) ∧ W.cell? ⟨kb, ko + j * 6 + 2, none⟩ = some (.string u.n) ∧ W.cell? ⟨kb, ko + j * 6 + 3, none⟩ = some (.int .i64 u.s) ∧ W.cell? ⟨kb, ko + j * 6 + 4, none⟩ = some lv' ∧ W.cell? ⟨kb, ko + j * 6 + 5, none⟩ = some kv') ∧ TyVal (fun k => k < w.heap.size) W (.agg #[.int .i64 u.k, .int .i64 u.p, .string u.n, .int .i64 u.s, lv', kv']) u) := Lib.hid (fun W hW => by
        have hc : ∀ o x, V.cell? ⟨kb, o, none⟩ = some x → W.cell? ⟨kb, o, none⟩ = some x := fun o x h => (hW.cell (p := ⟨kb, o, none⟩) hkb).trans ((HBV.out.cell (p := ⟨kb, o, none⟩) hkb).symm.trans h)
        exact ⟨⟨hc _ _ d0, hc _ _ d1, hc _ _ d2, hc _ _ d3, hc _ _ d4, hc _ _ d5⟩, hval.keep (fun k _ hk ho _ => (hW.block k hk).trans ((HBV.out.block k hk).symm.trans ho))⟩)
      have HPL : Hid ((Ty.grefs 0 [] (ts.take j)).length ≤ 1000000) := Lib.hid (by rw [grefs_len, List.length_take]; omega)
      have HNC : Hid (∀ W, Below w.heap.size w W → Calls Tryz.prog 42 #[.agg #[.int .i64 u.k, .int .i64 u.p, .string u.n, .int .i64 u.s, lv', kv'], .int .i64 (on : Int), .slice none 0 0, .slice none 0 0] W fun e w' => ∃ v', e = .returned v' ∧ NodRes w.heap.size W.heap.size (u.gnod on []) w' v' ∧ Below W.heap.size W w') := Lib.hid (fun W hW => rnod_any u hsok w.heap.size on [] _ _ _ W hW.size (by omega) (by simp; omega) (HKID.out W hW).2 (strs_nil W) (refs_nil W) (fun r hr => by cases hr))
      clear hu hum hty hval hur hgr hgs hrr hxl hdu hsok
      go_upto_region 7 with (first | (go_at_call 41; go_loud (refine HRC.out.mono ?_; rintro en w5 ⟨rfl, hb5⟩; have HB5 := Lib.hid hb5; have HR5 := Lib.hid (HR.out.to hb5); clear hb5)) | (at_builtin; refine wpList_appG rrefElem rfl _ _ rfl rfl (HR5.out.alloc _) (some ⟨w5.heap.size, 0, none⟩) 1 1 [refCells r] rfl rfl ?_ ?_ ?_ ?_ ?_ ?_))
      · intro e he; rw [List.mem_singleton.1 he]; rfl
      · exact src_new w5 (refCells r) _
      · intro e he u hu
        rw [List.mem_singleton.1 he] at hu
        simp only [refCells, List.mem_cons, List.not_mem_nil, or_false] at hu
        rcases hu with rfl | rfl <;> rfl
      · have := HPL.out
        simp only [List.length_map, List.length_singleton]
        omega
      · rw [World.size_alloc]; have := HB5.out.size; omega
      intro ga gn gc w6 hr6 hg6 hq6
      have h5s := HB5.out.size
      have h6s := hg6.size
      rw [World.size_alloc] at h6s
      have hro : ∀ k, (Value.slice ra rn rc).ownBlock = some k → w.heap.size ≤ k ∧ k < V.heap.size := fun k hk => HR.out.lt k hk
      have hoo : ∀ k, (Value.slice oa on oc).ownBlock = some k → w.heap.size ≤ k ∧ k < V.heap.size := fun k hk => HO.out.lt k hk
      have hkeep : ∀ k, k < V.heap.size → some k ≠ (Value.slice ra rn rc).ownBlock → w6.heap[k]? = V.heap[k]? := fun k hk hn => (hg6.block k (by rw [World.size_alloc]; omega) hn).trans ((Below.heap_alloc _ _ _ (by omega)).trans (HB5.out.block k hk))
      have HO6 : Hid (GRow 59 4 w.heap.size w6 (.slice oa on oc) (xs.map NV.cells)) := Lib.hid (HO.out.kept (fun k hk => hkeep k (hoo k hk).2 (by
        obtain ⟨cs, hc⟩ := HO.out.obj hk
        exact HR.out.ne hc (by decide))))
      have HR6 : Hid (GRow 62 2 w.heap.size w6 (.slice ga gn gc) ((Ty.grefs 0 [] (ts.take (j + 1))).map refCells)) := Lib.hid (by rw [HGRS.out]; simpa using hr6)
      have HX6 : Hid (∀ x ∈ xs, x.Ok (fun k => k < w6.heap.size ∧ some k ≠ (Value.slice oa on oc).ownBlock ∧ some k ≠ (Value.slice ga gn gc).ownBlock) w6) := Lib.hid (fun x hx => ((HX.out x hx).keep (fun k _ hk ho _ => (hkeep k hk.1 hk.2.2).trans ho)).mono (fun k hk => ⟨by omega, hk.2.1, fun e => by
        rcases hq6 with h | h
        · exact hk.2.2 (e.trans h)
        · have := Option.some.inj (e.trans h); omega⟩))
      have HB6 : Hid (Below w.heap.size w w6) := Lib.hid (((HBV.out.trans (HB5.out.mono hszV)).alloc (by omega) _).grown hg6 (by rw [World.size_alloc]; omega) (fun k hk => (hro k hk).1))
      have HNC6 := Lib.hid (HNC.out w6 HB6.out)
      have hq6' : ∀ k, (Value.slice ga gn gc).ownBlock = some k → k < w6.heap.size := fun k hk => (HR6.out.lt k hk).2
      obtain ⟨⟨d0, d1, d2, d3, d4, d5⟩, _⟩ := HKID.out w6 HB6.out
      clear hr6 hg6 hq6 hkeep
      go_wp2_with (first | (go_at_call 42; go_loud (refine HNC6.out.mono ?_; rintro en w7 ⟨v7, rfl, ⟨za, zn, zc, zs, rfl, hrow7, hok7, hmap7⟩, hb7⟩; have HB7 := Lib.hid hb7; have HZ7 := Lib.hid hrow7; have HZO := Lib.hid hok7; have HZM := Lib.hid hmap7; have HO7 := Lib.hid (HO6.out.to hb7); clear hb7 hrow7 hok7 hmap7)) | (at_builtin; refine wpList_appG rnodeElem rfl _ _ rfl rfl HO7.out za zn zc (zs.map NV.cells) rfl ?_ ?_ ?_ ?_ ?_ ?_ ?_))
      · obtain ⟨_, _, _, e, hnn, _⟩ := HZ7.out.src
        simp only [Value.slice.injEq] at e
        rw [e.2.1]; exact hnn
      · intro e he
        obtain ⟨x, _, rfl⟩ := List.mem_map.1 he; rfl
      · obtain ⟨_, _, _, e, _, hsrc⟩ := HZ7.out.src
        simp only [Value.slice.injEq] at e
        rw [e.1]; exact hsrc
      · intro e he u hu
        obtain ⟨x, hx, rfl⟩ := List.mem_map.1 he
        exact (HZO.out x hx).one u hu
      · have h := congrArg List.length HZM.out
        rw [List.length_map] at h
        have := HUL.out
        have := HXL.out
        simp only [List.length_map]
        omega
      · have := HB7.out.size; omega
      intro ha hn hc w8 hr8 hg8 hq8
      have h7s := HB7.out.size
      have h8s := hg8.size
      have HR8 : Hid (GRow 62 2 w.heap.size w8 (.slice ga gn gc) ((Ty.grefs 0 [] (ts.take (j + 1))).map refCells)) := Lib.hid ((HR6.out.to HB7.out).kept (fun k hk => by
        obtain ⟨cs, hc⟩ := (HR6.out.to HB7.out).obj hk
        exact hg8.block k (Array.getElem?_eq_some_iff.1 hc).1 (HO7.out.ne hc (by decide))))
      have HO8 : Hid (GRow 59 4 w.heap.size w8 (.slice ha hn hc) ((xs ++ zs).map NV.cells)) := Lib.hid (by rw [List.map_append]; exact hr8)
      have HM8 : Hid ((xs ++ zs).map NV.g = Ty.gnods 0 [] (ts.take (j + 1))) := Lib.hid (by rw [List.map_append, HM.out, HZM.out, HGS.out])
      have HB8 : Hid (Below w.heap.size w w8) := Lib.hid ((HB6.out.trans (HB7.out.mono (by omega))).grown hg8 (by omega) (fun k hk => (hoo k hk).1))
      have HX8 : Hid (∀ x ∈ xs ++ zs, x.Ok (fun k => k < w8.heap.size ∧ some k ≠ (Value.slice ha hn hc).ownBlock ∧ some k ≠ (Value.slice ga gn gc).ownBlock) w8) := Lib.hid (by
        have hqn : ∀ k, k < w7.heap.size → some k ≠ (Value.slice oa on oc).ownBlock → some k ≠ (Value.slice ha hn hc).ownBlock := fun k hk hne e => by
          rcases hq8 with h | h
          · exact hne (e.trans h)
          · have := Option.some.inj (e.trans h); omega
        have hrg : ∀ k, (Value.slice ga gn gc).ownBlock = some k → w.heap.size ≤ k := fun k hk => (HR6.out.lt k hk).1
        intro x hx
        rcases List.mem_append.1 hx with hx | hx
        · have h1 := (HX6.out x hx).keep (HB7.out.keeps'.mono (fun k hk => hk.1))
          exact (h1.keep (Keeps.grown hg8 (fun k hk => hk.2.1))).mono (fun k hk => ⟨by omega, hqn k (by omega) hk.2.1, hk.2.2⟩)
        · have h1 := HZO.out x hx
          have hne : ∀ k, (k < w.heap.size ∨ (w6.heap.size ≤ k ∧ k < w7.heap.size ∧ some k ≠ (Value.slice za zn zc).ownBlock)) → some k ≠ (Value.slice oa on oc).ownBlock := fun k hk e => by
            have := hoo k e.symm
            rcases hk with hk | hk <;> omega
          refine (h1.keep (Keeps.grown hg8 hne)).mono (fun k hk => ⟨by rcases hk with hk | hk <;> omega, hqn k (by rcases hk with hk | hk <;> omega) (hne k hk), fun e => ?_⟩)
          have a1 := hrg k e.symm
          have a2 := hq6' k e.symm
          rcases hk with hk | hk <;> omega)
      clear hr8 hg8 hq8 d0 d1 d2 d3 d4 d5
      go_wp2_with fail
      go_roundw
      case rel => exact ⟨j + 1, ha, hn, hc, ga, gn, gc, xs ++ zs, rfl, rfl, by go_num, by omega, HO8, HX8, HM8, HR8, HB8⟩
      case measure => simp [intOf]; omega
    · obtain rfl : j = len := by omega
      have hlen : ts.take j = ts := List.take_of_length_le (by rw [HL.out]; exact Nat.le_refl _)
      have hM := HM.out
      have hR := HR.out
      rw [hlen] at hM hR
      have hxl : xs.length ≤ 100000 := by
        have h := congrArg List.length hM
        rw [List.length_map, HGR.out.2.2] at h
        have := Ty.gcnts_le ts
        have := HSZ.out
        omega
      have hn1 := HO.out.nodes HX.out (by simp only [maxLen]; omega)
      rw [hM, HGR.out.1] at hn1
      have hr1 := hR.refs (by rw [grefs_len, ← HL.out]; simp only [maxLen]; omega)
      rw [HGR.out.2.1] at hr1
      have HN1 := Lib.hid (hn1.mono (C := fun k => k < V.heap.size) (fun k hk => by
        rcases hk with hk | hk
        · exact hk.1
        · exact hk.2))
      have HR1 := Lib.hid (hr1.mono (C := fun k => k < V.heap.size) (fun k hk => hk.2))
      clear hn1 hr1 hM hR hlen hxl
      go_wp2_with fail
      go_ret2
      exact ⟨oa, on, oc, ra, rn, rc, rfl, HN1.out, HR1.out, HBV.out⟩
end Go.Proofs.YtjmnaibbljakaaaGreatDoor

/- Heads: Kind, action, Prio, Raise. -/
namespace Go.Proofs.YtjmnaibbljakaaaGreatDoor
open Go.RowKit Go.Deep Go.Shelf

abbrev refO (a b : Value) : Obj := .cells #[a, b] 37
theorem refO_cells {w : World} {b : Nat} {a c : Value} (h : w.heap[b]? = some (refO a c)) : w.cell? ⟨b, 0, none⟩ = some a ∧ w.cell? ⟨b, 1, none⟩ = some c ∧ w.frozen? ⟨b, 0, none⟩ = false ∧ w.frozen? ⟨b, 1, none⟩ = false := by
  refine ⟨?_, ?_, frozen_of_block h 0, frozen_of_block h 1⟩ <;> simp [World.cell?, h]
theorem refO_fill {w : World} {b : Nat} {a c : Value} (h : w.heap[b]? = some (refO a c)) (u v : Value) : ((w.setCell ⟨b, 0, none⟩ u).setCell ⟨b, 1, none⟩ v).heap[b]? = some (refO u v) := set_block (set_block h 0 u) 1 v
/-- Two blocks made one behind the other. -/
theorem two_made {w W : World} {o o' : Obj} (h : (w.alloc o).alloc o' = W) : W.heap.size = w.heap.size + 2 ∧ Below w.heap.size w W ∧ W.heap[w.heap.size]? = some o ∧ W.heap[w.heap.size + 1]? = some o' := by
  subst h
  refine ⟨by simp, ((Below.refl _ _).alloc (Nat.le_refl _) _).alloc (by simp) _, (Below.heap_alloc _ _ _ (by simp)).trans (World.alloc_heap_new _ _), ?_⟩
  have := World.alloc_heap_new (w.alloc o) o'
  rwa [World.size_alloc] at this
theorem three_made {w W : World} {o o' o'' : Obj} (h : ((w.alloc o).alloc o').alloc o'' = W) : W.heap.size = w.heap.size + 3 ∧ Below w.heap.size w W ∧ W.heap[w.heap.size]? = some o ∧ W.heap[w.heap.size + 1]? = some o' ∧ W.heap[w.heap.size + 2]? = some o'' := by
  obtain ⟨V, hV⟩ : ∃ V, (w.alloc o).alloc o' = V := ⟨_, rfl⟩
  obtain ⟨h1, h2, h3, h4⟩ := two_made hV
  rw [hV] at h
  subst h
  refine ⟨by simp [h1], h2.alloc (by omega) _, (Below.heap_alloc _ _ _ (by omega)).trans h3, (Below.heap_alloc _ _ _ (by omega)).trans h4, ?_⟩
  have := World.alloc_heap_new V o''
  rwa [h1] at this

/-- The cells of a node of a graph that lies in memory. -/
theorem node_at {na : Option Addr} {nn nc : Nat} {ns : List GNode} {w : World} (h : NodeSl (fun k => k < w.heap.size) w (.slice na nn nc) ns) {a : Nat} {g : GNode} (hg : ns[a]? = some g) :
    a < nn ∧ nn = ns.length ∧ ∃ kb ko lv xa xc, na = some ⟨kb, ko, none⟩ ∧ (∀ W, Below w.heap.size w W → W.cell? ⟨kb, ko + a * 4, none⟩ = some (.int .i64 g.k) ∧ W.cell? ⟨kb, ko + a * 4 + 1, none⟩ = some (.int .i64 g.p) ∧ W.cell? ⟨kb, ko + a * 4 + 2, none⟩ = some lv ∧ W.cell? ⟨kb, ko + a * 4 + 3, none⟩ = some (.slice xa g.nx.length xc) ∧ StrSl (fun k => k < W.heap.size) W lv g.ls) ∧ ∀ (q : Nat) (r : GRef), g.nx[q]? = some r → ∃ rb ro, xa = some ⟨rb, ro, none⟩ ∧ ∀ W, Below w.heap.size w W → W.cell? ⟨rb, ro + q * 2, none⟩ = some (.int .i64 r.n) ∧ W.cell? ⟨rb, ro + q * 2 + 1, none⟩ = some (.int .i64 r.s) := by
  obtain ⟨_, _, _, e, hln, _, hg1⟩ := h.open
  simp only [Value.slice.injEq] at e
  obtain ⟨rfl, rfl, rfl⟩ := e
  obtain ⟨kb, ko, e1, hkb, n0, n1, lv, nv, n2, n3, n4, n5⟩ := hg1 a g hg
  obtain ⟨xa, xn, xc, rfl, hxn, _, hgx⟩ := n5.open
  rw [hxn.out] at n3
  refine ⟨by rw [hln.out]; exact (List.getElem?_eq_some_iff.1 hg).1, hln.out, kb, ko, lv, xa, xc, e1, fun W hW => ⟨(hW.cell (p := ⟨kb, _, none⟩) hkb).trans n0, (hW.cell (p := ⟨kb, _, none⟩) hkb).trans n1, (hW.cell (p := ⟨kb, _, none⟩) hkb).trans n2, (hW.cell (p := ⟨kb, _, none⟩) hkb).trans n3, (n4.keep (hW.keeps'.mono (fun k hk => hk))).mono (fun k hk => Nat.lt_of_lt_of_le hk hW.size)⟩, fun q r hr => ?_⟩
  obtain ⟨rb, ro, f1, hrb, r0, r1⟩ := hgx q r hr
  exact ⟨rb, ro, f1, fun W hW => ⟨(hW.cell (p := ⟨rb, _, none⟩) hrb).trans r0, (hW.cell (p := ⟨rb, _, none⟩) hrb).trans r1⟩⟩

abbrev grO (na : Option Addr) (nn nc : Nat) : Obj := .cells #[.slice na nn nc] 32
abbrev grV (na : Option Addr) (nn nc : Nat) : Value := .agg #[.slice na nn nc]
abbrev rfV (n : Nat) (s : Int) : Value := .agg #[.int .i64 (n : Int), .int .i64 s]

set_option maxHeartbeats 2000000 in
set_option maxRecDepth 100000 in
theorem kind_any (ns : List GNode) (na : Option Addr) (nn nc : Nat) (a : Nat) (s : Int) (g : GNode) (w : World) (hns : NodeSl (fun k => k < w.heap.size) w (.slice na nn nc) ns) (hg : ns[a]? = some g) (hl : ns.length ≤ 1000000) :
    Calls Tryz.prog 44 #[grV na nn nc, rfV a s] w fun e w' => e = .returned (.int .i64 g.k) ∧ Below w.heap.size w w' := by
  obtain ⟨hlt, hln, kb, ko, lv, xa, xc, rfl, hcl, _⟩ := node_at hns hg
  obtain ⟨W2, hW2⟩ : ∃ W2, (w.alloc (grO (some ⟨kb, ko, none⟩) nn nc)).alloc (refO (.int .i64 (a : Int)) (.int .i64 s)) = W2 := ⟨_, rfl⟩
  obtain ⟨hs2, hb2, x0, x1⟩ := two_made hW2
  have g0 : W2.cell? ⟨w.heap.size, 0, none⟩ = some (.slice (some ⟨kb, ko, none⟩) nn nc) := by simp [World.cell?, x0]
  obtain ⟨r0, r1, _, _⟩ := refO_cells x1
  obtain ⟨n0, _, _, _, _⟩ := hcl W2 hb2
  have HW2 := Lib.hid hW2
  have HB2 := Lib.hid hb2
  have hnn : nn ≤ 1000000 := by omega
  clear hln
  clear hns hg hcl hW2 hb2 x0 x1 hs2
  go_enter Tryz.func44, Tryz.ntmps44
  go_upto_region 1 with fail
  rw [show (w.alloc (.cells #[.slice (some ⟨kb, ko, none⟩) nn nc] 32)).alloc (.cells #[.int .i64 (a : Int), .int .i64 s] 37) = W2 from HW2.out]
  go_wp2_with fail
  go_ret
  exact ⟨rfl, HB2.out⟩

/-- Is a kind an action? -/
def actI (k : Int) : Bool := decide (4 ≤ k) && decide (k ≤ 7)
set_option maxHeartbeats 2000000 in
theorem act_any (k : Int) (w : World) : Calls Tryz.prog 61 #[.int .i64 k] w fun e w' => e = .returned (.bool (actI k)) ∧ Below w.heap.size w w' := by
  by_cases h4 : k = 4
  · subst h4
    go_enter Tryz.func61, Tryz.ntmps61
    go_wp2_with fail
    go_ret
    exact ⟨rfl, Below.refl _ _⟩
  by_cases h5 : k = 5
  · subst h5
    go_enter Tryz.func61, Tryz.ntmps61
    go_wp2_with fail
    go_ret
    exact ⟨rfl, Below.refl _ _⟩
  by_cases h6 : k = 6
  · subst h6
    go_enter Tryz.func61, Tryz.ntmps61
    go_wp2_with fail
    go_ret
    exact ⟨rfl, Below.refl _ _⟩
  by_cases h7 : k = 7
  · subst h7
    go_enter Tryz.func61, Tryz.ntmps61
    go_wp2_with fail
    go_ret
    exact ⟨rfl, Below.refl _ _⟩
  have ha : actI k = false := by
    cases e : actI k with
    | false => rfl
    | true =>
      simp only [actI, Bool.and_eq_true, decide_eq_true_eq] at e
      omega
  rw [ha]
  have b4 : (k == 4) = false := by simpa using h4
  have b5 : (k == 5) = false := by simpa using h5
  have b6 : (k == 6) = false := by simpa using h6
  have b7 : (k == 7) = false := by simpa using h7
  clear ha h4 h5 h6 h7
  go_enter Tryz.func61, Tryz.ntmps61
  go_wp2_with fail
  go_ret
  exact ⟨rfl, Below.refl _ _⟩

/-- What Prio answers. -/
def prioV (g : GNode) (s : Int) : Value := if actI g.k = true then .tuple #[.int .i64 (g.p + s), .bool true] else .tuple #[.int .i64 0, .bool false]
set_option maxHeartbeats 2000000 in
set_option maxRecDepth 100000 in
theorem prio_any (ns : List GNode) (na : Option Addr) (nn nc : Nat) (a : Nat) (s : Int) (g : GNode) (w : World) (hns : NodeSl (fun k => k < w.heap.size) w (.slice na nn nc) ns) (hg : ns[a]? = some g) (hl : ns.length ≤ 1000000) (hp : 0 ≤ g.p ∧ g.p ≤ 1000000) (hs : -1000000000000 ≤ s ∧ s ≤ 1000000000000) :
    Calls Tryz.prog 43 #[grV na nn nc, rfV a s] w fun e w' => e = .returned (prioV g s) ∧ Below w.heap.size w w' := by
  have HNS := Lib.hid hns
  have HGG := Lib.hid hg
  obtain ⟨hlt, hln, kb, ko, lv, xa, xc, rfl, hcl, _⟩ := node_at hns hg
  obtain ⟨W2, hW2⟩ : ∃ W2, (w.alloc (grO (some ⟨kb, ko, none⟩) nn nc)).alloc (refO (.int .i64 (a : Int)) (.int .i64 s)) = W2 := ⟨_, rfl⟩
  obtain ⟨hs2, hb2, x0, x1⟩ := two_made hW2
  have HX : Hid (∀ W, Below W2.heap.size W2 W → W.cell? ⟨w.heap.size, 0, none⟩ = some (.slice (some ⟨kb, ko, none⟩) nn nc) ∧ W.cell? ⟨w.heap.size + 1, 0, none⟩ = some (.int .i64 (a : Int)) ∧ W.cell? ⟨w.heap.size + 1, 1, none⟩ = some (.int .i64 s) ∧ W.cell? ⟨kb, ko + a * 4 + 1, none⟩ = some (.int .i64 g.p)) := Lib.hid (fun W hW => by
    have a0 : W.heap[w.heap.size]? = _ := (hW.block _ (by omega)).trans x0
    obtain ⟨r0, r1, _, _⟩ := refO_cells ((hW.block _ (by omega)).trans x1)
    exact ⟨by simp [World.cell?, a0], r0, r1, (hcl W (below_seq hb2 hW)).2.1⟩)
  have HKD := Lib.hid (kind_any ns (some ⟨kb, ko, none⟩) nn nc a s g W2 ((hns.keep (hb2.keeps'.mono (fun k hk => hk))).mono (fun k hk => Nat.lt_of_lt_of_le hk hb2.size)) hg hl)
  have HAC := Lib.hid (fun W => act_any g.k W)
  have HW2 := Lib.hid hW2
  have HB2 := Lib.hid hb2
  have hnn : nn ≤ 1000000 := by omega
  clear hln
  have e1 : IntKind.i64.wrap (g.p + s) = g.p + s := by rw [IntKind.wrap_i64]; omega
  obtain ⟨g0, r0, r1, _⟩ := HX.out W2 (Below.refl _ _)
  clear hns hg hcl hW2 hb2 x0 x1 hs2
  cases hac : actI g.k
  · have hpv : Hid (prioV g s = .tuple #[.int .i64 0, .bool false]) := Lib.hid (by rw [prioV, hac]; rfl)
    rw [hpv.out]
    rw [hac] at HAC
    clear hac
    go_enter Tryz.func43, Tryz.ntmps43
    go_upto_region 1 with fail
    rw [show (w.alloc (.cells #[.slice (some ⟨kb, ko, none⟩) nn nc] 32)).alloc (.cells #[.int .i64 (a : Int), .int .i64 s] 37) = W2 from HW2.out]
    go_wp2_with (first | (go_at_call 44; go_loud (refine HKD.out.mono ?_; rintro en w3 ⟨rfl, hb3⟩; have HB3 := Lib.hid hb3; clear hb3)) | (go_at_call 61; go_loud (refine (HAC.out w3).mono ?_; rintro en w4 ⟨rfl, hb4⟩; have HB4 := Lib.hid hb4; clear hb4)))
    go_ret2
    exact ⟨rfl, below_seq HB2.out (below_seq HB3.out HB4.out)⟩
  · have hpv : Hid (prioV g s = .tuple #[.int .i64 (g.p + s), .bool true]) := Lib.hid (by rw [prioV, hac]; rfl)
    rw [hpv.out]
    rw [hac] at HAC
    clear hac
    go_enter Tryz.func43, Tryz.ntmps43
    go_upto_region 1 with fail
    rw [show (w.alloc (.cells #[.slice (some ⟨kb, ko, none⟩) nn nc] 32)).alloc (.cells #[.int .i64 (a : Int), .int .i64 s] 37) = W2 from HW2.out]
    go_upto_region 3 with (first | (go_at_call 44; go_loud (refine HKD.out.mono ?_; rintro en w3 ⟨rfl, hb3⟩; have HB3 := Lib.hid hb3; clear hb3)) | (go_at_call 61; go_loud (refine (HAC.out w3).mono ?_; rintro en w4 ⟨rfl, hb4⟩; have HB4 := Lib.hid (below_seq HB3.out hb4); clear hb4)))
    clear g0 r0 r1
    obtain ⟨g0, r0, r1, n1⟩ := HX.out w4 HB4.out
    go_quiet (fail)
    go_wp2_with fail
    go_ret2
    exact ⟨rfl, below_drewN (below_seq HB2.out HB4.out) _⟩

set_option maxHeartbeats 2000000 in
set_option maxRecDepth 100000 in
theorem hraise_any (a : Nat) (s k : Int) (w : World) (hs : -1000000000000000 ≤ s + k ∧ s + k ≤ 1000000000000000) :
    Calls Tryz.prog 30 #[rfV a s, .int .i64 k] w fun e w' => e = .returned (rfV a (s + k)) ∧ Below w.heap.size w w' := by
  obtain ⟨W2, hW2⟩ : ∃ W2, (w.alloc (refO (.int .i64 (a : Int)) (.int .i64 s))).alloc (refO (.int .i64 0) (.int .i64 0)) = W2 := ⟨_, rfl⟩
  obtain ⟨hs2, hb2, x0, x1⟩ := two_made hW2
  obtain ⟨r0, r1, r2, r3⟩ := refO_cells x0
  have e1 : IntKind.i64.wrap (s + k) = s + k := by rw [IntKind.wrap_i64]; omega
  obtain ⟨W3, hW3⟩ : ∃ W3, W2.setCell ⟨w.heap.size, 1, none⟩ (.int .i64 (s + k)) = W3 := ⟨_, rfl⟩
  have y0 : W3.heap[w.heap.size]? = some (refO (.int .i64 (a : Int)) (.int .i64 (s + k))) := by rw [← hW3]; exact set_block x0 1 _
  have y1 : W3.heap[w.heap.size + 1]? = some (refO (.int .i64 0) (.int .i64 0)) := by rw [← hW3]; exact (set_oth W2 1 _ (by omega)).trans x1
  have hb3 : Below w.heap.size w W3 := by rw [← hW3]; exact hb2.setCell (Nat.le_refl _) _
  have HW2 := Lib.hid hW2
  have HW3 := Lib.hid hW3
  have HB3 := Lib.hid hb3
  have HY1 := Lib.hid y1
  clear hW2 hb2 x0 x1 hs2 hW3 hb3
  go_enter Tryz.func30, Tryz.ntmps30
  go_upto_region 1 with fail
  rw [show (w.alloc (.cells #[.int .i64 (a : Int), .int .i64 s] 37)).alloc (.cells #[.int .i64 0, .int .i64 0] 37) = W2 from HW2.out]
  go_upto_region 2 with fail
  rw [HW3.out]
  clear r0 r1 r2 r3
  obtain ⟨r0, r1, _, _⟩ := refO_cells y0
  obtain ⟨z0, z1, z2, z3⟩ := refO_cells HY1.out
  go_wp2_with fail
  clear r0 r1 z0 z1 z2 z3
  have hx4 := refO_fill HY1.out (.int .i64 (a : Int)) (.int .i64 (s + k))
  obtain ⟨u0, u1, _, _⟩ := refO_cells hx4
  refine bodyPost_ret (v := rfV a (s + k)) (by simp [results, Tryz.results30, go_sem, u0, u1]) rfl ?_
  exact ⟨rfl, (HB3.out.setCell (Nat.le_succ _) _).setCell (Nat.le_succ _) _⟩
end Go.Proofs.YtjmnaibbljakaaaGreatDoor

/- Maps whose keys are compared by Op.equal: arrays of numbers. -/
namespace Go.Proofs.YtjmnaibbljakaaaGreatDoor
open Go.RowKit Go.Deep Go.Shelf

section
variable {κ : Type} [DecidableEq κ] {kt : TypeId} {enc : κ → Value}
def entA (enc : κ → Value) (e : κ × Value × Nat) : MapEntry := { key := enc e.1, val := e.2.1, born := e.2.2 }
def findA (k : κ) : List (κ × Value × Nat) → Nat → Option (Nat × Value)
  | [], _ => none
  | e :: r, i => if k = e.1 then some (i, e.2.1) else findA k r (i + 1)
def valA (k : κ) (es : List (κ × Value × Nat)) : Option Value := (findA k es 0).map (·.2)
end
/-- What a type of keys has. -/
structure KeyT {κ : Type} [DecidableEq κ] (kt : TypeId) (enc : κ → Value) : Prop where
  find : ∀ (w : World) (k : κ) (es : List (κ × Value × Nat)), (Instr.findKey kt (enc k) (es.map (entA enc))).run Tryz.prog w = .ok (findA k es 0) w
  check : ∀ (w : World) (em : Bool) (k : κ), (Instr.checkKey em 10000 kt (enc k)).run Tryz.prog w = .ok () w
  bits : ∀ k, Instr.sameBits 10000 (enc k) (enc k) = true
section
variable {κ : Type} [DecidableEq κ] {kt : TypeId} {enc : κ → Value}
theorem run_asking (heq : ∀ (w : World) (a b : κ), (Op.equal kt (enc a) (enc b)).run Tryz.prog w = .ok (decide (a = b)) w) (k : κ) (w : World) : ∀ (es : List (κ × Value × Nat)) (i : Nat), (Instr.findAsking kt (enc k) (es.map (entA enc)) i).run Tryz.prog w = .ok (findA k es i) w
  | [], i => by simp [Instr.findAsking, findA, Sem.run_pure]
  | e :: r, i => by
    rw [List.map_cons, Instr.findAsking]
    simp only [Sem.run_bind, entA, heq, Result.andThen_ok]
    rw [findA]
    by_cases h : k = e.1
    · rw [if_pos h]
      simp [h, Sem.run_pure]
    · rw [if_neg h]
      simp only [h, decide_false]
      exact run_asking heq k w r (i + 1)
theorem find_of_eq {d : TypeDesc} (hd : Tryz.prog.underlying kt = some d) (hn : ∀ v u, Instr.sameNow d v u = none) (heq : ∀ (w : World) (a b : κ), (Op.equal kt (enc a) (enc b)).run Tryz.prog w = .ok (decide (a = b)) w) (w : World) (k : κ) (es : List (κ × Value × Nat)) :
    (Instr.findKey kt (enc k) (es.map (entA enc))).run Tryz.prog w = .ok (findA k es 0) w := by
  unfold Instr.findKey
  simp only [Sem.run_bind, run_underlying hd, Result.andThen_ok]
  cases es with
  | nil => simp [Instr.findNow, findA, Sem.run_pure]
  | cons e r =>
    have : Instr.findNow d (enc k) ((e :: r).map (entA enc)) 0 = none := by
      rw [List.map_cons, Instr.findNow]
      simp [hn]
    rw [this]
    exact run_asking heq k w (e :: r) 0
theorem now_of_eq {d : TypeDesc} (hs : ∀ a b : κ, Instr.sameNow d (enc a) (enc b) = some (decide (a = b))) (k : κ) : ∀ (es : List (κ × Value × Nat)) (i : Nat), Instr.findNow d (enc k) (es.map (entA enc)) i = some (findA k es i)
  | [], i => rfl
  | e :: r, i => by
    rw [List.map_cons, Instr.findNow, findA]
    simp only [entA, hs]
    by_cases h : k = e.1
    · simp [h]
    · simp only [h, decide_false, if_false]
      exact now_of_eq hs k r (i + 1)
theorem find_of_now {d : TypeDesc} (hd : Tryz.prog.underlying kt = some d) (hs : ∀ a b : κ, Instr.sameNow d (enc a) (enc b) = some (decide (a = b))) (w : World) (k : κ) (es : List (κ × Value × Nat)) :
    (Instr.findKey kt (enc k) (es.map (entA enc))).run Tryz.prog w = .ok (findA k es 0) w := by
  unfold Instr.findKey
  simp only [Sem.run_bind, run_underlying hd, Result.andThen_ok, now_of_eq hs, Sem.run_pure]
/-- Block b is a map of n entries with the values F. -/
def AMap (enc : κ → Value) (w : World) (b n : Nat) (F : κ → Option Value) : Prop :=
  ∃ (es : List (κ × Value × Nat)) (clock : Nat), w.heap[b]? = some (.map (es.map (entA enc)).toArray clock) ∧ es.length = n ∧ ∀ k, valA k es = F k
theorem AMap.made (w : World) : AMap enc (w.alloc (.map #[] 0)) w.heap.size 0 (fun _ => none) := ⟨[], 0, World.alloc_heap_new _ _, rfl, fun _ => rfl⟩
theorem AMap.lt {w : World} {b n : Nat} {F : κ → Option Value} (h : AMap enc w b n F) : b < w.heap.size := by
  obtain ⟨_, _, h, _⟩ := h; exact (Array.getElem?_eq_some_iff.1 h).1
theorem AMap.same {w w' : World} {b n : Nat} {F : κ → Option Value} (h : AMap enc w b n F) (hb : w'.heap[b]? = w.heap[b]?) : AMap enc w' b n F := by
  obtain ⟨es, c, h, r⟩ := h; exact ⟨es, c, hb.trans h, r⟩
theorem AMap.below {w w' : World} {b n m : Nat} {F : κ → Option Value} (h : AMap enc w b n F) (hb : Below m w w') (hm : b < m) : AMap enc w' b n F := h.same (hb.block b hm)
theorem AMap.look_ok (H : KeyT kt enc) {w : World} {b n : Nat} {F : κ → Option Value} (h : AMap enc w b n F) {t e : TypeId} (ht : Tryz.prog.underlying t = some (.map kt e)) {z : Value} (hz : (zeroValue e).run Tryz.prog w = .ok z w) (k : κ) (ok : Bool) :
    (Instr.lookup t (.map (some b)) (enc k) ok).run Tryz.prog w = .ok (if ok then .tuple #[(F k).getD z, .bool (F k).isSome] else (F k).getD z) w := by
  obtain ⟨es, c, h1, _, h3⟩ := h
  unfold Instr.lookup
  have hg : (getObj b).run Tryz.prog w = .ok (.map (es.map (entA enc)).toArray c) w := by simp [getObj, Sem.run, h1]
  simp only [Sem.run_bind, run_underlying ht, Result.andThen_ok, hg, Sem.run_pure, H.check, H.find]
  rw [← h3 k]
  unfold valA
  cases findA k es 0 with
  | none => simp [hz]
  | some p => simp [Sem.run_pure]
theorem findA_some (k : κ) : ∀ (es : List (κ × Value × Nat)) (i j : Nat) (v : Value), findA k es i = some (j, v) → ∃ x c, i ≤ j ∧ es[j - i]? = some (x, v, c) ∧ k = x
  | [], _, _, _, h => by cases h
  | e :: r, i, j, v, h => by
    rw [findA] at h
    split at h
    · next hk =>
      simp only [Option.some.injEq, Prod.mk.injEq] at h
      obtain ⟨rfl, rfl⟩ := h
      exact ⟨e.1, e.2.2, Nat.le_refl _, by simp, hk⟩
    · obtain ⟨x, c, h1, h2, h3⟩ := findA_some k r (i + 1) j v h
      refine ⟨x, c, by omega, ?_, h3⟩
      rw [show j - i = (j - (i + 1)) + 1 by omega, List.getElem?_cons_succ]
      exact h2
theorem findA_mod (k q : κ) (u : Value) : ∀ (es : List (κ × Value × Nat)) (i j : Nat) (v : Value), findA k es i = some (j, v) →
    (findA q (es.modify (j - i) (fun e => (k, u, e.2.2))) i).map (·.2) = if q = k then some u else (findA q es i).map (·.2)
  | [], _, _, _, h => by cases h
  | e :: r, i, j, v, h => by
    rw [findA] at h
    split at h
    · next hk =>
      simp only [Option.some.injEq, Prod.mk.injEq] at h
      obtain ⟨rfl, rfl⟩ := h
      rw [Nat.sub_self, List.modify_zero_cons, findA, findA]
      by_cases hq : q = k
      · simp [hq]
      · rw [if_neg hq, if_neg hq, if_neg (by rw [← hk]; exact hq)]
    · next hk =>
      obtain ⟨_, _, hij, _⟩ := findA_some k r (i + 1) j v h
      have ih := findA_mod k q u r (i + 1) j v h
      rw [show j - i = (j - (i + 1)) + 1 by omega, List.modify_succ_cons, findA, findA]
      by_cases hq : q = e.1
      · rw [if_pos hq, if_pos hq, if_neg (fun h => hk (h.symm.trans hq))]
      · rw [if_neg hq, if_neg hq]
        exact ih
theorem findA_push (k q : κ) (u : Value) (c : Nat) : ∀ (es : List (κ × Value × Nat)) (i : Nat), findA k es i = none →
    (findA q (es ++ [(k, u, c)]) i).map (·.2) = if q = k then some u else (findA q es i).map (·.2)
  | [], i, _ => by
    rw [List.nil_append, findA]
    by_cases hq : q = k <;> simp [hq, findA]
  | e :: r, i, h => by
    rw [findA] at h
    split at h
    · cases h
    · next hk =>
      rw [List.cons_append, findA, findA]
      by_cases hq : q = e.1
      · rw [if_pos hq, if_pos hq, if_neg (fun h => hk (h.symm.trans hq))]
      · rw [if_neg hq, if_neg hq]
        exact findA_push k q u c r (i + 1) h
theorem AMap.put (H : KeyT kt enc) {w : World} {b n : Nat} {F : κ → Option Value} (h : AMap enc w b n F) {t e : TypeId} (ht : Tryz.prog.underlying t = some (.map kt e)) (k : κ) (u : Value) :
    ∃ w', (Instr.mapUpdate t (.map (some b)) (enc k) u).run Tryz.prog w = .ok () w' ∧ AMap enc w' b (if (F k).isSome then n else n + 1) (fun q => if q = k then some u else F q) ∧ w.grownBy w' (some b) := by
  obtain ⟨es, c, h1, h2, h3⟩ := h
  have hb : b < w.heap.size := (Array.getElem?_eq_some_iff.1 h1).1
  have hg : (getObj b).run Tryz.prog w = .ok (.map (es.map (entA enc)).toArray c) w := by simp [getObj, Sem.run, h1]
  unfold Instr.mapUpdate
  simp only [Sem.run_bind, run_underlying ht, Result.andThen_ok, hg, H.check, H.find]
  have hk := h3 k
  unfold valA at hk
  have hset : ∀ o : Obj, (setObj b o).run Tryz.prog w = .ok () (w.putObj b o) := fun o => by simp [setObj, Sem.run, World.putObj, h1]
  cases hf : findA k es 0 with
  | none =>
    rw [hf] at hk
    simp only [Option.map_none] at hk
    refine ⟨_, hset _, ⟨es ++ [(k, u, c)], c + 1, ?_, ?_, fun q => ?_⟩, grownBy_putObj' w b _⟩
    · refine (World.putObj_heap_same hb).trans (congrArg some (congrArg (fun x => Obj.map x (c + 1)) ?_))
      simp [entA]
    · rw [← hk]; simp [h2]
    · unfold valA
      rw [findA_push k q u c es 0 hf]
      show _ = (if q = k then some u else F q)
      rw [← h3 q]
      rfl
  | some p =>
    obtain ⟨j, v⟩ := p
    rw [hf] at hk
    simp only [Option.map_some] at hk
    obtain ⟨x, cc, _, hj, hx⟩ := findA_some k es 0 j v hf
    rw [Nat.sub_zero] at hj
    subst hx
    have hks : (Instr.keyThatStays (enc k) (enc k)).run Tryz.prog w = .ok (enc k) w := by unfold Instr.keyThatStays; rw [H.bits]; simp [Sem.run_pure]
    have hold : Option.getD (((es.map (entA enc)).toArray[j]?).map (·.key)) (enc k) = enc k := by
      rw [List.getElem?_toArray, List.getElem?_map, hj]
      rfl
    simp only [hold, hks, Result.andThen_ok, Sem.run_bind]
    refine ⟨_, hset _, ⟨es.modify j (fun e => (k, u, e.2.2)), c, ?_, ?_, fun q => ?_⟩, grownBy_putObj' w b _⟩
    · refine (World.putObj_heap_same hb).trans (congrArg some (congrArg (fun x => Obj.map x c) ?_))
      apply Array.ext_getElem?
      intro i
      simp only [Array.getElem?_modify, List.getElem?_toArray, List.getElem?_map, List.getElem?_modify]
      by_cases hij : j = i
      · subst hij
        simp [hj, entA]
      · simp [hij]
    · rw [← hk]; simp [h2]
    · unfold valA
      have := findA_mod k q u es 0 j v hf
      rw [Nat.sub_zero] at this
      rw [this]
      show _ = (if q = k then some u else F q)
      rw [← h3 q]
      rfl
end
end Go.Proofs.YtjmnaibbljakaaaGreatDoor

/- Maps whose keys are arrays of numbers: the types of keys. -/
namespace Go.Proofs.YtjmnaibbljakaaaGreatDoor
open Go.RowKit Go.Deep Go.Shelf

abbrev enc2 (p : Int × Int) : Value := .agg #[.int .i64 p.1, .int .i64 p.2]
abbrev enc3 (p : Int × Int × Int) : Value := .agg #[.int .i64 p.1, .int .i64 p.2.1, .int .i64 p.2.2]
theorem ks_size (w : World) : (sizeOf 3).run Tryz.prog w = .ok 1 w := by kernel_rfl
theorem p2_0 (w : World) (a b : Int) : (part 3 #[.int .i64 a, .int .i64 b] 0).run Tryz.prog w = .ok (.int .i64 a) w := by kernel_rfl
theorem p2_1 (w : World) (a b : Int) : (part 3 #[.int .i64 a, .int .i64 b] 1).run Tryz.prog w = .ok (.int .i64 b) w := by kernel_rfl
theorem p3_0 (w : World) (a b c : Int) : (part 3 #[.int .i64 a, .int .i64 b, .int .i64 c] 0).run Tryz.prog w = .ok (.int .i64 a) w := by kernel_rfl
theorem p3_1 (w : World) (a b c : Int) : (part 3 #[.int .i64 a, .int .i64 b, .int .i64 c] 1).run Tryz.prog w = .ok (.int .i64 b) w := by kernel_rfl
theorem p3_2 (w : World) (a b c : Int) : (part 3 #[.int .i64 a, .int .i64 b, .int .i64 c] 2).run Tryz.prog w = .ok (.int .i64 c) w := by kernel_rfl
theorem ck_int (w : World) (em : Bool) (n : Nat) (a : Int) : (Instr.checkKey em (n + 1) 3 (.int .i64 a)).run Tryz.prog w = .ok () w := by
  rw [Instr.checkKey]
  simp [Sem.run_bind, run_underlying Tryz.underlying3, Sem.run_pure]
theorem eq2 (w : World) (a b : Int × Int) : (Op.equal 103 (enc2 a) (enc2 b)).run Tryz.prog w = .ok (decide (a = b)) w := by
  show (Op.equalIn 10000 _ _ _).run _ _ = _
  rw [show (10000 : Nat) = 9998 + 1 + 1 from rfl, Op.equalIn]
  simp only [Sem.run_bind, run_underlying Tryz.underlying103, Result.andThen_ok, ks_size]
  rw [Std.Legacy.Range.forIn_eq_forIn_range']
  obtain ⟨a1, a2⟩ := a
  obtain ⟨b1, b2⟩ := b
  by_cases h1 : a1 = b1
  · by_cases h2 : a2 = b2
    · simp [List.range', p2_0, p2_1, run_equalIn_int, Tryz.underlying3, h1, h2]
    · simp [List.range', p2_0, p2_1, run_equalIn_int, Tryz.underlying3, h1, h2]
  · simp [List.range', p2_0, p2_1, run_equalIn_int, Tryz.underlying3, h1]
theorem key2 : KeyT 103 enc2 where
  find := find_of_eq Tryz.underlying103 (fun v u => by cases v <;> rfl) eq2
  check w em k := by
    rw [show (10000 : Nat) = 9998 + 1 + 1 from rfl, Instr.checkKey]
    simp only [Sem.run_bind, run_underlying Tryz.underlying103, Result.andThen_ok]
    rw [Std.Legacy.Range.forIn_eq_forIn_range']
    simp [List.range', p2_0, p2_1, ck_int, Sem.run_bind, Sem.run_pure]
  bits k := by
    rw [show (10000 : Nat) = 9998 + 1 + 1 from rfl]
    simp [Instr.sameBits]
theorem eq3 (w : World) (a b : Int × Int × Int) : (Op.equal 102 (enc3 a) (enc3 b)).run Tryz.prog w = .ok (decide (a = b)) w := by
  show (Op.equalIn 10000 _ _ _).run _ _ = _
  rw [show (10000 : Nat) = 9998 + 1 + 1 from rfl, Op.equalIn]
  simp only [Sem.run_bind, run_underlying Tryz.underlying102, Result.andThen_ok, ks_size]
  rw [Std.Legacy.Range.forIn_eq_forIn_range']
  obtain ⟨a1, a2, a3⟩ := a
  obtain ⟨b1, b2, b3⟩ := b
  by_cases h1 : a1 = b1
  · by_cases h2 : a2 = b2
    · by_cases h3 : a3 = b3
      · simp [List.range', p3_0, p3_1, p3_2, run_equalIn_int, Tryz.underlying3, h1, h2, h3]
      · simp [List.range', p3_0, p3_1, p3_2, run_equalIn_int, Tryz.underlying3, h1, h2, h3]
    · simp [List.range', p3_0, p3_1, p3_2, run_equalIn_int, Tryz.underlying3, h1, h2]
  · simp [List.range', p3_0, p3_1, p3_2, run_equalIn_int, Tryz.underlying3, h1]
theorem key3 : KeyT 102 enc3 where
  find := find_of_eq Tryz.underlying102 (fun v u => by cases v <;> rfl) eq3
  check w em k := by
    rw [show (10000 : Nat) = 9998 + 1 + 1 from rfl, Instr.checkKey]
    simp only [Sem.run_bind, run_underlying Tryz.underlying102, Result.andThen_ok]
    rw [Std.Legacy.Range.forIn_eq_forIn_range']
    simp [List.range', p3_0, p3_1, p3_2, ck_int, Sem.run_bind, Sem.run_pure]
  bits k := by
    rw [show (10000 : Nat) = 9998 + 1 + 1 from rfl]
    simp [Instr.sameBits]
abbrev enc1 (k : Int) : Value := .int .i64 k
theorem key1 : KeyT 3 enc1 where
  find := find_of_now Tryz.underlying3 (fun a b => by simp only [Instr.sameNow, if_true]; congr 1)
  check w em k := ck_int w em 9999 k
  bits k := by
    rw [show (10000 : Nat) = 9999 + 1 from rfl]
    simp [Instr.sameBits]
end Go.Proofs.YtjmnaibbljakaaaGreatDoor

/- Heads: Next, After, Label; slices.Index. -/
namespace Go.Proofs.YtjmnaibbljakaaaGreatDoor
open Go.RowKit Go.Deep Go.Shelf

abbrev rfZ : Value := .agg #[.int .i64 0, .int .i64 0]
/-- The reference behind a reference. -/
def nextE (ns : List GNode) (r : GRef) (i : Int) : Option GRef := match ns[r.n]? with
  | some g => if 0 ≤ i then (match g.nx[i.toNat]? with | some q => some ⟨q.n, q.s + r.s⟩ | none => none) else none
  | none => none
def refR : Option GRef → Value
  | some q => .tuple #[rfV q.n q.s, .bool true]
  | none => .tuple #[rfZ, .bool false]
/-- The shifts of a graph are small. -/
def smallG (ns : List GNode) : Prop := ∀ g ∈ ns, (0 ≤ g.p ∧ g.p ≤ 1000000) ∧ ∀ q ∈ g.nx, -1000000 ≤ q.s ∧ q.s ≤ 1000000

theorem next_none {ns : List GNode} {r : GRef} {g : GNode} {i : Int} (hg : ns[r.n]? = some g) (h : i < 0 ∨ (g.nx.length : Int) ≤ i) : nextE ns r i = none := by
  unfold nextE
  rw [hg]
  simp only
  by_cases h0 : 0 ≤ i
  · rw [if_pos h0, List.getElem?_eq_none (by omega)]
  · rw [if_neg h0]
theorem next_some {ns : List GNode} {r : GRef} {g : GNode} {q : GRef} {j : Nat} (hg : ns[r.n]? = some g) (hq : g.nx[j]? = some q) : nextE ns r (j : Int) = some ⟨q.n, q.s + r.s⟩ := by
  unfold nextE
  rw [hg]
  simp only
  rw [if_pos (by omega), Int.toNat_natCast, hq]

set_option maxHeartbeats 4000000 in
set_option maxRecDepth 100000 in
theorem next_any (ns : List GNode) (na : Option Addr) (nn nc : Nat) (r : GRef) (i : Int) (w : World) (hns : NodeSl (fun k => k < w.heap.size) w (.slice na nn nc) ns) (hr : r.n < ns.length) (hl : ns.length ≤ 1000000) (hx : ∀ g ∈ ns, g.nx.length ≤ 1000000) (hsm : smallG ns) (hs : -100000000000000 ≤ r.s ∧ r.s ≤ 100000000000000) :
    Calls Tryz.prog 66 #[grV na nn nc, rfV r.n r.s, .int .i64 i] w fun e w' => e = .returned (refR (nextE ns r i)) ∧ Below w.heap.size w w' := by
  obtain ⟨g, hg⟩ : ∃ g, ns[r.n]? = some g := ⟨_, List.getElem?_eq_getElem hr⟩
  have hgm := List.mem_of_getElem? hg
  have hgl := hx g hgm
  obtain ⟨hlt, hln, kb, ko, lv, xa, xc, rfl, hcl, hrf⟩ := node_at hns hg
  obtain ⟨M, hM⟩ : ∃ M, g.nx.length = M := ⟨_, rfl⟩
  rw [hM] at hcl hgl
  obtain ⟨W3, hW3⟩ : ∃ W3, ((w.alloc (grO (some ⟨kb, ko, none⟩) nn nc)).alloc (refO (.int .i64 (r.n : Int)) (.int .i64 r.s))).alloc (refO (.int .i64 0) (.int .i64 0)) = W3 := ⟨_, rfl⟩
  obtain ⟨hs3, hb3, x0, x1, x2⟩ := three_made hW3
  have g0 : W3.cell? ⟨w.heap.size, 0, none⟩ = some (.slice (some ⟨kb, ko, none⟩) nn nc) := by simp [World.cell?, x0]
  obtain ⟨r0, r1, _, _⟩ := refO_cells x1
  obtain ⟨z0, z1, z2, z3⟩ := refO_cells x2
  obtain ⟨_, _, _, n3, _⟩ := hcl W3 hb3
  have HW3 := Lib.hid hW3
  have HB3 := Lib.hid hb3
  have HX2 := Lib.hid x2
  have HR1 := Lib.hid r1
  have HS3 := Lib.hid hs3
  have HG := Lib.hid hg
  have HM := Lib.hid hM
  have hnn : nn ≤ 1000000 := by omega
  clear hln
  have HSM := Lib.hid (hsm g hgm).2
  clear hns hcl hW3 hb3 x0 x1 x2 hs3 hx hsm hgm hr hg hM
  by_cases hneg : i < 0
  · have HE : Hid (nextE ns r i = none) := Lib.hid (next_none HG.out (.inl hneg))
    rw [HE.out]
    have d1 : decide (i < 0) = true := by simpa using hneg
    clear hrf
    go_enter Tryz.func66, Tryz.ntmps66
    go_upto_region 1 with fail
    rw [show ((w.alloc (.cells #[.slice (some ⟨kb, ko, none⟩) nn nc] 32)).alloc (.cells #[.int .i64 (r.n : Int), .int .i64 r.s] 37)).alloc (.cells #[.int .i64 0, .int .i64 0] 37) = W3 from HW3.out]
    go_wp2_with fail
    clear z0 z1 z2 z3
    have hx4 := refO_fill HX2.out (.int .i64 0) (.int .i64 0)
    obtain ⟨u0, u1, _, _⟩ := refO_cells hx4
    refine bodyPost_ret (v := .tuple #[rfZ, .bool false]) (by simp [results, Tryz.results66, go_sem, u0, u1]) rfl ?_
    exact ⟨rfl, (HB3.out.setCell (by show w.heap.size ≤ w.heap.size + 2; omega) _).setCell (by show w.heap.size ≤ w.heap.size + 2; omega) _⟩
  · have d1 : decide (i < 0) = false := by simpa using hneg
    by_cases hge : (M : Int) ≤ i
    · have HE : Hid (nextE ns r i = none) := Lib.hid (next_none HG.out (.inr (by rw [HM.out]; exact hge)))
      rw [HE.out]
      have d2 : decide ((M : Int) ≤ i) = true := by simpa using hge
      have d3 : decide (i ≥ (M : Int)) = true := by simpa using hge
      clear hrf
      go_enter Tryz.func66, Tryz.ntmps66
      go_upto_region 1 with fail
      rw [show ((w.alloc (.cells #[.slice (some ⟨kb, ko, none⟩) nn nc] 32)).alloc (.cells #[.int .i64 (r.n : Int), .int .i64 r.s] 37)).alloc (.cells #[.int .i64 0, .int .i64 0] 37) = W3 from HW3.out]
      go_wp2_with fail
      clear z0 z1 z2 z3
      have hx4 := refO_fill HX2.out (.int .i64 0) (.int .i64 0)
      obtain ⟨u0, u1, _, _⟩ := refO_cells hx4
      refine bodyPost_ret (v := .tuple #[rfZ, .bool false]) (by simp [results, Tryz.results66, go_sem, u0, u1]) rfl ?_
      exact ⟨rfl, (HB3.out.setCell (by show w.heap.size ≤ w.heap.size + 2; omega) _).setCell (by show w.heap.size ≤ w.heap.size + 2; omega) _⟩
    · obtain ⟨j, rfl⟩ : ∃ j : Nat, i = (j : Int) := ⟨i.toNat, by omega⟩
      have hjM : j < M := by omega
      have d2 : decide ((M : Int) ≤ (j : Int)) = false := by simpa using hge
      obtain ⟨q, hq⟩ : ∃ q, g.nx[j]? = some q := ⟨_, List.getElem?_eq_getElem (by rw [HM.out]; exact hjM)⟩
      have HE : Hid (nextE ns r (j : Int) = some ⟨q.n, q.s + r.s⟩) := Lib.hid (next_some HG.out hq)
      rw [HE.out]
      obtain ⟨rb, ro, rfl, hqc⟩ := hrf j q hq
      have hqs := HSM.out q (List.mem_of_getElem? hq)
      obtain ⟨q0, q1⟩ := hqc W3 HB3.out
      have HRA := Lib.hid (fun W => hraise_any q.n q.s r.s W (by omega))
      have HQC := Lib.hid hqc
      clear hrf hq hqc
      go_enter Tryz.func66, Tryz.ntmps66
      go_upto_region 1 with fail
      rw [show ((w.alloc (.cells #[.slice (some ⟨kb, ko, none⟩) nn nc] 32)).alloc (.cells #[.int .i64 (r.n : Int), .int .i64 r.s] 37)).alloc (.cells #[.int .i64 0, .int .i64 0] 37) = W3 from HW3.out]
      go_upto_region 4 with fail
      refine wp_region_held_drew (S := fun W => W.cell? ⟨w.heap.size + 1, 1, none⟩ = some (.int .i64 r.s) ∧ W.cell? ⟨rb, ro + j * 2, none⟩ = some (.int .i64 (q.n : Int)) ∧ W.cell? ⟨rb, ro + j * 2 + 1, none⟩ = some (.int .i64 q.s)) (by kernel_rfl) ⟨r1, q0, q1⟩ (fun hHeld => ?_)
      refine wpAnyH_take_l 0 (v := ?v0) rfl rfl (by kernel_rfl) (by kernel_rfl) (by kernel_rfl) (fun _ _ _ h => h) ?h0 (by assumption) ?r0
      case h0 => (intro w hSw; (try dsimp only at hSw); go_simp; try rfl)
      case' r0 => simp only [setD, List.set_cons_succ, List.set_cons_zero]
      refine wpAnyH_take_l 1 (v := ?v1) rfl rfl (by kernel_rfl) (by kernel_rfl) (by kernel_rfl) (fun _ _ _ h => h) ?h1 (by assumption) ?r1
      case h1 => (intro w hSw; (try dsimp only at hSw); go_simp; try rfl)
      case' r1 => simp only [setD, List.set_cons_succ, List.set_cons_zero]
      refine wpAnyH_take_l 2 (v := ?v2) rfl rfl (by kernel_rfl) (by kernel_rfl) (by kernel_rfl) (fun _ _ _ h => h) ?h2 (by assumption) ?r2
      case h2 => (intro w hSw; (try dsimp only at hSw); go_simp; try rfl)
      case' r2 => simp only [setD, List.set_cons_succ, List.set_cons_zero]
      refine wpAnyH_take_l 3 (v := ?v3) rfl rfl (by kernel_rfl) (by kernel_rfl) (by kernel_rfl) (fun _ _ _ h => h) ?h3 (by assumption) ?r3
      case h3 => (intro w hSw; (try dsimp only at hSw); go_simp; try rfl)
      case' r3 => simp only [setD, List.set_cons_succ, List.set_cons_zero]
      refine wpAnyH_take_l 4 (v := ?v4) rfl rfl (by kernel_rfl) (by kernel_rfl) (by kernel_rfl) (fun _ _ _ h => h) ?h4 (by assumption) ?r4
      case h4 => (intro w hSw; (try dsimp only at hSw); go_simp; try rfl)
      case' r4 => simp only [setD, List.set_cons_succ, List.set_cons_zero]
      refine wpAnyH_take_l 5 (v := ?v5) rfl rfl (by kernel_rfl) (by kernel_rfl) (by kernel_rfl) (fun _ _ _ h => h) ?h5 (by assumption) ?r5
      case h5 => (intro w hSw; (try dsimp only at hSw); go_simp; try rfl)
      case' r5 => simp only [setD, List.set_cons_succ, List.set_cons_zero]
      clear g0 r0 r1 z0 z1 z2 z3 n3 q0 q1
      refine wpAnyH_one 6 rfl rfl (by kernel_rfl) (fun K hK => ?_)
      have hK2 := hK.out
      clear hK
      simp only [setD, List.set_cons_succ, List.set_cons_zero] at hK2 ⊢
      go_simp
      refine (HRA.out _).mono ?_
      rintro en w4 ⟨rfl, hb4⟩
      dsimp only
      have hbw : Below W3.heap.size W3 w4 := below_seq (Below.refl _ _).drew hb4
      have x24 : w4.heap[w.heap.size + 2]? = some (refO (.int .i64 0) (.int .i64 0)) := (hbw.block _ (by have := HS3.out; omega)).trans HX2.out
      have r1 : w4.cell? ⟨w.heap.size + 1, 1, none⟩ = some (.int .i64 r.s) := (hbw.cell (p := ⟨w.heap.size + 1, 1, none⟩) (by show w.heap.size + 1 < _; have := HS3.out; omega)).trans HR1.out
      obtain ⟨q0, q1⟩ := HQC.out w4 (below_seq HB3.out hbw)
      refine hK2 _ _ ⟨r1, q0, q1⟩ (fun _ => ?_)
      clear hK2 K
      obtain ⟨z0, z1, z2, z3⟩ := refO_cells x24
      refine wpAnyH_one 7 rfl rfl (by kernel_rfl) (fun K hK => ?_)
      have hK2 := hK.out
      clear hK
      simp only [setD] at hK2 ⊢
      go_simp
      clear z0 z1 z2 z3
      obtain ⟨W5, hW5⟩ : ∃ W5, (w4.setCell ⟨w.heap.size + 2, 0, none⟩ (.int .i64 (q.n : Int))).setCell ⟨w.heap.size + 2, 1, none⟩ (.int .i64 (q.s + r.s)) = W5 := ⟨_, rfl⟩
      have hb5 : Below (w.heap.size + 2) w4 W5 := by rw [← hW5]; exact ((Below.refl (w.heap.size + 2) w4).setCell (p := ⟨w.heap.size + 2, 0, none⟩) (Nat.le_refl _) _).setCell (p := ⟨w.heap.size + 2, 1, none⟩) (Nat.le_refl _) _
      have x25 : W5.heap[w.heap.size + 2]? = some (refO (.int .i64 (q.n : Int)) (.int .i64 (q.s + r.s))) := by rw [← hW5]; exact refO_fill x24 _ _
      have hbw5 : Below (w.heap.size + 2) W3 W5 := (hbw.mono (by have := HS3.out; omega)).trans hb5
      have r1' : W5.cell? ⟨w.heap.size + 1, 1, none⟩ = some (.int .i64 r.s) := (hb5.cell (p := ⟨w.heap.size + 1, 1, none⟩) (by show w.heap.size + 1 < _; omega)).trans r1
      have hww : Below w.heap.size w W5 := HB3.out.trans (hbw5.mono (by omega))
      obtain ⟨q0', q1'⟩ := HQC.out W5 hww
      rw [hW5]
      refine hK2 undef W5 ⟨r1', q0', q1'⟩ (fun _ => ?_)
      clear hK2 K hW5
      refine wpAnyH_take_l 8 (v := ?v8) rfl rfl (by kernel_rfl) (by kernel_rfl) (by kernel_rfl) (fun _ _ _ h => h) ?h8 (by assumption) ?r8
      case h8 => (intro w hSw; (try dsimp only at hSw); go_simp; try rfl)
      case' r8 => simp only [setD, List.set_cons_succ, List.set_cons_zero]
      refine wpAnyH_done (by kernel_rfl) ?_ _
      clear hHeld r1 q0 q1 r1' q0' q1' hbw hbw5 hb5 hb4 x24
      go_wp2_with fail
      obtain ⟨u0, u1, _, _⟩ := refO_cells x25
      refine bodyPost_ret (v := .tuple #[rfV q.n (q.s + r.s), .bool true]) (by simp [results, Tryz.results66, go_sem, u0, u1]) rfl ?_
      exact ⟨rfl, hww⟩

/-! ### slices.Index -/
def idxE (x : ByteArray) : List ByteArray → Int → Int
  | [], _ => -1
  | y :: r, j => if y = x then j else idxE x r (j + 1)
end Go.Proofs.YtjmnaibbljakaaaGreatDoor

/- Heads: After. -/
namespace Go.Proofs.YtjmnaibbljakaaaGreatDoor
open Go.RowKit Go.Deep Go.Shelf

/-- A list of numbers in memory. -/
structure IntSl (w : World) (pa : Option Addr) (pn : Nat) (xs : List Int) : Prop where
  len : pn = xs.length
  get : ∀ (j : Nat) (x : Int), xs[j]? = some x → ∃ b o, pa = some ⟨b, o, none⟩ ∧ b < w.heap.size ∧ w.cell? ⟨b, o + j, none⟩ = some (.int .i64 x)
theorem IntSl.to {w w' : World} {pa : Option Addr} {pn : Nat} {xs : List Int} (h : IntSl w pa pn xs) (hb : Below w.heap.size w w') : IntSl w' pa pn xs :=
  ⟨h.len, fun j x hj => by
    obtain ⟨b, o, e, hl, hc⟩ := h.get j x hj
    exact ⟨b, o, e, Nat.lt_of_lt_of_le hl hb.size, (hb.cell (p := ⟨b, _, none⟩) hl).trans hc⟩⟩
/-- Where a path leads. -/
def aftE (ns : List GNode) : GRef → List Int → Option GRef
  | r, [] => some r
  | r, i :: l => match nextE ns r i with
    | some q => aftE ns q l
    | none => none
theorem next_in {ns : List GNode} (hw : wfG ns) (hs : smallG ns) {r q : GRef} {i : Int} (h : nextE ns r i = some q) : q.n < ns.length ∧ -1000000 ≤ q.s - r.s ∧ q.s - r.s ≤ 1000000 := by
  unfold nextE at h
  split at h
  · next g hg =>
    split at h
    · split at h
      · next p hp =>
        obtain rfl := Option.some.inj h
        have hm := List.mem_of_getElem? hp
        have h1 := hw r.n g hg p hm
        have h2 := (hs g (List.mem_of_getElem? hg)).2 p hm
        exact ⟨h1, by simp only; omega, by simp only; omega⟩
      · cases h
    · cases h
  · cases h

end Go.Proofs.YtjmnaibbljakaaaGreatDoor

/- Heads: the priorities of references, one after the other. -/
namespace Go.Proofs.YtjmnaibbljakaaaGreatDoor
open Go.RowKit Go.Deep Go.Shelf
attribute [local go_sem] Oper.semAt_some

def prioE (ns : List GNode) (r : GRef) : Option Int := match ns[r.n]? with
  | some g => if actI g.k = true then some (g.p + r.s) else none
  | none => none
def priosE (ns : List GNode) (rs : List GRef) : List Int := rs.filterMap (prioE ns)
theorem prios_snoc {ns : List GNode} {rs : List GRef} {j : Nat} {r : GRef} (h : rs[j]? = some r) : priosE ns (rs.take (j + 1)) = priosE ns (rs.take j) ++ (prioE ns r).toList := by
  unfold priosE
  rw [take_snoc_get h, List.filterMap_append]
  congr 1
theorem prios_prefix (ns : List GNode) (rs : List GRef) (j : Nat) : priosE ns (rs.take j) <+: priosE ns rs := by
  refine ⟨priosE ns (rs.drop j), ?_⟩
  unfold priosE
  rw [← List.filterMap_append, List.take_append_drop]
theorem grown_of_below {w w' : World} (h : Below w.heap.size w w') : w.grownBy w' none := ⟨h.os, h.tape, h.output, h.size, fun k hk _ => h.block k hk⟩
abbrev rfO (ra : Option Addr) (rn rc : Nat) : Obj := .cells #[.slice ra rn rc] 33

end Go.Proofs.YtjmnaibbljakaaaGreatDoor

/- Heads: fold over the priorities; Lowest. -/
namespace Go.Proofs.YtjmnaibbljakaaaGreatDoor
open Go.RowKit Go.Deep Go.Shelf
attribute [local go_sem] Oper.semAt_some

/-- The least number of a list. -/
def minF : List Int → Int
  | [] => 0
  | x :: l => l.foldl min x
theorem minF_snoc (pre : List Int) (x : Int) : minF (pre ++ [x]) = if pre.isEmpty = true then x else min (minF pre) x := by
  cases pre with
  | nil => rfl
  | cons y r => simp [minF, List.foldl_append]
/-- What Lowest answers. -/
def lowV (l : List Int) : Value := .tuple #[.int .i64 (minF l), .bool (!l.isEmpty)]
end Go.Proofs.YtjmnaibbljakaaaGreatDoor

/- Processes: the reference's Texts and Same. -/
namespace Go.Proofs.YtjmnaibbljakaaaGreatDoor
open Go.RowKit Go.Deep Go.Shelf

set_option maxHeartbeats 1000000 in
/-- Lists of texts, compared by the reference. -/
theorem ptexts_any (B : Nat → Prop) (v v' : Value) (ls ls' : List ByteArray) (w : World) (h : StrSl B w v ls) (h' : StrSl B w v' ls') :
    Calls Tryz.prog 49 #[v, v'] w fun e w' => e = .returned (.bool (decide (ls = ls'))) ∧ Drew w w' := by
  obtain ⟨pa, len, c, rfl, hlen, hm, hget⟩ := h.open
  obtain ⟨pa', len', c', rfl, hlen', hm', hget'⟩ := h'.open
  have HG := Lib.hid hget
  have HG' := Lib.hid hget'
  clear hget hget' h h'
  by_cases hl : len = len'
  · subst hl
    go_enter Tryz.func49, Tryz.ntmps49
    go_wp2_with fail
    go_loopw [5] (fun i wr => ∃ (j : Nat), i = .int .i64 j ∧ j ≤ len ∧ Hid (ls.take j = ls'.take j) ∧ Drew w wr) (fun i _ => len - (intOf i).toNat)
    case atStart => exact ⟨0, rfl, by omega, Lib.hid (by simp), Drew.refl _⟩
    case round =>
      obtain ⟨j, rfl, hj, HT, hd⟩ := hrel
      by_cases hlt : j < len
      · obtain ⟨s, hs⟩ : ∃ s, ls[j]? = some s := ⟨_, List.getElem?_eq_getElem (by rw [← hlen.out]; exact hlt)⟩
        obtain ⟨s', hs'⟩ : ∃ s', ls'[j]? = some s' := ⟨_, List.getElem?_eq_getElem (by rw [← hlen'.out]; exact hlt)⟩
        obtain ⟨_, kb, ko, rfl, hkb, hc⟩ := HG.out j s hs
        obtain ⟨_, kb', ko', rfl, hkb', hc'⟩ := HG'.out j s' hs'
        replace hc : wr.cell? ⟨kb, ko + j, none⟩ = some (.string s) := by obtain ⟨m, rfl⟩ := hd; exact hc
        replace hc' : wr.cell? ⟨kb', ko' + j, none⟩ = some (.string s') := by obtain ⟨m, rfl⟩ := hd; exact hc'
        by_cases hss : s = s'
        · subst hss
          have hn : Hid (ls.take (j + 1) = ls'.take (j + 1)) := Lib.hid (by rw [take_snoc_get hs, take_snoc_get hs', HT.out])
          clear hs hs'
          go_wp2_with fail
          go_quiet (fail)
          go_wp2_with fail
          go_roundw
          case rel => exact ⟨j + 1, by go_num, by omega, hn, hd.more _⟩
          case measure => simp [intOf]; omega
        · have hne : Hid (ls ≠ ls') := Lib.hid (fun e => hss (by rw [e, hs'] at hs; exact (Option.some.inj hs).symm))
          have hb1 := str_ne hss
          have hb2 : (s.toList == s'.toList) = false := by simpa using hb1
          clear hs hs' hss
          go_wp2_with fail
          go_quiet (fail)
          go_wp2_with fail
          go_ret
          exact ⟨ret_bool (by simp [hne.out]), hd.more _⟩
      · obtain rfl : j = len := by omega
        go_wp2_with fail
        go_ret
        refine ⟨ret_bool ?_, hd⟩
        have := HT.out
        rw [List.take_of_length_le (by rw [hlen.out]; exact Nat.le_refl _), List.take_of_length_le (by rw [hlen'.out]; exact Nat.le_refl _)] at this
        simp [this]
  · have hl' : (len != len') = true := by simpa using hl
    have hne : ls ≠ ls' := fun e => hl (by rw [hlen.out, hlen'.out, e])
    have HN := Lib.hid hne
    clear hne
    go_enter Tryz.func49, Tryz.ntmps49
    go_wp2_with fail
    go_ret
    exact ⟨ret_bool (by simp [HN.out]), Drew.refl _⟩

end Go.Proofs.YtjmnaibbljakaaaGreatDoor

/- Graphs: the law's comparison of a graph with the reference's. -/
namespace Go.Proofs.YtjmnaibbljakaaaGreatDoor
open Go.RowKit Go.Deep Go.Shelf

end Go.Proofs.YtjmnaibbljakaaaGreatDoor

/- Graphs: the reference's Few (lists of few right types). -/
namespace Go.Proofs.YtjmnaibbljakaaaGreatDoor
open Go.RowKit Go.Deep Go.Shelf

/-- Few types, all of them small and right. -/
def fewB (ts : List Ty) (m z : Nat) : Bool := decide (ts.length ≤ m) && ts.all (fun t => smallB t z)
theorem fewB_all {ts : List Ty} {m z : Nat} (h : fewB ts m z = true) : ts.length ≤ m ∧ ∀ t ∈ ts, t.size ≤ z ∧ t.depth ≤ 150 ∧ rightE t = 0 := by
  simp only [fewB, Bool.and_eq_true, decide_eq_true_eq, List.all_eq_true, smallB, Ty.few] at h
  exact ⟨h.1, fun t ht => by have := h.2 t ht; exact ⟨this.1.1, by omega, this.2⟩⟩
set_option maxHeartbeats 4000000 in
set_option maxRecDepth 100000 in
theorem few_any (ts : List Ty) (m z : Nat) (hz : z ≤ 1000000) (v : Value) (w : World) (hts : TySl (fun k => k < w.heap.size) w v ts) :
    Calls Tryz.prog 16 #[v, .int .i64 (m : Int), .int .i64 (z : Int)] w fun e w' => e = .returned (.bool (fewB ts m z)) ∧ Below w.heap.size w w' := by
  obtain ⟨pa, len, c, rfl, hlen, hmx, hget⟩ := hts.open
  have HG := Lib.hid hget
  have HL := Lib.hid hlen.out
  clear hget hts hlen
  by_cases hlm : len ≤ m
  · have hd1 : decide (m < len) = false := by simpa using hlm
    have hd2 : decide ((m : Int) < (len : Int)) = false := by simpa using hlm
    have HLM := Lib.hid hlm
    clear hlm
    go_enter Tryz.func16, Tryz.ntmps16
    go_wp2_with fail
    go_loopw [7] (fun i wr => ∃ j : Nat, i = .int .i64 j ∧ j ≤ len ∧ Hid ((ts.take j).all (fun t => smallB t z) = true) ∧ Below w.heap.size w wr) (fun i _ => len - (intOf i).toNat)
    case atStart => exact ⟨0, rfl, by omega, Lib.hid (by simp), Below.refl _ _⟩
    case round =>
      obtain ⟨j, rfl, hj, HT, hb⟩ := hrel
      by_cases hlt : j < len
      · obtain ⟨t, ht⟩ : ∃ t, ts[j]? = some t := ⟨_, List.getElem?_eq_getElem (by rw [← HL.out]; exact hlt)⟩
        obtain ⟨kb, ko, rfl, hkb, hty⟩ := HG.out j t ht
        obtain ⟨lv', kv', ⟨d0, d1, d2, d3, d4, d5⟩, hval⟩ := (hty.keep (hb.keeps'.mono (fun k hk => hk))).load
        have HS := Lib.hid (small_any t z hz _ wr (TyVal.mono (C := fun k => k < wr.heap.size) (fun k hk => Nat.lt_of_lt_of_le hk hb.size) hval))
        obtain ⟨sb, hsb⟩ : ∃ b, smallB t z = b := ⟨_, rfl⟩
        rw [hsb] at HS
        have HN : Hid ((ts.take (j + 1)).all (fun t => smallB t z) = sb) := Lib.hid (by rw [take_snoc_get ht, List.all_append, HT.out, ← hsb]; simp)
        clear hsb ht hval hty
        cases sb
        · go_wp2_with (go_at_call 8; refine HS.out.mono ?_; rintro e w1 ⟨rfl, hb1⟩)
          go_ret
          refine ⟨ret_bool ?_, below_seq hb hb1⟩
          have h := HN.out
          cases hf : fewB ts m z with
          | false => rfl
          | true =>
            simp only [fewB, Bool.and_eq_true, List.all_eq_true] at hf
            rw [List.all_eq_true.2 (fun t ht => hf.2 t (List.mem_of_mem_take ht))] at h
            cases h
        · go_wp2_with (go_at_call 8; refine HS.out.mono ?_; rintro e w1 ⟨rfl, hb1⟩)
          go_roundw
          case rel => exact ⟨j + 1, by go_num, by omega, HN, below_seq hb hb1⟩
          case measure => simp [intOf]; omega
      · obtain rfl : j = len := by omega
        have hf : fewB ts m z = true := by
          have h := HT.out
          rw [List.take_of_length_le (by rw [HL.out]; exact Nat.le_refl _)] at h
          rw [fewB, h, Bool.and_true, decide_eq_true_eq, ← HL.out]; exact HLM.out
        have HF := Lib.hid hf
        clear hf
        go_wp2_with fail
        go_ret
        exact ⟨ret_bool HF.out.symm, hb⟩
  · have hf : fewB ts m z = false := by
      rw [fewB, decide_eq_false (by rw [← HL.out]; exact hlm)]; rfl
    rw [hf]
    clear hf
    go_enter Tryz.func16, Tryz.ntmps16
    go_wp2_with fail
    go_ret
    exact ⟨rfl, Below.refl _ _⟩
end Go.Proofs.YtjmnaibbljakaaaGreatDoor

/- Graphs: the law that the program's graph is the reference's. -/
namespace Go.Proofs.YtjmnaibbljakaaaGreatDoor
open Go.RowKit Go.Deep Go.Shelf

theorem pnods_nx (e : ByteArray → Nat) : ∀ (l : List Ty) (i : Nat), ∀ x ∈ Ty.pnods i e l, x.nx.length ≤ Ty.sizes l
  | [], i, x, hx => by rw [Ty.pnods] at hx; cases hx
  | t :: r, i, x, hx => by
    rw [Ty.pnods] at hx
    rw [Ty.sizes]
    rcases List.mem_append.1 hx with hx | hx
    · have := pnod_nx t i e x hx; omega
    · have := pnods_nx e r _ x hx; omega
/-- What few right types give. -/
theorem few_facts {ts : List Ty} {m z : Nat} (h : fewB ts m z = true) (hz : z ≤ 1000) : ts.length ≤ m ∧ Ty.sizes ts ≤ m * z ∧ Ty.depths ts ≤ 150 ∧ Ty.okgs ts ∧ (∀ t ∈ ts, nodeR [] 0 false t = 0) ∧ ∀ t ∈ ts, t.depth ≤ 800 := by
  obtain ⟨hl, ha⟩ := fewB_all h
  have hsz : ∀ l : List Ty, (∀ t ∈ l, t.size ≤ z) → Ty.sizes l ≤ l.length * z := by
    intro l
    induction l with
    | nil => intro _; simp [Ty.sizes]
    | cons t r ih =>
      intro hh
      have h1 := hh t (by simp)
      have h2 := ih (fun u hu => hh u (by simp [hu]))
      rw [Ty.sizes, List.length_cons, Nat.add_mul]
      omega
  have hdp : ∀ l : List Ty, (∀ t ∈ l, t.depth ≤ 150) → Ty.depths l ≤ 150 := by
    intro l
    induction l with
    | nil => intro _; simp [Ty.depths]
    | cons t r ih =>
      intro hh
      have h1 := hh t (by simp)
      have h2 := ih (fun u hu => hh u (by simp [hu]))
      rw [Ty.depths]
      omega
  refine ⟨hl, Nat.le_trans (hsz ts (fun t ht => (ha t ht).1)) (Nat.mul_le_mul_right z hl), hdp ts (fun t ht => (ha t ht).2.1), Ty.okgs_of (fun t ht => okg_of t [] 0 false (right_node (ha t ht).2.2) (by have := (ha t ht).1; omega)), fun t ht => right_node (ha t ht).2.2, fun t ht => by have := (ha t ht).2.1; omega⟩

end Go.Proofs.YtjmnaibbljakaaaGreatDoor

/- Heads: the graph of few right types is small; raised references. -/
namespace Go.Proofs.YtjmnaibbljakaaaGreatDoor
open Go.RowKit Go.Deep Go.Shelf

theorem pref_sh : ∀ (t : Ty) (i : Nat) (e : ByteArray → Nat), t.sok → -1000000 ≤ (t.pref i e).s ∧ (t.pref i e).s ≤ 1000000 := by
  refine Ty.ind ?_
  intro k p n s ls ts ih i e h
  simp only [Ty.sok] at h
  rw [Ty.pref]
  by_cases h8 : k = 8
  · rw [if_pos h8]
    match ts, ih, h with
    | [], _, _ => rw [Ty.pref1]; exact ⟨by show (-1000000 : Int) ≤ 0; decide, by show (0 : Int) ≤ 1000000; decide⟩
    | u :: r, ih, h => rw [Ty.pref1]; simp only [Ty.soks] at h; exact ih u (by simp) _ _ h.2.2.1
  · rw [if_neg h8]
    split
    · exact h.1
    · exact ⟨by show (-1000000 : Int) ≤ 0; decide, by show (0 : Int) ≤ 1000000; decide⟩
theorem prefs_sh (e : ByteArray → Nat) : ∀ (l : List Ty) (i : Nat), Ty.soks l → ∀ q ∈ Ty.prefs i e l, -1000000 ≤ q.s ∧ q.s ≤ 1000000
  | [], _, _, q, hq => by rw [Ty.prefs] at hq; cases hq
  | t :: r, i, h, q, hq => by
    rw [Ty.prefs] at hq
    simp only [Ty.soks] at h
    rcases List.mem_cons.1 hq with rfl | hq
    · exact pref_sh t i e h.1
    · exact prefs_sh e r _ h.2 q hq
theorem pnods_mem {x : GNode} {e : ByteArray → Nat} : ∀ (l : List Ty) (i : Nat), x ∈ Ty.pnods i e l → ∃ t ∈ l, ∃ j, x ∈ t.pnod j e
  | [], i, h => by rw [Ty.pnods] at h; cases h
  | t :: r, i, h => by
    rw [Ty.pnods] at h
    rcases List.mem_append.1 h with h | h
    · exact ⟨t, by simp, i, h⟩
    · obtain ⟨u, hu, j, hj⟩ := pnods_mem r _ h
      exact ⟨u, by simp [hu], j, hj⟩
theorem pnod_sh : ∀ (t : Ty) (i : Nat) (e : ByteArray → Nat), t.sok → ∀ x ∈ t.pnod i e, ∀ q ∈ x.nx, -1000000 ≤ q.s ∧ q.s ≤ 1000000 := by
  refine Ty.ind ?_
  intro k p n s ls ts ih i e h x hx
  simp only [Ty.sok] at h
  rw [Ty.pnod] at hx
  by_cases h8 : k = 8
  · rw [if_pos h8] at hx
    match ts, ih, h, hx with
    | [], _, _, hx => rw [Ty.pnod1] at hx; cases hx
    | u :: r, ih, h, hx =>
      rw [Ty.pnod1] at hx
      simp only [Ty.soks] at h
      exact ih u (by simp) _ _ h.2.2.1 x hx
  · rw [if_neg h8] at hx
    by_cases h9 : k = 9
    · rw [if_pos h9] at hx; cases hx
    · rw [if_neg h9] at hx
      rcases List.mem_cons.1 hx with rfl | hx
      · exact prefs_sh e ts _ h.2.2
      · obtain ⟨u, hu, j, hj⟩ := pnods_mem ts _ hx
        exact ih u hu j e (Ty.soks_mem h.2.2 u hu) x hj
theorem pnod_ls : ∀ (t : Ty) (names : List ByteArray) (g : Nat) (se : Bool) (i : Nat) (e : ByteArray → Nat), nodeR names g se t = 0 → ∀ x ∈ t.pnod i e, x.ls.length ≤ t.size := by
  refine Ty.ind ?_
  intro k p n s ls ts ih names g se i e h x hx
  obtain ⟨hs, h2⟩ := nodeR_shape h
  have hlen := Ty.length_sizes ts
  rw [Ty.size]
  rw [Ty.pnod] at hx
  by_cases h8 : k = 8
  · subst h8
    rw [if_pos rfl] at hx
    rw [if_neg (by decide), if_pos rfl] at h2
    match ts, ih, h2, hx with
    | [], _, _, hx => rw [Ty.pnod1] at hx; cases hx
    | u :: r, ih, h2, hx =>
      obtain ⟨se', hu⟩ := kidsR_all h2 u (by simp)
      rw [Ty.pnod1] at hx
      have := ih u (by simp) _ _ _ _ _ hu x hx
      rw [Ty.sizes]
      omega
  · rw [if_neg h8] at hx
    by_cases h9 : k = 9
    · rw [if_pos h9] at hx; cases hx
    · rw [if_neg h9] at hx
      rw [if_neg h9, if_neg h8] at h2
      rcases List.mem_cons.1 hx with rfl | hx
      · have hp := shape_ls hs
        simp only
        omega
      · obtain ⟨u, hu, j, hj⟩ := pnods_mem ts _ hx
        obtain ⟨se', ht⟩ := kidsR_all h2 u hu
        have := ih u hu _ _ _ j e ht x hj
        have := Ty.size_mem hu
        omega

theorem small_all {ts : List Ty} (h : ∀ t ∈ ts, nodeR [] 0 false t = 0) : smallG (gNodes ts) := by
  intro g hg
  obtain ⟨t, ht, j, hj⟩ := pnods_mem ts 0 hg
  have h1 := pnod_kp t [] 0 false j _ (h t ht) g hj
  exact ⟨h1.2.2, pnod_sh t j _ (sok_of t [] 0 false (h t ht)) g hj⟩
theorem labels_all {ts : List Ty} (h : ∀ t ∈ ts, nodeR [] 0 false t = 0) : ∀ g ∈ gNodes ts, g.ls.length ≤ Ty.sizes ts := by
  intro g hg
  obtain ⟨t, ht, j, hj⟩ := pnods_mem ts 0 hg
  have := pnod_ls t [] 0 false j _ (h t ht) g hj
  have := Ty.size_mem ht
  omega
theorem hnods_wf (L : Nat) : ∀ (l : List Ty) (i : Nat), (∀ t ∈ l, nodeR [] 0 false t = 0) → i + Ty.gcnts l ≤ L → ∀ x ∈ Ty.pnods i (fun _ => 0) l, ∀ r ∈ x.nx, r.n < L
  | [], i, _, _, x, hx => by rw [Ty.pnods] at hx; cases hx
  | t :: l, i, h, hi, x, hx => by
    rw [Ty.pnods] at hx
    rw [Ty.gcnts] at hi
    rcases List.mem_append.1 hx with hx | hx
    · exact (pnod_wf L t [] 0 false i (fun _ => 0) (h t (by simp)) (Nat.le_refl _) (fun x hx => absurd hx (varR_nil 0 x)) (fun x hx => by cases hx) (by omega)).2 x hx
    · exact hnods_wf L l _ (fun u hu => h u (by simp [hu])) (by omega) x hx
theorem hwf_all {ts : List Ty} (h : ∀ t ∈ ts, nodeR [] 0 false t = 0) (hok : Ty.okgs ts) : wfG (gNodes ts) := by
  intro n g hg
  have hl : (gNodes ts).length = Ty.gcnts ts := by unfold gNodes; rw [pnods_ok _ _ hok]
  rw [hl]
  exact hnods_wf (Ty.gcnts ts) ts 0 h (by omega) g (List.mem_of_getElem? hg)
theorem prefs_wf (L : Nat) : ∀ (l : List Ty) (i : Nat), (∀ t ∈ l, nodeR [] 0 false t = 0) → i + Ty.gcnts l ≤ L → ∀ r ∈ Ty.prefs i (fun _ => 0) l, r.n < L
  | [], i, _, _, r, hr => by rw [Ty.prefs] at hr; cases hr
  | t :: l, i, h, hi, r, hr => by
    rw [Ty.prefs] at hr
    rw [Ty.gcnts] at hi
    rcases List.mem_cons.1 hr with rfl | hr
    · exact (pnod_wf L t [] 0 false i (fun _ => 0) (h t (by simp)) (Nat.le_refl _) (fun x hx => absurd hx (varR_nil 0 x)) (fun x hx => by cases hx) (by omega)).1
    · exact prefs_wf L l _ (fun u hu => h u (by simp [hu])) (by omega) r hr
theorem refs_all {ts : List Ty} (h : ∀ t ∈ ts, nodeR [] 0 false t = 0) (hok : Ty.okgs ts) : ∀ r ∈ gRefs ts, r.n < (gNodes ts).length ∧ -1000000 ≤ r.s ∧ r.s ≤ 1000000 := by
  intro r hr
  have hl : (gNodes ts).length = Ty.gcnts ts := by unfold gNodes; rw [pnods_ok _ _ hok]
  have hsk : ∀ l : List Ty, (∀ t ∈ l, nodeR [] 0 false t = 0) → Ty.soks l := by
    intro l
    induction l with
    | nil => intro _; simp [Ty.soks]
    | cons t r ih => intro hh; rw [Ty.soks]; exact ⟨sok_of t [] 0 false (hh t (by simp)), ih (fun u hu => hh u (by simp [hu]))⟩
  refine ⟨?_, prefs_sh _ ts 0 (hsk ts h) r hr⟩
  rw [hl]
  exact prefs_wf (Ty.gcnts ts) ts 0 h (by omega) r hr

/-! ### Raised references -/
def upR (k : Int) (r : GRef) : GRef := ⟨r.n, r.s + k⟩
theorem next_up (ns : List GNode) (k : Int) (r : GRef) (i : Int) : nextE ns (upR k r) i = (nextE ns r i).map (upR k) := by
  unfold nextE
  show (match ns[r.n]? with | some g => _ | none => none) = _
  cases ns[r.n]? with
  | none => rfl
  | some g =>
    dsimp only
    split
    · cases g.nx[i.toNat]? with
      | none => rfl
      | some q => simp only [upR, Option.map_some, Int.add_assoc]
    · rfl
theorem aft_up (ns : List GNode) (k : Int) : ∀ (l : List Int) (r : GRef), aftE ns (upR k r) l = (aftE ns r l).map (upR k)
  | [], r => rfl
  | i :: l, r => by
    rw [aftE, aftE, next_up]
    cases nextE ns r i with
    | none => rfl
    | some q => exact aft_up ns k l q
theorem aft_in {ns : List GNode} (hw : wfG ns) (hs : smallG ns) : ∀ (l : List Int) (r q : GRef), aftE ns r l = some q → -1000000 * (l.length : Int) ≤ q.s - r.s ∧ q.s - r.s ≤ 1000000 * (l.length : Int)
  | [], r, q, h => by
    obtain rfl := Option.some.inj h
    simp
  | i :: l, r, q, h => by
    rw [aftE] at h
    split at h
    · next p hp =>
      have h1 := next_in hw hs hp
      have h2 := aft_in hw hs l p q h
      rw [List.length_cons]
      omega
    · cases h
theorem prio_up (ns : List GNode) (k : Int) (r : GRef) : prioE ns (upR k r) = (prioE ns r).map (· + k) := by
  unfold prioE
  show (match ns[r.n]? with | some g => _ | none => none) = _
  cases ns[r.n]? with
  | none => rfl
  | some g =>
    dsimp only
    split
    · simp only [upR, Option.map_some, Int.add_assoc]
    · rfl
theorem prios_up (ns : List GNode) (k : Int) (rs : List GRef) : priosE ns (rs.map (upR k)) = (priosE ns rs).map (· + k) := by
  induction rs with
  | nil => rfl
  | cons r l ih =>
    have h : ∀ (r : GRef) (l : List GRef), priosE ns (r :: l) = (prioE ns r).toList ++ priosE ns l := fun r l => by
      unfold priosE
      rw [List.filterMap_cons]
      cases prioE ns r <;> rfl
    rw [List.map_cons, h, h, ih, prio_up, List.map_append]
    cases prioE ns r <;> rfl
theorem minF_up (k : Int) (l : List Int) (h : l ≠ []) : minF (l.map (· + k)) = minF l + k := by
  match l, h with
  | x :: l, _ =>
    simp only [List.map_cons, minF]
    induction l generalizing x with
    | nil => rfl
    | cons y r ih =>
      simp only [List.map_cons, List.foldl_cons]
      rw [show min (x + k) (y + k) = min x y + k by omega]
      exact ih _ (by simp)
theorem prios_le {ns : List GNode} (hs : smallG ns) {rs : List GRef} (hr : ∀ r ∈ rs, -1000000 ≤ r.s ∧ r.s ≤ 1000000) : ∀ x ∈ priosE ns rs, -2000000 ≤ x ∧ x ≤ 2000000 := by
  intro x hx
  obtain ⟨r, hm, h⟩ := List.mem_filterMap.1 hx
  unfold prioE at h
  split at h
  · next g hg =>
    split at h
    · obtain rfl := Option.some.inj h
      have h1 := (hs g (List.mem_of_getElem? hg)).1
      have h2 := hr r hm
      omega
    · cases h
  · cases h
theorem minF_mem {l : List Int} (h : l ≠ []) : minF l ∈ l := by
  match l, h with
  | x :: l, _ =>
    simp only [minF]
    induction l generalizing x with
    | nil => simp
    | cons y r ih =>
      rw [List.foldl_cons]
      have := ih (min x y) (by simp)
      rcases List.mem_cons.1 this with h | h
      · rw [h]
        rcases Int.le_total x y with h1 | h1
        · rw [Int.min_eq_left h1]; simp
        · rw [Int.min_eq_right h1]; simp
      · exact List.mem_cons_of_mem _ (List.mem_cons_of_mem _ h)
end Go.Proofs.YtjmnaibbljakaaaGreatDoor
