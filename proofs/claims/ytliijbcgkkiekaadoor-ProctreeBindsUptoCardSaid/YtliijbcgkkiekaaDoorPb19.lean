/- Processes and programs: those that came in as arguments. (and what follows from it) -/
import Derived.Test.YtliijbcgkkiekaaDoorPb18
import Derived.Test.YtliijbcgkkiekaaDoorPb3
import Derived.Test.YtliijbcgkkiekaaDoorPb7
import Derived.Test.YtliijbcgkkiekaaDoorPb14

/- Processes and programs: those that came in as arguments. -/
namespace Go.Proofs.YtliijbcgkkiekaaDoor
open Go.ChangeShapes Go.WideShapes Go.ChangeAt Go.RowKit Go.Deep

mutual
/-- All kinds are numbers that a word holds, also those of the types. -/
def Pr.fine : Pr → Prop
  | .mk k _ _ _ _ t ps => In64 k ∧ t.fine ∧ Pr.fines ps
def Pr.fines : List Pr → Prop
  | [] => True
  | p :: r => p.fine ∧ Pr.fines r
end
theorem Pr.fine_k {p : Pr} (h : p.fine) : In64 p.k := by cases p; exact h.1
theorem Pr.fine_t {p : Pr} (h : p.fine) : p.t.fine := by cases p; exact h.2.1
theorem Pr.fines_mem : ∀ {l : List Pr}, Pr.fines l → ∀ u ∈ l, u.fine
  | [], _, _, hu => by cases hu
  | t :: r, h, u, hu => by
    rcases List.mem_cons.1 hu with rfl | hu
    · exact h.1
    · exact Pr.fines_mem h.2 u hu
theorem Pr.fine_ps {p : Pr} (h : p.fine) : ∀ u ∈ p.ps, u.fine := by cases p; exact Pr.fines_mem h.2.2
theorem Pr.fines_of : ∀ l : List Pr, (∀ u ∈ l, u.fine) → Pr.fines l := by
  intro l
  induction l with
  | nil => intro _; trivial
  | cons u r ihr => intro hh; exact ⟨hh u (by simp), ihr (fun v hv => hh v (by simp [hv]))⟩
def Df.fine (d : Df) : Prop := (∀ a ∈ d.ms, a.t.fine) ∧ d.b.fine
def Pg.fine (g : Pg) : Prop := (∀ d ∈ g.ds, d.fine) ∧ g.m.fine

/-- A value is a process that lies in w. -/
def PLies (w : World) (v : Value) (p : Pr) : Prop := PrVal (fun k => k < w.heap.size) w v p
theorem PLies.to {w w' : World} {v : Value} {p : Pr} (h : PLies w v p) (hb : Below w.heap.size w w') : PLies w' v p :=
  PrVal.mono (fun _ hk => Nat.lt_of_lt_of_le hk hb.size) (PrVal.to (fun _ hk => hk) hb h)
/-- A value is a program that lies in w. -/
def GLies (w : World) (v : Value) (g : Pg) : Prop := PgVal (fun k => k < w.heap.size) w v g
theorem GLies.to {w w' : World} {v : Value} {g : Pg} (h : GLies w v g) (hb : Below w.heap.size w w') : GLies w' v g :=
  PgVal.mono (fun _ hk => Nat.lt_of_lt_of_le hk hb.size) (PgVal.to (fun _ hk => hk) hb h)

/-- One field of a struct. -/
theorem fld {H : Type} {enc : TypeId × Value → H} {P : Program} {w : World} {base : Nat} {spare : Nat → Bool} {held : Bool} {n : Nat} {cs : List Value} {fs : Array Field} {xs : List (DataW H × List MemPlace)} (hx : xs.length = fs.size)
    (hf : ∀ (i : Nat) (f : Field), fs[i]? = some f → DataW.trod enc P w base spare held n f.type ((cs.drop f.offset).take (P.cellsOf f.type)) = xs[i]?) (i : Nat) {f : Field} (hi : fs[i]? = some f) {c : Nat} (hc : P.cellsOf f.type = c) {ds : List Value} (hd : (cs.drop f.offset).take c = ds) {t : TypeId} (ht : f.type = t) :
    ∃ y, DataW.trod enc P w base spare held n t ds = some y := by
  subst ht hd hc
  have hlt := (Array.getElem?_eq_some_iff.1 hi).1
  rw [hf i f hi]
  exact ⟨_, List.getElem?_eq_getElem (by omega)⟩

/-- The elements of a slice, each of which is told from its cells. -/
theorem rows_of {H : Type} {enc : TypeId × Value → H} {P : Program} {w : World} {base : Nat} {spare : Nat → Bool} {held : Bool} {e : TypeId} {fuel len c : Nat} {a : Option Addr} {α : Type} (Q : α → Nat → Nat → Prop) (hc : 0 < c)
    (hi : ∀ i, i < len → ∃ ad n cs y, a = some ad ∧ n < fuel ∧ w.cells? base (ad.add (i * c)) c = some cs ∧ DataW.trod enc P w base spare held n e cs = some y)
    (hel : ∀ n cs y, n < fuel → cs.length = c → DataW.trod enc P w base spare held n e cs = some y → ∃ x : α, ∀ b o, b < w.heap.size → (∀ j v, cs[j]? = some v → w.cell? ⟨b, o + j, none⟩ = some v) → Q x b o) :
    ∃ xs : List α, xs.length = len ∧ (xs = [] ∨ ∃ b o, a = some ⟨b, o, none⟩ ∧ b < w.heap.size ∧ ∀ j x, xs[j]? = some x → Q x b (o + j * c)) ∧ ∀ x ∈ xs, ∃ b o, Q x b o := by
  have each : ∀ i, i < len → ∃ x : α, ∃ b o, a = some ⟨b, o, none⟩ ∧ b < w.heap.size ∧ Q x b (o + i * c) := by
    intro i hin
    obtain ⟨ad, n, cs, y, rfl, hn, hcs, ht⟩ := hi i hin
    obtain ⟨ad0, n0, cs0, y0, e0, _, hcs0, ht0⟩ := hi 0 (by omega)
    obtain rfl := Option.some.inj e0
    obtain ⟨_, hl, hat⟩ := World.cells?_some hcs
    obtain ⟨_, hl0, hat0⟩ := World.cells?_some hcs0
    have h0 := hat0 0 hc
    rw [Nat.zero_mul, add_zero', add_zero', List.getElem?_eq_getElem (by omega)] at h0
    obtain ⟨e1, e2⟩ := addr_of_cell h0
    obtain ⟨x, hx⟩ := hel n cs y hn hl ht
    rw [e1] at hat
    simp only [add_block] at hat
    exact ⟨x, ad.block, ad.off, by rw [← e1], e2, hx _ _ e2 (fun j v hj => by
      have hj' : j < c := by rw [← hl]; exact (List.getElem?_eq_some_iff.1 hj).1
      rw [hat j hj', hj])⟩
  obtain ⟨xs, hn, hxs⟩ := choose_list _ len each
  refine ⟨xs, hn, ?_, fun x hx => ?_⟩
  · cases xs with
    | nil => exact .inl rfl
    | cons x0 r =>
      obtain ⟨b, o, rfl, hb, _⟩ := hxs 0 x0 rfl
      refine .inr ⟨b, o, rfl, hb, fun j x hj => ?_⟩
      obtain ⟨b', o', e, _, hq⟩ := hxs j x hj
      simp only [Option.some.injEq, Addr.mk.injEq, and_true] at e
      obtain ⟨rfl, rfl⟩ := e
      exact hq
  · obtain ⟨i, hi'⟩ := List.mem_iff_getElem?.1 hx
    obtain ⟨b, o, _, _, hq⟩ := hxs i x hi'
    exact ⟨_, _, hq⟩

theorem list3 {α : Type} {l : List α} (h : l.length = 3) : ∃ a b c, l = [a, b, c] := by
  match l, h with
  | [a, b, c], _ => exact ⟨a, b, c, rfl⟩
theorem list7 {α : Type} {l : List α} (h : l.length = 7) : ∃ a0 a1 a2 a3 a4 a5 a6, l = [a0, a1, a2, a3, a4, a5, a6] := by
  match l, h with
  | [a0, a1, a2, a3, a4, a5, a6], _ => exact ⟨_, _, _, _, _, _, _, rfl⟩
theorem list12 {α : Type} {l : List α} (h : l.length = 12) : ∃ a0 a1 a2 a3 a4 a5 a6 a7 a8 a9 a10 a11, l = [a0, a1, a2, a3, a4, a5, a6, a7, a8, a9, a10, a11] := by
  match l, h with
  | [a0, a1, a2, a3, a4, a5, a6, a7, a8, a9, a10, a11], _ => exact ⟨_, _, _, _, _, _, _, _, _, _, _, _, rfl⟩
theorem list13 {α : Type} {l : List α} (h : l.length = 13) : ∃ a r, l = a :: r ∧ r.length = 12 := by
  cases l with
  | nil => simp at h
  | cons a r => exact ⟨a, r, rfl, by simpa using h⟩
theorem list14 {α : Type} {l : List α} (h : l.length = 14) : ∃ a b r, l = a :: b :: r ∧ r.length = 12 := by
  match l, h with
  | a :: b :: r, h => exact ⟨a, b, r, rfl, by simpa using h⟩

theorem valueCellsOf : Tryd.prog.cellsOf 74 = 3 := by kernel_rfl
theorem procCellsOf : Tryd.prog.cellsOf 36 = 12 := by kernel_rfl
theorem paramCellsOf : Tryd.prog.cellsOf 82 = 7 := by kernel_rfl
theorem defCellsOf : Tryd.prog.cellsOf 80 = 14 := by kernel_rfl
theorem programCellsOf : Tryd.prog.cellsOf 39 = 13 := by kernel_rfl

set_option maxRecDepth 100000 in
theorem vls_open {H : Type} {enc : TypeId × Value → H} {W : World} {base : Nat} {spare : Nat → Bool} {held : Bool} {fuel : Nat} {v : Value} {x : DataW H × List MemPlace} (h : DataW.trod enc Tryd.prog W base spare held fuel 33 [v] = some x) :
    ∃ vs, VlSl (fun k => k < W.heap.size) W v vs := by
  obtain ⟨a, len, cap, rfl, hl, hm, hi⟩ := slice_of Tryd.underlying33 h
  rw [valueCellsOf] at hi
  obtain ⟨vs, hn, hrow, hall⟩ := rows_of (fun (a : Vl) b o => a.n.size ≤ maxLen ∧ W.cell? ⟨b, o, none⟩ = some (.int .i64 a.k) ∧ W.cell? ⟨b, o + 1, none⟩ = some (.string a.n) ∧ W.cell? ⟨b, o + 2, none⟩ = some (.int .i64 a.x)) (by omega) hi (fun n cs y _ hcl ht => by
    obtain ⟨ys, n', hn', hD, hcl2, hyl, hf⟩ := DataW.trod_struct Tryd.underlying74 ht
    obtain ⟨a0, a1, a2, rfl⟩ := list3 hcl
    obtain ⟨y0, t0⟩ := fld hyl hf 0 rfl (c := 1) (by kernel_rfl) (ds := [a0]) rfl (t := 3) rfl
    obtain ⟨y1, t1⟩ := fld hyl hf 1 rfl (c := 1) (by kernel_rfl) (ds := [a1]) rfl (t := 9) rfl
    obtain ⟨y2, t2⟩ := fld hyl hf 2 rfl (c := 1) (by kernel_rfl) (ds := [a2]) rfl (t := 2) rfl
    obtain ⟨k, hk, _, _⟩ := DataW.trod_int Tryd.underlying3 t0
    obtain ⟨nm, hnm, _, hnz⟩ := DataW.trod_string Tryd.underlying9 t1
    obtain ⟨s, hs, _, _⟩ := DataW.trod_int Tryd.underlying2 t2
    simp only [List.cons.injEq, and_true] at hk hnm hs
    subst hk hnm hs
    exact ⟨⟨k, nm, s⟩, fun b o _ hc => ⟨hnz, hc 0 _ rfl, hc 1 _ rfl, hc 2 _ rfl⟩⟩)
  refine ⟨vs, ?_, by omega, fun s hs => ?_⟩
  · rcases hrow with rfl | ⟨b, o, rfl, hb, hrow⟩
    · exact .inl ⟨⟨a, cap, by rw [← hn]; rfl⟩, rfl⟩
    · exact .inr ⟨b, o, cap, by rw [hn], hb, by omega, fun j a hj => (hrow j a hj).2⟩
  · obtain ⟨b, o, hq⟩ := hall s hs
    exact hq.1

/-- The cells of a process. -/
def prCells (p : Pr) (lv av tl tk kv : Value) : List Value := [.int .i64 p.k, .string p.c, .string p.x, lv, av, .int .i64 p.t.k, .int .i64 p.t.p, .string p.t.n, .int .i64 p.t.s, tl, tk, kv]

set_option maxRecDepth 100000 in
theorem pr_open {H : Type} {enc : TypeId × Value → H} {W : World} {base : Nat} {spare : Nat → Bool} {held : Bool} : ∀ (fuel : Nat) (cs : List Value) (x : DataW H × List MemPlace), DataW.trod enc Tryd.prog W base spare held fuel 36 cs = some x →
    ∃ p lv av tl tk kv, cs = prCells p lv av tl tk kv ∧ p.fine ∧ PLies W (.agg (prCells p lv av tl tk kv).toArray) p := by
  intro fuel
  induction fuel using Nat.strongRecOn with
  | _ fuel ih =>
  intro cs x h
  obtain ⟨ys, n', hn', hD, hcl, hyl, hf⟩ := DataW.trod_struct Tryd.underlying36 h
  rw [procCellsOf] at hcl
  obtain ⟨a0, a1, a2, a3, a4, a5, a6, a7, a8, a9, a10, a11, rfl⟩ := list12 hcl
  obtain ⟨y0, t0⟩ := fld hyl hf 0 rfl (c := 1) (by kernel_rfl) (ds := [a0]) rfl (t := 3) rfl
  obtain ⟨y1, t1⟩ := fld hyl hf 1 rfl (c := 1) (by kernel_rfl) (ds := [a1]) rfl (t := 9) rfl
  obtain ⟨y2, t2⟩ := fld hyl hf 2 rfl (c := 1) (by kernel_rfl) (ds := [a2]) rfl (t := 9) rfl
  obtain ⟨y3, t3⟩ := fld hyl hf 3 rfl (c := 1) (by kernel_rfl) (ds := [a3]) rfl (t := 22) rfl
  obtain ⟨y4, t4⟩ := fld hyl hf 4 rfl (c := 1) (by kernel_rfl) (ds := [a4]) rfl (t := 33) rfl
  obtain ⟨y5, t5⟩ := fld hyl hf 5 rfl (c := 6) (by kernel_rfl) (ds := [a5, a6, a7, a8, a9, a10]) rfl (t := 25) rfl
  obtain ⟨y6, t6⟩ := fld hyl hf 6 rfl (c := 1) (by kernel_rfl) (ds := [a11]) rfl (t := 34) rfl
  obtain ⟨k, hk, _, wk⟩ := DataW.trod_int Tryd.underlying3 t0
  obtain ⟨c, hc, _, hcz⟩ := DataW.trod_string Tryd.underlying9 t1
  obtain ⟨xv, hxv, _, hxz⟩ := DataW.trod_string Tryd.underlying9 t2
  simp only [List.cons.injEq, and_true] at hk hc hxv
  subst hk hc hxv
  obtain ⟨ls, hls⟩ := strs_open t3
  obtain ⟨vs, hvs⟩ := vls_open t4
  obtain ⟨t, tl, tk, et, hft, hlt⟩ := ty_open _ _ _ t5
  simp only [tyCells, List.cons.injEq, and_true] at et
  obtain ⟨rfl, rfl, rfl, rfl, rfl, rfl⟩ := et
  obtain ⟨a, len, cap, rfl, hl, hm, hi⟩ := slice_of Tryd.underlying34 t6
  rw [procCellsOf] at hi
  obtain ⟨ps, hn, hrow, hall⟩ := rows_of (fun (p : Pr) b o => p.fine ∧ PrAt (fun k => k < W.heap.size) W p b o) (by omega) hi (fun n cs y hn _ ht => by
    obtain ⟨p, lv, av, tl, tk, kv, rfl, hfine, hlies⟩ := ih n (by omega) cs y ht
    exact ⟨p, fun b o hb hc => ⟨hfine, prAt_of hb (hc 0 _ rfl) (hc 1 _ rfl) (hc 2 _ rfl) (hc 3 _ rfl) (hc 4 _ rfl) (hc 5 _ rfl) (hc 6 _ rfl) (hc 7 _ rfl) (hc 8 _ rfl) (hc 9 _ rfl) (hc 10 _ rfl) (hc 11 _ rfl) hlies⟩⟩)
  refine ⟨.mk k c xv ls vs t ps, a3, a4, a9, a10, .slice a len cap, rfl, ⟨wf_in wk, hft, Pr.fines_of ps (fun u hu => ?_)⟩, _, _, _, _, _, rfl, ⟨hcz, hxz⟩, hls, hvs, hlt, ?_, by show ps.length ≤ _; omega⟩
  · obtain ⟨b, o, hq⟩ := hall u hu
    exact hq.1
  · show _ ∨ _
    rcases hrow with rfl | ⟨b, o, rfl, hb, hrow⟩
    · exact .inl ⟨⟨a, cap, by rw [← hn]; rfl⟩, rfl⟩
    · exact .inr ⟨b, o, cap, by show Value.slice _ _ _ = Value.slice _ ps.length _; rw [hn], hb, prsAt_of (fun i p hi' => (hrow i p hi').2)⟩

set_option maxRecDepth 100000 in
/-- A process that came in. -/
theorem proc_open {H : Type} {enc : TypeId × Value → H} {W : World} {base : Nat} {spare : Nat → Bool} {held : Bool} {v : Value} {d : DataW H} {p : List MemPlace} {b0 : Nat} (hv : Value.okWide Tryd.prog W .any b0 36 v) (h : DataW.Trod enc Tryd.prog W base spare held 36 v d p) :
    ∃ t, t.fine ∧ PLies W v t := by
  obtain ⟨fuel, hf⟩ := h
  unfold Value.okWide at hv
  rw [Tryd.underlying36] at hv
  obtain ⟨cs, rfl, _, _⟩ := hv
  obtain ⟨t, lv, av, tl, tk, kv, e, hfine, hl⟩ := pr_open fuel _ _ hf
  have e' : cs.toList = prCells t lv av tl tk kv := e
  have : cs = (prCells t lv av tl tk kv).toArray := by rw [← e']
  rw [this]
  exact ⟨t, hfine, hl⟩

set_option maxRecDepth 100000 in
theorem pms_open {H : Type} {enc : TypeId × Value → H} {W : World} {base : Nat} {spare : Nat → Bool} {held : Bool} {fuel : Nat} {v : Value} {x : DataW H × List MemPlace} (h : DataW.trod enc Tryd.prog W base spare held fuel 78 [v] = some x) :
    ∃ ms, (∀ a ∈ ms, Ty.fine a.t) ∧ PmSl (fun k => k < W.heap.size) W v ms := by
  obtain ⟨a, len, cap, rfl, hl, hm, hi⟩ := slice_of Tryd.underlying78 h
  rw [paramCellsOf] at hi
  obtain ⟨ms, hn, hrow, hall⟩ := rows_of (fun (a : Pm) b o => a.t.fine ∧ PmAt (fun k => k < W.heap.size) W a b o) (by omega) hi (fun n cs y _ hcl ht => by
    obtain ⟨ys, n', hn', hD, hcl2, hyl, hf⟩ := DataW.trod_struct Tryd.underlying82 ht
    obtain ⟨a0, a1, a2, a3, a4, a5, a6, rfl⟩ := list7 hcl
    obtain ⟨y0, t0⟩ := fld hyl hf 0 rfl (c := 1) (by kernel_rfl) (ds := [a0]) rfl (t := 9) rfl
    obtain ⟨y1, t1⟩ := fld hyl hf 1 rfl (c := 6) (by kernel_rfl) (ds := [a1, a2, a3, a4, a5, a6]) rfl (t := 25) rfl
    obtain ⟨nm, hnm, _, hnz⟩ := DataW.trod_string Tryd.underlying9 t0
    simp only [List.cons.injEq, and_true] at hnm
    subst hnm
    obtain ⟨t, tl, tk, et, hft, hlt⟩ := ty_open _ _ _ t1
    simp only [tyCells, List.cons.injEq, and_true] at et
    obtain ⟨rfl, rfl, rfl, rfl, rfl, rfl⟩ := et
    refine ⟨⟨nm, t⟩, fun b o hb hc => ⟨hft, hnz, hc 0 _ rfl, ?_⟩⟩
    exact tyAt_of hb (hc 1 _ rfl) (hc 2 _ rfl) (hc 3 _ rfl) (hc 4 _ rfl) (hc 5 _ rfl) (hc 6 _ rfl) hlt)
  refine ⟨ms, fun u hu => ?_, ?_, by omega⟩
  · obtain ⟨b, o, hq⟩ := hall u hu
    exact hq.1
  · rcases hrow with rfl | ⟨b, o, rfl, hb, hrow⟩
    · exact .inl ⟨⟨a, cap, by rw [← hn]; rfl⟩, rfl⟩
    · exact .inr ⟨b, o, cap, by rw [hn], hb, fun j a hj => (hrow j a hj).2⟩

set_option maxRecDepth 100000 in
theorem dfs_open {H : Type} {enc : TypeId × Value → H} {W : World} {base : Nat} {spare : Nat → Bool} {held : Bool} {fuel : Nat} {v : Value} {x : DataW H × List MemPlace} (h : DataW.trod enc Tryd.prog W base spare held fuel 37 [v] = some x) :
    ∃ ds, (∀ d ∈ ds, Df.fine d) ∧ DfSl (fun k => k < W.heap.size) W v ds := by
  obtain ⟨a, len, cap, rfl, hl, hm, hi⟩ := slice_of Tryd.underlying37 h
  rw [defCellsOf] at hi
  obtain ⟨ds, hn, hrow, hall⟩ := rows_of (fun (d : Df) b o => d.fine ∧ DfAt (fun k => k < W.heap.size) W d b o) (by omega) hi (fun n cs y _ hcl ht => by
    obtain ⟨ys, n', hn', hD, hcl2, hyl, hf⟩ := DataW.trod_struct Tryd.underlying80 ht
    obtain ⟨a0, a1, r, rfl, hr⟩ := list14 hcl
    obtain ⟨y0, t0⟩ := fld hyl hf 0 rfl (c := 1) (by kernel_rfl) (ds := [a0]) rfl (t := 9) rfl
    obtain ⟨y1, t1⟩ := fld hyl hf 1 rfl (c := 1) (by kernel_rfl) (ds := [a1]) rfl (t := 78) rfl
    obtain ⟨y2, t2⟩ := fld hyl hf 2 rfl (c := 12) (by kernel_rfl) (ds := r) (List.take_of_length_le (by show r.length ≤ 12; omega)) (t := 36) rfl
    obtain ⟨nm, hnm, _, hnz⟩ := DataW.trod_string Tryd.underlying9 t0
    simp only [List.cons.injEq, and_true] at hnm
    subst hnm
    obtain ⟨ms, hfm, hms⟩ := pms_open t1
    obtain ⟨p, lv, av, tl, tk, kv, rfl, hfp, hlp⟩ := pr_open _ _ _ t2
    refine ⟨⟨nm, ms, p⟩, fun b o hb hc => ⟨⟨hfm, hfp⟩, hnz, hc 0 _ rfl, ⟨a1, hc 1 _ rfl, hms⟩, ?_⟩⟩
    exact prAt_of hb (hc 2 _ rfl) (hc 3 _ rfl) (hc 4 _ rfl) (hc 5 _ rfl) (hc 6 _ rfl) (hc 7 _ rfl) (hc 8 _ rfl) (hc 9 _ rfl) (hc 10 _ rfl) (hc 11 _ rfl) (hc 12 _ rfl) (hc 13 _ rfl) hlp)
  refine ⟨ds, fun u hu => ?_, ?_, by omega⟩
  · obtain ⟨b, o, hq⟩ := hall u hu
    exact hq.1
  · rcases hrow with rfl | ⟨b, o, rfl, hb, hrow⟩
    · exact .inl ⟨⟨a, cap, by rw [← hn]; rfl⟩, rfl⟩
    · exact .inr ⟨b, o, cap, by rw [hn], hb, fun j a hj => (hrow j a hj).2⟩

set_option maxRecDepth 100000 in
/-- A program that came in. -/
theorem prog_open {H : Type} {enc : TypeId × Value → H} {W : World} {base : Nat} {spare : Nat → Bool} {held : Bool} {v : Value} {d : DataW H} {p : List MemPlace} {b0 : Nat} (hv : Value.okWide Tryd.prog W .any b0 39 v) (h : DataW.Trod enc Tryd.prog W base spare held 39 v d p) :
    ∃ g, Pg.fine g ∧ GLies W v g := by
  obtain ⟨fuel, hf⟩ := h
  unfold Value.okWide at hv
  rw [Tryd.underlying39] at hv
  obtain ⟨cs, rfl, _, _⟩ := hv
  obtain ⟨ys, n', hn', hD, hcl, hyl, hf⟩ := DataW.trod_struct Tryd.underlying39 hf
  rw [programCellsOf] at hcl
  obtain ⟨cl, hcs⟩ : ∃ cl, cs = List.toArray cl := ⟨cs.toList, rfl⟩
  subst hcs
  obtain ⟨a0, r, rfl, hr⟩ := list13 hcl
  obtain ⟨y0, t0⟩ := fld hyl hf 0 rfl (c := 1) (by kernel_rfl) (ds := [a0]) rfl (t := 37) rfl
  obtain ⟨y1, t1⟩ := fld hyl hf 1 rfl (c := 12) (by kernel_rfl) (ds := r) (List.take_of_length_le (by show r.length ≤ 12; omega)) (t := 36) rfl
  obtain ⟨ds, hfd, hds⟩ := dfs_open t0
  obtain ⟨p, lv, av, tl, tk, kv, rfl, hfp, hlp⟩ := pr_open _ _ _ t1
  exact ⟨⟨ds, p⟩, ⟨hfd, hfp⟩, a0, lv, av, tl, tk, kv, rfl, hds, hlp⟩

end Go.Proofs.YtliijbcgkkiekaaDoor

/- Processes: the reference's measures. -/
namespace Go.Proofs.YtliijbcgkkiekaaDoor
open Go.RowKit

set_option maxHeartbeats 1000000 in
theorem prsize_step (B : Nat → Prop) (p : Pr) (lv av tl tk kv : Value) (hts : Pr.sizes p.ps ≤ 1000000)
    (ih : ∀ u ∈ p.ps, ∀ (v : Value) (w : World), Low B w → PrVal B w v u → Calls Tryd.prog 26 #[v] w fun e w' => e = .returned (.int .i64 u.size) ∧ Below w.heap.size w w')
    (w : World) (hB : Low B w) (hk : PrSl B w kv p.ps) :
    Calls Tryd.prog 26 #[prAgg p lv av tl tk kv] w fun e w' => e = .returned (.int .i64 ((Pr.sizes p.ps + 1 : Nat) : Int)) ∧ Below w.heap.size w w' := by
  obtain ⟨pa, len, c, rfl, hlen, hm, hget⟩ := hk.open
  have HG := Lib.hid hget
  have HIH := Lib.hid ih
  clear hget hk ih
  obtain ⟨ps, hps⟩ : ∃ ps, p.ps = ps := ⟨_, rfl⟩
  rw [hps] at HG hlen hts HIH ⊢
  clear hps
  unfold prAgg
  go_enter Tryd.func26, Tryd.ntmps26
  go_wp2_with fail
  go_loopw [3, 4] (fun a i wr => ∃ j : Nat, i = .int .i64 j ∧ j ≤ len ∧ a = .int .i64 ((Pr.sizes (ps.take j) + 1 : Nat) : Int) ∧ Below (w.heap.size + 1) (w.alloc (cell12 p lv av tl tk (.slice pa len c))) wr) (fun _ i _ => len - (intOf i).toNat)
  case atStart => exact ⟨0, rfl, by omega, by simp [Pr.sizes], Below.refl _ _⟩
  case round =>
    obtain ⟨j, rfl, hj, rfl, hb⟩ := hrel
    have c11 : wr.cell? ⟨w.heap.size, 11, none⟩ = some (.slice pa len c) := blk_cell hb 11 rfl
    have hw := blk_below hb
    by_cases hlt : j < len
    · obtain ⟨t, ht⟩ : ∃ t, ps[j]? = some t := ⟨_, List.getElem?_eq_getElem (by rw [← hlen.out]; exact hlt)⟩
      obtain ⟨kb, ko, rfl, hkb, hty⟩ := HG.out j t ht
      obtain ⟨la', ln', lc', aa', an', ac', ta', tn', tc', ua', un', uc', ka', kn', kc', ⟨d0, d1, d2, d3, d4, d5, d6, d7, d8, d9, d10, d11⟩, hval⟩ := (hty.keep (hw.keeps'.mono hB)).load'
      have hsz := Pr.sizes_take ht
      have hle := Pr.sizes_take_le ps (j + 1)
      have IH := Lib.hid (HIH.out t (List.mem_of_getElem? ht) _ wr (hB.le hw.size) hval)
      obtain ⟨a0, ha0⟩ : ∃ a0, Pr.sizes (ps.take j) + 1 = a0 := ⟨_, rfl⟩
      have HA := Lib.hid hsz
      have ha1 : a0 + t.size ≤ 1000001 := by omega
      have HA0 := Lib.hid ha0
      rw [ha0]
      unfold prAgg at IH
      clear hsz ha0 ht hval hty
      go_wp2_with (go_at_call 26; refine IH.out.mono ?_; rintro e w1 ⟨rfl, hb1⟩)
      go_roundw
      case rel => exact ⟨j + 1, by go_num, by omega, ret_val (by rw [HA.out]; have := HA0.out; omega), hb.trans (hb1.mono (by have := hb.size; simpa using this))⟩
      case measure => simp [intOf]; omega
    · obtain rfl : j = len := by omega
      go_wp2_with fail
      go_ret
      exact ⟨ret_int (by rw [List.take_of_length_le (by rw [hlen.out]; exact Nat.le_refl _)]), hw⟩

theorem prsize_any (B : Nat → Prop) : ∀ (p : Pr), p.size ≤ 1000000 → ∀ (v : Value) (w : World), Low B w → PrVal B w v p → Calls Tryd.prog 26 #[v] w fun e w' => e = .returned (.int .i64 p.size) ∧ Below w.heap.size w w' := by
  refine Pr.ind ?_
  intro k c x ls vs t ps ih hsz v w hB hv
  obtain ⟨lv, av, tl, tk, kv, rfl, _, _, _, _, hk⟩ := hv
  have h1 : Pr.sizes ps ≤ 1000000 := by rw [Pr.size_eq] at hsz; simp only [Pr.ps] at hsz; omega
  have := prsize_step B (.mk k c x ls vs t ps) lv av tl tk kv h1 (fun u hu => ih u hu (Nat.le_trans (Pr.size_mem hu) h1)) w hB hk
  rw [Pr.size_eq]; exact this

set_option maxHeartbeats 1000000 in
theorem prdepth_step (B : Nat → Prop) (p : Pr) (lv av tl tk kv : Value) (hts : Pr.depths p.ps ≤ 1000000)
    (ih : ∀ u ∈ p.ps, ∀ (v : Value) (w : World), Low B w → PrVal B w v u → Calls Tryd.prog 28 #[v] w fun e w' => e = .returned (.int .i64 u.depth) ∧ Below w.heap.size w w')
    (w : World) (hB : Low B w) (hk : PrSl B w kv p.ps) :
    Calls Tryd.prog 28 #[prAgg p lv av tl tk kv] w fun e w' => e = .returned (.int .i64 ((Pr.depths p.ps + 1 : Nat) : Int)) ∧ Below w.heap.size w w' := by
  obtain ⟨pa, len, c, rfl, hlen, hm, hget⟩ := hk.open
  have HG := Lib.hid hget
  have HIH := Lib.hid ih
  clear hget hk ih
  obtain ⟨ps, hps⟩ : ∃ ps, p.ps = ps := ⟨_, rfl⟩
  rw [hps] at HG hlen hts HIH ⊢
  clear hps
  unfold prAgg
  go_enter Tryd.func28, Tryd.ntmps28
  go_wp2_with fail
  go_loopw [3, 4] (fun a i wr => ∃ j : Nat, i = .int .i64 j ∧ j ≤ len ∧ a = .int .i64 ((Pr.depths (ps.take j) : Nat) : Int) ∧ Below (w.heap.size + 1) (w.alloc (cell12 p lv av tl tk (.slice pa len c))) wr) (fun _ i _ => len - (intOf i).toNat)
  case atStart => exact ⟨0, rfl, by omega, by simp [Pr.depths], Below.refl _ _⟩
  case round =>
    obtain ⟨j, rfl, hj, rfl, hb⟩ := hrel
    have c11 : wr.cell? ⟨w.heap.size, 11, none⟩ = some (.slice pa len c) := blk_cell hb 11 rfl
    have hw := blk_below hb
    by_cases hlt : j < len
    · obtain ⟨t, ht⟩ : ∃ t, ps[j]? = some t := ⟨_, List.getElem?_eq_getElem (by rw [← hlen.out]; exact hlt)⟩
      obtain ⟨kb, ko, rfl, hkb, hty⟩ := HG.out j t ht
      obtain ⟨la', ln', lc', aa', an', ac', ta', tn', tc', ua', un', uc', ka', kn', kc', ⟨d0, d1, d2, d3, d4, d5, d6, d7, d8, d9, d10, d11⟩, hval⟩ := (hty.keep (hw.keeps'.mono hB)).load'
      have hsz := Pr.depths_take ht
      have hle := Pr.depths_take_le ps (j + 1)
      have IH := Lib.hid (HIH.out t (List.mem_of_getElem? ht) _ wr (hB.le hw.size) hval)
      obtain ⟨a0, ha0⟩ : ∃ a0, Pr.depths (ps.take j) = a0 := ⟨_, rfl⟩
      have HA := Lib.hid hsz
      have ha1 : max a0 t.depth ≤ 1000000 := by omega
      have HA0 := Lib.hid ha0
      rw [ha0]
      unfold prAgg at IH
      clear hsz ha0 ht hval hty
      go_wp2_with (go_at_call 28; refine IH.out.mono ?_; rintro e w1 ⟨rfl, hb1⟩)
      go_roundw
      case rel => exact ⟨j + 1, by go_num, by omega, ret_val (by rw [HA.out]; have := HA0.out; omega), hb.trans (hb1.mono (by have := hb.size; simpa using this))⟩
      case measure => simp [intOf]; omega
    · obtain rfl : j = len := by omega
      have hle := Pr.depths_take_le ps j
      go_wp2_with fail
      go_ret
      exact ⟨ret_int (by rw [List.take_of_length_le (by rw [hlen.out]; exact Nat.le_refl _)]; omega), hw⟩

theorem prdepth_any (B : Nat → Prop) : ∀ (p : Pr), p.depth ≤ 1000000 → ∀ (v : Value) (w : World), Low B w → PrVal B w v p → Calls Tryd.prog 28 #[v] w fun e w' => e = .returned (.int .i64 p.depth) ∧ Below w.heap.size w w' := by
  refine Pr.ind ?_
  intro k c x ls vs t ps ih hsz v w hB hv
  obtain ⟨lv, av, tl, tk, kv, rfl, _, _, _, _, hk⟩ := hv
  have h1 : Pr.depths ps ≤ 1000000 := by rw [Pr.depth_eq] at hsz; simp only [Pr.ps] at hsz; omega
  have := prdepth_step B (.mk k c x ls vs t ps) lv av tl tk kv h1 (fun u hu => ih u hu (Nat.le_trans (Pr.depth_mem hu) h1)) w hB hk
  rw [Pr.depth_eq]; exact this

end Go.Proofs.YtliijbcgkkiekaaDoor

/- Processes: the reference's types, left, Few. -/
namespace Go.Proofs.YtliijbcgkkiekaaDoor
open Go.RowKit

mutual
/-- The nodes of the types that stand at PNew. -/
def Pr.typ : Pr → Nat
  | .mk k _ _ _ _ t ps => (if k = 6 then t.size else 0) + Pr.typs ps
def Pr.typs : List Pr → Nat
  | [] => 0
  | p :: r => p.typ + Pr.typs r
end
def Pr.typ0 (p : Pr) : Nat := if p.k = 6 then p.t.size else 0
theorem Pr.typ_eq (p : Pr) : p.typ = p.typ0 + Pr.typs p.ps := by
  cases p
  rename_i k _ _ _ _ _ _
  by_cases h : k = 6 <;> simp [Pr.typ, Pr.ps, Pr.typ0, Pr.k, Pr.t, h]
theorem Pr.typs_append (l r : List Pr) : Pr.typs (l ++ r) = Pr.typs l + Pr.typs r := by
  induction l with
  | nil => simp [Pr.typs]
  | cons t l ih => simp only [List.cons_append, Pr.typs, ih]; omega
theorem Pr.typs_take {l : List Pr} {i : Nat} {p : Pr} (h : l[i]? = some p) : Pr.typs (l.take (i + 1)) = Pr.typs (l.take i) + p.typ := by
  rw [take_snoc_get h, Pr.typs_append]; simp [Pr.typs]
theorem Pr.typs_take_le (l : List Pr) (i : Nat) : Pr.typs (l.take i) ≤ Pr.typs l := by
  have := Pr.typs_append (l.take i) (l.drop i); rw [List.take_append_drop] at this; omega
theorem Pr.typ_mem {l : List Pr} {p : Pr} (h : p ∈ l) : p.typ ≤ Pr.typs l := by
  induction l with
  | nil => cases h
  | cons u l ih =>
    simp only [Pr.typs]
    rcases List.mem_cons.1 h with rfl | h
    · omega
    · have := ih h; omega

mutual
/-- All types are small. -/
def Pr.tf : Pr → Prop
  | .mk _ _ _ _ _ t ps => t.few 300 = true ∧ Pr.tfs ps
def Pr.tfs : List Pr → Prop
  | [] => True
  | p :: r => p.tf ∧ Pr.tfs r
end
theorem Pr.tf_t {p : Pr} (h : p.tf) : p.t.few 300 = true := by cases p; exact h.1
theorem Pr.tfs_mem : ∀ {l : List Pr}, Pr.tfs l → ∀ u ∈ l, u.tf
  | [], _, _, hu => by cases hu
  | t :: r, h, u, hu => by
    rcases List.mem_cons.1 hu with rfl | hu
    · exact h.1
    · exact Pr.tfs_mem h.2 u hu
theorem Pr.tf_ps {p : Pr} (h : p.tf) : ∀ u ∈ p.ps, u.tf := by cases p; exact Pr.tfs_mem h.2
theorem Pr.tf_size {p : Pr} (h : p.tf) : p.t.size ≤ 300 := (few_size (Pr.tf_t h)).1
theorem Pr.tf_depth {p : Pr} (h : p.tf) : p.t.depth ≤ 150 := (few_size (Pr.tf_t h)).2

set_option maxHeartbeats 2000000 in
theorem prtyp_step (B : Nat → Prop) (p : Pr) (lv av tl tk kv : Value) (hts : p.typ ≤ 1000000000) (hsz : p.t.size ≤ 1000000)
    (ih : ∀ u ∈ p.ps, ∀ (v : Value) (w : World), Low B w → PrVal B w v u → Calls Tryd.prog 62 #[v] w fun e w' => e = .returned (.int .i64 u.typ) ∧ Below w.heap.size w w')
    (w : World) (hB : Low B w) (hty : TyVal B w (.agg #[.int .i64 p.t.k, .int .i64 p.t.p, .string p.t.n, .int .i64 p.t.s, tl, tk]) p.t) (hk : PrSl B w kv p.ps) :
    Calls Tryd.prog 62 #[prAgg p lv av tl tk kv] w fun e w' => e = .returned (.int .i64 (p.typ : Int)) ∧ Below w.heap.size w w' := by
  have hb0 : Below w.heap.size w (w.alloc (cell12 p lv av tl tk kv)) := (Below.refl _ _).alloc (Nat.le_refl _) _
  have HSz : Hid (p.k = 6 → Calls Tryd.prog 15 #[.agg #[.int .i64 p.t.k, .int .i64 p.t.p, .string p.t.n, .int .i64 p.t.s, tl, tk]] (w.alloc (cell12 p lv av tl tk kv)) fun e w' => e = .returned (.int .i64 ((p.typ0 : Nat) : Int)) ∧ Below (w.alloc (cell12 p lv av tl tk kv)).heap.size (w.alloc (cell12 p lv av tl tk kv)) w') := Lib.hid (fun h => by
    have e : p.typ0 = p.t.size := by unfold Pr.typ0; rw [if_pos h]
    rw [e]
    exact rsize_any B p.t hsz _ _ (hB.le hb0.size) (hty.keep (hb0.keeps'.mono hB)))
  have HZ : Hid (p.k ≠ 6 → p.typ0 = 0) := Lib.hid (fun h => by unfold Pr.typ0; rw [if_neg h])
  have hte := p.typ_eq
  obtain ⟨pa, len, c, rfl, hlen, hm, hget⟩ := hk.open
  have HG := Lib.hid hget
  have HIH := Lib.hid ih
  obtain ⟨ps, hps⟩ : ∃ ps, p.ps = ps := ⟨_, rfl⟩
  obtain ⟨z, hz⟩ : ∃ z, p.typ0 = z := ⟨_, rfl⟩
  obtain ⟨q, hq⟩ : ∃ q, p.typ = q := ⟨_, rfl⟩
  rw [hps] at HG hlen HIH hte
  rw [hz] at HSz HZ hte
  rw [hq] at hts hte ⊢
  have HTE := Lib.hid hte
  have hzz : z ≤ 1000000000 := by omega
  have hte2 : z + Pr.typs ps ≤ 1000000000 := by omega
  obtain ⟨tla, tln, tlc, htl⟩ : ∃ a n c, tl = .slice a n c := by
    obtain ⟨lv', kv', e, _, hl, hk2⟩ := hty
    simp only [Value.agg.injEq, Array.mk.injEq, List.cons.injEq, and_true, true_and] at e
    obtain ⟨rfl, rfl⟩ := e
    obtain ⟨a, n, c, e, _⟩ := hl.open
    exact ⟨a, n, c, e⟩
  obtain ⟨tka, tkn, tkc, htk⟩ : ∃ a n c, tk = .slice a n c := by
    obtain ⟨lv', kv', e, _, hl, hk2⟩ := hty
    simp only [Value.agg.injEq, Array.mk.injEq, List.cons.injEq, and_true, true_and] at e
    obtain ⟨rfl, rfl⟩ := e
    obtain ⟨a, n, c, e, _⟩ := hk2.open
    exact ⟨a, n, c, e⟩
  subst htl htk
  clear hget hk ih hps hz hq hte hty hb0
  unfold prAgg
  by_cases h6 : p.k = 6
  all_goals
    first
      | (have h6' : (p.k == 6) = true := by simpa using h6
         have HS1 := Lib.hid (HSz.out h6)
         have HZ1 : Hid (z = z) := Lib.hid rfl)
      | (have h6' : (p.k == 6) = false := by simpa using h6
         have HZ1 := Lib.hid (HZ.out h6))
    clear HSz HZ h6
    go_enter Tryd.func62, Tryd.ntmps62
    go_wp2_with (go_at_call 15; refine HS1.out.mono ?_; rintro e w1 ⟨rfl, hb1⟩)
    go_loopw [3, 4] (fun a i wr => ∃ j : Nat, i = .int .i64 j ∧ j ≤ len ∧ a = .int .i64 ((z + Pr.typs (ps.take j) : Nat) : Int) ∧ Below (w.heap.size + 1) (w.alloc (cell12 p lv av (.slice tla tln tlc) (.slice tka tkn tkc) (.slice pa len c))) wr) (fun _ i _ => len - (intOf i).toNat)
    case atStart => first | exact ⟨0, rfl, by omega, by simp [Pr.typs], by simpa using hb1⟩ | exact ⟨0, rfl, by omega, by simp [Pr.typs, HZ1.out], Below.refl _ _⟩
    case round =>
      obtain ⟨j, rfl, hj, rfl, hb⟩ := hrel
      have c11 : wr.cell? ⟨w.heap.size, 11, none⟩ = some (.slice pa len c) := blk_cell hb 11 rfl
      have hw := blk_below hb
      by_cases hlt : j < len
      · obtain ⟨t, ht⟩ : ∃ t, ps[j]? = some t := ⟨_, List.getElem?_eq_getElem (by rw [← hlen.out]; exact hlt)⟩
        obtain ⟨kb, ko, rfl, hkb, hty⟩ := HG.out j t ht
        obtain ⟨la', ln', lc', aa', an', ac', ta', tn', tc', ua', un', uc', ka', kn', kc', ⟨d0, d1, d2, d3, d4, d5, d6, d7, d8, d9, d10, d11⟩, hval⟩ := (hty.keep (hw.keeps'.mono hB)).load'
        have hsz := Pr.typs_take ht
        have hle := Pr.typs_take_le ps (j + 1)
        have IH := Lib.hid (HIH.out t (List.mem_of_getElem? ht) _ wr (hB.le hw.size) hval)
        obtain ⟨a0, ha0⟩ : ∃ a0, z + Pr.typs (ps.take j) = a0 := ⟨_, rfl⟩
        have HA := Lib.hid hsz
        have ha1 : a0 + t.typ ≤ 1000000000 := by omega
        have HA0 := Lib.hid ha0
        rw [ha0]
        unfold prAgg at IH
        clear hsz ha0 ht hval hty
        go_wp2_with (go_at_call 62; refine IH.out.mono ?_; rintro e w2 ⟨rfl, hb2⟩)
        go_roundw
        case rel => exact ⟨j + 1, by go_num, by omega, ret_val (by rw [HA.out]; have := HA0.out; omega), hb.trans (hb2.mono (by have := hb.size; simpa using this))⟩
        case measure => simp [intOf]; omega
      · obtain rfl : j = len := by omega
        go_wp2_with fail
        go_ret
        exact ⟨ret_int (by rw [List.take_of_length_le (by rw [hlen.out]; exact Nat.le_refl _), ← HTE.out]), hw⟩

theorem prtyp_any (B : Nat → Prop) : ∀ (p : Pr), p.tf → p.typ ≤ 1000000000 → ∀ (v : Value) (w : World), Low B w → PrVal B w v p → Calls Tryd.prog 62 #[v] w fun e w' => e = .returned (.int .i64 p.typ) ∧ Below w.heap.size w w' := by
  refine Pr.ind ?_
  intro k c x ls vs t ps ih htf hsz v w hB hv
  obtain ⟨lv, av, tl, tk, kv, rfl, _, _, _, hty, hk⟩ := hv
  have h1 : Pr.typs ps ≤ 1000000000 := by rw [Pr.typ_eq] at hsz; simp only [Pr.ps] at hsz; omega
  exact prtyp_step B (.mk k c x ls vs t ps) lv av tl tk kv hsz (by have := Pr.tf_size htf; omega) (fun u hu => ih u hu (Pr.tf_ps htf u hu) (Nat.le_trans (Pr.typ_mem hu) h1)) w hB hty hk

end Go.Proofs.YtliijbcgkkiekaaDoor
