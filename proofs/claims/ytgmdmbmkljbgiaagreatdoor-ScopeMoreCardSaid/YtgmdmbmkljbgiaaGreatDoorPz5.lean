/- Processes and programs: those that came in as arguments. (and what follows from it) -/
import Derived.Test.YtgmdmbmkljbgiaaGreatDoorPz4
import Derived.Test.YtgmdmbmkljbgiaaGreatDoorPz3
import Derived.Test.YtgmdmbmkljbgiaaGreatDoorPrB
import Derived.OwnWalk

/- Processes and programs: those that came in as arguments. -/
namespace Go.Proofs.YtgmdmbmkljbgiaaGreatDoor
open Go.ChangeShapes Go.WideShapes Go.ChangeAt Go.RowKit Go.Deep

mutual
/-- All kinds are numbers that a word holds, also those of the types. -/
def Pr.fine : Pr → Prop
  | .mk k _ _ _ _ t ps => In64 k ∧ t.fine ∧ Pr.fines ps
def Pr.fines : List Pr → Prop
  | [] => True
  | p :: r => p.fine ∧ Pr.fines r
end
theorem Pr.fine_k {p : Pr} (h : p.fine) : In64 p.k := by cases p; exact h.1
theorem Pr.fine_t {p : Pr} (h : p.fine) : p.t.fine := by cases p; exact h.2.1
theorem Pr.fines_mem : ∀ {l : List Pr}, Pr.fines l → ∀ u ∈ l, u.fine
  | [], _, _, hu => by cases hu
  | t :: r, h, u, hu => by
    rcases List.mem_cons.1 hu with rfl | hu
    · exact h.1
    · exact Pr.fines_mem h.2 u hu
theorem Pr.fine_ps {p : Pr} (h : p.fine) : ∀ u ∈ p.ps, u.fine := by cases p; exact Pr.fines_mem h.2.2
theorem Pr.fines_of : ∀ l : List Pr, (∀ u ∈ l, u.fine) → Pr.fines l := by
  intro l
  induction l with
  | nil => intro _; trivial
  | cons u r ihr => intro hh; exact ⟨hh u (by simp), ihr (fun v hv => hh v (by simp [hv]))⟩
def Df.fine (d : Df) : Prop := (∀ a ∈ d.ms, a.t.fine) ∧ d.b.fine
def Pg.fine (g : Pg) : Prop := (∀ d ∈ g.ds, d.fine) ∧ g.m.fine

/-- A value is a process that lies in w. -/
def PLies (w : World) (v : Value) (p : Pr) : Prop := PrVal (fun k => k < w.heap.size) w v p
theorem PLies.to {w w' : World} {v : Value} {p : Pr} (h : PLies w v p) (hb : Below w.heap.size w w') : PLies w' v p :=
  PrVal.mono (fun _ hk => Nat.lt_of_lt_of_le hk hb.size) (PrVal.to (fun _ hk => hk) hb h)
/-- A value is a program that lies in w. -/
def GLies (w : World) (v : Value) (g : Pg) : Prop := PgVal (fun k => k < w.heap.size) w v g
theorem GLies.to {w w' : World} {v : Value} {g : Pg} (h : GLies w v g) (hb : Below w.heap.size w w') : GLies w' v g :=
  PgVal.mono (fun _ hk => Nat.lt_of_lt_of_le hk hb.size) (PgVal.to (fun _ hk => hk) hb h)

/-- One field of a struct. -/
theorem fld {H : Type} {enc : TypeId × Value → H} {P : Program} {w : World} {base : Nat} {spare : Nat → Bool} {held : Bool} {n : Nat} {cs : List Value} {fs : Array Field} {xs : List (DataW H × List MemPlace)} (hx : xs.length = fs.size)
    (hf : ∀ (i : Nat) (f : Field), fs[i]? = some f → DataW.trod enc P w base spare held n f.type ((cs.drop f.offset).take (P.cellsOf f.type)) = xs[i]?) (i : Nat) {f : Field} (hi : fs[i]? = some f) {c : Nat} (hc : P.cellsOf f.type = c) {ds : List Value} (hd : (cs.drop f.offset).take c = ds) {t : TypeId} (ht : f.type = t) :
    ∃ y, DataW.trod enc P w base spare held n t ds = some y := by
  subst ht hd hc
  have hlt := (Array.getElem?_eq_some_iff.1 hi).1
  rw [hf i f hi]
  exact ⟨_, List.getElem?_eq_getElem (by omega)⟩

/-- The elements of a slice, each of which is told from its cells. -/
theorem rows_of {H : Type} {enc : TypeId × Value → H} {P : Program} {w : World} {base : Nat} {spare : Nat → Bool} {held : Bool} {e : TypeId} {fuel len c : Nat} {a : Option Addr} {α : Type} (Q : α → Nat → Nat → Prop) (hc : 0 < c)
    (hi : ∀ i, i < len → ∃ ad n cs y, a = some ad ∧ n < fuel ∧ w.cells? base (ad.add (i * c)) c = some cs ∧ DataW.trod enc P w base spare held n e cs = some y)
    (hel : ∀ n cs y, n < fuel → cs.length = c → DataW.trod enc P w base spare held n e cs = some y → ∃ x : α, ∀ b o, b < w.heap.size → (∀ j v, cs[j]? = some v → w.cell? ⟨b, o + j, none⟩ = some v) → Q x b o) :
    ∃ xs : List α, xs.length = len ∧ (xs = [] ∨ ∃ b o, a = some ⟨b, o, none⟩ ∧ b < w.heap.size ∧ ∀ j x, xs[j]? = some x → Q x b (o + j * c)) ∧ ∀ x ∈ xs, ∃ b o, Q x b o := by
  have each : ∀ i, i < len → ∃ x : α, ∃ b o, a = some ⟨b, o, none⟩ ∧ b < w.heap.size ∧ Q x b (o + i * c) := by
    intro i hin
    obtain ⟨ad, n, cs, y, rfl, hn, hcs, ht⟩ := hi i hin
    obtain ⟨ad0, n0, cs0, y0, e0, _, hcs0, ht0⟩ := hi 0 (by omega)
    obtain rfl := Option.some.inj e0
    obtain ⟨_, hl, hat⟩ := World.cells?_some hcs
    obtain ⟨_, hl0, hat0⟩ := World.cells?_some hcs0
    have h0 := hat0 0 hc
    rw [Nat.zero_mul, add_zero', add_zero', List.getElem?_eq_getElem (by omega)] at h0
    obtain ⟨e1, e2⟩ := addr_of_cell h0
    obtain ⟨x, hx⟩ := hel n cs y hn hl ht
    rw [e1] at hat
    simp only [add_block] at hat
    exact ⟨x, ad.block, ad.off, by rw [← e1], e2, hx _ _ e2 (fun j v hj => by
      have hj' : j < c := by rw [← hl]; exact (List.getElem?_eq_some_iff.1 hj).1
      rw [hat j hj', hj])⟩
  obtain ⟨xs, hn, hxs⟩ := choose_list _ len each
  refine ⟨xs, hn, ?_, fun x hx => ?_⟩
  · cases xs with
    | nil => exact .inl rfl
    | cons x0 r =>
      obtain ⟨b, o, rfl, hb, _⟩ := hxs 0 x0 rfl
      refine .inr ⟨b, o, rfl, hb, fun j x hj => ?_⟩
      obtain ⟨b', o', e, _, hq⟩ := hxs j x hj
      simp only [Option.some.injEq, Addr.mk.injEq, and_true] at e
      obtain ⟨rfl, rfl⟩ := e
      exact hq
  · obtain ⟨i, hi'⟩ := List.mem_iff_getElem?.1 hx
    obtain ⟨b, o, _, _, hq⟩ := hxs i x hi'
    exact ⟨_, _, hq⟩

theorem list3 {α : Type} {l : List α} (h : l.length = 3) : ∃ a b c, l = [a, b, c] := by
  match l, h with
  | [a, b, c], _ => exact ⟨a, b, c, rfl⟩
theorem list7 {α : Type} {l : List α} (h : l.length = 7) : ∃ a0 a1 a2 a3 a4 a5 a6, l = [a0, a1, a2, a3, a4, a5, a6] := by
  match l, h with
  | [a0, a1, a2, a3, a4, a5, a6], _ => exact ⟨_, _, _, _, _, _, _, rfl⟩
theorem list12 {α : Type} {l : List α} (h : l.length = 12) : ∃ a0 a1 a2 a3 a4 a5 a6 a7 a8 a9 a10 a11, l = [a0, a1, a2, a3, a4, a5, a6, a7, a8, a9, a10, a11] := by
  match l, h with
  | [a0, a1, a2, a3, a4, a5, a6, a7, a8, a9, a10, a11], _ => exact ⟨_, _, _, _, _, _, _, _, _, _, _, _, rfl⟩
theorem list13 {α : Type} {l : List α} (h : l.length = 13) : ∃ a r, l = a :: r ∧ r.length = 12 := by
  cases l with
  | nil => simp at h
  | cons a r => exact ⟨a, r, rfl, by simpa using h⟩
theorem list14 {α : Type} {l : List α} (h : l.length = 14) : ∃ a b r, l = a :: b :: r ∧ r.length = 12 := by
  match l, h with
  | a :: b :: r, h => exact ⟨a, b, r, rfl, by simpa using h⟩

theorem valueCellsOf : Tryz.prog.cellsOf 53 = 3 := by kernel_rfl
theorem procCellsOf : Tryz.prog.cellsOf 30 = 12 := by kernel_rfl
theorem paramCellsOf : Tryz.prog.cellsOf 47 = 7 := by kernel_rfl
theorem defCellsOf : Tryz.prog.cellsOf 45 = 14 := by kernel_rfl
theorem programCellsOf : Tryz.prog.cellsOf 32 = 13 := by kernel_rfl

set_option maxRecDepth 100000 in
theorem vls_open {H : Type} {enc : TypeId × Value → H} {W : World} {base : Nat} {spare : Nat → Bool} {held : Bool} {fuel : Nat} {v : Value} {x : DataW H × List MemPlace} (h : DataW.trod enc Tryz.prog W base spare held fuel 24 [v] = some x) :
    ∃ vs, VlSl (fun k => k < W.heap.size) W v vs := by
  obtain ⟨a, len, cap, rfl, hl, hm, hi⟩ := slice_of Tryz.underlying24 h
  rw [valueCellsOf] at hi
  obtain ⟨vs, hn, hrow, hall⟩ := rows_of (fun (a : Vl) b o => a.n.size ≤ maxLen ∧ W.cell? ⟨b, o, none⟩ = some (.int .i64 a.k) ∧ W.cell? ⟨b, o + 1, none⟩ = some (.string a.n) ∧ W.cell? ⟨b, o + 2, none⟩ = some (.int .i64 a.x)) (by omega) hi (fun n cs y _ hcl ht => by
    obtain ⟨ys, n', hn', hD, hcl2, hyl, hf⟩ := DataW.trod_struct Tryz.underlying53 ht
    obtain ⟨a0, a1, a2, rfl⟩ := list3 hcl
    obtain ⟨y0, t0⟩ := fld hyl hf 0 rfl (c := 1) (by kernel_rfl) (ds := [a0]) rfl (t := 3) rfl
    obtain ⟨y1, t1⟩ := fld hyl hf 1 rfl (c := 1) (by kernel_rfl) (ds := [a1]) rfl (t := 9) rfl
    obtain ⟨y2, t2⟩ := fld hyl hf 2 rfl (c := 1) (by kernel_rfl) (ds := [a2]) rfl (t := 2) rfl
    obtain ⟨k, hk, _, _⟩ := DataW.trod_int Tryz.underlying3 t0
    obtain ⟨nm, hnm, _, hnz⟩ := DataW.trod_string Tryz.underlying9 t1
    obtain ⟨s, hs, _, _⟩ := DataW.trod_int Tryz.underlying2 t2
    simp only [List.cons.injEq, and_true] at hk hnm hs
    subst hk hnm hs
    exact ⟨⟨k, nm, s⟩, fun b o _ hc => ⟨hnz, hc 0 _ rfl, hc 1 _ rfl, hc 2 _ rfl⟩⟩)
  refine ⟨vs, ?_, by omega, fun s hs => ?_⟩
  · rcases hrow with rfl | ⟨b, o, rfl, hb, hrow⟩
    · exact .inl ⟨⟨a, cap, by rw [← hn]; rfl⟩, rfl⟩
    · exact .inr ⟨b, o, cap, by rw [hn], hb, by omega, fun j a hj => (hrow j a hj).2⟩
  · obtain ⟨b, o, hq⟩ := hall s hs
    exact hq.1

/-- The cells of a process. -/
def prCells (p : Pr) (lv av tl tk kv : Value) : List Value := [.int .i64 p.k, .string p.c, .string p.x, lv, av, .int .i64 p.t.k, .int .i64 p.t.p, .string p.t.n, .int .i64 p.t.s, tl, tk, kv]

set_option maxRecDepth 100000 in
theorem pr_open {H : Type} {enc : TypeId × Value → H} {W : World} {base : Nat} {spare : Nat → Bool} {held : Bool} : ∀ (fuel : Nat) (cs : List Value) (x : DataW H × List MemPlace), DataW.trod enc Tryz.prog W base spare held fuel 30 cs = some x →
    ∃ p lv av tl tk kv, cs = prCells p lv av tl tk kv ∧ p.fine ∧ PLies W (.agg (prCells p lv av tl tk kv).toArray) p := by
  intro fuel
  induction fuel using Nat.strongRecOn with
  | _ fuel ih =>
  intro cs x h
  obtain ⟨ys, n', hn', hD, hcl, hyl, hf⟩ := DataW.trod_struct Tryz.underlying30 h
  rw [procCellsOf] at hcl
  obtain ⟨a0, a1, a2, a3, a4, a5, a6, a7, a8, a9, a10, a11, rfl⟩ := list12 hcl
  obtain ⟨y0, t0⟩ := fld hyl hf 0 rfl (c := 1) (by kernel_rfl) (ds := [a0]) rfl (t := 3) rfl
  obtain ⟨y1, t1⟩ := fld hyl hf 1 rfl (c := 1) (by kernel_rfl) (ds := [a1]) rfl (t := 9) rfl
  obtain ⟨y2, t2⟩ := fld hyl hf 2 rfl (c := 1) (by kernel_rfl) (ds := [a2]) rfl (t := 9) rfl
  obtain ⟨y3, t3⟩ := fld hyl hf 3 rfl (c := 1) (by kernel_rfl) (ds := [a3]) rfl (t := 23) rfl
  obtain ⟨y4, t4⟩ := fld hyl hf 4 rfl (c := 1) (by kernel_rfl) (ds := [a4]) rfl (t := 24) rfl
  obtain ⟨y5, t5⟩ := fld hyl hf 5 rfl (c := 6) (by kernel_rfl) (ds := [a5, a6, a7, a8, a9, a10]) rfl (t := 27) rfl
  obtain ⟨y6, t6⟩ := fld hyl hf 6 rfl (c := 1) (by kernel_rfl) (ds := [a11]) rfl (t := 28) rfl
  obtain ⟨k, hk, _, wk⟩ := DataW.trod_int Tryz.underlying3 t0
  obtain ⟨c, hc, _, hcz⟩ := DataW.trod_string Tryz.underlying9 t1
  obtain ⟨xv, hxv, _, hxz⟩ := DataW.trod_string Tryz.underlying9 t2
  simp only [List.cons.injEq, and_true] at hk hc hxv
  subst hk hc hxv
  obtain ⟨ls, hls⟩ := strs_open t3
  obtain ⟨vs, hvs⟩ := vls_open t4
  obtain ⟨t, tl, tk, et, hft, hlt⟩ := ty_open _ _ _ t5
  simp only [tyCells, List.cons.injEq, and_true] at et
  obtain ⟨rfl, rfl, rfl, rfl, rfl, rfl⟩ := et
  obtain ⟨a, len, cap, rfl, hl, hm, hi⟩ := slice_of Tryz.underlying28 t6
  rw [procCellsOf] at hi
  obtain ⟨ps, hn, hrow, hall⟩ := rows_of (fun (p : Pr) b o => p.fine ∧ PrAt (fun k => k < W.heap.size) W p b o) (by omega) hi (fun n cs y hn _ ht => by
    obtain ⟨p, lv, av, tl, tk, kv, rfl, hfine, hlies⟩ := ih n (by omega) cs y ht
    exact ⟨p, fun b o hb hc => ⟨hfine, prAt_of hb (hc 0 _ rfl) (hc 1 _ rfl) (hc 2 _ rfl) (hc 3 _ rfl) (hc 4 _ rfl) (hc 5 _ rfl) (hc 6 _ rfl) (hc 7 _ rfl) (hc 8 _ rfl) (hc 9 _ rfl) (hc 10 _ rfl) (hc 11 _ rfl) hlies⟩⟩)
  refine ⟨.mk k c xv ls vs t ps, a3, a4, a9, a10, .slice a len cap, rfl, ⟨wf_in wk, hft, Pr.fines_of ps (fun u hu => ?_)⟩, _, _, _, _, _, rfl, ⟨hcz, hxz⟩, hls, hvs, hlt, ?_, by show ps.length ≤ _; omega⟩
  · obtain ⟨b, o, hq⟩ := hall u hu
    exact hq.1
  · show _ ∨ _
    rcases hrow with rfl | ⟨b, o, rfl, hb, hrow⟩
    · exact .inl ⟨⟨a, cap, by rw [← hn]; rfl⟩, rfl⟩
    · exact .inr ⟨b, o, cap, by show Value.slice _ _ _ = Value.slice _ ps.length _; rw [hn], hb, prsAt_of (fun i p hi' => (hrow i p hi').2)⟩

set_option maxRecDepth 100000 in
/-- A process that came in. -/
theorem proc_open {H : Type} {enc : TypeId × Value → H} {W : World} {base : Nat} {spare : Nat → Bool} {held : Bool} {v : Value} {d : DataW H} {p : List MemPlace} {b0 : Nat} (hv : Value.okWide Tryz.prog W .any b0 30 v) (h : DataW.Trod enc Tryz.prog W base spare held 30 v d p) :
    ∃ t, t.fine ∧ PLies W v t := by
  obtain ⟨fuel, hf⟩ := h
  unfold Value.okWide at hv
  rw [Tryz.underlying30] at hv
  obtain ⟨cs, rfl, _, _⟩ := hv
  obtain ⟨t, lv, av, tl, tk, kv, e, hfine, hl⟩ := pr_open fuel _ _ hf
  have e' : cs.toList = prCells t lv av tl tk kv := e
  have : cs = (prCells t lv av tl tk kv).toArray := by rw [← e']
  rw [this]
  exact ⟨t, hfine, hl⟩

set_option maxRecDepth 100000 in
theorem pms_open {H : Type} {enc : TypeId × Value → H} {W : World} {base : Nat} {spare : Nat → Bool} {held : Bool} {fuel : Nat} {v : Value} {x : DataW H × List MemPlace} (h : DataW.trod enc Tryz.prog W base spare held fuel 43 [v] = some x) :
    ∃ ms, (∀ a ∈ ms, Ty.fine a.t) ∧ PmSl (fun k => k < W.heap.size) W v ms := by
  obtain ⟨a, len, cap, rfl, hl, hm, hi⟩ := slice_of Tryz.underlying43 h
  rw [paramCellsOf] at hi
  obtain ⟨ms, hn, hrow, hall⟩ := rows_of (fun (a : Pm) b o => a.t.fine ∧ PmAt (fun k => k < W.heap.size) W a b o) (by omega) hi (fun n cs y _ hcl ht => by
    obtain ⟨ys, n', hn', hD, hcl2, hyl, hf⟩ := DataW.trod_struct Tryz.underlying47 ht
    obtain ⟨a0, a1, a2, a3, a4, a5, a6, rfl⟩ := list7 hcl
    obtain ⟨y0, t0⟩ := fld hyl hf 0 rfl (c := 1) (by kernel_rfl) (ds := [a0]) rfl (t := 9) rfl
    obtain ⟨y1, t1⟩ := fld hyl hf 1 rfl (c := 6) (by kernel_rfl) (ds := [a1, a2, a3, a4, a5, a6]) rfl (t := 27) rfl
    obtain ⟨nm, hnm, _, hnz⟩ := DataW.trod_string Tryz.underlying9 t0
    simp only [List.cons.injEq, and_true] at hnm
    subst hnm
    obtain ⟨t, tl, tk, et, hft, hlt⟩ := ty_open _ _ _ t1
    simp only [tyCells, List.cons.injEq, and_true] at et
    obtain ⟨rfl, rfl, rfl, rfl, rfl, rfl⟩ := et
    refine ⟨⟨nm, t⟩, fun b o hb hc => ⟨hft, hnz, hc 0 _ rfl, ?_⟩⟩
    exact tyAt_of hb (hc 1 _ rfl) (hc 2 _ rfl) (hc 3 _ rfl) (hc 4 _ rfl) (hc 5 _ rfl) (hc 6 _ rfl) hlt)
  refine ⟨ms, fun u hu => ?_, ?_, by omega⟩
  · obtain ⟨b, o, hq⟩ := hall u hu
    exact hq.1
  · rcases hrow with rfl | ⟨b, o, rfl, hb, hrow⟩
    · exact .inl ⟨⟨a, cap, by rw [← hn]; rfl⟩, rfl⟩
    · exact .inr ⟨b, o, cap, by rw [hn], hb, fun j a hj => (hrow j a hj).2⟩

set_option maxRecDepth 100000 in
theorem dfs_open {H : Type} {enc : TypeId × Value → H} {W : World} {base : Nat} {spare : Nat → Bool} {held : Bool} {fuel : Nat} {v : Value} {x : DataW H × List MemPlace} (h : DataW.trod enc Tryz.prog W base spare held fuel 22 [v] = some x) :
    ∃ ds, (∀ d ∈ ds, Df.fine d) ∧ DfSl (fun k => k < W.heap.size) W v ds := by
  obtain ⟨a, len, cap, rfl, hl, hm, hi⟩ := slice_of Tryz.underlying22 h
  rw [defCellsOf] at hi
  obtain ⟨ds, hn, hrow, hall⟩ := rows_of (fun (d : Df) b o => d.fine ∧ DfAt (fun k => k < W.heap.size) W d b o) (by omega) hi (fun n cs y _ hcl ht => by
    obtain ⟨ys, n', hn', hD, hcl2, hyl, hf⟩ := DataW.trod_struct Tryz.underlying45 ht
    obtain ⟨a0, a1, r, rfl, hr⟩ := list14 hcl
    obtain ⟨y0, t0⟩ := fld hyl hf 0 rfl (c := 1) (by kernel_rfl) (ds := [a0]) rfl (t := 9) rfl
    obtain ⟨y1, t1⟩ := fld hyl hf 1 rfl (c := 1) (by kernel_rfl) (ds := [a1]) rfl (t := 43) rfl
    obtain ⟨y2, t2⟩ := fld hyl hf 2 rfl (c := 12) (by kernel_rfl) (ds := r) (List.take_of_length_le (by show r.length ≤ 12; omega)) (t := 30) rfl
    obtain ⟨nm, hnm, _, hnz⟩ := DataW.trod_string Tryz.underlying9 t0
    simp only [List.cons.injEq, and_true] at hnm
    subst hnm
    obtain ⟨ms, hfm, hms⟩ := pms_open t1
    obtain ⟨p, lv, av, tl, tk, kv, rfl, hfp, hlp⟩ := pr_open _ _ _ t2
    refine ⟨⟨nm, ms, p⟩, fun b o hb hc => ⟨⟨hfm, hfp⟩, hnz, hc 0 _ rfl, ⟨a1, hc 1 _ rfl, hms⟩, ?_⟩⟩
    exact prAt_of hb (hc 2 _ rfl) (hc 3 _ rfl) (hc 4 _ rfl) (hc 5 _ rfl) (hc 6 _ rfl) (hc 7 _ rfl) (hc 8 _ rfl) (hc 9 _ rfl) (hc 10 _ rfl) (hc 11 _ rfl) (hc 12 _ rfl) (hc 13 _ rfl) hlp)
  refine ⟨ds, fun u hu => ?_, ?_, by omega⟩
  · obtain ⟨b, o, hq⟩ := hall u hu
    exact hq.1
  · rcases hrow with rfl | ⟨b, o, rfl, hb, hrow⟩
    · exact .inl ⟨⟨a, cap, by rw [← hn]; rfl⟩, rfl⟩
    · exact .inr ⟨b, o, cap, by rw [hn], hb, fun j a hj => (hrow j a hj).2⟩

set_option maxRecDepth 100000 in
/-- A program that came in. -/
theorem prog_open {H : Type} {enc : TypeId × Value → H} {W : World} {base : Nat} {spare : Nat → Bool} {held : Bool} {v : Value} {d : DataW H} {p : List MemPlace} {b0 : Nat} (hv : Value.okWide Tryz.prog W .any b0 32 v) (h : DataW.Trod enc Tryz.prog W base spare held 32 v d p) :
    ∃ g, Pg.fine g ∧ GLies W v g := by
  obtain ⟨fuel, hf⟩ := h
  unfold Value.okWide at hv
  rw [Tryz.underlying32] at hv
  obtain ⟨cs, rfl, _, _⟩ := hv
  obtain ⟨ys, n', hn', hD, hcl, hyl, hf⟩ := DataW.trod_struct Tryz.underlying32 hf
  rw [programCellsOf] at hcl
  obtain ⟨cl, hcs⟩ : ∃ cl, cs = List.toArray cl := ⟨cs.toList, rfl⟩
  subst hcs
  obtain ⟨a0, r, rfl, hr⟩ := list13 hcl
  obtain ⟨y0, t0⟩ := fld hyl hf 0 rfl (c := 1) (by kernel_rfl) (ds := [a0]) rfl (t := 22) rfl
  obtain ⟨y1, t1⟩ := fld hyl hf 1 rfl (c := 12) (by kernel_rfl) (ds := r) (List.take_of_length_le (by show r.length ≤ 12; omega)) (t := 30) rfl
  obtain ⟨ds, hfd, hds⟩ := dfs_open t0
  obtain ⟨p, lv, av, tl, tk, kv, rfl, hfp, hlp⟩ := pr_open _ _ _ t1
  exact ⟨⟨ds, p⟩, ⟨hfd, hfp⟩, a0, lv, av, tl, tk, kv, rfl, hds, hlp⟩

end Go.Proofs.YtgmdmbmkljbgiaaGreatDoor

/- Processes: the reference's measures. -/
namespace Go.Proofs.YtgmdmbmkljbgiaaGreatDoor
open Go.RowKit

set_option maxHeartbeats 1000000 in
theorem prsize_step (B : Nat → Prop) (p : Pr) (lv av tl tk kv : Value) (hts : Pr.sizes p.ps ≤ 1000000)
    (ih : ∀ u ∈ p.ps, ∀ (v : Value) (w : World), Low B w → PrVal B w v u → Calls Tryz.prog 31 #[v] w fun e w' => e = .returned (.int .i64 u.size) ∧ Below w.heap.size w w')
    (w : World) (hB : Low B w) (hk : PrSl B w kv p.ps) :
    Calls Tryz.prog 31 #[prAgg p lv av tl tk kv] w fun e w' => e = .returned (.int .i64 ((Pr.sizes p.ps + 1 : Nat) : Int)) ∧ Below w.heap.size w w' := by
  obtain ⟨pa, len, c, rfl, hlen, hm, hget⟩ := hk.open
  have HG := Lib.hid hget
  have HIH := Lib.hid ih
  clear hget hk ih
  obtain ⟨ps, hps⟩ : ∃ ps, p.ps = ps := ⟨_, rfl⟩
  rw [hps] at HG hlen hts HIH ⊢
  clear hps
  unfold prAgg
  go_enter Tryz.func31, Tryz.ntmps31
  go_wp2_with fail
  go_loopw [3, 4] (fun a i wr => ∃ j : Nat, i = .int .i64 j ∧ j ≤ len ∧ a = .int .i64 ((Pr.sizes (ps.take j) + 1 : Nat) : Int) ∧ Below (w.heap.size + 1) (w.alloc (cell12 p lv av tl tk (.slice pa len c))) wr) (fun _ i _ => len - (intOf i).toNat)
  case atStart => exact ⟨0, rfl, by omega, by simp [Pr.sizes], Below.refl _ _⟩
  case round =>
    obtain ⟨j, rfl, hj, rfl, hb⟩ := hrel
    have c11 : wr.cell? ⟨w.heap.size, 11, none⟩ = some (.slice pa len c) := blk_cell hb 11 rfl
    have hw := blk_below hb
    by_cases hlt : j < len
    · obtain ⟨t, ht⟩ : ∃ t, ps[j]? = some t := ⟨_, List.getElem?_eq_getElem (by rw [← hlen.out]; exact hlt)⟩
      obtain ⟨kb, ko, rfl, hkb, hty⟩ := HG.out j t ht
      obtain ⟨la', ln', lc', aa', an', ac', ta', tn', tc', ua', un', uc', ka', kn', kc', ⟨d0, d1, d2, d3, d4, d5, d6, d7, d8, d9, d10, d11⟩, hval⟩ := (hty.keep (hw.keeps'.mono hB)).load'
      have hsz := Pr.sizes_take ht
      have hle := Pr.sizes_take_le ps (j + 1)
      have IH := Lib.hid (HIH.out t (List.mem_of_getElem? ht) _ wr (hB.le hw.size) hval)
      obtain ⟨a0, ha0⟩ : ∃ a0, Pr.sizes (ps.take j) + 1 = a0 := ⟨_, rfl⟩
      have HA := Lib.hid hsz
      have ha1 : a0 + t.size ≤ 1000001 := by omega
      have HA0 := Lib.hid ha0
      rw [ha0]
      unfold prAgg at IH
      clear hsz ha0 ht hval hty
      go_wp2_with (go_at_call 31; refine IH.out.mono ?_; rintro e w1 ⟨rfl, hb1⟩)
      go_roundw
      case rel => exact ⟨j + 1, by go_num, by omega, ret_val (by rw [HA.out]; have := HA0.out; omega), hb.trans (hb1.mono (by have := hb.size; simpa using this))⟩
      case measure => simp [intOf]; omega
    · obtain rfl : j = len := by omega
      go_wp2_with fail
      go_ret
      exact ⟨ret_int (by rw [List.take_of_length_le (by rw [hlen.out]; exact Nat.le_refl _)]), hw⟩

theorem prsize_any (B : Nat → Prop) : ∀ (p : Pr), p.size ≤ 1000000 → ∀ (v : Value) (w : World), Low B w → PrVal B w v p → Calls Tryz.prog 31 #[v] w fun e w' => e = .returned (.int .i64 p.size) ∧ Below w.heap.size w w' := by
  refine Pr.ind ?_
  intro k c x ls vs t ps ih hsz v w hB hv
  obtain ⟨lv, av, tl, tk, kv, rfl, _, _, _, _, hk⟩ := hv
  have h1 : Pr.sizes ps ≤ 1000000 := by rw [Pr.size_eq] at hsz; simp only [Pr.ps] at hsz; omega
  have := prsize_step B (.mk k c x ls vs t ps) lv av tl tk kv h1 (fun u hu => ih u hu (Nat.le_trans (Pr.size_mem hu) h1)) w hB hk
  rw [Pr.size_eq]; exact this

set_option maxHeartbeats 1000000 in
theorem prdepth_step (B : Nat → Prop) (p : Pr) (lv av tl tk kv : Value) (hts : Pr.depths p.ps ≤ 1000000)
    (ih : ∀ u ∈ p.ps, ∀ (v : Value) (w : World), Low B w → PrVal B w v u → Calls Tryz.prog 42 #[v] w fun e w' => e = .returned (.int .i64 u.depth) ∧ Below w.heap.size w w')
    (w : World) (hB : Low B w) (hk : PrSl B w kv p.ps) :
    Calls Tryz.prog 42 #[prAgg p lv av tl tk kv] w fun e w' => e = .returned (.int .i64 ((Pr.depths p.ps + 1 : Nat) : Int)) ∧ Below w.heap.size w w' := by
  obtain ⟨pa, len, c, rfl, hlen, hm, hget⟩ := hk.open
  have HG := Lib.hid hget
  have HIH := Lib.hid ih
  clear hget hk ih
  obtain ⟨ps, hps⟩ : ∃ ps, p.ps = ps := ⟨_, rfl⟩
  rw [hps] at HG hlen hts HIH ⊢
  clear hps
  unfold prAgg
  go_enter Tryz.func42, Tryz.ntmps42
  go_wp2_with fail
  go_loopw [3, 4] (fun a i wr => ∃ j : Nat, i = .int .i64 j ∧ j ≤ len ∧ a = .int .i64 ((Pr.depths (ps.take j) : Nat) : Int) ∧ Below (w.heap.size + 1) (w.alloc (cell12 p lv av tl tk (.slice pa len c))) wr) (fun _ i _ => len - (intOf i).toNat)
  case atStart => exact ⟨0, rfl, by omega, by simp [Pr.depths], Below.refl _ _⟩
  case round =>
    obtain ⟨j, rfl, hj, rfl, hb⟩ := hrel
    have c11 : wr.cell? ⟨w.heap.size, 11, none⟩ = some (.slice pa len c) := blk_cell hb 11 rfl
    have hw := blk_below hb
    by_cases hlt : j < len
    · obtain ⟨t, ht⟩ : ∃ t, ps[j]? = some t := ⟨_, List.getElem?_eq_getElem (by rw [← hlen.out]; exact hlt)⟩
      obtain ⟨kb, ko, rfl, hkb, hty⟩ := HG.out j t ht
      obtain ⟨la', ln', lc', aa', an', ac', ta', tn', tc', ua', un', uc', ka', kn', kc', ⟨d0, d1, d2, d3, d4, d5, d6, d7, d8, d9, d10, d11⟩, hval⟩ := (hty.keep (hw.keeps'.mono hB)).load'
      have hsz := Pr.depths_take ht
      have hle := Pr.depths_take_le ps (j + 1)
      have IH := Lib.hid (HIH.out t (List.mem_of_getElem? ht) _ wr (hB.le hw.size) hval)
      obtain ⟨a0, ha0⟩ : ∃ a0, Pr.depths (ps.take j) = a0 := ⟨_, rfl⟩
      have HA := Lib.hid hsz
      have ha1 : max a0 t.depth ≤ 1000000 := by omega
      have HA0 := Lib.hid ha0
      rw [ha0]
      unfold prAgg at IH
      clear hsz ha0 ht hval hty
      go_wp2_with (go_at_call 42; refine IH.out.mono ?_; rintro e w1 ⟨rfl, hb1⟩)
      go_roundw
      case rel => exact ⟨j + 1, by go_num, by omega, ret_val (by rw [HA.out]; have := HA0.out; omega), hb.trans (hb1.mono (by have := hb.size; simpa using this))⟩
      case measure => simp [intOf]; omega
    · obtain rfl : j = len := by omega
      have hle := Pr.depths_take_le ps j
      go_wp2_with fail
      go_ret
      exact ⟨ret_int (by rw [List.take_of_length_le (by rw [hlen.out]; exact Nat.le_refl _)]; omega), hw⟩

theorem prdepth_any (B : Nat → Prop) : ∀ (p : Pr), p.depth ≤ 1000000 → ∀ (v : Value) (w : World), Low B w → PrVal B w v p → Calls Tryz.prog 42 #[v] w fun e w' => e = .returned (.int .i64 p.depth) ∧ Below w.heap.size w w' := by
  refine Pr.ind ?_
  intro k c x ls vs t ps ih hsz v w hB hv
  obtain ⟨lv, av, tl, tk, kv, rfl, _, _, _, _, hk⟩ := hv
  have h1 : Pr.depths ps ≤ 1000000 := by rw [Pr.depth_eq] at hsz; simp only [Pr.ps] at hsz; omega
  have := prdepth_step B (.mk k c x ls vs t ps) lv av tl tk kv h1 (fun u hu => ih u hu (Nat.le_trans (Pr.depth_mem hu) h1)) w hB hk
  rw [Pr.depth_eq]; exact this

end Go.Proofs.YtgmdmbmkljbgiaaGreatDoor

/- Processes: the reference's types, left, Few. -/
namespace Go.Proofs.YtgmdmbmkljbgiaaGreatDoor
open Go.RowKit

mutual
/-- The nodes of the types that stand at PNew. -/
def Pr.typ : Pr → Nat
  | .mk k _ _ _ _ t ps => (if k = 6 then t.size else 0) + Pr.typs ps
def Pr.typs : List Pr → Nat
  | [] => 0
  | p :: r => p.typ + Pr.typs r
end
def Pr.typ0 (p : Pr) : Nat := if p.k = 6 then p.t.size else 0
theorem Pr.typ_eq (p : Pr) : p.typ = p.typ0 + Pr.typs p.ps := by
  cases p
  rename_i k _ _ _ _ _ _
  by_cases h : k = 6 <;> simp [Pr.typ, Pr.ps, Pr.typ0, Pr.k, Pr.t, h]
theorem Pr.typs_append (l r : List Pr) : Pr.typs (l ++ r) = Pr.typs l + Pr.typs r := by
  induction l with
  | nil => simp [Pr.typs]
  | cons t l ih => simp only [List.cons_append, Pr.typs, ih]; omega
theorem Pr.typs_take {l : List Pr} {i : Nat} {p : Pr} (h : l[i]? = some p) : Pr.typs (l.take (i + 1)) = Pr.typs (l.take i) + p.typ := by
  rw [take_snoc_get h, Pr.typs_append]; simp [Pr.typs]
theorem Pr.typs_take_le (l : List Pr) (i : Nat) : Pr.typs (l.take i) ≤ Pr.typs l := by
  have := Pr.typs_append (l.take i) (l.drop i); rw [List.take_append_drop] at this; omega
theorem Pr.typ_mem {l : List Pr} {p : Pr} (h : p ∈ l) : p.typ ≤ Pr.typs l := by
  induction l with
  | nil => cases h
  | cons u l ih =>
    simp only [Pr.typs]
    rcases List.mem_cons.1 h with rfl | h
    · omega
    · have := ih h; omega

mutual
/-- All types are small. -/
def Pr.tf : Pr → Prop
  | .mk _ _ _ _ _ t ps => t.few 300 = true ∧ Pr.tfs ps
def Pr.tfs : List Pr → Prop
  | [] => True
  | p :: r => p.tf ∧ Pr.tfs r
end
theorem Pr.tf_t {p : Pr} (h : p.tf) : p.t.few 300 = true := by cases p; exact h.1
theorem Pr.tfs_mem : ∀ {l : List Pr}, Pr.tfs l → ∀ u ∈ l, u.tf
  | [], _, _, hu => by cases hu
  | t :: r, h, u, hu => by
    rcases List.mem_cons.1 hu with rfl | hu
    · exact h.1
    · exact Pr.tfs_mem h.2 u hu
theorem Pr.tf_ps {p : Pr} (h : p.tf) : ∀ u ∈ p.ps, u.tf := by cases p; exact Pr.tfs_mem h.2
theorem Pr.tf_size {p : Pr} (h : p.tf) : p.t.size ≤ 300 := (few_size (Pr.tf_t h)).1
theorem Pr.tf_depth {p : Pr} (h : p.tf) : p.t.depth ≤ 150 := (few_size (Pr.tf_t h)).2

set_option maxHeartbeats 2000000 in
theorem prtyp_step (B : Nat → Prop) (p : Pr) (lv av tl tk kv : Value) (hts : p.typ ≤ 1000000000) (hsz : p.t.size ≤ 1000000)
    (ih : ∀ u ∈ p.ps, ∀ (v : Value) (w : World), Low B w → PrVal B w v u → Calls Tryz.prog 32 #[v] w fun e w' => e = .returned (.int .i64 u.typ) ∧ Below w.heap.size w w')
    (w : World) (hB : Low B w) (hty : TyVal B w (.agg #[.int .i64 p.t.k, .int .i64 p.t.p, .string p.t.n, .int .i64 p.t.s, tl, tk]) p.t) (hk : PrSl B w kv p.ps) :
    Calls Tryz.prog 32 #[prAgg p lv av tl tk kv] w fun e w' => e = .returned (.int .i64 (p.typ : Int)) ∧ Below w.heap.size w w' := by
  have hb0 : Below w.heap.size w (w.alloc (cell12 p lv av tl tk kv)) := (Below.refl _ _).alloc (Nat.le_refl _) _
  have HSz : Hid (p.k = 6 → Calls Tryz.prog 33 #[.agg #[.int .i64 p.t.k, .int .i64 p.t.p, .string p.t.n, .int .i64 p.t.s, tl, tk]] (w.alloc (cell12 p lv av tl tk kv)) fun e w' => e = .returned (.int .i64 ((p.typ0 : Nat) : Int)) ∧ Below (w.alloc (cell12 p lv av tl tk kv)).heap.size (w.alloc (cell12 p lv av tl tk kv)) w') := Lib.hid (fun h => by
    have e : p.typ0 = p.t.size := by unfold Pr.typ0; rw [if_pos h]
    rw [e]
    exact rsize_any B p.t hsz _ _ (hB.le hb0.size) (hty.keep (hb0.keeps'.mono hB)))
  have HZ : Hid (p.k ≠ 6 → p.typ0 = 0) := Lib.hid (fun h => by unfold Pr.typ0; rw [if_neg h])
  have hte := p.typ_eq
  obtain ⟨pa, len, c, rfl, hlen, hm, hget⟩ := hk.open
  have HG := Lib.hid hget
  have HIH := Lib.hid ih
  obtain ⟨ps, hps⟩ : ∃ ps, p.ps = ps := ⟨_, rfl⟩
  obtain ⟨z, hz⟩ : ∃ z, p.typ0 = z := ⟨_, rfl⟩
  obtain ⟨q, hq⟩ : ∃ q, p.typ = q := ⟨_, rfl⟩
  rw [hps] at HG hlen HIH hte
  rw [hz] at HSz HZ hte
  rw [hq] at hts hte ⊢
  have HTE := Lib.hid hte
  have hzz : z ≤ 1000000000 := by omega
  have hte2 : z + Pr.typs ps ≤ 1000000000 := by omega
  obtain ⟨tla, tln, tlc, htl⟩ : ∃ a n c, tl = .slice a n c := by
    obtain ⟨lv', kv', e, _, hl, hk2⟩ := hty
    simp only [Value.agg.injEq, Array.mk.injEq, List.cons.injEq, and_true, true_and] at e
    obtain ⟨rfl, rfl⟩ := e
    obtain ⟨a, n, c, e, _⟩ := hl.open
    exact ⟨a, n, c, e⟩
  obtain ⟨tka, tkn, tkc, htk⟩ : ∃ a n c, tk = .slice a n c := by
    obtain ⟨lv', kv', e, _, hl, hk2⟩ := hty
    simp only [Value.agg.injEq, Array.mk.injEq, List.cons.injEq, and_true, true_and] at e
    obtain ⟨rfl, rfl⟩ := e
    obtain ⟨a, n, c, e, _⟩ := hk2.open
    exact ⟨a, n, c, e⟩
  subst htl htk
  clear hget hk ih hps hz hq hte hty hb0
  unfold prAgg
  by_cases h6 : p.k = 6
  all_goals
    first
      | (have h6' : (p.k == 6) = true := by simpa using h6
         have HS1 := Lib.hid (HSz.out h6)
         have HZ1 : Hid (z = z) := Lib.hid rfl)
      | (have h6' : (p.k == 6) = false := by simpa using h6
         have HZ1 := Lib.hid (HZ.out h6))
    clear HSz HZ h6
    go_enter Tryz.func32, Tryz.ntmps32
    go_wp2_with (go_at_call 33; refine HS1.out.mono ?_; rintro e w1 ⟨rfl, hb1⟩)
    go_loopw [3, 4] (fun a i wr => ∃ j : Nat, i = .int .i64 j ∧ j ≤ len ∧ a = .int .i64 ((z + Pr.typs (ps.take j) : Nat) : Int) ∧ Below (w.heap.size + 1) (w.alloc (cell12 p lv av (.slice tla tln tlc) (.slice tka tkn tkc) (.slice pa len c))) wr) (fun _ i _ => len - (intOf i).toNat)
    case atStart => first | exact ⟨0, rfl, by omega, by simp [Pr.typs], by simpa using hb1⟩ | exact ⟨0, rfl, by omega, by simp [Pr.typs, HZ1.out], Below.refl _ _⟩
    case round =>
      obtain ⟨j, rfl, hj, rfl, hb⟩ := hrel
      have c11 : wr.cell? ⟨w.heap.size, 11, none⟩ = some (.slice pa len c) := blk_cell hb 11 rfl
      have hw := blk_below hb
      by_cases hlt : j < len
      · obtain ⟨t, ht⟩ : ∃ t, ps[j]? = some t := ⟨_, List.getElem?_eq_getElem (by rw [← hlen.out]; exact hlt)⟩
        obtain ⟨kb, ko, rfl, hkb, hty⟩ := HG.out j t ht
        obtain ⟨la', ln', lc', aa', an', ac', ta', tn', tc', ua', un', uc', ka', kn', kc', ⟨d0, d1, d2, d3, d4, d5, d6, d7, d8, d9, d10, d11⟩, hval⟩ := (hty.keep (hw.keeps'.mono hB)).load'
        have hsz := Pr.typs_take ht
        have hle := Pr.typs_take_le ps (j + 1)
        have IH := Lib.hid (HIH.out t (List.mem_of_getElem? ht) _ wr (hB.le hw.size) hval)
        obtain ⟨a0, ha0⟩ : ∃ a0, z + Pr.typs (ps.take j) = a0 := ⟨_, rfl⟩
        have HA := Lib.hid hsz
        have ha1 : a0 + t.typ ≤ 1000000000 := by omega
        have HA0 := Lib.hid ha0
        rw [ha0]
        unfold prAgg at IH
        clear hsz ha0 ht hval hty
        go_wp2_with (go_at_call 32; refine IH.out.mono ?_; rintro e w2 ⟨rfl, hb2⟩)
        go_roundw
        case rel => exact ⟨j + 1, by go_num, by omega, ret_val (by rw [HA.out]; have := HA0.out; omega), hb.trans (hb2.mono (by have := hb.size; simpa using this))⟩
        case measure => simp [intOf]; omega
      · obtain rfl : j = len := by omega
        go_wp2_with fail
        go_ret
        exact ⟨ret_int (by rw [List.take_of_length_le (by rw [hlen.out]; exact Nat.le_refl _), ← HTE.out]), hw⟩

theorem prtyp_any (B : Nat → Prop) : ∀ (p : Pr), p.tf → p.typ ≤ 1000000000 → ∀ (v : Value) (w : World), Low B w → PrVal B w v p → Calls Tryz.prog 32 #[v] w fun e w' => e = .returned (.int .i64 p.typ) ∧ Below w.heap.size w w' := by
  refine Pr.ind ?_
  intro k c x ls vs t ps ih htf hsz v w hB hv
  obtain ⟨lv, av, tl, tk, kv, rfl, _, _, _, hty, hk⟩ := hv
  have h1 : Pr.typs ps ≤ 1000000000 := by rw [Pr.typ_eq] at hsz; simp only [Pr.ps] at hsz; omega
  exact prtyp_step B (.mk k c x ls vs t ps) lv av tl tk kv hsz (by have := Pr.tf_size htf; omega) (fun u hu => ih u hu (Pr.tf_ps htf u hu) (Nat.le_trans (Pr.typ_mem hu) h1)) w hB hty hk

end Go.Proofs.YtgmdmbmkljbgiaaGreatDoor

/- Processes: the reference's left and Few. -/
namespace Go.Proofs.YtgmdmbmkljbgiaaGreatDoor
open Go.RowKit

mutual
def Pr.lft : Pr → Int → Int
  | .mk _ _ _ _ _ t ps, m => if t.few 300 then Pr.lfts ps (m - 1) else -1
def Pr.lfts : List Pr → Int → Int
  | [], m => m
  | p :: r, m => if 0 ≤ m then Pr.lfts r (p.lft m) else m
end
theorem Pr.lft_eq (p : Pr) (m : Int) : p.lft m = if p.t.few 300 then Pr.lfts p.ps (m - 1) else -1 := by
  cases p
  rename_i k c x ls vs t ps
  by_cases h : t.few 300 = true <;> simp [Pr.lft, Pr.ps, Pr.t, h]
theorem Pr.lfts_neg (ps : List Pr) (m : Int) (h : ¬ 0 ≤ m) : Pr.lfts ps m = m := by cases ps <;> simp [Pr.lfts, h]
mutual
theorem Pr.lft_range : ∀ (p : Pr) (m : Int), 0 ≤ m → -1 ≤ p.lft m ∧ p.lft m ≤ m ∧ (0 ≤ p.lft m → p.lft m = m - p.size ∧ p.tf)
  | .mk k c x ls vs t ps, m, h => by
    rw [Pr.lft_eq, Pr.size_eq]; simp only [Pr.ps, Pr.t, Pr.tf]
    by_cases hf : t.few 300 = true
    · simp only [hf, if_true, true_and]
      have := Pr.lfts_range ps (m - 1) (by omega)
      exact ⟨this.1, by omega, fun h0 => ⟨by have := (this.2.2 h0).1; omega, (this.2.2 h0).2⟩⟩
    · simp only [hf]
      exact ⟨by simp, by simp; omega, fun h0 => by simp at h0⟩
theorem Pr.lfts_range : ∀ (ps : List Pr) (m : Int), -1 ≤ m → -1 ≤ Pr.lfts ps m ∧ Pr.lfts ps m ≤ m ∧ (0 ≤ Pr.lfts ps m → Pr.lfts ps m = m - Pr.sizes ps ∧ Pr.tfs ps)
  | [], m, hm => by simp only [Pr.lfts, Pr.sizes, Pr.tfs]; exact ⟨hm, by omega, fun _ => ⟨by omega, trivial⟩⟩
  | p :: r, m, hm => by
    simp only [Pr.lfts, Pr.sizes, Pr.tfs]
    by_cases h : 0 ≤ m
    · rw [if_pos h]
      have h1 := Pr.lft_range p m h
      have h2 := Pr.lfts_range r (p.lft m) h1.1
      refine ⟨h2.1, by omega, fun h0 => ?_⟩
      have h3 := h2.2.2 h0
      have h4 := h1.2.2 (by omega)
      exact ⟨by omega, h4.2, h3.2⟩
    · rw [if_neg h]
      exact ⟨hm, by omega, fun h0 => absurd h0 h⟩
end
theorem Pr.lfts_drop {ps : List Pr} {j : Nat} {p : Pr} (h : ps[j]? = some p) (m : Int) (hm : 0 ≤ m) : Pr.lfts (ps.drop j) m = Pr.lfts (ps.drop (j + 1)) (p.lft m) := by
  have hj := (List.getElem?_eq_some_iff.1 h).1
  have e : ps.drop j = p :: ps.drop (j + 1) := by rw [List.drop_eq_getElem_cons hj]; congr 1; exact (List.getElem?_eq_some_iff.1 h).2
  rw [e, Pr.lfts, if_pos hm]

theorem slices_of {B : Nat → Prop} {w : World} {t : Ty} {k p s : Int} {n : ByteArray} {tl tk : Value} (h : TyVal B w (.agg #[.int .i64 k, .int .i64 p, .string n, .int .i64 s, tl, tk]) t) : (∃ (a : Option Addr) (n c : Nat), tl = .slice a n c) ∧ ∃ (a : Option Addr) (n c : Nat), tk = .slice a n c := by
  obtain ⟨lv', kv', e, _, hl, hk2⟩ := h
  simp only [Value.agg.injEq, Array.mk.injEq, List.cons.injEq, and_true] at e
  obtain ⟨_, _, _, _, rfl, rfl⟩ := e
  obtain ⟨a, n, c, e, _⟩ := hl.open
  obtain ⟨a', n', c', e', _⟩ := hk2.open
  exact ⟨⟨a, n, c, e⟩, a', n', c', e'⟩

set_option maxHeartbeats 2000000 in
theorem prleft_step (B : Nat → Prop) (p : Pr) (lv av tl tk kv : Value) (m : Int) (hm0 : 0 ≤ m) (hm1 : m ≤ 1000000)
    (ih : ∀ u ∈ p.ps, ∀ (m : Int), 0 ≤ m → m ≤ 1000000 → ∀ (v : Value) (w : World), Low B w → PrVal B w v u → Calls Tryz.prog 41 #[v, .int .i64 m] w fun e w' => e = .returned (.int .i64 (u.lft m)) ∧ Below w.heap.size w w')
    (w : World) (hB : Low B w) (hty : TyVal B w (.agg #[.int .i64 p.t.k, .int .i64 p.t.p, .string p.t.n, .int .i64 p.t.s, tl, tk]) p.t) (hk : PrSl B w kv p.ps) :
    Calls Tryz.prog 41 #[prAgg p lv av tl tk kv, .int .i64 m] w fun e w' => e = .returned (.int .i64 (p.lft m)) ∧ Below w.heap.size w w' := by
  have hb0 : Below w.heap.size w (w.alloc (cell12 p lv av tl tk kv)) := (Below.refl _ _).alloc (Nat.le_refl _) _
  obtain ⟨f, hf⟩ : ∃ f, p.t.few 300 = f := ⟨_, rfl⟩
  have HF : Hid (Calls Tryz.prog 22 #[.agg #[.int .i64 p.t.k, .int .i64 p.t.p, .string p.t.n, .int .i64 p.t.s, tl, tk], .int .i64 300] (w.alloc (cell12 p lv av tl tk kv)) fun e w' => e = .returned (.bool f) ∧ Below (w.alloc (cell12 p lv av tl tk kv)).heap.size (w.alloc (cell12 p lv av tl tk kv)) w') := Lib.hid (by
    rw [← hf]; exact rfew_any B p.t 300 (by omega) _ _ (hB.le hb0.size) (hty.keep (hb0.keeps'.mono hB)))
  have HL : Hid (p.lft m = if f then Pr.lfts p.ps (m - 1) else -1) := Lib.hid (by rw [Pr.lft_eq, hf])
  rw [HL.out]
  obtain ⟨pa, len, c, rfl, hlen, hm, hget⟩ := hk.open
  obtain ⟨⟨tla, tln, tlc, rfl⟩, tka, tkn, tkc, rfl⟩ := slices_of hty
  have HG := Lib.hid hget
  have HIH := Lib.hid ih
  obtain ⟨ps, hps⟩ : ∃ ps, p.ps = ps := ⟨_, rfl⟩
  rw [hps] at HG hlen HIH ⊢
  clear hget hk ih hps hf HL hty hb0
  unfold prAgg
  cases f
  · rw [if_neg (by decide)]
    go_enter Tryz.func41, Tryz.ntmps41
    go_wp2_with (go_at_call 22; refine HF.out.mono ?_; rintro e w1 ⟨rfl, hb1⟩)
    go_ret
    exact ⟨rfl, below_seq (blkBelow w _ _) hb1⟩
  · rw [if_pos rfl]
    go_enter Tryz.func41, Tryz.ntmps41
    go_wp2_with (go_at_call 22; refine HF.out.mono ?_; rintro e w1 ⟨rfl, hb1⟩)
    have hbx : Below (w.heap.size + 1) (w.alloc (cell12 p lv av (.slice tla tln tlc) (.slice tka tkn tkc) (.slice pa len c))) w1 := by simpa using hb1
    have HBX := Lib.hid hbx
    clear hb1 hbx
    go_loopw [1, 5] (fun a i wr => ∃ (j : Nat) (q : Int), i = .int .i64 j ∧ j ≤ len ∧ a = .int .i64 q ∧ -1 ≤ q ∧ q ≤ 1000000 ∧ Hid (Pr.lfts (ps.drop j) q = Pr.lfts ps (m - 1)) ∧ Below (w.heap.size + 1) (w.alloc (cell12 p lv av (.slice tla tln tlc) (.slice tka tkn tkc) (.slice pa len c))) wr) (fun _ i _ => len - (intOf i).toNat)
    case atStart => exact ⟨0, _, rfl, by omega, rfl, by omega, by omega, Lib.hid rfl, HBX.out⟩
    case round =>
      obtain ⟨j, q, rfl, hj, rfl, hq0, hq1, HQ, hb⟩ := hrel
      have c11 : wr.cell? ⟨w.heap.size, 11, none⟩ = some (.slice pa len c) := blk_cell hb 11 rfl
      have hw := blk_below hb
      by_cases hlt : j < len
      · by_cases hq : 0 ≤ q
        · obtain ⟨t, ht⟩ : ∃ t, ps[j]? = some t := ⟨_, List.getElem?_eq_getElem (by rw [← hlen.out]; exact hlt)⟩
          obtain ⟨kb, ko, rfl, hkb, hty⟩ := HG.out j t ht
          obtain ⟨la', ln', lc', aa', an', ac', ta', tn', tc', ua', un', uc', ka', kn', kc', ⟨d0, d1, d2, d3, d4, d5, d6, d7, d8, d9, d10, d11⟩, hval⟩ := (hty.keep (hw.keeps'.mono hB)).load'
          have IH := Lib.hid (HIH.out t (List.mem_of_getElem? ht) q hq hq1 _ wr (hB.le hw.size) hval)
          have HT := Lib.hid ((Pr.lfts_drop ht q hq).symm.trans HQ.out)
          have hr := t.lft_range q hq
          have hr1 := hr.1
          have hr2 := hr.2.1
          unfold prAgg at IH
          clear ht hr hval hty
          go_wp2_with (go_at_call 41; refine IH.out.mono ?_; rintro e w2 ⟨rfl, hb2⟩)
          go_roundw
          case rel => exact ⟨j + 1, _, by go_num, by omega, rfl, hr1, by omega, HT, hb.trans (hb2.mono (by have := hb.size; simpa using this))⟩
          case measure => simp [intOf]; omega
        · have hq' : decide (0 ≤ q) = false := by simpa using hq
          go_wp2_with fail
          go_ret
          exact ⟨ret_int (by rw [← HQ.out, Pr.lfts_neg _ _ (by omega)]), hw⟩
      · obtain rfl : j = len := by omega
        go_wp2_with fail
        go_ret
        exact ⟨ret_int (by rw [← HQ.out, List.drop_of_length_le (by rw [hlen.out]; exact Nat.le_refl _)]; simp [Pr.lfts]), hw⟩

theorem prleft_any (B : Nat → Prop) : ∀ (p : Pr) (m : Int), 0 ≤ m → m ≤ 1000000 → ∀ (v : Value) (w : World), Low B w → PrVal B w v p → Calls Tryz.prog 41 #[v, .int .i64 m] w fun e w' => e = .returned (.int .i64 (p.lft m)) ∧ Below w.heap.size w w' := by
  refine Pr.ind ?_
  intro k c x ls vs t ps ih m h0 h1 v w hB hv
  obtain ⟨lv, av, tl, tk, kv, rfl, _, _, _, hty, hk⟩ := hv
  exact prleft_step B (.mk k c x ls vs t ps) lv av tl tk kv m h0 h1 ih w hB hty hk

/-- Is a process small? -/
def Pr.few (p : Pr) (m : Nat) : Bool := decide (0 ≤ p.lft m) && decide (p.depth ≤ 150)
theorem Pr.few_facts {p : Pr} {m : Nat} (h : p.few m = true) : p.size ≤ m ∧ p.depth ≤ 150 ∧ p.tf := by
  have h' : 0 ≤ p.lft m ∧ p.depth ≤ 150 := by simpa [Pr.few] using h
  have h1 := p.lft_range m (by omega)
  have h2 := h1.2.2 h'.1
  exact ⟨by omega, h'.2, h2.2⟩

set_option maxHeartbeats 1000000 in
theorem prfew_any (B : Nat → Prop) (p : Pr) (m : Nat) (hm : m ≤ 1000000) (v : Value) (w : World) (hB : Low B w) (hv : PrVal B w v p) :
    Calls Tryz.prog 21 #[v, .int .i64 m] w fun e w' => e = .returned (.bool (p.few m)) ∧ Below w.heap.size w w' := by
  have hv0 := hv
  obtain ⟨lv, av, tl, tk, kv, rfl, _, hl, ha, hty, hk⟩ := hv0
  obtain ⟨pa, len, c, rfl, _⟩ := hk.open
  obtain ⟨⟨tla, tln, tlc, rfl⟩, tka, tkn, tkc, rfl⟩ := slices_of hty
  obtain ⟨la, ln, lc, rfl, _⟩ := hl.open
  obtain ⟨aa, an, ac, rfl, _⟩ := ha.open
  have hb0 : Below w.heap.size w (w.alloc (cell12 p (.slice la ln lc) (.slice aa an ac) (.slice tla tln tlc) (.slice tka tkn tkc) (.slice pa len c))) := (Below.refl _ _).alloc (Nat.le_refl _) _
  have HL := Lib.hid (fun (W : World) (hW : Below w.heap.size w W) => prleft_any B p m (by omega) (by omega) _ W (hB.le hW.size) (hv.to hB hW))
  have HD := Lib.hid (fun (h : p.depth ≤ 1000000) (W : World) (hW : Below w.heap.size w W) => prdepth_any B p h _ W (hB.le hW.size) (hv.to hB hW))
  have hrg := p.lft_range m (by omega)
  have hds := p.depth_le_size
  obtain ⟨q, hq⟩ : ∃ q, p.lft m = q := ⟨_, rfl⟩
  obtain ⟨d, hd⟩ : ∃ d, p.depth = d := ⟨_, rfl⟩
  have HFW : Hid (p.few m = (decide (0 ≤ q) && decide (d ≤ 150))) := Lib.hid (by unfold Pr.few; rw [hq, hd])
  rw [HFW.out]
  rw [hq] at HL hrg
  rw [hd] at HD hds
  have HB0 := Lib.hid hb0
  have hd2 : 0 ≤ q → d ≤ 1000000 := fun h => by have := hrg.2.2 h; omega
  clear hl ha hty hk hv hq hd HFW hrg hb0
  unfold prAgg at HL HD ⊢
  by_cases h0 : 0 ≤ q
  · have h0' : decide (0 ≤ q) = true := by simpa using h0
    have HD2 := Lib.hid (HD.out (hd2 h0))
    rw [h0', Bool.true_and]
    clear HD hd2
    by_cases h1 : d ≤ 150
    · have h1' : decide ((d : Int) ≤ 150) = true := by simp; omega
      have h1'' : (d : Int) ≤ 150 := by omega
      rw [show decide (d ≤ 150) = true by simpa using h1]
      go_enter Tryz.func21, Tryz.ntmps21
      go_wp2_with (first | (go_at_call 41; refine (HL.out _ HB0.out).mono ?_; rintro e w2 ⟨rfl, hb2⟩; obtain ⟨hcl, hfz⟩ := bcell hb2) | (go_at_call 42; refine (HD2.out _ (below_seq HB0.out hb2)).mono ?_; rintro e w3 ⟨rfl, hb3⟩))
      go_ret
      exact ⟨rfl, below_seq HB0.out (below_seq hb2 hb3)⟩
    · have h1' : decide ((d : Int) ≤ 150) = false := by simp; omega
      have h1'' : ¬ (d : Int) ≤ 150 := by omega
      rw [show decide (d ≤ 150) = false by simpa using h1]
      go_enter Tryz.func21, Tryz.ntmps21
      go_wp2_with (first | (go_at_call 41; refine (HL.out _ HB0.out).mono ?_; rintro e w2 ⟨rfl, hb2⟩; obtain ⟨hcl, hfz⟩ := bcell hb2) | (go_at_call 42; refine (HD2.out _ (below_seq HB0.out hb2)).mono ?_; rintro e w3 ⟨rfl, hb3⟩))
      go_ret
      exact ⟨rfl, below_seq HB0.out (below_seq hb2 hb3)⟩
  · have h0' : decide (0 ≤ q) = false := by simpa using h0
    rw [h0', Bool.false_and]
    clear hd2
    go_enter Tryz.func21, Tryz.ntmps21
    go_wp2_with (go_at_call 41; refine (HL.out _ HB0.out).mono ?_; rintro e w2 ⟨rfl, hb2⟩)
    go_ret
    exact ⟨rfl, below_seq HB0.out hb2⟩

end Go.Proofs.YtgmdmbmkljbgiaaGreatDoor

/- Programs: their sizes, and the rows of what they hold. -/
namespace Go.Proofs.YtgmdmbmkljbgiaaGreatDoor
open Go.RowKit Go.Deep Go.Shelf

def sumN : List Nat → Nat
  | [] => 0
  | x :: r => x + sumN r
theorem sumN_append (l r : List Nat) : sumN (l ++ r) = sumN l + sumN r := by
  induction l with
  | nil => simp [sumN]
  | cons x l ih => simp only [List.cons_append, sumN, ih]; omega
theorem sumN_le_of_prefix {l r : List Nat} (h : l <+: r) : sumN l ≤ sumN r := by
  obtain ⟨s, rfl⟩ := h
  rw [sumN_append]; omega

/-- What the nodes of a process add. -/
def addsL (l : List (Nat × Pr)) : List Nat := l.map fun x => x.2.adds
theorem Pr.adds_eq (p : Pr) : p.adds = 1 + p.typ0 := by
  unfold Pr.adds Pr.typ0
  by_cases h : p.k = 6
  · rw [if_pos h, if_pos h]
  · rw [if_neg h, if_neg h]
theorem sum_adds : ∀ (p : Pr) (d : Nat), sumN (addsL (preP d p)) = p.size + p.typ := by
  refine Pr.ind ?_
  intro k c x ls vs t ps ih d
  have h : ∀ (l : List Pr) (d : Nat), (∀ p ∈ l, ∀ d, sumN (addsL (preP d p)) = p.size + p.typ) → sumN (addsL (prePs d l)) = Pr.sizes l + Pr.typs l := by
    intro l
    induction l with
    | nil => intro _ _; simp [prePs, addsL, sumN, Pr.sizes, Pr.typs]
    | cons u r ihl =>
      intro d hh
      have h1 := hh u (by simp) d
      have h2 := ihl d (fun t ht => hh t (by simp [ht]))
      unfold addsL at h1 h2 ⊢
      rw [prePs, List.map_append, sumN_append, h1, h2, Pr.sizes, Pr.typs]; omega
  have h1 := h ps (d + 1) ih
  rw [preP_eq, Pr.size_eq, Pr.typ_eq]
  unfold addsL at h1 ⊢
  rw [List.map_cons, sumN]
  show (Pr.mk k c x ls vs t ps).adds + sumN (List.map (fun x => x.2.adds) (prePs (d + 1) ps)) = _
  rw [h1, Pr.adds_eq]
  simp only [Pr.ps]
  omega

def Df.pms (d : Df) : List Nat := d.ms.map fun a => a.t.size
def Pg.bodies (g : Pg) : List Pr := g.ds.map (fun d => d.b) ++ [g.m]
def bodyCnts (l : List Pr) : List Nat := l.flatMap fun p => addsL (preP 1 p)
def paramCnts (l : List Df) : List Nat := l.flatMap Df.pms
/-- The numbers that make up the size of a program, part by part. -/
def Pg.cnts (g : Pg) : List Nat := paramCnts g.ds ++ bodyCnts g.bodies
def Pg.total (g : Pg) : Nat := sumN g.cnts
def Df.all (d : Df) : Nat := d.b.size + d.b.typ + sumN d.pms
theorem Pg.total_eq (g : Pg) : g.total = g.m.size + g.m.typ + sumN (g.ds.map Df.all) := by
  have h1 : ∀ l : List Pr, sumN (bodyCnts l) = sumN (l.map fun p => p.size + p.typ) := by
    intro l
    induction l with
    | nil => rfl
    | cons p r ih =>
      unfold bodyCnts at ih ⊢
      rw [List.flatMap_cons, sumN_append, sum_adds, ih, List.map_cons, sumN]
  have h2 : ∀ l : List Df, sumN (paramCnts l) + sumN ((l.map (fun d => d.b)).map fun p => p.size + p.typ) = sumN (l.map Df.all) := by
    intro l
    induction l with
    | nil => rfl
    | cons d r ih =>
      unfold paramCnts at ih ⊢
      rw [List.flatMap_cons, sumN_append, List.map_cons, List.map_cons, sumN, List.map_cons, sumN, ← ih]
      unfold Df.all
      omega
  unfold Pg.total Pg.cnts Pg.bodies
  have := h2 g.ds
  rw [sumN_append, h1, List.map_append, sumN_append]
  simp only [List.map_cons, List.map_nil, sumN]
  omega

theorem flatMap_take {α β : Type} {l : List α} {j : Nat} {x : α} (f : α → List β) (h : l[j]? = some x) : (l.take (j + 1)).flatMap f = (l.take j).flatMap f ++ f x := by
  rw [take_snoc_get h, List.flatMap_append]; simp
theorem flatMap_prefix {α β : Type} (l : List α) (j : Nat) (f : α → List β) : (l.take j).flatMap f <+: l.flatMap f := by
  conv => rhs; rw [← List.take_append_drop j l, List.flatMap_append]
  exact List.prefix_append _ _
theorem map_take_snoc {α β : Type} {l : List α} {j : Nat} {x : α} (f : α → β) (h : l[j]? = some x) : (l.take (j + 1)).map f = (l.take j).map f ++ [f x] := by
  rw [take_snoc_get h, List.map_append]; rfl
theorem map_prefix {α β : Type} (l : List α) (j : Nat) (f : α → β) : (l.take j).map f <+: l.map f := by
  conv => rhs; rw [← List.take_append_drop j l, List.map_append]
  exact List.prefix_append _ _

/-! ### Loads -/
theorem PmAt.load' {B : Nat → Prop} {w : World} {a : Pm} {b o : Nat} (h : PmAt B w a b o) :
    ∃ (la : Option Addr) (ln lc : Nat) (ka : Option Addr) (kn kc : Nat),
      (w.cell? ⟨b, o, none⟩ = some (.string a.n) ∧ w.cell? ⟨b, o + 1, none⟩ = some (.int .i64 a.t.k) ∧ w.cell? ⟨b, o + 2, none⟩ = some (.int .i64 a.t.p) ∧ w.cell? ⟨b, o + 3, none⟩ = some (.string a.t.n) ∧ w.cell? ⟨b, o + 4, none⟩ = some (.int .i64 a.t.s) ∧ w.cell? ⟨b, o + 5, none⟩ = some (.slice la ln lc) ∧ w.cell? ⟨b, o + 6, none⟩ = some (.slice ka kn kc)) ∧
      TyVal B w (.agg #[.int .i64 a.t.k, .int .i64 a.t.p, .string a.t.n, .int .i64 a.t.s, .slice la ln lc, .slice ka kn kc]) a.t := by
  obtain ⟨_, c0, hty⟩ := h
  obtain ⟨la, ln, lc, ka, kn, kc, ⟨d0, d1, d2, d3, d4, d5⟩, hv⟩ := hty.load'
  exact ⟨la, ln, lc, ka, kn, kc, ⟨c0, d0, d1, d2, d3, d4, d5⟩, hv⟩
theorem DfAt.load' {B : Nat → Prop} {w : World} {d : Df} {b o : Nat} (h : DfAt B w d b o) :
    ∃ (ma : Option Addr) (mn mc : Nat) (la : Option Addr) (ln lc : Nat) (aa : Option Addr) (an ac : Nat) (ta : Option Addr) (tn tc : Nat) (ua : Option Addr) (un uc : Nat) (ka : Option Addr) (kn kc : Nat),
      (w.cell? ⟨b, o, none⟩ = some (.string d.n) ∧ w.cell? ⟨b, o + 1, none⟩ = some (.slice ma mn mc) ∧ w.cell? ⟨b, o + 2, none⟩ = some (.int .i64 d.b.k) ∧ w.cell? ⟨b, o + 3, none⟩ = some (.string d.b.c) ∧ w.cell? ⟨b, o + 4, none⟩ = some (.string d.b.x) ∧
       w.cell? ⟨b, o + 5, none⟩ = some (.slice la ln lc) ∧ w.cell? ⟨b, o + 6, none⟩ = some (.slice aa an ac) ∧
       w.cell? ⟨b, o + 7, none⟩ = some (.int .i64 d.b.t.k) ∧ w.cell? ⟨b, o + 8, none⟩ = some (.int .i64 d.b.t.p) ∧ w.cell? ⟨b, o + 9, none⟩ = some (.string d.b.t.n) ∧ w.cell? ⟨b, o + 10, none⟩ = some (.int .i64 d.b.t.s) ∧
       w.cell? ⟨b, o + 11, none⟩ = some (.slice ta tn tc) ∧ w.cell? ⟨b, o + 12, none⟩ = some (.slice ua un uc) ∧ w.cell? ⟨b, o + 13, none⟩ = some (.slice ka kn kc)) ∧
      PmSl B w (.slice ma mn mc) d.ms ∧ PrVal B w (prAgg d.b (.slice la ln lc) (.slice aa an ac) (.slice ta tn tc) (.slice ua un uc) (.slice ka kn kc)) d.b := by
  obtain ⟨_, c0, ⟨mv, c1, hm⟩, hp⟩ := h
  obtain ⟨ma, mn, mc, rfl, _⟩ := hm.open
  obtain ⟨la, ln, lc, aa, an, ac, ta, tn, tc, ua, un, uc, ka, kn, kc, ⟨d0, d1, d2, d3, d4, d5, d6, d7, d8, d9, d10, d11⟩, hv⟩ := hp.load'
  exact ⟨ma, mn, mc, la, ln, lc, aa, an, ac, ta, tn, tc, ua, un, uc, ka, kn, kc, ⟨c0, c1, d0, d1, d2, d3, d4, d5, d6, d7, d8, d9, d10, d11⟩, hm, hv⟩
/-- What is asked of the processes that are looked at. -/
def PGood (p : Pr) : Prop := p.fine ∧ p.tf
theorem PGood.ps {p : Pr} (h : PGood p) : ∀ u ∈ p.ps, PGood u := fun u hu => ⟨Pr.fine_ps h.1 u hu, Pr.tf_ps h.2 u hu⟩

/-- What is asked of the programs that are measured. -/
def GGood (g : Pg) : Prop := g.ds.length ≤ 1000 ∧ (∀ d ∈ g.ds, ∀ a ∈ d.ms, a.t.fine ∧ a.t.few 300 = true) ∧ ∀ p ∈ g.bodies, PGood p ∧ p.depth ≤ 1000 ∧ p.size ≤ 1000000
theorem GGood.pm {g : Pg} (h : GGood g) {d : Df} (hd : d ∈ g.ds) {a : Pm} (ha : a ∈ d.ms) : a.t.size ≤ 300 ∧ a.t.depth ≤ 150 := few_size (h.2.1 d hd a ha).2
theorem Pg.body_mem {g : Pg} {d : Df} (hd : d ∈ g.ds) : d.b ∈ g.bodies := by unfold Pg.bodies; simp only [List.mem_append, List.mem_map]; exact .inl ⟨d, hd, rfl⟩
theorem Pg.main_mem (g : Pg) : g.m ∈ g.bodies := by unfold Pg.bodies; simp

end Go.Proofs.YtgmdmbmkljbgiaaGreatDoor

/- Programs: bodies. -/
namespace Go.Proofs.YtgmdmbmkljbgiaaGreatDoor
open Go.RowKit Go.Deep Go.Shelf

theorem pptrInfo : (Tryz.prog.info? 66).map (fun i => (i.zero, i.size, i.bytes)) = some (some (.pointer none), 1, 8) := by kernel_rfl
theorem news1 (W : World) (x : Value) (t : TypeId) : ∀ (j : Nat) (u : Value), [x][j]? = some u → (W.alloc (.cells #[x] t)).cell? ((⟨W.heap.size, 0, none⟩ : Addr).add j) = some u := by
  intro j u hj
  match j, hj with
  | 0, hj => simp at hj; subst hj; simp [Addr.add]
/-- The address of a definition's Body. -/
def bAd (pa : Option Addr) (i : Nat) : Value := .pointer (pa.map fun a => ⟨a.block, a.off + i * 14 + 2, none⟩)
def bAds (pa : Option Addr) (j : Nat) : List Value := (List.range j).map (bAd pa)
theorem bAds_succ (pa : Option Addr) (j : Nat) : bAds pa (j + 1) = bAds pa j ++ [bAd pa j] := by simp [bAds, List.range_succ]
theorem bAds_length (pa : Option Addr) (j : Nat) : (bAds pa j).length = j := by simp [bAds]
theorem bAds_get (pa : Option Addr) (j i : Nat) (h : i < j) : (bAds pa j)[i]? = some (bAd pa i) := by simp [bAds, h]
/-- The bodies of a program, one pointer each, lie in block r. -/
def BodyRow (S : Nat → Prop) (W : World) (r : Nat) (g : Pg) : Prop := ∀ (i : Nat) (p : Pr), g.bodies[i]? = some p → ∃ kb ko, W.cell? ⟨r, i, none⟩ = some (.pointer (some ⟨kb, ko, none⟩)) ∧ PrAt S W p kb ko

theorem hW_keep (S : Nat → Prop) {w W : World} (hS : Low S w) (h : Below w.heap.size w W) : Keeps S w W := h.keeps'.mono hS

set_option maxHeartbeats 2000000 in
set_option maxRecDepth 100000 in
theorem bodies_any (S : Nat → Prop) (g : Pg) (b o : Nat) (w : World) (hS : Low S w) (hg : PgAt S w g b o) (hn : g.ds.length ≤ 1000000) :
    Calls Tryz.prog 46 #[.pointer (some ⟨b, o, none⟩)] w fun e w' => ∃ r c, e = .returned (.slice (some ⟨r, 0, none⟩) g.bodies.length c) ∧ BodyRow S w' r g ∧ w.heap.size ≤ r ∧ r < w'.heap.size ∧ Below w.heap.size w w' := by
  obtain ⟨hSb, ⟨dv, c0, hd⟩, hm⟩ := hg
  have hbl := hS b hSb
  obtain ⟨pa, len, c, rfl, hlen, hmx, hget⟩ := hd.open
  have hln : len ≤ 1000000 := by have := hlen.out; omega
  obtain ⟨i0, hi, hz0, hz1, hz2⟩ := info_parts pptrInfo
  have HG := Lib.hid hget
  have HM := Lib.hid hm
  clear hget hm hd
  go_enter Tryz.func46, Tryz.ntmps46
  go_wp2_with fail
  go_loopw [3, 10] (fun v i wr => ∃ k : Nat, i = .int .i64 k ∧ k ≤ len ∧ wr.ownsRow w.heap.size 66 1 v k (bAds pa k) ∧ Below w.heap.size w wr) (fun _ i _ => len - (intOf i).toNat)
  case atStart => exact ⟨0, rfl, by omega, World.ownsRow_nil _ _ _ _, Below.refl _ _⟩
  case round =>
    obtain ⟨k, rfl, hk, hrow, hB⟩ := hrel
    have c1 := (hB.cell (p := ⟨b, o, none⟩) hbl).trans c0
    by_cases hlt : k < len
    · obtain ⟨d, hdk⟩ : ∃ d, g.ds[k]? = some d := ⟨_, List.getElem?_eq_getElem (by rw [← hlen.out]; exact hlt)⟩
      obtain ⟨kb, ko, rfl, hkb, hda⟩ := HG.out k d hdk
      have hsz := hB.size
      have hs3 : bAds (some ⟨kb, ko, none⟩) (k + 1) = bAds (some ⟨kb, ko, none⟩) k ++ [.pointer (some ⟨kb, ko + k * 14 + 2, none⟩)] := bAds_succ _ _
      have HS := Lib.hid hs3
      clear hdk hda hs3
      go_wp2_with (at_builtin; refine wpList_append_own _ rfl _ _ 83 rfl w.heap.size 66 i0 (.pointer none) 1 8 Tryz.underlying83 hi hz0 hz1 hz2 rfl (by decide) _ _ _ rfl (hrow.alloc _) ⟨wr.heap.size, 0, none⟩ 1 1 [.pointer (some ⟨kb, ko + k * 14 + 2, none⟩)] rfl rfl (news1 wr _ _) (fun u hu => by simp at hu; subst hu; rfl) (by unfold maxLen; omega) (by omega) (by simp; omega) ?_; intro v' w1 hown' hgrow _)
      have hbw : Below w.heap.size wr w1 := ((Below.refl w.heap.size wr).alloc hsz (.cells #[.pointer (some ⟨kb, ko + k * 14 + 2, none⟩)] 66)).grown hgrow (by simp; omega) (fun j ej => (hrow.lt j ej).1)
      have HW := Lib.hid hbw
      clear hgrow hbw
      go_wp2_with fail
      go_roundw
      case rel => exact ⟨k + 1, by go_num, by omega, by rw [HS.out]; exact hown', hB.trans HW.out⟩
      case measure => simp [intOf]; omega
    · obtain rfl : k = len := by omega
      have hsz := hB.size
      go_wp2_with (at_builtin; refine wpList_append_own _ rfl _ _ 83 rfl w.heap.size 66 i0 (.pointer none) 1 8 Tryz.underlying83 hi hz0 hz1 hz2 rfl (by decide) _ _ _ rfl (hrow.alloc _) ⟨wr.heap.size, 0, none⟩ 1 1 [.pointer (some ⟨b, o + 1, none⟩)] rfl rfl (news1 wr _ _) (fun u hu => by simp at hu; subst hu; rfl) (by unfold maxLen; omega) (by omega) (by simp; omega) ?_; intro v' w1 hown' hgrow _)
      have hbw : Below w.heap.size wr w1 := ((Below.refl w.heap.size wr).alloc hsz (.cells #[.pointer (some ⟨b, o + 1, none⟩)] 66)).grown hgrow (by simp; omega) (fun j ej => (hrow.lt j ej).1)
      have HW := Lib.hid (hB.trans hbw)
      have HO := Lib.hid hown'
      clear hgrow hbw hown'
      go_wp2_with fail
      go_ret
      have hown := HO.out
      rcases hown.2 with ⟨rfl, h0⟩ | ⟨r, cap, cur, rfl, hrb, hrest⟩
      · omega
      have hbn : g.bodies.length = k + 1 := by unfold Pg.bodies; simp; exact hlen.out.symm
      refine ⟨r, cap, by rw [hbn]; rfl, fun i p hp => ?_, hrb, (hown.lt r rfl).2, HW.out⟩
      have hki := hW_keep S hS HW.out
      have hil := (List.getElem?_eq_some_iff.1 hp).1
      rw [hbn] at hil
      have hc := hown.cellAt i (by omega)
      unfold Pg.bodies at hp
      rcases Nat.lt_or_ge i k with hik | hik
      · have hds : i < g.ds.length := by rw [← hlen.out]; exact hik
        rw [List.getElem?_append_left (by simpa using hds), List.getElem?_map] at hp
        obtain ⟨d, hd⟩ : ∃ d, g.ds[i]? = some d := ⟨_, List.getElem?_eq_getElem hds⟩
        rw [hd] at hp
        simp only [Option.map_some, Option.some.injEq] at hp
        subst hp
        obtain ⟨kb, ko, rfl, hkb, hda⟩ := HG.out i d hd
        refine ⟨kb, ko + i * 14 + 2, ?_, PrAt.keep hki _ _ _ hda.2.2.2⟩
        rw [hc, List.getElem?_append_left (by rw [bAds_length]; exact hik), bAds_get _ _ _ hik]
        rfl
      · obtain rfl : i = k := by omega
        have hme : g.m = p := by
          rw [List.getElem?_append_right (by simp; have := hlen.out; omega)] at hp
          simpa [← hlen.out] using hp
        subst hme
        refine ⟨b, o + 1, ?_, PrAt.keep hki _ _ _ HM.out⟩
        rw [hc, List.getElem?_append_right (by rw [bAds_length]; exact Nat.le_refl _), bAds_length, Nat.sub_self]
        rfl

end Go.Proofs.YtgmdmbmkljbgiaaGreatDoor

/- A range over a function whose rounds keep all that is no cells from the iterator's start on: the iterator may itself range over functions. -/
namespace Go.Proofs.YtgmdmbmkljbgiaaGreatDoor
open Go.RowKit

theorem AbidesAll.below {β : Type} {B : Nat} {J : β → World → Prop} (h : AbidesAll B J) {s : β} {W W' : World} (hs : J s W) (hb : Below W.heap.size W W') : J s W' :=
  h s W W' none hs ⟨hb.os, hb.tape, hb.output, hb.size, fun k hk _ => hb.block k hk⟩ (fun r e => by cases e)
theorem AbidesAll.drew {β : Type} {B : Nat} {J : β → World → Prop} (h : AbidesAll B J) {s : β} {W : World} (hs : J s W) : J s W.drew := h.below hs (Below.refl _ _).drew
theorem _root_.Go.KeepsFrom.le {B B' : Nat} {A C : World} (h : KeepsFrom B A C) (hB : B ≤ B') : KeepsFrom B' A C := ⟨h.size, fun k o hk hc hx => h.same k o (Nat.le_trans hB hk) hc hx⟩
theorem _root_.Go.KeepsFrom.put {B l : Nat} {W : World} (hl : l < B) (o : Obj) : KeepsFrom B W (W.putObj l o) := ⟨by simp, fun k o' hk hx _ => (World.putObj_heap_other (by omega)).trans hx⟩

/-- What an iterator does, where each round keeps all that is no cells from the iterator's start on. -/
def Tells2 {α : Type} (F : Fence) (n : Nat) (P : Program) (g : Nat) (lb : Array Value) (encs : α → Array Value) (Px : α → World → Prop) (Kp : World → World → Prop) (S Sp : List α → Prop) (w : World) : Prop :=
  ∀ (l : Nat) (J Jx : List α → World → Prop) (W : World), Below w.heap.size w W → AbidesAll W.heap.size J → AbidesAll W.heap.size Jx →
    (∀ pre x W1, J pre W1 → Px x W1 → YieldAt F (n - 1) P l (encs x) W1 fun e W' =>
      ((e = .returned (.bool true) ∧ J (pre ++ [x]) W' ∧ Kp W1 W') ∨ (e = .returned (.bool false) ∧ Jx (pre ++ [x]) W')) ∧ KeepsFrom W.heap.size W1 W') →
    J [] W →
    CallsIn F n P g (#[.func (.yield l) #[] #[]] ++ lb) W fun e W' => (∃ v, e = .returned v) ∧ ((∃ xs, S xs ∧ J xs W') ∨ (∃ pre, Sp pre ∧ Jx pre W'))

variable {F : Fence} {n : Nat} {P : Program}

theorem wpIn_range_told2 {α : Type} {g : Operand} {ps : Array Tmp} {assign body : Code} {Q : Exit → Act → World → Prop} {a : Act} {w : World}
    (hro : F.round = none) (h1 : 1 ≤ n) {gf : Nat} {lb : Array Value} (hg : a.eval g = .func (.func gf) #[] lb) (hFg : F.fn gf) (eg : ∀ args w, (callFunc gf args).run P w = .ok (.enter gf args) w)
    {encs : α → Array Value} {Px : α → World → Prop} {Kp : World → World → Prop} {S Sp : List α → Prop} {w0 : World} (hseq : Tells2 F (n - 1) P gf lb encs Px Kp S Sp w0)
    (hKt : ∀ {A B C : World}, Kp A B → Kp B C → Kp A C) (hKb : ∀ (W : World) (l : Nat) (o o' : Obj), w.heap.size ≤ l → W.heap[l]? = some o → o.isCells = false → o.isWalk = false → Kp W (W.putObj l o'))
    (hPx : ∀ x A B, CellsKept A B → Px x A → Px x B) (hb0 : Below w0.heap.size w0 w) (hps : ∀ x, (encs x).size = ps.size)
    (I : List α → World → Prop) (Ix : Code → List α → World → Prop) (hI : AbidesAll w.heap.size I) (hIx : ∀ c, AbidesAll w.heap.size (Ix c)) (h0 : I [] w) (Ax : α → Act → World → Prop) (hAx : ∀ x a' A B, CellsKept A B → Ax x a' A → Ax x a' B)
    (hassign : ∀ (l : Nat) (pre : List α) (x : α) (W : World) (K : Act → World → Prop), I pre W → Px x W → (∀ a' W', KeepsFrom w.heap.size W W' → Kp W W' → I pre W' → Px x W' → Ax x a' W' → K a' W') →
      assign.wpIn (F.inRound l) (n - 1 - 1) P (Exit.then K (fun _ _ _ => False)) { tmps := (ps.zip (encs x)).foldl (fun t (p, v) => t.setIfInBounds p v) a.tmps, defers := [] } W)
    (hbody : ∀ (l : Nat) (pre : List α) (x : α) (a' : Act) (W : World), w.heap.size ≤ l → (∃ r, W.heap[l]? = some (.loop r)) → I pre W → Px x W → Ax x a' W → body.wpIn (F.inRound l) (n - 1 - 1) P (ownPostG w.heap.size Kp I Ix (pre ++ [x]) W) a' W)
    (hdone : ∀ (D : Nat) (xs : List α) (W : World), w.heap.size ≤ D → S xs → I xs W → W.heap[D]? = some (.deferred (some [])) → Q .normal { a with defers := { target := .collected D, args := #[] } :: a.defers } W)
    (hstop : ∀ (D : Nat) (c : Code) (pre : List α) (W : World), w.heap.size ≤ D → Sp pre → Ix c pre W → W.heap[D]? = some (.deferred (some [])) → c.wpIn F n P Q { a with defers := { target := .collected D, args := #[] } :: a.defers } W) :
    (Code.rangeFunc g ps assign body).wpIn F n P Q a w := by
  refine wpIn_rangeFunc ?_
  intro fn hfn
  rw [hro]
  generalize hL : w.heap.size + 1 = L
  have hLw : w.heap.size < L := by omega
  let rec_ (st : LoopState) (pe : Option Code) : Loop := { state := st, pending := pe, fn, tmps := a.tmps, params := ps, assign, body, defers := w.heap.size }
  obtain ⟨W1, hW1⟩ : ∃ W1, (w.alloc (.deferred (some []))).alloc (.loop (rec_ .ready none)) = W1 := ⟨_, rfl⟩
  have hs1 : W1.heap.size = L + 1 := by rw [← hW1]; simp; omega
  have hL1 : W1.heap[L]? = some (.loop (rec_ .ready none)) := by
    have h := World.alloc_heap_new (w.alloc (.deferred (some []))) (.loop (rec_ .ready none))
    rw [World.size_alloc, hL, hW1] at h; exact h
  have hK1 : W1.heap[w.heap.size]? = some (.deferred (some [])) := by
    rw [← hW1]; exact (Below.heap_alloc _ _ _ (by simp)).trans (World.alloc_heap_new w _)
  have hI1 : I [] W1 := by rw [← hW1]; exact hI.alloc _ (hI.alloc _ h0)
  have hb1 : Below w0.heap.size w0 W1 := by
    rw [← hW1]; exact hb0.trans ((((Below.refl _ w).alloc (Nat.le_refl _) _).alloc (by simp) _).mono hb0.size)
  refine ⟨L, [{ target := .collected w.heap.size, args := #[] }], W1, { target := .fn (.func gf) lb, args := #[.func (.yield L) #[] #[]] }, W1, gf, #[.func (.yield L) #[] #[]] ++ lb, W1, ?_, ?_, ?_, ?_, fun _ => h1, ?_⟩
  · rw [← hW1, ← hL]; exact run_enterLoop_outer _ _ _ _ _
  · simp only [resolve, hg]
    simp [go_sem]
  · intro f' hf'; simp [Target.leads] at hf'; subst hf'; exact hFg
  · simp [invoke, go_sem, eg]
  refine (hseq L (fun pre W => I pre W ∧ W.heap[L]? = some (.loop (rec_ .ready none)) ∧ W.heap[w.heap.size]? = some (.deferred (some [])))
    (fun pre W => ∃ c, Ix c pre W ∧ W.heap[L]? = some (.loop (rec_ .done (some c))) ∧ W.heap[w.heap.size]? = some (.deferred (some []))) W1 hb1
    ((hI.mono (by omega)).and ((abidesAll_block (by omega)).and (abidesAll_block (by omega)))) ?_ ?_ ⟨hI1, hL1, hK1⟩).mono ?_
  · rintro s A B row ⟨c, hc⟩ hg' hr
    exact ⟨c, ((hIx c).mono (by omega)).and ((abidesAll_block (by omega)).and (abidesAll_block (by omega))) s A B row hc hg' hr⟩
  · -- one round
    rintro pre x W ⟨hi, hl, hk⟩ hpx
    have hy := run_yield (P := P) (args := encs x) hl (hps x)
    refine ⟨fn, _, assign, body, hy, roundIn_of_wpIn hfn (hassign _ pre x W _ hi hpx ?_)⟩
    clear hy
    intro a' V hkf hkp hiV hpV hax
    have hlV := hkf.same _ _ (by omega) hl rfl
    have hkV := hkf.same _ _ (Nat.le_refl _) hk rfl
    refine ⟨_, run_beginRound hlV rfl, ?_⟩
    have hl2 : (V.putObj L (.loop (rec_ .busy none))).heap[L]? = some (.loop (rec_ .busy none)) := World.putObj_heap_same (Array.getElem?_eq_some_iff.1 hlV).1
    have hk2 : (V.putObj L (.loop (rec_ .busy none))).heap[w.heap.size]? = some (.deferred (some [])) := (World.putObj_heap_other (by omega)).trans hkV
    have hp2 : Kp V (V.putObj L (.loop (rec_ .busy none))) := hKb _ _ _ _ (by omega) hlV rfl rfl
    refine wpIn_mono (hbody _ pre x a' _ (by omega) ⟨_, hl2⟩ (hI.put _ hiV (by omega)) (hPx x _ _ (cellsKept_put hlV rfl) hpV) (hAx x a' _ _ (cellsKept_put hlV rfl) hax)) ?_
    have fin : ∀ (jump : Option Code) (X : World), KeepsFrom w.heap.size (V.putObj L (.loop (rec_ .busy none))) X →
        (Instr.endRound L jump).run P X = .ok (.bool jump.isNone) (X.putObj L (.loop (rec_ (if jump.isNone then .ready else .done) jump))) ∧ X.heap[L]? = some (.loop (rec_ .busy none)) ∧
        (X.putObj L (.loop (rec_ (if jump.isNone then .ready else .done) jump))).heap[L]? = some (.loop (rec_ (if jump.isNone then .ready else .done) jump)) ∧
        (X.putObj L (.loop (rec_ (if jump.isNone then .ready else .done) jump))).heap[w.heap.size]? = some (.deferred (some [])) := fun jump X hX => by
      have h3 := hX.same _ _ (by omega) hl2 rfl
      exact ⟨run_endRound (P := P) jump h3, h3, World.putObj_heap_same (Array.getElem?_eq_some_iff.1 h3).1, (World.putObj_heap_other (by omega)).trans (hX.same _ _ (Nat.le_refl _) hk2 rfl)⟩
    have all : ∀ (o : Obj) (X : World), KeepsFrom w.heap.size (V.putObj L (.loop (rec_ .busy none))) X → KeepsFrom W1.heap.size W (X.putObj L o) := fun o X hX =>
      ((hkf.le (by omega)).trans (Go.KeepsFrom.put (by omega) _)).trans ((hX.le (by omega)).trans (Go.KeepsFrom.put (by omega) _))
    rintro e a3 X hp
    cases e with
    | normal =>
      obtain ⟨hX, hkp3, hi3⟩ := hp
      obtain ⟨hr, hl3, hl4, hk4⟩ := fin none X hX
      exact ⟨_, _, hr, .inl ⟨rfl, ⟨hI.put _ hi3 (by omega), hl4, hk4⟩, hKt hkp (hKt (hKt hp2 hkp3) (hKb _ _ _ _ (by omega) hl3 rfl rfl))⟩, all _ X hX⟩
    | ret =>
      obtain ⟨hX, hi3⟩ := hp
      obtain ⟨hr, hl3, hl4, hk4⟩ := fin (some .ret) X hX
      exact ⟨_, _, hr, .inr ⟨rfl, .ret, (hIx _).put _ hi3 (by omega), hl4, hk4⟩, all _ X hX⟩
    | exit id =>
      obtain ⟨hX, hi3⟩ := hp
      obtain ⟨hr, hl3, hl4, hk4⟩ := fin (some (.exit id)) X hX
      exact ⟨_, _, hr, .inr ⟨rfl, .exit id, (hIx _).put _ hi3 (by omega), hl4, hk4⟩, all _ X hX⟩
    | goto t =>
      obtain ⟨hX, hi3⟩ := hp
      obtain ⟨hr, hl3, hl4, hk4⟩ := fin (some (.goto t)) X hX
      exact ⟨_, _, hr, .inr ⟨rfl, .goto t, (hIx _).put _ hi3 (by omega), hl4, hk4⟩, all _ X hX⟩
    | panic ch => exact hp.elim
    | outgrown => exact hp.elim
  · -- behind the iterator
    rintro e W2 ⟨⟨v, rfl⟩, (⟨xs, hS, hi, hl, hk⟩ | ⟨pre, hSp, c, hi, hl, hk⟩)⟩
    · exact ⟨none, _, run_endLoop (P := P) hl (by simp [rec_]), hdone _ xs _ (Nat.le_refl _) hS (hI.put _ hi (by omega)) ((World.putObj_heap_other (by omega)).trans hk)⟩
    · exact ⟨some c, _, run_endLoop (P := P) hl (by simp [rec_]), hstop _ c pre _ (Nat.le_refl _) hSp ((hIx c).put _ hi (by omega)) ((World.putObj_heap_other (by omega)).trans hk)⟩

end Go.Proofs.YtgmdmbmkljbgiaaGreatDoor
