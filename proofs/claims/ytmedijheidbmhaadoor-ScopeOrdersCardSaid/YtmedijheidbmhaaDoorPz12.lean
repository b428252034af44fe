/- Scopes: lists of definitions that a call owns, and append to them. (and what follows from it) -/
import Derived.Test.YtmedijheidbmhaaDoorPz8
import Derived.Test.YtmedijheidbmhaaDoorPz9
import Derived.Test.YtmedijheidbmhaaDoorPz10
import Derived.Laws.OwnMore
import Derived.Deep.RegionLaw

/- Scopes: lists of definitions that a call owns, and append to them. -/
namespace Go.Proofs.YtmedijheidbmhaaDoor
open Go.RowKit Go.Deep Go.Shelf

/-- A definition with the slices in its cells. -/
structure DV where
  d : Df
  mv : Value
  lv : Value
  av : Value
  tl : Value
  tk : Value
  kv : Value
def DV.cells (e : DV) : List Value := [.string e.d.n, e.mv, .int .i64 e.d.b.k, .string e.d.b.c, .string e.d.b.x, e.lv, e.av, .int .i64 e.d.b.t.k, .int .i64 e.d.b.t.p, .string e.d.b.t.n, .int .i64 e.d.b.t.s, e.tl, e.tk, e.kv]
theorem DV.cells_len (e : DV) : e.cells.length = 14 := rfl
structure DV.Ok (B : Nat → Prop) (w : World) (e : DV) : Prop where
  n : e.d.n.size ≤ maxLen
  m : PmSl B w e.mv e.d.ms
  p : PrVal B w (prAgg e.d.b e.lv e.av e.tl e.tk e.kv) e.d.b
theorem DV.Ok.to {B : Nat → Prop} {w w' : World} {e : DV} (h : e.Ok B w) (hb : Keeps B w w') : e.Ok B w' := ⟨h.n, h.m.keep hb, h.p.keep hb⟩
theorem DV.Ok.slices {B : Nat → Prop} {w : World} {e : DV} (h : e.Ok B w) : (∃ a n c, e.mv = .slice a n c) ∧ (∃ a n c, e.lv = .slice a n c) ∧ (∃ a n c, e.av = .slice a n c) ∧ (∃ a n c, e.tl = .slice a n c) ∧ (∃ a n c, e.tk = .slice a n c) ∧ ∃ a n c, e.kv = .slice a n c := by
  obtain ⟨a, n, c, h1, _⟩ := h.m.open
  obtain ⟨h2, h3, h4, h5, h6⟩ := pr_slices h.p
  exact ⟨⟨a, n, c, h1⟩, h2, h3, h4, h5, h6⟩
theorem DV.Ok.one {B : Nat → Prop} {w : World} {e : DV} (h : e.Ok B w) : ∀ u ∈ e.cells, u.oneCell' = true := by
  obtain ⟨⟨_, _, _, h1⟩, ⟨_, _, _, h2⟩, ⟨_, _, _, h3⟩, ⟨_, _, _, h4⟩, ⟨_, _, _, h5⟩, _, _, _, h6⟩ := h.slices
  unfold DV.cells
  rw [h1, h2, h3, h4, h5, h6]
  intro u hu
  simp only [List.mem_cons, List.not_mem_nil, or_false] at hu
  rcases hu with rfl | rfl | rfl | rfl | rfl | rfl | rfl | rfl | rfl | rfl | rfl | rfl | rfl | rfl <;> rfl
/-- What lies at a definition in memory. -/
theorem DfAt.dv {B : Nat → Prop} {w : World} {d : Df} {b o : Nat} (h : DfAt B w d b o) : ∃ e : DV, e.d = d ∧ e.Ok B w ∧ ∀ i u, e.cells[i]? = some u → w.cell? ⟨b, o + i, none⟩ = some u := by
  obtain ⟨h1, h2, ⟨mv, h3, h4⟩, h5⟩ := h
  obtain ⟨la, ln, lc, aa, an, ac, ta, tn, tc, ua, un, uc, ka, kn, kc, ⟨c0, c1, c2, c3, c4, c5, c6, c7, c8, c9, c10, c11⟩, hv⟩ := h5.load'
  refine ⟨⟨d, mv, .slice la ln lc, .slice aa an ac, .slice ta tn tc, .slice ua un uc, .slice ka kn kc⟩, rfl, ⟨h1, h4, hv⟩, fun i u hi => ?_⟩
  unfold DV.cells at hi
  match i, hi with
  | 0, hi => cases hi; exact h2
  | 1, hi => cases hi; exact h3
  | 2, hi => cases hi; exact c0
  | 3, hi => cases hi; exact c1
  | 4, hi => cases hi; exact c2
  | 5, hi => cases hi; exact c3
  | 6, hi => cases hi; exact c4
  | 7, hi => cases hi; exact c5
  | 8, hi => cases hi; exact c6
  | 9, hi => cases hi; exact c7
  | 10, hi => cases hi; exact c8
  | 11, hi => cases hi; exact c9
  | 12, hi => cases hi; exact c10
  | 13, hi => cases hi; exact c11
  | i + 14, hi => simp at hi
theorem dv_at {B S : Nat → Prop} {w : World} {e : DV} {b o : Nat} (h : e.Ok B w) (hBS : ∀ k, B k → S k) (hb : S b) (hc : ∀ i u, e.cells[i]? = some u → w.cell? ⟨b, o + i, none⟩ = some u) : DfAt S w e.d b o :=
  ⟨h.n, hc 0 _ rfl, ⟨e.mv, hc 1 _ rfl, h.m.mono hBS⟩, prAt_of hb (hc 2 _ rfl) (hc 3 _ rfl) (hc 4 _ rfl) (hc 5 _ rfl) (hc 6 _ rfl) (hc 7 _ rfl) (hc 8 _ rfl) (hc 9 _ rfl) (hc 10 _ rfl) (hc 11 _ rfl) (hc 12 _ rfl) (hc 13 _ rfl) (h.p.mono hBS)⟩

/-- All cells, one definition behind the other. -/
def dvCells : List DV → List Value
  | [] => []
  | e :: r => e.cells ++ dvCells r
theorem dvCells_append (l r : List DV) : dvCells (l ++ r) = dvCells l ++ dvCells r := by
  induction l with
  | nil => rfl
  | cons e l ih => rw [List.cons_append, dvCells, ih, dvCells, List.append_assoc]
theorem dvCells_len (l : List DV) : (dvCells l).length = l.length * 14 := by
  induction l with
  | nil => rfl
  | cons e l ih => rw [dvCells, List.length_append, ih, e.cells_len, List.length_cons]; omega
theorem dvCells_get : ∀ (l : List DV) (j i : Nat) (e : DV), l[j]? = some e → i < 14 → (dvCells l)[j * 14 + i]? = e.cells[i]?
  | [], j, i, e, h, _ => by simp at h
  | x :: r, 0, i, e, h, hi => by
    simp at h; subst h
    rw [dvCells, Nat.zero_mul, Nat.zero_add, List.getElem?_append_left (by rw [x.cells_len]; exact hi)]
  | x :: r, j + 1, i, e, h, hi => by
    rw [dvCells, List.getElem?_append_right (by rw [x.cells_len]; omega), x.cells_len, show (j + 1) * 14 + i - 14 = j * 14 + i by omega]
    exact dvCells_get r j i e (by simpa using h) hi
theorem dvCells_inv {l : List DV} {q : Nat} {u : Value} (h : (dvCells l)[q]? = some u) : ∃ e ∈ l, u ∈ e.cells := by
  induction l generalizing q with
  | nil => simp [dvCells] at h
  | cons x r ih =>
    rw [dvCells] at h
    have hm := List.mem_of_getElem? h
    rcases List.mem_append.1 hm with hm | hm
    · exact ⟨x, by simp, hm⟩
    · obtain ⟨i, hi⟩ := List.getElem?_of_mem hm
      obtain ⟨e, he, hu⟩ := ih hi
      exact ⟨e, by simp [he], hu⟩

abbrev zero14 : Value := .agg #[.string ⟨#[]⟩, .slice none 0 0, .int .i64 0, .string ⟨#[]⟩, .string ⟨#[]⟩, .slice none 0 0, .slice none 0 0, .int .i64 0, .int .i64 0, .string ⟨#[]⟩, .int .i64 0, .slice none 0 0, .slice none 0 0, .slice none 0 0]
theorem defInfo : (Tryd.prog.info? 44).map (fun i => (i.zero, i.size, i.bytes)) = some (some zero14, 14, 240) := by kernel_rfl

/-- A list of definitions that lies in a row of the call's own. -/
def DRow (base : Nat) (W : World) (v : Value) (es : List DV) : Prop := W.ownsRow base 44 14 v es.length (dvCells es)
theorem DRow.nil (base : Nat) (W : World) : DRow base W (.slice none 0 0) [] := World.ownsRow_nil _ _ _ _
theorem DRow.alloc {base : Nat} {W : World} {v : Value} {l : List DV} (h : DRow base W v l) (o : Obj) : DRow base (W.alloc o) v l := World.ownsRow.alloc h o
theorem DRow.drew {base : Nat} {W : World} {v : Value} {l : List DV} (h : DRow base W v l) : DRow base W.drew v l := h
theorem DRow.lt {base : Nat} {W : World} {v : Value} {l : List DV} (h : DRow base W v l) : ∀ k, v.ownBlock = some k → base ≤ k ∧ k < W.heap.size := World.ownsRow.lt h
theorem DRow.kept {base : Nat} {W W' : World} {v : Value} {l : List DV} (h : DRow base W v l) (hb : ∀ k, v.ownBlock = some k → W'.heap[k]? = W.heap[k]?) : DRow base W' v l := by
  refine ⟨h.1, ?_⟩
  rcases h.2 with h0 | ⟨g, cap, cur, rfl, hbg, hg, r⟩
  · exact .inl h0
  · exact .inr ⟨g, cap, cur, rfl, hbg, (hb g rfl).trans hg, r⟩
theorem DRow.to {base : Nat} {W W' : World} {v : Value} {l : List DV} (h : DRow base W v l) (hb : Below W.heap.size W W') : DRow base W' v l := h.kept fun k hk => hb.block k (h.lt k hk).2
theorem DRow.slice {base : Nat} {W : World} {v : Value} {l : List DV} (h : DRow base W v l) : ∃ a m c, v = .slice a m c := by
  rcases h.2 with ⟨rfl, _⟩ | ⟨g, cap, cur, rfl, _⟩
  · exact ⟨_, _, _, rfl⟩
  · exact ⟨_, _, _, rfl⟩
theorem DRow.empty (base : Nat) (w0 : World) (b : Nat) (hb : b = w0.heap.size) (h : base ≤ w0.heap.size) : DRow base (w0.alloc (.cells #[] 44)) (.slice (some ⟨b, 0, none⟩) 0 0) [] := by
  subst hb
  refine ⟨rfl, .inr ⟨w0.heap.size, 0, #[], rfl, h, World.alloc_heap_new _ _, ?_⟩⟩
  simp [dvCells]
theorem DRow.dfs {base : Nat} {B : Nat → Prop} {W : World} {v : Value} {l : List DV} (h : DRow base W v l) (hok : ∀ e ∈ l, e.Ok B W) (hl : l.length ≤ maxLen) : DfSl (fun k => B k ∨ (base ≤ k ∧ k < W.heap.size)) W v (l.map DV.d) := by
  refine ⟨?_, by simpa using hl⟩
  rcases h.2 with ⟨rfl, h0⟩ | ⟨g, cap, cur, rfl, hbg, hg, r⟩
  · have : l = [] := List.length_eq_zero_iff.1 h0
    subst this
    exact .inl ⟨⟨_, _, rfl⟩, rfl⟩
  · refine .inr ⟨g, 0, cap, by rw [List.length_map], .inr ⟨hbg, (h.lt g rfl).2⟩, fun j d hj => ?_⟩
    rw [List.getElem?_map] at hj
    obtain ⟨e, he, rfl⟩ := Option.map_eq_some_iff.1 hj
    have hjl : j < l.length := (List.getElem?_eq_some_iff.1 he).1
    refine dv_at (hok e (List.mem_of_getElem? he)) (fun k hk => .inl hk) (.inr ⟨hbg, (h.lt g rfl).2⟩) (fun i u hi => ?_)
    have hi14 : i < 14 := by have := (List.getElem?_eq_some_iff.1 hi).1; rwa [e.cells_len] at this
    rw [show 0 + j * 14 + i = j * 14 + i by omega, World.ownsRow.cellAt h (j * 14 + i) (by omega), dvCells_get l j i e he hi14]
    exact hi

theorem run_nothingD (base : Nat) (ty : TypeId) (v : Value) (l : List DV) (w : World) (hown : DRow base w v l) (a : Option Addr) (c : Nat) :
    (Builtin.append_ #[22, 22] ty #[v, .slice a 0 c]).run Tryd.prog w = .ok v w := by
  obtain ⟨i0, hi, hz0, hz1, hz2⟩ := info_parts defInfo
  have ht := Tryd.underlying22
  rcases hown.2 with ⟨rfl, h0⟩ | ⟨g, cap, cur, rfl, _, _, hnc, _⟩
  · cases a with
    | none => simp [Builtin.append_, run_underlying ht, sizeOf, typeInfo, hi, Builtin.lenOf, Builtin.firstCells]
    | some ad => simp [Builtin.append_, run_underlying ht, sizeOf, typeInfo, hi, Builtin.lenOf, Builtin.firstCells, loadCells, loadCellsFrom]
  · cases a with
    | none => simp [Builtin.append_, run_underlying ht, sizeOf, typeInfo, hi, Builtin.lenOf, Builtin.firstCells, hnc, storeCells]
    | some ad => simp [Builtin.append_, run_underlying ht, sizeOf, typeInfo, hi, Builtin.lenOf, Builtin.firstCells, hnc, storeCells, loadCells, loadCellsFrom]

/-- append of a list of definitions, which may be empty, to one of the call's own, which may be nil. -/
theorem run_appD (base : Nat) (ty : TypeId) (v : Value) (l : List DV) (w : World) (hown : DRow base w v l) (na : Option Addr) (nn nc : Nat) (news : List DV) (hnn : nn = news.length) (hsrc : news = [] ∨ ∃ b o, na = some ⟨b, o, none⟩ ∧ ∀ (j : Nat) (e : DV) (i : Nat) (u : Value), news[j]? = some e → e.cells[i]? = some u → w.cell? ⟨b, o + (j * 14 + i), none⟩ = some u) (hone : ∀ e ∈ news, ∀ u ∈ e.cells, u.oneCell' = true) (h63 : l.length + news.length ≤ 100000) (hbase : base ≤ w.heap.size) :
    ∃ ga gn gc w', (Builtin.append_ #[22, 22] ty #[v, .slice na nn nc]).run Tryd.prog w = .ok (.slice ga gn gc) w' ∧ DRow base w' (.slice ga gn gc) (l ++ news) ∧ w.grownBy w' v.ownBlock := by
  obtain ⟨i0, hi, hz0, hz1, hz2⟩ := info_parts defInfo
  subst hnn
  rcases hsrc with rfl | ⟨b, o, rfl, hc⟩
  · obtain ⟨ga, gn, gc, rfl⟩ := hown.slice
    exact ⟨_, _, _, w, run_nothingD base ty _ _ w hown na nc, by rw [List.append_nil]; exact hown, ⟨rfl, rfl, rfl, Nat.le_refl _, fun _ _ _ => rfl⟩⟩
  · obtain ⟨v', w', hr, h2, h3, h4, h5⟩ := run_append_own_at (P := Tryd.prog) w base 22 ty 44 i0 _ 14 240 Tryd.underlying22 hi hz0 hz1 hz2 rfl (by decide) _ _ _ hown ⟨b, o, none⟩ news.length nc (dvCells news) (dvCells_len news) (fun j u hj => by
      have hjl : j < news.length * 14 := by have := (List.getElem?_eq_some_iff.1 hj).1; rwa [dvCells_len] at this
      have hq : j / 14 < news.length := by omega
      obtain ⟨e, he⟩ : ∃ e, news[j / 14]? = some e := ⟨_, List.getElem?_eq_getElem hq⟩
      have hj2 : j = j / 14 * 14 + j % 14 := by omega
      rw [hj2, dvCells_get news (j / 14) (j % 14) e he (by omega)] at hj
      have h := hc (j / 14) e (j % 14) u he hj
      rw [← hj2] at h
      cases j with
      | zero => simpa [Addr.add] using h
      | succ j => simpa [Addr.add] using h) (fun u hu => by
      obtain ⟨q, hq⟩ := List.getElem?_of_mem hu
      obtain ⟨e, he, hue⟩ := dvCells_inv hq
      exact hone e he u hue) (by unfold maxLen; omega) (by omega) hbase
    have h2' : DRow base w' v' (l ++ news) := by unfold DRow; rw [List.length_append, dvCells_append]; exact h2
    obtain ⟨ga, gn, gc, rfl⟩ := h2'.slice
    exact ⟨_, _, _, w', hr, h2', h3⟩

/-- .. at a step of a region that draws its order. -/
theorem step_appD {ops : Array Oper} {o : Oper} {a : Act} {w : World} {K : Act → World → Prop} {Q : Exit → Act → World → Prop} {E : Prop} (hgd : o.guard = none) (s x : Operand)
    (ho : o.op = .call { callee := .builtin .append, args := #[s, x], argTypes := #[22, 22] })
    (base : Nat) (l : List DV) (v : Value) (hs : a.eval s = v) (hown : DRow base w v l) (na : Option Addr) (nn nc : Nat) (news : List DV) (hx : a.eval x = .slice na nn nc) (hnn : nn = news.length) (hsrc : news = [] ∨ ∃ b o, na = some ⟨b, o, none⟩ ∧ ∀ (j : Nat) (e : DV) (i : Nat) (u : Value), news[j]? = some e → e.cells[i]? = some u → w.cell? ⟨b, o + (j * 14 + i), none⟩ = some u) (hone : ∀ e ∈ news, ∀ u ∈ e.cells, u.oneCell' = true) (h63 : l.length + news.length ≤ 100000) (hbase : base ≤ w.heap.size)
    (m : List DV) (hm : l ++ news = m)
    (h : ∀ ga gn gc w', DRow base w' (.slice ga gn gc) m → w.grownBy w' v.ownBlock → K (a.put o.dst (.slice ga gn gc)) w') :
    if Region.wanted o (yielded ops a.tmps) = true then Oper.wp Tryd.prog o a w K Q else E := by
  subst hm
  have hw : Region.wanted o (yielded ops a.tmps) = true := by simp [Region.wanted, hgd]
  rw [if_pos hw]
  obtain ⟨ga, gn, gc, w', hr, h2, h3⟩ := run_appD base o.type v l w hown na nn nc news hnn hsrc hone h63 hbase
  unfold Oper.wp execOp
  simp only [ho, resolve, invoke, builtin, Sem.run_bind, Sem.run_pure, Result.andThen_ok, List.map_toArray, List.map_cons, List.map_nil, hs, hx, hr]
  exact h ga gn gc w' h2 h3

end Go.Proofs.YtmedijheidbmhaaDoor

/- Scopes: whether a program has a fault does not depend on the order of its definitions. -/
namespace Go.Proofs.YtmedijheidbmhaaDoor
open Go.RowKit Go.Deep Go.Shelf

theorem dups_nodup (l : List ByteArray) : dups l = false ↔ l.Nodup := by
  induction l with
  | nil => simp [dups]
  | cons x r ih =>
    rw [dups, Bool.or_eq_false_iff, List.nodup_cons, ih]
    constructor
    · rintro ⟨h1, h2⟩; exact ⟨fun hm => (by rw [memB_true.2 hm] at h1; cases h1), h2⟩
    · rintro ⟨h1, h2⟩; exact ⟨memB_false h1, h2⟩
theorem nodup_rev {l : List ByteArray} : l.reverse.Nodup ↔ l.Nodup := by
  unfold List.Nodup; rw [List.pairwise_reverse]; constructor <;> intro h <;> exact h.imp (fun h e => h e.symm)
theorem dups_take_false {l : List ByteArray} (h : dups l = false) (k : Nat) : dups (l.take k) = false := by
  cases e : dups (l.take k) with
  | false => rfl
  | true => rw [dups_mono l e] at h; cases h
theorem twF_none (ds : List Df) : twF ds = none ↔ dups (ds.map Df.n) = false ∧ ∀ d ∈ ds, dups (d.ms.map Pm.n) = false := by
  have hall : twF ds = none ↔ ∀ i, i < ds.length → twiceAt ds i = false := by
    refine ⟨fun h i hi => ?_, fun h => range_find_none h⟩
    have := List.find?_eq_none.1 h i (List.mem_range.2 hi)
    simpa using this
  rw [hall]
  constructor
  · intro h
    refine ⟨?_, fun d hd => ?_⟩
    · have hk : ∀ k, k ≤ ds.length → dups ((ds.take k).map Df.n) = false := by
        intro k
        induction k with
        | zero => intro _; rfl
        | succ k ih =>
          intro hk
          have hd : ds[k]? = some ds[k] := List.getElem?_eq_getElem (by omega)
          have h1 := h k (by omega)
          unfold twiceAt at h1
          rw [hd] at h1
          simp only [Bool.or_eq_false_iff] at h1
          rw [take_snoc_get hd, List.map_append, List.map_cons, List.map_nil, dups_snoc, ih (by omega), h1.1]; rfl
      have := hk ds.length (Nat.le_refl _)
      rwa [List.take_length] at this
    · obtain ⟨i, hi⟩ := List.getElem?_of_mem hd
      have h1 := h i (List.getElem?_eq_some_iff.1 hi).1
      unfold twiceAt at h1
      rw [hi] at h1
      simp only [Bool.or_eq_false_iff] at h1
      exact h1.2
  · rintro ⟨h1, h2⟩ i hi
    have hd : ds[i]? = some ds[i] := List.getElem?_eq_getElem hi
    unfold twiceAt
    rw [hd]
    simp only [Bool.or_eq_false_iff]
    refine ⟨?_, h2 _ (List.getElem_mem hi)⟩
    have h3 := dups_take_false h1 (i + 1)
    rw [← List.map_take, take_snoc_get hd, List.map_append, List.map_cons, List.map_nil, dups_snoc, Bool.or_eq_false_iff] at h3
    exact h3.2
theorem arOf_mem {ds : List Df} (h : (ds.map Df.n).Nodup) {d : Df} (hd : d ∈ ds) : arOf ds d.n = some d.ms.length := by
  rw [arOf_fst ((dups_nodup _).2 h)]
  induction ds with
  | nil => cases hd
  | cons x r ih =>
    rw [List.map_cons, List.nodup_cons] at h
    rw [arFst]
    rcases List.mem_cons.1 hd with rfl | hd
    · rw [if_pos rfl]
    · rw [if_neg (fun e => h.1 (List.mem_map.2 ⟨d, hd, e⟩))]
      exact ih h.2 hd
theorem arOf_rev {ds : List Df} (h : (ds.map Df.n).Nodup) : arOf ds.reverse = arOf ds := by
  funext s
  have hr : (ds.reverse.map Df.n).Nodup := by rw [List.map_reverse]; exact nodup_rev.2 h
  by_cases hm : s ∈ ds.map Df.n
  · obtain ⟨d, hd, rfl⟩ := List.mem_map.1 hm
    rw [arOf_mem h hd, arOf_mem hr (List.mem_reverse.2 hd)]
  · rw [arOf_none (memB_false hm), arOf_none (memB_false (by rw [List.map_reverse, List.mem_reverse]; exact hm))]
theorem firstR_zero (l : List Pr) : firstR l = 0 ↔ ∀ p ∈ l, prightE p = 0 := by
  induction l with
  | nil => simp [firstR]
  | cons q r ih =>
    unfold firstR
    by_cases hq : prightE q = 0
    · rw [if_pos hq, ih]; simp [hq]
    · rw [if_neg hq]; simp [hq]
theorem sumN_append' (l r : List Nat) : sumN (l ++ r) = sumN l + sumN r := by
  induction l with
  | nil => simp [sumN]
  | cons x l ih => rw [List.cons_append, sumN, ih, sumN]; omega
theorem sumN_rev (l : List Nat) : sumN l.reverse = sumN l := by
  induction l with
  | nil => rfl
  | cons x r ih => rw [List.reverse_cons, sumN_append', ih, sumN, sumN, sumN]; omega
abbrev Pg.rev (g : Pg) : Pg := ⟨g.ds.reverse, g.m⟩
theorem total_rev (g : Pg) : g.rev.total = g.total := by
  rw [Pg.total_eq, Pg.total_eq]
  show g.m.size + g.m.typ + sumN (g.ds.reverse.map Df.all) = _
  rw [List.map_reverse, sumN_rev]
theorem mem_bodies (g : Pg) (p : Pr) : p ∈ g.bodies ↔ (∃ d ∈ g.ds, d.b = p) ∨ p = g.m := by
  unfold Pg.bodies; simp [eq_comm]
theorem mem_bodies_rev (g : Pg) (p : Pr) : p ∈ g.rev.bodies ↔ p ∈ g.bodies := by
  rw [mem_bodies, mem_bodies]; simp
theorem pprog_zero (g : Pg) : pprogE g = 0 ↔ g.many = false ∧ (∀ p ∈ g.bodies, prightE p = 0) ∧ ∀ d ∈ g.ds, hdB d = true := by
  unfold pprogE
  by_cases hm : g.many = true
  · rw [if_pos hm, hm]; simp
  · rw [if_neg hm]
    have hm' : g.many = false := by simpa using hm
    by_cases hf : firstR g.bodies = 0
    · rw [if_pos hf]
      rw [firstR_zero] at hf
      by_cases ha : g.ds.all hdB = true
      · rw [if_pos ha]; simp only [true_iff]; exact ⟨hm', hf, List.all_eq_true.1 ha⟩
      · rw [if_neg ha]
        constructor
        · intro h; omega
        · rintro ⟨_, _, h⟩; exact absurd (List.all_eq_true.2 h) ha
    · rw [if_neg hf]
      constructor
      · intro h; exact absurd h hf
      · rintro ⟨_, h, _⟩; exact absurd ((firstR_zero _).2 h) hf
/-- When a program has no fault. -/
theorem chk_iff (g : Pg) : (g.chk).1 = 0 ↔ pprogE g = 0 ∧ twF g.ds = none ∧ (∀ d ∈ g.ds, d.b.scE (arOf g.ds) (d.ms.map Pm.n) false = 0) ∧ g.m.scE (arOf g.ds) [] true = 0 := by
  have hb : (∀ i, i ≤ g.ds.length → g.bE (arOf g.ds) i = 0) ↔ (∀ d ∈ g.ds, d.b.scE (arOf g.ds) (d.ms.map Pm.n) false = 0) ∧ g.m.scE (arOf g.ds) [] true = 0 := by
    constructor
    · intro h
      refine ⟨fun d hd => ?_, by rw [← Pg.bE_main]; exact h _ (Nat.le_refl _)⟩
      obtain ⟨i, hi⟩ := List.getElem?_of_mem hd
      rw [← Pg.bE_def hi]
      exact h i (Nat.le_of_lt (List.getElem?_eq_some_iff.1 hi).1)
    · rintro ⟨h1, h2⟩ i hi
      rcases Nat.lt_or_eq_of_le hi with h | rfl
      · rw [Pg.bE_def (List.getElem?_eq_getElem h)]; exact h1 _ (List.getElem_mem h)
      · rw [Pg.bE_main]; exact h2
  rw [← hb]
  constructor
  · intro h
    unfold Pg.chk at h
    split at h
    · next h0 => exact absurd h h0
    · next h0 =>
      split at h
      · exact absurd h (by simp)
      · next ht =>
        split at h
        · next i hf =>
          have := List.find?_some hf
          simp at this
          exact absurd h this
        · next hf =>
          refine ⟨by simpa using h0, ht, fun i hi => ?_⟩
          have := List.find?_eq_none.1 hf i (List.mem_range.2 (by omega))
          simpa using this
  · rintro ⟨h1, h2, h3⟩
    rw [Pg.chk_4 h1 h2 h3]
theorem chk_rev (g : Pg) : (g.rev.chk).1 = 0 ↔ (g.chk).1 = 0 := by
  rw [chk_iff, chk_iff, pprog_zero, pprog_zero, twF_none, twF_none]
  have hmany : g.rev.many = g.many := by unfold Pg.many; rw [total_rev]
  have hnod : dups (g.ds.reverse.map Df.n) = dups (g.ds.map Df.n) := by
    have : dups (g.ds.reverse.map Df.n) = false ↔ dups (g.ds.map Df.n) = false := by
      rw [dups_nodup, dups_nodup, List.map_reverse, nodup_rev]
    cases h1 : dups (g.ds.reverse.map Df.n) <;> cases h2 : dups (g.ds.map Df.n) <;> simp_all
  rw [hmany]
  simp only [Pg.rev, List.mem_reverse, hnod]
  have hbo : (∀ p ∈ (⟨g.ds.reverse, g.m⟩ : Pg).bodies, prightE p = 0) ↔ ∀ p ∈ g.bodies, prightE p = 0 := by
    constructor
    · intro h p hp; exact h p ((mem_bodies_rev g p).2 hp)
    · intro h p hp; exact h p ((mem_bodies_rev g p).1 hp)
  rw [hbo]
  constructor
  · rintro ⟨h1, ⟨h2, h3⟩, h4, h5⟩
    rw [arOf_rev ((dups_nodup _).1 h2)] at h4 h5
    exact ⟨h1, ⟨h2, h3⟩, h4, h5⟩
  · rintro ⟨h1, ⟨h2, h3⟩, h4, h5⟩
    rw [arOf_rev ((dups_nodup _).1 h2)]
    exact ⟨h1, ⟨h2, h3⟩, h4, h5⟩
theorem ggood_rev {g : Pg} (h : GGood g) : GGood g.rev := by
  refine ⟨by simpa [Pg.rev] using h.1, fun d hd => h.2.1 d (by simpa [Pg.rev] using hd), fun p hp => h.2.2 p ((mem_bodies_rev g p).1 hp)⟩
theorem chk_zeroZ {g : Pg} {ca : Nat} (h : g.chk = (0, ca)) : ca = 0 := by
  have h1 := (chk_iff g).1 (by rw [h])
  obtain ⟨q1, q2, q3, q4⟩ := h1
  have := Pg.chk_4 q1 q2 (fun i hi => by
    rcases Nat.lt_or_eq_of_le hi with hlt | rfl
    · rw [Pg.bE_def (List.getElem?_eq_getElem hlt)]; exact q3 _ (List.getElem_mem hlt)
    · rw [Pg.bE_main]; exact q4)
  rw [this] at h
  exact (Prod.mk.inj h).2.symm
theorem little_goodZ {g : Pg} {m : Nat} (hm : m ≤ 100000) (hf : Pg.fine g) (h : g.little m = true) : GGood g := by
  obtain ⟨h1, h2, h3⟩ := Pg.little_facts h
  have hmn := Pr.few_facts h2
  have hds : ∀ d ∈ g.ds, d.b.few m = true ∧ d.ms.length ≤ 20 ∧ ∀ a ∈ d.ms, a.t.few 300 = true := fun d hd => Df.little_facts (h3 d hd)
  refine ⟨by omega, fun d hd a ha => ⟨(hf.1 d hd).1 a ha, (hds d hd).2.2 a ha⟩, fun u hu => ?_⟩
  rcases (mem_bodies g u).1 hu with ⟨d, hd, rfl⟩ | rfl
  · have := Pr.few_facts (hds d hd).1
    exact ⟨⟨(hf.1 d hd).2, this.2.2⟩, by omega, by omega⟩
  · exact ⟨⟨hf.2, hmn.2.2⟩, by omega, by omega⟩

end Go.Proofs.YtmedijheidbmhaaDoor
