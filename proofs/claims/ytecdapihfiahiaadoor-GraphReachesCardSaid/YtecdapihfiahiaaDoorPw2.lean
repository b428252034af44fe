/- Processes: Size, Depth, tooLarge. (and what follows from it) -/
import Derived.Test.YtecdapihfiahiaaDoorPw1
import Derived.Test.YtecdapihfiahiaaDoorTyZa
import Derived.Test.YtecdapihfiahiaaDoorTyJ
import Derived.Test.YtecdapihfiahiaaDoorGrA
import Derived.OwnWalk
import Derived.Shelf.SlMaps.Clone
import Derived.Ground.SlmcProg
import Derived.Shelf.Spec.TrailingZeros
import Derived.RangeFuncBox
import Derived.Maps.OwnSet
import Derived.Maps.OwnOps
import Derived.Deep.RegionHeld3
import Derived.Deep.Cut

/- Processes: Size, Depth, tooLarge. -/
namespace Go.Proofs.YtecdapihfiahiaaDoor
open Go.RowKit Go.Deep Go.Shelf
attribute [local go_sem] Oper.semAt_some

theorem preP_length : ∀ (p : Pr) (d : Nat), (preP d p).length = p.size := by
  refine Pr.ind ?_
  intro k c x ls vs t ps ih d
  have h : ∀ (l : List Pr) (d : Nat), (∀ p ∈ l, ∀ d, (preP d p).length = p.size) → (prePs d l).length = Pr.sizes l := by
    intro l
    induction l with
    | nil => intro _ _; simp [prePs, Pr.sizes]
    | cons u r ihl =>
      intro d hh
      rw [prePs, List.length_append, Pr.sizes, hh u (by simp), ihl d (fun t ht => hh t (by simp [ht]))]
  rw [preP_eq, Pr.size_eq, List.length_cons]
  show (prePs (d + 1) ps).length + 1 = Pr.sizes ps + 1
  rw [h _ _ ih]
/-- The greatest depth of the nodes that have come. -/
def mdP (l : List (Nat × Pr)) : Nat := l.foldl (fun m x => max m x.1) 0
theorem mdP_snoc (l : List (Nat × Pr)) (x : Nat × Pr) : mdP (l ++ [x]) = max (mdP l) x.1 := by simp [mdP]
theorem foldl_maxP (l : List (Nat × Pr)) : ∀ m : Nat, l.foldl (fun m x => max m x.1) m = max m (mdP l) := by
  induction l with
  | nil => intro m; simp [mdP]
  | cons x l ih => intro m; simp only [mdP, List.foldl_cons]; rw [ih, ih (max 0 _)]; omega
theorem mdP_append (l r : List (Nat × Pr)) : mdP (l ++ r) = max (mdP l) (mdP r) := by
  unfold mdP; rw [List.foldl_append, foldl_maxP]; rfl
theorem mdP_le_of_prefix {l r : List (Nat × Pr)} (h : l <+: r) : mdP l ≤ mdP r := by
  obtain ⟨s, rfl⟩ := h
  rw [mdP_append]; omega
theorem mdP_preP : ∀ (p : Pr) (d : Nat), mdP (preP (d + 1) p) = d + p.depth := by
  refine Pr.ind ?_
  intro k c x ls vs t ps ih d
  have h : ∀ (l : List Pr) (d : Nat), (∀ p ∈ l, ∀ d, mdP (preP (d + 1) p) = d + p.depth) → max d (mdP (prePs (d + 1) l)) = d + Pr.depths l := by
    intro l
    induction l with
    | nil => intro d _; simp [prePs, mdP, Pr.depths]
    | cons u r ihl =>
      intro d hh
      have h1 := hh u (by simp) d
      have h2 := ihl d (fun t ht => hh t (by simp [ht]))
      have h3 := u.depth_pos
      rw [prePs, mdP_append, Pr.depths]; omega
  have h1 := h ps (d + 1) ih
  rw [preP_eq, Pr.depth_eq]
  show mdP ([_] ++ _) = _
  rw [mdP_append]
  have h2 : mdP [(d + 1, Pr.mk k c x ls vs t ps)] = d + 1 := by simp [mdP]
  rw [h2]
  show max (d + 1) (mdP (prePs (d + 1 + 1) ps)) = _
  simp only [Pr.ps]
  omega
theorem w64_succP (x : Np) (pre : List Np) : wrap64 (wrap64 ((pre.length : Nat) : Int) + 1) = wrap64 (((pre ++ [x]).length : Nat) : Int) := by
  rw [List.length_append]; simp only [List.length_cons, List.length_nil]; unfold wrap64; omega

end Go.Proofs.YtecdapihfiahiaaDoor

/- Processes: Depth, tooLarge. -/
namespace Go.Proofs.YtecdapihfiahiaaDoor
open Go.RowKit Go.Deep Go.Shelf
attribute [local go_sem] Oper.semAt_some

/-- Is a process too large? -/
def Pr.large (p : Pr) : Bool := decide (10000 < p.size ∨ 100 < p.depth)

end Go.Proofs.YtecdapihfiahiaaDoor

/- Processes: slices.Clone at the three kinds of lists. -/
namespace Go.Proofs.YtecdapihfiahiaaDoor
open Go.RowKit Go.Deep

theorem list_of {α : Type} (Q : Nat → α → Prop) : ∀ n : Nat, (∀ i, i < n → ∃ x, Q i x) → ∃ ls : List α, ls.length = n ∧ ∀ i x, ls[i]? = some x → Q i x
  | 0, _ => ⟨[], rfl, fun i x h => by simp at h⟩
  | n + 1, h => by
    obtain ⟨ls, hl, hq⟩ := list_of Q n (fun i hi => h i (by omega))
    obtain ⟨x, hx⟩ := h n (by omega)
    refine ⟨ls ++ [x], by simp [hl], fun i y hy => ?_⟩
    by_cases hi : i < ls.length
    · rw [List.getElem?_append_left hi] at hy; exact hq i y hy
    · rw [List.getElem?_append_right (by omega)] at hy
      rcases Nat.eq_zero_or_pos (i - ls.length) with h0 | h0
      · rw [h0] at hy
        simp at hy
        subst hy
        have : i = n := by omega
        subst this
        exact hx
      · rw [List.getElem?_eq_none (by simp; omega)] at hy; cases hy

theorem strInfoC : (Tryd.prog.info? 9).map (fun i => (i.zero, i.size, i.bytes)) = some (some (.string ⟨#[]⟩), 1, 16) := by kernel_rfl
/-- A row that is a copy of the cells at an address. -/
def Cloned (w : World) (e : TypeId) (size : Nat) (n : Nat) (news : List Value) (en : Ending) (w' : World) : Prop :=
  ∃ g cap, en = .returned (.slice (some ⟨g, 0, none⟩) n cap) ∧ n ≤ cap ∧ w'.ownsRow w.heap.size e size (.slice (some ⟨g, 0, none⟩) n cap) n news ∧ w.heap.size ≤ g ∧ g < w'.heap.size ∧ Below w.heap.size w w'

set_option maxHeartbeats 2000000 in
set_option maxRecDepth 100000 in
theorem cloneS_any (ad : Addr) (n c : Nat) (hn : n ≤ 400000000) (news : List Value) (hl : news.length = n * 1) (w : World) (hnews : ∀ j u, news[j]? = some u → w.cell? (ad.add j) = some u) (h1 : ∀ u ∈ news, u.oneCell' = true) :
    Calls Tryd.prog 43 #[.slice (some ad) n c] w (Cloned w 9 1 n news) := by
  have hq := eqS (some ad) n c
  obtain ⟨i0, hi, hz0, hz1, hz2⟩ := info_parts strInfoC
  have HN := Lib.hid hnews
  have H1 := Lib.hid h1
  have HL := Lib.hid hl
  clear hnews h1 hl
  go_enter Tryd.func43, Tryd.ntmps43
  go_wp2_with (at_builtin; refine wpList_append_own _ rfl _ _ 45 rfl w.heap.size 9 i0 (.string ⟨#[]⟩) 1 16 Tryd.underlying45 hi hz0 hz1 hz2 rfl (by decide) _ _ _ rfl (World.ownsRow_made w #[] 0 (Nat.le_refl _) (Nat.zero_le _) rfl) ad n c news rfl HL.out (fun j u hj => Lib.cell?_alloc_some _ (HN.out j u hj)) H1.out (by unfold maxLen; omega) (by omega) (by simp) ?_; intro v' w1 hown hgrow hnil)
  go_wp2_with fail
  go_ret
  have hown' : w1.ownsRow w.heap.size 9 1 v' n news := by simpa using hown
  have hb : Below w.heap.size w w1 := ((Below.refl _ w).alloc (Nat.le_refl _) _).grown hgrow (by simp) (fun k hk => by cases hk; exact Nat.le_refl _)
  rcases hown'.2 with ⟨h0, _⟩ | ⟨g, cap, cur, rfl, hgb, hg, hnc, _⟩
  · rw [hnil] at h0; cases h0.1
  · exact ⟨g, cap, rfl, hnc, hown', hgb, (Array.getElem?_eq_some_iff.1 hg).1, hb⟩

theorem cloneS_nil (c : Nat) (w : World) : Calls Tryd.prog 43 #[.slice none 0 c] w fun e w' => e = .returned (.slice none 0 0) ∧ w = w' := by
  have hq := eqS none 0 c
  go_enter Tryd.func43, Tryd.ntmps43
  go_wp2_with fail
  go_ret
  exact ⟨rfl, rfl⟩
/-! ### What the copies are -/
theorem addr_add0 (b o j : Nat) : (⟨b, o, none⟩ : Addr).add j = ⟨b, o + j, none⟩ := by
  unfold Addr.add
  by_cases h : j = 0
  · subst h; simp
  · simp [h]
theorem strClone_any (B : Nat → Prop) (v : Value) (ls : List ByteArray) (hn : ls.length ≤ 400000000) (w : World) (h : StrSl B w v ls) :
    Calls Tryd.prog 43 #[v] w (StrRet w ls) := by
  have hsz := h.2.2
  rcases h.1 with ⟨⟨a, c, rfl⟩, rfl⟩ | ⟨b, o, c, rfl, hb, hc, hrow⟩
  · cases a with
    | none => exact (cloneS_nil c w).mono fun e w' ⟨h1, h2⟩ => ⟨_, _, _, h1, ⟨.inl ⟨⟨_, _, rfl⟩, rfl⟩, by simp [maxLen], fun s hs => by cases hs⟩, by rw [h2]; exact Below.refl _ _⟩
    | some ad =>
      refine (cloneS_any ad 0 c (by omega) [] rfl w (fun j u hj => by simp at hj) (fun u hu => by cases hu)).mono fun e w' ⟨g, cap, h1, h2, h3, h4, h5, h6⟩ => ⟨_, _, _, h1, ⟨.inl ⟨⟨_, _, rfl⟩, rfl⟩, by simp [maxLen], fun s hs => by cases hs⟩, h6⟩
  · refine (cloneS_any ⟨b, o, none⟩ ls.length c hn (ls.map .string) (by simp) w (fun j u hj => ?_) (fun u hu => by obtain ⟨x, _, rfl⟩ := List.mem_map.1 hu; rfl)).mono fun e w' ⟨g, cap, h1, h2, h3, h4, h5, h6⟩ => ⟨_, _, _, h1, ⟨.inr ⟨g, 0, cap, rfl, ⟨h4, h5⟩, h2, fun j s hj => ?_⟩, h.2.1, hsz⟩, h6⟩
    · rw [List.getElem?_map] at hj
      cases hx : ls[j]? with
      | none => simp [hx] at hj
      | some x => simp [hx] at hj; subst hj; rw [addr_add0]; exact hrow j x hx
    · have hjl := (List.getElem?_eq_some_iff.1 hj).1
      rw [Nat.zero_add, h3.cellAt j (by omega), List.getElem?_map, hj]; rfl

/-- A list of values in new memory is returned. -/
def VlRet (w : World) (vs : List Vl) (e : Ending) (w' : World) : Prop :=
  ∃ la ln lc, e = .returned (.slice la ln lc) ∧ VlSl (Fresh w.heap.size w'.heap.size) w' (.slice la ln lc) vs ∧ Below w.heap.size w w'
/-- The cells of a row, of n elements of size s each. -/
theorem news_of {w : World} {b o n s : Nat} (h : ∀ i, i < n → ∀ r, r < s → ∃ v, w.cell? ⟨b, o + i * s + r, none⟩ = some v ∧ v.oneCell' = true) (hs : 0 < s) :
    ∃ news : List Value, news.length = n * s ∧ (∀ j u, news[j]? = some u → w.cell? ((⟨b, o, none⟩ : Addr).add j) = some u) ∧ ∀ u ∈ news, u.oneCell' = true := by
  obtain ⟨news, hl, hn⟩ := list_of (fun j v => w.cell? ⟨b, o + j, none⟩ = some v ∧ v.oneCell' = true) (n * s) (fun j hj => by
    have h1 : j / s < n := Nat.div_lt_of_lt_mul (by rw [Nat.mul_comm]; exact hj)
    obtain ⟨v, h2, h3⟩ := h (j / s) h1 (j % s) (Nat.mod_lt _ hs)
    refine ⟨v, ?_, h3⟩
    have e : o + j / s * s + j % s = o + j := by have := Nat.div_add_mod j s; rw [Nat.mul_comm] at this; omega
    rw [e] at h2; exact h2)
  refine ⟨news, hl, fun j u hj => by rw [addr_add0]; exact (hn j u hj).1, fun u hu => ?_⟩
  obtain ⟨i, hi⟩ := List.mem_iff_getElem?.1 hu
  exact (hn i u hi).2
/-- A cell of the copy is the cell that was copied. -/
theorem cloned_cell {w w' : World} {e : TypeId} {b o n s g cap base : Nat} {news : List Value} (hl : news.length = n * s) (hn : ∀ j u, news[j]? = some u → w.cell? ((⟨b, o, none⟩ : Addr).add j) = some u) (h : w'.ownsRow base e s (.slice (some ⟨g, 0, none⟩) n cap) n news) {j : Nat} (hj : j < n * s) {v : Value} (hv : w.cell? ⟨b, o + j, none⟩ = some v) :
    w'.cell? ⟨g, j, none⟩ = some v := by
  rw [h.cellAt j hj]
  obtain ⟨u, hu⟩ : ∃ u, news[j]? = some u := ⟨_, List.getElem?_eq_getElem (by omega)⟩
  have := hn j u hu
  rw [addr_add0, hv] at this
  rw [hu, ← this]

end Go.Proofs.YtecdapihfiahiaaDoor

/- Graphs: the library's maps.Clone and TrailingZeros64 at this program; how references and nodes lie in memory. -/
namespace Go.Proofs.YtecdapihfiahiaaDoor
open Go.Shelf
/-- The library's maps.Clone at this program: a table of numbers, and a field a fact of the program's own. -/
def graphCloneL_ren : Go.Shelf.Ren := ⟨fun | 5 => 42 | 7 => 47 | n => n, fun | 23 => 64 | 25 => 9 | 3 => 3 | 4 => 4 | 20 => 20 | n => n, fun | n => n⟩
theorem graphCloneL : Go.Proofs.SlLaysW.n5 Tryd.prog graphCloneL_ren := {
  mixed := by kernel_rfl
  f5 := ⟨Tryd.f42.name, by decide, Tryd.func42.trans (congrArg some (by kernel_rfl))⟩
  f7 := Tryd.func47.trans (congrArg some (by kernel_rfl))
  t4 := Tryd.underlying4
  a4 := Tryd.isAgg4
  z4 := Tryd.sizeOf4
  v4 := Tryd.zeroValue4
  t20 := Tryd.underlying20
  a20 := Tryd.isAgg20
  z20 := Tryd.sizeOf20
  v20 := Tryd.zeroValue20
  t23 := Tryd.underlying64
  a23 := Tryd.isAgg64
  z23 := Tryd.sizeOf64
  v23 := Tryd.zeroValue64 }
/-- .. and TrailingZeros64. -/
def graphTzL_ren : Go.Shelf.Ren := ⟨fun | 29 => 33 | n => n, fun | 0 => 0 | 3 => 3 | 4 => 4 | 5 => 5 | 22 => 78 | 25 => 85 | 54 => 84 | n => n, fun | 1 => 0 | n => n⟩
theorem graphTzL : Go.Proofs.Lays7.n29 Tryd.prog graphTzL_ren := {
  mixed := by kernel_rfl
  f29 := Tryd.func33.trans (congrArg some (by kernel_rfl))
  t0 := Tryd.underlying0
  a0 := Tryd.isAgg0
  z0 := Tryd.sizeOf0
  v0 := Tryd.zeroValue0
  i0 := by kernel_rfl
  t3 := Tryd.underlying3
  a3 := Tryd.isAgg3
  z3 := Tryd.sizeOf3
  v3 := Tryd.zeroValue3
  i3 := by kernel_rfl
  t4 := Tryd.underlying4
  a4 := Tryd.isAgg4
  z4 := Tryd.sizeOf4
  v4 := Tryd.zeroValue4
  i4 := by kernel_rfl
  t5 := Tryd.underlying5
  a5 := Tryd.isAgg5
  z5 := Tryd.sizeOf5
  v5 := Tryd.zeroValue5
  i5 := by kernel_rfl
  t22 := Tryd.underlying78
  a22 := Tryd.isAgg78
  z22 := Tryd.sizeOf78
  v22 := Tryd.zeroValue78
  i22 := by kernel_rfl
  t25 := Tryd.underlying85
  a25 := Tryd.isAgg85
  z25 := Tryd.sizeOf85
  v25 := Tryd.zeroValue85
  i25 := by kernel_rfl
  t54 := Tryd.underlying84
  a54 := Tryd.isAgg84
  z54 := Tryd.sizeOf84
  g1 := by kernel_rfl }
end Go.Proofs.YtecdapihfiahiaaDoor

namespace Go.Proofs.YtecdapihfiahiaaDoor
open Go.RowKit Go.Deep Go.Shelf

/-- What the walks lean on: the table of the library's TrailingZeros64. -/
structure GEnvW (E : Nat) (w : World) : Prop where
  tab : TabAt 0 Lib.deBruijn64tab w
  lt : 0 < E
  le : E ≤ w.heap.size
theorem GEnvW.to {E : Nat} {w w' : World} (h : GEnvW E w) (hb : Below E w w') : GEnvW E w' :=
  ⟨fun j hj => (hb.cell (p := ⟨_, j, none⟩) h.lt).trans (h.tab j hj), h.lt, Nat.le_trans h.le hb.size⟩
theorem tz64_any (x : Nat) (hx : x < 18446744073709551616) (E : Nat) (w : World) (h : GEnvW E w) :
    Calls Tryd.prog 33 #[.int .u64 x] w fun e w' => e = .returned (.int .i64 (Lib.ctz 64 x)) ∧ w' = w :=
  Any7.bits_TrailingZeros64 graphTzL x hx w (fun _ => h.tab)

theorem mapsCloneG_any (b n : Nat) (f : Lit → Option Value) (w : World) (h : MapIs w 9 b n f) :
    Calls Tryd.prog 42 #[.map (some b)] w fun e w' => ∃ c, e = .returned (.map (some c)) ∧ w.heap.size ≤ c ∧ MapIs w' 9 c n f ∧ Below w.heap.size w w' := by
  obtain ⟨D, ho, hf⟩ := h
  have hcon := AnyW.maps_Clone_owns graphCloneL 9 asIs b n D w ho
  change Calls Tryd.prog 42 _ _ _ at hcon
  exact hcon.mono fun e w' ⟨he, h1, _, hB⟩ => ⟨_, he, Nat.le_refl _, ⟨D, h1, hf⟩, hB⟩

/-! ### References -/
abbrev refCells (r : GRef) : List Value := [.int .i64 r.n, .int .i64 r.s]
/-- References lie from cell o of block b on. -/
def RefRow (w : World) (b o : Nat) (rs : List GRef) : Prop := ∀ (j : Nat) (r : GRef), rs[j]? = some r → w.cell? ⟨b, o + j * 2, none⟩ = some (.int .i64 r.n) ∧ w.cell? ⟨b, o + j * 2 + 1, none⟩ = some (.int .i64 r.s)
def RefSl (B : Nat → Prop) (w : World) (v : Value) (rs : List GRef) : Prop :=
  (((∃ a c, v = .slice a 0 c) ∧ rs = []) ∨ ∃ b o c, v = .slice (some ⟨b, o, none⟩) rs.length c ∧ B b ∧ RefRow w b o rs) ∧ rs.length ≤ maxLen
theorem RefSl.keep {B : Nat → Prop} {w w' : World} (h : Keeps B w w') {v : Value} {rs : List GRef} (hv : RefSl B w v rs) : RefSl B w' v rs := by
  refine ⟨?_, hv.2⟩
  rcases hv.1 with h1 | ⟨b, o, c, h1, h2, h3⟩
  · exact .inl h1
  · exact .inr ⟨b, o, c, h1, h2, fun j r hj => ⟨h.cell h2 (h3 j r hj).1, h.cell h2 (h3 j r hj).2⟩⟩
theorem RefSl.mono {B C : Nat → Prop} {w : World} (h : ∀ k, B k → C k) {v : Value} {rs : List GRef} (hv : RefSl B w v rs) : RefSl C w v rs := by
  refine ⟨?_, hv.2⟩
  rcases hv.1 with h1 | ⟨b, o, c, h1, h2, h3⟩
  · exact .inl h1
  · exact .inr ⟨b, o, c, h1, h _ h2, h3⟩
theorem RefSl.open {B : Nat → Prop} {w : World} {v : Value} {rs : List GRef} (h : RefSl B w v rs) :
    ∃ pa len c, v = .slice pa len c ∧ Hid (len = rs.length) ∧ len ≤ 9223372036854775807 ∧ ∀ i r, rs[i]? = some r → ∃ kb ko, pa = some ⟨kb, ko, none⟩ ∧ B kb ∧ w.cell? ⟨kb, ko + i * 2, none⟩ = some (.int .i64 r.n) ∧ w.cell? ⟨kb, ko + i * 2 + 1, none⟩ = some (.int .i64 r.s) := by
  obtain ⟨h, hm⟩ := h
  unfold maxLen at hm
  rcases h with ⟨⟨a, c, rfl⟩, rfl⟩ | ⟨kb, ko, c, rfl, hkb, hrow⟩
  · exact ⟨a, 0, c, rfl, Lib.hid rfl, by omega, fun i t hi => by simp at hi⟩
  · exact ⟨_, _, _, rfl, Lib.hid rfl, by omega, fun i t hi => ⟨kb, ko, rfl, hkb, hrow i t hi⟩⟩

/-! ### Nodes -/
def NodeAtG (B : Nat → Prop) (w : World) (n : GNode) (b o : Nat) : Prop :=
  w.cell? ⟨b, o, none⟩ = some (.int .i64 n.k) ∧ w.cell? ⟨b, o + 1, none⟩ = some (.int .i64 n.p) ∧ ∃ lv nv, w.cell? ⟨b, o + 2, none⟩ = some lv ∧ w.cell? ⟨b, o + 3, none⟩ = some nv ∧ StrSl B w lv n.ls ∧ RefSl B w nv n.nx
def NodeSl (B : Nat → Prop) (w : World) (v : Value) (ns : List GNode) : Prop :=
  (((∃ a c, v = .slice a 0 c) ∧ ns = []) ∨ ∃ b o c, v = .slice (some ⟨b, o, none⟩) ns.length c ∧ B b ∧ ∀ (j : Nat) (n : GNode), ns[j]? = some n → NodeAtG B w n b (o + j * 4)) ∧ ns.length ≤ maxLen
theorem NodeAtG.keep {B : Nat → Prop} {w w' : World} (h : Keeps B w w') {n : GNode} {b o : Nat} (hb : B b) (hv : NodeAtG B w n b o) : NodeAtG B w' n b o := by
  obtain ⟨h1, h2, lv, nv, h3, h4, h5, h6⟩ := hv
  exact ⟨h.cell hb h1, h.cell hb h2, lv, nv, h.cell hb h3, h.cell hb h4, h5.keep h, h6.keep h⟩
theorem NodeSl.keep {B : Nat → Prop} {w w' : World} (h : Keeps B w w') {v : Value} {ns : List GNode} (hv : NodeSl B w v ns) : NodeSl B w' v ns := by
  refine ⟨?_, hv.2⟩
  rcases hv.1 with h1 | ⟨b, o, c, h1, h2, h3⟩
  · exact .inl h1
  · exact .inr ⟨b, o, c, h1, h2, fun j n hj => (h3 j n hj).keep h h2⟩
theorem NodeSl.mono {B C : Nat → Prop} {w : World} (h : ∀ k, B k → C k) {v : Value} {ns : List GNode} (hv : NodeSl B w v ns) : NodeSl C w v ns := by
  refine ⟨?_, hv.2⟩
  rcases hv.1 with h1 | ⟨b, o, c, h1, h2, h3⟩
  · exact .inl h1
  · refine .inr ⟨b, o, c, h1, h _ h2, fun j n hj => ?_⟩
    obtain ⟨h1, h2, lv, nv, h3, h4, h5, h6⟩ := h3 j n hj
    exact ⟨h1, h2, lv, nv, h3, h4, h5.mono h, h6.mono h⟩
theorem NodeSl.open {B : Nat → Prop} {w : World} {v : Value} {ns : List GNode} (h : NodeSl B w v ns) :
    ∃ pa len c, v = .slice pa len c ∧ Hid (len = ns.length) ∧ len ≤ 9223372036854775807 ∧ ∀ i n, ns[i]? = some n → ∃ kb ko, pa = some ⟨kb, ko, none⟩ ∧ B kb ∧ NodeAtG B w n kb (ko + i * 4) := by
  obtain ⟨h, hm⟩ := h
  unfold maxLen at hm
  rcases h with ⟨⟨a, c, rfl⟩, rfl⟩ | ⟨kb, ko, c, rfl, hkb, hrow⟩
  · exact ⟨a, 0, c, rfl, Lib.hid rfl, by omega, fun i t hi => by simp at hi⟩
  · exact ⟨_, _, _, rfl, Lib.hid rfl, by omega, fun i t hi => ⟨kb, ko, rfl, hkb, hrow i t hi⟩⟩

/-! ### The element types -/
theorem nodeElem : ElemOf 25 52 4 := elemOf Tryd.underlying25 (z := .agg #[.int .i64 0, .int .i64 0, .slice none 0 0, .slice none 0 0]) (bytes := 64) (by kernel_rfl) (by decide) rfl (by decide)
theorem refElem : ElemOf 28 37 2 := elemOf Tryd.underlying28 (z := .agg #[.int .i64 0, .int .i64 0]) (bytes := 16) (by kernel_rfl) (by decide) rfl (by decide)
theorem rnodeElem : ElemOf 31 58 4 := elemOf Tryd.underlying31 (z := .agg #[.int .i64 0, .int .i64 0, .slice none 0 0, .slice none 0 0]) (bytes := 64) (by kernel_rfl) (by decide) rfl (by decide)
theorem rrefElem : ElemOf 32 38 2 := elemOf Tryd.underlying32 (z := .agg #[.int .i64 0, .int .i64 0]) (bytes := 16) (by kernel_rfl) (by decide) rfl (by decide)
theorem strElem : ElemOf 45 9 1 := elemOf Tryd.underlying45 (z := .string ⟨#[]⟩) (bytes := 16) (by kernel_rfl) (by decide) rfl (by decide)
theorem intElem : ElemOf 42 3 1 := elemOf Tryd.underlying42 (z := .int .i64 0) (bytes := 8) (by kernel_rfl) (by decide) rfl (by decide)

/-- A row of references is a slice of references. -/
theorem GRow.refs {el : TypeId} {base : Nat} {W : World} {v : Value} {rs : List GRef} (h : GRow el 2 base W v (rs.map refCells)) (hl : rs.length ≤ maxLen) : RefSl (fun k => base ≤ k ∧ k < W.heap.size) W v rs := by
  refine ⟨?_, hl⟩
  rcases h.parts with ⟨rfl, h0⟩ | ⟨g, cap, rfl, hg, hlt, _⟩
  · exact .inl ⟨⟨_, _, rfl⟩, by simpa using h0⟩
  · refine .inr ⟨g, 0, cap, by rw [List.length_map], ⟨hg, hlt⟩, fun j r hj => ?_⟩
    have hj' : (rs.map refCells)[j]? = some (refCells r) := by rw [List.getElem?_map, hj]; rfl
    obtain ⟨g1, c1, e1, h1⟩ := h.cell (i := 0) hj' rfl
    obtain ⟨g2, c2, e2, h2⟩ := h.cell (i := 1) hj' rfl
    simp only [Value.slice.injEq, Option.some.injEq, Addr.mk.injEq, and_true, true_and] at e1 e2
    obtain ⟨rfl, rfl⟩ := e1
    obtain ⟨rfl, rfl⟩ := e2
    rw [Nat.zero_add]
    exact ⟨h1, h2⟩
/-- A node with the slices in its cells. -/
structure NV where
  g : GNode
  lv : Value
  nv : Value
abbrev NV.cells (x : NV) : List Value := [.int .i64 x.g.k, .int .i64 x.g.p, x.lv, x.nv]
structure NV.Ok (B : Nat → Prop) (w : World) (x : NV) : Prop where
  l : StrSl B w x.lv x.g.ls
  n : RefSl B w x.nv x.g.nx
theorem NV.Ok.keep {B : Nat → Prop} {w w' : World} {x : NV} (h : x.Ok B w) (k : Keeps B w w') : x.Ok B w' := ⟨h.l.keep k, h.n.keep k⟩
theorem NV.Ok.mono {B C : Nat → Prop} {w : World} {x : NV} (h : x.Ok B w) (k : ∀ k, B k → C k) : x.Ok C w := ⟨h.l.mono k, h.n.mono k⟩
theorem NV.Ok.one {B : Nat → Prop} {w : World} {x : NV} (h : x.Ok B w) : ∀ u ∈ x.cells, u.oneCell' = true := by
  obtain ⟨la, ln, lc, h1, _⟩ := h.l.open
  obtain ⟨na, nn, nc, h2, _⟩ := h.n.open
  unfold NV.cells
  rw [h1, h2]
  intro u hu
  simp only [List.mem_cons, List.not_mem_nil, or_false] at hu
  rcases hu with rfl | rfl | rfl | rfl <;> rfl
theorem GRow.nodes {el : TypeId} {base : Nat} {B : Nat → Prop} {W : World} {v : Value} {xs : List NV} (h : GRow el 4 base W v (xs.map NV.cells)) (hok : ∀ x ∈ xs, x.Ok B W) (hl : xs.length ≤ maxLen) : NodeSl (fun k => B k ∨ (base ≤ k ∧ k < W.heap.size)) W v (xs.map NV.g) := by
  refine ⟨?_, by simpa using hl⟩
  rcases h.parts with ⟨rfl, h0⟩ | ⟨g, cap, rfl, hg, hlt, _⟩
  · exact .inl ⟨⟨_, _, rfl⟩, by simpa using h0⟩
  · refine .inr ⟨g, 0, cap, by rw [List.length_map, List.length_map], .inr ⟨hg, hlt⟩, fun j n hj => ?_⟩
    rw [List.getElem?_map] at hj
    obtain ⟨x, hx, rfl⟩ := Option.map_eq_some_iff.1 hj
    have hj' : (xs.map NV.cells)[j]? = some x.cells := by rw [List.getElem?_map, hx]; rfl
    have ox := hok x (List.mem_of_getElem? hx)
    have cell : ∀ i u, x.cells[i]? = some u → W.cell? ⟨g, 0 + j * 4 + i, none⟩ = some u := by
      intro i u hi
      obtain ⟨g1, c1, e1, h1⟩ := h.cell hj' hi
      simp only [Value.slice.injEq, Option.some.injEq, Addr.mk.injEq, and_true, true_and] at e1
      obtain ⟨rfl, rfl⟩ := e1
      rw [Nat.zero_add]; exact h1
    exact ⟨cell 0 _ rfl, cell 1 _ rfl, x.lv, x.nv, cell 2 _ rfl, cell 3 _ rfl, ox.l.mono (fun k hk => .inl hk), ox.n.mono (fun k hk => .inl hk)⟩
end Go.Proofs.YtecdapihfiahiaaDoor

/- Graphs: environments, and the builder's state. -/
namespace Go.Proofs.YtecdapihfiahiaaDoor
open Go.RowKit Go.Deep Go.Shelf

theorem intInfoG : (Tryd.prog.info? 3).map (fun i => (i.zero, i.size, i.bytes)) = some (some (.int .i64 0), 1, 8) := by kernel_rfl
theorem zero_intG (w : World) : (zeroValue 3).run Tryd.prog w = .ok (.int .i64 0) w := by
  obtain ⟨i0, hi, hz0, hz1, hz2⟩ := info_parts intInfoG
  simp [zeroValue, typeInfo, hi, hz0]
theorem strKeyedG : Maps.Keyed Tryd.prog 9 := Maps.string_keyed Tryd.underlying9
theorem lit_inj {s n : ByteArray} (h : Lit.string s.data.toList = Lit.string n.data.toList) : s = n := by
  have := Lit.string.inj h
  cases s; cases n; simp at this; congr 1

/-- Block b is a map, of at most n entries, that gives each name its number; one that is not in it, 0. -/
def EnvIs (w : World) (b n : Nat) (e : ByteArray → Nat) : Prop :=
  ∃ F : Lit → Option Value, MapIs w 9 b n F ∧ ∀ s : ByteArray, (F (.string s.data.toList)).getD (.int .i64 0) = .int .i64 (e s)
theorem EnvIs.made (w : World) : EnvIs (w.alloc (.map #[] 0)) w.heap.size 0 (fun _ => 0) := ⟨_, MapIs.made w _, fun _ => rfl⟩
theorem EnvIs.lt {w : World} {b n : Nat} {e : ByteArray → Nat} (h : EnvIs w b n e) : b < w.heap.size := by obtain ⟨F, h, _⟩ := h; exact h.lt
theorem EnvIs.same {w w' : World} {b n : Nat} {e : ByteArray → Nat} (h : EnvIs w b n e) (hb : w'.heap[b]? = w.heap[b]?) : EnvIs w' b n e := by
  obtain ⟨F, ⟨D, ⟨es, clock, h1, r⟩, hf⟩, hF⟩ := h
  exact ⟨F, ⟨D, ⟨es, clock, hb.trans h1, r⟩, hf⟩, hF⟩
theorem EnvIs.isMap {w : World} {b n : Nat} {e : ByteArray → Nat} (h : EnvIs w b n e) : ∃ es clock, w.heap[b]? = some (.map es clock) := by
  obtain ⟨F, ⟨D, ⟨es, clock, h1, r⟩, hf⟩, hF⟩ := h
  exact ⟨es, clock, h1⟩
theorem EnvIs.to {w w' : World} {b n : Nat} {e : ByteArray → Nat} (h : EnvIs w b n e) (hb : Below w.heap.size w w') : EnvIs w' b n e := h.same (hb.block b h.lt)
theorem EnvIs.look {w : World} {b n : Nat} {e : ByteArray → Nat} (h : EnvIs w b n e) {s : ByteArray} (hs : s.size ≤ maxLen) :
    (Instr.lookup 64 (.map (some b)) (.string s) false).run Tryd.prog w = .ok (.int .i64 (e s)) w := by
  obtain ⟨F, hm, hF⟩ := h
  rw [MapIs.look hm strKeyedG Tryd.underlying64 (zero_intG w) (Go.WideMaps.keyOf_string_mk Tryd.underlying9 hs), hF s]
theorem EnvIs.put {w : World} {b n : Nat} {e : ByteArray → Nat} (h : EnvIs w b n e) (hn : n < maxLen) {s : ByteArray} (hs : s.size ≤ maxLen) (i : Nat) :
    ∃ w', (Instr.mapUpdate 64 (.map (some b)) (.string s) (.int .i64 i)).run Tryd.prog w = .ok () w' ∧ EnvIs w' b (n + 1) (upE e s i) ∧ w.grownBy w' (some b) := by
  obtain ⟨F, hm, hF⟩ := h
  obtain ⟨w', hr, hm', hg⟩ := MapIs.put hm strKeyedG Tryd.underlying64 hn (val := .int .i64 i) (Go.WideMaps.keyOf_string_mk Tryd.underlying9 hs) (by first | trivial | simp [WideAt.IsKeyLit])
  refine ⟨w', hr, ⟨_, hm', fun x => ?_⟩, hg⟩
  by_cases hx : x = s
  · subst hx
    simp [upE]
  · have h1 : Lit.string x.data.toList ≠ Lit.string s.data.toList := fun h => hx (lit_inj h)
    rw [if_neg h1, hF x, upE, if_neg (fun h => hx h.symm)]

/-- A copy in which a name stands for a node. -/
theorem with_any (b n : Nat) (e : ByteArray → Nat) (s : ByteArray) (i : Nat) (w : World) (h : EnvIs w b n e) (hn : n < 1000000) (hs : s.size ≤ maxLen) :
    Calls Tryd.prog 37 #[.map (some b), .string s, .int .i64 i] w fun e' w' => ∃ c, e' = .returned (.map (some c)) ∧ w.heap.size ≤ c ∧ EnvIs w' c (n + 1) (upE e s i) ∧ Below w.heap.size w w' := by
  have HC : Hid (Calls Tryd.prog 42 #[.map (some b)] w fun e1 w' => ∃ c, e1 = .returned (.map (some c)) ∧ w.heap.size ≤ c ∧ EnvIs w' c n e ∧ Below w.heap.size w w') := Lib.hid (by
    obtain ⟨F, hm, hF⟩ := h
    exact (mapsCloneG_any b n F w hm).mono fun e1 w' ⟨c, h1, h2, h3, h4⟩ => ⟨c, h1, h2, ⟨F, h3, hF⟩, h4⟩)
  clear h
  have HS := Lib.hid hs
  clear hs
  go_enter Tryd.func37, Tryd.ntmps37
  go_wp2_with (go_at_call 42; refine HC.out.mono ?_; rintro e1 w1 ⟨c, rfl, hc, hE, hb⟩; obtain ⟨w2, hup, hE2, hg⟩ := hE.put (by unfold maxLen; omega) HS.out i; have HE2 := Lib.hid hE2; have HG := Lib.hid hg; have HB := Lib.hid hb; clear hE hE2 hg hb)
  go_ret
  exact ⟨c, rfl, hc, HE2.out, HB.out.grown HG.out HB.out.size (fun k hk => by cases hk; exact hc)⟩
end Go.Proofs.YtecdapihfiahiaaDoor

/- Graphs: the builder's state, what its calls keep; the nodes of types one beside the other. -/
namespace Go.Proofs.YtecdapihfiahiaaDoor
open Go.RowKit Go.Deep Go.Shelf

/-! ### Types that can be built -/
mutual
/-- A TRec has one Kid, a TVar none; there are no other kinds than the nine; lists are not too long. -/
def Ty.okg : Ty → Prop
  | .mk k _ _ _ ls ts => k ≤ 9 ∧ (k = 8 → ts.length = 1) ∧ (k = 9 → ts = []) ∧ ls.length ≤ 400000000 ∧ Ty.okgs ts
def Ty.okgs : List Ty → Prop
  | [] => True
  | t :: r => t.okg ∧ Ty.okgs r
end
theorem Ty.okgs_mem : ∀ {ts : List Ty}, Ty.okgs ts → ∀ t ∈ ts, t.okg
  | [], _, _, h => by cases h
  | u :: r, h, t, ht => by
    simp only [Ty.okgs] at h
    rcases List.mem_cons.1 ht with rfl | ht
    · exact h.1
    · exact Ty.okgs_mem h.2 t ht
theorem Ty.okgs_of : ∀ {ts : List Ty}, (∀ t ∈ ts, t.okg) → Ty.okgs ts
  | [], _ => by simp only [Ty.okgs]
  | u :: r, h => by
    simp only [Ty.okgs]
    exact ⟨h u (by simp), Ty.okgs_of (fun t ht => h t (by simp [ht]))⟩
theorem pnod_ok : ∀ (t : Ty), t.okg → ∀ (i : Nat) (e : ByteArray → Nat), (t.pnod i e).length = t.gcnt := by
  refine Ty.ind ?_
  intro k p n s ls ts ih h i e
  simp only [Ty.okg] at h
  obtain ⟨h9, h1, h0, _, hk⟩ := h
  rw [Ty.pnod, Ty.gcnt]
  by_cases e8 : k = 8
  · subst e8
    rw [if_pos rfl, if_neg (by decide), Nat.zero_add]
    obtain ⟨u, rfl⟩ : ∃ u, ts = [u] := by
      match ts, h1 rfl with
      | [u], _ => exact ⟨u, rfl⟩
    simp only [Ty.okgs] at hk
    rw [Ty.pnod1, ih u (by simp) hk.1]
    simp [Ty.gcnts]
  · rw [if_neg e8]
    by_cases e9 : k = 9
    · subst e9
      rw [if_pos rfl, if_neg (by decide), h0 rfl]
      simp [Ty.gcnts]
    · rw [if_neg e9, if_pos (by omega)]
      have h3 : ∀ (l : List Ty) (i : Nat), (∀ t ∈ l, t ∈ ts) → (Ty.pnods i e l).length = Ty.gcnts l := by
        intro l
        induction l with
        | nil => intro i _; rw [Ty.pnods, Ty.gcnts]; rfl
        | cons t r ihl =>
          intro i hm
          rw [Ty.pnods, Ty.gcnts, List.length_append, ih t (hm t (by simp)) (Ty.okgs_mem hk t (hm t (by simp))), ihl _ (fun u hu => hm u (by simp [hu]))]
      rw [List.length_cons, h3 ts _ (fun _ h => h)]
      omega
theorem pnods_ok {e : ByteArray → Nat} : ∀ (l : List Ty) (i : Nat), Ty.okgs l → (Ty.pnods i e l).length = Ty.gcnts l
  | [], i, _ => by rw [Ty.pnods, Ty.gcnts]; rfl
  | t :: r, i, h => by
    simp only [Ty.okgs] at h
    rw [Ty.pnods, Ty.gcnts, List.length_append, pnod_ok t h.1, pnods_ok r _ h.2]
theorem prefs_snoc {e : ByteArray → Nat} (t : Ty) : ∀ (l : List Ty) (i : Nat), Ty.prefs i e (l ++ [t]) = Ty.prefs i e l ++ [t.pref (i + Ty.gcnts l) e]
  | [], i => by simp [Ty.prefs, Ty.gcnts]
  | u :: r, i => by
    rw [List.cons_append, Ty.prefs, prefs_snoc t r, Ty.prefs, Ty.gcnts, List.cons_append, Nat.add_assoc]
theorem pnods_snoc {e : ByteArray → Nat} (t : Ty) : ∀ (l : List Ty) (i : Nat), Ty.pnods i e (l ++ [t]) = Ty.pnods i e l ++ t.pnod (i + Ty.gcnts l) e
  | [], i => by simp [Ty.pnods, Ty.gcnts]
  | u :: r, i => by
    rw [List.cons_append, Ty.pnods, pnods_snoc t r, Ty.pnods, Ty.gcnts, List.append_assoc, Nat.add_assoc]
theorem prefs_len {e : ByteArray → Nat} : ∀ (l : List Ty) (i : Nat), (Ty.prefs i e l).length = l.length
  | [], _ => rfl
  | t :: r, i => by rw [Ty.prefs, List.length_cons, prefs_len r, List.length_cons]
theorem Ty.gcnts_take {l : List Ty} {i : Nat} {t : Ty} (h : l[i]? = some t) : Ty.gcnts (l.take (i + 1)) = Ty.gcnts (l.take i) + t.gcnt := by
  rw [take_snoc_get h, Ty.gcnts_append]; simp [Ty.gcnts]
theorem Ty.okgs_take {l : List Ty} (h : Ty.okgs l) (i : Nat) : Ty.okgs (l.take i) := Ty.okgs_of (fun t ht => Ty.okgs_mem h t (List.mem_of_mem_take ht))

/-! ### append in a plain region -/
theorem wpList_appG {sl el : TypeId} {sz base : Nat} {v : Value} {es : List (List Value)} {ops : Array Oper} {rest : List Oper} {o : Oper} {a : Act} {w : World} {Q : Exit → Act → World → Prop} (I : ElemOf sl el sz) (hgd : o.guard = none) (s x : Operand)
    (ho : o.op = .call { callee := .builtin .append, args := #[s, x], argTypes := #[sl, sl] })
    (hs : a.eval s = v) (h : GRow el sz base w v es) (na : Option Addr) (nn nc : Nat) (news : List (List Value)) (hx : a.eval x = .slice na nn nc) (hnn : nn = news.length) (hlen : ∀ e ∈ news, e.length = sz) (hsrc : RowSrc sz w na news) (hone : ∀ e ∈ news, ∀ u ∈ e, u.oneCell' = true) (h63 : es.length + news.length ≤ 1000000000) (hbase : base ≤ w.heap.size)
    (hk : ∀ ga gn gc w', GRow el sz base w' (.slice ga gn gc) (es ++ news) → w.grownBy w' v.ownBlock → ((Value.slice ga gn gc).ownBlock = v.ownBlock ∨ (Value.slice ga gn gc).ownBlock = some w.heap.size) → wpList Tryd.prog ops Q rest (a.put o.dst (.slice ga gn gc)) w') : wpList Tryd.prog ops Q (o :: rest) a w := by
  refine wpList_plain hgd fun K hK => ?_
  obtain ⟨ga, gn, gc, w', hr, h2, h3, h4⟩ := run_appG I o.type h na nn nc news hnn hlen hsrc hone h63 hbase
  unfold Oper.wp execOp
  simp only [ho, resolve, invoke, builtin, Sem.run_bind, Sem.run_pure, Result.andThen_ok, List.map_toArray, List.map_cons, List.map_nil, hs, hx, hr]
  exact hK _ _ (hk ga gn gc w' h2 h3 h4)
/-- A block just made is a source of one element. -/
theorem src_new {sz : Nat} (w : World) (cs : List Value) (t : TypeId) : RowSrc sz (w.alloc (.cells cs.toArray t)) (some ⟨w.heap.size, 0, none⟩) [cs] := by
  refine .inr ⟨w.heap.size, 0, rfl, fun j e i u hj hi => ?_⟩
  cases j with
  | zero =>
    simp only [List.getElem?_cons_zero, Option.some.injEq] at hj
    subst hj
    rw [show 0 + (0 * sz + i) = i by omega]
    have h := World.alloc_heap_new w (.cells cs.toArray t)
    simp only [World.cell?, h]
    simpa using hi
  | succ j => simp at hj
theorem src_at {sz : Nat} {w : World} {cs : List Value} {t : TypeId} {fr : Nat × Nat} {b : Nat} (h : w.heap[b]? = some (.cells cs.toArray t fr)) : RowSrc sz w (some ⟨b, 0, none⟩) [cs] := by
  refine .inr ⟨b, 0, rfl, fun j e i u hj hi => ?_⟩
  cases j with
  | zero =>
    simp only [List.getElem?_cons_zero, Option.some.injEq] at hj
    subst hj
    rw [show 0 + (0 * sz + i) = i by omega]
    simp only [World.cell?, h]
    simpa using hi
  | succ j => simp at hj

/-! ### What a builder's calls keep -/
/-- The block of a row. -/
theorem GRow.obj {el : TypeId} {sz base : Nat} {W : World} {v : Value} {es : List (List Value)} (h : GRow el sz base W v es) {k : Nat} (hk : v.ownBlock = some k) : ∃ cs, W.heap[k]? = some (.cells cs el (0, 0)) := by
  rcases h.own.2 with ⟨rfl, _⟩ | ⟨g, cap, cur, rfl, _, hg, _⟩
  · cases hk
  · cases hk; exact ⟨cur, hg⟩
/-- The builder: its box, its list of nodes. -/
structure Bu (base bx : Nat) (w : World) (v : Value) (xs : List NV) : Prop where
  box : w.heap[bx]? = some (.cells #[v] 61 (0, 0))
  hbx : base ≤ bx
  hw : base ≤ w.heap.size
  row : GRow 52 4 base w v (xs.map NV.cells)
theorem Bu.cell {base bx : Nat} {w : World} {v : Value} {xs : List NV} (h : Bu base bx w v xs) : w.cell? ⟨bx, 0, none⟩ = some v := by simp [World.cell?, h.box]
theorem Bu.frozen {base bx : Nat} {w : World} {v : Value} {xs : List NV} (h : Bu base bx w v xs) : w.frozen? ⟨bx, 0, none⟩ = false := frozen_of_block h.box 0
theorem Bu.slice {base bx : Nat} {w : World} {v : Value} {xs : List NV} (h : Bu base bx w v xs) : ∃ a c, v = .slice a xs.length c := by
  rcases h.row.parts with ⟨rfl, h0⟩ | ⟨g, cap, rfl, _⟩
  · have : xs = [] := by simpa using h0
    subst this; exact ⟨_, _, rfl⟩
  · rw [List.length_map]; exact ⟨_, _, rfl⟩
theorem Bu.lt {base bx : Nat} {w : World} {v : Value} {xs : List NV} (h : Bu base bx w v xs) : bx < w.heap.size := (Array.getElem?_eq_some_iff.1 h.box).1
/-- A block of cells of another kind, or no block of cells, is neither the box nor the list. -/
theorem Bu.apart {base bx k : Nat} {w : World} {v : Value} {xs : List NV} (h : Bu base bx w v xs) {o : Obj} (ho : w.heap[k]? = some o) (hc : ∀ cs t fr, o = .cells cs t fr → t ≠ 52 ∧ t ≠ 61) : k ≠ bx ∧ some k ≠ v.ownBlock := by
  refine ⟨fun e => ?_, fun e => ?_⟩
  · subst e
    exact (hc _ _ _ (Option.some.inj (ho.symm.trans h.box))).2 rfl
  · obtain ⟨cs, hk⟩ := h.row.obj e.symm
    exact (hc _ _ _ (Option.some.inj (ho.symm.trans hk))).1 rfl
/-- Whatever leaves all that lay there as it was. -/
theorem Bu.to {base bx : Nat} {w w' : World} {v : Value} {xs : List NV} (h : Bu base bx w v xs) (hb : Below w.heap.size w w') : Bu base bx w' v xs :=
  ⟨(hb.block bx h.lt).trans h.box, h.hbx, Nat.le_trans h.hw hb.size, h.row.to hb⟩
theorem Bu.grown {base bx sz b2 : Nat} {el : TypeId} {es : List (List Value)} {w w' : World} {v r : Value} {xs : List NV} (h : Bu base bx w v xs) (hr : GRow el sz b2 w r es) (he : el ≠ 52 ∧ el ≠ 61) (hg : w.grownBy w' r.ownBlock) : Bu base bx w' v xs := by
  refine ⟨(hg.block bx h.lt (hr.ne h.box (fun e => he.2 e.symm))).trans h.box, h.hbx, Nat.le_trans h.hw hg.size, h.row.kept (fun k hk => ?_)⟩
  obtain ⟨cs, hc⟩ := h.row.obj hk
  exact hg.block k (Array.getElem?_eq_some_iff.1 hc).1 (hr.ne hc (fun e => he.1 e.symm))

/-- Between two worlds the builder's box and list have changed, from v to v', and nothing else that lay there. -/
structure BkG (base bx : Nat) (w : World) (v : Value) (w' : World) (v' : Value) : Prop where
  below : Below base w w'
  side : ∀ k, k < w.heap.size → k ≠ bx → some k ≠ v.ownBlock → w'.heap[k]? = w.heap[k]?
  own : v'.ownBlock = v.ownBlock ∨ ∀ k, v'.ownBlock = some k → w.heap.size ≤ k
section
variable {base bx : Nat} {a b c w w1 w' : World} {v v' v1 v2 v3 : Value} {xs : List NV}
theorem BkG.refl (base bx : Nat) (w : World) (v : Value) : BkG base bx w v w v := ⟨Below.refl _ _, fun _ _ _ _ => rfl, .inl rfl⟩
theorem BkG.trans (h : BkG base bx a v1 b v2) (k : BkG base bx b v2 c v3) : BkG base bx a v1 c v3 := by
  have hs := h.below.size
  refine ⟨h.below.trans k.below, fun i h1 h2 h3 => (k.side i (Nat.lt_of_lt_of_le h1 hs) h2 (fun e => ?_)).trans (h.side i h1 h2 h3), ?_⟩
  · rcases h.own with ho | ho
    · exact h3 (e.trans ho)
    · have := ho i e.symm; omega
  · rcases k.own with ko | ko
    · rcases h.own with ho | ho
      · exact .inl (ko.trans ho)
      · exact .inr (fun i hi => ho i (ko.symm.trans hi))
    · exact .inr (fun i hi => Nat.le_trans hs (ko i hi))
theorem BkG.of_below (h : Below w.heap.size w w') (hb : base ≤ w.heap.size) (bx : Nat) (v : Value) : BkG base bx w v w' v := ⟨h.mono hb, fun k hk _ _ => h.block k hk, .inl rfl⟩
theorem BkG.alloc (h : BkG base bx w v w1 v1) (hb : base ≤ w1.heap.size) (o : Obj) : BkG base bx w v (w1.alloc o) v1 := h.trans (BkG.of_below ((Below.refl _ _).alloc (Nat.le_refl _) _) hb bx v1)
theorem BkG.drew (h : BkG base bx w v w1 v1) : BkG base bx w v w1.drew v1 := ⟨h.below.drew, h.side, h.own⟩
/-- The list grows. -/
theorem BkG.grown {es : List (List Value)} (h : BkG base bx w v w1 v1) (hr : GRow 52 4 base w1 v1 es) (hb : base ≤ w1.heap.size) (hg : w1.grownBy w' v1.ownBlock) (hq : v2.ownBlock = v1.ownBlock ∨ v2.ownBlock = some w1.heap.size) : BkG base bx w v w' v2 := by
  refine h.trans ⟨(Below.refl base w1).grown hg hb (fun k hk => (hr.lt k hk).1), fun k h1 _ h3 => hg.block k h1 h3, ?_⟩
  rcases hq with e | e
  · exact .inl e
  · exact .inr (fun k hk => by have := Option.some.inj (e.symm.trans hk); omega)
/-- A store into the box. -/
theorem BkG.box (h : BkG base bx w v w1 v1) (hx : base ≤ bx) (i : Nat) (u : Value) : BkG base bx w v (w1.setCell ⟨bx, i, none⟩ u) v1 := by
  refine h.trans ⟨(Below.refl base w1).setCell hx u, fun k _ h2 _ => ?_, .inl rfl⟩
  show (w1.heap.modify bx _)[k]? = _
  rw [Array.getElem?_modify, if_neg (fun e => h2 e.symm)]
/-- A store into the list. -/
theorem BkG.list {g n cap : Nat} (h : BkG base bx w v w1 v1) (hv : v1 = .slice (some ⟨g, 0, none⟩) n cap) (hg : base ≤ g) (i : Nat) (u : Value) : BkG base bx w v (w1.setCell ⟨g, i, none⟩ u) v1 := by
  refine h.trans ⟨(Below.refl base w1).setCell hg u, fun k _ _ h3 => ?_, .inl rfl⟩
  show (w1.heap.modify g _)[k]? = _
  rw [Array.getElem?_modify, if_neg (fun e => h3 (by rw [hv, e]; rfl))]
/-- A row of another kind, made since then, grows. -/
theorem BkG.grownR {sz b2 : Nat} {el : TypeId} {es : List (List Value)} {r : Value} (h : BkG base bx w v w1 v1) (hr : GRow el sz b2 w1 r es) (hb2 : w.heap.size ≤ b2) (hb : base ≤ w.heap.size) (hg : w1.grownBy w' r.ownBlock) : BkG base bx w v w' v1 := by
  refine ⟨h.below.grown hg (Nat.le_trans hb h.below.size) (fun k hk => Nat.le_trans (Nat.le_trans hb hb2) (hr.lt k hk).1), fun k h1 h2 h3 => ?_, h.own⟩
  refine (hg.block k (Nat.lt_of_lt_of_le h1 h.below.size) (fun e => ?_)).trans (h.side k h1 h2 h3)
  have := (hr.lt k e.symm).1
  omega

/-- Blocks that are neither the box nor the list. -/
def Side (bx : Nat) (v : Value) (w : World) (k : Nat) : Prop := k < w.heap.size ∧ k ≠ bx ∧ some k ≠ v.ownBlock
theorem Side.to (h : BkG base bx w v w' v') : ∀ k, Side bx v w k → Side bx v' w' k := fun k ⟨h1, h2, h3⟩ => ⟨Nat.lt_of_lt_of_le h1 h.below.size, h2, fun e => by
  rcases h.own with ho | ho
  · exact h3 (e.trans ho)
  · have := ho k e.symm; omega⟩
theorem BkG.keeps (h : BkG base bx w v w' v') : Keeps (Side bx v w) w w' := fun k _ hk ho _ => (h.side k hk.1 hk.2.1 hk.2.2).trans ho
theorem NV.Ok.bk {B : Nat → Prop} {x : NV} (h : x.Ok (fun k => Side bx v w k ∧ B k) w) (k : BkG base bx w v w' v') : x.Ok (fun k => Side bx v' w' k ∧ B k) w' := (h.keep (k.keeps.mono (fun _ h => h.1))).mono (fun i hi => ⟨Side.to k i hi.1, hi.2⟩)
theorem EnvIs.bk {eb n : Nat} {e : ByteArray → Nat} (h : EnvIs w eb n e) (hb : Bu base bx w v xs) (k : BkG base bx w v w' v') : EnvIs w' eb n e := by
  obtain ⟨es, clock, hm⟩ := h.isMap
  obtain ⟨h1, h2⟩ := hb.apart hm (fun _ _ _ e => by cases e)
  exact h.same (k.side eb h.lt h1 h2)
theorem GRow.bk {el : TypeId} {sz b2 : Nat} {r : Value} {es : List (List Value)} (h : GRow el sz b2 w r es) (he : el ≠ 52 ∧ el ≠ 61) (hb : Bu base bx w v xs) (k : BkG base bx w v w' v') : GRow el sz b2 w' r es :=
  h.kept (fun i hi => by
    obtain ⟨cs, hc⟩ := h.obj hi
    obtain ⟨h1, h2⟩ := hb.apart hc (fun cs' t fr e => by cases e; exact he)
    exact k.side i (h.lt i hi).2 h1 h2)
theorem Keeps.grown {B : Nat → Prop} {row : Option Nat} (hg : w.grownBy w' row) (hB : ∀ k, B k → some k ≠ row) : Keeps B w w' := fun k _ hk ho _ => (hg.block k (Array.getElem?_eq_some_iff.1 ho).1 (hB k hk)).trans ho
end
/-- Blocks that a builder's call has made, beside its list. -/
def New (bx : Nat) (w w' : World) (v' : Value) : Nat → Prop := fun k => Side bx v' w' k ∧ w.heap.size ≤ k
end Go.Proofs.YtecdapihfiahiaaDoor

/- Graphs: addAll, given add. -/
namespace Go.Proofs.YtecdapihfiahiaaDoor
open Go.RowKit Go.Deep Go.Shelf

/-- What add does with a type. -/
def AddAt (t : Ty) : Prop := ∀ (base bx kb ko eb n : Nat) (e : ByteArray → Nat) (v : Value) (xs : List NV) (w : World), Bu base bx w v xs → TyAt (fun k => k < base) w t kb ko → EnvIs w eb n e → n + t.depth ≤ 100000 → xs.length + t.size ≤ 1000000 → t.okg →
  Calls Tryd.prog 32 #[.pointer (some ⟨bx, 0, none⟩), .pointer (some ⟨kb, ko, none⟩), .map (some eb)] w fun en w' => ∃ (v' : Value) (ys : List NV), en = .returned (.agg #[.int .i64 (t.pref xs.length e).n, .int .i64 (t.pref xs.length e).s]) ∧ Bu base bx w' v' (xs ++ ys) ∧ (∀ y ∈ ys, y.Ok (New bx w w' v') w') ∧ ys.map NV.g = t.pnod xs.length e ∧ BkG base bx w v w' v'
/-- What addAll does with types. -/
def AddAllAt (ts : List Ty) : Prop := ∀ (base bx eb n : Nat) (e : ByteArray → Nat) (v : Value) (xs : List NV) (pa : Option Addr) (len c : Nat) (w : World), Bu base bx w v xs → TySl (fun k => k < base) w (.slice pa len c) ts → EnvIs w eb n e → n + Ty.depths ts ≤ 100000 → xs.length + Ty.sizes ts ≤ 1000000 → Ty.okgs ts →
  Calls Tryd.prog 20 #[.pointer (some ⟨bx, 0, none⟩), .slice pa len c, .map (some eb)] w fun en w' => ∃ (v' rv : Value) (ys : List NV), en = .returned rv ∧ GRow 37 2 w.heap.size w' rv ((Ty.prefs xs.length e ts).map refCells) ∧ Bu base bx w' v' (xs ++ ys) ∧ (∀ y ∈ ys, y.Ok (fun k => New bx w w' v' k ∧ some k ≠ rv.ownBlock) w') ∧ ys.map NV.g = Ty.pnods xs.length e ts ∧ BkG base bx w v w' v'
theorem refT_plain : 37 ≠ 52 ∧ 37 ≠ 61 := by decide

set_option maxHeartbeats 4000000 in
set_option maxRecDepth 100000 in
theorem addAll_any (ts : List Ty) (ih : ∀ t ∈ ts, AddAt t) : AddAllAt ts := by
  intro base bx eb n e v xs pa len c w hbu hts hev hd hs hok
  obtain ⟨pa', len', c', e0, hlen, hmx, hget⟩ := hts.open
  simp only [Value.slice.injEq] at e0
  obtain ⟨rfl, rfl, rfl⟩ := e0
  have HG := Lib.hid hget
  have HIH := Lib.hid ih
  have HBU := Lib.hid hbu
  have HEV := Lib.hid hev
  have HD := Lib.hid hd
  have HS := Lib.hid hs
  have HOK := Lib.hid hok
  have hlen2 : len ≤ 1000000 := by have := hlen.out; have := Ty.length_sizes ts; omega
  have hbw := hbu.hw
  clear hget ih hbu hev hd hs hok hts
  go_enter Tryd.func20, Tryd.ntmps20
  go_wp2_with fail
  go_loopw [7, 11] (fun rv i wr => ∃ (j : Nat) (ra : Option Addr) (rn rc : Nat) (v' : Value) (ys : List NV), i = .int .i64 j ∧ j ≤ len ∧ rv = .slice ra rn rc ∧ Hid (GRow 37 2 w.heap.size wr (.slice ra rn rc) ((Ty.prefs xs.length e (ts.take j)).map refCells)) ∧ Hid (Bu base bx wr v' (xs ++ ys)) ∧ Hid (∀ y ∈ ys, y.Ok (fun k => Side bx v' wr k ∧ (w.heap.size ≤ k ∧ some k ≠ (Value.slice ra rn rc).ownBlock)) wr) ∧ Hid (ys.map NV.g = Ty.pnods xs.length e (ts.take j)) ∧ Hid (BkG base bx w v wr v')) (fun _ i _ => len - (intOf i).toNat)
  case atStart => exact ⟨0, _, _, _, v, [], rfl, by omega, rfl, Lib.hid (by simpa [Ty.prefs] using GRow.nil _ _ _ _), Lib.hid (by simpa using HBU.out), Lib.hid (fun y hy => by cases hy), Lib.hid (by simp [Ty.pnods]), Lib.hid (BkG.refl _ _ _ _)⟩
  case round =>
    obtain ⟨j, ra, rn, rc, v', ys, rfl, hj, rfl, HR, HB, HN, HY, HK⟩ := hrel
    have hwz := HK.out.below.size
    by_cases hlt : j < len
    · obtain ⟨t, ht⟩ : ∃ t, ts[j]? = some t := ⟨_, List.getElem?_eq_getElem (by rw [← hlen.out]; exact hlt)⟩
      obtain ⟨kb, ko, rfl, hkl, hta⟩ := HG.out j t ht
      have htm := List.mem_of_getElem? ht
      have hys : ys.length = Ty.gcnts (ts.take j) := by
        have h := congrArg List.length HY.out
        rw [List.length_map, pnods_ok _ _ (Ty.okgs_take HOK.out j)] at h
        exact h
      have hsz : ys.length + t.size ≤ Ty.sizes ts := by
        rw [hys]
        have h1 := Ty.gcnts_le (ts.take j)
        have h2 := Ty.sizes_take ht
        have h3 := Ty.sizes_take_le ts (j + 1)
        omega
      have hdt := Ty.depth_mem htm
      have HC : Hid (Calls Tryd.prog 32 #[.pointer (some ⟨bx, 0, none⟩), .pointer (some ⟨kb, ko + j * 6, none⟩), .map (some eb)] wr fun en w' => ∃ (v'' : Value) (zs : List NV), en = .returned (.agg #[.int .i64 (t.pref (xs ++ ys).length e).n, .int .i64 (t.pref (xs ++ ys).length e).s]) ∧ Bu base bx w' v'' ((xs ++ ys) ++ zs) ∧ (∀ y ∈ zs, y.Ok (New bx wr w' v'') w') ∧ zs.map NV.g = t.pnod (xs ++ ys).length e ∧ BkG base bx wr v' w' v'') :=
        Lib.hid (HIH.out t htm base bx kb (ko + j * 6) eb n e v' (xs ++ ys) wr HB.out (TyAt.keep HK.out.below.keeps' _ _ _ hta) (HEV.out.bk HBU.out HK.out) (by have := HD.out; omega) (by have := HS.out; rw [List.length_append]; omega) (Ty.okgs_mem HOK.out t htm))
      have HTK : Hid (ts.take (j + 1) = ts.take j ++ [t]) := Lib.hid (take_snoc_get ht)
      have HXY : Hid ((xs ++ ys).length = xs.length + Ty.gcnts (ts.take j)) := Lib.hid (by rw [List.length_append, hys])
      have HPL : Hid ((Ty.prefs xs.length e (ts.take j)).length ≤ 1000000) := Lib.hid (by rw [prefs_len, List.length_take]; omega)
      obtain ⟨r, hr⟩ : ∃ r, t.pref (xs ++ ys).length e = r := ⟨_, rfl⟩
      have HRR := Lib.hid hr
      rw [hr] at HC
      clear ht hta htm hys hsz hdt hr
      go_wp2_with (first | (go_at_call 32; refine HC.out.mono ?_; rintro en w5 ⟨v'', zs, rfl, hb5, hn5, hz5, hk5⟩; have HB5 := Lib.hid hb5; have HN5 := Lib.hid hn5; have HZ5 := Lib.hid hz5; have HK5 := Lib.hid hk5; have HR5 := Lib.hid (HR.out.bk refT_plain HB.out hk5); have hw5 := hk5.below.size; clear hb5 hn5 hz5 hk5) | (at_builtin; refine wpList_appG refElem rfl _ _ rfl rfl (HR5.out.alloc _) (some ⟨w5.heap.size, 0, none⟩) 1 1 [refCells r] rfl rfl (fun e he => by rw [List.mem_singleton.1 he]; rfl) (src_new w5 (refCells r) _) (fun e he u hu => by rw [List.mem_singleton.1 he] at hu; simp only [refCells, List.mem_cons, List.not_mem_nil, or_false] at hu; rcases hu with rfl | rfl <;> rfl) (by have := HPL.out; simp only [List.length_map, List.length_singleton]; omega) (by simp; omega) ?_; intro ga gn gc w6 hr6 hg6 hq6; have HR6 := Lib.hid hr6; have HG6 := Lib.hid hg6; have HQ6 := Lib.hid hq6; clear hr6 hg6 hq6))
      go_roundw
      case rel =>
        obtain ⟨W5, hW5⟩ : ∃ W5, w5.alloc (.cells #[.int .i64 r.n, .int .i64 r.s] 37) = W5 := ⟨_, rfl⟩
        have hs5 : W5.heap.size = w5.heap.size + 1 := by rw [← hW5]; simp
        have hk5 : BkG base bx w5 v'' W5 v'' := by rw [← hW5]; exact (BkG.refl base bx w5 v'').alloc HB5.out.hw _
        have hr5 : GRow 37 2 w.heap.size W5 (.slice ra rn rc) ((Ty.prefs xs.length e (ts.take j)).map refCells) := by rw [← hW5]; exact HR5.out.alloc _
        have hb5 : Bu base bx W5 v'' ((xs ++ ys) ++ zs) := by rw [← hW5]; exact HB5.out.to ((Below.refl _ _).alloc (Nat.le_refl _) _)
        have hg6 := HG6.out
        rw [show w5.alloc (.cells (refCells r).toArray 37) = W5 from hW5] at hg6
        have hq6 := HQ6.out
        rw [show w5.alloc (.cells (refCells r).toArray 37) = W5 from hW5] at hq6
        have hk : BkG base bx w v W5 v'' := (HK.out.trans HK5.out).trans hk5
        have hwr : ∀ k, (Value.slice ra rn rc).ownBlock = some k → k < wr.heap.size := fun k hk => (HR.out.lt k hk).2
        -- the blocks of the nodes are none of the row's
        have hnew : ∀ y ∈ ys ++ zs, y.Ok (fun k => Side bx v'' W5 k ∧ (w.heap.size ≤ k ∧ some k ≠ (Value.slice ra rn rc).ownBlock ∧ k < w5.heap.size)) W5 := by
          intro y hy
          rcases List.mem_append.1 hy with hy | hy
          · have h1 := ((HN.out y hy).bk HK5.out).mono (C := fun k => Side bx v'' w5 k ∧ (w.heap.size ≤ k ∧ some k ≠ (Value.slice ra rn rc).ownBlock ∧ k < w5.heap.size)) (fun k hk => ⟨hk.1, hk.2.1, hk.2.2, hk.1.1⟩)
            exact h1.bk hk5
          · have h1 := (HN5.out y hy).mono (C := fun k => Side bx v'' w5 k ∧ (w.heap.size ≤ k ∧ some k ≠ (Value.slice ra rn rc).ownBlock ∧ k < w5.heap.size)) (fun k hk => ⟨hk.1, Nat.le_trans hwz hk.2, fun e => by have := hwr k e.symm; have := hk.2; omega, hk.1.1⟩)
            exact h1.bk hk5
        refine ⟨j + 1, ga, gn, gc, v'', ys ++ zs, by go_num, by omega, rfl, Lib.hid ?_, Lib.hid ?_, Lib.hid (fun y hy => ?_), Lib.hid ?_, Lib.hid ?_⟩
        · have h1 := HR6.out
          rw [HTK.out, prefs_snoc, List.map_append, ← HXY.out, HRR.out]
          exact h1
        · rw [← List.append_assoc]
          exact hb5.grown hr5 refT_plain hg6
        · refine ((hnew y hy).keep (Keeps.grown hg6 (fun k hk => hk.2.2.1))).mono (fun k hk => ⟨⟨Nat.lt_of_lt_of_le hk.1.1 hg6.size, hk.1.2⟩, hk.2.1, fun e => ?_⟩)
          rcases hq6 with h | h
          · exact hk.2.2.1 (e.trans h)
          · have := Option.some.inj (e.trans h); have := hk.2.2.2; omega
        · rw [HTK.out, pnods_snoc, List.map_append, HY.out, HZ5.out, HXY.out]
        · exact hk.grownR hr5 (Nat.le_refl _) hbw hg6
      case measure => simp [intOf]; omega
    · obtain rfl : len = j := by omega
      go_wp2_with fail
      go_ret
      have e1 : ts.take len = ts := List.take_of_length_le (by rw [← hlen.out]; exact Nat.le_refl _)
      have h1 := HR.out
      have h2 := HY.out
      rw [e1] at h1 h2
      exact ⟨v', _, ys, rfl, h1, HB.out, fun y hy => (HN.out y hy).mono (fun k hk => ⟨⟨hk.1, hk.2.1⟩, hk.2.2⟩), h2, HK.out⟩
end Go.Proofs.YtecdapihfiahiaaDoor

/- Graphs: addNode, given addAll. -/
namespace Go.Proofs.YtecdapihfiahiaaDoor
open Go.RowKit Go.Deep Go.Shelf

/-- A node as it is pushed: its references are not there yet. -/
abbrev newNV (t : Ty) (lv : Value) : NV := ⟨⟨t.k, t.p, t.ls, []⟩, lv, .slice none 0 0⟩
def curV (v : Value) (L : Nat → Bool) (vals : Nat → Value) : Value := if L 20 = true then vals 20 else v
theorem curV_0 {v : Value} {L : Nat → Bool} {vals : Nat → Value} (h : L 20 = false) : curV v L vals = v := by rw [curV, h]; rfl
theorem curV_1 {v : Value} {L : Nat → Bool} {vals : Nat → Value} (h : L 20 = true) : curV v L vals = vals 20 := by rw [curV, h]; rfl
/-- The region that pushes a node. -/
structure Push (base bx : Nat) (w : World) (v : Value) (xs : List NV) (t : Ty) (L : Nat → Bool) (vals : Nat → Value) (W : World) : Prop where
  down : (L 18 = true → L 17 = true) ∧ (L 19 = true → L 18 = true) ∧ (L 20 = true → L 4 = true ∧ L 19 = true) ∧ (L 23 = true → L 20 = true)
  hw : base ≤ W.heap.size
  bk : BkG base bx w v W (curV v L vals)
  box : W.heap[bx]? = some (.cells #[if L 23 = true then vals 20 else v] 61 (0, 0))
  row : GRow 52 4 base W (curV v L vals) ((if L 20 = true then xs ++ [newNV t (vals 17)] else xs).map NV.cells)
  s4 : L 4 = true → vals 4 = v
  s17 : L 17 = true → (∃ a n c, vals 17 = .slice a n c) ∧ StrSl (fun k => Side bx (curV v L vals) W k ∧ w.heap.size ≤ k) W (vals 17) t.ls
  s18 : L 18 = true → vals 18 = .agg #[.int .i64 t.k, .int .i64 t.p, vals 17, .slice none 0 0]
  s19 : L 19 = true → L 20 = false → ∃ B, vals 19 = .slice (some ⟨B, 0, none⟩) 1 1 ∧ W.heap[B]? = some (.cells (newNV t (vals 17)).cells.toArray 52 (0, 0))
  s21 : L 21 = true → vals 21 = .pointer (some ⟨bx, 0, none⟩)
  s22 : L 22 = true → vals 22 = .pointer (some ⟨bx, 0, none⟩)
theorem Push.f19 {base bx : Nat} {w : World} {v : Value} {xs : List NV} {t : Ty} {L : Nat → Bool} {vals : Nat → Value} {W : World} (h : Push base bx w v xs t L vals W) (h19 : L 19 = false) : L 20 = false ∧ L 23 = false := by
  have a : L 20 = false := by
    cases e : L 20 with
    | false => rfl
    | true => exact absurd (h19.symm.trans (h.down.2.2.1 e).2) (by decide)
  refine ⟨a, ?_⟩
  cases e : L 23 with
  | false => rfl
  | true => exact absurd (a.symm.trans (h.down.2.2.2 e)) (by decide)
theorem Push.f17 {base bx : Nat} {w : World} {v : Value} {xs : List NV} {t : Ty} {L : Nat → Bool} {vals : Nat → Value} {W : World} (h : Push base bx w v xs t L vals W) (h17 : L 17 = false) : L 18 = false ∧ L 19 = false := by
  have a : L 18 = false := by
    cases e : L 18 with
    | false => rfl
    | true => exact absurd (h17.symm.trans (h.down.1 e)) (by decide)
  refine ⟨a, ?_⟩
  cases e : L 19 with
  | false => rfl
  | true => exact absurd (a.symm.trans (h.down.2.1 e)) (by decide)
theorem Push.f18 {base bx : Nat} {w : World} {v : Value} {xs : List NV} {t : Ty} {L : Nat → Bool} {vals : Nat → Value} {W : World} (h : Push base bx w v xs t L vals W) (h18 : L 18 = false) : L 19 = false := by
  cases e : L 19 with
  | false => rfl
  | true => exact absurd (h18.symm.trans (h.down.2.1 e)) (by decide)
/-- Before the append the builder is as it was. -/
theorem Push.bu {base bx : Nat} {w : World} {v : Value} {xs : List NV} {t : Ty} {L : Nat → Bool} {vals : Nat → Value} {W : World} (h : Push base bx w v xs t L vals W) (hx : base ≤ bx) (h20 : L 20 = false) (h23 : L 23 = false) : Bu base bx W v xs := by
  have h1 := h.box
  have h2 := h.row
  rw [curV_0 h20] at h2
  simp only [h20, h23, Bool.false_eq_true, if_false] at h1 h2
  exact ⟨h1, hx, h.hw, h2⟩

theorem GRow.refsB {el : TypeId} {base : Nat} {W : World} {v : Value} {rs : List GRef} {B : Nat → Prop} (h : GRow el 2 base W v (rs.map refCells)) (hl : rs.length ≤ maxLen) (hB : ∀ k, v.ownBlock = some k → B k) : RefSl B W v rs := by
  obtain ⟨h1, h2⟩ := h.refs hl
  refine ⟨?_, h2⟩
  rcases h1 with h1 | ⟨b, o, c, rfl, _, h3⟩
  · exact .inl h1
  · exact .inr ⟨b, o, c, rfl, hB b rfl, h3⟩
/-- The list behind a pushed node: the cell of its references. -/
theorem nodes_at {base bx : Nat} {w : World} {v : Value} {xs ys : List NV} {t : Ty} {lv : Value} (h : Bu base bx w v ((xs ++ [newNV t lv]) ++ ys)) :
    ∃ g cap N, v = .slice (some ⟨g, 0, none⟩) N cap ∧ xs.length < N ∧ base ≤ g ∧ g < w.heap.size ∧ w.cell? ⟨bx, 0, none⟩ = some (.slice (some ⟨g, 0, none⟩) N cap) ∧ w.cell? ⟨g, xs.length * 4 + 3, none⟩ = some (.slice none 0 0) ∧ w.frozen? ⟨g, xs.length * 4 + 3, none⟩ = false := by
  have hj : (((xs ++ [newNV t lv]) ++ ys).map NV.cells)[xs.length]? = some (newNV t lv).cells := by
    rw [List.getElem?_map, List.append_assoc, List.getElem?_append_right (Nat.le_refl _), Nat.sub_self]; rfl
  obtain ⟨g1, c1, e1, h1⟩ := h.row.cell (i := 3) hj rfl
  rcases h.row.parts with ⟨_, h0⟩ | ⟨g, cap, e, hg, hl, _, hf⟩
  · rw [h0] at hj; simp at hj
  · rw [e] at e1
    simp only [Value.slice.injEq, Option.some.injEq, Addr.mk.injEq, and_true, true_and] at e1
    obtain ⟨rfl, rfl⟩ := e1
    exact ⟨g, cap, _, e, by simp, hg, hl, by rw [← e]; exact h.cell, h1, hf _⟩

set_option maxHeartbeats 16000000 in
set_option maxRecDepth 100000 in
theorem addNode_any (t : Ty) (hall : AddAllAt t.ts) (base bx kb ko eb n : Nat) (e : ByteArray → Nat) (v : Value) (xs : List NV) (w : World) (hbu : Bu base bx w v xs) (hta : TyAt (fun k => k < base) w t kb ko) (hev : EnvIs w eb n e) (hd : n + t.depth ≤ 100000) (hs : xs.length + t.size ≤ 1000000) (hok : t.okg) :
    Calls Tryd.prog 38 #[.pointer (some ⟨bx, 0, none⟩), .pointer (some ⟨kb, ko, none⟩), .map (some eb)] w fun en w' => ∃ (v' : Value) (ys : List NV), en = .returned (.int .i64 (xs.length : Int)) ∧ Bu base bx w' v' (xs ++ ys) ∧ (∀ y ∈ ys, y.Ok (New bx w w' v') w') ∧ ys.map NV.g = ⟨t.k, t.p, t.ls, Ty.prefs (xs.length + 1) e t.ts⟩ :: Ty.pnods (xs.length + 1) e t.ts ∧ BkG base bx w v w' v' := by
  obtain ⟨la, ln, lc, ka, kn, kc, ⟨c0, c1, c2, c3, c4, c5⟩, hval⟩ := hta.load'
  obtain ⟨lv, kv, ea, hnm, hls, hks⟩ := hval
  simp only [Value.agg.injEq, Array.mk.injEq, List.cons.injEq, and_true, true_and] at ea
  obtain ⟨rfl, rfl⟩ := ea
  have hkb : kb < base := (TyAt.eq.1 hta).1
  obtain ⟨va, vc, rfl⟩ := hbu.slice
  have hbl := hbu.lt
  have hbx := hbu.hbx
  have hbw := hbu.hw
  have hok' : t.ls.length ≤ 400000000 ∧ Ty.okgs t.ts := by cases t; simp only [Ty.okg] at hok; exact ⟨hok.2.2.2.1, hok.2.2.2.2⟩
  have h63 : xs.length + 1 ≤ 1000000 := by have := t.size_pos; omega
  have b0 := hbu.cell
  have HBU := Lib.hid hbu
  have HEV := Lib.hid hev
  have HD := Lib.hid hd
  have HS := Lib.hid hs
  have HOK := Lib.hid hok'
  have HLS := Lib.hid hls
  have HKS := Lib.hid hks
  have HALL := Lib.hid hall
  have HC0 : Hid (∀ W, Below base w W → W.cell? ⟨kb, ko, none⟩ = some (.int .i64 t.k) ∧ W.cell? ⟨kb, ko + 1, none⟩ = some (.int .i64 t.p) ∧ W.cell? ⟨kb, ko + 4, none⟩ = some (.slice la ln lc) ∧ W.cell? ⟨kb, ko + 5, none⟩ = some (.slice ka kn kc)) := Lib.hid (fun W hW => ⟨(hW.cell (p := ⟨kb, _, none⟩) hkb).trans c0, (hW.cell (p := ⟨kb, _, none⟩) hkb).trans c1, (hW.cell (p := ⟨kb, _, none⟩) hkb).trans c4, (hW.cell (p := ⟨kb, _, none⟩) hkb).trans c5⟩)
  clear hbu hev hd hs hok hok' hls hks hall hta hnm c0 c1 c2 c3 c4 c5
  go_enter Tryd.func38, Tryd.ntmps38
  go_upto_region 2 with fail
  clear b0
  go_cut [] from 14 (fun wc => ∃ v2 lv2, Hid (Bu base bx wc v2 (xs ++ [newNV t lv2])) ∧ Hid ((newNV t lv2).Ok (New bx w wc v2) wc) ∧ Hid (BkG base bx w (.slice va xs.length vc) wc v2))
  case first =>
    refine wp_region_held_drew (S := fun W => W.cell? ⟨kb, ko, none⟩ = some (.int .i64 t.k) ∧ W.cell? ⟨kb, ko + 1, none⟩ = some (.int .i64 t.p) ∧ W.cell? ⟨kb, ko + 4, none⟩ = some (.slice la ln lc)) (by kernel_rfl) (by have h := HC0.out _ (Below.refl base w).drew; exact ⟨h.1, h.2.1, h.2.2.1⟩) (fun hHeld => ?_)
    refine wpAnyH_take_l 0 (v := ?v0) rfl rfl (by kernel_rfl) (by kernel_rfl) (by kernel_rfl) (fun _ _ _ h => h) ?h0 (by assumption) ?r0
    case h0 => (intro w hSw; (try dsimp only at hSw); go_simp; try rfl)
    case' r0 => simp only [setD, List.set_cons_succ, List.set_cons_zero]
    refine wpAnyH_take_l 1 (v := ?v1) rfl rfl (by kernel_rfl) (by kernel_rfl) (by kernel_rfl) (fun _ _ _ h => h) ?h1 (by assumption) ?r1
    case h1 => (intro w hSw; (try dsimp only at hSw); go_simp; try rfl)
    case' r1 => simp only [setD, List.set_cons_succ, List.set_cons_zero]
    refine wpAnyH_take_l 2 (v := ?v2) rfl rfl (by kernel_rfl) (by kernel_rfl) (by kernel_rfl) (fun _ _ _ h => h) ?h2 (by assumption) ?r2
    case h2 => (intro w hSw; (try dsimp only at hSw); go_simp; try rfl)
    case' r2 => simp only [setD, List.set_cons_succ, List.set_cons_zero]
    refine wpAnyH_take_l 3 (v := ?v3) rfl rfl (by kernel_rfl) (by kernel_rfl) (by kernel_rfl) (fun _ _ _ h => h) ?h3 (by assumption) ?r3
    case h3 => (intro w hSw; (try dsimp only at hSw); go_simp; try rfl)
    case' r3 => simp only [setD, List.set_cons_succ, List.set_cons_zero]
    refine wpAnyH_take_l 5 (v := ?v5) rfl rfl (by kernel_rfl) (by kernel_rfl) (by kernel_rfl) (fun _ _ _ h => h) ?h5 (by assumption) ?r5
    case h5 => (intro w hSw; (try dsimp only at hSw); go_simp; try rfl)
    case' r5 => simp only [setD, List.set_cons_succ, List.set_cons_zero]
    refine wpAnyH_take_l 6 (v := ?v6) rfl rfl (by kernel_rfl) (by kernel_rfl) (by kernel_rfl) (fun _ _ _ h => h) ?h6 (by assumption) ?r6
    case h6 => (intro w hSw; (try dsimp only at hSw); go_simp; try rfl)
    case' r6 => simp only [setD, List.set_cons_succ, List.set_cons_zero]
    refine wpAnyH_take_l 7 (v := ?v7) rfl rfl (by kernel_rfl) (by kernel_rfl) (by kernel_rfl) (fun _ _ _ h => h) ?h7 (by assumption) ?r7
    case h7 => (intro w hSw; (try dsimp only at hSw); go_simp; try rfl)
    case' r7 => simp only [setD, List.set_cons_succ, List.set_cons_zero]
    refine wpAnyH_take_l 8 (v := ?v8) rfl rfl (by kernel_rfl) (by kernel_rfl) (by kernel_rfl) (fun _ _ _ h => h) ?h8 (by assumption) ?r8
    case h8 => (intro w hSw; (try dsimp only at hSw); go_simp; try rfl)
    case' r8 => simp only [setD, List.set_cons_succ, List.set_cons_zero]
    refine wpAnyH_take_l 9 (v := ?v9) rfl rfl (by kernel_rfl) (by kernel_rfl) (by kernel_rfl) (fun _ _ _ h => h) ?h9 (by assumption) ?r9
    case h9 => (intro w hSw; (try dsimp only at hSw); go_simp; try rfl)
    case' r9 => simp only [setD, List.set_cons_succ, List.set_cons_zero]
    refine wpAnyH_take_l 10 (v := ?v10) rfl rfl (by kernel_rfl) (by kernel_rfl) (by kernel_rfl) (fun _ _ _ h => h) ?h10 (by assumption) ?r10
    case h10 => (intro w hSw; (try dsimp only at hSw); go_simp; try rfl)
    case' r10 => simp only [setD, List.set_cons_succ, List.set_cons_zero]
    refine wpAnyH_take_l 11 (v := ?v11) rfl rfl (by kernel_rfl) (by kernel_rfl) (by kernel_rfl) (fun _ _ _ h => h) ?h11 (by assumption) ?r11
    case h11 => (intro w hSw; (try dsimp only at hSw); go_simp; try rfl)
    case' r11 => simp only [setD, List.set_cons_succ, List.set_cons_zero]
    refine wpAnyH_take_l 12 (v := ?v12) rfl rfl (by kernel_rfl) (by kernel_rfl) (by kernel_rfl) (fun _ _ _ h => h) ?h12 (by assumption) ?r12
    case h12 => (intro w hSw; (try dsimp only at hSw); go_simp; try rfl)
    case' r12 => simp only [setD, List.set_cons_succ, List.set_cons_zero]
    refine wpAnyH_take_l 13 (v := ?v13) rfl rfl (by kernel_rfl) (by kernel_rfl) (by kernel_rfl) (fun _ _ _ h => h) ?h13 (by assumption) ?r13
    case h13 => (intro w hSw; (try dsimp only at hSw); go_simp; try rfl)
    case' r13 => simp only [setD, List.set_cons_succ, List.set_cons_zero]
    refine wpAnyH_take_l 14 (v := ?v14) rfl rfl (by kernel_rfl) (by kernel_rfl) (by kernel_rfl) (fun _ _ _ h => h) ?h14 (by assumption) ?r14
    case h14 => (intro w hSw; (try dsimp only at hSw); go_simp; try rfl)
    case' r14 => simp only [setD, List.set_cons_succ, List.set_cons_zero]
    refine wpAnyH_take_l 15 (v := ?v15) rfl rfl (by kernel_rfl) (by kernel_rfl) (by kernel_rfl) (fun _ _ _ h => h) ?h15 (by assumption) ?r15
    case h15 => (intro w hSw; (try dsimp only at hSw); go_simp; try rfl)
    case' r15 => simp only [setD, List.set_cons_succ, List.set_cons_zero]
    refine wpAnyH_take_l 16 (v := ?v16) rfl rfl (by kernel_rfl) (by kernel_rfl) (by kernel_rfl) (fun _ _ _ h => h) ?h16 (by assumption) ?r16
    case h16 => (intro w hSw; (try dsimp only at hSw); go_simp; try rfl)
    case' r16 => simp only [setD, List.set_cons_succ, List.set_cons_zero]
    refine wpAnyH_start [4, 17, 18, 19, 20, 21, 22, 23] (Push base bx w (.slice va xs.length vc) xs t) (by kernel_rfl) (by kernel_rfl) (fun L vals W hR => by have h := HC0.out _ hR.bk.below; exact ⟨h.1, h.2.1, h.2.2.1⟩) ?start ?steps ?stop
    case start =>
      refine ⟨⟨fun h => (Bool.false_ne_true h).elim, fun h => (Bool.false_ne_true h).elim, fun h => (Bool.false_ne_true h).elim, fun h => (Bool.false_ne_true h).elim⟩, HBU.out.hw, ?_, HBU.out.box, ?_, fun h => (Bool.false_ne_true h).elim, fun h => (Bool.false_ne_true h).elim, fun h => (Bool.false_ne_true h).elim, fun h => (Bool.false_ne_true h).elim, fun h => (Bool.false_ne_true h).elim, fun h => (Bool.false_ne_true h).elim⟩
      · exact (BkG.refl base bx w _).drew
      · show GRow _ 4 base w.drew (curV _ (fun _ => false) (fun _ => undef)) _
        rw [curV_0 rfl, if_neg Bool.false_ne_true]
        exact HBU.out.row.drew
    case stop =>
      refine end_plain [(4, some 18), (17, some 31), (18, some 32), (19, some 33), (20, some 34), (21, some 35), (22, some 36), (23, none)] (by kernel_rfl) (by decide) (fun L vals olds wx hall hR => ?_)
      simp only [List.all_cons, List.all_nil, Bool.and_true, Bool.and_eq_true] at hall
      obtain ⟨h4, h17, h18, h19, h20, h21, h22, h23⟩ := hall
      obtain ⟨rD, rZ, rK, rX, rR, r4, r17, r18, r19, r21, r22⟩ := hR
      have hs := (r17 h17).2
      rw [curV_1 h20] at rK rR hs
      rw [h23] at rX
      rw [h20] at rR
      simp only [fillL, List.set_cons_succ, List.set_cons_zero]
      have HB : Hid (Bu base bx wx (vals 20) (xs ++ [newNV t (vals 17)])) := Lib.hid ⟨rX, hbx, rZ, rR⟩
      have HN : Hid ((newNV t (vals 17)).Ok (New bx w wx (vals 20)) wx) := Lib.hid ⟨hs, ⟨.inl ⟨⟨_, _, rfl⟩, rfl⟩, by simp [maxLen]⟩⟩
      have HKK := Lib.hid rK
      clear rD rZ rK rX rR r4 r17 r18 r19 r21 r22 hs h4 h17 h18 h19 h20 h21 h22 h23
      go_wp2_with fail
      go_meet
      exact ⟨_, _, HB, HN, HKK⟩
    case steps =>
      refine List.forall_mem_cons.2 ⟨?_, List.forall_mem_cons.2 ⟨?_, List.forall_mem_cons.2 ⟨?_, List.forall_mem_cons.2 ⟨?_, List.forall_mem_cons.2 ⟨?_, List.forall_mem_cons.2 ⟨?_, List.forall_mem_cons.2 ⟨?_, List.forall_mem_cons.2 ⟨?_, fun _ h => by cases h⟩⟩⟩⟩⟩⟩⟩⟩
      · refine InvStep.list (k := 4) rfl rfl [] (by kernel_rfl) [(4, some 18), (17, some 31), (18, some 32), (19, some 33), (20, some 34), (21, some 35), (22, some 36), (23, none)] (by kernel_rfl) (by decide) (fun L vals olds wx hLk hdeps hR K hK => ?_)
        clear hdeps
        have hK2 := hK.out
        clear hK
        simp only [fillL, setD, List.set_cons_succ, List.set_cons_zero] at hK2 ⊢
        obtain ⟨f20, f23⟩ : L 20 = false ∧ L 23 = false := by
          have a : L 20 = false := by
            cases e : L 20 with
            | false => rfl
            | true => exact absurd (hLk.symm.trans (hR.down.2.2.1 e).1) (by decide)
          refine ⟨a, ?_⟩
          cases e : L 23 with
          | false => rfl
          | true => exact absurd (a.symm.trans (hR.down.2.2.2 e)) (by decide)
        have q := (hR.bu hbx f20 f23).cell
        go_simp
        clear q
        obtain ⟨rD, rZ, rK, rX, rR, r4, r17, r18, r19, r21, r22⟩ := hR
        refine hK2 _ _ ⟨⟨rD.1, rD.2.1, fun h => absurd (f20.symm.trans h) (by decide), rD.2.2.2⟩, rZ, rK, rX, rR, fun _ => rfl, r17, r18, r19, r21, r22⟩
      · refine InvStep.list (k := 17) rfl rfl [] (by kernel_rfl) [(4, some 18), (17, some 31), (18, some 32), (19, some 33), (20, some 34), (21, some 35), (22, some 36), (23, none)] (by kernel_rfl) (by decide) (fun L vals olds wx hLk hdeps hR K hK => ?_)
        clear hdeps
        have hK2 := hK.out
        clear hK
        simp only [fillL, setD, List.set_cons_succ, List.set_cons_zero] at hK2 ⊢
        obtain ⟨f18, f19⟩ := hR.f17 hLk
        obtain ⟨f20, f23⟩ := hR.f19 f19
        have hB := hR.bu hbx f20 f23
        have HC : Hid (Calls Tryd.prog 43 #[.slice la ln lc] wx (StrRet wx t.ls)) := Lib.hid (strClone_any (fun k => k < base) (.slice la ln lc) t.ls HOK.out.1 wx (HLS.out.keep hR.bk.below.keeps'))
        go_simp
        refine HC.out.mono ?_
        rintro en w5 ⟨la5, ln5, lc5, rfl, hsl, hb5⟩
        dsimp only
        have hk5 : BkG base bx wx (.slice va xs.length vc) w5 (.slice va xs.length vc) := BkG.of_below hb5 hR.hw bx _
        have hB5 := hB.to hb5
        obtain ⟨rD, rZ, rK, rX, rR, r4, r17, r18, r19, r21, r22⟩ := hR
        rw [curV_0 f20] at rK
        refine hK2 _ _ ⟨⟨fun _ => rfl, rD.2.1, rD.2.2.1, rD.2.2.2⟩, hB5.hw, ?_, ?_, ?_, r4, fun _ => ⟨⟨_, _, _, rfl⟩, ?_⟩, fun h => absurd (f18.symm.trans h) (by decide), fun h => absurd (f19.symm.trans h) (by decide), r21, r22⟩
        · show BkG base bx w _ w5 (curV _ L _)
          rw [curV_0 f20]; exact rK.trans hk5
        · show _ = some (Obj.cells #[if L 23 = true then vals 20 else .slice va xs.length vc] _ _)
          rw [f23]; exact hB5.box
        · show GRow _ 4 base w5 (curV _ L _) ((if L 20 = true then _ else xs).map NV.cells)
          rw [curV_0 f20, f20]; exact hB5.row
        · show StrSl (fun k => Side bx (curV _ L _) w5 k ∧ w.heap.size ≤ k) w5 (.slice la5 ln5 lc5) t.ls
          rw [curV_0 f20]
          refine hsl.mono (fun k hk => ⟨⟨hk.2, fun e => ?_, fun e => ?_⟩, Nat.le_trans rK.below.size hk.1⟩)
          · have := hB.lt; have := hk.1; omega
          · have := (hB.row.lt k e.symm).2; have := hk.1; omega
      · refine InvStep.list (k := 18) rfl rfl [17] (by kernel_rfl) [(4, some 18), (17, some 31), (18, some 32), (19, some 33), (20, some 34), (21, some 35), (22, some 36), (23, none)] (by kernel_rfl) (by decide) (fun L vals olds wx hLk hdeps hR K hK => ?_)
        simp only [List.all_cons, List.all_nil, Bool.and_true] at hdeps
        have hK2 := hK.out
        clear hK
        simp only [fillL, setD, List.set_cons_succ, List.set_cons_zero] at hK2 ⊢
        have f19 := hR.f18 hLk
        obtain ⟨f20, f23⟩ := hR.f19 f19
        obtain ⟨⟨la5, ln5, lc5, e17⟩, _⟩ := hR.s17 hdeps
        have es := (slotO_done (vals := vals) (olds := olds) hdeps).trans e17
        simp only [es] at hK2 ⊢
        have E17 := Lib.hid e17
        clear e17 es
        go_simp
        have e17 := E17.out
        obtain ⟨rD, rZ, rK, rX, rR, r4, r17, r18, r19, r21, r22⟩ := hR
        refine hK2 _ _ ⟨⟨fun _ => hdeps, fun h => absurd (f19.symm.trans h) (by decide), rD.2.2.1, rD.2.2.2⟩, rZ, rK, rX, rR, r4, r17, fun _ => ?_, r19, r21, r22⟩
        show _ = Value.agg #[.int .i64 t.k, .int .i64 t.p, vals 17, .slice none 0 0]
        rw [e17]; rfl
      · refine InvStep.list (k := 19) rfl rfl [18] (by kernel_rfl) [(4, some 18), (17, some 31), (18, some 32), (19, some 33), (20, some 34), (21, some 35), (22, some 36), (23, none)] (by kernel_rfl) (by decide) (fun L vals olds wx hLk hdeps hR K hK => ?_)
        simp only [List.all_cons, List.all_nil, Bool.and_true] at hdeps
        have hK2 := hK.out
        clear hK
        simp only [fillL, setD, List.set_cons_succ, List.set_cons_zero] at hK2 ⊢
        obtain ⟨f20, f23⟩ := hR.f19 hLk
        obtain ⟨⟨la5, ln5, lc5, e17⟩, _⟩ := hR.s17 (hR.down.1 hdeps)
        have e18 := hR.s18 hdeps
        rw [e17] at e18
        have es := (slotO_done (vals := vals) (olds := olds) hdeps).trans e18
        simp only [es] at hK2 ⊢
        have hB := hR.bu hbx f20 f23
        have E17 := Lib.hid e17
        have E18 := Lib.hid e18
        have HBB := Lib.hid hB
        clear e17 e18 es hB
        go_simp
        have e17 := E17.out
        obtain ⟨rD, rZ, rK, rX, rR, r4, r17, r18, r19, r21, r22⟩ := hR
        rw [curV_0 f20] at rK
        have hk5 : BkG base bx wx (.slice va xs.length vc) (wx.alloc (.cells #[.int .i64 t.k, .int .i64 t.p, .slice la5 ln5 lc5, .slice none 0 0] 52)) (.slice va xs.length vc) := (BkG.refl base bx wx _).alloc rZ _
        have hB5 := HBB.out.to ((Below.refl wx.heap.size wx).alloc (Nat.le_refl _) (.cells #[.int .i64 t.k, .int .i64 t.p, .slice la5 ln5 lc5, .slice none 0 0] 52))
        refine hK2 _ _ ⟨⟨rD.1, fun _ => hdeps, fun h => absurd (f20.symm.trans h) (by decide), rD.2.2.2⟩, hB5.hw, ?_, ?_, ?_, r4, fun h => ⟨(r17 h).1, ?_⟩, r18, fun _ _ => ⟨_, rfl, ?_⟩, r21, r22⟩
        · show BkG base bx w _ _ (curV _ L _)
          rw [curV_0 f20]; exact rK.trans hk5
        · show _ = some (Obj.cells #[if L 23 = true then vals 20 else .slice va xs.length vc] _ _)
          rw [f23]; exact hB5.box
        · show GRow _ 4 base _ (curV _ L _) ((if L 20 = true then _ else xs).map NV.cells)
          rw [curV_0 f20, f20]; exact hB5.row
        · have h := (r17 h).2
          rw [curV_0 f20] at h
          show StrSl (fun k => Side bx (curV _ L _) _ k ∧ w.heap.size ≤ k) _ (vals 17) t.ls
          rw [curV_0 f20]
          exact (h.keep (hk5.keeps.mono (fun _ h => h.1))).mono (fun k hk => ⟨Side.to hk5 k hk.1, hk.2⟩)
        · show _ = some (Obj.cells (newNV t (vals 17)).cells.toArray _ _)
          rw [e17]; exact World.alloc_heap_new _ _
      · refine InvStep.list (k := 20) rfl rfl [4, 19] (by kernel_rfl) [(4, some 18), (17, some 31), (18, some 32), (19, some 33), (20, some 34), (21, some 35), (22, some 36), (23, none)] (by kernel_rfl) (by decide) (fun L vals olds wx hLk hdeps hR K hK => ?_)
        simp only [List.all_cons, List.all_nil, Bool.and_true, Bool.and_eq_true] at hdeps
        have hK2 := hK.out
        clear hK
        simp only [fillL, setD, List.set_cons_succ, List.set_cons_zero] at hK2 ⊢
        have f23 : L 23 = false := by
          cases e : L 23 with
          | false => rfl
          | true => exact absurd (hLk.symm.trans (hR.down.2.2.2 e)) (by decide)
        have hB := hR.bu hbx hLk f23
        have e4 := hR.s4 hdeps.1
        obtain ⟨B, e19, hBB⟩ := hR.s19 hdeps.2 hLk
        obtain ⟨⟨la5, ln5, lc5, e17⟩, hsl⟩ := hR.s17 (hR.down.1 (hR.down.2.1 hdeps.2))
        refine wp_wanted (ops := #[]) rfl (step_appG nodeElem (by rfl) _ _ (by rfl) (by exact (slotO_done hdeps.1).trans e4) hB.row (some ⟨B, 0, none⟩) 1 1 [(newNV t (vals 17)).cells] (by exact (slotO_done hdeps.2).trans e19) rfl (fun e2 he2 => by rw [List.mem_singleton.1 he2]; rfl) (src_at hBB) (fun e2 he2 u hu => ?_) (by rw [List.length_map, List.length_singleton]; omega) hR.hw _ rfl ?_)
        · rw [List.mem_singleton.1 he2, e17] at hu
          simp only [NV.cells, List.mem_cons, List.not_mem_nil, or_false] at hu
          rcases hu with rfl | rfl | rfl | rfl <;> rfl
        intro ga gn gc w5 hrow hgrow hq
        obtain ⟨rD, rZ, rK, rX, rR, r4, r17, r18, r19, r21, r22⟩ := hR
        rw [curV_0 hLk] at rK hsl
        have hk5 : BkG base bx w (.slice va xs.length vc) w5 (.slice ga gn gc) := rK.grown hB.row rZ hgrow hq
        refine hK2 _ _ ⟨⟨rD.1, rD.2.1, fun _ => hdeps, fun _ => rfl⟩, Nat.le_trans rZ hgrow.size, hk5, ?_, ?_, r4, fun h => ⟨(r17 h).1, ?_⟩, r18, fun _ h => (Bool.false_ne_true h.symm).elim, r21, r22⟩
        · show _ = some (Obj.cells #[if L 23 = true then (Value.slice ga gn gc) else .slice va xs.length vc] _ _)
          rw [f23]
          exact (hgrow.block bx hB.lt (hB.row.ne hB.box (by decide))).trans hB.box
        · show GRow _ 4 base w5 (.slice ga gn gc) ((xs ++ [newNV t (vals 17)]).map NV.cells)
          rw [List.map_append]; exact hrow
        · show StrSl (fun k => Side bx (.slice ga gn gc) w5 k ∧ w.heap.size ≤ k) w5 (vals 17) t.ls
          refine (hsl.keep (Keeps.grown hgrow (fun k hk => hk.1.2.2))).mono (fun k hk => ⟨⟨Nat.lt_of_lt_of_le hk.1.1 hgrow.size, hk.1.2.1, fun e => ?_⟩, hk.2⟩)
          rcases hq with h | h
          · exact hk.1.2.2 (e.trans h)
          · have := Option.some.inj (e.trans h); have := hk.1.1; omega
      · refine InvStep.list (k := 21) rfl rfl [] (by kernel_rfl) [(4, some 18), (17, some 31), (18, some 32), (19, some 33), (20, some 34), (21, some 35), (22, some 36), (23, none)] (by kernel_rfl) (by decide) (fun L vals olds wx hLk hdeps hR K hK => ?_)
        clear hdeps
        have hK2 := hK.out
        clear hK
        simp only [fillL, setD, List.set_cons_succ, List.set_cons_zero] at hK2 ⊢
        go_simp
        obtain ⟨rD, rZ, rK, rX, rR, r4, r17, r18, r19, r21, r22⟩ := hR
        refine hK2 _ _ ⟨rD, rZ, rK, rX, rR, r4, r17, r18, r19, fun _ => rfl, r22⟩
      · refine InvStep.list (k := 22) rfl rfl [21] (by kernel_rfl) [(4, some 18), (17, some 31), (18, some 32), (19, some 33), (20, some 34), (21, some 35), (22, some 36), (23, none)] (by kernel_rfl) (by decide) (fun L vals olds wx hLk hdeps hR K hK => ?_)
        simp only [List.all_cons, List.all_nil, Bool.and_true] at hdeps
        have hK2 := hK.out
        clear hK
        simp only [fillL, setD, List.set_cons_succ, List.set_cons_zero] at hK2 ⊢
        have es := (slotO_done (vals := vals) (olds := olds) hdeps).trans (hR.s21 hdeps)
        simp only [es] at hK2 ⊢
        clear es
        go_simp
        obtain ⟨rD, rZ, rK, rX, rR, r4, r17, r18, r19, r21, r22⟩ := hR
        refine hK2 _ _ ⟨rD, rZ, rK, rX, rR, r4, r17, r18, r19, r21, fun _ => rfl⟩
      · refine InvStep.list (k := 23) rfl rfl [20, 22] (by kernel_rfl) [(4, some 18), (17, some 31), (18, some 32), (19, some 33), (20, some 34), (21, some 35), (22, some 36), (23, none)] (by kernel_rfl) (by decide) (fun L vals olds wx hLk hdeps hR K hK => ?_)
        simp only [List.all_cons, List.all_nil, Bool.and_true, Bool.and_eq_true] at hdeps
        have hK2 := hK.out
        clear hK
        simp only [fillL, setD, List.set_cons_succ, List.set_cons_zero] at hK2 ⊢
        obtain ⟨ga, gn, gc, e20⟩ := hR.row.slice
        rw [curV_1 hdeps.1] at e20
        have es20 := (slotO_done (vals := vals) (olds := olds) hdeps.1).trans e20
        have es22 := (slotO_done (vals := vals) (olds := olds) hdeps.2).trans (hR.s22 hdeps.2)
        have hbox := hR.box
        rw [hLk] at hbox
        have q : wx.cell? ⟨bx, 0, none⟩ = some (.slice va xs.length vc) := by simp [World.cell?, hbox]
        have q2 : wx.frozen? ⟨bx, 0, none⟩ = false := frozen_of_block hbox 0
        simp only [es20, es22] at hK2 ⊢
        have E20 := Lib.hid e20
        have HBX := Lib.hid hbox
        clear es20 es22 e20 hbox
        go_simp
        clear q q2
        obtain ⟨rD, rZ, rK, rX, rR, r4, r17, r18, r19, r21, r22⟩ := hR
        rw [curV_1 hdeps.1] at rK rR
        have hk5 := rK.box hbx 0 (.slice ga gn gc)
        have hset : (wx.setCell ⟨bx, 0, none⟩ (.slice ga gn gc)).heap[bx]? = some (.cells #[.slice ga gn gc] 61 (0, 0)) := set_block HBX.out 0 _
        have hoth : ∀ k, k ≠ bx → (wx.setCell ⟨bx, 0, none⟩ (.slice ga gn gc)).heap[k]? = wx.heap[k]? := fun k hk => by
          show (wx.heap.modify bx _)[k]? = _
          rw [Array.getElem?_modify, if_neg (fun e => hk e.symm)]
        refine hK2 undef _ ⟨⟨rD.1, rD.2.1, rD.2.2.1, fun _ => hdeps.1⟩, by simpa using rZ, ?_, ?_, ?_, r4, fun h => ⟨(r17 h).1, ?_⟩, r18, fun _ h => absurd (hdeps.1.symm.trans h) (by decide), r21, r22⟩
        · show BkG base bx w _ _ (curV _ L _)
          rw [curV_1 hdeps.1]; exact hk5
        · show _ = some (Obj.cells #[if (23 == 23 || L 23) = true then vals 20 else _] _ _)
          rw [E20.out]; exact hset
        · show GRow _ 4 base _ (curV _ L _) _
          rw [curV_1 hdeps.1]
          refine rR.kept (fun k hk => hoth k (fun e => ?_))
          obtain ⟨cs, hc⟩ := rR.obj hk
          subst e
          rw [HBX.out] at hc
          cases hc
        · have h := (r17 h).2
          show StrSl (fun k => Side bx (curV _ L _) _ k ∧ w.heap.size ≤ k) _ (vals 17) t.ls
          rw [curV_1 hdeps.1] at h ⊢
          refine (h.keep (fun k o hk ho _ => (hoth k hk.1.2.1).trans ho)).mono (fun k hk => ⟨⟨by simpa using hk.1.1, hk.1.2⟩, hk.2⟩)
  case rest =>
    obtain ⟨v2, lv2, HB2, HN2, HK2⟩ := hcut
    obtain ⟨_, _, _, c5⟩ := HC0.out wc HK2.out.below
    have e1 : (xs ++ [newNV t lv2]).length = xs.length + 1 := by simp
    have hdt : Ty.depths t.ts + 1 = t.depth := t.depth_eq.symm
    have hst : Ty.sizes t.ts + 1 = t.size := t.size_eq.symm
    have HC := Lib.hid (HALL.out base bx eb n e v2 (xs ++ [newNV t lv2]) ka kn kc wc HB2.out (HKS.out.keep HK2.out.below.keeps') (HEV.out.bk HBU.out HK2.out) (by have := HD.out; omega) (by have := HS.out; omega) HOK.out.2)
    rw [e1] at HC
    clear e1 hdt hst
    go_wp2_with (go_at_call 20; refine HC.out.mono ?_; rintro en w5 ⟨v5, rv, ys, rfl, hr5, hb5, hn5, hy5, hk5⟩; obtain ⟨ra, rn, rc, rfl⟩ := hr5.slice; obtain ⟨g, cap, N, rfl, hN, hg, hgl, q0, q1, q2⟩ := nodes_at hb5; have HR5 := Lib.hid hr5; have HB5 := Lib.hid hb5; have HN5 := Lib.hid hn5; have HY5 := Lib.hid hy5; have HK5 := Lib.hid hk5; clear hr5 hb5 hn5 hy5 hk5)
    go_ret
    clear q0 q1 q2
    obtain ⟨W6, hW6⟩ : ∃ W6, w5.setCell ⟨g, xs.length * 4 + 3, none⟩ (.slice ra rn rc) = W6 := ⟨_, rfl⟩
    have hrow := HB5.out.row
    have hj : (((xs ++ [newNV t lv2]) ++ ys).map NV.cells)[xs.length]? = some (newNV t lv2).cells := by
      rw [List.getElem?_map, List.append_assoc, List.getElem?_append_right (Nat.le_refl _), Nat.sub_self]; rfl
    have hset := hrow.set hj (by decide : 3 < 4) rfl (.slice ra rn rc)
    rw [hW6] at hset
    have hgx : g ≠ bx := fun e => by
      obtain ⟨cs, hc⟩ := hrow.obj (k := g) rfl
      rw [e] at hc
      have := HB5.out.box.symm.trans hc
      cases this
    have hoth : ∀ k, k ≠ g → W6.heap[k]? = w5.heap[k]? := fun k hk => by
      rw [← hW6]
      show (w5.heap.modify g _)[k]? = _
      rw [Array.getElem?_modify, if_neg (fun e => hk e.symm)]
    have hs6 : W6.heap.size = w5.heap.size := by rw [← hW6]; simp
    have hk6 : BkG base bx w (.slice va xs.length vc) W6 (.slice (some ⟨g, 0, none⟩) N cap) := by
      rw [← hW6]; exact (HK2.out.trans HK5.out).list rfl hg _ _
    have hkeep : Keeps (Side bx (.slice (some ⟨g, 0, none⟩) N cap) w5) w5 W6 := fun k o hk ho _ => (hoth k (fun e => hk.2.2 (by rw [e]; rfl))).trans ho
    have hmono : ∀ k, Side bx (.slice (some ⟨g, 0, none⟩) N cap) w5 k → Side bx (.slice (some ⟨g, 0, none⟩) N cap) W6 k := fun k hk => ⟨by rw [hs6]; exact hk.1, hk.2⟩
    have hp1 : (Ty.prefs (xs.length + 1) e t.ts).length ≤ maxLen := by
      have h1 := prefs_len (e := e) t.ts (xs.length + 1)
      have h2 := Ty.length_sizes t.ts
      have h3 := t.size_eq
      have := HS.out
      rw [h1]; unfold maxLen; omega
    rw [hW6]
    refine ⟨.slice (some ⟨g, 0, none⟩) N cap, ⟨⟨t.k, t.p, t.ls, Ty.prefs (xs.length + 1) e t.ts⟩, lv2, .slice ra rn rc⟩ :: ys, rfl, ⟨?_, hbx, by rw [hs6]; exact HB5.out.hw, ?_⟩, ?_, ?_, hk6⟩
    · rw [hoth bx (fun e => hgx e.symm)]; exact HB5.out.box
    · have e2 : (((xs ++ [newNV t lv2]) ++ ys).map NV.cells).set xs.length ((newNV t lv2).cells.set 3 (.slice ra rn rc)) = (xs ++ ⟨⟨t.k, t.p, t.ls, Ty.prefs (xs.length + 1) e t.ts⟩, lv2, .slice ra rn rc⟩ :: ys).map NV.cells := by
        rw [List.append_assoc, List.map_append, List.map_append, List.set_append_right _ _ (by simp)]
        simp
      rw [e2] at hset
      exact hset
    · intro y hy
      rcases List.mem_cons.1 hy with rfl | hy
      · refine ⟨?_, ?_⟩
        · have h1 := (HN2.out.bk HK5.out).l
          exact (h1.keep (hkeep.mono (fun _ h => h.1))).mono (fun k hk => ⟨hmono k hk.1, hk.2⟩)
        · have h1 := HR5.out.refsB hp1 (B := fun k => Side bx (.slice (some ⟨g, 0, none⟩) N cap) w5 k ∧ w.heap.size ≤ k) (fun k hk => by
            obtain ⟨cs, hc⟩ := HR5.out.obj hk
            obtain ⟨h1, h2⟩ := HB5.out.apart hc (fun cs' t fr e => by cases e; exact refT_plain)
            exact ⟨⟨(HR5.out.lt k hk).2, h1, h2⟩, Nat.le_trans HK2.out.below.size (HR5.out.lt k hk).1⟩)
          exact (h1.keep (hkeep.mono (fun _ h => h.1))).mono (fun k hk => ⟨hmono k hk.1, hk.2⟩)
      · have h1 := (HN5.out y hy).mono (C := fun k => Side bx (.slice (some ⟨g, 0, none⟩) N cap) w5 k ∧ w.heap.size ≤ k) (fun k hk => ⟨hk.1.1, Nat.le_trans HK2.out.below.size hk.1.2⟩)
        exact (h1.keep (hkeep.mono (fun _ h => h.1))).mono (fun k hk => ⟨hmono k hk.1, hk.2⟩)
    · rw [List.map_cons, HY5.out]
end Go.Proofs.YtecdapihfiahiaaDoor
