/- Programs: Program. (and what follows from it) -/
import Derived.Test.YtjmnaibbljakaaaGreatDoorPu2
import Derived.Test.YtjmnaibbljakaaaGreatDoorPu3
import Derived.Test.YtjmnaibbljakaaaGreatDoorPu1
import Derived.Test.YtjmnaibbljakaaaGreatDoorTyOd
import Derived.OwnWalk
import Derived.Deep.RegionWith
import Derived.Maps.AppendAt
import Derived.Laws.OwnMore
import Derived.Deep.RegionLaw

/- Programs: Program. -/
namespace Go.Proofs.YtjmnaibbljakaaaGreatDoor
open Go.RowKit Go.Deep Go.Shelf

/-- The first error of some processes. -/
noncomputable def firstR : List Pr → Int
  | [] => 0
  | p :: r => if prightE p = 0 then firstR r else prightE p
theorem firstR_append (l r : List Pr) (h : firstR l = 0) : firstR (l ++ r) = firstR r := by
  induction l with
  | nil => rfl
  | cons p l ih =>
    unfold firstR at h
    by_cases hp : prightE p = 0
    · rw [if_pos hp] at h
      rw [List.cons_append, firstR, if_pos hp]; exact ih h
    · rw [if_neg hp] at h; exact absurd h hp
noncomputable def pprogE (g : Pg) : Int := if g.many then 2 else if firstR g.bodies = 0 then (if g.ds.all hdB then 0 else 3) else firstR g.bodies
end Go.Proofs.YtjmnaibbljakaaaGreatDoor

/- Processes: the state of Free, and occurs. -/
namespace Go.Proofs.YtjmnaibbljakaaaGreatDoor
open Go.RowKit Go.Deep Go.Shelf

/-- A map that tells how often a text is bound. -/
def CntIs (w : World) (b n : Nat) (cnt : ByteArray → Int) : Prop := ∃ f : Lit → Option Value, MapIs w 9 b n f ∧ ∀ s : ByteArray, (f (.string s.data.toList)).getD (.int .i64 0) = .int .i64 (cnt s)
theorem intInfo' : (Tryz.prog.info? 3).map (fun i => (i.zero, i.size, i.bytes)) = some (some (.int .i64 0), 1, 8) := by kernel_rfl
theorem zero_int (w : World) : (zeroValue 3).run Tryz.prog w = .ok (.int .i64 0) w := by
  obtain ⟨i0, hi, hz0, hz1, hz2⟩ := info_parts intInfo'
  simp [zeroValue, typeInfo, hi, hz0]
theorem CntIs.look {w : World} {b n : Nat} {cnt : ByteArray → Int} (h : CntIs w b n cnt) {s : ByteArray} (hs : s.size ≤ maxLen) : (Instr.lookup 126 (.map (some b)) (.string s) false).run Tryz.prog w = .ok (.int .i64 (cnt s)) w := by
  obtain ⟨f, hm, hf⟩ := h
  rw [hm.look (Maps.string_keyed Tryz.underlying9) Tryz.underlying126 (zero_int w) (Go.WideMaps.keyOf_string_mk Tryz.underlying9 hs), hf]
theorem CntIs.put {w : World} {b n : Nat} {cnt : ByteArray → Int} (h : CntIs w b n cnt) (hn : n < maxLen) {s : ByteArray} (hs : s.size ≤ maxLen) (x : Int) :
    ∃ w', (Instr.mapUpdate 126 (.map (some b)) (.string s) (.int .i64 x)).run Tryz.prog w = .ok () w' ∧ CntIs w' b (n + 1) (fun y => if y = s then x else cnt y) ∧ w.grownBy w' (some b) := by
  obtain ⟨f, hm, hf⟩ := h
  obtain ⟨w', hr, hm', hg⟩ := hm.put (Maps.string_keyed Tryz.underlying9) Tryz.underlying126 hn (Go.WideMaps.keyOf_string_mk Tryz.underlying9 hs) (by first | trivial | simp [WideAt.IsKeyLit]) (val := .int .i64 x)
  refine ⟨w', hr, ⟨_, hm', fun y => ?_⟩, hg⟩
  by_cases e : y = s
  · subst e; simp
  · have e' : ¬ (Lit.string y.data.toList = Lit.string s.data.toList) := fun h => e (by
      have := Lit.string.inj h
      cases y; cases s; simp at this; congr 1)
    simp only [if_neg e', if_neg e]
    exact hf y
theorem CntIs.kept {w w' : World} {b n : Nat} {cnt : ByteArray → Int} (h : CntIs w b n cnt) {row : Option Nat} (hg : w.grownBy w' row) (hne : some b ≠ row) : CntIs w' b n cnt := by
  obtain ⟨f, hm, hf⟩ := h; exact ⟨f, hm.kept hg hne, hf⟩
theorem CntIs.lt {w : World} {b n : Nat} {cnt : ByteArray → Int} (h : CntIs w b n cnt) : b < w.heap.size := by obtain ⟨f, hm, _⟩ := h; exact hm.lt
theorem Seen.kept {w w' : World} {b j : Nat} {l : List ByteArray} (h : Seen w b j l) {row : Option Nat} (hg : w.grownBy w' row) (hne : some b ≠ row) : Seen w' b j l := by
  obtain ⟨D, ho, hf⟩ := h; exact ⟨D, ho.kept hg hne, hf⟩
theorem row_kept {W W' : World} {base : Nat} {e : TypeId} {size n : Nat} {v : Value} {xs : List Value} (h : W.ownsRow base e size v n xs) {row : Option Nat} (hg : W.grownBy W' row) (hne : ∀ k, row = some k → k < base) : W'.ownsRow base e size v n xs := by
  refine ⟨h.1, ?_⟩
  rcases h.2 with h0 | ⟨g, cap, cur, rfl, hb, hgg, r⟩
  · exact .inl h0
  · exact .inr ⟨g, cap, cur, rfl, hb, (hg.block g (Array.getElem?_eq_some_iff.1 hgg).1 (fun e => by have := hne g e.symm; omega)).trans hgg, r⟩

abbrev ptr (b : Nat) : Value := .pointer (some ⟨b, 0, none⟩)
theorem box_kept {W W' : World} {row : Option Nat} (hg : W.grownBy W' row) {k : Nat} {o : Obj} (h : W.heap[k]? = some o) (hne : some k ≠ row) : W'.heap[k]? = some o := (hg.block k (Array.getElem?_eq_some_iff.1 h).1 hne).trans h
/-- A name occurs. -/
noncomputable def occ (cnt : ByteArray → Int) (out : List ByteArray) (s : ByteArray) : List ByteArray := if cnt s = 0 ∧ memB s out = false then out ++ [s] else out
theorem occ_len (cnt : ByteArray → Int) (out : List ByteArray) (s : ByteArray) : (occ cnt out s).length ≤ out.length + 1 := by
  unfold occ; split <;> simp
end Go.Proofs.YtjmnaibbljakaaaGreatDoor

/- Processes: the walk of Free. -/
namespace Go.Proofs.YtjmnaibbljakaaaGreatDoor
open Go.RowKit Go.Deep Go.Shelf

/-! ### What it gives -/
def add1 (cnt : ByteArray → Int) (s : ByteArray) : ByteArray → Int := fun y => if y = s then cnt s + 1 else cnt y
def sub1 (cnt : ByteArray → Int) (s : ByteArray) : ByteArray → Int := fun y => if y = s then cnt s - 1 else cnt y
noncomputable def cntOf (y : ByteArray) : List ByteArray → Int
  | [] => 0
  | s :: r => (if y = s then 1 else 0) + cntOf y r
theorem foldl_add1 (l : List ByteArray) : ∀ (cnt : ByteArray → Int) (y : ByteArray), l.foldl add1 cnt y = cnt y + cntOf y l := by
  induction l with
  | nil => intro cnt y; simp [cntOf]
  | cons s r ih =>
    intro cnt y
    rw [List.foldl_cons, ih, cntOf]
    unfold add1
    by_cases e : y = s
    · subst e; rw [if_pos rfl, if_pos rfl]; omega
    · rw [if_neg e, if_neg e]; omega
theorem foldl_sub1 (l : List ByteArray) : ∀ (cnt : ByteArray → Int) (y : ByteArray), l.foldl sub1 cnt y = cnt y - cntOf y l := by
  induction l with
  | nil => intro cnt y; simp [cntOf]
  | cons s r ih =>
    intro cnt y
    rw [List.foldl_cons, ih, cntOf]
    unfold sub1
    by_cases e : y = s
    · subst e; rw [if_pos rfl, if_pos rfl]; omega
    · rw [if_neg e, if_neg e]; omega
theorem cntOf_bound (y : ByteArray) (l : List ByteArray) : 0 ≤ cntOf y l ∧ cntOf y l ≤ l.length := by
  induction l with
  | nil => simp [cntOf]
  | cons s r ih => rw [cntOf]; split <;> simp <;> omega
theorem sub_add (cnt : ByteArray → Int) (l : List ByteArray) : l.foldl sub1 (l.foldl add1 cnt) = cnt := by
  funext y; rw [foldl_sub1, foldl_add1]; omega
noncomputable def occV (cnt : ByteArray → Int) (out : List ByteArray) (v : Vl) : List ByteArray := if v.k = 1 then occ cnt out v.n else out
/-- The names that a node has itself. -/
noncomputable def Pr.here (p : Pr) (cnt : ByteArray → Int) (out : List ByteArray) : List ByteArray := p.vs.foldl (occV cnt) (if prefixB p.k then occ cnt out p.c else out)
mutual
/-- The names that are free, behind those that are there. -/
noncomputable def Pr.fw : Pr → (ByteArray → Int) → List ByteArray → List ByteArray
  | .mk k c x ls vs t ps, cnt, out => Pr.fws ps ((Pr.mk k c x ls vs t ps).bnd.foldl add1 cnt) ((Pr.mk k c x ls vs t ps).here cnt out)
noncomputable def Pr.fws : List Pr → (ByteArray → Int) → List ByteArray → List ByteArray
  | [], _, out => out
  | p :: r, cnt, out => Pr.fws r cnt (p.fw cnt out)
end
theorem Pr.fw_eq (p : Pr) (cnt : ByteArray → Int) (out : List ByteArray) : p.fw cnt out = Pr.fws p.ps (p.bnd.foldl add1 cnt) (p.here cnt out) := by cases p; simp [Pr.fw, Pr.ps]
theorem Pr.fws_snoc (cnt : ByteArray → Int) (p : Pr) : ∀ (l : List Pr) (out : List ByteArray), Pr.fws (l ++ [p]) cnt out = p.fw cnt (Pr.fws l cnt out)
  | [], out => by simp [Pr.fws]
  | u :: r, out => by rw [List.cons_append, Pr.fws, Pr.fws_snoc cnt p r, Pr.fws]
mutual
/-- How many names there can be. -/
def Pr.nms : Pr → Nat
  | .mk _ _ _ _ vs _ ps => 1 + vs.length + Pr.nmss ps
def Pr.nmss : List Pr → Nat
  | [] => 0
  | p :: r => p.nms + Pr.nmss r
end
theorem Pr.nms_eq (p : Pr) : p.nms = 1 + p.vs.length + Pr.nmss p.ps := by cases p; simp [Pr.nms, Pr.vs, Pr.ps]
theorem Pr.nmss_append (l r : List Pr) : Pr.nmss (l ++ r) = Pr.nmss l + Pr.nmss r := by
  induction l with
  | nil => simp [Pr.nmss]
  | cons t l ih => simp only [List.cons_append, Pr.nmss, ih]; omega
theorem Pr.nmss_take {l : List Pr} {i : Nat} {p : Pr} (h : l[i]? = some p) : Pr.nmss (l.take (i + 1)) = Pr.nmss (l.take i) + p.nms := by
  rw [take_snoc_get h, Pr.nmss_append]; simp [Pr.nmss]
theorem Pr.nmss_take_le (l : List Pr) (i : Nat) : Pr.nmss (l.take i) ≤ Pr.nmss l := by
  have := Pr.nmss_append (l.take i) (l.drop i); rw [List.take_append_drop] at this; omega
theorem occV_len (cnt : ByteArray → Int) (out : List ByteArray) (v : Vl) : (occV cnt out v).length ≤ out.length + 1 := by
  unfold occV; split
  · exact occ_len _ _ _
  · omega
theorem foldV_len (cnt : ByteArray → Int) (l : List Vl) : ∀ out, (l.foldl (occV cnt) out).length ≤ out.length + l.length := by
  induction l with
  | nil => intro out; simp
  | cons v r ih => intro out; rw [List.foldl_cons, List.length_cons]; have := ih (occV cnt out v); have := occV_len cnt out v; omega
mutual
theorem Pr.fw_len : ∀ (p : Pr) (cnt : ByteArray → Int) (out : List ByteArray), (p.fw cnt out).length ≤ out.length + p.nms
  | .mk k c x ls vs t ps, cnt, out => by
    have h1 := Pr.fws_len ps ((Pr.mk k c x ls vs t ps).bnd.foldl add1 cnt) ((Pr.mk k c x ls vs t ps).here cnt out)
    have h2 : ((Pr.mk k c x ls vs t ps).here cnt out).length ≤ out.length + 1 + vs.length := by
      unfold Pr.here
      refine Nat.le_trans (foldV_len _ _ _) ?_
      show (if prefixB k then occ cnt out c else out).length + vs.length ≤ _
      split
      · have := occ_len cnt out c; omega
      · omega
    simp only [Pr.fw, Pr.nms]; omega
theorem Pr.fws_len : ∀ (l : List Pr) (cnt : ByteArray → Int) (out : List ByteArray), (Pr.fws l cnt out).length ≤ out.length + Pr.nmss l
  | [], cnt, out => by simp [Pr.fws, Pr.nmss]
  | p :: r, cnt, out => by
    have h1 := Pr.fws_len r cnt (p.fw cnt out)
    have h2 := Pr.fw_len p cnt out
    simp only [Pr.fws, Pr.nmss]; omega
end
theorem Pr.bnd_len (p : Pr) : p.bnd.length ≤ 2 := by unfold Pr.bnd; split <;> (try split) <;> simp

end Go.Proofs.YtjmnaibbljakaaaGreatDoor

/- Programs: the reference's Total. -/
namespace Go.Proofs.YtjmnaibbljakaaaGreatDoor
open Go.RowKit Go.Deep Go.Shelf

theorem sumN_take {α : Type} {l : List α} {j : Nat} {x : α} (f : α → Nat) (h : l[j]? = some x) : sumN ((l.take (j + 1)).map f) = sumN ((l.take j).map f) + f x := by
  rw [map_take_snoc f h, sumN_append]; simp [sumN]
theorem sumN_take_le {α : Type} (l : List α) (j : Nat) (f : α → Nat) : sumN ((l.take j).map f) ≤ sumN (l.map f) := sumN_le_of_prefix (map_prefix l j f)
theorem pr_slices {B : Nat → Prop} {w : World} {p : Pr} {lv av tl tk kv : Value} (h : PrVal B w (prAgg p lv av tl tk kv) p) :
    (∃ (a : Option Addr) (n c : Nat), lv = .slice a n c) ∧ (∃ (a : Option Addr) (n c : Nat), av = .slice a n c) ∧ (∃ (a : Option Addr) (n c : Nat), tl = .slice a n c) ∧ (∃ (a : Option Addr) (n c : Nat), tk = .slice a n c) ∧ ∃ (a : Option Addr) (n c : Nat), kv = .slice a n c := by
  obtain ⟨lv', av', tl', tk', kv', e, _, hl, ha, ht, hk⟩ := h
  simp only [prAgg, Value.agg.injEq, Array.mk.injEq, List.cons.injEq, and_true, true_and] at e
  obtain ⟨rfl, rfl, rfl, rfl, rfl⟩ := e
  obtain ⟨a1, n1, c1, e1, _⟩ := hl.open
  obtain ⟨a2, n2, c2, e2, _⟩ := ha.open
  obtain ⟨a3, n3, c3, e3, _⟩ := hk.open
  obtain ⟨s1, s2⟩ := slices_of ht
  exact ⟨⟨_, _, _, e1⟩, ⟨_, _, _, e2⟩, s1, s2, ⟨_, _, _, e3⟩⟩

end Go.Proofs.YtjmnaibbljakaaaGreatDoor

/- Processes: Free. -/
namespace Go.Proofs.YtjmnaibbljakaaaGreatDoor
open Go.RowKit Go.Deep Go.Shelf

noncomputable def Pr.free (p : Pr) : List ByteArray := p.fw (fun _ => 0) []

theorem run_makeMap_i (w : World) : (Instr.makeMap 126 none).run Tryz.prog w = .ok (.map (some w.heap.size)) (w.alloc (.map #[] 0)) := by simp [Instr.makeMap]

theorem strSl_row2 {W : World} {base : Nat} {v : Value} {l : List ByteArray} (h : W.ownsRow base 9 1 v l.length (l.map .string)) (hs : ∀ s ∈ l, s.size ≤ maxLen) (hl : l.length ≤ maxLen) :
    (∃ a n c, v = .slice a n c) ∧ StrSl (Fresh base W.heap.size) W v l := by
  rcases h.2 with ⟨rfl, h0⟩ | ⟨g, cap, cur, rfl, hb, hg, hnc, _⟩
  · have : l = [] := List.length_eq_zero_iff.1 h0
    subst this
    exact ⟨⟨_, _, _, rfl⟩, nil_strs _ _⟩
  · refine ⟨⟨_, _, _, rfl⟩, .inr ⟨_, _, _, rfl, ⟨hb, (h.lt g rfl).2⟩, hnc, fun j s hj => ?_⟩, hl, hs⟩
    rw [Nat.zero_add, h.cellAt j (by have := (List.getElem?_eq_some_iff.1 hj).1; omega), List.getElem?_map, hj]
    rfl

theorem heap_push (w : World) (o : Obj) : (w.alloc o).heap = w.heap.push o := rfl

end Go.Proofs.YtjmnaibbljakaaaGreatDoor

/- Processes: the law's fixed processes, and what they are. -/
namespace Go.Proofs.YtjmnaibbljakaaaGreatDoor
open Go.RowKit Go.Deep Go.Shelf

abbrev bA : ByteArray := ⟨#[97]⟩
abbrev bB : ByteArray := ⟨#[98]⟩
abbrev bC : ByteArray := ⟨#[99]⟩
abbrev bD : ByteArray := ⟨#[100]⟩
def p1 : Pr := .mk 1 e0 e0 [] [] (leafT 0) []
def p2 : Pr := .mk 2 bC e0 [] [⟨1, bA, 0⟩] (leafT 0) [p1]
def p3 : Pr := .mk 6 bC bD [] [] (leafT 3) [p2]
def p4 : Pr := .mk 2 bA e0 [] [⟨1, bB, 0⟩] (leafT 0) [p3]
def pz : Pr := .mk 0 e0 e0 [] [] (leafT 0) []
def g4 : Pg := ⟨[], p4⟩
theorem size_p4 : p4.size = 4 := by rfl
theorem depth_p4 : p4.depth = 4 := by rfl
theorem p4_ne_p3 : p4 ≠ p3 := by intro h; have := congrArg Pr.k h; simp [p4, p3, Pr.k] at this
theorem leaf_few (k : Int) : (leafT k).few 300 = true := by
  have h0 : (leafT 0).few 300 = true := by decide +kernel
  exact h0
theorem good_pz : PGood pz := by
  refine ⟨?_, ?_⟩
  · simp [pz, leafT, Pr.fine, Pr.fines, Ty.fine, Ty.fines, In64]
  · simp [pz, Pr.tf, Pr.tfs, leaf_few]
theorem good_p4 : PGood p4 := by
  refine ⟨?_, ?_⟩
  · simp [p4, p3, p2, p1, leafT, Pr.fine, Pr.fines, Ty.fine, Ty.fines, In64]
  · simp [p4, p3, p2, p1, Pr.tf, Pr.tfs, leaf_few]
theorem mod_p4 : p4.mod := by simp [p4, p3, p2, p1, leafT, Pr.mod, Pr.mods, Ty.modc, Ty.modcs]
theorem nms_p4 : p4.nms ≤ 1000000000 := by decide
theorem ggood_g4 : GGood g4 := by
  refine ⟨by simp [g4], by simp [g4], fun p hp => ?_⟩
  have : p = p4 := by simpa [g4, Pg.bodies] using hp
  subst this
  exact ⟨good_p4, by decide, by decide⟩
theorem total_g4 : g4.total = 5 := by rw [Pg.total_eq]; rfl
theorem right_pz : prightE pz = 3 := by decide +kernel
theorem r4_leaf (k : Int) (c x : ByteArray) (ls : List ByteArray) (vs : List Vl) (ps : List Pr) (hk : k ≠ 6) : (Pr.mk k c x ls vs (leafT 0) ps).r4 = true := by
  unfold Pr.r4
  show (if k = 6 then _ else eqB (leafT 0) default) = true
  rw [if_neg hk]; exact eqB_self _
theorem ok_p1 : p1.okN = true := by
  have h : p1.r4 = true := r4_leaf _ _ _ _ _ _ (by decide)
  unfold Pr.okN Pr.shp; rw [h]; decide +kernel
theorem ok_p2 : p2.okN = true := by
  have h : p2.r4 = true := r4_leaf _ _ _ _ _ _ (by decide)
  unfold Pr.okN Pr.shp; rw [h]; decide +kernel
theorem ok_p3 : p3.okN = true := by decide +kernel
theorem ok_p4 : p4.okN = true := by
  have h : p4.r4 = true := r4_leaf _ _ _ _ _ _ (by decide)
  unfold Pr.okN Pr.shp; rw [h]; decide +kernel
theorem right_p4 : prightE p4 = 0 := by
  have h : preP 1 p4 = [(1, p4), (2, p3), (3, p2), (4, p1)] := by rfl
  have hl : p4.large = false := by decide +kernel
  unfold prightE
  rw [h, hl]
  simp [allN, ok_p1, ok_p2, ok_p3, ok_p4]
theorem free_p4 : p4.free = [bA, bB] := by decide +kernel
theorem prog_g4 : pprogE g4 = 0 := by
  have hm : g4.many = false := by unfold Pg.many; rw [total_g4]; rfl
  have hb : g4.bodies = [p4] := by rfl
  unfold pprogE
  rw [hm, hb]
  simp [firstR, right_p4, g4]

theorem nil_vls (B : Nat → Prop) (w : World) : VlSl B w (.slice none 0 0) [] := ⟨.inl ⟨⟨_, _, rfl⟩, rfl⟩, by simp [maxLen], fun s h => by cases h⟩
theorem nil_prs (B : Nat → Prop) (w : World) : PrSl B w (.slice none 0 0) [] := ⟨.inl ⟨⟨_, _, rfl⟩, rfl⟩, by simp [maxLen]⟩
theorem nil_dfs (B : Nat → Prop) (w : World) : DfSl B w (.slice none 0 0) [] := ⟨.inl ⟨⟨_, _, rfl⟩, rfl⟩, by simp [maxLen]⟩
abbrev sl0 : Value := .slice none 0 0
abbrev sl1 (b : Nat) : Value := .slice (some ⟨b, 0, none⟩) 1 1
end Go.Proofs.YtjmnaibbljakaaaGreatDoor

/- Copies in new memory, none of whose blocks is frozen: types. -/
namespace Go.Proofs.YtjmnaibbljakaaaGreatDoor
open Go.RowKit Go.Deep Go.Shelf

/-- A block of cells none of which is frozen. -/
def Uf (w : World) (k : Nat) : Prop := ∃ cs t, w.heap[k]? = some (.cells cs t (0, 0))
/-- New blocks, none of them frozen. -/
def FrU (w : World) (a b : Nat) : Nat → Prop := fun k => (a ≤ k ∧ k < b) ∧ Uf w k
theorem FrU.sub {w : World} {a b : Nat} : ∀ k, FrU w a b k → Fresh a b k := fun _ h => h.1
theorem Uf.keep {F : Nat → Prop} {w w' : World} (h : Keeps F w w') {k : Nat} (hf : F k) (hu : Uf w k) : Uf w' k := by
  obtain ⟨cs, t, h1⟩ := hu
  exact ⟨cs, t, h k _ hf h1 rfl⟩
theorem FrU.keeps {w0 w w' : World} {a b : Nat} (h : Keeps (Fresh a b) w w') : Keeps (FrU w0 a b) w w' := h.mono FrU.sub
theorem FrU.up {w w' : World} {a b c d : Nat} (h : Keeps (Fresh a b) w w') (h1 : c ≤ a) (h2 : b ≤ d) : ∀ k, FrU w a b k → FrU w' c d k := fun _ hk => ⟨⟨Nat.le_trans h1 hk.1.1, Nat.lt_of_lt_of_le hk.1.2 h2⟩, Uf.keep h hk.1 hk.2⟩
theorem FrU.mono {w : World} {a b c d : Nat} (h1 : c ≤ a) (h2 : b ≤ d) : ∀ k, FrU w a b k → FrU w c d k := fun _ hk => ⟨⟨Nat.le_trans h1 hk.1.1, Nat.lt_of_lt_of_le hk.1.2 h2⟩, hk.2⟩
theorem StrSl.up {w w' : World} {a b c d : Nat} {v : Value} {x : List ByteArray} (hv : StrSl (FrU w a b) w v x) (h : Keeps (Fresh a b) w w') (h1 : c ≤ a) (h2 : b ≤ d) : StrSl (FrU w' c d) w' v x := (StrSl.keep (FrU.keeps h) hv).mono (FrU.up h h1 h2)
theorem StrSl.up2 {w w' : World} {a b c d : Nat} {v : Value} {x : List ByteArray} (hv : StrSl (FrU w a b) w v x) (h : Keeps (Fresh c d) w w') (h1 : c ≤ a) (h2 : b ≤ d) : StrSl (FrU w' c d) w' v x := StrSl.up (hv.mono (FrU.mono h1 h2)) h (Nat.le_refl _) (Nat.le_refl _)
theorem TySl.up {w w' : World} {a b c d : Nat} {v : Value} {x : List Ty} (hv : TySl (FrU w a b) w v x) (h : Keeps (Fresh a b) w w') (h1 : c ≤ a) (h2 : b ≤ d) : TySl (FrU w' c d) w' v x := (TySl.keep (FrU.keeps h) hv).mono (FrU.up h h1 h2)
theorem TySl.up2 {w w' : World} {a b c d : Nat} {v : Value} {x : List Ty} (hv : TySl (FrU w a b) w v x) (h : Keeps (Fresh c d) w w') (h1 : c ≤ a) (h2 : b ≤ d) : TySl (FrU w' c d) w' v x := TySl.up (hv.mono (FrU.mono h1 h2)) h (Nat.le_refl _) (Nat.le_refl _)
theorem TyVal.up {w w' : World} {a b c d : Nat} {v : Value} {x : Ty} (hv : TyVal (FrU w a b) w v x) (h : Keeps (Fresh a b) w w') (h1 : c ≤ a) (h2 : b ≤ d) : TyVal (FrU w' c d) w' v x := (TyVal.keep (FrU.keeps h) hv).mono (FrU.up h h1 h2)
theorem TyVal.up2 {w w' : World} {a b c d : Nat} {v : Value} {x : Ty} (hv : TyVal (FrU w a b) w v x) (h : Keeps (Fresh c d) w w') (h1 : c ≤ a) (h2 : b ≤ d) : TyVal (FrU w' c d) w' v x := TyVal.up (hv.mono (FrU.mono h1 h2)) h (Nat.le_refl _) (Nat.le_refl _)
theorem VlSl.up {w w' : World} {a b c d : Nat} {v : Value} {x : List Vl} (hv : VlSl (FrU w a b) w v x) (h : Keeps (Fresh a b) w w') (h1 : c ≤ a) (h2 : b ≤ d) : VlSl (FrU w' c d) w' v x := (VlSl.keep (FrU.keeps h) hv).mono (FrU.up h h1 h2)
theorem VlSl.up2 {w w' : World} {a b c d : Nat} {v : Value} {x : List Vl} (hv : VlSl (FrU w a b) w v x) (h : Keeps (Fresh c d) w w') (h1 : c ≤ a) (h2 : b ≤ d) : VlSl (FrU w' c d) w' v x := VlSl.up (hv.mono (FrU.mono h1 h2)) h (Nat.le_refl _) (Nat.le_refl _)
theorem PrVal.up {w w' : World} {a b c d : Nat} {v : Value} {x : Pr} (hv : PrVal (FrU w a b) w v x) (h : Keeps (Fresh a b) w w') (h1 : c ≤ a) (h2 : b ≤ d) : PrVal (FrU w' c d) w' v x := (PrVal.keep (FrU.keeps h) hv).mono (FrU.up h h1 h2)
theorem PrVal.up2 {w w' : World} {a b c d : Nat} {v : Value} {x : Pr} (hv : PrVal (FrU w a b) w v x) (h : Keeps (Fresh c d) w w') (h1 : c ≤ a) (h2 : b ≤ d) : PrVal (FrU w' c d) w' v x := PrVal.up (hv.mono (FrU.mono h1 h2)) h (Nat.le_refl _) (Nat.le_refl _)
theorem uf_row {w : World} {base : Nat} {e : TypeId} {size g n cap m : Nat} {xs : List Value} (h : w.ownsRow base e size (.slice (some ⟨g, 0, none⟩) n cap) m xs) : Uf w g := by
  rcases h.2 with ⟨h, _⟩ | ⟨g', cap', cur, hv, _, hg, _⟩
  · cases h
  · injection hv with h1 h2 h3
    injection h1 with h1
    injection h1 with h1
    subst h1
    exact ⟨cur, e, hg⟩

def StrRetU (w : World) (ls : List ByteArray) (e : Ending) (w' : World) : Prop :=
  ∃ la ln lc, e = .returned (.slice la ln lc) ∧ StrSl (FrU w' w.heap.size w'.heap.size) w' (.slice la ln lc) ls ∧ Below w.heap.size w w'
def TyRetU (w : World) (g : Ty) (e : Ending) (w' : World) : Prop :=
  ∃ la ln lc ka kn kc, e = .returned (.agg #[.int .i64 g.k, .int .i64 g.p, .string g.n, .int .i64 g.s, .slice la ln lc, .slice ka kn kc]) ∧
    TyVal (FrU w' w.heap.size w'.heap.size) w' (.agg #[.int .i64 g.k, .int .i64 g.p, .string g.n, .int .i64 g.s, .slice la ln lc, .slice ka kn kc]) g ∧ Below w.heap.size w w'
def TysRetU (w : World) (gs : List Ty) (e : Ending) (w' : World) : Prop :=
  ∃ ka kn kc, e = .returned (.slice ka kn kc) ∧ TySl (FrU w' w.heap.size w'.heap.size) w' (.slice ka kn kc) gs ∧ Below w.heap.size w w'
def MapsToU (f : Nat) (caps : Array Value) (B : Nat → Prop) (w0 : World) (ts : List Ty) (g : Ty → Ty) : Prop :=
  ∀ t ∈ ts, ∀ (v : Value) (wr : World), Below w0.heap.size w0 wr → TyVal B wr v t → Calls Tryz.prog f (#[v] ++ caps) wr (TyRetU wr (g t))

/-- What lies in the block that is being filled: k types stand. -/
structure FilledU (g n : Nat) (gs : List Ty) (k : Nat) (w : World) : Prop where
  block : ∃ cs, w.heap[g]? = some (.cells cs 25 (0, 0)) ∧ cs.size = n * 6
  done : ∀ i t, i < k → gs[i]? = some t → ∃ v5 v6, w.cell? ⟨g, i * 6, none⟩ = some (.int .i64 t.k) ∧ w.cell? ⟨g, i * 6 + 1, none⟩ = some (.int .i64 t.p) ∧ w.cell? ⟨g, i * 6 + 2, none⟩ = some (.string t.n) ∧ w.cell? ⟨g, i * 6 + 3, none⟩ = some (.int .i64 t.s) ∧
    w.cell? ⟨g, i * 6 + 4, none⟩ = some v5 ∧ w.cell? ⟨g, i * 6 + 5, none⟩ = some v6 ∧ TyVal (FrU w (g + 1) w.heap.size) w (.agg #[.int .i64 t.k, .int .i64 t.p, .string t.n, .int .i64 t.s, v5, v6]) t
theorem FilledU.to {g n k : Nat} {gs : List Ty} {w w' : World} (h : FilledU g n gs k w) (hb : Below w.heap.size w w') : FilledU g n gs k w' := by
  obtain ⟨cs, hcs, hz⟩ := h.block
  have hg := (Array.getElem?_eq_some_iff.1 hcs).1
  refine ⟨⟨cs, (hb.block g hg).trans hcs, hz⟩, fun i t hi ht => ?_⟩
  obtain ⟨v5, v6, c0, c1, c2, c3, c4, c5, hv⟩ := h.done i t hi ht
  refine ⟨v5, v6, (hb.cell (p := ⟨g, _, none⟩) hg).trans c0, (hb.cell (p := ⟨g, _, none⟩) hg).trans c1, (hb.cell (p := ⟨g, _, none⟩) hg).trans c2, (hb.cell (p := ⟨g, _, none⟩) hg).trans c3, (hb.cell (p := ⟨g, _, none⟩) hg).trans c4, (hb.cell (p := ⟨g, _, none⟩) hg).trans c5, ?_⟩
  exact hv.up (hb.keeps'.mono (fun k hk => hk.2)) (Nat.le_refl _) hb.size
theorem FilledU.store {g n k : Nat} {gs : List Ty} {w : World} (h : FilledU g n gs k w) (hk : k < n) {t : Ty} (ht : gs[k]? = some t) {v5 v6 : Value} (hv : TyVal (FrU w (g + 1) w.heap.size) w (.agg #[.int .i64 t.k, .int .i64 t.p, .string t.n, .int .i64 t.s, v5, v6]) t) :
    FilledU g n gs (k + 1) (w.setCells g (k * 6) [.int .i64 t.k, .int .i64 t.p, .string t.n, .int .i64 t.s, v5, v6]) := by
  obtain ⟨cs, hcs, hz⟩ := h.block
  obtain ⟨cs', h1, h2⟩ := heap_setCells_same [.int .i64 t.k, .int .i64 t.p, .string t.n, .int .i64 t.s, v5, v6] (k * 6) w cs _ hcs
  have hkeep : Keeps (Fresh (g + 1) w.heap.size) w (w.setCells g (k * 6) [.int .i64 t.k, .int .i64 t.p, .string t.n, .int .i64 t.s, v5, v6]) := fun j o hj ho _ => (heap_setCells_other (by have := hj.1; omega) _ _ _).trans ho
  have hsz := size_setCells g [.int .i64 t.k, .int .i64 t.p, .string t.n, .int .i64 t.s, v5, v6] (k * 6) w
  refine ⟨⟨cs', h1, by omega⟩, fun i u hi hu => ?_⟩
  by_cases e : i = k
  · subst e
    rw [ht] at hu; cases hu
    have hin := World.cell?_setCells_in g [.int .i64 t.k, .int .i64 t.p, .string t.n, .int .i64 t.s, v5, v6] (i * 6) w (fun j hj => by
      obtain ⟨x, hx⟩ := cell_in hcs (j := i * 6 + j) (by simp at hj; omega)
      rw [hx]; rfl)
    exact ⟨v5, v6, hin 0 (by simp), hin 1 (by simp), hin 2 (by simp), hin 3 (by simp), hin 4 (by simp), hin 5 (by simp), by rw [hsz]; exact hv.up hkeep (Nat.le_refl _) (Nat.le_refl _)⟩
  · obtain ⟨u5, u6, c0, c1, c2, c3, c4, c5, hu'⟩ := h.done i u (by omega) hu
    have hout : ∀ j, j < 6 → (w.setCells g (k * 6) [.int .i64 t.k, .int .i64 t.p, .string t.n, .int .i64 t.s, v5, v6]).cell? ⟨g, i * 6 + j, none⟩ = w.cell? ⟨g, i * 6 + j, none⟩ := fun j hj =>
      World.cell?_setCells_out g _ _ _ _ (fun _ _ => .inl (by simp; omega))
    exact ⟨u5, u6, (hout 0 (by omega)).trans c0, (hout 1 (by omega)).trans c1, (hout 2 (by omega)).trans c2, (hout 3 (by omega)).trans c3, (hout 4 (by omega)).trans c4, (hout 5 (by omega)).trans c5, by rw [hsz]; exact hu'.up hkeep (Nat.le_refl _) (Nat.le_refl _)⟩

theorem MapsToU.later {f : Nat} {caps : Array Value} {B : Nat → Prop} {w0 w1 : World} {ts : List Ty} {g : Ty → Ty} (h : MapsToU f caps B w0 ts g) (hb : Below w0.heap.size w0 w1) : MapsToU f caps B w1 ts g :=
  fun t ht v wr hw hv => h t ht v wr (below_seq hb hw) hv
/-- A type that was returned, stored into a box of the caller's and read from it. -/
theorem ret_fillU {w W w3 : World} {c : Nat} (hW : Below w.heap.size w W) (hwc : w.heap.size ≤ c) (hc : c < W.heap.size) (hb3 : Below W.heap.size W w3) {g : Ty} {v : Value} (hv : TyVal (FrU w3 W.heap.size w3.heap.size) w3 v g) (v0 v1 v2 v3 v4 v5 : Value) :
    TyVal (FrU ((((((w3.setCell ⟨c, 0, none⟩ v0).setCell ⟨c, 1, none⟩ v1).setCell ⟨c, 2, none⟩ v2).setCell ⟨c, 3, none⟩ v3).setCell ⟨c, 4, none⟩ v4).setCell ⟨c, 5, none⟩ v5) w.heap.size ((((((w3.setCell ⟨c, 0, none⟩ v0).setCell ⟨c, 1, none⟩ v1).setCell ⟨c, 2, none⟩ v2).setCell ⟨c, 3, none⟩ v3).setCell ⟨c, 4, none⟩ v4).setCell ⟨c, 5, none⟩ v5).heap.size)
      ((((((w3.setCell ⟨c, 0, none⟩ v0).setCell ⟨c, 1, none⟩ v1).setCell ⟨c, 2, none⟩ v2).setCell ⟨c, 3, none⟩ v3).setCell ⟨c, 4, none⟩ v4).setCell ⟨c, 5, none⟩ v5) v g ∧
    Below w.heap.size w ((((((w3.setCell ⟨c, 0, none⟩ v0).setCell ⟨c, 1, none⟩ v1).setCell ⟨c, 2, none⟩ v2).setCell ⟨c, 3, none⟩ v3).setCell ⟨c, 4, none⟩ v4).setCell ⟨c, 5, none⟩ v5) := by
  have ha := (Above.refl W.heap.size w3).fill hc v0 v1 v2 v3 v4 v5
  exact ⟨hv.up ha.keeps hW.size ha.size, below_fill (below_seq hW hb3) hwc v0 v1 v2 v3 v4 v5⟩
end Go.Proofs.YtjmnaibbljakaaaGreatDoor

/- Copies in new memory, none of whose blocks is frozen: processes. -/
namespace Go.Proofs.YtjmnaibbljakaaaGreatDoor
open Go.RowKit Go.Deep Go.Shelf

def VlRetU (w : World) (vs : List Vl) (e : Ending) (w' : World) : Prop :=
  ∃ la ln lc, e = .returned (.slice la ln lc) ∧ VlSl (FrU w' w.heap.size w'.heap.size) w' (.slice la ln lc) vs ∧ Below w.heap.size w w'
def PrRetU (w : World) (p : Pr) (e : Ending) (w' : World) : Prop :=
  ∃ la ln lc aa an ac ta tn tc ua un uc ka kn kc, e = .returned (prAgg p (.slice la ln lc) (.slice aa an ac) (.slice ta tn tc) (.slice ua un uc) (.slice ka kn kc)) ∧
    PrVal (FrU w' w.heap.size w'.heap.size) w' (prAgg p (.slice la ln lc) (.slice aa an ac) (.slice ta tn tc) (.slice ua un uc) (.slice ka kn kc)) p ∧ Below w.heap.size w w'
end Go.Proofs.YtjmnaibbljakaaaGreatDoor

/- Copy of a process in new memory, none of whose blocks is frozen. -/
namespace Go.Proofs.YtjmnaibbljakaaaGreatDoor
open Go.RowKit Go.Deep Go.Shelf

end Go.Proofs.YtjmnaibbljakaaaGreatDoor

/- What stays in memory while a process is spoilt: texts stay texts, numbers stay numbers, all slices stay as they are. -/
namespace Go.Proofs.YtjmnaibbljakaaaGreatDoor
open Go.RowKit Go.Deep Go.Shelf

/-- A cell that was changed: a text became a text, a number a number. -/
def CellKin (v u : Value) : Prop := v = u ∨ (∃ s s', v = .string s ∧ u = .string s') ∨ ∃ t n n', v = .int t n ∧ u = .int t n'
theorem CellKin.refl (v : Value) : CellKin v v := .inl rfl
theorem CellKin.trans {a b c : Value} (h : CellKin a b) (k : CellKin b c) : CellKin a c := by
  rcases h with rfl | ⟨s, s', rfl, rfl⟩ | ⟨t, n, n', rfl, rfl⟩
  · exact k
  · rcases k with rfl | ⟨q, q', h1, rfl⟩ | ⟨t, n, n', h1, rfl⟩
    · exact .inr (.inl ⟨_, _, rfl, rfl⟩)
    · exact .inr (.inl ⟨_, _, rfl, rfl⟩)
    · cases h1
  · rcases k with rfl | ⟨q, q', h1, rfl⟩ | ⟨t', m, m', h1, rfl⟩
    · exact .inr (.inr ⟨_, _, _, rfl, rfl⟩)
    · cases h1
    · cases h1; exact .inr (.inr ⟨_, _, _, rfl, rfl⟩)
theorem CellKin.slice {a : Option Addr} {n c : Nat} {u : Value} (h : CellKin (.slice a n c) u) : u = .slice a n c := by
  rcases h with h | ⟨s, s', h, _⟩ | ⟨t, n, n', h, _⟩
  · exact h.symm
  · cases h
  · cases h
theorem CellKin.str {s : ByteArray} {u : Value} (h : CellKin (.string s) u) : ∃ s', u = .string s' := by
  rcases h with h | ⟨s, s', _, h⟩ | ⟨t, n, n', h, _⟩
  · exact ⟨_, h.symm⟩
  · exact ⟨_, h⟩
  · cases h
theorem CellKin.num {t : IntKind} {n : Int} {u : Value} (h : CellKin (.int t n) u) : ∃ n', u = .int t n' := by
  rcases h with h | ⟨s, s', h, _⟩ | ⟨t, n, n', h, h'⟩
  · exact ⟨_, h.symm⟩
  · cases h
  · cases h; exact ⟨_, h'⟩

/-- The worlds before and behind: outside F all lies as it lay, in F each cell is kin to what it was. -/
structure Kin (F : Nat → Prop) (w w' : World) : Prop where
  os : w'.os = w.os
  tape : w'.tape = w.tape
  output : w'.output = w.output
  size : w.heap.size ≤ w'.heap.size
  low : ∀ k, k < w.heap.size → ¬ F k → w'.heap[k]? = w.heap[k]?
  same : ∀ k cs t fr, F k → w.heap[k]? = some (.cells cs t fr) → ∃ cs', w'.heap[k]? = some (.cells cs' t fr) ∧ ∀ (j : Nat) (v : Value), cs[j]? = some v → ∃ u, cs'[j]? = some u ∧ CellKin v u
section
variable {F : Nat → Prop} {a b c w w' : World}
theorem Kin.refl (F : Nat → Prop) (w : World) : Kin F w w := ⟨rfl, rfl, rfl, Nat.le_refl _, fun _ _ _ => rfl, fun _ cs _ _ _ h => ⟨cs, h, fun _ v hv => ⟨v, hv, CellKin.refl v⟩⟩⟩
theorem Kin.trans (h : Kin F a b) (k : Kin F b c) : Kin F a c := by
  refine ⟨k.os.trans h.os, k.tape.trans h.tape, k.output.trans h.output, Nat.le_trans h.size k.size, fun i hi hf => (k.low i (Nat.lt_of_lt_of_le hi h.size) hf).trans (h.low i hi hf), fun i cs t fr hf hc => ?_⟩
  obtain ⟨cs1, h1, h2⟩ := h.same i cs t fr hf hc
  obtain ⟨cs2, h3, h4⟩ := k.same i cs1 t fr hf h1
  refine ⟨cs2, h3, fun j v hv => ?_⟩
  obtain ⟨u, hu, hk⟩ := h2 j v hv
  obtain ⟨u2, hu2, hk2⟩ := h4 j u hu
  exact ⟨u2, hu2, hk.trans hk2⟩
theorem Kin.alloc (hF : Low F w) (o : Obj) : Kin F w (w.alloc o) := by
  have hb := (Below.refl w.heap.size w).alloc (Nat.le_refl _) o
  exact ⟨hb.os, hb.tape, hb.output, hb.size, fun k hk _ => hb.block k hk, fun k cs t fr hf hc => ⟨cs, (hb.block k (hF k hf)).trans hc, fun _ v hv => ⟨v, hv, CellKin.refl v⟩⟩⟩
theorem Kin.uf (h : Kin F w w') {k : Nat} (hf : F k) (hu : Uf w k) : Uf w' k := by
  obtain ⟨cs, t, hc⟩ := hu
  obtain ⟨cs', h1, _⟩ := h.same k cs t _ hf hc
  exact ⟨cs', t, h1⟩
theorem Kin.cell (h : Kin F w w') {b o : Nat} {v : Value} (hb : F b) (hv : w.cell? ⟨b, o, none⟩ = some v) : ∃ u, w'.cell? ⟨b, o, none⟩ = some u ∧ CellKin v u := by
  unfold World.cell? at hv
  cases ho : w.heap[b]? with
  | none => simp [ho] at hv
  | some ob =>
    cases ob with
    | cells cs t fr =>
      simp only [ho] at hv
      obtain ⟨cs', h1, h2⟩ := h.same b cs t fr hb ho
      obtain ⟨u, hu, hk⟩ := h2 o v (by simpa using hv)
      exact ⟨u, by unfold World.cell?; simp only [h1]; simpa using hu, hk⟩
    | _ => simp [ho] at hv
theorem Uf.frozen {k j : Nat} (h : Uf w k) : w.frozen? ⟨k, j, none⟩ = false := by
  obtain ⟨cs, t, hc⟩ := h
  exact frozen_of_block hc j
theorem Uf.lt {k : Nat} (h : Uf w k) : k < w.heap.size := by
  obtain ⟨cs, t, hc⟩ := h
  exact (Array.getElem?_eq_some_iff.1 hc).1
/-- A store of a kin value. -/
theorem Kin.set {g o : Nat} {v u : Value} (hg : F g) (hv : w.cell? ⟨g, o, none⟩ = some v) (hk : CellKin v u) : Kin F w (w.setCell ⟨g, o, none⟩ u) := by
  have hb := (Below.refl 0 w).setCell (p := ⟨g, o, none⟩) (Nat.zero_le _) u
  refine ⟨hb.os, hb.tape, hb.output, hb.size, fun k _ hf => Below.heap_setCell _ _ _ k (by intro e; exact hf (by simp at e; rw [e]; exact hg)), fun k cs t fr hf hc => ?_⟩
  by_cases e : k = g
  · subst e
    refine ⟨_, set_block hc o u, fun j x hx => ?_⟩
    rw [Array.getElem?_setIfInBounds]
    by_cases ej : o = j
    · subst ej
      have hlt := (Array.getElem?_eq_some_iff.1 hx).1
      rw [if_pos rfl, if_pos hlt]
      have : x = v := by
        have h2 : w.cell? ⟨k, o, none⟩ = some x := by simp [World.cell?, hc, hx]
        rw [hv] at h2; exact (Option.some.inj h2).symm
      exact ⟨u, rfl, by rw [this]; exact hk⟩
    · rw [if_neg ej]
      exact ⟨x, hx, CellKin.refl x⟩
  · exact ⟨cs, (Below.heap_setCell _ _ _ k (by simpa using e)).trans hc, fun _ x hx => ⟨x, hx, CellKin.refl x⟩⟩
theorem Kin.below {m : Nat} (h : Kin F w w') (hm : m ≤ w.heap.size) (hF : ∀ k, F k → m ≤ k) : Below m w w' :=
  ⟨h.os, h.tape, h.output, h.size, fun k hk => h.low k (by omega) (fun hf => by have := hF k hf; omega)⟩
end

/-! ### What spoil reads -/
/-- n cells, s apart from each other, each with a text. -/
def StrQ (F : Nat → Prop) (w : World) (a : Option Addr) (n : Nat) : Prop := n ≤ 9223372036854775807 ∧ ∀ j, j < n → ∃ b o s, a = some ⟨b, o, none⟩ ∧ F b ∧ w.cell? ⟨b, o + j, none⟩ = some (.string s)
def NumQ (F : Nat → Prop) (w : World) (a : Option Addr) (n sz d : Nat) : Prop := n ≤ 9223372036854775807 ∧ ∀ j, j < n → ∃ b o k, a = some ⟨b, o, none⟩ ∧ F b ∧ w.cell? ⟨b, o + j * sz + d, none⟩ = some (.int .i64 k)
theorem StrQ.kin {F : Nat → Prop} {w w' : World} {a : Option Addr} {n : Nat} (h : StrQ F w a n) (hk : Kin F w w') : StrQ F w' a n := by
  refine ⟨h.1, fun j hj => ?_⟩
  obtain ⟨b, o, s, h1, h2, h3⟩ := h.2 j hj
  obtain ⟨u, h4, h5⟩ := hk.cell h2 h3
  obtain ⟨s', rfl⟩ := h5.str
  exact ⟨b, o, s', h1, h2, h4⟩
theorem NumQ.kin {F : Nat → Prop} {w w' : World} {a : Option Addr} {n sz d : Nat} (h : NumQ F w a n sz d) (hk : Kin F w w') : NumQ F w' a n sz d := by
  refine ⟨h.1, fun j hj => ?_⟩
  obtain ⟨b, o, s, h1, h2, h3⟩ := h.2 j hj
  obtain ⟨u, h4, h5⟩ := hk.cell h2 h3
  obtain ⟨s', rfl⟩ := h5.num
  exact ⟨b, o, s', h1, h2, h4⟩
theorem StrSl.q {F : Nat → Prop} {w : World} {a : Option Addr} {n c : Nat} {ls : List ByteArray} (h : StrSl F w (.slice a n c) ls) : StrQ F w a n := by
  obtain ⟨pa, len, c', e, hl, hm, hg⟩ := h.open
  injection e with e1 e2 e3
  subst e1 e2
  refine ⟨hm, fun j hj => ?_⟩
  obtain ⟨s, hs⟩ : ∃ s, ls[j]? = some s := ⟨_, List.getElem?_eq_getElem (by rw [← hl.out]; exact hj)⟩
  obtain ⟨_, b, o, h1, h2, h3⟩ := hg j s hs
  exact ⟨b, o, s, h1, h2, h3⟩
theorem VlSl.q {F : Nat → Prop} {w : World} {a : Option Addr} {n c : Nat} {ls : List Vl} (h : VlSl F w (.slice a n c) ls) : NumQ F w a n 3 2 := by
  obtain ⟨pa, len, c', e, hl, hm, hg⟩ := h.open
  injection e with e1 e2 e3
  subst e1 e2
  refine ⟨hm, fun j hj => ?_⟩
  obtain ⟨s, hs⟩ : ∃ s, ls[j]? = some s := ⟨_, List.getElem?_eq_getElem (by rw [← hl.out]; exact hj)⟩
  obtain ⟨_, b, o, h1, h2, _, _, h3⟩ := hg j s hs
  exact ⟨b, o, s.x, h1, h2, h3⟩
theorem TySl.q {F : Nat → Prop} {w : World} {a : Option Addr} {n c : Nat} {ls : List Ty} (h : TySl F w (.slice a n c) ls) : NumQ F w a n 6 0 := by
  obtain ⟨pa, len, c', e, hl, hm, hg⟩ := h.open
  injection e with e1 e2 e3
  subst e1 e2
  refine ⟨hm, fun j hj => ?_⟩
  obtain ⟨s, hs⟩ : ∃ s, ls[j]? = some s := ⟨_, List.getElem?_eq_getElem (by rw [← hl.out]; exact hj)⟩
  obtain ⟨b, o, h1, h2, h3⟩ := hg j s hs
  obtain ⟨_, _, ⟨h4, _⟩, _⟩ := TyAt.eq.1 h3
  exact ⟨b, o, s.k, h1, h2, h4⟩

end Go.Proofs.YtjmnaibbljakaaaGreatDoor

/- spoil changes texts and numbers alone. -/
namespace Go.Proofs.YtjmnaibbljakaaaGreatDoor
open Go.RowKit Go.Deep Go.Shelf

end Go.Proofs.YtjmnaibbljakaaaGreatDoor

/- Lists of texts that a call owns, and append to them; the names that the reference finds. -/
namespace Go.Proofs.YtjmnaibbljakaaaGreatDoor
open Go.RowKit Go.Deep Go.Shelf

/-- A list of texts that lies in a row of the call's own. -/
def Row (base : Nat) (W : World) (v : Value) (l : List ByteArray) : Prop := W.ownsRow base 9 1 v l.length (l.map .string) ∧ ∀ s ∈ l, s.size ≤ maxLen
theorem Row.nil (base : Nat) (W : World) : Row base W (.slice none 0 0) [] := ⟨World.ownsRow_nil _ _ _ _, fun s h => by cases h⟩
theorem Row.empty (base : Nat) (w0 : World) (b : Nat) (hb : b = w0.heap.size) (h : base ≤ w0.heap.size) : Row base (w0.alloc (.cells #[] 9)) (.slice (some ⟨b, 0, none⟩) 0 0) [] := ⟨fresh_row' w0 base b hb h, fun s h => by cases h⟩
theorem Row.alloc {base : Nat} {W : World} {v : Value} {l : List ByteArray} (h : Row base W v l) (o : Obj) : Row base (W.alloc o) v l := ⟨h.1.alloc o, h.2⟩
theorem Row.drew {base : Nat} {W : World} {v : Value} {l : List ByteArray} (h : Row base W v l) : Row base W.drew v l := h
theorem Row.lt {base : Nat} {W : World} {v : Value} {l : List ByteArray} (h : Row base W v l) : ∀ k, v.ownBlock = some k → base ≤ k ∧ k < W.heap.size := h.1.lt
theorem Row.kept {base : Nat} {W W' : World} {v : Value} {l : List ByteArray} (h : Row base W v l) (hb : ∀ k, v.ownBlock = some k → W'.heap[k]? = W.heap[k]?) : Row base W' v l := by
  refine ⟨⟨h.1.1, ?_⟩, h.2⟩
  rcases h.1.2 with h0 | ⟨g, cap, cur, rfl, hbg, hg, r⟩
  · exact .inl h0
  · exact .inr ⟨g, cap, cur, rfl, hbg, (hb g rfl).trans hg, r⟩
theorem Row.to {base : Nat} {W W' : World} {v : Value} {l : List ByteArray} (h : Row base W v l) (hb : Below W.heap.size W W') : Row base W' v l := h.kept fun k hk => hb.block k (h.lt k hk).2
theorem Row.strs {base : Nat} {W : World} {v : Value} {l : List ByteArray} (h : Row base W v l) (hl : l.length ≤ maxLen) : (∃ a n c, v = .slice a n c) ∧ StrSl (Fresh base W.heap.size) W v l := strSl_row2 h.1 h.2 hl

theorem run_nothing (base : Nat) (ty : TypeId) (v : Value) (n : Nat) (xs : List Value) (w : World) (hown : w.ownsRow base 9 1 v n xs) (a : Option Addr) (c : Nat) :
    (Builtin.append_ #[22, 22] ty #[v, .slice a 0 c]).run Tryz.prog w = .ok v w := by
  obtain ⟨i0, hi, hz0, hz1, hz2⟩ := info_parts strInfo'
  have ht := Tryz.underlying22
  rcases hown.2 with ⟨rfl, rfl⟩ | ⟨g, cap, cur, rfl, _, _, hnc, _⟩
  · cases a with
    | none => simp [Builtin.append_, run_underlying ht, sizeOf, typeInfo, hi, Builtin.lenOf, Builtin.firstCells]
    | some ad => simp [Builtin.append_, run_underlying ht, sizeOf, typeInfo, hi, Builtin.lenOf, Builtin.firstCells, loadCells, loadCellsFrom]
  · cases a with
    | none => simp [Builtin.append_, run_underlying ht, sizeOf, typeInfo, hi, Builtin.lenOf, Builtin.firstCells, hnc, storeCells]
    | some ad => simp [Builtin.append_, run_underlying ht, sizeOf, typeInfo, hi, Builtin.lenOf, Builtin.firstCells, hnc, storeCells, loadCells, loadCellsFrom]

theorem slice_of_row {base : Nat} {W : World} {v : Value} {n : Nat} {xs : List Value} (h : W.ownsRow base 9 1 v n xs) : ∃ a m c, v = .slice a m c := by
  rcases h.2 with ⟨rfl, _⟩ | ⟨g, cap, cur, rfl, _⟩
  · exact ⟨_, _, _, rfl⟩
  · exact ⟨_, _, _, rfl⟩

/-- append of a list of texts, which may be empty, to one of the call's own, which may be nil. -/
theorem run_app (base : Nat) (ty : TypeId) (v : Value) (l : List ByteArray) (w : World) (hown : Row base w v l) (B : Nat → Prop) (na : Option Addr) (nn nc : Nat) (names : List ByteArray) (hnv : StrSl B w (.slice na nn nc) names) (h63 : l.length + names.length ≤ 1000000000) (hbase : base ≤ w.heap.size) :
    ∃ ga gn gc w', (Builtin.append_ #[22, 22] ty #[v, .slice na nn nc]).run Tryz.prog w = .ok (.slice ga gn gc) w' ∧ Row base w' (.slice ga gn gc) (l ++ names) ∧ w.grownBy w' v.ownBlock ∧ ((Value.slice ga gn gc).ownBlock = v.ownBlock ∨ (Value.slice ga gn gc).ownBlock = some w.heap.size) := by
  obtain ⟨i0, hi, hz0, hz1, hz2⟩ := info_parts strInfo'
  have hall : ∀ s ∈ l ++ names, s.size ≤ maxLen := fun s hs => by
    rcases List.mem_append.1 hs with h | h
    · exact hown.2 s h
    · exact hnv.2.2 s h
  rcases hnv.1 with ⟨⟨a, c, e⟩, rfl⟩ | ⟨b, o, c, e, _, _, hrow⟩
  · cases e
    obtain ⟨ga, gn, gc, rfl⟩ := slice_of_row hown.1
    exact ⟨_, _, _, w, run_nothing base ty _ _ _ w hown.1 na nc, by rw [List.append_nil]; exact hown, ⟨rfl, rfl, rfl, Nat.le_refl _, fun _ _ _ => rfl⟩, .inl rfl⟩
  · cases e
    obtain ⟨v', w', hr, h2, h3, h4, h5⟩ := run_append_own_at (P := Tryz.prog) w base 22 ty 9 i0 _ 1 16 Tryz.underlying22 hi hz0 hz1 hz2 rfl (by decide) _ _ _ hown.1 ⟨b, o, none⟩ names.length nc (names.map .string) (by simp) (fun j u hj => by
      rw [List.getElem?_map] at hj
      cases hx : names[j]? with
      | none => simp [hx] at hj
      | some x => simp [hx] at hj; subst hj; have hc := hrow j x hx; cases j with | zero => simpa [Addr.add] using hc | succ j => simpa [Addr.add] using hc) (fun u hu => by
      obtain ⟨x, _, rfl⟩ := List.mem_map.1 hu; rfl) (by unfold maxLen; omega) (by omega) hbase
    obtain ⟨ga, gn, gc, rfl⟩ := slice_of_row h2
    exact ⟨_, _, _, w', hr, ⟨by rw [List.length_append, List.map_append]; exact h2, hall⟩, h3, h5⟩

/-- .. at an operation of a plain region. -/
theorem wpList_app {ops : Array Oper} {rest : List Oper} {o : Oper} {a : Act} {w : World} {Q : Exit → Act → World → Prop} (hgd : o.guard = none) (s x : Operand)
    (ho : o.op = .call { callee := .builtin .append, args := #[s, x], argTypes := #[22, 22] })
    (base : Nat) (l : List ByteArray) (v : Value) (hs : a.eval s = v) (hown : Row base w v l) (B : Nat → Prop) (na : Option Addr) (nn nc : Nat) (names : List ByteArray) (hx : a.eval x = .slice na nn nc) (hnv : StrSl B w (.slice na nn nc) names) (h63 : l.length + names.length ≤ 1000000000) (hbase : base ≤ w.heap.size)
    (h : ∀ ga gn gc w', Row base w' (.slice ga gn gc) (l ++ names) → w.grownBy w' v.ownBlock → ((Value.slice ga gn gc).ownBlock = v.ownBlock ∨ (Value.slice ga gn gc).ownBlock = some w.heap.size) → wpList Tryz.prog ops Q rest (a.put o.dst (.slice ga gn gc)) w') : wpList Tryz.prog ops Q (o :: rest) a w := by
  refine wpList_plain hgd fun K hK => ?_
  obtain ⟨ga, gn, gc, w', hr, h2, h3, h4⟩ := run_app base o.type v l w hown B na nn nc names hnv h63 hbase
  unfold Oper.wp execOp
  simp only [ho, resolve, invoke, builtin, Sem.run_bind, Sem.run_pure, Result.andThen_ok, List.map_toArray, List.map_cons, List.map_nil, hs, hx, hr]
  exact hK _ _ (h ga gn gc w' h2 h3 h4)
/-- .. at a step of a region that draws its order. -/
theorem step_app {ops : Array Oper} {o : Oper} {a : Act} {w : World} {K : Act → World → Prop} {Q : Exit → Act → World → Prop} {E : Prop} (hgd : o.guard = none) (s x : Operand)
    (ho : o.op = .call { callee := .builtin .append, args := #[s, x], argTypes := #[22, 22] })
    (base : Nat) (l : List ByteArray) (v : Value) (hs : a.eval s = v) (hown : Row base w v l) (B : Nat → Prop) (na : Option Addr) (nn nc : Nat) (names : List ByteArray) (hx : a.eval x = .slice na nn nc) (hnv : StrSl B w (.slice na nn nc) names) (h63 : l.length + names.length ≤ 1000000000) (hbase : base ≤ w.heap.size)
    (m : List ByteArray) (hm : l ++ names = m)
    (h : ∀ ga gn gc w', Row base w' (.slice ga gn gc) m → w.grownBy w' v.ownBlock → K (a.put o.dst (.slice ga gn gc)) w') :
    if Region.wanted o (yielded ops a.tmps) = true then Oper.wp Tryz.prog o a w K Q else E := by
  subst hm
  have hw : Region.wanted o (yielded ops a.tmps) = true := by simp [Region.wanted, hgd]
  rw [if_pos hw]
  obtain ⟨ga, gn, gc, w', hr, h2, h3, h4⟩ := run_app base o.type v l w hown B na nn nc names hnv h63 hbase
  unfold Oper.wp execOp
  simp only [ho, resolve, invoke, builtin, Sem.run_bind, Sem.run_pure, Result.andThen_ok, List.map_toArray, List.map_cons, List.map_nil, hs, hx, hr]
  exact h ga gn gc w' h2 h3

/-! ### The names -/
theorem prefixB_eq (k : Int) : prefixB k = (decide (2 ≤ k) && decide (k ≤ 5)) := by
  unfold prefixB
  rw [Bool.eq_iff_iff]; simp; omega
/-- The names of a node, as often as they occur. -/
def Pr.ownT (p : Pr) (j : Nat) : List ByteArray := (if prefixB p.k then [p.c] else []) ++ ((p.vs.take j).filter (fun a => a.k == 1)).map (fun a => a.n)
def Pr.own (p : Pr) : List ByteArray := (if prefixB p.k then [p.c] else []) ++ (p.vs.filter (fun a => a.k == 1)).map (fun a => a.n)
theorem Pr.ownT_all {p : Pr} {j : Nat} (h : p.vs.length ≤ j) : p.ownT j = p.own := by unfold Pr.ownT Pr.own; rw [List.take_of_length_le h]
theorem Pr.ownT_yes {p : Pr} {j : Nat} {a : Vl} (h : p.vs[j]? = some a) (hk : a.k = 1) : p.ownT (j + 1) = p.ownT j ++ [a.n] := by
  unfold Pr.ownT; rw [take_snoc_get h, List.filter_append, List.map_append, ← List.append_assoc]; simp [hk]
theorem Pr.ownT_no {p : Pr} {j : Nat} {a : Vl} (h : p.vs[j]? = some a) (hk : a.k ≠ 1) : p.ownT (j + 1) = p.ownT j := by
  unfold Pr.ownT; rw [take_snoc_get h, List.filter_append, List.map_append]; simp [hk]
theorem Pr.ownT_len (p : Pr) (j : Nat) : (p.ownT j).length ≤ 1 + p.vs.length := by
  unfold Pr.ownT
  have h1 : ((p.vs.take j).filter (fun a => a.k == 1)).length ≤ p.vs.length := Nat.le_trans (List.length_filter_le _ _) (by rw [List.length_take]; omega)
  rw [List.length_append, List.length_map]
  split <;> simp <;> omega
def keepF (bd : List ByteArray) (l : List ByteArray) : List ByteArray := l.filter (fun s => !memB s bd)
theorem keepF_yes {bd l : List ByteArray} {j : Nat} {s : ByteArray} (h : l[j]? = some s) (hm : memB s bd = false) : keepF bd (l.take (j + 1)) = keepF bd (l.take j) ++ [s] := by
  unfold keepF; rw [take_snoc_get h, List.filter_append]; simp [hm]
theorem keepF_no {bd l : List ByteArray} {j : Nat} {s : ByteArray} (h : l[j]? = some s) (hm : memB s bd = true) : keepF bd (l.take (j + 1)) = keepF bd (l.take j) := by
  unfold keepF; rw [take_snoc_get h, List.filter_append]; simp [hm]
theorem keepF_len (bd l : List ByteArray) (j : Nat) : (keepF bd (l.take j)).length ≤ l.length := Nat.le_trans (List.length_filter_le _ _) (by rw [List.length_take]; omega)
mutual
/-- The names that are not bound, as often as they occur. -/
def Pr.uses : Pr → List ByteArray → List ByteArray
  | .mk k c x ls vs t ps, bd => keepF bd (Pr.mk k c x ls vs t ps).own ++ Pr.usess ps (bd ++ (Pr.mk k c x ls vs t ps).bnd)
def Pr.usess : List Pr → List ByteArray → List ByteArray
  | [], _ => []
  | p :: r, bd => p.uses bd ++ Pr.usess r bd
end
theorem Pr.uses_eq (p : Pr) (bd : List ByteArray) : p.uses bd = keepF bd p.own ++ Pr.usess p.ps (bd ++ p.bnd) := by cases p; simp only [Pr.uses, Pr.ps]
theorem Pr.usess_append (l r : List Pr) (bd : List ByteArray) : Pr.usess (l ++ r) bd = Pr.usess l bd ++ Pr.usess r bd := by
  induction l with
  | nil => simp [Pr.usess]
  | cons p l ih => rw [List.cons_append, Pr.usess, ih, Pr.usess, List.append_assoc]
theorem Pr.usess_take {l : List Pr} {j : Nat} {u : Pr} (h : l[j]? = some u) (bd : List ByteArray) : Pr.usess (l.take (j + 1)) bd = Pr.usess (l.take j) bd ++ u.uses bd := by
  rw [take_snoc_get h, Pr.usess_append]; simp [Pr.usess]
theorem Pr.own_len (p : Pr) : p.own.length ≤ 1 + p.vs.length := by
  have := p.ownT_len p.vs.length; rw [Pr.ownT_all (Nat.le_refl _)] at this; exact this
mutual
theorem Pr.uses_len : ∀ (p : Pr) (bd : List ByteArray), (p.uses bd).length ≤ p.nms
  | .mk k c x ls vs t ps, bd => by
    have h1 := Pr.usess_len ps (bd ++ (Pr.mk k c x ls vs t ps).bnd)
    have h2 := (Pr.mk k c x ls vs t ps).own_len
    have h3 : (keepF bd (Pr.mk k c x ls vs t ps).own).length ≤ (Pr.mk k c x ls vs t ps).own.length := List.length_filter_le _ _
    have h4 : (Pr.mk k c x ls vs t ps).vs.length = vs.length := rfl
    simp only [Pr.uses, Pr.nms, List.length_append]; omega
theorem Pr.usess_len : ∀ (l : List Pr) (bd : List ByteArray), (Pr.usess l bd).length ≤ Pr.nmss l
  | [], _ => by simp [Pr.usess, Pr.nmss]
  | p :: r, bd => by
    have h1 := Pr.uses_len p bd
    have h2 := Pr.usess_len r bd
    simp only [Pr.usess, Pr.nmss, List.length_append]; omega
end
/-- A name, if it is not there yet. -/
def addN (out : List ByteArray) (s : ByteArray) : List ByteArray := if memB s out then out else out ++ [s]
theorem addN_len (out : List ByteArray) (s : ByteArray) : (addN out s).length ≤ out.length + 1 := by unfold addN; split <;> simp
theorem foldN_len (l : List ByteArray) : ∀ out, (l.foldl addN out).length ≤ out.length + l.length := by
  induction l with
  | nil => intro out; simp
  | cons s r ih => intro out; rw [List.foldl_cons, List.length_cons]; have := ih (addN out s); have := addN_len out s; omega

/-- The counts and the bound names tell the same. -/
def Agree (cnt : ByteArray → Int) (bd : List ByteArray) : Prop := ∀ y, 0 ≤ cnt y ∧ (cnt y = 0 ↔ y ∉ bd)
theorem Agree.add {cnt : ByteArray → Int} {bd : List ByteArray} (h : Agree cnt bd) (s : ByteArray) : Agree (add1 cnt s) (bd ++ [s]) := fun y => by
  have hy := h y
  have hs := h s
  unfold add1
  by_cases e : y = s
  · subst e; rw [if_pos rfl]; refine ⟨by omega, ?_⟩; simp; omega
  · rw [if_neg e]; refine ⟨hy.1, ?_⟩; simp [e, hy.2]
theorem Agree.adds (l : List ByteArray) : ∀ {cnt : ByteArray → Int} {bd : List ByteArray}, Agree cnt bd → Agree (l.foldl add1 cnt) (bd ++ l) := by
  induction l with
  | nil => intro cnt bd h; simpa using h
  | cons s r ih => intro cnt bd h; rw [List.foldl_cons]; have := ih (h.add s); rwa [List.append_assoc, List.singleton_append] at this
theorem occ_addN {cnt : ByteArray → Int} {bd : List ByteArray} (h : Agree cnt bd) (out : List ByteArray) (s : ByteArray) : occ cnt out s = (keepF bd [s]).foldl addN out := by
  unfold occ keepF
  by_cases hc : cnt s = 0
  · have hm : memB s bd = false := memB_false ((h s).2.1 hc)
    simp only [hc, hm, List.filter_cons, List.filter_nil, Bool.not_false, if_true, List.foldl_cons, List.foldl_nil, true_and]
    unfold addN
    cases memB s out <;> simp
  · have hm : memB s bd = true := memB_true.2 (by
      by_cases hb : s ∈ bd
      · exact hb
      · exact absurd ((h s).2.2 hb) hc)
    simp [hc, hm]
theorem here_addN {cnt : ByteArray → Int} {bd : List ByteArray} (h : Agree cnt bd) (p : Pr) (out : List ByteArray) : p.here cnt out = (keepF bd p.own).foldl addN out := by
  have hv : ∀ (l : List Vl) (out : List ByteArray), l.foldl (occV cnt) out = (keepF bd ((l.filter (fun a => a.k == 1)).map (fun a => a.n))).foldl addN out := by
    intro l
    induction l with
    | nil => intro out; rfl
    | cons a r ih =>
      intro out
      rw [List.foldl_cons, ih]
      unfold occV
      by_cases hk : a.k = 1
      · rw [if_pos hk, occ_addN h, ← List.foldl_append]
        unfold keepF
        rw [← List.filter_append]
        simp [hk]
      · rw [if_neg hk]; simp [hk]
  unfold Pr.here Pr.own keepF
  rw [hv, List.filter_append, List.foldl_append]
  unfold keepF
  congr 1
  by_cases hp : prefixB p.k = true
  · rw [if_pos hp, if_pos hp, occ_addN h]; rfl
  · rw [if_neg hp, if_neg hp]; rfl
mutual
theorem Pr.fw_addN : ∀ (p : Pr) (cnt : ByteArray → Int) (bd out : List ByteArray), Agree cnt bd → p.fw cnt out = (p.uses bd).foldl addN out
  | .mk k c x ls vs t ps, cnt, bd, out, h => by
    rw [Pr.fw, Pr.uses, List.foldl_append, ← here_addN h, Pr.fws_addN ps _ _ _ (Agree.adds _ h)]
theorem Pr.fws_addN : ∀ (l : List Pr) (cnt : ByteArray → Int) (bd out : List ByteArray), Agree cnt bd → Pr.fws l cnt out = (Pr.usess l bd).foldl addN out
  | [], cnt, bd, out, h => by simp [Pr.fws, Pr.usess]
  | p :: r, cnt, bd, out, h => by
    rw [Pr.fws, Pr.usess, List.foldl_append, ← Pr.fw_addN p cnt bd out h, Pr.fws_addN r cnt bd _ h]
end
theorem agree_zero : Agree (fun _ => 0) [] := fun y => ⟨Int.le_refl _, by simp⟩
/-- What the program finds is what the reference finds. -/
theorem Pr.free_uses (p : Pr) : p.free = (p.uses []).foldl addN [] := Pr.fw_addN p _ _ _ agree_zero

end Go.Proofs.YtjmnaibbljakaaaGreatDoor

/- Rows of structs that a call owns, and append of one to them. -/
namespace Go.Proofs.YtjmnaibbljakaaaGreatDoor
open Go.RowKit Go.Deep Go.Shelf

theorem flat_len {sz : Nat} : ∀ {rows : List (List Value)}, (∀ r ∈ rows, r.length = sz) → rows.flatten.length = rows.length * sz
  | [], _ => by simp
  | x :: r, h => by
    rw [List.flatten_cons, List.length_append, h x (by simp), flat_len (fun y hy => h y (by simp [hy])), List.length_cons, Nat.succ_mul]; omega
theorem flat_get {sz : Nat} : ∀ (rows : List (List Value)), (∀ r ∈ rows, r.length = sz) → ∀ (j i : Nat) (r : List Value), rows[j]? = some r → i < sz → rows.flatten[j * sz + i]? = r[i]?
  | [], _, j, i, r, h, _ => by simp at h
  | x :: l, hl, 0, i, r, h, hi => by
    simp at h; subst h
    rw [List.flatten_cons, Nat.zero_mul, Nat.zero_add, List.getElem?_append_left (by rw [hl x (by simp)]; exact hi)]
  | x :: l, hl, j + 1, i, r, h, hi => by
    rw [List.flatten_cons, List.getElem?_append_right (by rw [hl x (by simp), Nat.succ_mul]; omega), hl x (by simp), show (j + 1) * sz + i - sz = j * sz + i by rw [Nat.succ_mul]; omega]
    exact flat_get l (fun y hy => hl y (by simp [hy])) j i r (by simpa using h) hi

/-- Rows of sz cells each in a block of the call's own. -/
structure KRow (base : Nat) (e : TypeId) (sz : Nat) (W : World) (v : Value) (rows : List (List Value)) : Prop where
  own : W.ownsRow base e sz v rows.length rows.flatten
  len : ∀ r ∈ rows, r.length = sz
section
variable {base : Nat} {e : TypeId} {sz : Nat} {W W' : World} {v : Value} {rows : List (List Value)}
theorem KRow.nil (base : Nat) (e : TypeId) (sz : Nat) (W : World) : KRow base e sz W (.slice none 0 0) [] := ⟨World.ownsRow_nil _ _ _ _, fun r h => by cases h⟩
theorem KRow.lt (h : KRow base e sz W v rows) : ∀ k, v.ownBlock = some k → base ≤ k ∧ k < W.heap.size := h.own.lt
theorem KRow.kept (h : KRow base e sz W v rows) (hb : ∀ k, v.ownBlock = some k → W'.heap[k]? = W.heap[k]?) : KRow base e sz W' v rows := by
  refine ⟨⟨h.own.1, ?_⟩, h.len⟩
  rcases h.own.2 with h0 | ⟨g, cap, cur, rfl, hbg, hg, r⟩
  · exact .inl h0
  · exact .inr ⟨g, cap, cur, rfl, hbg, (hb g rfl).trans hg, r⟩
theorem KRow.slice (h : KRow base e sz W v rows) : ∃ a m c, v = .slice a m c := by
  rcases h.own.2 with ⟨rfl, _⟩ | ⟨g, cap, cur, rfl, _⟩
  · exact ⟨_, _, _, rfl⟩
  · exact ⟨_, _, _, rfl⟩
theorem KRow.parts (h : KRow base e sz W v rows) : (∃ a c, v = .slice a 0 c) ∧ rows = [] ∨ ∃ g c, v = .slice (some ⟨g, 0, none⟩) rows.length c ∧ base ≤ g ∧ g < W.heap.size ∧ ∀ (j i : Nat) (r : List Value) (u : Value), rows[j]? = some r → r[i]? = some u → W.cell? ⟨g, j * sz + i, none⟩ = some u := by
  rcases h.own.2 with ⟨rfl, h0⟩ | ⟨g, cap, cur, rfl, hbg, hg, r⟩
  · exact .inl ⟨⟨_, _, rfl⟩, List.length_eq_zero_iff.1 h0⟩
  · refine .inr ⟨g, cap, rfl, hbg, (Array.getElem?_eq_some_iff.1 hg).1, fun j i x u hj hi => ?_⟩
    have hx := h.len x (List.mem_of_getElem? hj)
    have hi' : i < sz := by have := (List.getElem?_eq_some_iff.1 hi).1; omega
    have hjl : j < rows.length := (List.getElem?_eq_some_iff.1 hj).1
    have hlt : j * sz + i < rows.length * sz := by
      have : (j + 1) * sz ≤ rows.length * sz := Nat.mul_le_mul_right _ hjl
      rw [Nat.succ_mul] at this; omega
    rw [World.ownsRow.cellAt h.own (j * sz + i) hlt, flat_get rows h.len j i x hj hi']
    exact hi

/-- append of one struct. -/
theorem run_appK (t ty : TypeId) {i : TypeInfo} {z : Value} {bytes : Nat} (ht : Tryz.prog.underlying t = some (.slice e)) (hi : Tryz.prog.info? e = some i) (hz : i.zero = some z) (hsize : i.size = sz) (hby : i.bytes = bytes) (hzs : z.cells.size = sz) (hsz : 0 < sz)
    (hown : KRow base e sz W v rows) (b cp : Nat) (row : List Value) (hrl : row.length = sz) (hsrc : ∀ (j : Nat) (u : Value), row[j]? = some u → W.cell? ⟨b, j, none⟩ = some u) (hone : ∀ u ∈ row, u.oneCell' = true) (h63 : rows.length + 1 ≤ maxLen) (hbytes : (rows.length + 1) * bytes ≤ 140737488355328) (hbase : base ≤ W.heap.size) :
    ∃ ga gn gc w', (Builtin.append_ #[t, t] ty #[v, .slice (some ⟨b, 0, none⟩) 1 cp]).run Tryz.prog W = .ok (.slice ga gn gc) w' ∧ KRow base e sz w' (.slice ga gn gc) (rows ++ [row]) ∧ W.grownBy w' v.ownBlock ∧ ((Value.slice ga gn gc).ownBlock = v.ownBlock ∨ (Value.slice ga gn gc).ownBlock = some W.heap.size) := by
  obtain ⟨v', w', hr, h2, h3, h4, h5⟩ := run_append_own_at (P := Tryz.prog) W base t ty e i z sz bytes ht hi hz hsize hby hzs hsz v rows.length rows.flatten hown.own ⟨b, 0, none⟩ 1 cp row (by rw [hrl]; omega) (fun j u hj => by rw [addr_add0, Nat.zero_add]; exact hsrc j u hj) hone h63 hbytes hbase
  have h2' : KRow base e sz w' v' (rows ++ [row]) := ⟨by rw [List.length_append, List.flatten_append]; simpa using h2, fun r hm => by
    rcases List.mem_append.1 hm with hm | hm
    · exact hown.len r hm
    · rw [List.mem_singleton.1 hm]; exact hrl⟩
  obtain ⟨ga, gn, gc, rfl⟩ := h2'.slice
  exact ⟨_, _, _, w', hr, h2', h3, h5⟩
/-- .. at a step of a region that draws its order. -/
theorem step_appK {ops : Array Oper} {o : Oper} {a : Act} {K : Act → World → Prop} {Q : Exit → Act → World → Prop} {E : Prop} (hgd : o.guard = none) (s x : Operand) (t : TypeId)
    (ho : o.op = .call { callee := .builtin .append, args := #[s, x], argTypes := #[t, t] }) {i : TypeInfo} {z : Value} {bytes : Nat} (ht : Tryz.prog.underlying t = some (.slice e)) (hi : Tryz.prog.info? e = some i) (hz : i.zero = some z) (hsize : i.size = sz) (hby : i.bytes = bytes) (hzs : z.cells.size = sz) (hsz : 0 < sz)
    (hs : a.eval s = v) (hown : KRow base e sz W v rows) (b cp : Nat) (row : List Value) (hx : a.eval x = .slice (some ⟨b, 0, none⟩) 1 cp) (hrl : row.length = sz) (hsrc : ∀ (j : Nat) (u : Value), row[j]? = some u → W.cell? ⟨b, j, none⟩ = some u) (hone : ∀ u ∈ row, u.oneCell' = true) (h63 : rows.length + 1 ≤ maxLen) (hbytes : (rows.length + 1) * bytes ≤ 140737488355328) (hbase : base ≤ W.heap.size)
    (h : ∀ ga gn gc w', KRow base e sz w' (.slice ga gn gc) (rows ++ [row]) → W.grownBy w' v.ownBlock → ((Value.slice ga gn gc).ownBlock = v.ownBlock ∨ (Value.slice ga gn gc).ownBlock = some W.heap.size) → K (a.put o.dst (.slice ga gn gc)) w') :
    if Region.wanted o (yielded ops a.tmps) = true then Oper.wp Tryz.prog o a W K Q else E := by
  have hw : Region.wanted o (yielded ops a.tmps) = true := by simp [Region.wanted, hgd]
  rw [if_pos hw]
  obtain ⟨ga, gn, gc, w', hr, h2, h3, h4⟩ := run_appK t o.type ht hi hz hsize hby hzs hsz hown b cp row hrl hsrc hone h63 hbytes hbase
  unfold Oper.wp execOp
  simp only [ho, resolve, invoke, builtin, Sem.run_bind, Sem.run_pure, Result.andThen_ok, List.map_toArray, List.map_cons, List.map_nil, hs, hx, hr]
  exact h ga gn gc w' h2 h3 h4
end

/-! ### Kids in such rows -/
/-- A relation on cells and what they are, which other blocks don't matter to. -/
structure Lawful {α : Type} (Good : (Nat → Prop) → World → List Value → α → Prop) : Prop where
  keep : ∀ {B : Nat → Prop} {w w' : World} {r : List Value} {g : α}, Keeps B w w' → Good B w r g → Good B w' r g
  mono : ∀ {B C : Nat → Prop} {w : World} {r : List Value} {g : α}, (∀ k, B k → C k) → Good B w r g → Good C w r g
structure Kids {α : Type} (e : TypeId) (sz : Nat) (Good : (Nat → Prop) → World → List Value → α → Prop) (m : Nat) (w : World) (v : Value) (rows : List (List Value)) (gs : List α) : Prop where
  row : KRow m e sz w v rows
  len : rows.length = gs.length
  each : ∀ (i : Nat) (g : α), gs[i]? = some g → ∃ r, rows[i]? = some r ∧ Good (fun k => Fresh m w.heap.size k ∧ some k ≠ v.ownBlock) w r g
section
variable {α : Type} {e : TypeId} {sz : Nat} {Good : (Nat → Prop) → World → List Value → α → Prop} {m : Nat} {w w' : World} {v v' : Value} {rows : List (List Value)} {gs : List α}
theorem Kids.nil (w : World) : Kids e sz Good m w (.slice none 0 0) [] [] := ⟨KRow.nil _ _ _ _, rfl, fun i g h => by simp at h⟩
theorem Kids.keep (hL : Lawful Good) (h : Kids e sz Good m w v rows gs) (hs : w.heap.size ≤ w'.heap.size) (hb : ∀ k, m ≤ k → k < w.heap.size → w'.heap[k]? = w.heap[k]?) : Kids e sz Good m w' v rows gs := by
  refine ⟨h.row.kept (fun k hk => hb k (h.row.lt k hk).1 (h.row.lt k hk).2), h.len, fun i g hi => ?_⟩
  obtain ⟨r, h1, h2⟩ := h.each i g hi
  have hk : Keeps (fun k => Fresh m w.heap.size k ∧ some k ≠ v.ownBlock) w w' := fun k o hk ho _ => (hb k hk.1.1 hk.1.2).trans ho
  exact ⟨r, h1, hL.mono (fun k hk => ⟨⟨hk.1.1, Nat.lt_of_lt_of_le hk.1.2 hs⟩, hk.2⟩) (hL.keep hk h2)⟩
theorem Kids.to (hL : Lawful Good) (h : Kids e sz Good m w v rows gs) (hb : Below w.heap.size w w') : Kids e sz Good m w' v rows gs := h.keep hL hb.size (fun k _ hk => hb.block k hk)
theorem Kids.set (hL : Lawful Good) (h : Kids e sz Good m w v rows gs) {c o : Nat} (hc : c < m) (u : Value) : Kids e sz Good m (w.setCell ⟨c, o, none⟩ u) v rows gs := h.keep hL (by simp) (fun k hk _ => Below.heap_setCell _ _ _ k (by simp; omega))
theorem Kids.more (hL : Lawful Good) (h : Kids e sz Good m w v rows gs) {r : List Value} {g : α} (hg : Good (fun k => Fresh m w.heap.size k ∧ some k ≠ v.ownBlock) w r g)
    (hr : KRow m e sz w' v' (rows ++ [r])) (hb : w.grownBy w' v.ownBlock) (ho : v'.ownBlock = v.ownBlock ∨ v'.ownBlock = some w.heap.size) : Kids e sz Good m w' v' (rows ++ [r]) (gs ++ [g]) := by
  have hk : Keeps (fun k => Fresh m w.heap.size k ∧ some k ≠ v.ownBlock) w w' := fun k o hk ho _ => (hb.block k hk.1.2 hk.2).trans ho
  have hm : ∀ k, Fresh m w.heap.size k ∧ some k ≠ v.ownBlock → Fresh m w'.heap.size k ∧ some k ≠ v'.ownBlock := fun k hk => ⟨⟨hk.1.1, Nat.lt_of_lt_of_le hk.1.2 hb.size⟩, fun e => by
    rcases ho with ho | ho
    · exact hk.2 (by rw [← ho]; exact e)
    · rw [ho] at e; injection e with e; have := hk.1.2; omega⟩
  refine ⟨hr, by rw [List.length_append, List.length_append, h.len]; rfl, fun i g' hi => ?_⟩
  by_cases hlt : i < gs.length
  · rw [List.getElem?_append_left hlt] at hi
    obtain ⟨r', h1, h2⟩ := h.each i g' hi
    exact ⟨r', by rw [List.getElem?_append_left (by rw [h.len]; exact hlt)]; exact h1, hL.mono hm (hL.keep hk h2)⟩
  · have hi' : i = gs.length := by have := (List.getElem?_eq_some_iff.1 hi).1; simp at this; omega
    subst hi'
    rw [List.getElem?_append_right (Nat.le_refl _), Nat.sub_self] at hi
    simp at hi
    subst hi
    exact ⟨r, by rw [← h.len, List.getElem?_append_right (Nat.le_refl _), Nat.sub_self]; rfl, hL.mono hm (hL.keep hk hg)⟩
end

/-- The next kid: it was made behind wr, lies in a block of its own, and is appended. -/
theorem step_kid {ops : Array Oper} {o : Oper} {a : Act} {K : Act → World → Prop} {Q : Exit → Act → World → Prop} {E : Prop} {α : Type} {e : TypeId} {sz : Nat} {Good : (Nat → Prop) → World → List Value → α → Prop} {m : Nat} {wr w5 W : World} {v : Value} {rows : List (List Value)} {gs : List α} (hgd : o.guard = none) (s x : Operand) (t : TypeId)
    (ho : o.op = .call { callee := .builtin .append, args := #[s, x], argTypes := #[t, t] }) {i : TypeInfo} {z : Value} {bytes : Nat} (ht : Tryz.prog.underlying t = some (.slice e)) (hi : Tryz.prog.info? e = some i) (hz : i.zero = some z) (hsize : i.size = sz) (hby : i.bytes = bytes) (hzs : z.cells.size = sz) (hsz : 0 < sz)
    (hL : Lawful Good) (hKD : Kids e sz Good m wr v rows gs) (hm : m ≤ wr.heap.size) (h5 : Below wr.heap.size wr w5) (hs : a.eval s = v) (b : Nat) (row : List Value) (cp : Nat) (hx : a.eval x = .slice (some ⟨b, 0, none⟩) 1 cp) (hW : Below w5.heap.size w5 W) (et : TypeId) (hb : W.heap[b]? = some (.cells row.toArray et (0, 0))) (hrl : row.length = sz) (hone : ∀ u ∈ row, u.oneCell' = true) (hlen : gs.length + 1 ≤ 1048577) (hbb : bytes ≤ 1000) (g : α) (hg : Good (Fresh wr.heap.size w5.heap.size) w5 row g)
    (h : ∀ ga gn gc w6 rows', Kids e sz Good m w6 (.slice ga gn gc) rows' (gs ++ [g]) → Below m wr w6 → K (a.put o.dst (.slice ga gn gc)) w6) :
    if Region.wanted o (yielded ops a.tmps) = true then Oper.wp Tryz.prog o a W K Q else E := by
  have hbr : Below wr.heap.size wr W := below_seq h5 hW
  have hKW := hKD.to hL hbr
  have hlen' : rows.length + 1 ≤ 1048577 := by rw [hKD.len]; exact hlen
  refine step_appK hgd s x t ho ht hi hz hsize hby hzs hsz hs hKW.row b cp row hx hrl (fun j u hj => ?_) hone (by unfold maxLen; omega) ?_ (Nat.le_trans hm hbr.size) ?_
  · simp only [World.cell?, hb]
    simpa using hj
  · exact Nat.le_trans (Nat.mul_le_mul hlen' hbb) (by decide)
  · intro ga gn gc w6 hr6 hg6 ho6
    refine h ga gn gc w6 _ (Kids.more hL hKW ?_ hr6 hg6 ho6) ((hbr.mono hm).grown hg6 (Nat.le_trans hm hbr.size) (fun k hk => (hKD.row.lt k hk).1))
    refine hL.mono (fun k hk => ⟨⟨Nat.le_trans hm hk.1, Nat.lt_of_lt_of_le hk.2 hW.size⟩, fun e => ?_⟩) (hL.keep (hW.keeps'.mono (fun k hk => hk.2)) hg)
    have := (hKD.row.lt k e.symm).2
    have := hk.1
    omega
theorem heapN (V : World) (o : Obj) (b : Nat) (h : b = V.heap.size) : (V.alloc o).heap[b]? = some o := by subst h; exact World.alloc_heap_new _ _
theorem heapD (W : World) (b : Nat) : W.drew.heap[b]? = W.heap[b]? := rfl

/-- The six cells of a type. -/
def GoodT (B : Nat → Prop) (w : World) (r : List Value) (g : Ty) : Prop := ∃ la ln lc ka kn kc, r = [.int .i64 g.k, .int .i64 g.p, .string g.n, .int .i64 g.s, .slice la ln lc, .slice ka kn kc] ∧ TyVal B w (.agg #[.int .i64 g.k, .int .i64 g.p, .string g.n, .int .i64 g.s, .slice la ln lc, .slice ka kn kc]) g
theorem goodT : Lawful GoodT := ⟨fun h ⟨la, ln, lc, ka, kn, kc, e, hv⟩ => ⟨la, ln, lc, ka, kn, kc, e, hv.keep h⟩, fun h ⟨la, ln, lc, ka, kn, kc, e, hv⟩ => ⟨la, ln, lc, ka, kn, kc, e, hv.mono h⟩⟩
/-- The twelve cells of a process. -/
def GoodP (B : Nat → Prop) (w : World) (r : List Value) (p : Pr) : Prop := ∃ la ln lc aa an ac ta tn tc ua un uc ka kn kc, r = prCellsL p (.slice la ln lc) (.slice aa an ac) (.slice ta tn tc) (.slice ua un uc) (.slice ka kn kc) ∧ PrVal B w (prAgg p (.slice la ln lc) (.slice aa an ac) (.slice ta tn tc) (.slice ua un uc) (.slice ka kn kc)) p
theorem goodP : Lawful GoodP := ⟨fun h ⟨la, ln, lc, aa, an, ac, ta, tn, tc, ua, un, uc, ka, kn, kc, e, hv⟩ => ⟨la, ln, lc, aa, an, ac, ta, tn, tc, ua, un, uc, ka, kn, kc, e, hv.keep h⟩, fun h ⟨la, ln, lc, aa, an, ac, ta, tn, tc, ua, un, uc, ka, kn, kc, e, hv⟩ => ⟨la, ln, lc, aa, an, ac, ta, tn, tc, ua, un, uc, ka, kn, kc, e, hv.mono h⟩⟩
theorem Kids.tys {m : Nat} {w : World} {v : Value} {rows : List (List Value)} {gs : List Ty} (h : Kids 25 6 GoodT m w v rows gs) (hm : gs.length ≤ maxLen) : TySl (Fresh m w.heap.size) w v gs := by
  refine ⟨?_, hm⟩
  rcases h.row.parts with ⟨h1, h2⟩ | ⟨g, c, rfl, hg, hlt, hc⟩
  · refine .inl ⟨h1, ?_⟩
    have := h.len
    rw [h2] at this
    exact List.length_eq_zero_iff.1 this.symm
  · refine .inr ⟨g, 0, c, by rw [h.len], ⟨hg, hlt⟩, tysAt_of (fun i t hi => ?_)⟩
    obtain ⟨r, h1, la, ln, lc, ka, kn, kc, rfl, hv⟩ := h.each i t hi
    rw [Nat.zero_add]
    exact tyAt_of ⟨hg, hlt⟩ (hc i 0 _ _ h1 rfl) (hc i 1 _ _ h1 rfl) (hc i 2 _ _ h1 rfl) (hc i 3 _ _ h1 rfl) (hc i 4 _ _ h1 rfl) (hc i 5 _ _ h1 rfl) (hv.mono (fun k hk => hk.1))
end Go.Proofs.YtjmnaibbljakaaaGreatDoor

/- Types and processes: how long their lists are in all. -/
namespace Go.Proofs.YtjmnaibbljakaaaGreatDoor
open Go.RowKit Go.Deep

mutual
/-- The lengths of all lists of texts in a type. -/
def Ty.lens : Ty → Nat
  | .mk _ _ _ _ ls ts => ls.length + Ty.lenss ts
def Ty.lenss : List Ty → Nat
  | [] => 0
  | t :: r => t.lens + Ty.lenss r
end
mutual
/-- The lengths of all lists of texts and of values in a process. -/
def Pr.lens : Pr → Nat
  | .mk _ _ _ ls vs t ps => ls.length + vs.length + t.lens + Pr.lenss ps
def Pr.lenss : List Pr → Nat
  | [] => 0
  | p :: r => p.lens + Pr.lenss r
end
mutual
theorem Ty.modc_of : ∀ t : Ty, t.size ≤ 1048576 → t.lens ≤ 400000000 → t.modc
  | .mk k p n s ls ts, hs, hl => by
    rw [Ty.size_eq] at hs
    simp only [Ty.ts] at hs
    simp only [Ty.lens] at hl
    simp only [Ty.modc]
    have := Ty.len_sizes ts
    exact ⟨by omega, by omega, Ty.modcs_of ts (by omega) (by omega)⟩
theorem Ty.modcs_of : ∀ ts : List Ty, Ty.sizes ts ≤ 1048576 → Ty.lenss ts ≤ 400000000 → Ty.modcs ts
  | [], _, _ => by simp only [Ty.modcs]
  | t :: r, hs, hl => by
    simp only [Ty.sizes] at hs
    simp only [Ty.lenss] at hl
    simp only [Ty.modcs]
    exact ⟨Ty.modc_of t (by omega) (by omega), Ty.modcs_of r (by omega) (by omega)⟩
theorem Ty.len_sizes : ∀ ts : List Ty, ts.length ≤ Ty.sizes ts
  | [] => by simp [Ty.sizes]
  | t :: r => by
    have := Ty.len_sizes r
    have h : 1 ≤ t.size := by rw [Ty.size_eq]; omega
    simp only [List.length_cons, Ty.sizes]; omega
end
theorem Pr.len_sizes : ∀ ps : List Pr, ps.length ≤ Pr.sizes ps
  | [] => by simp [Pr.sizes]
  | p :: r => by
    have := Pr.len_sizes r
    have h : 1 ≤ p.size := by rw [Pr.size_eq]; omega
    simp only [List.length_cons, Pr.sizes]; omega
mutual
theorem Pr.mod_of : ∀ p : Pr, p.tf → p.size ≤ 65536 → p.lens ≤ 400000000 → p.mod
  | .mk k c x ls vs t ps, htf, hs, hl => by
    rw [Pr.size_eq] at hs
    simp only [Pr.ps] at hs
    simp only [Pr.lens] at hl
    simp only [Pr.tf] at htf
    simp only [Pr.mod]
    have := Pr.len_sizes ps
    have h3 := (few_size htf.1).1
    exact ⟨by omega, by omega, by omega, Ty.modc_of t (by omega) (by omega), Pr.mods_of ps htf.2 (by omega) (by omega)⟩
theorem Pr.mods_of : ∀ ps : List Pr, Pr.tfs ps → Pr.sizes ps ≤ 65536 → Pr.lenss ps ≤ 400000000 → Pr.mods ps
  | [], _, _, _ => by simp only [Pr.mods]
  | p :: r, htf, hs, hl => by
    simp only [Pr.tfs] at htf
    simp only [Pr.sizes] at hs
    simp only [Pr.lenss] at hl
    simp only [Pr.mods]
    exact ⟨Pr.mod_of p htf.1 (by omega) (by omega), Pr.mods_of r htf.2 (by omega) (by omega)⟩
end

mutual
/-- All priorities are numbers of 64 bits. -/
def Ty.pin : Ty → Prop
  | .mk _ p _ _ _ ts => In64 p ∧ Ty.pins ts
def Ty.pins : List Ty → Prop
  | [] => True
  | t :: r => t.pin ∧ Ty.pins r
end
mutual
def Pr.pin : Pr → Prop
  | .mk _ _ _ _ _ t ps => t.pin ∧ Pr.pins ps
def Pr.pins : List Pr → Prop
  | [] => True
  | p :: r => p.pin ∧ Pr.pins r
end
theorem Ty.pins_of : ∀ l : List Ty, (∀ u ∈ l, u.pin) → Ty.pins l
  | [], _ => by simp only [Ty.pins]
  | u :: r, h => by simp only [Ty.pins]; exact ⟨h u (by simp), Ty.pins_of r (fun y hy => h y (by simp [hy]))⟩
theorem Pr.pins_of : ∀ l : List Pr, (∀ u ∈ l, u.pin) → Pr.pins l
  | [], _ => by simp only [Pr.pins]
  | u :: r, h => by simp only [Pr.pins]; exact ⟨h u (by simp), Pr.pins_of r (fun y hy => h y (by simp [hy]))⟩
theorem Ty.pins_mem : ∀ {l : List Ty}, Ty.pins l → ∀ u ∈ l, u.pin
  | [], _, _, hu => by cases hu
  | x :: r, h, u, hu => by
    simp only [Ty.pins] at h
    rcases List.mem_cons.1 hu with rfl | hu
    · exact h.1
    · exact Ty.pins_mem h.2 u hu
theorem Pr.pins_mem : ∀ {l : List Pr}, Pr.pins l → ∀ u ∈ l, u.pin
  | [], _, _, hu => by cases hu
  | x :: r, h, u, hu => by
    simp only [Pr.pins] at h
    rcases List.mem_cons.1 hu with rfl | hu
    · exact h.1
    · exact Pr.pins_mem h.2 u hu

end Go.Proofs.YtjmnaibbljakaaaGreatDoor
