/- Types: the reference's labels and shapes. (and what follows from it) -/
import Derived.Test.YtmedijheidbmhaaDoorTyQ
import Derived.Deep.RegionHeld3
import Derived.Deep.RegionHeldLaw
import Derived.Deep.AppendLies
import Derived.Maps.OwnSet
import Derived.Maps.OwnOps

/- Types: the reference's labels and shapes. -/
namespace Go.Proofs.YtmedijheidbmhaaDoor
open Go.RowKit

/-- Is a text in a list? -/
def memB (s : ByteArray) (ls : List ByteArray) : Bool := ls.any fun x => decide (x = s)
theorem memB_true {s : ByteArray} {ls : List ByteArray} : memB s ls = true ↔ s ∈ ls := by
  unfold memB
  rw [List.any_eq_true]
  exact ⟨fun ⟨x, hx, he⟩ => by rw [← of_decide_eq_true he]; exact hx, fun h => ⟨s, h, by simp⟩⟩
theorem memB_false {s : ByteArray} {ls : List ByteArray} (h : s ∉ ls) : memB s ls = false := by
  cases e : memB s ls with
  | false => rfl
  | true => exact absurd (memB_true.1 e) h

/-- Labels are names and different. -/
def labelsB (ls : List ByteArray) : Bool := ls.all nameB && decide ls.Nodup
theorem labelsB_snoc (l : List ByteArray) (s : ByteArray) : labelsB (l ++ [s]) = (labelsB l && (nameB s && !memB s l)) := by
  unfold labelsB
  rw [Bool.eq_iff_iff]
  have hm : (!memB s l) = true ↔ s ∉ l := by
    rw [Bool.not_eq_true', ← Bool.not_eq_true, memB_true]
  simp only [List.all_append, List.all_cons, List.all_nil, Bool.and_true, Bool.and_eq_true, decide_eq_true_eq, List.nodup_append, List.nodup_cons, List.not_mem_nil, not_false_iff, List.nodup_nil, and_true, List.mem_singleton, hm]
  constructor
  · rintro ⟨⟨h1, h2⟩, h3, h4⟩
    exact ⟨⟨h1, h3⟩, h2, fun h => h4.2 s h s rfl rfl⟩
  · rintro ⟨⟨h1, h2⟩, h3, h4⟩
    exact ⟨⟨h1, h3⟩, h2, trivial, fun a ha b hb e => h4 (by rw [← hb, ← e]; exact ha)⟩
theorem labelsB_prefix {l : List ByteArray} {j : Nat} (h : labelsB (l.take j) = false) : labelsB l = false := by
  unfold labelsB at h ⊢
  rw [Bool.and_eq_false_iff] at h ⊢
  rcases h with h | h
  · left
    rw [List.all_eq_false] at h ⊢
    obtain ⟨x, hx, hn⟩ := h
    exact ⟨x, List.mem_of_mem_take hx, hn⟩
  · right
    simp only [decide_eq_false_iff_not] at h ⊢
    exact fun hn => h (hn.sublist (List.take_sublist _ _))

end Go.Proofs.YtmedijheidbmhaaDoor

/- Types: the reference's shape. -/
namespace Go.Proofs.YtmedijheidbmhaaDoor
open Go.RowKit

def prioB (n : Int) : Bool := decide (0 ≤ n) && decide (n ≤ 1000000)
/-- Has a node the fields of its kind? -/
def shapeC (k p s : Int) (n : ByteArray) (ls : List ByteArray) (m : Nat) : Bool :=
  if k = 1 ∨ k = 2 ∨ k = 3 then (p == 0) && (n.toList.isEmpty && ((s == 0) && (ls.isEmpty && decide (m = 0))))
  else if k = 4 ∨ k = 5 then prioB p && (n.toList.isEmpty && ((s == 0) && (ls.isEmpty && decide (m = 2))))
  else if k = 6 ∨ k = 7 then prioB p && (n.toList.isEmpty && ((s == 0) && (!ls.isEmpty && (labelsB ls && decide (m = ls.length)))))
  else if k = 8 then (p == 0) && (nameB n && ((s == 0) && (ls.isEmpty && decide (m = 1))))
  else if k = 9 then (p == 0) && (nameB n && (prioB s && (ls.isEmpty && decide (m = 0))))
  else false

end Go.Proofs.YtmedijheidbmhaaDoor

/- Types: right or not: both ways of asking agree (mathematics). -/
namespace Go.Proofs.YtmedijheidbmhaaDoor
open Go.RowKit

def sessK (k : Int) : Bool := k != 1 && k != 2
def Ty.shape (t : Ty) : Bool := shapeC t.k t.p t.s t.n t.ls t.ts.length

/-! ### The reference's way -/
def vR (names : List ByteArray) (g : Nat) (n : ByteArray) : Nat → Int
  | 0 => 4
  | i + 1 => if names[i]? = some n then (if i < g then 0 else 3) else vR names g n i
def varR (names : List ByteArray) (g : Nat) (n : ByteArray) : Int := vR names g n names.length
mutual
def nodeR (names : List ByteArray) (g : Nat) (se : Bool) : Ty → Int
  | .mk k p n s ls ts =>
    if shapeC k p s n ls ts.length = false ∨ (se = true ∧ sessK k = false) then 3
    else if k = 9 then varR names g n
    else if k = 8 then kidsR (names ++ [n]) g true 0 ts
    else kidsR names names.length (decide (5 < k)) 0 ts
def kidsR (names : List ByteArray) (g : Nat) (f : Bool) (i : Nat) : List Ty → Int
  | [] => 0
  | t :: r => if nodeR names g (f || decide (0 < i)) t = 0 then kidsR names g f (i + 1) r else nodeR names g (f || decide (0 < i)) t
end

/-! ### The program's way -/
/-- From the innermost node around outwards. -/
def vErr (n : ByteArray) : List Ty → Bool → Int
  | [], _ => 4
  | u :: r, g => if u.k = 8 ∧ u.n = n then (if g then 0 else 3) else vErr n r (g || actB u.k)
def paysK (k : Int) : Int := if k = 4 ∨ k = 5 then 1 else 0
def mayStandB (path : List Ty) (kid : Int) (k : Int) : Bool := sessK k || (match path.getLast? with | none => true | some u => decide (kid < paysK u.k))
def nodeErr (path : List Ty) (kid : Int) (t : Ty) : Int :=
  if t.shape = false ∨ mayStandB path kid t.k = false then 3 else if t.k = 9 then vErr t.n path.reverse false else 0
def firstE : List (List Ty × Int × Ty) → Int
  | [] => 0
  | x :: r => if nodeErr x.1 x.2.1 x.2.2 = 0 then firstE r else nodeErr x.1 x.2.1 x.2.2
theorem firstE_append (l r : List (List Ty × Int × Ty)) : firstE (l ++ r) = if firstE l = 0 then firstE r else firstE l := by
  induction l with
  | nil => simp [firstE]
  | cons x l ih =>
    simp only [List.cons_append, firstE, ih]
    by_cases h : nodeErr x.1 x.2.1 x.2.2 = 0
    · simp [h]
    · simp [h]

/-! ### They agree -/
/-- The names of the TRecs of a path, and how many of them an action follows. -/
def pathN (path : List Ty) : List ByteArray := (path.filter fun u => u.k == 8).map Ty.n
def pathG : List Ty → Nat → Nat → Nat
  | [], _, g => g
  | u :: r, m, g => if u.k = 8 then pathG r (m + 1) g else pathG r m m
def pathA (path : List Ty) : Nat := pathG path 0 0
theorem pathN_snoc (path : List Ty) (u : Ty) : pathN (path ++ [u]) = if u.k = 8 then pathN path ++ [u.n] else pathN path := by
  unfold pathN
  by_cases h : u.k = 8 <;> simp [List.filter_append, h]
theorem pathG_append (path : List Ty) (u : Ty) : ∀ m g, pathG (path ++ [u]) m g = if u.k = 8 then pathG path m g else m + (pathN path).length := by
  induction path with
  | nil => intro m g; by_cases h : u.k = 8 <;> simp [pathG, pathN, h]
  | cons v r ih =>
    intro m g
    rw [List.cons_append, pathG, pathG, ih, ih]
    by_cases hv : v.k = 8
    · have e : (pathN (v :: r)).length = (pathN r).length + 1 := by simp [pathN, hv]
      by_cases h : u.k = 8
      · simp [hv, h]
      · simp only [hv, h, if_true, if_false]; omega
    · have e : (pathN (v :: r)).length = (pathN r).length := by simp [pathN, hv]
      by_cases h : u.k = 8
      · simp [hv, h]
      · simp only [hv, h, if_false]; omega
theorem pathA_snoc (path : List Ty) (u : Ty) : pathA (path ++ [u]) = if u.k = 8 then pathA path else (pathN path).length := by
  unfold pathA; rw [pathG_append]; simp
theorem pathA_le (path : List Ty) : pathA path ≤ (pathN path).length := by
  rcases List.eq_nil_or_concat path with rfl | ⟨l, u, rfl⟩
  · simp [pathA, pathG]
  · have ih := pathA_le l
    rw [List.concat_eq_append, pathA_snoc, pathN_snoc]
    by_cases h : u.k = 8
    · simp only [h, if_true, List.length_append, List.length_cons, List.length_nil]; omega
    · simp [h]
termination_by path.length

theorem vR_prefix (l : List ByteArray) (x : ByteArray) (g : Nat) (n : ByteArray) : ∀ i, i ≤ l.length → vR (l ++ [x]) g n i = vR l g n i
  | 0, _ => rfl
  | i + 1, h => by rw [vR, vR, List.getElem?_append_left (by omega), vR_prefix l x g n i (by omega)]
theorem vR_snoc (l : List ByteArray) (x : ByteArray) (g : Nat) (n : ByteArray) : varR (l ++ [x]) g n = if x = n then (if l.length < g then 0 else 3) else varR l g n := by
  unfold varR
  rw [List.length_append, List.length_cons, List.length_nil, vR, List.getElem?_append_right (Nat.le_refl _), Nat.sub_self, vR_prefix l x g n _ (Nat.le_refl _)]
  by_cases h : x = n <;> simp [h]
theorem vR_all (l : List ByteArray) (n : ByteArray) : ∀ i g, i ≤ l.length → i ≤ g → vR l g n i = vR l i n i ∧ (vR l g n i = 0 ∨ vR l g n i = 4)
  | 0, g, _, _ => ⟨rfl, .inr rfl⟩
  | i + 1, g, h, hg => by
    have h1 := vR_all l n i g (by omega) (by omega)
    have h2 := vR_all l n i (i + 1) (by omega) (by omega)
    rw [vR, vR]
    by_cases e : l[i]? = some n
    · simp only [e, if_true]
      rw [if_pos (by omega), if_pos (by omega)]
      exact ⟨rfl, .inl rfl⟩
    · simp only [e, if_false]
      exact ⟨h1.1.trans h2.1.symm, h1.2⟩
/-- Nodes that stand around others are of the kinds that have Kids. -/
def Around (path : List Ty) : Prop := ∀ u ∈ path, u.k = 8 ∨ actB u.k = true
theorem vErr_true (n : ByteArray) : ∀ path : List Ty, vErr n path.reverse true = varR (pathN path) (pathN path).length n
  | path => by
    rcases List.eq_nil_or_concat path with rfl | ⟨l, u, rfl⟩
    · rfl
    · have ih := vErr_true n l
      rw [List.concat_eq_append, List.reverse_append, List.reverse_cons, List.reverse_nil, List.nil_append, List.singleton_append, vErr, pathN_snoc, Bool.true_or]
      by_cases h : u.k = 8
      · simp only [h, true_and, if_true]
        rw [vR_snoc, List.length_append, List.length_cons, List.length_nil]
        by_cases e : u.n = n
        · simp [e]
        · simp only [e, if_false, ih]
          unfold varR
          rw [(vR_all _ n _ (pathN l).length (Nat.le_refl _) (Nat.le_refl _)).1, ← (vR_all _ n _ ((pathN l).length + 0 + 1) (Nat.le_refl _) (by omega)).1]
      · simp only [h, false_and, if_false, ih]
termination_by path => path.length
theorem vErr_path (n : ByteArray) : ∀ path : List Ty, Around path → vErr n path.reverse false = varR (pathN path) (pathA path) n
  | path, ha => by
    rcases List.eq_nil_or_concat path with rfl | ⟨l, u, rfl⟩
    · rfl
    · rw [List.concat_eq_append] at ha ⊢
      have ih := vErr_path n l (fun v hv => ha v (by simp [hv]))
      rw [List.reverse_append, List.reverse_cons, List.reverse_nil, List.nil_append, List.singleton_append, vErr, pathN_snoc, pathA_snoc, Bool.false_or]
      by_cases h : u.k = 8
      · have hact : actB u.k = false := by rw [h]; rfl
        simp only [h, true_and, if_true]
        rw [vR_snoc]
        have := pathA_le l
        by_cases e : u.n = n
        · have hq : ¬ (pathN l).length < pathA l := by omega
          simp [e, hq]
        · simp only [e, if_false]; rw [show actB 8 = false from rfl, ih]
      · have hact : actB u.k = true := (ha u (by simp)).resolve_left h
        simp only [h, false_and, if_false, hact]
        exact vErr_true n l
termination_by path => path.length

theorem actB_iff (k : Int) : actB k = true ↔ k = 4 ∨ k = 5 ∨ k = 6 ∨ k = 7 := by
  unfold actB; simp; omega
/-- A node of the right shape that has Kids is of a kind that may stand around others. -/
theorem shape_around {t : Ty} (h : t.shape = true) (hk : t.ts ≠ []) : t.k = 8 ∨ actB t.k = true := by
  unfold Ty.shape shapeC at h
  have hm : t.ts.length ≠ 0 := fun e => hk (List.length_eq_zero_iff.1 e)
  rw [actB_iff]
  by_cases h1 : t.k = 1 ∨ t.k = 2 ∨ t.k = 3
  · rw [if_pos h1] at h; simp [hk] at h
  · rw [if_neg h1] at h
    by_cases h2 : t.k = 4 ∨ t.k = 5
    · omega
    · rw [if_neg h2] at h
      by_cases h3 : t.k = 6 ∨ t.k = 7
      · omega
      · rw [if_neg h3] at h
        by_cases h4 : t.k = 8
        · exact .inl h4
        · rw [if_neg h4] at h
          by_cases h5 : t.k = 9
          · rw [if_pos h5] at h; simp [hk] at h
          · rw [if_neg h5] at h; cases h

/-- Must the Kid at an index be a session type? -/
def needS (path : List Ty) (kid : Int) : Bool := match path.getLast? with | none => false | some u => !decide (kid < paysK u.k)
theorem mayStand_need (path : List Ty) (kid k : Int) : mayStandB path kid k = false ↔ (needS path kid = true ∧ sessK k = false) := by
  unfold mayStandB needS
  cases path.getLast? with
  | none => simp
  | some u => simp [and_comm]

theorem agree : ∀ (t : Ty) (path : List Ty) (kid : Int), Around path → firstE (preT path kid t) = nodeR (pathN path) (pathA path) (needS path kid) t := by
  refine Ty.ind ?_
  intro k p n s ls ts ih path kid hp
  rw [preT_eq, firstE]
  obtain ⟨t, ht⟩ : ∃ t, Ty.mk k p n s ls ts = t := ⟨_, rfl⟩
  have hts : ts = t.ts := by rw [← ht]; rfl
  have hR : nodeR (pathN path) (pathA path) (needS path kid) t = (if t.shape = false ∨ (needS path kid = true ∧ sessK t.k = false) then 3 else if t.k = 9 then varR (pathN path) (pathA path) t.n else if t.k = 8 then kidsR (pathN path ++ [t.n]) (pathA path) true 0 t.ts else kidsR (pathN path) (pathN path).length (decide (5 < t.k)) 0 t.ts) := by
    rw [← ht, nodeR]; rfl
  rw [ht, hR]
  simp only [nodeErr, mayStand_need]
  by_cases hbad : t.shape = false ∨ (needS path kid = true ∧ sessK t.k = false)
  · simp [hbad]
  · rw [if_neg hbad, if_neg hbad]
    have hsh : t.shape = true := by
      cases e : t.shape with
      | true => rfl
      | false => exact absurd (.inl e) hbad
    by_cases h9 : t.k = 9
    · rw [if_pos h9, if_pos h9, vErr_path t.n path hp]
      have h0 : t.ts = [] := by
        unfold Ty.shape shapeC at hsh
        rw [if_neg (by omega), if_neg (by omega), if_neg (by omega), if_neg (by omega), if_pos h9] at hsh
        simp at hsh
        exact hsh.2.2.2.2
      rw [h0]
      simp [preTs, firstE]
      intro h; exact h.symm
    · rw [if_neg h9, if_neg h9, if_pos rfl]
      have hkids : ∀ (l : List Ty) (i : Nat), (∀ u ∈ l, u ∈ ts) → l ≠ [] → firstE (preTs (path ++ [t]) i l) = kidsR (pathN (path ++ [t])) (pathA (path ++ [t])) (decide (5 < t.k)) i l := by
        intro l
        induction l with
        | nil => intro i _ h; exact absurd rfl h
        | cons u r ihl =>
          intro i hmem _
          have hne : t.ts ≠ [] := by rw [← hts]; intro e; have := hmem u (by simp); rw [e] at this; cases this
          have hA := shape_around hsh hne
          have har : Around (path ++ [t]) := fun v hv => by
            rcases List.mem_append.1 hv with hv | hv
            · exact hp v hv
            · simp at hv; rw [hv]; exact hA
          have hneed : needS (path ++ [t]) i = (decide (5 < t.k) || decide (0 < i)) := by
            unfold needS paysK
            rw [List.getLast?_append]
            simp only [List.getLast?_singleton, Option.some_or]
            rw [actB_iff] at hA
            by_cases h45 : t.k = 4 ∨ t.k = 5
            · rw [if_pos h45, show decide (5 < t.k) = false by simp; omega, Bool.false_or, Bool.eq_iff_iff]; simp; omega
            · rw [if_neg h45, show decide (5 < t.k) = true by simp; omega]; simp
          rw [preTs, firstE_append, kidsR, ih u (hmem u (by simp)) (path ++ [t]) i har, hneed]
          by_cases h0 : nodeR (pathN (path ++ [t])) (pathA (path ++ [t])) (decide (5 < t.k) || decide (0 < i)) u = 0
          · rw [if_pos h0, if_pos h0]
            cases r with
            | nil => rfl
            | cons v r => exact ihl (i + 1) (fun w hw => hmem w (by simp [hw])) (by simp)
          · rw [if_neg h0, if_neg h0]
      rw [← hts]
      by_cases hnil : ts = []
      · rw [hnil]; simp [preTs, firstE, kidsR]
      · have h := hkids ts 0 (fun _ h => h) hnil
        rw [show ((0 : Nat) : Int) = 0 from rfl] at h
        rw [h, pathN_snoc, pathA_snoc]
        by_cases h8 : t.k = 8
        · simp [h8]
        · simp [h8]

/-- What both return. -/
def rightE (t : Ty) : Int := if t.large then 2 else firstE (preT [] 0 t)
theorem rightE_eq (t : Ty) : rightE t = if t.large then 2 else nodeR [] 0 false t := by
  unfold rightE
  rw [agree t [] 0 (fun u hu => by cases hu)]
  rfl

end Go.Proofs.YtmedijheidbmhaaDoor

/- Types: the reference's walk over the nodes. -/
namespace Go.Proofs.YtmedijheidbmhaaDoor
open Go.RowKit

theorem kidsR_drop {names : List ByteArray} {g : Nat} {f : Bool} {ts : List Ty} {j : Nat} {t : Ty} (h : ts[j]? = some t) :
    kidsR names g f j (ts.drop j) = if nodeR names g (f || decide (0 < j)) t = 0 then kidsR names g f (j + 1) (ts.drop (j + 1)) else nodeR names g (f || decide (0 < j)) t := by
  have hj := (List.getElem?_eq_some_iff.1 h).1
  have e : ts.drop j = t :: ts.drop (j + 1) := by rw [List.drop_eq_getElem_cons hj]; congr 1; exact (List.getElem?_eq_some_iff.1 h).2
  rw [e, kidsR]
def box1 (w : World) (k p : Int) (n : ByteArray) (s : Int) (lv kv : Value) : World := w.alloc (.cells #[.int .i64 k, .int .i64 p, .string n, .int .i64 s, lv, kv] 27)
theorem box1_size (w : World) (k p : Int) (n : ByteArray) (s : Int) (lv kv : Value) : (box1 w k p n s lv kv).heap.size = w.heap.size + 1 := by simp [box1]

end Go.Proofs.YtmedijheidbmhaaDoor

/- Types: the reference's walk at a TRec. -/
namespace Go.Proofs.YtmedijheidbmhaaDoor
open Go.RowKit

theorem strInfo' : (Tryd.prog.info? 9).map (fun i => (i.zero, i.size, i.bytes)) = some (some (.string ⟨#[]⟩), 1, 16) := by kernel_rfl

theorem fresh_row (w0 : World) (base : Nat) (h : base ≤ w0.heap.size) : (w0.alloc (.cells #[] 9)).ownsRow base 9 1 (.slice (some ⟨w0.heap.size, 0, none⟩) 0 0) 0 [] :=
  ⟨rfl, .inr ⟨w0.heap.size, 0, #[], rfl, h, heap_alloc_new w0 _, Nat.le_refl _, by unfold maxLen; omega, rfl, rfl⟩⟩

theorem strSl_of_row {w : World} {base g n cap : Nat} {ls : List ByteArray} (h : w.ownsRow base 9 1 (.slice (some ⟨g, 0, none⟩) n cap) n (ls.map .string)) (hn : n ≤ 1000000) (hs : ∀ s ∈ ls, s.size ≤ maxLen) : StrSl (fun k => k < w.heap.size) w (.slice (some ⟨g, 0, none⟩) n cap) ls := by
  have hl := h.1
  simp only [List.length_map, Nat.mul_one] at hl
  subst hl
  rcases h.2 with ⟨h, _⟩ | ⟨g', cap', cur, hv, hb, hg, hnc, hcm, hcs, htake⟩
  · cases h
  · simp only [Value.slice.injEq, Option.some.injEq, Addr.mk.injEq, and_true, true_and] at hv
    obtain ⟨rfl, rfl⟩ := hv
    have hlt : g < w.heap.size := by
      rcases Nat.lt_or_ge g w.heap.size with hlt | hge
      · exact hlt
      · rw [Array.getElem?_eq_none hge] at hg; cases hg
    refine ⟨.inr ⟨g, 0, cap, rfl, hlt, hnc, fun j s hj => ?_⟩, by unfold maxLen; omega, hs⟩
    rw [Nat.zero_add, cell_of_row w g j cur 9 (0, 0) hg]
    have e : (ls.map Value.string)[j]? = some (.string s) := by rw [List.getElem?_map, hj]; rfl
    rw [← htake, Nat.mul_one, List.getElem?_take] at e
    split at e
    · simpa using e
    · cases e

theorem fresh_row' (w0 : World) (base b : Nat) (hb : b = w0.heap.size) (h : base ≤ w0.heap.size) : (w0.alloc (.cells #[] 9)).ownsRow base 9 1 (.slice (some ⟨b, 0, none⟩) 0 0) 0 [] := by
  subst hb; exact fresh_row w0 base h

theorem run_append_empty (base : Nat) (ty : TypeId) (b0 c0 n0 : Nat) (xs : List Value) (w : World) (hown : w.ownsRow base 9 1 (.slice (some ⟨b0, 0, none⟩) n0 c0) n0 xs) (a : Option Addr) (c : Nat) :
    (Builtin.append_ #[23, 23] ty #[.slice (some ⟨b0, 0, none⟩) n0 c0, .slice a 0 c]).run Tryd.prog w = .ok (.slice (some ⟨b0, 0, none⟩) n0 c0) w := by
  obtain ⟨i0, hi, hz0, hz1, hz2⟩ := info_parts strInfo'
  have ht := Tryd.underlying23
  rcases hown.2 with ⟨e, _⟩ | ⟨g, cap, cur, e, _, _, hnc, _⟩
  · cases e
  · simp only [Value.slice.injEq] at e
    obtain ⟨_, _, rfl⟩ := e
    cases a with
    | none => simp [Builtin.append_, run_underlying ht, sizeOf, typeInfo, hi, Builtin.lenOf, Builtin.firstCells, hnc, storeCells]
    | some ad => simp [Builtin.append_, run_underlying ht, sizeOf, typeInfo, hi, Builtin.lenOf, Builtin.firstCells, hnc, storeCells, loadCells, loadCellsFrom]

/-- append of a list of texts to a row of one's own. -/
theorem run_append_strs (base : Nat) (ty : TypeId) (b0 c0 n0 : Nat) (xs : List Value) (w : World) (hown : w.ownsRow base 9 1 (.slice (some ⟨b0, 0, none⟩) n0 c0) n0 xs) (B : Nat → Prop) (na : Option Addr) (nn nc : Nat) (names : List ByteArray) (hnv : StrSl B w (.slice na nn nc) names) (h63 : n0 + nn ≤ 1000000) (hbase : base ≤ w.heap.size) :
    ∃ g cap w', (Builtin.append_ #[23, 23] ty #[.slice (some ⟨b0, 0, none⟩) n0 c0, .slice na nn nc]).run Tryd.prog w = .ok (.slice (some ⟨g, 0, none⟩) (n0 + nn) cap) w' ∧ w'.ownsRow base 9 1 (.slice (some ⟨g, 0, none⟩) (n0 + nn) cap) (n0 + nn) (xs ++ names.map .string) ∧ w.grownBy w' (some b0) := by
  obtain ⟨i0, hi, hz0, hz1, hz2⟩ := info_parts strInfo'
  rcases hnv.1 with ⟨⟨a, c, e⟩, rfl⟩ | ⟨b, o, c, e, _, _, hrow⟩
  · cases e
    refine ⟨b0, c0, w, run_append_empty base ty b0 c0 n0 xs w hown na nc, by simpa using hown, ⟨rfl, rfl, rfl, Nat.le_refl _, fun _ _ _ => rfl⟩⟩
  · cases e
    obtain ⟨v', w', hr, h2, h3, h4, _⟩ := run_append_own_at (P := Tryd.prog) w base 23 ty 9 i0 _ 1 16 Tryd.underlying23 hi hz0 hz1 hz2 rfl (by decide) _ _ xs hown ⟨b, o, none⟩ names.length nc (names.map .string) (by simp) (fun j u hj => by
      rw [List.getElem?_map] at hj
      cases hx : names[j]? with
      | none => simp [hx] at hj
      | some x => simp [hx] at hj; subst hj; have hc := hrow j x hx; cases j with | zero => simpa [Addr.add] using hc | succ j => simpa [Addr.add] using hc) (fun u hu => by
      obtain ⟨x, _, rfl⟩ := List.mem_map.1 hu; rfl) (by unfold maxLen; omega) (by omega) hbase
    rcases h2.2 with ⟨rfl, h0⟩ | ⟨g, cap, cur, rfl, r⟩
    · have := h4.1 rfl
      cases this.1
    · exact ⟨g, cap, w', hr, h2, h3⟩

theorem step_append_strs {ops : Array Oper} {o : Oper} {a : Act} {w : World} {K : Act → World → Prop} {Q : Exit → Act → World → Prop} {E : Prop} (hgd : o.guard = none) (s x : Operand)
    (ho : o.op = .call { callee := .builtin .append, args := #[s, x], argTypes := #[23, 23] })
    (base b0 c0 n0 : Nat) (xs : List Value) (hs : a.eval s = .slice (some ⟨b0, 0, none⟩) n0 c0) (hown : w.ownsRow base 9 1 (.slice (some ⟨b0, 0, none⟩) n0 c0) n0 xs)
    (B : Nat → Prop) (na : Option Addr) (nn nc : Nat) (names : List ByteArray) (hx : a.eval x = .slice na nn nc) (hnv : StrSl B w (.slice na nn nc) names) (h63 : n0 + nn ≤ 1000000) (m : Nat) (zs : List Value) (hm : n0 + nn = m) (hz : xs ++ names.map .string = zs) (hbase : base ≤ w.heap.size)
    (h : ∀ g cap w', w'.ownsRow base 9 1 (.slice (some ⟨g, 0, none⟩) m cap) m zs → w.grownBy w' (some b0) → K (a.put o.dst (.slice (some ⟨g, 0, none⟩) m cap)) w') :
    if Region.wanted o (yielded ops a.tmps) = true then Oper.wp Tryd.prog o a w K Q else E := by
  subst hm hz
  have hw : Region.wanted o (yielded ops a.tmps) = true := by simp [Region.wanted, hgd]
  rw [if_pos hw]
  obtain ⟨g, cap, w', hr, h2, h3⟩ := run_append_strs base o.type b0 c0 n0 xs w hown B na nn nc names hnv h63 hbase
  unfold Oper.wp execOp
  simp only [ho, resolve, invoke, builtin, Sem.run_bind, Sem.run_pure, Result.andThen_ok, List.map_toArray, List.map_cons, List.map_nil, hs, hx, hr]
  exact h g cap w' h2 h3

theorem own_block {W : World} {base : Nat} {e : TypeId} {size : Nat} {g n cap : Nat} {xs : List Value} (h : W.ownsRow base e size (.slice (some ⟨g, 0, none⟩) n cap) n xs) : base ≤ g ∧ g < W.heap.size := by
  rcases h.2 with ⟨h, _⟩ | ⟨g', cap', cur, hv, hb, hg, _⟩
  · cases h
  · simp only [Value.slice.injEq, Option.some.injEq, Addr.mk.injEq, and_true, true_and] at hv
    obtain ⟨rfl, _⟩ := hv
    refine ⟨hb, ?_⟩
    rcases Nat.lt_or_ge g W.heap.size with hlt | hge
    · exact hlt
    · rw [Array.getElem?_eq_none hge] at hg; cases hg
theorem strSl_one {W : World} {b : Nat} {n : ByteArray} (h : W.cell? ⟨b, 0, none⟩ = some (.string n)) (hn : n.size ≤ maxLen) : StrSl (fun _ => True) W (.slice (some ⟨b, 0, none⟩) 1 1) [n] :=
  ⟨.inr ⟨b, 0, 1, rfl, trivial, Nat.le_refl _, fun j s hj => by
    cases j with
    | zero => simp at hj; subst hj; exact h
    | succ j => simp at hj⟩, by simp [maxLen], fun s hs => by simp at hs; subst hs; exact hn⟩
theorem kidsR_one (names : List ByteArray) (g : Nat) (t : Ty) : kidsR names g true 0 [t] = nodeR names g true t := by
  simp only [kidsR, Bool.true_or]
  split
  · next h => exact h.symm
  · rfl

end Go.Proofs.YtmedijheidbmhaaDoor

/- Types: the reference's Right. -/
namespace Go.Proofs.YtmedijheidbmhaaDoor
open Go.RowKit

end Go.Proofs.YtmedijheidbmhaaDoor

/- Types: the program's small checks. -/
namespace Go.Proofs.YtmedijheidbmhaaDoor
open Go.RowKit

def numB (n : Int) (has : Bool) : Bool := if has then prioB n else n == 0
set_option maxHeartbeats 400000 in
theorem numberFits_any (n : Int) (has : Bool) (w : World) : Calls Tryd.prog 88 #[.int .i64 n, .bool has] w fun e w' => e = .returned (.bool (numB n has)) ∧ w = w' := by
  cases has
  · go_enter Tryd.func88, Tryd.ntmps88
    go_wp2
    all_goals (go_ret; refine ⟨ret_bool ?_, rfl⟩; simp [numB])
  · go_enter Tryd.func88, Tryd.ntmps88
    go_wp2
    all_goals (go_ret; refine ⟨ret_bool ?_, rfl⟩; unfold numB prioB; rw [Bool.eq_iff_iff]; simp; try omega)

def namB (s : ByteArray) (has : Bool) : Bool := if has then nameB s else s.toList.isEmpty
set_option maxHeartbeats 400000 in
theorem nameFits_any (s : ByteArray) (has : Bool) (hs : s.size ≤ maxLen) (E : Nat) (w : World) (he : Env E w) : Calls Tryd.prog 89 #[.string s, .bool has] w fun e w' => e = .returned (.bool (namB s has)) ∧ w = w' := by
  cases has
  · go_enter Tryd.func89, Tryd.ntmps89
    go_wp2
    all_goals (go_ret; refine ⟨ret_bool ?_, rfl⟩; first | rfl | simp [namB])
  · go_enter Tryd.func89, Tryd.ntmps89
    go_wp2_with (go_at_call 44; refine (name_any s hs E _ he).mono ?_; rintro e w2 ⟨rfl, rfl⟩)
    go_ret
    exact ⟨rfl, rfl⟩

end Go.Proofs.YtmedijheidbmhaaDoor

/- Types: the program's differentNames. -/
namespace Go.Proofs.YtmedijheidbmhaaDoor
open Go.RowKit

theorem run_makeMap_hint (n : Int) (w : World) : (Instr.makeMap 67 (some (.int .i64 n))).run Tryd.prog w = .ok (.map (some w.heap.size)) (w.alloc (.map #[] 0)) := by
  have ht := Tryd.underlying67
  simp [Instr.makeMap, run_underlying ht, asInt, asIntOf]

theorem boolInfo' : (Tryd.prog.info? 4).map (fun i => (i.zero, i.size, i.bytes)) = some (some (.bool false), 1, 1) := by kernel_rfl
theorem zero_bool (w : World) : (zeroValue 4).run Tryd.prog w = .ok (.bool false) w := by
  obtain ⟨i0, hi, hz0, hz1, hz2⟩ := info_parts boolInfo'
  simp [zeroValue, typeInfo, hi, hz0]
set_option maxRecDepth 100000 in
theorem plainElem_bool_inv {v : Value} {b : Bool} {ps : List MemPlace} (h : plainElem (H := Unit) Tryd.prog 4 v = some (.lit (.bool b), ps)) : v = .bool b := by
  unfold plainElem at h
  rw [Tryd.underlying4] at h
  cases v <;> simp at h
  rw [h.1]

/-- A map that tells which texts have been seen. -/
def Seen (w : World) (b j : Nat) (l : List ByteArray) : Prop := ∃ D : DataW Unit, w.ownsMap Tryd.prog 9 (plainElem Tryd.prog 4) b j D ∧ ∀ s : ByteArray, D.atKey (.string s.data.toList) (.lit (.bool false)) = .lit (.bool (memB s l))
theorem Seen.look {w : World} {b j : Nat} {l : List ByteArray} (h : Seen w b j l) {s : ByteArray} (hs : s.size ≤ maxLen) : (Instr.lookup 67 (.map (some b)) (.string s) false).run Tryd.prog w = .ok (.bool (memB s l)) w := by
  obtain ⟨D, ho, hat⟩ := h
  obtain ⟨v, ps, hr, hv⟩ := ho.lookup (Maps.string_keyed Tryd.underlying9) Tryd.underlying67 (zero_bool w) (plainElem_bool Tryd.underlying4 false) (Go.WideMaps.keyOf_string_mk Tryd.underlying9 hs)
  rw [hat] at hv
  rw [hr, plainElem_bool_inv hv]
theorem Seen.put {w : World} {b j : Nat} {l : List ByteArray} (h : Seen w b j l) (hj : j < maxLen) {s : ByteArray} (hs : s.size ≤ maxLen) :
    ∃ w', (Instr.mapUpdate 67 (.map (some b)) (.string s) (.bool true)).run Tryd.prog w = .ok () w' ∧ Seen w' b (j + 1) (l ++ [s]) ∧ w.grownBy w' (some b) := by
  obtain ⟨D, ho, hat⟩ := h
  obtain ⟨w', hr, ho', ht⟩ := ho.store (Maps.string_keyed Tryd.underlying9) Tryd.underlying67 hj (Go.WideMaps.keyOf_string_mk Tryd.underlying9 hs) (plainElem_bool Tryd.underlying4 true)
  refine ⟨w', hr, ⟨_, ho', fun x => ?_⟩, ht.grown⟩
  by_cases e : x = s
  · subst e
    rw [Maps.atKey_put_same ho.isMap (by first | trivial | simp [WideAt.IsKeyLit])]
    have : memB x (l ++ [x]) = true := memB_true.2 (by simp)
    rw [this]
  · rw [Maps.atKey_put_other (fun h => e (by
      have := Lit.string.inj h
      cases x; cases s; simp at this; congr 1)), hat]
    unfold memB
    have e' : decide (s = x) = false := by simpa using fun h => e h.symm
    simp [e']

set_option maxHeartbeats 2000000 in
theorem differentNames_any (B : Nat → Prop) (v : Value) (ls : List ByteArray) (E : Nat) (w : World) (hB : Low B w) (he : Env E w) (h : StrSl B w v ls) :
    Calls Tryd.prog 93 #[v] w fun e w' => e = .returned (.bool (labelsB ls)) ∧ Below w.heap.size w w' := by
  have hsz := h.2
  obtain ⟨pa, len, c, rfl, hlen, hm, hget⟩ := h.open
  have HG := Lib.hid hget
  have HS := Lib.hid hsz
  clear hget h hsz
  have hmk := run_makeMap_hint
  go_enter Tryd.func93, Tryd.ntmps93
  go_wp2_with fail
  go_loopw [11] (fun i wr => ∃ (j : Nat), i = .int .i64 (j : Int) ∧ j ≤ len ∧ Hid (labelsB (ls.take j) = true) ∧ Hid (Seen wr w.heap.size j (ls.take j)) ∧ Below w.heap.size w wr) (fun i _ => len - (intOf i).toNat)
  case atStart => exact ⟨0, rfl, by omega, Lib.hid (by simp [labelsB]), Lib.hid ⟨_, World.ownsMap_made w _ _ _, fun s => rfl⟩, (Below.refl _ _).alloc (Nat.le_refl _) _⟩
  case round =>
    obtain ⟨j, rfl, hj, HT, HSE, hw⟩ := hrel
    by_cases hlt : j < len
    · obtain ⟨x, hx⟩ : ∃ x, ls[j]? = some x := ⟨_, List.getElem?_eq_getElem (by rw [← hlen.out]; exact hlt)⟩
      obtain ⟨hxs, kb, ko, rfl, hkb, hc⟩ := HG.out j x hx
      replace hc := (hw.cell (p := ⟨kb, ko + j, none⟩) (hB kb hkb)).trans hc
      have hj' : j < maxLen := by unfold maxLen; omega
      have hlk := HSE.out.look hxs
      have HE := Lib.hid (he.below (hw.mono he.size))
      have HX := Lib.hid hx
      cases hmb : memB x (ls.take j) with
      | true =>
        have hf : Hid (labelsB ls = false) := Lib.hid (labelsB_prefix (j := j + 1) (by rw [take_snoc_get HX.out, labelsB_snoc, hmb]; simp))
        rw [hmb] at hlk
        clear hx hmb
        go_wp2_with fail
        go_ret
        exact ⟨ret_bool hf.out.symm, hw⟩
      | false =>
        rw [hmb] at hlk
        have HNM := Lib.hid (name_any x hxs E wr HE.out)
        cases hn : nameB x with
        | false =>
          have hf : Hid (labelsB ls = false) := Lib.hid (labelsB_prefix (j := j + 1) (by rw [take_snoc_get HX.out, labelsB_snoc, hn]; simp))
          rw [hn] at HNM
          clear hx hmb hn
          go_wp2_with (go_at_call 44; refine HNM.out.mono ?_; rintro e w2 ⟨rfl, rfl⟩)
          go_ret
          exact ⟨ret_bool hf.out.symm, hw⟩
        | true =>
          have hf : Hid (labelsB (ls.take (j + 1)) = true) := Lib.hid (by rw [take_snoc_get HX.out, labelsB_snoc, hn, hmb, HT.out]; rfl)
          rw [hn] at HNM
          obtain ⟨w1, hup, hse1, hgr⟩ := HSE.out.put hj' hxs
          have hse2 : Hid (Seen w1 w.heap.size (j + 1) (ls.take (j + 1))) := Lib.hid (by rw [take_snoc_get HX.out]; exact hse1)
          have hw1 : Hid (Below w.heap.size w w1) := Lib.hid (hw.grown hgr hw.size (fun k e => by cases e; exact Nat.le_refl _))
          clear hx hmb hn hse1 hgr
          go_wp2_with (go_at_call 44; refine HNM.out.mono ?_; rintro e w2 ⟨rfl, rfl⟩)
          go_roundw
          case rel => exact ⟨j + 1, by go_num, by omega, hf, hse2, hw1.out⟩
          case measure => (simp [intOf]) <;> omega
    · obtain rfl : j = len := by omega
      have hn : labelsB ls = true := by have := HT.out; rwa [List.take_of_length_le (by rw [hlen.out]; exact Nat.le_refl _)] at this
      have HN := Lib.hid hn
      clear hn
      go_wp2_with fail
      go_ret
      exact ⟨ret_bool HN.out.symm, hw⟩

end Go.Proofs.YtmedijheidbmhaaDoor

/- Types: the program's listsFit and fits. -/
namespace Go.Proofs.YtmedijheidbmhaaDoor
open Go.RowKit

def listsB (labels : Bool) (kids : Int) (ls : List ByteArray) (m : Nat) : Bool :=
  if labels then (!ls.isEmpty && (decide (m = ls.length) && labelsB ls)) else (ls.isEmpty && decide ((m : Int) = kids))

set_option maxHeartbeats 2000000 in
theorem listsFit_any (B : Nat → Prop) (t : Ty) (bt o : Nat) (a1 a2 a3 a4 : Bool) (kids pay : Int) (E : Nat) (w : World) (hB : Low B w) (he : Env E w) (ht : TyAt B w t bt o) :
    Calls Tryd.prog 90 #[.agg #[.bool a1, .bool a2, .bool a3, .bool a4, .int .i64 kids, .int .i64 pay], .pointer (some ⟨bt, o, none⟩)] w fun e w' => e = .returned (.bool (listsB a4 kids t.ls t.ts.length)) ∧ Below w.heap.size w w' := by
  obtain ⟨hb, hn, ⟨c0, c1, c2, c3⟩, lv, kv, c4, c5, hl, hkv⟩ := TyAt.eq.1 ht
  have hbt := hB bt hb
  have HDf := Lib.hid (fun W (hW : Below w.heap.size w W) => differentNames_any B lv t.ls E W (hB.le hW.size) (he.below (hW.mono he.size)) (hl.keep (hW.keeps'.mono hB)))
  obtain ⟨pa, len, c, rfl, hlen, hm, hget⟩ := hkv.open
  obtain ⟨la, ln, lc, rfl, hlln, hlm, hlget⟩ := hl.open
  have hls : t.ls.isEmpty = decide (ln = 0) := by rw [hlln.out]; cases t.ls <;> simp
  have hs : listsB a4 kids t.ls t.ts.length = if a4 then (!decide (ln = 0) && (decide (len = ln) && labelsB t.ls)) else (decide (ln = 0) && decide ((len : Int) = kids)) := by
    unfold listsB; rw [hls, hlen.out, hlln.out]
  rw [hs]
  clear hs hls hget hlget hl hkv hlen hlln ht hn
  cases a4
  · rw [if_neg (by decide)]
    have q4 : ∀ q : Later (w.heap.size + 1) (w.alloc (.cells #[.bool a1, .bool a2, .bool a3, .bool false, .int .i64 kids, .int .i64 pay] 125)), q.1.cell? ⟨bt, o + 4, none⟩ = some (.slice la ln lc) := fun q => ((blk_below q.2).cell (p := ⟨bt, _, none⟩) hbt).trans c4
    have q5 : ∀ q : Later (w.heap.size + 1) (w.alloc (.cells #[.bool a1, .bool a2, .bool a3, .bool false, .int .i64 kids, .int .i64 pay] 125)), q.1.cell? ⟨bt, o + 5, none⟩ = some (.slice pa len c) := fun q => ((blk_below q.2).cell (p := ⟨bt, _, none⟩) hbt).trans c5
    have q6 : ∀ q : Later (w.heap.size + 1) (w.alloc (.cells #[.bool a1, .bool a2, .bool a3, .bool false, .int .i64 kids, .int .i64 pay] 125)), q.1.cell? ⟨w.heap.size, 4, none⟩ = some (.int .i64 kids) := fun q => blk_cell q.2 4 rfl
    have HR : Hid (Below (w.heap.size + 1) (w.alloc (.cells #[.bool a1, .bool a2, .bool a3, .bool false, .int .i64 kids, .int .i64 pay] 125)) (w.alloc (.cells #[.bool a1, .bool a2, .bool a3, .bool false, .int .i64 kids, .int .i64 pay] 125))) := Lib.hid (Below.refl _ _)
    have hsz0 : w.heap.size + 1 ≤ (w.alloc (.cells #[.bool a1, .bool a2, .bool a3, .bool false, .int .i64 kids, .int .i64 pay] 125)).heap.size := by simp
    have HSZ := Lib.hid hsz0
    clear hsz0 c0 c1 c2 c3 c4 c5
    by_cases h0 : ln = 0
    · subst h0
      by_cases h1 : (len : Int) = kids
      · have h2 : ((len : Int) == kids) = true := by simpa using h1
        rw [show decide ((len : Int) = kids) = true by simpa using h1]
        clear h1
        go_enter Tryd.func90, Tryd.ntmps90
        go_wp2_with fail
        refine wp_region_later (w.heap.size + 1) (w.alloc (.cells #[.bool a1, .bool a2, .bool a3, .bool false, .int .i64 kids, .int .i64 pay] 125)) (by kernel_rfl) (by kernel_rfl) HR.out ?_
        repeat (go_big_quiet_step (first | (go_at_call 93; exact later_call _ HSZ.out (HDf.out _ (blk_below (Subtype.property _))))))
        refine wpQuiet_nil ?_
        rintro _ ⟨⟨w5, hb5⟩, rfl⟩
        clear q4 q5 q6
        go_wp2_with fail
        go_ret
        exact ⟨ret_bool (by first | rfl | (simp; done) | (simp; omega) | (rw [Bool.eq_iff_iff]; simp; omega)), blk_below hb5⟩
      · have h2 : ((len : Int) == kids) = false := by simpa using h1
        rw [show decide ((len : Int) = kids) = false by simpa using h1]
        clear h1
        go_enter Tryd.func90, Tryd.ntmps90
        go_wp2_with fail
        refine wp_region_later (w.heap.size + 1) (w.alloc (.cells #[.bool a1, .bool a2, .bool a3, .bool false, .int .i64 kids, .int .i64 pay] 125)) (by kernel_rfl) (by kernel_rfl) HR.out ?_
        repeat (go_big_quiet_step (first | (go_at_call 93; exact later_call _ HSZ.out (HDf.out _ (blk_below (Subtype.property _))))))
        refine wpQuiet_nil ?_
        rintro _ ⟨⟨w5, hb5⟩, rfl⟩
        clear q4 q5 q6
        go_wp2_with fail
        go_ret
        exact ⟨ret_bool (by first | rfl | (simp; done) | (simp; omega) | (rw [Bool.eq_iff_iff]; simp; omega)), blk_below hb5⟩
    · have h0' : ((ln : Int) == 0) = false := by simp; omega
      rw [show decide (ln = 0) = false by simpa using h0, Bool.false_and]
      clear h0
      go_enter Tryd.func90, Tryd.ntmps90
      go_wp2_with fail
      refine wp_region_later (w.heap.size + 1) (w.alloc (.cells #[.bool a1, .bool a2, .bool a3, .bool false, .int .i64 kids, .int .i64 pay] 125)) (by kernel_rfl) (by kernel_rfl) HR.out ?_
      repeat (go_big_quiet_step (first | (go_at_call 93; exact later_call _ HSZ.out (HDf.out _ (blk_below (Subtype.property _))))))
      refine wpQuiet_nil ?_
      rintro _ ⟨⟨w5, hb5⟩, rfl⟩
      clear q4 q5 q6
      go_wp2_with fail
      go_ret
      exact ⟨ret_bool (by first | rfl | (simp; done) | (simp; omega) | (rw [Bool.eq_iff_iff]; simp; omega)), blk_below hb5⟩
  · rw [if_pos rfl]
    have q4 : ∀ q : Later (w.heap.size + 1) (w.alloc (.cells #[.bool a1, .bool a2, .bool a3, .bool true, .int .i64 kids, .int .i64 pay] 125)), q.1.cell? ⟨bt, o + 4, none⟩ = some (.slice la ln lc) := fun q => ((blk_below q.2).cell (p := ⟨bt, _, none⟩) hbt).trans c4
    have q5 : ∀ q : Later (w.heap.size + 1) (w.alloc (.cells #[.bool a1, .bool a2, .bool a3, .bool true, .int .i64 kids, .int .i64 pay] 125)), q.1.cell? ⟨bt, o + 5, none⟩ = some (.slice pa len c) := fun q => ((blk_below q.2).cell (p := ⟨bt, _, none⟩) hbt).trans c5
    have q6 : ∀ q : Later (w.heap.size + 1) (w.alloc (.cells #[.bool a1, .bool a2, .bool a3, .bool true, .int .i64 kids, .int .i64 pay] 125)), q.1.cell? ⟨w.heap.size, 4, none⟩ = some (.int .i64 kids) := fun q => blk_cell q.2 4 rfl
    have HR : Hid (Below (w.heap.size + 1) (w.alloc (.cells #[.bool a1, .bool a2, .bool a3, .bool true, .int .i64 kids, .int .i64 pay] 125)) (w.alloc (.cells #[.bool a1, .bool a2, .bool a3, .bool true, .int .i64 kids, .int .i64 pay] 125))) := Lib.hid (Below.refl _ _)
    have hsz0 : w.heap.size + 1 ≤ (w.alloc (.cells #[.bool a1, .bool a2, .bool a3, .bool true, .int .i64 kids, .int .i64 pay] 125)).heap.size := by simp
    have HSZ := Lib.hid hsz0
    clear hsz0 c0 c1 c2 c3 c4 c5
    by_cases h0 : ln = 0
    · subst h0
      go_enter Tryd.func90, Tryd.ntmps90
      go_wp2_with fail
      refine wp_region_later (w.heap.size + 1) (w.alloc (.cells #[.bool a1, .bool a2, .bool a3, .bool true, .int .i64 kids, .int .i64 pay] 125)) (by kernel_rfl) (by kernel_rfl) HR.out ?_
      repeat (go_big_quiet_step (first | (go_at_call 93; exact later_call _ HSZ.out (HDf.out _ (blk_below (Subtype.property _))))))
      refine wpQuiet_nil ?_
      rintro _ ⟨⟨w5, hb5⟩, rfl⟩
      clear q4 q5 q6
      go_wp2_with fail
      go_ret
      exact ⟨ret_bool (by first | rfl | (simp; done) | (simp; omega) | (rw [Bool.eq_iff_iff]; simp; omega)), blk_below hb5⟩
    · have h0' : decide ((0 : Int) < (ln : Int)) = true := by simp; omega
      have h0p : 0 < ln := by omega
      have h0q : decide (0 < ln) = true := by simpa using h0p
      rw [show decide (ln = 0) = false by simpa using h0, Bool.not_false, Bool.true_and]
      clear h0
      by_cases h1 : len = ln
      · subst h1
        rw [show decide (len = len) = true by simp, Bool.true_and]
        go_enter Tryd.func90, Tryd.ntmps90
        go_wp2_with fail
        refine wp_region_later (w.heap.size + 1) (w.alloc (.cells #[.bool a1, .bool a2, .bool a3, .bool true, .int .i64 kids, .int .i64 pay] 125)) (by kernel_rfl) (by kernel_rfl) HR.out ?_
        repeat (go_big_quiet_step (first | (go_at_call 93; exact later_call _ HSZ.out (HDf.out _ (blk_below (Subtype.property _))))))
        refine wpQuiet_nil ?_
        rintro _ ⟨⟨w5, hb5⟩, rfl⟩
        clear q4 q5 q6
        go_wp2_with fail
        go_ret
        exact ⟨ret_bool (by first | rfl | (simp; done) | (simp; omega) | (rw [Bool.eq_iff_iff]; simp; omega)), blk_below hb5⟩
      · have h2 : ((len : Int) == (ln : Int)) = false := by simp; omega
        rw [show decide (len = ln) = false by simpa using h1, Bool.false_and]
        clear h1
        go_enter Tryd.func90, Tryd.ntmps90
        go_wp2_with fail
        refine wp_region_later (w.heap.size + 1) (w.alloc (.cells #[.bool a1, .bool a2, .bool a3, .bool true, .int .i64 kids, .int .i64 pay] 125)) (by kernel_rfl) (by kernel_rfl) HR.out ?_
        repeat (go_big_quiet_step (first | (go_at_call 93; exact later_call _ HSZ.out (HDf.out _ (blk_below (Subtype.property _))))))
        refine wpQuiet_nil ?_
        rintro _ ⟨⟨w5, hb5⟩, rfl⟩
        clear q4 q5 q6
        go_wp2_with fail
        go_ret
        exact ⟨ret_bool (by first | rfl | (simp; done) | (simp; omega) | (rw [Bool.eq_iff_iff]; simp; omega)), blk_below hb5⟩

end Go.Proofs.YtmedijheidbmhaaDoor

/- Types: the program's fits. -/
namespace Go.Proofs.YtmedijheidbmhaaDoor
open Go.RowKit

theorem number_is (n : Int) (has b : Bool) (h : numB n has = b) (w : World) : Calls Tryd.prog 88 #[.int .i64 n, .bool has] w fun e w' => e = .returned (.bool b) ∧ w = w' := by
  rw [← h]; exact numberFits_any n has w
theorem nameFit_is (s : ByteArray) (has b : Bool) (h : namB s has = b) (hs : s.size ≤ maxLen) (E : Nat) (w : World) (he : Env E w) : Calls Tryd.prog 89 #[.string s, .bool has] w fun e w' => e = .returned (.bool b) ∧ w = w' := by
  rw [← h]; exact nameFits_any s has hs E w he

def fitsB (a1 a2 a3 a4 : Bool) (kids : Int) (t : Ty) : Bool := numB t.p a1 && (numB t.s a3 && (namB t.n a2 && listsB a4 kids t.ls t.ts.length))

set_option maxHeartbeats 1500000 in
theorem fits_any (B : Nat → Prop) (t : Ty) (bt o : Nat) (a1 a2 a3 a4 : Bool) (kids pay : Int) (E : Nat) (w : World) (hB : Low B w) (he : Env E w) (ht : TyAt B w t bt o) :
    Calls Tryd.prog 85 #[.agg #[.bool a1, .bool a2, .bool a3, .bool a4, .int .i64 kids, .int .i64 pay], .pointer (some ⟨bt, o, none⟩)] w fun e w' => e = .returned (.bool (fitsB a1 a2 a3 a4 kids t)) ∧ Below w.heap.size w w' := by
  obtain ⟨hb, hn, ⟨c0, c1, c2, c3⟩, lv, kv, c4, c5, hl, hkv⟩ := TyAt.eq.1 ht
  have hbt := hB bt hb
  obtain ⟨b1, h1⟩ : ∃ b, numB t.p a1 = b := ⟨_, rfl⟩
  obtain ⟨b2, h2⟩ : ∃ b, numB t.s a3 = b := ⟨_, rfl⟩
  obtain ⟨b3, h3⟩ : ∃ b, namB t.n a2 = b := ⟨_, rfl⟩
  obtain ⟨b4, h4⟩ : ∃ b, listsB a4 kids t.ls t.ts.length = b := ⟨_, rfl⟩
  have HL : Hid (∀ W, Below w.heap.size w W → Calls Tryd.prog 90 #[.agg #[.bool a1, .bool a2, .bool a3, .bool a4, .int .i64 kids, .int .i64 pay], .pointer (some ⟨bt, o, none⟩)] W fun e w' => e = .returned (.bool b4) ∧ Below W.heap.size W w') := Lib.hid (fun W hW => by
    rw [← h4]; exact listsFit_any B t bt o a1 a2 a3 a4 kids pay E W (hB.le hW.size) (he.below (hW.mono he.size)) (TyAt.keep (hW.keeps'.mono hB) _ _ _ ht))
  have H1 := Lib.hid (number_is t.p a1 b1 h1)
  have H2 := Lib.hid (number_is t.s a3 b2 h2)
  have H3 := Lib.hid (fun (W : World) (hW : Below w.heap.size w W) => nameFit_is t.n a2 b3 h3 hn E W (he.below (hW.mono he.size)))
  have HF : Hid (fitsB a1 a2 a3 a4 kids t = (b1 && (b2 && (b3 && b4)))) := Lib.hid (by unfold fitsB; rw [h1, h2, h3, h4])
  rw [HF.out]
  have HW0 : Hid (Below (w.heap.size + 1) (w.alloc (.cells #[.bool a1, .bool a2, .bool a3, .bool a4, .int .i64 kids, .int .i64 pay] 125)) (w.alloc (.cells #[.bool a1, .bool a2, .bool a3, .bool a4, .int .i64 kids, .int .i64 pay] 125))) := Lib.hid (Below.refl _ _)
  clear h1 h2 h3 h4 HF hl hkv ht c0 c4 c5 hn
  go_enter Tryd.func85, Tryd.ntmps85
  go_wp2_with fail
  have p1 : ∀ q : Later (w.heap.size + 1) (w.alloc (.cells #[.bool a1, .bool a2, .bool a3, .bool a4, .int .i64 kids, .int .i64 pay] 125)), q.1.cell? ⟨bt, o + 1, none⟩ = some (.int .i64 t.p) := fun q => ((blk_below q.2).cell (p := ⟨bt, _, none⟩) hbt).trans c1
  have p2 : ∀ q : Later (w.heap.size + 1) (w.alloc (.cells #[.bool a1, .bool a2, .bool a3, .bool a4, .int .i64 kids, .int .i64 pay] 125)), q.1.cell? ⟨bt, o + 2, none⟩ = some (.string t.n) := fun q => ((blk_below q.2).cell (p := ⟨bt, _, none⟩) hbt).trans c2
  have p3 : ∀ q : Later (w.heap.size + 1) (w.alloc (.cells #[.bool a1, .bool a2, .bool a3, .bool a4, .int .i64 kids, .int .i64 pay] 125)), q.1.cell? ⟨bt, o + 3, none⟩ = some (.int .i64 t.s) := fun q => ((blk_below q.2).cell (p := ⟨bt, _, none⟩) hbt).trans c3
  have r0 : ∀ q : Later (w.heap.size + 1) (w.alloc (.cells #[.bool a1, .bool a2, .bool a3, .bool a4, .int .i64 kids, .int .i64 pay] 125)), q.1.cell? ⟨w.heap.size, 0, none⟩ = some (.bool a1) := fun q => blk_cell q.2 0 rfl
  have r1 : ∀ q : Later (w.heap.size + 1) (w.alloc (.cells #[.bool a1, .bool a2, .bool a3, .bool a4, .int .i64 kids, .int .i64 pay] 125)), q.1.cell? ⟨w.heap.size, 1, none⟩ = some (.bool a2) := fun q => blk_cell q.2 1 rfl
  have r2 : ∀ q : Later (w.heap.size + 1) (w.alloc (.cells #[.bool a1, .bool a2, .bool a3, .bool a4, .int .i64 kids, .int .i64 pay] 125)), q.1.cell? ⟨w.heap.size, 2, none⟩ = some (.bool a3) := fun q => blk_cell q.2 2 rfl
  have r3 : ∀ q : Later (w.heap.size + 1) (w.alloc (.cells #[.bool a1, .bool a2, .bool a3, .bool a4, .int .i64 kids, .int .i64 pay] 125)), q.1.cell? ⟨w.heap.size, 3, none⟩ = some (.bool a4) := fun q => blk_cell q.2 3 rfl
  have r4 : ∀ q : Later (w.heap.size + 1) (w.alloc (.cells #[.bool a1, .bool a2, .bool a3, .bool a4, .int .i64 kids, .int .i64 pay] 125)), q.1.cell? ⟨w.heap.size, 4, none⟩ = some (.int .i64 kids) := fun q => blk_cell q.2 4 rfl
  have r5 : ∀ q : Later (w.heap.size + 1) (w.alloc (.cells #[.bool a1, .bool a2, .bool a3, .bool a4, .int .i64 kids, .int .i64 pay] 125)), q.1.cell? ⟨w.heap.size, 5, none⟩ = some (.int .i64 pay) := fun q => blk_cell q.2 5 rfl
  have HSZ : Hid (w.heap.size + 1 ≤ (w.alloc (.cells #[.bool a1, .bool a2, .bool a3, .bool a4, .int .i64 kids, .int .i64 pay] 125)).heap.size) := Lib.hid (by simp)
  clear c1 c2 c3
  cases b1 <;> cases b2 <;> cases b3 <;> cases b4
  all_goals
    refine wp_region_later (w.heap.size + 1) (w.alloc (.cells #[.bool a1, .bool a2, .bool a3, .bool a4, .int .i64 kids, .int .i64 pay] 125)) (by kernel_rfl) (by kernel_rfl) HW0.out ?_
    repeat (go_big_quiet_step (first | (go_at_call 88; first | with_reducible exact later_call_same _ (H1.out _) | with_reducible exact later_call_same _ (H2.out _)) | (go_at_call 89; exact later_call_same _ (H3.out _ (blk_below (Subtype.property _)))) | (go_at_call 90; exact later_call _ HSZ.out (HL.out _ (blk_below (Subtype.property _))))))
    refine wpQuiet_nil ?_
    rintro _ ⟨⟨w5, hb5⟩, rfl⟩
    go_wp2_with fail
    go_ret
    exact ⟨rfl, blk_below hb5⟩

end Go.Proofs.YtmedijheidbmhaaDoor

/- A map of one's own, told by what its look-ups give; the program's rules. -/
namespace Go.Proofs.YtmedijheidbmhaaDoor
open Go.RowKit

/-- An entry reads as it is. -/
def asIs (v : Value) : Option (DataW Value × List MemPlace) := some (.held v, [])
/-- Block b is a map, of at most n entries, in which the key l has the value f l. -/
def MapIs (w : World) (k : TypeId) (b n : Nat) (f : Lit → Option Value) : Prop :=
  ∃ D : DataW Value, w.ownsMap Tryd.prog k asIs b n D ∧ ∀ l, Maps.has D l = (f l).isSome ∧ ∀ v, f l = some v → ∀ z, D.atKey l z = .held v
theorem MapIs.made (w : World) (k : TypeId) : MapIs (w.alloc (.map #[] 0)) k w.heap.size 0 (fun _ => none) :=
  ⟨.map [], World.ownsMap_made w _ _ _, fun _ => ⟨rfl, fun _ h => by cases h⟩⟩
theorem MapIs.congr {w : World} {k : TypeId} {b n : Nat} {f g : Lit → Option Value} (h : MapIs w k b n f) (e : ∀ l, f l = g l) : MapIs w k b n g := by
  obtain ⟨D, ho, hf⟩ := h
  exact ⟨D, ho, fun l => by rw [← e l]; exact hf l⟩
theorem MapIs.lt {w : World} {k : TypeId} {b n : Nat} {f : Lit → Option Value} (h : MapIs w k b n f) : b < w.heap.size := by
  obtain ⟨D, ho, _⟩ := h; exact ho.lt
theorem MapIs.kept {w w' : World} {k : TypeId} {b n : Nat} {f : Lit → Option Value} (h : MapIs w k b n f) {row : Option Nat} (hg : w.grownBy w' row) (hne : some b ≠ row) : MapIs w' k b n f := by
  obtain ⟨D, ho, hf⟩ := h; exact ⟨D, ho.kept hg hne, hf⟩
theorem MapIs.below {w w' : World} {k : TypeId} {b n m : Nat} {f : Lit → Option Value} (h : MapIs w k b n f) (hb : Below m w w') (hm : b < m) : MapIs w' k b n f := by
  obtain ⟨D, ⟨es, clock, h1, r⟩, hf⟩ := h
  exact ⟨D, ⟨es, clock, (hb.block b hm).trans h1, r⟩, hf⟩
open Classical in
theorem MapIs.put {w : World} {k : TypeId} {b n : Nat} {f : Lit → Option Value} (h : MapIs w k b n f) (K : Maps.Keyed Tryd.prog k) {t e : TypeId} (ht : Tryd.prog.underlying t = some (.map k e)) (hn : n < maxLen) {key val : Value} {kl : Lit} (hkey : keyOf Tryd.prog k key = some kl) (hkl : WideAt.IsKeyLit kl) :
    ∃ w', (Instr.mapUpdate t (.map (some b)) key val).run Tryd.prog w = .ok () w' ∧ MapIs w' k b (n + 1) (fun l => if l = kl then some val else f l) ∧ w.grownBy w' (some b) := by
  obtain ⟨D, ho, hf⟩ := h
  obtain ⟨w', hr, ho', htn⟩ := ho.store K ht hn hkey (d := .held val) (ps := []) rfl
  refine ⟨w', hr, ⟨_, ho', fun l => ?_⟩, htn.grown⟩
  by_cases e : l = kl
  · subst e
    simp only [if_true]
    exact ⟨by rw [Maps.has_put_same ho.isMap hkl]; rfl, fun v hv z => by rw [Maps.atKey_put_same ho.isMap hkl]; cases hv; rfl⟩
  · simp only [if_neg e]
    rw [Maps.has_put_other e]
    exact ⟨(hf l).1, fun v hv z => by rw [Maps.atKey_put_other e]; exact (hf l).2 v hv z⟩
set_option maxRecDepth 100000 in
theorem MapIs.look {w : World} {k : TypeId} {b n : Nat} {f : Lit → Option Value} (h : MapIs w k b n f) (K : Maps.Keyed Tryd.prog k) {t e : TypeId} (ht : Tryd.prog.underlying t = some (.map k e)) {z : Value} (hz : (zeroValue e).run Tryd.prog w = .ok z w) {key : Value} {kl : Lit} (hkey : keyOf Tryd.prog k key = some kl) :
    (Instr.lookup t (.map (some b)) key false).run Tryd.prog w = .ok ((f kl).getD z) w := by
  obtain ⟨D, ho, hf⟩ := h
  obtain ⟨v, ps, hr, hv⟩ := ho.lookup K ht hz (zd := .held z) (zp := []) rfl hkey
  rw [hr]
  obtain ⟨h1, h2⟩ := hf kl
  have hv' : DataW.held v = D.atKey kl (.held z) := by
    simp only [asIs, Option.some.injEq, Prod.mk.injEq] at hv; exact hv.1
  refine congrArg (fun x => Result.ok x w) ?_
  cases hfk : f kl with
  | none =>
    rw [hfk] at h1
    rw [Maps.atKey_of_not_has h1] at hv'
    exact DataW.held.inj hv'
  | some u =>
    rw [h2 u hfk] at hv'
    exact DataW.held.inj hv'
set_option maxRecDepth 100000 in
theorem MapIs.look_ok {w : World} {k : TypeId} {b n : Nat} {f : Lit → Option Value} (h : MapIs w k b n f) (K : Maps.Keyed Tryd.prog k) {t e : TypeId} (ht : Tryd.prog.underlying t = some (.map k e)) {z : Value} (hz : (zeroValue e).run Tryd.prog w = .ok z w) {key : Value} {kl : Lit} (hkey : keyOf Tryd.prog k key = some kl) :
    (Instr.lookup t (.map (some b)) key true).run Tryd.prog w = .ok (.tuple #[(f kl).getD z, .bool (f kl).isSome]) w := by
  obtain ⟨D, ho, hf⟩ := h
  obtain ⟨v, ps, hr, hv⟩ := ho.look_ok K ht hz (zd := .held z) (zp := []) rfl hkey
  obtain ⟨h1, h2⟩ := hf kl
  rw [hr, h1]
  have hv' : DataW.held v = D.atKey kl (.held z) := by
    simp only [asIs, Option.some.injEq, Prod.mk.injEq] at hv; exact hv.1
  have : v = (f kl).getD z := by
    cases hfk : f kl with
    | none =>
      rw [hfk] at h1
      rw [Maps.atKey_of_not_has h1] at hv'
      exact DataW.held.inj hv'
    | some u =>
      rw [h2 u hfk] at hv'
      exact DataW.held.inj hv'
  rw [this]

/-! ### The rules -/
def knK (k : Int) : Bool := decide (1 ≤ k) && decide (k ≤ 9)
def r2K (k : Int) : Bool := k == 8 || k == 9
def r3K (k : Int) : Bool := k == 9
def r4K (k : Int) : Bool := k == 6 || k == 7
def kidsK (k : Int) : Int := if k = 4 ∨ k = 5 then 2 else if k = 8 then 1 else 0
abbrev ruleVal (k : Int) : Value := .agg #[.bool (actB k), .bool (r2K k), .bool (r3K k), .bool (r4K k), .int .i64 (kidsK k), .int .i64 (paysK k)]
def ruleF : Lit → Option Value
  | .int .i64 k => if knK k then some (ruleVal k) else none
  | _ => none
def RulesAt (w : World) (b : Nat) : Prop := MapIs w 3 b 9 ruleF
abbrev rule0 : Value := .agg #[.bool false, .bool false, .bool false, .bool false, .int .i64 0, .int .i64 0]
theorem ruleInfo : (Tryd.prog.info? 125).map (fun i => (i.zero, i.size, i.bytes)) = some (some rule0, 6, 24) := by kernel_rfl
theorem zero_rule (w : World) : (zeroValue 125).run Tryd.prog w = .ok rule0 w := by
  obtain ⟨i0, hi, hz0, hz1, hz2⟩ := info_parts ruleInfo
  simp [zeroValue, typeInfo, hi, hz0]
theorem intKeyed : Maps.Keyed Tryd.prog 3 := Maps.int_keyed Tryd.underlying3
theorem wf64 {a : Int} (h1 : -9223372036854775808 ≤ a) (h2 : a ≤ 9223372036854775807) : (Lit.int .i64 a).wf = true := by
  unfold Lit.wf
  rw [Bool.and_eq_true, decide_eq_true_eq, decide_eq_true_eq]
  exact ⟨h1, h2⟩
theorem key_int {a : Int} (h1 : -9223372036854775808 ≤ a) (h2 : a ≤ 9223372036854775807) : keyOf Tryd.prog 3 (.int .i64 a) = some (.int .i64 a) := Maps.keyOf_int_mk Tryd.underlying3 (wf64 h1 h2)
theorem rule_unknown {k : Int} (h : knK k = false) : ruleVal k = rule0 := by
  have h1 : ¬ (1 ≤ k ∧ k ≤ 9) := by simpa [knK] using h
  have a1 : actB k = false := by rw [Bool.eq_false_iff]; intro e; rw [actB_iff] at e; omega
  have a2 : r2K k = false := by simp [r2K]; omega
  have a3 : r3K k = false := by simp [r3K]; omega
  have a4 : r4K k = false := by simp [r4K]; omega
  have a5 : kidsK k = 0 := by unfold kidsK; rw [if_neg (by omega), if_neg (by omega)]
  have a6 : paysK k = 0 := by unfold paysK; rw [if_neg (by omega)]
  unfold ruleVal rule0
  rw [a1, a2, a3, a4, a5, a6]
theorem RulesAt.look {w : World} {b : Nat} (h : RulesAt w b) {k : Int} (h1 : -9223372036854775808 ≤ k) (h2 : k ≤ 9223372036854775807) : (Instr.lookup 108 (.map (some b)) (.int .i64 k) false).run Tryd.prog w = .ok (ruleVal k) w := by
  rw [MapIs.look h intKeyed Tryd.underlying108 (zero_rule w) (key_int h1 h2)]
  simp only [ruleF]
  cases hk : knK k with
  | true => rfl
  | false => rw [rule_unknown hk]; rfl
theorem RulesAt.look_ok {w : World} {b : Nat} (h : RulesAt w b) {k : Int} (h1 : -9223372036854775808 ≤ k) (h2 : k ≤ 9223372036854775807) : (Instr.lookup 108 (.map (some b)) (.int .i64 k) true).run Tryd.prog w = .ok (.tuple #[ruleVal k, .bool (knK k)]) w := by
  rw [MapIs.look_ok h intKeyed Tryd.underlying108 (zero_rule w) (key_int h1 h2)]
  simp only [ruleF]
  cases hk : knK k with
  | true => rfl
  | false => rw [rule_unknown hk]; rfl

/-- What the rule of a kind says of a node is its shape. -/
theorem fits_shape (t : Ty) (h : knK t.k = true) : fitsB (actB t.k) (r2K t.k) (r3K t.k) (r4K t.k) (kidsK t.k) t = t.shape := by
  have hk : 1 ≤ t.k ∧ t.k ≤ 9 := by simpa [knK] using h
  have hcase : t.k = 1 ∨ t.k = 2 ∨ t.k = 3 ∨ t.k = 4 ∨ t.k = 5 ∨ t.k = 6 ∨ t.k = 7 ∨ t.k = 8 ∨ t.k = 9 := by omega
  unfold fitsB Ty.shape shapeC numB namB listsB
  rcases hcase with e | e | e | e | e | e | e | e | e <;> rw [e] <;> simp [actB, r2K, r3K, r4K, kidsK] <;> (try rw [Bool.eq_iff_iff]) <;> (try simp) <;> (try omega) <;> (try grind)
theorem shape_unknown (t : Ty) (h : knK t.k = false) : t.shape = false := by
  have h1 : ¬ (1 ≤ t.k ∧ t.k ≤ 9) := by simpa [knK] using h
  unfold Ty.shape shapeC
  rw [if_neg (by omega), if_neg (by omega), if_neg (by omega), if_neg (by omega), if_neg (by omega)]

end Go.Proofs.YtmedijheidbmhaaDoor

/- Types: the program's table of rules, made. -/
namespace Go.Proofs.YtmedijheidbmhaaDoor
open Go.RowKit

theorem run_makeMap_rules (w : World) : (Instr.makeMap 108 none).run Tryd.prog w = .ok (.map (some w.heap.size)) (w.alloc (.map #[] 0)) := by
  simp [Instr.makeMap]

open Classical in
set_option maxHeartbeats 2000000 in
theorem rules_any (w : World) :
    Calls Tryd.prog 71 #[] w fun e w' => ∃ b, e = .returned (.map (some b)) ∧ RulesAt w' b ∧ Below w.heap.size w w' ∧ w.heap.size ≤ b := by
  have hmk := run_makeMap_rules w
  have m0 := MapIs.made w 3
  obtain ⟨w1, u1, m1, g1⟩ := m0.put intKeyed Tryd.underlying108 (by unfold maxLen; omega) (key_int (a := 1) (by omega) (by omega)) trivial (val := .agg #[.bool false, .bool false, .bool false, .bool false, .int .i64 0, .int .i64 0])
  obtain ⟨w2, u2, m2, g2⟩ := m1.put intKeyed Tryd.underlying108 (by unfold maxLen; omega) (key_int (a := 2) (by omega) (by omega)) trivial (val := .agg #[.bool false, .bool false, .bool false, .bool false, .int .i64 0, .int .i64 0])
  obtain ⟨w3, u3, m3, g3⟩ := m2.put intKeyed Tryd.underlying108 (by unfold maxLen; omega) (key_int (a := 3) (by omega) (by omega)) trivial (val := .agg #[.bool false, .bool false, .bool false, .bool false, .int .i64 0, .int .i64 0])
  obtain ⟨w4, u4, m4, g4⟩ := m3.put intKeyed Tryd.underlying108 (by unfold maxLen; omega) (key_int (a := 4) (by omega) (by omega)) trivial (val := .agg #[.bool true, .bool false, .bool false, .bool false, .int .i64 2, .int .i64 1])
  obtain ⟨w5, u5, m5, g5⟩ := m4.put intKeyed Tryd.underlying108 (by unfold maxLen; omega) (key_int (a := 5) (by omega) (by omega)) trivial (val := .agg #[.bool true, .bool false, .bool false, .bool false, .int .i64 2, .int .i64 1])
  obtain ⟨w6, u6, m6, g6⟩ := m5.put intKeyed Tryd.underlying108 (by unfold maxLen; omega) (key_int (a := 6) (by omega) (by omega)) trivial (val := .agg #[.bool true, .bool false, .bool false, .bool true, .int .i64 0, .int .i64 0])
  obtain ⟨w7, u7, m7, g7⟩ := m6.put intKeyed Tryd.underlying108 (by unfold maxLen; omega) (key_int (a := 7) (by omega) (by omega)) trivial (val := .agg #[.bool true, .bool false, .bool false, .bool true, .int .i64 0, .int .i64 0])
  obtain ⟨w8, u8, m8, g8⟩ := m7.put intKeyed Tryd.underlying108 (by unfold maxLen; omega) (key_int (a := 8) (by omega) (by omega)) trivial (val := .agg #[.bool false, .bool true, .bool false, .bool false, .int .i64 1, .int .i64 0])
  obtain ⟨w9, u9, m9, g9⟩ := m8.put intKeyed Tryd.underlying108 (by unfold maxLen; omega) (key_int (a := 9) (by omega) (by omega)) trivial (val := .agg #[.bool false, .bool true, .bool true, .bool false, .int .i64 0, .int .i64 0])
  have hb0 : Below w.heap.size w (w.alloc (.map #[] 0)) := (Below.refl _ _).alloc (Nat.le_refl _) _
  have hb1 := hb0.grown g1 hb0.size (fun k e => by cases e; exact Nat.le_refl _)
  have hb2 := hb1.grown g2 hb1.size (fun k e => by cases e; exact Nat.le_refl _)
  have hb3 := hb2.grown g3 hb2.size (fun k e => by cases e; exact Nat.le_refl _)
  have hb4 := hb3.grown g4 hb3.size (fun k e => by cases e; exact Nat.le_refl _)
  have hb5 := hb4.grown g5 hb4.size (fun k e => by cases e; exact Nat.le_refl _)
  have hb6 := hb5.grown g6 hb5.size (fun k e => by cases e; exact Nat.le_refl _)
  have hb7 := hb6.grown g7 hb6.size (fun k e => by cases e; exact Nat.le_refl _)
  have hb8 := hb7.grown g8 hb7.size (fun k e => by cases e; exact Nat.le_refl _)
  have hb9 := hb8.grown g9 hb8.size (fun k e => by cases e; exact Nat.le_refl _)
  have hr : RulesAt w9 w.heap.size := by
    refine m9.congr (fun l => ?_)
    by_cases hl : ∃ k, l = .int .i64 k
    · obtain ⟨k, rfl⟩ := hl
      simp only [Lit.int.injEq, true_and, ruleF]
      by_cases hk : knK k
      · rw [if_pos hk]
        have hk' : 1 ≤ k ∧ k ≤ 9 := by simpa [knK] using hk
        have hcase : k = 1 ∨ k = 2 ∨ k = 3 ∨ k = 4 ∨ k = 5 ∨ k = 6 ∨ k = 7 ∨ k = 8 ∨ k = 9 := by omega
        rcases hcase with rfl | rfl | rfl | rfl | rfl | rfl | rfl | rfl | rfl <;> simp [ruleVal, actB, r2K, r3K, r4K, kidsK, paysK]
      · rw [if_neg hk]
        have hk' : ¬ (1 ≤ k ∧ k ≤ 9) := by simpa [knK] using hk
        rw [if_neg (by omega), if_neg (by omega), if_neg (by omega), if_neg (by omega), if_neg (by omega), if_neg (by omega), if_neg (by omega), if_neg (by omega), if_neg (by omega)]
    · have hne : ∀ k, l ≠ .int .i64 k := fun k e => hl ⟨k, e⟩
      have hn : ruleF l = none := by
        unfold ruleF
        split
        · rename_i k; exact absurd rfl (hne k)
        · rfl
      rw [hn]
      simp only [hne, if_false]
  have HR := Lib.hid hr
  have HB := Lib.hid hb9
  clear m0 m1 m2 m3 m4 m5 m6 m7 m8 m9 g1 g2 g3 g4 g5 g6 g7 g8 g9 hb0 hb1 hb2 hb3 hb4 hb5 hb6 hb7 hb8 hb9 hr
  go_enter Tryd.func71, Tryd.ntmps71
  go_wp2_with fail
  go_ret
  exact ⟨_, rfl, HR.out, HB.out, Nat.le_refl _⟩

end Go.Proofs.YtmedijheidbmhaaDoor

/- Types: the program's mayStand. -/
namespace Go.Proofs.YtmedijheidbmhaaDoor
open Go.RowKit

theorem ARow.ptr {D : Nat} {S : Nat → Prop} {W : World} {ar : Value} {path : List Ty} (h : ARow D S W ar path) {i : Nat} {u : Ty} (hi : path[i]? = some u) :
    ∃ g c b o, ar = .slice (some ⟨g, 0, none⟩) path.length c ∧ W.cell? ⟨g, i, none⟩ = some (.pointer (some ⟨b, o, none⟩)) ∧ TyAt S W u b o ∧ g < W.heap.size := by
  obtain ⟨ads, hl, hown, hat⟩ := h
  have hlt := (List.getElem?_eq_some_iff.1 hi).1
  obtain ⟨a, ha⟩ : ∃ a, ads[i]? = some a := ⟨_, List.getElem?_eq_getElem (by omega)⟩
  rcases hown.2 with ⟨_, h0⟩ | ⟨g, cap, cur, rfl, hb, hg, hnc, hcm, hcs, htake⟩
  · omega
  · refine ⟨g, cap, a.1, a.2, rfl, ?_, hat i a u ha hi, (Array.getElem?_eq_some_iff.1 hg).1⟩
    have hj : (ptrs ads)[i]? = some (.pointer (some ⟨a.1, a.2, none⟩)) := by simp [ptrs, ha]
    rw [← htake, List.getElem?_take] at hj
    have hx : cur.toList[i]? = some (.pointer (some ⟨a.1, a.2, none⟩)) := by
      split at hj
      · exact hj
      · cases hj
    simpa [World.cell?, hg] using hx
theorem ARow.len {D : Nat} {S : Nat → Prop} {W : World} {pa : Option Addr} {an ac : Nat} {path : List Ty} (h : ARow D S W (.slice pa an ac) path) : an = path.length := by
  obtain ⟨_, _, h2, _⟩ := h
  rcases h2.2 with ⟨h, h0⟩ | ⟨g, cap, cur, h, _⟩
  · simp only [Value.slice.injEq] at h; omega
  · simp only [Value.slice.injEq] at h; omega
/-- A number that a word holds. -/
def In64 (k : Int) : Prop := -9223372036854775808 ≤ k ∧ k ≤ 9223372036854775807
theorem sess_is (k p s : Int) (n : ByteArray) (lv kv : Value) (b : Bool) (h : sessK k = b) (w : World) :
    Calls Tryd.prog 76 #[.agg #[.int .i64 k, .int .i64 p, .string n, .int .i64 s, lv, kv]] w fun e w' => e = .returned (.bool b) ∧ Below w.heap.size w w' := by
  rw [← h]; exact tsession_any k p s n lv kv w

set_option maxHeartbeats 2000000 in
theorem mayStand_any (D bm : Nat) (S : Nat → Prop) (path : List Ty) (t : Ty) (kid : Int) (pa : Option Addr) (an ac b o : Nat) (w : World) (hS : Low S w) (hr : RulesAt w bm) (har : ARow D S w (.slice pa an ac) path) (hf : ∀ u ∈ path, In64 u.k) (ht : TyAt S w t b o) (hlen : path.length ≤ 1000) :
    Calls Tryd.prog 86 #[.map (some bm), .agg #[.slice pa an ac, .int .i64 kid], .pointer (some ⟨b, o, none⟩)] w fun e w' => e = .returned (.bool (mayStandB path kid t.k)) ∧ Below w.heap.size w w' := by
  obtain rfl := har.len
  obtain ⟨la, ln, lc, ka, kn, kc, ⟨c0, c1, c2, c3, c4, c5⟩, hval⟩ := ht.load'
  have hb := hS b (TyAt.eq.1 ht).1
  cases hs : sessK t.k with
  | true =>
    have HM : Hid (mayStandB path kid t.k = true) := Lib.hid (by unfold mayStandB; rw [hs]; rfl)
    have HS := Lib.hid (sess_is t.k t.p t.s t.n (.slice la ln lc) (.slice ka kn kc) true hs)
    rw [HM.out]
    clear hs hval har hf ht hr
    go_enter Tryd.func86, Tryd.ntmps86
    go_wp2_with (go_at_call 76; refine (HS.out _).mono ?_; rintro e w2 ⟨rfl, hb2⟩; obtain ⟨hcl, hfz⟩ := bcell hb2)
    go_ret
    exact ⟨rfl, below_seq (blkBelow w _ _) hb2⟩
  | false =>
    have HS := Lib.hid (sess_is t.k t.p t.s t.n (.slice la ln lc) (.slice ka kn kc) false hs)
    rcases List.eq_nil_or_concat path with rfl | ⟨l, u, hl⟩
    · have HM : Hid (mayStandB [] kid t.k = true) := Lib.hid (by unfold mayStandB; rw [hs]; rfl)
      rw [HM.out]
      clear hs hval har hf ht hr
      go_enter Tryd.func86, Tryd.ntmps86
      go_wp2_with (go_at_call 76; refine (HS.out _).mono ?_; rintro e w2 ⟨rfl, hb2⟩; obtain ⟨hcl, hfz⟩ := bcell hb2; have hq := hb2.size; simp only [World.size_alloc] at hq)
      go_ret
      exact ⟨rfl, below_seq (blkBelow w _ _) hb2⟩
    · rw [List.concat_eq_append] at hl
      obtain ⟨n, hn⟩ : ∃ n, path.length = n := ⟨_, rfl⟩
      have hn1 : 1 ≤ n := by rw [← hn, hl]; simp
      have hi : path[n - 1]? = some u := by
        have : n - 1 = l.length := by rw [← hn, hl]; simp
        rw [this, hl]; simp
      have hu := hf u (by rw [hl]; simp)
      obtain ⟨g, c, ub, uo, hpa, hgc, hut, hgl⟩ := har.ptr hi
      obtain ⟨hub, _, ⟨k0, _, _, _⟩, _⟩ := TyAt.eq.1 hut
      have hubl := hS ub hub
      simp only [Value.slice.injEq] at hpa
      obtain ⟨rfl, _, rfl⟩ := hpa
      have HM : Hid (mayStandB path kid t.k = decide (kid < paysK u.k)) := Lib.hid (by unfold mayStandB; rw [hs, hl]; simp)
      rw [HM.out]
      have hbm := hr.lt
      obtain ⟨y, hy⟩ : ∃ y, paysK u.k = y := ⟨_, rfl⟩
      have HR : Hid (∀ W, Below w.heap.size w W → (Instr.lookup 108 (.map (some bm)) (.int .i64 u.k) false).run Tryd.prog W = .ok (.agg #[.bool (actB u.k), .bool (r2K u.k), .bool (r3K u.k), .bool (r4K u.k), .int .i64 (kidsK u.k), .int .i64 y]) W) := Lib.hid (fun W hW => by rw [← hy]; exact RulesAt.look (MapIs.below hr hW hbm) hu.1 hu.2)
      rw [hy]
      clear hy
      obtain ⟨bb, hbb⟩ : ∃ bb, decide (kid < y) = bb := ⟨_, rfl⟩
      rw [hbb]
      have HBB := Lib.hid hbb
      have hfd : ∀ W : World, (Instr.field 125 (.agg #[.bool (actB u.k), .bool (r2K u.k), .bool (r3K u.k), .bool (r4K u.k), .int .i64 (kidsK u.k), .int .i64 y]) 5).run Tryd.prog W = .ok (.int .i64 y) W := fun _ => by kernel_rfl
      have hn0 : ((n : Int) == 0) = false := by simp; omega
      have hlen' : n ≤ 1000 := by omega
      rw [hn]
      have hnn : ((n : Int) - 1).toNat = n - 1 := by omega
      have hnlt : (n : Int) - 1 < n := by omega
      have hnge : (0 : Int) ≤ (n : Int) - 1 := by omega
      clear hs hval har hf ht hr HM hi hl hn hlen hbb
      go_enter Tryd.func86, Tryd.ntmps86
      go_wp2_with (go_at_call 76; refine (HS.out _).mono ?_; rintro e w2 ⟨rfl, hb2⟩; obtain ⟨hcl, hfz⟩ := bcell hb2; have hq := hb2.size; simp only [World.size_alloc] at hq)
      have hlow : Below w.heap.size w w2 := below_seq (blkBelow w _ _) hb2
      have p1 : ∀ q : Later w2.heap.size w2, q.1.cell? ⟨w.heap.size, 1, none⟩ = some (.int .i64 kid) := fun q => (q.2.cell (p := ⟨w.heap.size, 1, none⟩) (by simp; omega)).trans (blk_cell (hb2.mono (by simp)) 1 rfl)
      have p2 : ∀ q : Later w2.heap.size w2, q.1.cell? ⟨ub, uo, none⟩ = some (.int .i64 u.k) := fun q => (q.2.cell (p := ⟨ub, uo, none⟩) (by simp; omega)).trans ((hlow.cell (p := ⟨ub, uo, none⟩) hubl).trans k0)
      have p3 : ∀ q : Later w2.heap.size w2, (Instr.lookup 108 (.map (some bm)) (.int .i64 u.k) false).run Tryd.prog q.1 = .ok (.agg #[.bool (actB u.k), .bool (r2K u.k), .bool (r3K u.k), .bool (r4K u.k), .int .i64 (kidsK u.k), .int .i64 y]) q.1 := fun q => HR.out q.1 (hlow.trans (q.2.mono (by omega)))
      clear hcl hfz
      have hbb := HBB.out
      refine wp_region_later w2.heap.size w2 (by kernel_rfl) (by kernel_rfl) (Below.refl _ _) ?_
      repeat (go_big_quiet_step (fail))
      refine wpQuiet_nil ?_
      rintro _ ⟨⟨w5, hb5⟩, rfl⟩
      clear p1 p2 p3 hbb
      go_wp2_with fail
      go_ret
      exact ⟨rfl, hlow.trans (hb5.mono (by omega))⟩

end Go.Proofs.YtmedijheidbmhaaDoor

/- Types: slices.Backward over the nodes around. -/
namespace Go.Proofs.YtmedijheidbmhaaDoor
open Go.RowKit Go.Deep Go.Shelf
attribute [local go_sem] Oper.semAt_some

set_option maxHeartbeats 1000000 in
theorem backward_any (pa : Option Addr) (an ac : Nat) (w : World) :
    Calls Tryd.prog 91 #[.slice pa an ac] w fun e w' => e = .returned (.func (.func 94) #[] #[.pointer (some ⟨w.heap.size, 0, none⟩)]) ∧ w' = w.alloc (.cells #[.slice pa an ac] 113) := by
  go_enter Tryd.func91, Tryd.ntmps91
  go_wp2
  go_ret
  exact ⟨rfl, rfl⟩

/-- What a round is handed: the index, the node. -/
structure Bk where
  i : Nat
  b : Nat
  o : Nat
  ty : Ty
abbrev bkArgs (x : Bk) : Array Value := #[.int .i64 x.i, .pointer (some ⟨x.b, x.o, none⟩)]
/-- The index at which r nodes are left. -/
def idxV : Nat → Value
  | 0 => .int .i64 (-1)
  | r + 1 => .int .i64 (r : Int)
theorem rev_take {α : Type} {l : List α} {r : Nat} {x : α} (h : l[r]? = some x) : l.reverse.take (l.length - r) = l.reverse.take (l.length - (r + 1)) ++ [x] := by
  have hlt := (List.getElem?_eq_some_iff.1 h).1
  have e : l.length - r = (l.length - (r + 1)) + 1 := by omega
  rw [e]
  refine take_snoc_get ?_
  rw [List.getElem?_reverse (by omega)]
  rw [show l.length - 1 - (l.length - (r + 1)) = r by omega, h]

set_option maxRecDepth 100000 in
set_option maxHeartbeats 2000000 in
/-- The iterator that slices.Backward returns tells the nodes around, from the innermost one outwards. -/
theorem backward_tells (n : Nat) (Bb D : Nat) (path : List Ty) (S X : Nat → Prop) (pa : Option Addr) (an ac : Nat) (w : World) (hX : ∀ k, X k → ¬ S k ∧ k ≠ Bb ∧ (Value.slice pa an ac).ownBlock ≠ some k) (hS : ∀ k, S k → k < w.heap.size) (hBb : Bb < w.heap.size)
    (hc : w.cell? ⟨Bb, 0, none⟩ = some (.slice pa an ac)) (har : ARow D S w (.slice pa an ac) path) (hlen : path.length ≤ 1000) :
    Tells Fence.wide n Tryd.prog 94 #[.pointer (some ⟨Bb, 0, none⟩)] bkArgs (fun x W => TyAt S W x.ty x.b x.o) (Kp X) (fun ys => ys.map Bk.ty = path.reverse) (fun pre => pre.map Bk.ty <+: path.reverse) w := by
  intro l J Jx W hW hJ _ hY h0
  have hY' : ∀ m pre x W1, J pre W1 → TyAt S W1 x.ty x.b x.o → YieldAt Fence.wide m Tryd.prog l (bkArgs x) W1 fun e W' => (e = .returned (.bool true) ∧ J (pre ++ [x]) W' ∧ Kp X W1 W') ∨ (e = .returned (.bool false) ∧ Jx (pre ++ [x]) W') :=
    fun m pre x W1 hj hpx => yield_any rfl m (hY pre x W1 hj hpx)
  have hc' := (hW.cell (p := ⟨Bb, 0, none⟩) hBb).trans hc
  obtain rfl := har.len
  have hat : ∀ i u, path[i]? = some u → ∃ g b o, pa = some ⟨g, 0, none⟩ ∧ W.cell? ⟨g, i, none⟩ = some (.pointer (some ⟨b, o, none⟩)) ∧ TyAt S W u b o ∧ ¬ X g := fun i u hi => by
    obtain ⟨g, c, b, o, e, h1, h2, h3⟩ := har.ptr hi
    simp only [Value.slice.injEq] at e
    obtain ⟨rfl, _, rfl⟩ := e
    exact ⟨g, b, o, rfl, (hW.cell (p := ⟨g, i, none⟩) h3).trans h1, h2.keep (hW.keeps'.mono hS), fun hx => (hX g hx).2.2 (by simp [Value.ownBlock])⟩
  obtain ⟨m, hm⟩ : ∃ m, path.length = m := ⟨_, rfl⟩
  rw [hm] at hc' hlen hX
  have HAT := Lib.hid hat
  have HY := Lib.hid hY'
  have H0 := Lib.hid h0
  have HM := Lib.hid hm
  clear hY hY' h0 hat hc har hW hJ hm
  refine callsIn_of_wp Tryd.func94 rfl trivial ?_ rfl
  simp only [Tryd.ntmps94, List.size_toArray, List.length_cons, List.length_nil, Nat.reduceAdd, Nat.reduceSub, Array.replicate_succ, Array.replicate_zero, List.push_toArray, List.append_toArray, List.nil_append, List.cons_append]
  gi_wp2_with fail
  gi_loopw [3] (fun i wr => ∃ (r : Nat) (ys : List Bk), i = idxV r ∧ r ≤ m ∧ Hid (ys.map Bk.ty = path.reverse.take (m - r)) ∧ Hid (J ys wr) ∧ Hid (Kp X W wr)) (fun i _ => (intOf i + 1).toNat)
  case atStart =>
    refine ⟨m, [], ?_, Nat.le_refl _, Lib.hid (by simp), Lib.hid H0.out, Lib.hid (KV.refl _ _ _)⟩
    cases m with
    | zero => rfl
    | succ m => simp [idxV]
  case round =>
    obtain ⟨r, ys, hi, hr, HYS, HJJ, HKV⟩ := hrel
    have hcw : wr.cell? ⟨Bb, 0, none⟩ = some (.slice pa m ac) := Keeps.cell (B := fun k => k = Bb) (HKV.out.keeps (fun k hk => ⟨fun hx => (hX k hx).2.1 hk, by simp [Value.ownBlock]⟩)) rfl hc'
    cases r with
    | zero =>
      change _ = Value.int .i64 (-1) at hi
      subst hi
      clear hcw hc'
      have hq : Hid (ys.map Bk.ty = path.reverse) := Lib.hid (by have := HYS.out; rwa [List.take_of_length_le (by simp; have := HM.out; omega)] at this)
      gi_wp2
      go_end0
      exact ⟨⟨_, rfl⟩, .inl ⟨ys, hq.out, HJJ.out⟩⟩
    | succ r =>
      change _ = Value.int .i64 (r : Int) at hi
      subst hi
      clear hc'
      obtain ⟨u, hu⟩ : ∃ u, path[r]? = some u := ⟨_, List.getElem?_eq_getElem (by have := HM.out; omega)⟩
      obtain ⟨g, b, o, rfl, hgc, hut, hgx⟩ := HAT.out r u hu
      have hgw : wr.cell? ⟨g, r, none⟩ = some (.pointer (some ⟨b, o, none⟩)) := Keeps.cell (B := fun k => k = g) (HKV.out.keeps (fun k hk => ⟨fun hx => hgx (hk ▸ hx), by simp [Value.ownBlock]⟩)) rfl hgc
      have hutw := hut.keep (HKV.out.keeps (fun k hk => ⟨fun hx => (hX k hx).1 hk, by simp [Value.ownBlock]⟩))
      obtain ⟨fn, tmps, assign, body, hy, hR⟩ := HY.out (n - 1) ys ⟨r, b, o, u⟩ wr HJJ.out hutw
      simp only [bkArgs] at hy
      have HR := Lib.hid hR
      have HT : Hid (path.reverse.take (m - r) = path.reverse.take (m - (r + 1)) ++ [u]) := Lib.hid (by have := rev_take hu; rwa [HM.out] at this)
      clear hu hgc hut hgx hutw hR
      gi_wp2_with fail
      refine ⟨fun h => (by cases h), HR.out.mono ?_⟩
      rintro e w2 (⟨rfl, hj2, hk2⟩ | ⟨rfl, hx2⟩)
      · have HJ2 := Lib.hid hj2
        have HK2 := Lib.hid (HKV.out.trans hk2)
        have HYS2 : Hid ((ys ++ [(⟨r, b, o, u⟩ : Bk)]).map Bk.ty = path.reverse.take (m - r)) := Lib.hid (by rw [HT.out, List.map_append, HYS.out]; rfl)
        clear hj2 hk2 hy
        gi_wp2_with fail
        refine ⟨⟨r, _, ?_, by omega, HYS2, HJ2, HK2⟩, ?_⟩
        · cases r <;> simp [idxV]
        · simp [intOf]
      · have HX2 := Lib.hid hx2
        have HP : Hid ((ys ++ [(⟨r, b, o, u⟩ : Bk)]).map Bk.ty <+: path.reverse) := Lib.hid (by
          rw [List.map_append, HYS.out]
          show _ ++ [u] <+: _
          rw [← HT.out]
          exact List.take_prefix _ _)
        clear hx2 hy
        gi_wp2_with fail
        exact bodyPost_ret (results_none rfl _ _ _) rfl ⟨⟨_, rfl⟩, .inr ⟨_, HP.out, HX2.out⟩⟩

end Go.Proofs.YtmedijheidbmhaaDoor

/- Types: the program's varError. -/
namespace Go.Proofs.YtmedijheidbmhaaDoor
open Go.RowKit Go.Deep Go.Shelf
attribute [local go_sem] Oper.semAt_some

def actP (l : List Ty) : Bool := l.any fun u => actB u.k
theorem actP_snoc (l : List Ty) (u : Ty) : actP (l ++ [u]) = (actP l || actB u.k) := by simp [actP]
/-- Nodes that are passed by: what is asked of the others. -/
def Past (n : ByteArray) (l : List Ty) : Prop := ∀ rest, vErr n (l ++ rest) false = vErr n rest (actP l)
theorem past_nil (n : ByteArray) : Past n [] := fun _ => rfl
theorem past_snoc {n : ByteArray} {l : List Ty} {u : Ty} (h : Past n l) (hu : ¬ (u.k = 8 ∧ u.n = n)) : Past n (l ++ [u]) := fun rest => by
  rw [List.append_assoc, h, actP_snoc]
  show vErr n (u :: rest) _ = _
  rw [vErr, if_neg hu]
theorem past_hit {n : ByteArray} {l : List Ty} {u : Ty} (h : Past n l) (hu : u.k = 8 ∧ u.n = n) (rest : List Ty) : vErr n (l ++ [u] ++ rest) false = if actP l then 0 else 3 := by
  rw [List.append_assoc, h]
  show vErr n (u :: rest) _ = _
  rw [vErr, if_pos hu]
theorem action_is (k : Int) (b : Bool) (h : actB k = b) (w : World) :
    Calls Tryd.prog 92 #[.int .i64 k] w fun e w' => e = .returned (.bool b) ∧ w = w' := by
  rw [← h]; exact action_any k w

theorem box4_heap (w : World) (o0 o1 o2 o3 : Obj) : ((((w.alloc o0).alloc o1).alloc o2).alloc o3).heap[w.heap.size]? = some o0 ∧ ((((w.alloc o0).alloc o1).alloc o2).alloc o3).heap[w.heap.size + 1]? = some o1 ∧
    ((((w.alloc o0).alloc o1).alloc o2).alloc o3).heap[w.heap.size + 2]? = some o2 ∧ ((((w.alloc o0).alloc o1).alloc o2).alloc o3).heap[w.heap.size + 3]? = some o3 := by
  have h0 := World.alloc_heap_new w o0
  have h1 := World.alloc_heap_new (w.alloc o0) o1
  have h2 := World.alloc_heap_new ((w.alloc o0).alloc o1) o2
  have h3 := World.alloc_heap_new (((w.alloc o0).alloc o1).alloc o2) o3
  simp only [World.size_alloc] at h1 h2 h3
  refine ⟨?_, ?_, ?_, h3⟩
  · exact (Below.heap_alloc _ _ _ (by simp only [World.size_alloc]; omega)).trans ((Below.heap_alloc _ _ _ (by simp only [World.size_alloc]; omega)).trans ((Below.heap_alloc _ _ _ (by simp only [World.size_alloc]; omega)).trans h0))
  · exact (Below.heap_alloc _ _ _ (by simp only [World.size_alloc]; omega)).trans ((Below.heap_alloc _ _ _ (by simp only [World.size_alloc]; omega)).trans h1)
  · exact (Below.heap_alloc _ _ _ (by simp only [World.size_alloc]; omega)).trans h2

set_option maxRecDepth 100000 in
set_option maxHeartbeats 20000000 in
theorem varError_in (n : Nat) (hn : 3 ≤ n) (D : Nat) (S : Nat → Prop) (path : List Ty) (nm : ByteArray) (pa : Option Addr) (an ac : Nat) (w : World) (hS : Low S w) (har : ARow D S w (.slice pa an ac) path) (hlen : path.length ≤ 1000) :
    CallsIn Fence.wide n Tryd.prog 87 #[.slice pa an ac, .string nm] w fun e w' => e = .returned (.int .i64 (vErr nm path.reverse false)) ∧ Below w.heap.size w w' := by
  have h1 : 1 ≤ n := by omega
  refine callsIn_of_wp_marks Tryd.func87 rfl trivial ?_ rfl
  simp only [Tryd.ntmps87, List.size_toArray, List.length_cons, List.length_nil, Nat.reduceAdd, Nat.reduceSub, Array.replicate_succ, Array.replicate_zero, List.push_toArray, List.append_toArray, List.nil_append, List.cons_append]
  gi_wp2_with (refine ⟨trivial, ?_⟩; gi_at_call 91; refine (callsIn_wide.2 (backward_any _ _ _ _)).mono ?_; rintro e w' ⟨rfl, rfl⟩)
  have hw4 := box4_heap w (.cells #[.string nm] 9) (.cells #[.int .i64 0] 45) (.cells #[.bool false] 4) (.cells #[.slice pa an ac] 113)
  have hbel := box4_below w (.cells #[.string nm] 9) (.cells #[.int .i64 0] 45) (.cells #[.bool false] 4) (.cells #[.slice pa an ac] 113)
  have hsz0 : ((((w.alloc (.cells #[.string nm] 9)).alloc (.cells #[.int .i64 0] 45)).alloc (.cells #[.bool false] 4)).alloc (.cells #[.slice pa an ac] 113)).heap.size = w.heap.size + 4 := by simp
  obtain ⟨W0, hW0⟩ : ∃ W0, ((((w.alloc (.cells #[.string nm] 9)).alloc (.cells #[.int .i64 0] 45)).alloc (.cells #[.bool false] 4)).alloc (.cells #[.slice pa an ac] 113)) = W0 := ⟨_, rfl⟩
  rw [hW0] at hw4 hbel hsz0 ⊢
  clear hW0
  obtain ⟨q0, q1, q2, q3⟩ := hw4
  have hcs : W0.cell? ⟨w.heap.size + 1 + 1 + 1, 0, none⟩ = some (.slice pa an ac) := by simp [World.cell?, q3]
  have hak : ∀ g, (Value.slice pa an ac).ownBlock = some g → g < w.heap.size := fun g hg => by
    obtain ⟨_, _, h2, _⟩ := har
    rcases h2.2 with ⟨h, _⟩ | ⟨g0, cap, cur, h, hb, hgg, _⟩
    · rw [h] at hg; simp [Value.ownBlock] at hg
    · rw [h] at hg
      obtain rfl : g0 = g := by simpa [Value.ownBlock] using hg
      exact (Array.getElem?_eq_some_iff.1 hgg).1
  have har0 : ARow D S W0 (.slice pa an ac) path := har.kept (hbel.keeps'.mono hS) (fun g o hg ho hc => (hbel.block g (hak g hg)).trans ho)
  have hX : ∀ k, k = w.heap.size + 1 + 1 → ¬ S k ∧ k ≠ w.heap.size + 1 + 1 + 1 ∧ (Value.slice pa an ac).ownBlock ≠ some k := fun k e => ⟨fun h => by have := hS k h; omega, by omega, fun h => by have := hak k h; omega⟩
  have hS0 : ∀ k, S k → k < W0.heap.size := fun k h => by have := hS k h; omega
  refine wpIn_range_told rfl h1 (gf := 94) (lb := #[.pointer (some ⟨w.heap.size + 1 + 1 + 1, 0, none⟩)]) rfl trivial (enters_of Tryd.func94 (by kernel_rfl) rfl)
    (backward_tells (n - 1) (w.heap.size + 1 + 1 + 1) D path S (fun k => k = w.heap.size + 1 + 1) pa an ac W0 hX hS0 (by omega) hcs har0 hlen) (fun h g => KV.trans h g) (fun W l o o' _ h ho _ => KV.of_cells (by simp) (cellsKept_put h ho)) (fun x A B h hp => hp.keep (h.keeps S)) (Below.refl _ _) (fun _ => rfl)
    (fun pre W => ((W.heap[w.heap.size + 1 + 1]? = some (.cells #[.bool (actP (pre.map Bk.ty))] 4 (0, 0)) ∧ W.heap[w.heap.size + 1]? = some (.cells #[.int .i64 0] 45 (0, 0))) ∧ (W.heap[w.heap.size]? = some (.cells #[.string nm] 9 (0, 0)) ∧ Past nm (pre.map Bk.ty))) ∧ Below w.heap.size w W)
    (fun c pre W => ((c = .ret ∧ ∀ rest, Hid (vErr nm (pre.map Bk.ty ++ rest) false = (if actP (pre.map Bk.ty) then 0 else 3))) ∧ W.heap[w.heap.size + 1]? = some (.cells #[.int .i64 (if actP (pre.map Bk.ty) then 0 else 3)] 45 (0, 0))) ∧ Below w.heap.size w W)
    ((((abides_boxed (by omega) _ (fun pre : List Bk => .bool (actP (pre.map Bk.ty)))).and (abides_boxed (by omega) _ (fun _ => .int .i64 0))).and ((abides_boxed (by omega) _ (fun _ => .string nm)).and (abidesAll_pure _ _))).and (abidesAll_below (by omega) (Nat.le_refl _)))
    (fun c => (((abidesAll_pure _ _).and (abides_boxed (by omega) _ (fun pre : List Bk => .int .i64 (if actP (pre.map Bk.ty) then 0 else 3)))).and (abidesAll_below (by omega) (Nat.le_refl _)))) ⟨⟨⟨q2, q1⟩, q0, past_nil nm⟩, hbel⟩
    (fun x a' W => a' = { tmps := #[.slice pa an ac, .string nm, undef, .pointer (some ⟨w.heap.size, 0, none⟩), .pointer (some ⟨w.heap.size + 1, 0, none⟩), .pointer (some ⟨w.heap.size + 1 + 1, 0, none⟩), undef, .pointer (some ⟨x.b, x.o, none⟩), .slice pa an ac,
      .func (.func 94) #[] #[.pointer (some ⟨w.heap.size + 1 + 1 + 1, 0, none⟩)], .int .i64 x.i, .pointer (some ⟨x.b, x.o, none⟩), undef, undef, undef, undef, undef, undef, undef, undef, undef, undef, undef, undef, undef, undef, undef, undef, undef, undef, undef, undef, undef, undef, undef], defers := [] })
    (fun _ _ _ _ _ h => h) ?assign ?body ?done ?stop
  case assign =>
    intro l pre x W K hi hp hK
    simp only [bkArgs]
    gi_wp2
    exact hK _ _ (KeepsFrom.refl _ _) (KV.refl _ _ _) hi hp (by simp)
  case body =>
    rintro l pre x a' W hl _ ⟨⟨⟨hg, hr⟩, hnb, hpast⟩, hbw⟩ hpx rfl
    obtain ⟨la, ln, lc, ka, kn, kc, ⟨e0, _, e2, _, _, _⟩, _⟩ := hpx.load'
    obtain ⟨gb, hgb⟩ : ∃ gb, actP (pre.map Bk.ty) = gb := ⟨_, rfl⟩
    rw [hgb] at hg
    have g0 : W.cell? ⟨w.heap.size + 1 + 1, 0, none⟩ = some (.bool gb) := by simp [World.cell?, hg]
    have g1 : W.frozen? ⟨w.heap.size + 1 + 1, 0, none⟩ = false := by simp [World.frozen?, hg]
    have r0 : W.cell? ⟨w.heap.size + 1, 0, none⟩ = some (.int .i64 0) := by simp [World.cell?, hr]
    have r1 : W.frozen? ⟨w.heap.size + 1, 0, none⟩ = false := by simp [World.frozen?, hr]
    have n0 : W.cell? ⟨w.heap.size, 0, none⟩ = some (.string nm) := by simp [World.cell?, hnb]
    have hnd : x.ty = x.ty := rfl
    have HMap : Hid ((pre ++ [x]).map Bk.ty = pre.map Bk.ty ++ [x.ty]) := Lib.hid (by simp)
    have HG := Lib.hid hg
    have HR := Lib.hid hr
    have HN := Lib.hid hnb
    have HP := Lib.hid hpast
    have HGB := Lib.hid hgb
    obtain ⟨k, hk⟩ : ∃ k, x.ty.k = k := ⟨_, rfl⟩
    obtain ⟨s, hs⟩ : ∃ s, x.ty.n = s := ⟨_, rfl⟩
    rw [hk] at e0
    rw [hs] at e2
    have HK := Lib.hid hk
    have HS := Lib.hid hs
    clear hg hr hnb hpast hgb hpx hnd hk hs
    by_cases h8 : k = 8
    · subst h8
      by_cases he : s = nm
      · subst he
        have HHit : Hid (∀ rest, Hid (vErr s (pre.map Bk.ty ++ [x.ty] ++ rest) false = if gb then 0 else 3)) := Lib.hid (fun rest => Lib.hid (by rw [past_hit HP.out ⟨HK.out, HS.out⟩, HGB.out]))
        have HAct : Hid (actP (pre.map Bk.ty ++ [x.ty]) = gb) := Lib.hid (by rw [actP_snoc, HGB.out, HK.out]; cases gb <;> rfl)
        cases gb <;> gi_wp2_with fail
        all_goals gi_region_with (fail)
        all_goals
          gi_wp2_with fail
          refine ⟨((KeepsOthers.drew _).trans (KeepsOthers.setCell _ _ _)).from _, ⟨⟨rfl, ?_⟩, ?_⟩, (hbw.drew).setCell (p := ⟨w.heap.size + 1, 0, none⟩) (by simp) _⟩
          · rw [HMap.out, HAct.out]; exact HHit.out
          · rw [HMap.out, HAct.out]; exact set_block (W := W.drew) HR.out 0 _
      · have he' : (s.toList == nm.toList) = false := by simpa [bne] using str_ne he
        have HA := Lib.hid (action_is 8 false rfl)
        have HPast : Hid (Past nm (pre.map Bk.ty ++ [x.ty])) := Lib.hid (past_snoc HP.out (fun h => he (HS.out.symm.trans h.2)))
        have HAct : Hid (actP (pre.map Bk.ty ++ [x.ty]) = gb) := Lib.hid (by rw [actP_snoc, HGB.out, HK.out]; cases gb <;> rfl)
        clear he
        cases gb <;> gi_wp2_with fail
        all_goals gi_region_with (fail)
        all_goals
          (gi_wp2_with fail)
          first
            | (refine ⟨trivial, ⟨fun h => (by cases h), ?_⟩⟩; refine (CallsIn.inRound l (callsIn_wide.2 (HA.out _))).mono ?_; rintro e w1 ⟨rfl, rfl⟩; gi_wp2_with fail)
            | (refine ⟨trivial, ?_⟩; gi_wp2_with fail)
          refine ⟨((KeepsOthers.drew _).trans (KeepsOthers.setCell _ _ _)).from _, ⟨by simp, fun k o hk hc hx _ => (Below.heap_setCell W.drew _ _ k (fun e => hx e)).trans hk⟩, ⟨⟨?_, ?_⟩, ?_, by rw [HMap.out]; exact HPast.out⟩, (hbw.drew).setCell (p := ⟨w.heap.size + 1 + 1, 0, none⟩) (by simp; omega) _⟩
          · rw [HMap.out, HAct.out]; exact set_block (W := W.drew) HG.out 0 _
          · exact (Below.heap_setCell W.drew _ _ _ (by simp)).trans HR.out
          · exact (Below.heap_setCell W.drew _ _ _ (by simp; omega)).trans HN.out
    · have h8' : (k == 8) = false := by simpa using h8
      have HPast : Hid (Past nm (pre.map Bk.ty ++ [x.ty])) := Lib.hid (past_snoc HP.out (fun h => h8 (HK.out.symm.trans h.1)))
      obtain ⟨ab, hab⟩ : ∃ ab, actB k = ab := ⟨_, rfl⟩
      have HAct : Hid (actP (pre.map Bk.ty ++ [x.ty]) = (gb || ab)) := Lib.hid (by rw [actP_snoc, HGB.out, HK.out, hab])
      have HA := Lib.hid (action_is k ab hab)
      clear hab h8
      cases gb <;> gi_wp2_with fail
      all_goals gi_region_with (fail)
      all_goals
        (gi_wp2_with fail)
        first
          | (refine ⟨trivial, ⟨fun h => (by cases h), ?_⟩⟩; refine (CallsIn.inRound l (callsIn_wide.2 (HA.out _))).mono ?_; rintro e w1 ⟨rfl, rfl⟩; gi_wp2_with fail)
          | (refine ⟨trivial, ?_⟩; gi_wp2_with fail)
        refine ⟨((KeepsOthers.drew _).trans (KeepsOthers.setCell _ _ _)).from _, ⟨by simp, fun k o hk hc hx _ => (Below.heap_setCell W.drew _ _ k (fun e => hx e)).trans hk⟩, ⟨⟨?_, ?_⟩, ?_, by rw [HMap.out]; exact HPast.out⟩, (hbw.drew).setCell (p := ⟨w.heap.size + 1 + 1, 0, none⟩) (by simp; omega) _⟩
        · rw [HMap.out, HAct.out]; exact set_block (W := W.drew) HG.out 0 _
        · exact (Below.heap_setCell W.drew _ _ _ (by simp)).trans HR.out
        · exact (Below.heap_setCell W.drew _ _ _ (by simp; omega)).trans HN.out
  case done =>
    rintro Dd ys W hD hys ⟨⟨⟨hg, hr⟩, hnb, hpast⟩, hbw⟩ hK
    have hv : vErr nm path.reverse false = 4 := by
      have := hpast []
      rw [List.append_nil, hys] at this
      exact this
    have r0 : W.cell? ⟨w.heap.size + 1, 0, none⟩ = some (.int .i64 0) := by simp [World.cell?, hr]
    have r1 : W.frozen? ⟨w.heap.size + 1, 0, none⟩ = false := by simp [World.frozen?, hr]
    have HK := Lib.hid hK
    have HR := Lib.hid hr
    have HV := Lib.hid hv
    clear hg hys hK hpast hr hv hnb
    gi_wp2
    have k3 : (W.setCell ⟨w.heap.size + 1, 0, none⟩ (.int .i64 4)).heap[Dd]? = some (.deferred (some [])) := (Below.heap_setCell _ _ _ Dd (by simp; omega)).trans HK.out
    refine ⟨by simp, .inl ⟨_, _, rfl, run_takeDeferred k3, ?_⟩⟩
    have k1 : ((W.setCell ⟨w.heap.size + 1, 0, none⟩ (.int .i64 4)).putObj Dd (.deferred none)).heap[w.heap.size + 1]? = some (.cells #[.int .i64 4] 45 (0, 0)) := (World.putObj_heap_other (by omega)).trans (set_block HR.out 0 _)
    have c1 : ((W.setCell ⟨w.heap.size + 1, 0, none⟩ (.int .i64 4)).putObj Dd (.deferred none)).cell? ⟨w.heap.size + 1, 0, none⟩ = some (.int .i64 4) := by simp [World.cell?, k1]
    have k7 := (hbw.setCell (p := ⟨w.heap.size + 1, 0, none⟩) (by simp) (.int .i64 4)).trans (belowK_b (w := w) (Nat.le_refl _) _ Dd _ (.deferred none) (by omega) k3 rfl rfl)
    generalize (W.setCell ⟨w.heap.size + 1, 0, none⟩ (.int .i64 4)).putObj Dd (.deferred none) = W4 at *
    exact ⟨.int .i64 4, by simp [results, Tryd.results87, go_sem, c1], by rw [HV.out], k7⟩
  case stop =>
    rintro Dd c pre W hD hpre ⟨⟨⟨rfl, hhit⟩, hr⟩, hbw⟩ hK
    obtain ⟨rest, hrest⟩ := hpre
    have hv : vErr nm path.reverse false = (if actP (pre.map Bk.ty) then 0 else 3) := by rw [← hrest]; exact (hhit rest).out
    obtain ⟨v, hvv⟩ : ∃ v : Int, (if actP (pre.map Bk.ty) then 0 else 3) = v := ⟨_, rfl⟩
    rw [hvv] at hv hr
    have HV := Lib.hid hv
    clear hrest hv hvv hhit
    gi_wp2
    refine ⟨by simp, .inl ⟨_, _, rfl, run_takeDeferred hK, ?_⟩⟩
    have k1 : (W.putObj Dd (.deferred none)).heap[w.heap.size + 1]? = some (.cells #[.int .i64 v] 45 (0, 0)) := (World.putObj_heap_other (by omega)).trans hr
    have c1 : (W.putObj Dd (.deferred none)).cell? ⟨w.heap.size + 1, 0, none⟩ = some (.int .i64 v) := by simp [World.cell?, k1]
    have k7 := hbw.trans (belowK_b (w := w) (Nat.le_refl _) W Dd _ (.deferred none) (by omega) hK rfl rfl)
    generalize W.putObj Dd (.deferred none) = W4 at *
    exact ⟨.int .i64 v, by simp [results, Tryd.results87, go_sem, c1], by rw [HV.out], k7⟩

theorem varError_any (D : Nat) (S : Nat → Prop) (path : List Ty) (nm : ByteArray) (pa : Option Addr) (an ac : Nat) (w : World) (hS : Low S w) (har : ARow D S w (.slice pa an ac) path) (hlen : path.length ≤ 1000) :
    Calls Tryd.prog 87 #[.slice pa an ac, .string nm] w fun e w' => e = .returned (.int .i64 (vErr nm path.reverse false)) ∧ Below w.heap.size w w' :=
  callsIn_wide.1 (varError_in 3 (by omega) D S path nm pa an ac w hS har hlen)

end Go.Proofs.YtmedijheidbmhaaDoor
