/- Types: right or not: both ways of asking agree (mathematics). -/
import Derived.Test.YtjmnaibbljakaaaGreatDoorTyOb
namespace Go.Proofs.YtjmnaibbljakaaaGreatDoor
open Go.RowKit

def sessK (k : Int) : Bool := k != 1 && k != 2
def Ty.shape (t : Ty) : Bool := shapeC t.k t.p t.s t.n t.ls t.ts.length

/-! ### The reference's way -/
def vR (names : List ByteArray) (g : Nat) (n : ByteArray) : Nat → Int
  | 0 => 4
  | i + 1 => if names[i]? = some n then (if i < g then 0 else 3) else vR names g n i
def varR (names : List ByteArray) (g : Nat) (n : ByteArray) : Int := vR names g n names.length
mutual
def nodeR (names : List ByteArray) (g : Nat) (se : Bool) : Ty → Int
  | .mk k p n s ls ts =>
    if shapeC k p s n ls ts.length = false ∨ (se = true ∧ sessK k = false) then 3
    else if k = 9 then varR names g n
    else if k = 8 then kidsR (names ++ [n]) g true 0 ts
    else kidsR names names.length (decide (5 < k)) 0 ts
def kidsR (names : List ByteArray) (g : Nat) (f : Bool) (i : Nat) : List Ty → Int
  | [] => 0
  | t :: r => if nodeR names g (f || decide (0 < i)) t = 0 then kidsR names g f (i + 1) r else nodeR names g (f || decide (0 < i)) t
end

/-! ### The program's way -/
/-- From the innermost node around outwards. -/
def vErr (n : ByteArray) : List Ty → Bool → Int
  | [], _ => 4
  | u :: r, g => if u.k = 8 ∧ u.n = n then (if g then 0 else 3) else vErr n r (g || actB u.k)
def paysK (k : Int) : Int := if k = 4 ∨ k = 5 then 1 else 0
def mayStandB (path : List Ty) (kid : Int) (k : Int) : Bool := sessK k || (match path.getLast? with | none => true | some u => decide (kid < paysK u.k))
def nodeErr (path : List Ty) (kid : Int) (t : Ty) : Int :=
  if t.shape = false ∨ mayStandB path kid t.k = false then 3 else if t.k = 9 then vErr t.n path.reverse false else 0
def firstE : List (List Ty × Int × Ty) → Int
  | [] => 0
  | x :: r => if nodeErr x.1 x.2.1 x.2.2 = 0 then firstE r else nodeErr x.1 x.2.1 x.2.2
theorem firstE_append (l r : List (List Ty × Int × Ty)) : firstE (l ++ r) = if firstE l = 0 then firstE r else firstE l := by
  induction l with
  | nil => simp [firstE]
  | cons x l ih =>
    simp only [List.cons_append, firstE, ih]
    by_cases h : nodeErr x.1 x.2.1 x.2.2 = 0
    · simp [h]
    · simp [h]

/-! ### They agree -/
/-- The names of the TRecs of a path, and how many of them an action follows. -/
def pathN (path : List Ty) : List ByteArray := (path.filter fun u => u.k == 8).map Ty.n
def pathG : List Ty → Nat → Nat → Nat
  | [], _, g => g
  | u :: r, m, g => if u.k = 8 then pathG r (m + 1) g else pathG r m m
def pathA (path : List Ty) : Nat := pathG path 0 0
theorem pathN_snoc (path : List Ty) (u : Ty) : pathN (path ++ [u]) = if u.k = 8 then pathN path ++ [u.n] else pathN path := by
  unfold pathN
  by_cases h : u.k = 8 <;> simp [List.filter_append, h]
theorem pathG_append (path : List Ty) (u : Ty) : ∀ m g, pathG (path ++ [u]) m g = if u.k = 8 then pathG path m g else m + (pathN path).length := by
  induction path with
  | nil => intro m g; by_cases h : u.k = 8 <;> simp [pathG, pathN, h]
  | cons v r ih =>
    intro m g
    rw [List.cons_append, pathG, pathG, ih, ih]
    by_cases hv : v.k = 8
    · have e : (pathN (v :: r)).length = (pathN r).length + 1 := by simp [pathN, hv]
      by_cases h : u.k = 8
      · simp [hv, h]
      · simp only [hv, h, if_true, if_false]; omega
    · have e : (pathN (v :: r)).length = (pathN r).length := by simp [pathN, hv]
      by_cases h : u.k = 8
      · simp [hv, h]
      · simp only [hv, h, if_false]; omega
theorem pathA_snoc (path : List Ty) (u : Ty) : pathA (path ++ [u]) = if u.k = 8 then pathA path else (pathN path).length := by
  unfold pathA; rw [pathG_append]; simp
theorem pathA_le (path : List Ty) : pathA path ≤ (pathN path).length := by
  rcases List.eq_nil_or_concat path with rfl | ⟨l, u, rfl⟩
  · simp [pathA, pathG]
  · have ih := pathA_le l
    rw [List.concat_eq_append, pathA_snoc, pathN_snoc]
    by_cases h : u.k = 8
    · simp only [h, if_true, List.length_append, List.length_cons, List.length_nil]; omega
    · simp [h]
termination_by path.length

theorem vR_prefix (l : List ByteArray) (x : ByteArray) (g : Nat) (n : ByteArray) : ∀ i, i ≤ l.length → vR (l ++ [x]) g n i = vR l g n i
  | 0, _ => rfl
  | i + 1, h => by rw [vR, vR, List.getElem?_append_left (by omega), vR_prefix l x g n i (by omega)]
theorem vR_snoc (l : List ByteArray) (x : ByteArray) (g : Nat) (n : ByteArray) : varR (l ++ [x]) g n = if x = n then (if l.length < g then 0 else 3) else varR l g n := by
  unfold varR
  rw [List.length_append, List.length_cons, List.length_nil, vR, List.getElem?_append_right (Nat.le_refl _), Nat.sub_self, vR_prefix l x g n _ (Nat.le_refl _)]
  by_cases h : x = n <;> simp [h]
theorem vR_all (l : List ByteArray) (n : ByteArray) : ∀ i g, i ≤ l.length → i ≤ g → vR l g n i = vR l i n i ∧ (vR l g n i = 0 ∨ vR l g n i = 4)
  | 0, g, _, _ => ⟨rfl, .inr rfl⟩
  | i + 1, g, h, hg => by
    have h1 := vR_all l n i g (by omega) (by omega)
    have h2 := vR_all l n i (i + 1) (by omega) (by omega)
    rw [vR, vR]
    by_cases e : l[i]? = some n
    · simp only [e, if_true]
      rw [if_pos (by omega), if_pos (by omega)]
      exact ⟨rfl, .inl rfl⟩
    · simp only [e, if_false]
      exact ⟨h1.1.trans h2.1.symm, h1.2⟩
/-- Nodes that stand around others are of the kinds that have Kids. -/
def Around (path : List Ty) : Prop := ∀ u ∈ path, u.k = 8 ∨ actB u.k = true
theorem vErr_true (n : ByteArray) : ∀ path : List Ty, vErr n path.reverse true = varR (pathN path) (pathN path).length n
  | path => by
    rcases List.eq_nil_or_concat path with rfl | ⟨l, u, rfl⟩
    · rfl
    · have ih := vErr_true n l
      rw [List.concat_eq_append, List.reverse_append, List.reverse_cons, List.reverse_nil, List.nil_append, List.singleton_append, vErr, pathN_snoc, Bool.true_or]
      by_cases h : u.k = 8
      · simp only [h, true_and, if_true]
        rw [vR_snoc, List.length_append, List.length_cons, List.length_nil]
        by_cases e : u.n = n
        · simp [e]
        · simp only [e, if_false, ih]
          unfold varR
          rw [(vR_all _ n _ (pathN l).length (Nat.le_refl _) (Nat.le_refl _)).1, ← (vR_all _ n _ ((pathN l).length + 0 + 1) (Nat.le_refl _) (by omega)).1]
      · simp only [h, false_and, if_false, ih]
termination_by path => path.length
theorem vErr_path (n : ByteArray) : ∀ path : List Ty, Around path → vErr n path.reverse false = varR (pathN path) (pathA path) n
  | path, ha => by
    rcases List.eq_nil_or_concat path with rfl | ⟨l, u, rfl⟩
    · rfl
    · rw [List.concat_eq_append] at ha ⊢
      have ih := vErr_path n l (fun v hv => ha v (by simp [hv]))
      rw [List.reverse_append, List.reverse_cons, List.reverse_nil, List.nil_append, List.singleton_append, vErr, pathN_snoc, pathA_snoc, Bool.false_or]
      by_cases h : u.k = 8
      · have hact : actB u.k = false := by rw [h]; rfl
        simp only [h, true_and, if_true]
        rw [vR_snoc]
        have := pathA_le l
        by_cases e : u.n = n
        · have hq : ¬ (pathN l).length < pathA l := by omega
          simp [e, hq]
        · simp only [e, if_false]; rw [show actB 8 = false from rfl, ih]
      · have hact : actB u.k = true := (ha u (by simp)).resolve_left h
        simp only [h, false_and, if_false, hact]
        exact vErr_true n l
termination_by path => path.length

theorem actB_iff (k : Int) : actB k = true ↔ k = 4 ∨ k = 5 ∨ k = 6 ∨ k = 7 := by
  unfold actB; simp; omega
/-- A node of the right shape that has Kids is of a kind that may stand around others. -/
theorem shape_around {t : Ty} (h : t.shape = true) (hk : t.ts ≠ []) : t.k = 8 ∨ actB t.k = true := by
  unfold Ty.shape shapeC at h
  have hm : t.ts.length ≠ 0 := fun e => hk (List.length_eq_zero_iff.1 e)
  rw [actB_iff]
  by_cases h1 : t.k = 1 ∨ t.k = 2 ∨ t.k = 3
  · rw [if_pos h1] at h; simp [hk] at h
  · rw [if_neg h1] at h
    by_cases h2 : t.k = 4 ∨ t.k = 5
    · omega
    · rw [if_neg h2] at h
      by_cases h3 : t.k = 6 ∨ t.k = 7
      · omega
      · rw [if_neg h3] at h
        by_cases h4 : t.k = 8
        · exact .inl h4
        · rw [if_neg h4] at h
          by_cases h5 : t.k = 9
          · rw [if_pos h5] at h; simp [hk] at h
          · rw [if_neg h5] at h; cases h

/-- Must the Kid at an index be a session type? -/
def needS (path : List Ty) (kid : Int) : Bool := match path.getLast? with | none => false | some u => !decide (kid < paysK u.k)
theorem mayStand_need (path : List Ty) (kid k : Int) : mayStandB path kid k = false ↔ (needS path kid = true ∧ sessK k = false) := by
  unfold mayStandB needS
  cases path.getLast? with
  | none => simp
  | some u => simp [and_comm]

theorem agree : ∀ (t : Ty) (path : List Ty) (kid : Int), Around path → firstE (preT path kid t) = nodeR (pathN path) (pathA path) (needS path kid) t := by
  refine Ty.ind ?_
  intro k p n s ls ts ih path kid hp
  rw [preT_eq, firstE]
  obtain ⟨t, ht⟩ : ∃ t, Ty.mk k p n s ls ts = t := ⟨_, rfl⟩
  have hts : ts = t.ts := by rw [← ht]; rfl
  have hR : nodeR (pathN path) (pathA path) (needS path kid) t = (if t.shape = false ∨ (needS path kid = true ∧ sessK t.k = false) then 3 else if t.k = 9 then varR (pathN path) (pathA path) t.n else if t.k = 8 then kidsR (pathN path ++ [t.n]) (pathA path) true 0 t.ts else kidsR (pathN path) (pathN path).length (decide (5 < t.k)) 0 t.ts) := by
    rw [← ht, nodeR]; rfl
  rw [ht, hR]
  simp only [nodeErr, mayStand_need]
  by_cases hbad : t.shape = false ∨ (needS path kid = true ∧ sessK t.k = false)
  · simp [hbad]
  · rw [if_neg hbad, if_neg hbad]
    have hsh : t.shape = true := by
      cases e : t.shape with
      | true => rfl
      | false => exact absurd (.inl e) hbad
    by_cases h9 : t.k = 9
    · rw [if_pos h9, if_pos h9, vErr_path t.n path hp]
      have h0 : t.ts = [] := by
        unfold Ty.shape shapeC at hsh
        rw [if_neg (by omega), if_neg (by omega), if_neg (by omega), if_neg (by omega), if_pos h9] at hsh
        simp at hsh
        exact hsh.2.2.2.2
      rw [h0]
      simp [preTs, firstE]
      intro h; exact h.symm
    · rw [if_neg h9, if_neg h9, if_pos rfl]
      have hkids : ∀ (l : List Ty) (i : Nat), (∀ u ∈ l, u ∈ ts) → l ≠ [] → firstE (preTs (path ++ [t]) i l) = kidsR (pathN (path ++ [t])) (pathA (path ++ [t])) (decide (5 < t.k)) i l := by
        intro l
        induction l with
        | nil => intro i _ h; exact absurd rfl h
        | cons u r ihl =>
          intro i hmem _
          have hne : t.ts ≠ [] := by rw [← hts]; intro e; have := hmem u (by simp); rw [e] at this; cases this
          have hA := shape_around hsh hne
          have har : Around (path ++ [t]) := fun v hv => by
            rcases List.mem_append.1 hv with hv | hv
            · exact hp v hv
            · simp at hv; rw [hv]; exact hA
          have hneed : needS (path ++ [t]) i = (decide (5 < t.k) || decide (0 < i)) := by
            unfold needS paysK
            rw [List.getLast?_append]
            simp only [List.getLast?_singleton, Option.some_or]
            rw [actB_iff] at hA
            by_cases h45 : t.k = 4 ∨ t.k = 5
            · rw [if_pos h45, show decide (5 < t.k) = false by simp; omega, Bool.false_or, Bool.eq_iff_iff]; simp; omega
            · rw [if_neg h45, show decide (5 < t.k) = true by simp; omega]; simp
          rw [preTs, firstE_append, kidsR, ih u (hmem u (by simp)) (path ++ [t]) i har, hneed]
          by_cases h0 : nodeR (pathN (path ++ [t])) (pathA (path ++ [t])) (decide (5 < t.k) || decide (0 < i)) u = 0
          · rw [if_pos h0, if_pos h0]
            cases r with
            | nil => rfl
            | cons v r => exact ihl (i + 1) (fun w hw => hmem w (by simp [hw])) (by simp)
          · rw [if_neg h0, if_neg h0]
      rw [← hts]
      by_cases hnil : ts = []
      · rw [hnil]; simp [preTs, firstE, kidsR]
      · have h := hkids ts 0 (fun _ h => h) hnil
        rw [show ((0 : Nat) : Int) = 0 from rfl] at h
        rw [h, pathN_snoc, pathA_snoc]
        by_cases h8 : t.k = 8
        · simp [h8]
        · simp [h8]

/-- What both return. -/
def rightE (t : Ty) : Int := if t.large then 2 else firstE (preT [] 0 t)
theorem rightE_eq (t : Ty) : rightE t = if t.large then 2 else nodeR [] 0 false t := by
  unfold rightE
  rw [agree t [] 0 (fun u hu => by cases hu)]
  rfl

end Go.Proofs.YtjmnaibbljakaaaGreatDoor
