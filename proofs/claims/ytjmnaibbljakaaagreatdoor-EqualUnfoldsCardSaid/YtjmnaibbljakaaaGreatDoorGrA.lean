/- Graphs of types (mathematics): the program's way and the reference's way make the same nodes and references of right types. -/
import Derived.Test.YtjmnaibbljakaaaGreatDoorTyPa
namespace Go.Proofs.YtjmnaibbljakaaaGreatDoor
open Go.RowKit

/-- A reference: a node and a shift. -/
structure GRef where
  n : Nat
  s : Int
/-- A node of a graph. -/
structure GNode where
  k : Int
  p : Int
  ls : List ByteArray
  nx : List GRef

mutual
/-- The nodes that are neither TRec nor TVar. -/
def Ty.gcnt : Ty → Nat
  | .mk k _ _ _ _ ts => (if k ≤ 7 then 1 else 0) + Ty.gcnts ts
def Ty.gcnts : List Ty → Nat
  | [] => 0
  | t :: r => t.gcnt + Ty.gcnts r
end
theorem Ty.gcnts_append (l r : List Ty) : Ty.gcnts (l ++ r) = Ty.gcnts l + Ty.gcnts r := by
  induction l with
  | nil => simp [Ty.gcnts]
  | cons t l ih => simp only [List.cons_append, Ty.gcnts, ih]; omega
mutual
theorem Ty.gcnt_le : ∀ t : Ty, t.gcnt ≤ t.size
  | .mk k _ _ _ _ ts => by
    have := Ty.gcnts_le ts
    simp only [Ty.gcnt, Ty.size]
    split <;> omega
theorem Ty.gcnts_le : ∀ ts : List Ty, Ty.gcnts ts ≤ Ty.sizes ts
  | [] => by simp [Ty.gcnts, Ty.sizes]
  | t :: r => by have := Ty.gcnt_le t; have := Ty.gcnts_le r; simp only [Ty.gcnts, Ty.sizes]; omega
end

/-! ### The reference's way -/
/-- Names with references, the outermost first. -/
abbrev GEnv := List (ByteArray × GRef)
/-- The reference of a name: the innermost one. -/
def lookE (x : ByteArray) : GEnv → Option GRef
  | [] => none
  | (y, r) :: l => match lookE x l with
    | some q => some q
    | none => if y = x then some r else none
theorem lookE_snoc (x : ByteArray) (l : GEnv) (y : ByteArray) (r : GRef) : lookE x (l ++ [(y, r)]) = if y = x then some r else lookE x l := by
  induction l with
  | nil => simp [lookE]
  | cons a l ih =>
    obtain ⟨z, q⟩ := a
    simp only [List.cons_append, lookE, ih]
    by_cases h : y = x
    · simp [h]
    · simp [h]

mutual
def Ty.gref (at_ : Nat) (env : GEnv) : Ty → GRef
  | .mk k _ n s _ ts => if k = 8 then Ty.gref1 at_ env ts else if k = 9 then (match lookE n env with | some r => ⟨r.n, r.s + s⟩ | none => ⟨at_, 0⟩) else ⟨at_, 0⟩
def Ty.gref1 (at_ : Nat) (env : GEnv) : List Ty → GRef
  | [] => ⟨at_, 0⟩
  | t :: _ => t.gref at_ env
end
/-- The references of types that stand one beside the other. -/
def Ty.grefs (at_ : Nat) (env : GEnv) : List Ty → List GRef
  | [] => []
  | t :: r => t.gref at_ env :: Ty.grefs (at_ + t.gcnt) env r
mutual
def Ty.gnod (at_ : Nat) (env : GEnv) : Ty → List GNode
  | .mk k p n _ ls ts => if k = 8 then Ty.gnod1 at_ (env ++ [(n, Ty.gref1 at_ env ts)]) ts else if k = 9 then [] else ⟨k, p, ls, Ty.grefs (at_ + 1) env ts⟩ :: Ty.gnods (at_ + 1) env ts
def Ty.gnod1 (at_ : Nat) (env : GEnv) : List Ty → List GNode
  | [] => []
  | t :: _ => t.gnod at_ env
def Ty.gnods (at_ : Nat) (env : GEnv) : List Ty → List GNode
  | [] => []
  | t :: r => t.gnod at_ env ++ Ty.gnods (at_ + t.gcnt) env r
end

/-! ### The program's way -/
/-- A name's node, behind a further name. -/
def upE (e : ByteArray → Nat) (n : ByteArray) (i : Nat) : ByteArray → Nat := fun x => if n = x then i else e x
mutual
def Ty.pref (at_ : Nat) (e : ByteArray → Nat) : Ty → GRef
  | .mk k _ n s _ ts => if k = 8 then Ty.pref1 at_ (upE e n at_) ts else if k = 9 then ⟨e n, s⟩ else ⟨at_, 0⟩
def Ty.pref1 (at_ : Nat) (e : ByteArray → Nat) : List Ty → GRef
  | [] => ⟨at_, 0⟩
  | t :: _ => t.pref at_ e
end
def Ty.prefs (at_ : Nat) (e : ByteArray → Nat) : List Ty → List GRef
  | [] => []
  | t :: r => t.pref at_ e :: Ty.prefs (at_ + t.gcnt) e r
mutual
def Ty.pnod (at_ : Nat) (e : ByteArray → Nat) : Ty → List GNode
  | .mk k p n _ ls ts => if k = 8 then Ty.pnod1 at_ (upE e n at_) ts else if k = 9 then [] else ⟨k, p, ls, Ty.prefs (at_ + 1) e ts⟩ :: Ty.pnods (at_ + 1) e ts
def Ty.pnod1 (at_ : Nat) (e : ByteArray → Nat) : List Ty → List GNode
  | [] => []
  | t :: _ => t.pnod at_ e
def Ty.pnods (at_ : Nat) (e : ByteArray → Nat) : List Ty → List GNode
  | [] => []
  | t :: r => t.pnod at_ e ++ Ty.pnods (at_ + t.gcnt) e r
end

/-! ### Both agree on right types -/
mutual
/-- Behind TRecs directly inside each other stands a node of the graph. -/
def Ty.real : Ty → Bool
  | .mk k _ _ _ _ ts => if k = 8 then Ty.real1 ts else k != 9
def Ty.real1 : List Ty → Bool
  | [] => true
  | t :: _ => t.real
end
theorem nodeR_shape {names : List ByteArray} {g : Nat} {se : Bool} {k p s : Int} {n : ByteArray} {ls : List ByteArray} {ts : List Ty} (h : nodeR names g se (.mk k p n s ls ts) = 0) :
    shapeC k p s n ls ts.length = true ∧ (if k = 9 then varR names g n else if k = 8 then kidsR (names ++ [n]) g true 0 ts else kidsR names names.length (decide (5 < k)) 0 ts) = 0 := by
  rw [nodeR] at h
  split at h
  · exact absurd h (by decide)
  · next hs =>
    refine ⟨?_, h⟩
    cases e : shapeC k p s n ls ts.length with
    | true => rfl
    | false => exact absurd (.inl e) hs
theorem shape_8 {p s : Int} {n : ByteArray} {ls : List ByteArray} {m : Nat} (h : shapeC 8 p s n ls m = true) : m = 1 := by
  rw [shapeC, if_neg (by omega), if_neg (by omega), if_neg (by omega), if_pos rfl] at h
  simp at h
  exact h.2.2.2.2
theorem shape_9 {p s : Int} {n : ByteArray} {ls : List ByteArray} {m : Nat} (h : shapeC 9 p s n ls m = true) : m = 0 := by
  rw [shapeC, if_neg (by omega), if_neg (by omega), if_neg (by omega), if_neg (by omega), if_pos rfl] at h
  simp at h
  exact h.2.2.2.2
theorem shape_k {k p s : Int} {n : ByteArray} {ls : List ByteArray} {m : Nat} (h : shapeC k p s n ls m = true) : 1 ≤ k ∧ k ≤ 9 := by
  unfold shapeC at h
  split at h
  · omega
  · split at h
    · omega
    · split at h
      · omega
      · split at h
        · omega
        · split at h
          · omega
          · cases h
theorem kidsR_all {names : List ByteArray} {g : Nat} {f : Bool} : ∀ {ts : List Ty} {i : Nat}, kidsR names g f i ts = 0 → ∀ t ∈ ts, ∃ se, nodeR names g se t = 0
  | [], _, _, t, ht => by cases ht
  | u :: r, i, h, t, ht => by
    rw [kidsR] at h
    by_cases h0 : nodeR names g (f || decide (0 < i)) u = 0
    · rw [if_pos h0] at h
      rcases List.mem_cons.1 ht with rfl | ht
      · exact ⟨_, h0⟩
      · exact kidsR_all h t ht
    · rw [if_neg h0] at h; exact absurd h h0
theorem varR_all {names : List ByteArray} {x : ByteArray} (h : varR names names.length x = 0) : x ∈ names := by
  have : ∀ i, vR names names.length x i = 0 → x ∈ names := by
    intro i
    induction i with
    | zero => intro h; rw [vR] at h; cases h
    | succ i ih =>
      intro h
      rw [vR] at h
      by_cases e : names[i]? = some x
      · exact List.mem_of_getElem? e
      · rw [if_neg e] at h; exact ih h
  exact this _ h

/-- The reference of a type. -/
theorem gref_eq : ∀ (t : Ty) (names : List ByteArray) (g : Nat) (se : Bool) (at_ : Nat) (e : ByteArray → Nat) (env : GEnv), g ≤ names.length → nodeR names g se t = 0 → (∀ x, varR names g x = 0 → lookE x env = some ⟨e x, 0⟩) → t.pref at_ e = t.gref at_ env := by
  refine Ty.ind ?_
  intro k p n s ls ts ih names g se at_ e env hg h hA
  obtain ⟨hs, h2⟩ := nodeR_shape h
  rw [Ty.pref, Ty.gref]
  by_cases h8 : k = 8
  · subst h8
    rw [if_pos rfl, if_pos rfl]
    rw [if_neg (by decide), if_pos rfl] at h2
    have h1 := shape_8 hs
    obtain ⟨u, rfl⟩ : ∃ u, ts = [u] := by
      match ts, h1 with
      | [u], _ => exact ⟨u, rfl⟩
    obtain ⟨se', hu⟩ := kidsR_all h2 u (by simp)
    rw [Ty.pref1, Ty.gref1]
    refine ih u (by simp) (names ++ [n]) g se' at_ (upE e n at_) env (by rw [List.length_append]; omega) hu (fun x hx => ?_)
    rw [vR_snoc] at hx
    by_cases hnx : n = x
    · rw [if_pos hnx, if_neg (by omega)] at hx; cases hx
    · rw [if_neg hnx] at hx
      rw [hA x hx, upE, if_neg hnx]
  · rw [if_neg h8, if_neg h8]
    by_cases h9 : k = 9
    · rw [if_pos h9, if_pos h9]
      rw [if_pos h9] at h2
      rw [hA n h2]
      show _ = (⟨e n, 0 + s⟩ : GRef)
      rw [Int.zero_add]
    · rw [if_neg h9, if_neg h9]

theorem real_gref : ∀ (t : Ty) (at_ : Nat) (env : GEnv), t.real = true → t.gref at_ env = ⟨at_, 0⟩ := by
  refine Ty.ind ?_
  intro k p n s ls ts ih at_ env h
  rw [Ty.real] at h
  rw [Ty.gref]
  by_cases h8 : k = 8
  · rw [if_pos h8] at h ⊢
    match ts, ih, h with
    | [], _, _ => rw [Ty.gref1]
    | u :: _, ih, h => rw [Ty.real1] at h; rw [Ty.gref1]; exact ih u (by simp) at_ env h
  · rw [if_neg h8] at h ⊢
    rw [if_neg (by simpa using h)]

/-- The nodes of a type. -/
theorem gnod_eq : ∀ (t : Ty) (names : List ByteArray) (g : Nat) (se : Bool) (at_ : Nat) (e : ByteArray → Nat) (env : GEnv), g ≤ names.length → nodeR names g se t = 0 → (∀ x, varR names g x = 0 → lookE x env = some ⟨e x, 0⟩) → (t.real = true → ∀ x ∈ names, lookE x env = some ⟨e x, 0⟩) → t.pnod at_ e = t.gnod at_ env := by
  refine Ty.ind ?_
  intro k p n s ls ts ih names g se at_ e env hg h hA hP
  obtain ⟨hs, h2⟩ := nodeR_shape h
  rw [Ty.pnod, Ty.gnod]
  rw [Ty.real] at hP
  by_cases h8 : k = 8
  · subst h8
    rw [if_pos rfl, if_pos rfl]
    rw [if_neg (by decide), if_pos rfl] at h2
    rw [if_pos rfl] at hP
    have h1 := shape_8 hs
    obtain ⟨u, rfl⟩ : ∃ u, ts = [u] := by
      match ts, h1 with
      | [u], _ => exact ⟨u, rfl⟩
    obtain ⟨se', hu⟩ := kidsR_all h2 u (by simp)
    rw [Ty.real1] at hP
    rw [Ty.pnod1, Ty.gnod1, Ty.gref1]
    refine ih u (by simp) (names ++ [n]) g se' at_ (upE e n at_) _ (by rw [List.length_append]; omega) hu (fun x hx => ?_) (fun hr x hx => ?_)
    · rw [vR_snoc] at hx
      by_cases hnx : n = x
      · rw [if_pos hnx, if_neg (by omega)] at hx; cases hx
      · rw [if_neg hnx] at hx
        rw [lookE_snoc, if_neg hnx, hA x hx, upE, if_neg hnx]
    · rw [lookE_snoc]
      by_cases hnx : n = x
      · rw [if_pos hnx, upE, if_pos hnx, real_gref u at_ env hr]
      · rw [if_neg hnx, upE, if_neg hnx]
        rcases List.mem_append.1 hx with hx | hx
        · exact hP hr x hx
        · exact absurd (List.mem_singleton.1 hx).symm hnx
  · rw [if_neg h8, if_neg h8]
    rw [if_neg h8] at hP
    by_cases h9 : k = 9
    · rw [if_pos h9, if_pos h9]
    · rw [if_neg h9, if_neg h9]
      rw [if_neg h9, if_neg h8] at h2
      have hN := hP (by simpa using h9)
      have hA' : ∀ x, varR names names.length x = 0 → lookE x env = some ⟨e x, 0⟩ := fun x hx => hN x (varR_all hx)
      have hk := kidsR_all h2
      have h1 : ∀ (l : List Ty) (i : Nat), (∀ t ∈ l, t ∈ ts) → Ty.prefs i e l = Ty.grefs i env l := by
        intro l
        induction l with
        | nil => intro i _; rfl
        | cons t r ihl =>
          intro i hm
          obtain ⟨se', ht⟩ := hk t (hm t (by simp))
          rw [Ty.prefs, Ty.grefs, gref_eq t names names.length se' i e env (Nat.le_refl _) ht hA', ihl _ (fun u hu => hm u (by simp [hu]))]
      have h3 : ∀ (l : List Ty) (i : Nat), (∀ t ∈ l, t ∈ ts) → Ty.pnods i e l = Ty.gnods i env l := by
        intro l
        induction l with
        | nil => intro i _; rw [Ty.pnods, Ty.gnods]
        | cons t r ihl =>
          intro i hm
          obtain ⟨se', ht⟩ := hk t (hm t (by simp))
          rw [Ty.pnods, Ty.gnods, ih t (hm t (by simp)) names names.length se' i e env (Nat.le_refl _) ht hA' (fun _ => hN), ihl _ (fun u hu => hm u (by simp [hu]))]
      rw [h1 ts _ (fun _ h => h), h3 ts _ (fun _ h => h)]

/-- How many nodes a type of the graph becomes. -/
theorem pnod_len : ∀ (t : Ty) (names : List ByteArray) (g : Nat) (se : Bool) (at_ : Nat) (e : ByteArray → Nat), nodeR names g se t = 0 → (t.pnod at_ e).length = t.gcnt := by
  refine Ty.ind ?_
  intro k p n s ls ts ih names g se at_ e h
  obtain ⟨hs, h2⟩ := nodeR_shape h
  have hk9 := shape_k hs
  rw [Ty.pnod, Ty.gcnt]
  by_cases h8 : k = 8
  · subst h8
    rw [if_pos rfl, if_neg (by decide), Nat.zero_add]
    rw [if_neg (by decide), if_pos rfl] at h2
    have h1 := shape_8 hs
    obtain ⟨u, rfl⟩ : ∃ u, ts = [u] := by
      match ts, h1 with
      | [u], _ => exact ⟨u, rfl⟩
    obtain ⟨se', hu⟩ := kidsR_all h2 u (by simp)
    rw [Ty.pnod1, ih u (by simp) _ _ _ _ _ hu]
    simp [Ty.gcnts]
  · rw [if_neg h8]
    by_cases h9 : k = 9
    · subst h9
      rw [if_pos rfl, if_neg (by decide)]
      have h0 := shape_9 hs
      have : ts = [] := List.length_eq_zero_iff.1 h0
      subst this
      simp [Ty.gcnts]
    · rw [if_neg h9, if_pos (by omega)]
      rw [if_neg h9, if_neg h8] at h2
      have hk := kidsR_all h2
      have h3 : ∀ (l : List Ty) (i : Nat), (∀ t ∈ l, t ∈ ts) → (Ty.pnods i e l).length = Ty.gcnts l := by
        intro l
        induction l with
        | nil => intro i _; rw [Ty.pnods, Ty.gcnts]; rfl
        | cons t r ihl =>
          intro i hm
          obtain ⟨se', ht⟩ := hk t (hm t (by simp))
          rw [Ty.pnods, Ty.gcnts, List.length_append, ih t (hm t (by simp)) _ _ _ _ _ ht, ihl _ (fun u hu => hm u (by simp [hu]))]
      rw [List.length_cons, h3 ts _ (fun _ h => h)]
      omega

end Go.Proofs.YtjmnaibbljakaaaGreatDoor
