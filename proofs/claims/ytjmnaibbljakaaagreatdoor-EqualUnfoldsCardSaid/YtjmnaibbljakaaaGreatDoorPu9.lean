/- Contexts (mathematics): the first action of a type, behind TRecs; its node in the graph; what unfolding keeps. (and what follows from it) -/
import Derived.Test.YtjmnaibbljakaaaGreatDoorPu8
import Derived.Test.YtjmnaibbljakaaaGreatDoorPu7
import Derived.Deep.RegionHeld3

/- Contexts (mathematics): the first action of a type, behind TRecs; its node in the graph; what unfolding keeps. -/
namespace Go.Proofs.YtjmnaibbljakaaaGreatDoor
open Go.RowKit

mutual
/-- The kind behind TRecs. -/
def Ty.hk : Ty → Int
  | .mk k _ _ _ _ ts => if k = 8 then Ty.hk1 ts else k
def Ty.hk1 : List Ty → Int
  | [] => 8
  | t :: _ => t.hk
end
mutual
/-- .. and the priority. -/
def Ty.hp : Ty → Int
  | .mk k p _ _ _ ts => if k = 8 then Ty.hp1 ts else p
def Ty.hp1 : List Ty → Int
  | [] => 0
  | t :: _ => t.hp
end
mutual
/-- How many TRecs stand in front. -/
def Ty.rc : Ty → Nat
  | .mk k _ _ _ _ ts => if k = 8 then Ty.rc1 ts + 1 else 0
def Ty.rc1 : List Ty → Nat
  | [] => 0
  | t :: _ => t.rc
end
/-- The priority of a type that begins with an action. -/
def Ty.pri (t : Ty) : Option Int := if actI t.hk = true then some t.hp else none

theorem pnod_hd : ∀ (t : Ty) (i : Nat) (e : ByteArray → Nat), t.okg → t.real = true → ∃ ls nx r, t.pnod i e = ⟨t.hk, t.hp, ls, nx⟩ :: r := by
  refine Ty.ind ?_
  intro k p n s ls ts ih i e hok hr
  simp only [Ty.okg] at hok
  by_cases h8 : k = 8
  · subst h8
    have hl := hok.2.1 rfl
    match ts, hl, ih, hok, hr with
    | [t], _, ih, hok, hr =>
      rw [Ty.real, if_pos rfl, Ty.real1] at hr
      simp only [Ty.okgs] at hok
      obtain ⟨ls', nx, r, h⟩ := ih t (by simp) i (upE e n i) hok.2.2.2.2.1 hr
      refine ⟨ls', nx, r, ?_⟩
      rw [Ty.pnod, if_pos rfl, Ty.pnod1, h, Ty.hk, if_pos rfl, Ty.hk1, Ty.hp, if_pos rfl, Ty.hp1]
  · by_cases h9 : k = 9
    · subst h9
      rw [Ty.real, if_neg (by decide)] at hr
      simp at hr
    · refine ⟨ls, Ty.prefs (i + 1) e ts, Ty.pnods (i + 1) e ts, ?_⟩
      rw [Ty.pnod, if_neg h8, if_neg h9, Ty.hk, if_neg h8, Ty.hp, if_neg h8]

/-- The reference of a type of a list, and its node. -/
theorem head_at (e : ByteArray → Nat) : ∀ (l : List Ty) (i : Nat) (j : Nat) (t : Ty), (∀ t ∈ l, t.okg ∧ t.real = true) → l[j]? = some t → ∃ a ls nx, (Ty.prefs i e l)[j]? = some ⟨i + a, 0⟩ ∧ (Ty.pnods i e l)[a]? = some ⟨t.hk, t.hp, ls, nx⟩
  | [], _, _, _, _, h => by simp at h
  | u :: r, i, 0, t, hl, h => by
    obtain rfl : u = t := by simpa using h
    obtain ⟨h1, h2⟩ := hl u (by simp)
    obtain ⟨ls, nx, q, hq⟩ := pnod_hd u i e h1 h2
    refine ⟨0, ls, nx, ?_, ?_⟩
    · rw [Ty.prefs, real_pref u i e h2]; rfl
    · rw [Ty.pnods, hq]; rfl
  | u :: r, i, j + 1, t, hl, h => by
    obtain ⟨a, ls, nx, h1, h2⟩ := head_at e r (i + u.gcnt) j t (fun t ht => hl t (by simp [ht])) (by simpa using h)
    refine ⟨u.gcnt + a, ls, nx, ?_, ?_⟩
    · rw [Ty.prefs, List.getElem?_cons_succ, h1, Nat.add_assoc]
    · have hlen := pnod_ok u (hl u (by simp)).1 i e
      rw [Ty.pnods, List.getElem?_append_right (by rw [hlen]; exact Nat.le_add_right _ _), hlen, Nat.add_sub_cancel_left, h2]
theorem pri_at {ts : List Ty} (h : ∀ t ∈ ts, nodeR [] 0 false t = 0 ∧ t.okg) {j : Nat} {t : Ty} (hj : ts[j]? = some t) : ∃ r, (gRefs ts)[j]? = some r ∧ prioE (gNodes ts) r = t.pri := by
  obtain ⟨a, ls, nx, h1, h2⟩ := head_at (fun _ => 0) ts 0 j t (fun t ht => ⟨(h t ht).2, real_of t [] false (h t ht).1⟩) hj
  refine ⟨⟨0 + a, 0⟩, h1, ?_⟩
  have h3 : (gNodes ts)[0 + a]? = some ⟨t.hk, t.hp, ls, nx⟩ := by rw [Nat.zero_add]; exact h2
  unfold prioE Ty.pri
  rw [h3]
  simp
/-! ### Unfolding -/
mutual
/-- TRecs in front, one inside the other, and no variable behind them. -/
def Ty.ch : Ty → Bool
  | .mk k _ _ _ _ ts => if k = 8 then Ty.ch1 ts else k != 9
def Ty.ch1 : List Ty → Bool
  | [] => false
  | t :: r => t.ch && r.isEmpty
end
theorem ch_8 {p s : Int} {n : ByteArray} {ls : List ByteArray} {ts : List Ty} (h : (Ty.mk 8 p n s ls ts).ch = true) : ∃ b, ts = [b] ∧ b.ch = true := by
  rw [Ty.ch, if_pos rfl] at h
  match ts, h with
  | [b], h => rw [Ty.ch1] at h; exact ⟨b, rfl, by simpa using h⟩
  | [], h => rw [Ty.ch1] at h; cases h
  | b :: c :: r, h => rw [Ty.ch1] at h; simp at h
theorem ch_of : ∀ t : Ty, t.okg → t.real = true → t.ch = true := by
  refine Ty.ind ?_
  intro k p n s ls ts ih hok hr
  simp only [Ty.okg] at hok
  by_cases h8 : k = 8
  · subst h8
    have hl := hok.2.1 rfl
    match ts, hl, ih, hok, hr with
    | [t], _, ih, hok, hr =>
      rw [Ty.real, if_pos rfl, Ty.real1] at hr
      simp only [Ty.okgs] at hok
      rw [Ty.ch, if_pos rfl, Ty.ch1, ih t (by simp) hok.2.2.2.2.1 hr]
      rfl
  · rw [Ty.real, if_neg h8] at hr
    rw [Ty.ch, if_neg h8]
    exact hr
theorem put_hd (nm : ByteArray) (by_ : Ty) : ∀ b : Ty, b.ch = true → (Ty.put nm by_ b).hk = b.hk ∧ (Ty.put nm by_ b).hp = b.hp ∧ (Ty.put nm by_ b).rc = b.rc ∧ (Ty.put nm by_ b).ch = true := by
  refine Ty.ind ?_
  intro k p n s ls ts ih hc
  by_cases h8 : k = 8
  · subst h8
    obtain ⟨t, rfl, ht⟩ := ch_8 hc
    rw [Ty.put, putC, if_neg (by rintro ⟨h, _⟩; exact absurd h (by decide))]
    by_cases hn : n = nm
    · rw [if_pos ⟨rfl, hn⟩]
      exact ⟨rfl, rfl, rfl, hc⟩
    · rw [if_neg (by rintro ⟨_, h⟩; exact hn h), Ty.puts, Ty.puts]
      obtain ⟨h1, h2, h3, h4⟩ := ih t (by simp) ht
      refine ⟨?_, ?_, ?_, ?_⟩
      · rw [Ty.hk, if_pos rfl, Ty.hk1, h1, Ty.hk, if_pos rfl, Ty.hk1]
      · rw [Ty.hp, if_pos rfl, Ty.hp1, h2, Ty.hp, if_pos rfl, Ty.hp1]
      · rw [Ty.rc, if_pos rfl, Ty.rc1, h3, Ty.rc, if_pos rfl, Ty.rc1]
      · rw [Ty.ch, if_pos rfl, Ty.ch1, h4]; rfl
  · have h9 : k ≠ 9 := by
      rintro rfl
      rw [Ty.ch, if_neg (by decide)] at hc
      simp at hc
    rw [Ty.put, putC, if_neg (fun h => h9 h.1), if_neg (fun h => h8 h.1)]
    refine ⟨?_, ?_, ?_, ?_⟩
    · rw [Ty.hk, if_neg h8, Ty.hk, if_neg h8]
    · rw [Ty.hp, if_neg h8, Ty.hp, if_neg h8]
    · rw [Ty.rc, if_neg h8, Ty.rc, if_neg h8]
    · rw [Ty.ch, if_neg h8]; simpa using h9

mutual
/-- No priority, no shift and no list is too large. -/
def Ty.bd (P : Int) : Ty → Prop
  | .mk _ p _ s ls ts => (-P ≤ p ∧ p ≤ P) ∧ (-1000000 ≤ s ∧ s ≤ 1000000) ∧ ls.length ≤ 400000000 ∧ ts.length ≤ 1000000 ∧ Ty.bds P ts
def Ty.bds (P : Int) : List Ty → Prop
  | [] => True
  | t :: r => t.bd P ∧ Ty.bds P r
end
theorem Ty.bds_mem {P : Int} : ∀ {ts : List Ty}, Ty.bds P ts → ∀ t ∈ ts, t.bd P
  | [], _, _, h => by cases h
  | u :: r, h, t, ht => by
    simp only [Ty.bds] at h
    rcases List.mem_cons.1 ht with rfl | ht
    · exact h.1
    · exact Ty.bds_mem h.2 t ht
theorem Ty.bds_of {P : Int} : ∀ {ts : List Ty}, (∀ t ∈ ts, t.bd P) → Ty.bds P ts
  | [], _ => by simp only [Ty.bds]
  | u :: r, h => by simp only [Ty.bds]; exact ⟨h u (by simp), Ty.bds_of (fun t ht => h t (by simp [ht]))⟩
theorem Ty.bd_mono {P Q : Int} (h : P ≤ Q) : ∀ t : Ty, t.bd P → t.bd Q := by
  refine Ty.ind ?_
  intro k p n s ls ts ih ht
  simp only [Ty.bd] at ht ⊢
  exact ⟨⟨by omega, by omega⟩, ht.2.1, ht.2.2.1, ht.2.2.2.1, Ty.bds_of (fun t hm => ih t hm (Ty.bds_mem ht.2.2.2.2 t hm))⟩
theorem raise_bd {P : Int} {j : Int} (hj : -1000000 ≤ j ∧ j ≤ 1000000) : ∀ t : Ty, t.bd P → (t.raise j).bd (P + 1000000) := by
  refine Ty.ind ?_
  intro k p n s ls ts ih ht
  simp only [Ty.bd] at ht
  rw [Ty.raise]
  simp only [Ty.bd]
  refine ⟨by split <;> omega, ht.2.1, ht.2.2.1, by rw [Ty.raises_map, List.length_map]; exact ht.2.2.2.1, Ty.bds_of (fun t hm => ?_)⟩
  rw [Ty.raises_map] at hm
  obtain ⟨u, hu, rfl⟩ := List.mem_map.1 hm
  exact ih u hu (Ty.bds_mem ht.2.2.2.2 u hu)
theorem put_bd {P : Int} {nm : ByteArray} {by_ : Ty} (_hP : 0 ≤ P) (hb : by_.bd P) : ∀ t : Ty, t.bd P → (Ty.put nm by_ t).bd (P + 1000000) := by
  refine Ty.ind ?_
  intro k p n s ls ts ih ht
  have ht' := ht
  simp only [Ty.bd] at ht
  rw [Ty.put, putC]
  split
  · exact raise_bd ht.2.1 by_ hb
  · split
    · exact Ty.bd_mono (by omega) _ ht'
    · simp only [Ty.bd]
      refine ⟨⟨by omega, by omega⟩, ht.2.1, ht.2.2.1, by rw [Ty.puts_map, List.length_map]; exact ht.2.2.2.1, Ty.bds_of (fun t hm => ?_)⟩
      rw [Ty.puts_map] at hm
      obtain ⟨u, hu, rfl⟩ := List.mem_map.1 hm
      exact ih u hu (Ty.bds_mem ht.2.2.2.2 u hu)
theorem can_bd {P : Int} {j : Int} (h0 : 0 ≤ P) (hP : P ≤ 1000000000000000) (hj : -1000000 ≤ j ∧ j ≤ 1000000) : ∀ t : Ty, t.bd P → t.can j := by
  refine Ty.ind ?_
  intro k p n s ls ts ih ht
  simp only [Ty.bd] at ht
  simp only [Ty.can]
  refine ⟨fun _ => ⟨by omega, by omega⟩, ht.2.2.1, by omega, ?_⟩
  have : ∀ l : List Ty, (∀ t ∈ l, t ∈ ts) → Ty.cans j l := by
    intro l
    induction l with
    | nil => intro _; simp only [Ty.cans]
    | cons u r ihl => intro hl; simp only [Ty.cans]; exact ⟨ih u (hl u (by simp)) (Ty.bds_mem ht.2.2.2.2 u (hl u (by simp))), ihl (fun t h => hl t (by simp [h]))⟩
  exact this ts (fun t h => h)

/-- Unfolded, as far as TRecs stand in front. -/
def Ty.unf : Nat → Ty → Ty
  | 0, t => t
  | f + 1, .mk k p n s ls ts => if k = 8 then (match ts with | b :: _ => Ty.unf f (Ty.put n (.mk k p n s ls ts) b) | [] => .mk k p n s ls ts) else .mk k p n s ls ts
theorem unf_hd : ∀ (f : Nat) (t : Ty), t.rc = f → t.ch = true → (t.unf f).k = t.hk ∧ (t.unf f).p = t.hp
  | 0, .mk k p n s ls ts, hf, hc => by
    by_cases h8 : k = 8
    · rw [Ty.rc, if_pos h8] at hf; omega
    · rw [Ty.unf, Ty.hk, if_neg h8, Ty.hp, if_neg h8]; exact ⟨rfl, rfl⟩
  | f + 1, .mk k p n s ls ts, hf, hc => by
    by_cases h8 : k = 8
    · subst h8
      obtain ⟨b, rfl, hb⟩ := ch_8 hc
      rw [Ty.rc, if_pos rfl, Ty.rc1] at hf
      obtain ⟨h1, h2, h3, h4⟩ := put_hd n (.mk 8 p n s ls [b]) b hb
      obtain ⟨h5, h6⟩ := unf_hd f (Ty.put n (.mk 8 p n s ls [b]) b) (by omega) h4
      rw [Ty.unf, if_pos rfl]
      refine ⟨?_, ?_⟩
      · rw [h5, h1, Ty.hk, if_pos rfl, Ty.hk1]
      · rw [h6, h2, Ty.hp, if_pos rfl, Ty.hp1]
    · rw [Ty.rc, if_neg h8] at hf; omega
theorem rc_depth : ∀ t : Ty, t.rc ≤ t.size := by
  refine Ty.ind ?_
  intro k p n s ls ts ih
  rw [Ty.rc, Ty.size]
  split
  · match ts, ih with
    | [], _ => rw [Ty.rc1]; omega
    | t :: r, ih => rw [Ty.rc1, Ty.sizes]; have := ih t (by simp); omega
  · omega
theorem shape_bd {k p s : Int} {n : ByteArray} {ls : List ByteArray} {m : Nat} (h : shapeC k p s n ls m = true) : 0 ≤ s ∧ s ≤ 1000000 := by
  unfold shapeC at h
  repeat' split at h
  all_goals simp [prioB] at h
  all_goals omega
theorem bd_of : ∀ (t : Ty) (names : List ByteArray) (g : Nat) (se : Bool), nodeR names g se t = 0 → t.size ≤ 10000 → t.bd 1000000 := by
  refine Ty.ind ?_
  intro k p n s ls ts ih names g se h hz
  obtain ⟨hs, h2⟩ := nodeR_shape h
  have hl := shape_ls hs
  have hp := shape_p hs
  have hsh := shape_bd hs
  simp only [Ty.size] at hz
  have hlen := Ty.length_sizes ts
  have hkids : ∀ (nm : List ByteArray) (g' : Nat) (f : Bool), kidsR nm g' f 0 ts = 0 → Ty.bds 1000000 ts := fun nm g' f hk0 => Ty.bds_of (fun t ht => by
    obtain ⟨se', ht'⟩ := kidsR_all hk0 t ht
    exact ih t ht nm g' se' ht' (by have := Ty.size_mem ht; omega))
  simp only [Ty.bd]
  refine ⟨⟨by omega, by omega⟩, ⟨by omega, by omega⟩, by omega, by omega, ?_⟩
  by_cases h9 : k = 9
  · subst h9
    have := List.length_eq_zero_iff.1 (shape_9 hs)
    subst this; simp only [Ty.bds]
  · rw [if_neg h9] at h2
    by_cases h8 : k = 8
    · rw [if_pos h8] at h2; exact hkids _ _ _ h2
    · rw [if_neg h8] at h2; exact hkids _ _ _ h2
end Go.Proofs.YtjmnaibbljakaaaGreatDoor

/- Equality of references: what it means, and why a comparison that merges classes of nodes decides it. -/
namespace Go.Proofs.YtjmnaibbljakaaaGreatDoor

/-- A graph as far as equality looks at it. -/
structure LG where
  kind : Nat → Int
  labs : Nat → List ByteArray
  prio : Nat → Option Int
  ch : Nat → List GRef
/-- What graphs of right types have. -/
structure LG.Ok (L : LG) : Prop where
  act : ∀ m k, L.kind m = L.kind k → (L.prio m).isSome = (L.prio k).isSome
  leaf : ∀ m, L.prio m = none → L.ch m = []
  len : ∀ m k, L.kind m = L.kind k → L.labs m = L.labs k → (L.ch m).length = (L.ch k).length
/-- A reference, raised. -/
def upG (q : GRef) (k : Int) : GRef := ⟨q.n, q.s + k⟩
theorem upG_up (q : GRef) (a b : Int) : upG (upG q a) b = upG q (a + b) := by simp [upG, Int.add_assoc]
theorem upG_zero (q : GRef) : upG q 0 = q := by simp [upG]
section
variable (L : LG) (al : Bool)
def LG.rp (r : GRef) : Option Int := (L.prio r.n).map (· + r.s)
def LG.beh (r : GRef) : List GRef := (L.ch r.n).map (upG · r.s)
/-- The priorities fit; with `al` they are not looked at. -/
def LG.fits (x y : GRef) : Prop := L.kind x.n = L.kind y.n ∧ (al = true ∨ L.rp x = L.rp y)
def LG.comp (x y : GRef) : Prop := L.fits al x y ∧ L.labs x.n = L.labs y.n
/-- Equal as far as paths of less than n steps tell. -/
def LG.eqN : Nat → GRef → GRef → Prop
  | 0, _, _ => True
  | n + 1, x, y => L.comp al x y ∧ ∀ (i : Nat) (a b : GRef), (L.beh x)[i]? = some a → (L.beh y)[i]? = some b → LG.eqN n a b
/-- Equal (or, with `al`, alike). -/
def LG.Eqv (x y : GRef) : Prop := ∀ n, L.eqN al n x y
end
section
variable {L : LG} {al : Bool}
theorem rp_up (r : GRef) (k : Int) : L.rp (upG r k) = (L.rp r).map (· + k) := by
  unfold LG.rp upG
  cases L.prio r.n with
  | none => rfl
  | some p => simp [Int.add_assoc]
theorem beh_up (r : GRef) (k : Int) : L.beh (upG r k) = (L.beh r).map (upG · k) := by
  unfold LG.beh
  rw [List.map_map]
  refine List.map_congr_left fun q _ => ?_
  simp [upG, Int.add_assoc]
theorem fits_up {x y : GRef} (h : L.fits al x y) (k : Int) : L.fits al (upG x k) (upG y k) := by
  refine ⟨h.1, ?_⟩
  rcases h.2 with h | h
  · exact .inl h
  · right; rw [rp_up, rp_up, h]
theorem eqN_up (k : Int) : ∀ (n : Nat) (x y : GRef), L.eqN al n x y → L.eqN al n (upG x k) (upG y k)
  | 0, _, _, _ => trivial
  | n + 1, _, _, ⟨⟨h1, h2⟩, h3⟩ => by
    refine ⟨⟨fits_up h1 k, h2⟩, fun i a b ha hb => ?_⟩
    rw [beh_up, List.getElem?_map] at ha hb
    obtain ⟨a', ha', rfl⟩ := Option.map_eq_some_iff.1 ha
    obtain ⟨b', hb', rfl⟩ := Option.map_eq_some_iff.1 hb
    exact eqN_up k n _ _ (h3 i a' b' ha' hb')
theorem eqN_refl : ∀ (n : Nat) (x : GRef), L.eqN al n x x
  | 0, _ => trivial
  | n + 1, x => ⟨⟨⟨rfl, .inr rfl⟩, rfl⟩, fun i a b ha hb => by
    obtain rfl := Option.some.inj (ha.symm.trans hb)
    exact eqN_refl n a⟩
theorem eqN_symm : ∀ (n : Nat) (x y : GRef), L.eqN al n x y → L.eqN al n y x
  | 0, _, _, _ => trivial
  | n + 1, _, _, ⟨⟨⟨h1, h2⟩, h3⟩, h4⟩ => ⟨⟨⟨h1.symm, h2.imp id Eq.symm⟩, h3.symm⟩, fun i a b ha hb => eqN_symm n b a (h4 i b a hb ha)⟩
theorem comp_len (ok : L.Ok) {x y : GRef} (h : L.comp al x y) : (L.beh x).length = (L.beh y).length := by
  unfold LG.beh
  rw [List.length_map, List.length_map]
  exact ok.len _ _ h.1.1 h.2
theorem eqN_trans (ok : L.Ok) : ∀ (n : Nat) (x y z : GRef), L.eqN al n x y → L.eqN al n y z → L.eqN al n x z
  | 0, _, _, _, _, _ => trivial
  | n + 1, x, y, z, ⟨h1, h2⟩, ⟨k1, k2⟩ => by
    refine ⟨⟨⟨h1.1.1.trans k1.1.1, ?_⟩, h1.2.trans k1.2⟩, fun i a c ha hc => ?_⟩
    · rcases h1.1.2 with h | h
      · exact .inl h
      · exact k1.1.2.imp id (fun k => h.trans k)
    · have hl := comp_len ok h1
      obtain ⟨b, hb⟩ : ∃ b, (L.beh y)[i]? = some b := ⟨_, List.getElem?_eq_getElem (by rw [← hl]; exact (List.getElem?_eq_some_iff.1 ha).1)⟩
      exact eqN_trans ok n a b c (h2 i a b ha hb) (k2 i b c hb hc)
theorem eqN_less : ∀ (n : Nat) (x y : GRef), L.eqN al (n + 1) x y → L.eqN al n x y
  | 0, _, _, _ => trivial
  | n + 1, _, _, ⟨h1, h2⟩ => ⟨h1, fun i a b ha hb => eqN_less n a b (h2 i a b ha hb)⟩
theorem LG.Eqv.refl (x : GRef) : L.Eqv al x x := fun n => eqN_refl n x
theorem LG.Eqv.symm {x y : GRef} (h : L.Eqv al x y) : L.Eqv al y x := fun n => eqN_symm n _ _ (h n)
theorem LG.Eqv.trans (ok : L.Ok) {x y z : GRef} (h : L.Eqv al x y) (k : L.Eqv al y z) : L.Eqv al x z := fun n => eqN_trans ok n _ _ _ (h n) (k n)
theorem LG.Eqv.up {x y : GRef} (h : L.Eqv al x y) (k : Int) : L.Eqv al (upG x k) (upG y k) := fun n => eqN_up k n _ _ (h n)
theorem LG.Eqv.comp {x y : GRef} (h : L.Eqv al x y) : L.comp al x y := (h 1).1
theorem LG.Eqv.beh {x y : GRef} (h : L.Eqv al x y) {i : Nat} {a b : GRef} (ha : (L.beh x)[i]? = some a) (hb : (L.beh y)[i]? = some b) : L.Eqv al a b := fun n => (h (n + 1)).2 i a b ha hb
/-- Equal references are alike. -/
theorem eqN_alike : ∀ (n : Nat) (x y : GRef), L.eqN false n x y → L.eqN true n x y
  | 0, _, _, _ => trivial
  | n + 1, _, _, ⟨h1, h2⟩ => ⟨⟨⟨h1.1.1, .inl rfl⟩, h1.2⟩, fun i a b ha hb => eqN_alike n a b (h2 i a b ha hb)⟩
/-- Shifts do not matter to what is alike. -/
theorem alike_up : ∀ (n : Nat) (x y : GRef) (j k : Int), L.eqN true n x y → L.eqN true n (upG x j) (upG y k)
  | 0, _, _, _, _, _ => trivial
  | n + 1, x, y, j, k, ⟨h1, h2⟩ => by
    refine ⟨⟨⟨h1.1.1, .inl rfl⟩, h1.2⟩, fun i a b ha hb => ?_⟩
    rw [beh_up, List.getElem?_map] at ha hb
    obtain ⟨a', ha', rfl⟩ := Option.map_eq_some_iff.1 ha
    obtain ⟨b', hb', rfl⟩ := Option.map_eq_some_iff.1 hb
    exact alike_up n _ _ j k (h2 i a' b' ha' hb')
/-- The reference to a node that is raised to the priority 0. -/
def LG.nrm (L : LG) (m : Nat) : GRef := ⟨m, -((L.prio m).getD 0)⟩
theorem nrm_up {x : GRef} {p : Int} (h : L.prio x.n = some p) : x = upG (L.nrm x.n) (p + x.s) := by
  unfold LG.nrm upG
  rw [h]
  obtain ⟨n, s⟩ := x
  simp only [Option.getD_some, GRef.mk.injEq, true_and]
  omega
/-- Nodes that are equal make references equal whose priorities fit. -/
theorem nodes_lift (ok : L.Ok) {n : Nat} {x y : GRef} (hf : L.fits al x y) (h : L.eqN al n (L.nrm x.n) (L.nrm y.n)) : L.eqN al n x y := by
  cases al with
  | true =>
    have := alike_up n _ _ (x.s + (L.prio x.n).getD 0) (y.s + (L.prio y.n).getD 0) h
    unfold LG.nrm upG at this
    obtain ⟨a, s⟩ := x
    obtain ⟨b, t⟩ := y
    have e1 : -((L.prio a).getD 0) + (s + (L.prio a).getD 0) = s := by omega
    have e2 : -((L.prio b).getD 0) + (t + (L.prio b).getD 0) = t := by omega
    simp only at this
    rw [e1, e2] at this
    exact this
  | false =>
    have hr : L.rp x = L.rp y := hf.2.resolve_left (by decide)
    have ha := ok.act _ _ hf.1
    cases hx : L.prio x.n with
    | some p =>
      cases hy : L.prio y.n with
      | none => rw [hx, hy] at ha; simp at ha
      | some q =>
        unfold LG.rp at hr
        rw [hx, hy] at hr
        simp only [Option.map_some, Option.some.injEq] at hr
        have e1 := nrm_up hx
        have e2 := nrm_up hy
        rw [← hr] at e2
        rw [e1, e2]
        exact eqN_up _ _ _ _ h
    | none =>
      cases n with
      | zero => trivial
      | succ n =>
        obtain ⟨⟨h1, h2⟩, _⟩ := h
        refine ⟨⟨hf, h2⟩, fun i a b ha _ => ?_⟩
        unfold LG.beh at ha
        rw [ok.leaf _ hx] at ha
        simp at ha
theorem nodes_lower (ok : L.Ok) {n : Nat} {x y : GRef} (hf : L.fits al x y) (h : L.eqN al n x y) : L.eqN al n (L.nrm x.n) (L.nrm y.n) := by
  cases al with
  | true =>
    have := alike_up n _ _ (-x.s - (L.prio x.n).getD 0) (-y.s - (L.prio y.n).getD 0) h
    unfold upG at this
    unfold LG.nrm
    have e1 : x.s + (-x.s - (L.prio x.n).getD 0) = -((L.prio x.n).getD 0) := by omega
    have e2 : y.s + (-y.s - (L.prio y.n).getD 0) = -((L.prio y.n).getD 0) := by omega
    rw [e1, e2] at this
    exact this
  | false =>
    have hr : L.rp x = L.rp y := hf.2.resolve_left (by decide)
    have ha := ok.act _ _ hf.1
    cases hx : L.prio x.n with
    | some p =>
      cases hy : L.prio y.n with
      | none => rw [hx, hy] at ha; simp at ha
      | some q =>
        unfold LG.rp at hr
        rw [hx, hy] at hr
        simp only [Option.map_some, Option.some.injEq] at hr
        have e1 := nrm_up hx
        have e2 := nrm_up hy
        rw [← hr] at e2
        rw [e1, e2] at h
        have h2 := eqN_up (-(p + x.s)) _ _ _ h
        rw [upG_up, upG_up, show p + x.s + -(p + x.s) = 0 by omega, upG_zero, upG_zero] at h2
        exact h2
    | none =>
      cases n with
      | zero => trivial
      | succ n =>
        obtain ⟨⟨h1, h2⟩, _⟩ := h
        have hy : L.prio y.n = none := by
          cases hy : L.prio y.n with
          | none => rfl
          | some q => rw [hx, hy] at ha; simp at ha
        refine ⟨⟨⟨hf.1, .inr ?_⟩, h2⟩, fun i a b ha _ => ?_⟩
        · unfold LG.rp LG.nrm
          rw [hx, hy]
        · unfold LG.beh LG.nrm at ha
          simp only at ha
          rw [ok.leaf _ hx] at ha
          simp at ha

/-! ### Classes of nodes -/
structure Equiv' (E : Nat → Nat → Prop) : Prop where
  refl : ∀ m, E m m
  symm : ∀ m k, E m k → E k m
  trans : ∀ m k j, E m k → E k j → E m j
/-- The classes that pairs of references generate. -/
inductive Cls (G : List (GRef × GRef)) : Nat → Nat → Prop
  | gen (p : GRef × GRef) (h : p ∈ G) : Cls G p.1.n p.2.n
  | refl (m : Nat) : Cls G m m
  | symm (m k : Nat) (h : Cls G m k) : Cls G k m
  | trans (m k j : Nat) (h : Cls G m k) (h2 : Cls G k j) : Cls G m j
theorem Cls.least {G : List (GRef × GRef)} {E : Nat → Nat → Prop} (he : Equiv' E) (hg : ∀ p ∈ G, E p.1.n p.2.n) {m k : Nat} (h : Cls G m k) : E m k := by
  induction h with
  | gen p hp => exact hg p hp
  | refl m => exact he.refl m
  | symm m k _ ih => exact he.symm _ _ ih
  | trans m k j _ _ ih1 ih2 => exact he.trans _ _ _ ih1 ih2
theorem Cls.mono {G H : List (GRef × GRef)} (hg : ∀ p ∈ G, p ∈ H) {m k : Nat} (h : Cls G m k) : Cls H m k :=
  h.least ⟨.refl, fun m k => .symm m k, fun m k j => .trans m k j⟩ (fun p hp => .gen p (hg p hp))
theorem eqn_equiv (ok : L.Ok) (n : Nat) : Equiv' (fun m k => L.eqN al n (L.nrm m) (L.nrm k)) :=
  ⟨fun _ => eqN_refl n _, fun _ _ h => eqN_symm n _ _ h, fun _ _ _ h k => eqN_trans ok n _ _ _ h k⟩
/-- What a pair leaves is settled: its priorities fit, and its nodes are of one class. -/
def Settled (L : LG) (al : Bool) (G : List (GRef × GRef)) (a b : GRef) : Prop := L.fits al a b ∧ Cls G a.n b.n
/-- Pairs all of whose steps are settled are equal. -/
theorem settled_nodes (ok : L.Ok) {G : List (GRef × GRef)} (hG : ∀ p ∈ G, L.comp al p.1 p.2 ∧ ∀ (i : Nat) (a b : GRef), (L.beh p.1)[i]? = some a → (L.beh p.2)[i]? = some b → Settled L al G a b) :
    ∀ (n m k : Nat), Cls G m k → L.eqN al n (L.nrm m) (L.nrm k) := by
  intro n
  induction n with
  | zero => intro m k _; trivial
  | succ n ih =>
    intro m k h
    refine h.least (eqn_equiv ok (n + 1)) (fun p hp => ?_)
    obtain ⟨h1, h2⟩ := hG p hp
    refine nodes_lower ok h1.1 ⟨h1, fun i a b ha hb => ?_⟩
    obtain ⟨hf, hc⟩ := h2 i a b ha hb
    exact nodes_lift ok hf (ih _ _ hc)
theorem settled_eqv (ok : L.Ok) {G : List (GRef × GRef)} (hG : ∀ p ∈ G, L.comp al p.1 p.2 ∧ ∀ (i : Nat) (a b : GRef), (L.beh p.1)[i]? = some a → (L.beh p.2)[i]? = some b → Settled L al G a b) {x y : GRef} (h : Settled L al G x y) : L.Eqv al x y := fun n =>
  nodes_lift ok h.1 (settled_nodes ok hG n _ _ h.2)

/-! ### Where a comparison stands -/
/-- G: the pairs whose steps were put on the list; todo: the pairs that are still to be compared; x, y: what is compared. -/
structure CmpAt (L : LG) (al : Bool) (G todo : List (GRef × GRef)) (x y : GRef) : Prop where
  first : (x, y) ∈ todo ∨ Settled L al G x y
  done : ∀ p ∈ G, L.comp al p.1 p.2 ∧ ∀ (i : Nat) (a b : GRef), (L.beh p.1)[i]? = some a → (L.beh p.2)[i]? = some b → (a, b) ∈ todo ∨ Settled L al G a b
  from_ : L.Eqv al x y → ∀ p ∈ todo, L.Eqv al p.1 p.2
theorem Settled.mono {G H : List (GRef × GRef)} (hg : ∀ p ∈ G, p ∈ H) {a b : GRef} (h : Settled L al G a b) : Settled L al H a b := ⟨h.1, h.2.mono hg⟩
theorem CmpAt.start (x y : GRef) : CmpAt L al [] [(x, y)] x y := ⟨.inl (by simp), fun p hp => (by cases hp), fun h p hp => (by rw [List.mem_singleton.1 hp]; exact h)⟩
theorem CmpAt.fin (ok : L.Ok) {G : List (GRef × GRef)} {x y : GRef} (h : CmpAt L al G [] x y) : L.Eqv al x y :=
  settled_eqv ok (fun p hp => ⟨(h.done p hp).1, fun i a b ha hb => ((h.done p hp).2 i a b ha hb).resolve_left (by simp)⟩) (h.first.resolve_left (by simp))
theorem CmpAt.bad {G todo : List (GRef × GRef)} {x y a b : GRef} (h : CmpAt L al G (todo ++ [(a, b)]) x y) (hn : ¬ L.comp al a b) : ¬ L.Eqv al x y := fun he =>
  hn (h.from_ he (a, b) (by simp)).comp
/-- A pair whose nodes are of one class is left out. -/
theorem CmpAt.skip {G todo : List (GRef × GRef)} {x y a b : GRef} (h : CmpAt L al G (todo ++ [(a, b)]) x y) (hf : L.fits al a b) (hc : Cls G a.n b.n) : CmpAt L al G todo x y := by
  have key : ∀ c d, (c, d) ∈ todo ++ [(a, b)] ∨ Settled L al G c d → (c, d) ∈ todo ∨ Settled L al G c d := by
    intro c d hcd
    rcases hcd with hcd | hcd
    · rcases List.mem_append.1 hcd with hcd | hcd
      · exact .inl hcd
      · have := List.mem_singleton.1 hcd
        simp only [Prod.mk.injEq] at this
        obtain ⟨rfl, rfl⟩ := this
        exact .inr ⟨hf, hc⟩
    · exact .inr hcd
  exact ⟨key _ _ h.first, fun p hp => ⟨(h.done p hp).1, fun i c d h1 h2 => key _ _ ((h.done p hp).2 i c d h1 h2)⟩, fun he p hp => h.from_ he p (List.mem_append_left _ hp)⟩
/-- A pair is taken to be equal, and its steps are put on the list. -/
theorem CmpAt.go {G todo new : List (GRef × GRef)} {x y a b : GRef} (h : CmpAt L al G (todo ++ [(a, b)]) x y) (hc : L.comp al a b) (hn : ∀ p, p ∈ new ↔ ∃ i : Nat, (L.beh a)[i]? = some p.1 ∧ (L.beh b)[i]? = some p.2) : CmpAt L al (G ++ [(a, b)]) (todo ++ new) x y := by
  have hsub : ∀ p ∈ G, p ∈ G ++ [(a, b)] := fun p hp => List.mem_append_left _ hp
  have hab : Settled L al (G ++ [(a, b)]) a b := ⟨hc.1, .gen (a, b) (by simp)⟩
  have key : ∀ c d, (c, d) ∈ todo ++ [(a, b)] ∨ Settled L al G c d → (c, d) ∈ todo ++ new ∨ Settled L al (G ++ [(a, b)]) c d := by
    intro c d hcd
    rcases hcd with hcd | hcd
    · rcases List.mem_append.1 hcd with hcd | hcd
      · exact .inl (List.mem_append_left _ hcd)
      · have := List.mem_singleton.1 hcd
        simp only [Prod.mk.injEq] at this
        obtain ⟨rfl, rfl⟩ := this
        exact .inr hab
    · exact .inr (hcd.mono hsub)
  refine ⟨key _ _ h.first, fun p hp => ?_, fun he p hp => ?_⟩
  · rcases List.mem_append.1 hp with hp | hp
    · exact ⟨(h.done p hp).1, fun i c d h1 h2 => key _ _ ((h.done p hp).2 i c d h1 h2)⟩
    · obtain rfl := List.mem_singleton.1 hp
      exact ⟨hc, fun i c d h1 h2 => .inl (List.mem_append_right _ ((hn (c, d)).2 ⟨i, h1, h2⟩))⟩
  · rcases List.mem_append.1 hp with hp | hp
    · exact h.from_ he p (List.mem_append_left _ hp)
    · obtain ⟨i, h1, h2⟩ := (hn p).1 hp
      exact (h.from_ he (a, b) (by simp)).beh h1 h2
end
end Go.Proofs.YtjmnaibbljakaaaGreatDoor

/- Equality of references: leaders of classes of nodes, and how long a comparison takes. -/
namespace Go.Proofs.YtjmnaibbljakaaaGreatDoor

/-! ### Leaders -/
/-- f leads from a node to others, the last of which is its leader. -/
structure Forest (f : Nat → Option Nat) (lead rank : Nat → Nat) : Prop where
  none_ : ∀ n, f n = none → lead n = n
  self_ : ∀ n, f n = some n → lead n = n
  step : ∀ n k, f n = some k → k ≠ n → lead n = lead k ∧ rank k < rank n ∧ lead n ≠ n
def setF (f : Nat → Option Nat) (n k : Nat) : Nat → Option Nat := fun m => if m = n then some k else f m
theorem Forest.start : Forest (fun _ => none) id (fun _ => 0) := ⟨fun _ _ => rfl, fun _ h => (by cases h), fun _ _ h => (by cases h)⟩
section
variable {f : Nat → Option Nat} {lead rank : Nat → Nat}
theorem Forest.root (h : Forest f lead rank) : ∀ (r n : Nat), rank n ≤ r → lead (lead n) = lead n ∧ rank (lead n) ≤ rank n
  | r, n, hr => by
    cases e : f n with
    | none => rw [h.none_ n e]; exact ⟨h.none_ n e, Nat.le_refl _⟩
    | some k =>
      by_cases hk : k = n
      · subst hk
        rw [h.self_ k e]; exact ⟨h.self_ k e, Nat.le_refl _⟩
      · obtain ⟨h1, h2, _⟩ := h.step n k e hk
        match r, hr with
        | 0, hr => omega
        | r + 1, hr =>
          obtain ⟨h3, h4⟩ := h.root r k (by omega)
          rw [h1]
          exact ⟨h3, by omega⟩
theorem Forest.idem (h : Forest f lead rank) (n : Nat) : lead (lead n) = lead n := (h.root _ n (Nat.le_refl _)).1
theorem Forest.rank_lt (h : Forest f lead rank) {n k : Nat} (e : f n = some k) (hk : k ≠ n) : rank (lead n) < rank n := by
  obtain ⟨h1, h2, _⟩ := h.step n k e hk
  rw [h1]
  have := (h.root _ k (Nat.le_refl _)).2
  omega
/-- Shortening the way to the leader. -/
theorem Forest.short (h : Forest f lead rank) {n k : Nat} (e : f n = some k) (hk : k ≠ n) : Forest (setF f n (lead n)) lead rank := by
  have h0 := (h.step n k e hk).2.2
  refine ⟨fun m hm => ?_, fun m hm => ?_, fun m j hm hj => ?_⟩
  · unfold setF at hm
    split at hm
    · cases hm
    · exact h.none_ m hm
  · unfold setF at hm
    split at hm
    · next he => subst he; exact Option.some.inj hm
    · exact h.self_ m hm
  · unfold setF at hm
    split at hm
    · next he =>
      subst he
      obtain rfl := Option.some.inj hm
      exact ⟨(h.idem _).symm, h.rank_lt e hk, h0⟩
    · exact h.step m j hm hj
/-- One leader leads to another one from now on. -/
def leadTo (lead : Nat → Nat) (a b : Nat) : Nat → Nat := fun m => if lead m = a then b else lead m
def rankTo (lead rank : Nat → Nat) (a b : Nat) : Nat → Nat := fun m => if lead m = a then rank m + rank b + 1 else rank m
theorem Forest.join (h : Forest f lead rank) {a b : Nat} (ha : lead a = a) (hb : lead b = b) (hne : a ≠ b) : Forest (setF f a b) (leadTo lead a b) (rankTo lead rank a b) := by
  refine ⟨fun m hm => ?_, fun m hm => ?_, fun m j hm hj => ?_⟩
  · unfold setF at hm
    split at hm
    · cases hm
    · next hma =>
      have := h.none_ m hm
      unfold leadTo
      rw [this, if_neg hma]
  · unfold setF at hm
    split at hm
    · next he => subst he; exact absurd (Option.some.inj hm).symm hne
    · next hma =>
      have := h.self_ m hm
      unfold leadTo
      rw [this, if_neg hma]
  · unfold setF at hm
    split at hm
    · next he =>
      subst he
      obtain rfl := Option.some.inj hm
      unfold leadTo rankTo
      rw [ha, hb, if_pos rfl, if_neg (fun e => hne e.symm), if_pos rfl, if_neg (fun e => hne e.symm)]
      exact ⟨rfl, by omega, fun e => hne e.symm⟩
    · next hma =>
      obtain ⟨h1, h2, h3⟩ := h.step m j hm hj
      unfold leadTo rankTo
      rw [← h1]
      refine ⟨rfl, ?_, ?_⟩
      · split <;> omega
      · split
        · next hl =>
          intro e
          subst e
          rw [hb] at hl
          exact hne hl.symm
        · exact h3
theorem Forest.loop (h : Forest f lead rank) {a : Nat} (ha : lead a = a) : Forest (setF f a a) lead rank := by
  refine ⟨fun m hm => ?_, fun m hm => ?_, fun m j hm hj => ?_⟩
  · unfold setF at hm
    split at hm
    · cases hm
    · exact h.none_ m hm
  · unfold setF at hm
    split at hm
    · next he => subst he; exact ha
    · exact h.self_ m hm
  · unfold setF at hm
    split at hm
    · next he => subst he; exact absurd (Option.some.inj hm).symm hj
    · exact h.step m j hm hj
end

/-! ### Leaders and classes -/
/-- The leaders are those of the classes that pairs generate. -/
def Leads (G : List (GRef × GRef)) (lead : Nat → Nat) : Prop := ∀ m k, lead m = lead k ↔ Cls G m k
theorem cls_nil {m k : Nat} (h : Cls [] m k) : m = k := h.least (E := fun m k => m = k) ⟨fun _ => rfl, fun _ _ e => e.symm, fun _ _ _ e g => e.trans g⟩ (fun p hp => by cases hp)
theorem Leads.start : Leads [] id := fun m k => ⟨fun e => by rw [show m = k from e]; exact .refl k, fun h => cls_nil h⟩
theorem Leads.join {G : List (GRef × GRef)} {lead : Nat → Nat} (h : Leads G lead) (hi : ∀ n, lead (lead n) = lead n) (x y : GRef) : Leads (G ++ [(x, y)]) (leadTo lead (lead x.n) (lead y.n)) := by
  have hsub : ∀ p ∈ G, p ∈ G ++ [(x, y)] := fun p hp => List.mem_append_left _ hp
  have hxy : Cls (G ++ [(x, y)]) x.n y.n := .gen (x, y) (by simp)
  have up : ∀ m, Cls (G ++ [(x, y)]) m (leadTo lead (lead x.n) (lead y.n) m) := by
    intro m
    unfold leadTo
    split
    · next he =>
      have h1 : Cls (G ++ [(x, y)]) m x.n := ((h m x.n).1 he).mono hsub
      have h2 : Cls (G ++ [(x, y)]) y.n (lead y.n) := ((h _ _).1 (hi _).symm).mono hsub
      exact .trans _ _ _ h1 (.trans _ _ _ hxy h2)
    · exact ((h _ _).1 (hi m).symm).mono hsub
  intro m k
  refine ⟨fun e => ?_, fun hc => ?_⟩
  · have h1 := up m
    rw [e] at h1
    exact .trans _ _ _ h1 (.symm _ _ (up k))
  · refine hc.least (E := fun m k => leadTo lead (lead x.n) (lead y.n) m = leadTo lead (lead x.n) (lead y.n) k) ⟨fun _ => rfl, fun _ _ e => e.symm, fun _ _ _ e g => e.trans g⟩ (fun p hp => ?_)
    rcases List.mem_append.1 hp with hp | hp
    · have he := (h _ _).2 (Cls.gen p hp)
      unfold leadTo
      rw [he]
    · obtain rfl := List.mem_singleton.1 hp
      unfold leadTo
      rw [if_pos rfl]
      split <;> rfl
theorem leadTo_self (lead : Nat → Nat) (a : Nat) : leadTo lead a a = lead := by
  funext m
  unfold leadTo
  split
  · next h => exact h.symm
  · rfl
/-- Pairs of different leaders that were visited have a first one that is no leader any more. -/
def Gone (V : Nat → Nat → Bool) (lead : Nat → Nat) : Prop := ∀ a b, V a b = true → a ≠ b → lead a ≠ a
def setV (V : Nat → Nat → Bool) (a b : Nat) : Nat → Nat → Bool := fun c d => if c = a ∧ d = b then true else V c d
theorem Gone.start (lead : Nat → Nat) : Gone (fun _ _ => false) lead := fun a b h => by cases h
theorem Gone.skip {V : Nat → Nat → Bool} {lead : Nat → Nat} (h : Gone V lead) {a b : Nat} (ha : lead a = a) (hv : V a b = true) : a = b :=
  Classical.byContradiction fun hne => h a b hv hne ha
theorem Gone.go {V : Nat → Nat → Bool} {lead : Nat → Nat} (h : Gone V lead) {a b : Nat} (ha : lead a = a) (hb : lead b = b) : Gone (setV V a b) (leadTo lead a b) := by
  intro c d hv hcd
  unfold setV at hv
  unfold leadTo
  by_cases he : c = a ∧ d = b
  · obtain ⟨rfl, rfl⟩ := he
    rw [if_pos ha]
    exact fun e => hcd e.symm
  · rw [if_neg he] at hv
    have h1 := h c d hv hcd
    split
    · next hl =>
      intro e
      subst e
      exact h1 hb
    · exact h1

/-! ### How long it takes -/
/-- What is left: two for each leader, less one if it was visited with itself. -/
def leftU (V : Nat → Nat → Bool) (lead : Nat → Nat) : Nat → Nat
  | 0 => 0
  | n + 1 => (if lead n = n then (if V n n = true then 1 else 2) else 0) + leftU V lead n
theorem leftU_le (V : Nat → Nat → Bool) (lead : Nat → Nat) : ∀ n, leftU V lead n ≤ 2 * n
  | 0 => by simp [leftU]
  | n + 1 => by
    have := leftU_le V lead n
    rw [leftU]
    split
    · split <;> omega
    · omega
theorem leftU_mono {V V' : Nat → Nat → Bool} {lead lead' : Nat → Nat} (h : ∀ m, (if lead' m = m then (if V' m m = true then 1 else 2) else 0) ≤ (if lead m = m then (if V m m = true then 1 else 2) else 0)) : ∀ n, leftU V' lead' n ≤ leftU V lead n
  | 0 => Nat.le_refl _
  | n + 1 => by
    rw [leftU, leftU]
    exact Nat.add_le_add (h n) (leftU_mono h n)
theorem leftU_less {V V' : Nat → Nat → Bool} {lead lead' : Nat → Nat} (h : ∀ m, (if lead' m = m then (if V' m m = true then 1 else 2) else 0) ≤ (if lead m = m then (if V m m = true then 1 else 2) else 0))
    {a : Nat} (ha : (if lead' a = a then (if V' a a = true then 1 else 2) else 0) < (if lead a = a then (if V a a = true then 1 else 2) else 0)) : ∀ n, a < n → leftU V' lead' n < leftU V lead n
  | 0, h0 => by omega
  | n + 1, h0 => by
    rw [leftU, leftU]
    by_cases he : a = n
    · subst he
      exact Nat.add_lt_add_of_lt_of_le ha (leftU_mono h a)
    · exact Nat.add_lt_add_of_le_of_lt (h n) (leftU_less h ha n (by omega))
/-- A visit leaves less. -/
theorem leftU_go {V : Nat → Nat → Bool} {lead : Nat → Nat} {a b : Nat} (ha : lead a = a) (hb : lead b = b) (hv : V a b = false) {n : Nat} (hn : a < n) : leftU (setV V a b) (leadTo lead a b) n < leftU V lead n := by
  by_cases hab : a = b
  · subst hab
    rw [leadTo_self]
    refine leftU_less (fun m => ?_) (a := a) ?_ n hn
    · split
      · by_cases hm : m = a
        · subst hm
          simp [setV, hv]
        · have : setV V a a m m = V m m := by simp [setV, hm]
          rw [this]
          exact Nat.le_refl _
      · exact Nat.le_refl _
    · rw [if_pos ha, if_pos ha, hv]
      simp [setV]
  · have hs : ∀ m, setV V a b m m = V m m := by
      intro m
      unfold setV
      rw [if_neg (fun h => hab (h.1.symm.trans h.2))]
    have hl : ∀ m, leadTo lead a b m = m → lead m = m := by
      intro m h
      unfold leadTo at h
      split at h
      · subst h; exact hb
      · exact h
    refine leftU_less (fun m => ?_) (a := a) ?_ n hn
    · rw [hs]
      by_cases h1 : leadTo lead a b m = m
      · rw [if_pos h1, if_pos (hl m h1)]; exact Nat.le_refl _
      · rw [if_neg h1]; exact Nat.zero_le _
    · have h1 : leadTo lead a b a = b := by unfold leadTo; rw [if_pos ha]
      rw [if_neg (by rw [h1]; exact fun e => hab e.symm), if_pos ha]
      split <;> omega
end Go.Proofs.YtjmnaibbljakaaaGreatDoor

/- Equality, walks: leaders. -/
namespace Go.Proofs.YtjmnaibbljakaaaGreatDoor
open Go.RowKit Go.Deep Go.Shelf

theorem zero_intE (w : World) : (zeroValue 3).run Tryz.prog w = .ok (.int .i64 0) w := by
  obtain ⟨i0, hi, hz0, hz1, hz2⟩ := info_parts intInfoG
  simp [zeroValue, typeInfo, hi, hz0]
/-- Block b is the map of leaders. -/
def LeadIs (w : World) (b : Nat) (f : Nat → Option Nat) : Prop := ∃ n F, AMap enc1 w b n F ∧ ∀ k : Nat, F (k : Int) = (f k).map (fun m : Nat => Value.int .i64 (m : Int))
theorem LeadIs.lt {w : World} {b : Nat} {f : Nat → Option Nat} (h : LeadIs w b f) : b < w.heap.size := by obtain ⟨_, _, h, _⟩ := h; exact h.lt
theorem LeadIs.same {w w' : World} {b : Nat} {f : Nat → Option Nat} (h : LeadIs w b f) (hb : w'.heap[b]? = w.heap[b]?) : LeadIs w' b f := by
  obtain ⟨n, F, h, hF⟩ := h; exact ⟨n, F, h.same hb, hF⟩
theorem LeadIs.made (w : World) : LeadIs (w.alloc (.map #[] 0)) w.heap.size (fun _ => none) := ⟨0, _, AMap.made w, fun _ => rfl⟩
theorem LeadIs.look {w : World} {b : Nat} {f : Nat → Option Nat} (h : LeadIs w b f) (k : Nat) :
    (Instr.lookup 65 (.map (some b)) (.int .i64 (k : Int)) true).run Tryz.prog w = .ok (.tuple #[.int .i64 (((f k).getD 0 : Nat) : Int), .bool (f k).isSome]) w := by
  obtain ⟨n, F, h, hF⟩ := h
  rw [h.look_ok key1 Tryz.underlying65 (zero_intE w) (k : Int) true, hF k]
  cases f k <;> rfl
theorem LeadIs.put {w : World} {b : Nat} {f : Nat → Option Nat} (h : LeadIs w b f) (k m : Nat) :
    ∃ w', (Instr.mapUpdate 65 (.map (some b)) (.int .i64 (k : Int)) (.int .i64 (m : Int))).run Tryz.prog w = .ok () w' ∧ LeadIs w' b (setF f k m) ∧ w.grownBy w' (some b) := by
  obtain ⟨n, F, h, hF⟩ := h
  obtain ⟨w', hr, h', hg⟩ := h.put key1 Tryz.underlying65 (k : Int) (.int .i64 (m : Int))
  refine ⟨w', hr, ⟨_, _, h', fun q => ?_⟩, hg⟩
  unfold setF
  by_cases hq : q = k
  · subst hq; simp
  · have : ¬ ((q : Int) = (k : Int)) := by omega
    simp only [if_neg this, if_neg hq]
    exact hF q

abbrev cmO (na : Option Addr) (nn nc : Nat) (fv : Value) (mv ml : Nat) : Obj := .cells #[.slice na nn nc, fv, .map (some mv), .map (some ml)] 67
abbrev cmV (na : Option Addr) (nn nc : Nat) (fv : Value) (mv ml : Nat) : Value := .agg #[.slice na nn nc, fv, .map (some mv), .map (some ml)]
theorem cmO_cells {w : World} {b : Nat} {na : Option Addr} {nn nc : Nat} {fv : Value} {mv ml : Nat} (h : w.heap[b]? = some (cmO na nn nc fv mv ml)) :
    w.cell? ⟨b, 0, none⟩ = some (.slice na nn nc) ∧ w.cell? ⟨b, 1, none⟩ = some fv ∧ w.cell? ⟨b, 2, none⟩ = some (.map (some mv)) ∧ w.cell? ⟨b, 3, none⟩ = some (.map (some ml)) := by
  refine ⟨?_, ?_, ?_, ?_⟩ <;> simp [World.cell?, h]
theorem Out2.grown' {nb : Nat} {V w w' : World} (h : Out2 nb none V w) (hg : w.grownBy w' (some nb)) : Out2 nb none V w' :=
  ⟨hg.os.trans h.os, hg.tape.trans h.tape, hg.output.trans h.output, Nat.le_trans h.size hg.size, fun k hk hn hr => (hg.block k (Nat.lt_of_lt_of_le hk h.size) (fun e => hn (Option.some.inj e))).trans (h.block k hk hn hr)⟩
theorem Out2.trans' {nb : Nat} {U V w : World} (h : Out2 nb none U V) (k : Out2 nb none V w) : Out2 nb none U w :=
  ⟨k.os.trans h.os, k.tape.trans h.tape, k.output.trans h.output, Nat.le_trans h.size k.size, fun i hi hn hr => (k.block i (Nat.lt_of_lt_of_le hi h.size) hn hr).trans (h.block i hi hn hr)⟩
theorem Out2.of_below {nb : Nat} {V w : World} (h : Below V.heap.size V w) : Out2 nb none V w := ⟨h.os, h.tape, h.output, h.size, fun k hk _ _ => h.block k hk⟩
theorem Forest.moves {f : Nat → Option Nat} {lead rank : Nat → Nat} (h : Forest f lead rank) {n : Nat} (hn : lead n ≠ n) : ∃ k, f n = some k ∧ k ≠ n := by
  cases e : f n with
  | none => exact absurd (h.none_ n e) hn
  | some k =>
    refine ⟨k, rfl, fun hk => ?_⟩
    subst hk
    exact hn (h.self_ k e)

set_option maxHeartbeats 2000000 in
set_option maxRecDepth 100000 in
theorem leader_step (na : Option Addr) (nn nc : Nat) (fv : Value) (mv ml : Nat) (lead rank : Nat → Nat) (n : Nat) (f : Nat → Option Nat) (w : World) (hF : Forest f lead rank) (hL : LeadIs w ml f)
    (hrec : ∀ k, f n = some k → k ≠ n → ∀ (f : Nat → Option Nat) (w : World), Forest f lead rank → LeadIs w ml f → Calls Tryz.prog 62 #[cmV na nn nc fv mv ml, .int .i64 (k : Int)] w fun e w' => e = .returned (.int .i64 (lead k : Int)) ∧ Out2 ml none w w' ∧ ∃ f', Forest f' lead rank ∧ LeadIs w' ml f') :
    Calls Tryz.prog 62 #[cmV na nn nc fv mv ml, .int .i64 (n : Int)] w fun e w' => e = .returned (.int .i64 (lead n : Int)) ∧ Out2 ml none w w' ∧ ∃ f', Forest f' lead rank ∧ LeadIs w' ml f' := by
  obtain ⟨W1, hW1⟩ : ∃ W1, w.alloc (cmO na nn nc fv mv ml) = W1 := ⟨_, rfl⟩
  have hb1 : Below w.heap.size w W1 := by rw [← hW1]; exact blkBelow w _ _
  have hs1 : W1.heap.size = w.heap.size + 1 := by rw [← hW1]; simp
  have x1 : W1.heap[w.heap.size]? = some (cmO na nn nc fv mv ml) := by rw [← hW1]; exact World.alloc_heap_new _ _
  have hml := hL.lt
  have hL1 : LeadIs W1 ml f := hL.same (hb1.block ml hml)
  obtain ⟨c0, c1, c2, c3⟩ := cmO_cells x1
  have hlk := hL1.look n
  have HW1 := Lib.hid hW1
  have HB1 := Lib.hid hb1
  have HS1 := Lib.hid hs1
  have HX1 := Lib.hid x1
  have HL1 := Lib.hid hL1
  have HF := Lib.hid hF
  have HML := Lib.hid hml
  cases hfn : f n with
  | none =>
    have HV : Hid (lead n = n) := Lib.hid (hF.none_ n hfn)
    rw [hfn] at hlk
    simp only [Option.getD_none, Option.isSome_none, Int.natCast_zero] at hlk
    rw [HV.out]
    clear hW1 hb1 hs1 x1 hL1 hF hL hrec hfn hml
    go_enter Tryz.func62, Tryz.ntmps62
    go_upto_region 1 with fail
    rw [show w.alloc (.cells #[.slice na nn nc, fv, .map (some mv), .map (some ml)] 67) = W1 from HW1.out]
    go_wp2_with fail
    go_ret
    exact ⟨rfl, Out2.of_below HB1.out, _, HF.out, HL1.out⟩
  | some k =>
    rw [hfn] at hlk
    simp only [Option.getD_some, Option.isSome_some] at hlk
    by_cases hk : k = n
    · subst hk
      have HV : Hid (lead k = k) := Lib.hid (hF.self_ k hfn)
      rw [HV.out]
      clear hW1 hb1 hs1 x1 hL1 hF hL hrec hfn hml
      go_enter Tryz.func62, Tryz.ntmps62
      go_upto_region 1 with fail
      rw [show w.alloc (.cells #[.slice na nn nc, fv, .map (some mv), .map (some ml)] 67) = W1 from HW1.out]
      go_wp2_with fail
      go_ret
      exact ⟨rfl, Out2.of_below HB1.out, _, HF.out, HL1.out⟩
    · have hk1 : ¬ ((k : Int) = (n : Int)) := by omega
      obtain ⟨e1, _, e3⟩ := hF.step n k hfn hk
      have HR := Lib.hid (hrec k hfn hk f W1 hF hL1)
      have HE := Lib.hid e1
      have HN := Lib.hid e3
      have hne : ((k : Int) == (n : Int)) = false := by simpa using hk1
      obtain ⟨l, hl⟩ : ∃ l, lead n = l := ⟨_, rfl⟩
      rw [← e1, hl] at HR
      rw [hl]
      have HLL := Lib.hid hl
      clear hW1 hb1 hs1 x1 hL1 hF hL hrec hfn hml e1 e3 hk hk1 hl
      go_enter Tryz.func62, Tryz.ntmps62
      go_upto_region 1 with fail
      rw [show w.alloc (.cells #[.slice na nn nc, fv, .map (some mv), .map (some ml)] 67) = W1 from HW1.out]
      go_upto_region 5 with (go_at_call 62; go_loud (refine HR.out.mono ?_; rintro en w3 ⟨rfl, ho3, f3, hf3, hl3⟩; have HO3 := Lib.hid ho3; have HF3 := Lib.hid hf3; have HL3 := Lib.hid hl3; clear ho3 hf3 hl3))
      clear c0 c1 c2 c3 hlk
      have y1 : w3.heap[w.heap.size]? = some (cmO na nn nc fv mv ml) := (HO3.out.block _ (by have := HS1.out; omega) (by have := HML.out; omega) (by simp)).trans HX1.out
      obtain ⟨c0, c1, c2, c3⟩ := cmO_cells y1
      obtain ⟨w4, hup, hl4, hg4⟩ := HL3.out.put n l
      have HL4 := Lib.hid hl4
      have HG4 := Lib.hid hg4
      clear hl4 hg4 y1
      go_wp2_with fail
      go_ret
      refine ⟨rfl, ((Out2.of_below HB1.out).trans' HO3.out).grown' HG4.out, _, ?_, HL4.out⟩
      obtain ⟨q, hq, hqn⟩ := HF3.out.moves HN.out
      have := HF3.out.short hq hqn
      rw [HLL.out] at this
      exact this
theorem leader_any (na : Option Addr) (nn nc : Nat) (fv : Value) (mv ml : Nat) (lead rank : Nat → Nat) : ∀ (r n : Nat), rank n ≤ r → ∀ (f : Nat → Option Nat) (w : World), Forest f lead rank → LeadIs w ml f →
    Calls Tryz.prog 62 #[cmV na nn nc fv mv ml, .int .i64 (n : Int)] w fun e w' => e = .returned (.int .i64 (lead n : Int)) ∧ Out2 ml none w w' ∧ ∃ f', Forest f' lead rank ∧ LeadIs w' ml f' := by
  intro r
  induction r with
  | zero =>
    intro n hr f w hF hL
    exact leader_step na nn nc fv mv ml lead rank n f w hF hL (fun k hk hkn => by have := (hF.step n k hk hkn).2.1; omega)
  | succ r ih =>
    intro n hr f w hF hL
    exact leader_step na nn nc fv mv ml lead rank n f w hF hL (fun k hk hkn f' w' hF' hL' => ih k (by have := (hF.step n k hk hkn).2.1; omega) f' w' hF' hL')
end Go.Proofs.YtjmnaibbljakaaaGreatDoor

/- Equality, walks: visit. -/
namespace Go.Proofs.YtjmnaibbljakaaaGreatDoor
open Go.RowKit Go.Deep Go.Shelf

theorem zero_boolE (w : World) : (zeroValue 4).run Tryz.prog w = .ok (.bool false) w := by kernel_rfl
/-- How many entries a map has. -/
def mapN (w : World) (b : Nat) : Nat := match w.heap[b]? with
  | some (.map es _) => es.size
  | _ => 0
/-- Block b is the map of visited pairs. -/
def VisIs (w : World) (b n : Nat) (V : Nat → Nat → Bool) : Prop := ∃ F, AMap enc2 w b n F ∧ ∀ x y : Nat, F ((x : Int), (y : Int)) = if V x y = true then some (.bool true) else none
theorem VisIs.lt {w : World} {b n : Nat} {V : Nat → Nat → Bool} (h : VisIs w b n V) : b < w.heap.size := by obtain ⟨_, h, _⟩ := h; exact h.lt
theorem VisIs.num {w : World} {b n : Nat} {V : Nat → Nat → Bool} (h : VisIs w b n V) : mapN w b = n := by
  obtain ⟨F, ⟨es, c, h1, h2, _⟩, _⟩ := h
  unfold mapN
  rw [h1]
  simpa using h2
theorem VisIs.same {w w' : World} {b n : Nat} {V : Nat → Nat → Bool} (h : VisIs w b n V) (hb : w'.heap[b]? = w.heap[b]?) : VisIs w' b n V := by
  obtain ⟨F, h, hF⟩ := h; exact ⟨F, h.same hb, hF⟩
theorem VisIs.made (w : World) : VisIs (w.alloc (.map #[] 0)) w.heap.size 0 (fun _ _ => false) := ⟨_, AMap.made w, fun _ _ => rfl⟩
theorem VisIs.look {w : World} {b n : Nat} {V : Nat → Nat → Bool} (h : VisIs w b n V) (x y : Nat) :
    (Instr.lookup 64 (.map (some b)) (.agg #[.int .i64 (x : Int), .int .i64 (y : Int)]) false).run Tryz.prog w = .ok (.bool (V x y)) w := by
  obtain ⟨F, h, hF⟩ := h
  have := h.look_ok key2 Tryz.underlying64 (zero_boolE w) ((x : Int), (y : Int)) false
  rw [hF x y] at this
  rw [this]
  cases V x y <;> rfl
theorem VisIs.put {w : World} {b n : Nat} {V : Nat → Nat → Bool} (h : VisIs w b n V) (x y : Nat) (hxy : V x y = false) :
    ∃ w', (Instr.mapUpdate 64 (.map (some b)) (.agg #[.int .i64 (x : Int), .int .i64 (y : Int)]) (.bool true)).run Tryz.prog w = .ok () w' ∧ VisIs w' b (n + 1) (setV V x y) ∧ w.grownBy w' (some b) := by
  obtain ⟨F, h, hF⟩ := h
  obtain ⟨w', hr, h', hg⟩ := h.put key2 Tryz.underlying64 ((x : Int), (y : Int)) (.bool true)
  rw [hF x y, hxy] at h'
  refine ⟨w', hr, ⟨_, h', fun p q => ?_⟩, hg⟩
  unfold setV
  by_cases hq : p = x ∧ q = y
  · obtain ⟨rfl, rfl⟩ := hq; simp
  · have : ¬ (((p : Int), (q : Int)) = ((x : Int), (y : Int))) := fun e => hq (by
      simp only [Prod.mk.injEq] at e
      omega)
    simp only [if_neg this, if_neg hq]
    exact hF p q
abbrev arO (a b : Int) : Obj := .cells #[.int .i64 a, .int .i64 b] 103
theorem arO_cells {w : World} {b : Nat} {x y : Int} (h : w.heap[b]? = some (arO x y)) : w.cell? ⟨b, 0, none⟩ = some (.int .i64 x) ∧ w.cell? ⟨b, 1, none⟩ = some (.int .i64 y) ∧ w.frozen? ⟨b, 0, none⟩ = false ∧ w.frozen? ⟨b, 1, none⟩ = false := by
  refine ⟨?_, ?_, frozen_of_block h 0, frozen_of_block h 1⟩ <;> simp [World.cell?, h]
theorem arO_fill {w : World} {b : Nat} {x y : Int} (h : w.heap[b]? = some (arO x y)) (u v : Int) : ((w.setCell ⟨b, 0, none⟩ (.int .i64 u)).setCell ⟨b, 1, none⟩ (.int .i64 v)).heap[b]? = some (arO u v) := set_block (set_block h 0 (.int .i64 u)) 1 (.int .i64 v)
theorem Out2.alloc' {nb : Nat} {V w : World} (h : Out2 nb none V w) (o : Obj) : Out2 nb none V (w.alloc o) := h.to ((Below.refl _ _).alloc (Nat.le_refl _) o)
theorem Out2.set' {nb : Nat} {V w : World} (h : Out2 nb none V w) {p : Addr} (hp : V.heap.size ≤ p.block) (u : Value) : Out2 nb none V (w.setCell p u) :=
  ⟨h.os, h.tape, h.output, Nat.le_trans h.size (by simp [World.setCell]), fun k hk hn hr => (Below.heap_setCell _ _ _ _ (by omega)).trans (h.block k hk hn hr)⟩
theorem Out2.more {nb mb : Nat} {V w : World} (h : Out2 nb none V w) : Out2 nb (some mb) V w := ⟨h.os, h.tape, h.output, h.size, fun k hk hn _ => h.block k hk hn (by simp)⟩
theorem Out2.grownA {nb mb : Nat} {V w w' : World} (h : Out2 nb (some mb) V w) (hg : w.grownBy w' (some mb)) : Out2 nb (some mb) V w' :=
  ⟨hg.os.trans h.os, hg.tape.trans h.tape, hg.output.trans h.output, Nat.le_trans h.size hg.size, fun k hk hn hr => (hg.block k (Nat.lt_of_lt_of_le hk h.size) hr).trans (h.block k hk hn hr)⟩
theorem Out2.grownB {nb mb : Nat} {V w w' : World} (h : Out2 nb (some mb) V w) (hg : w.grownBy w' (some nb)) : Out2 nb (some mb) V w' :=
  ⟨hg.os.trans h.os, hg.tape.trans h.tape, hg.output.trans h.output, Nat.le_trans h.size hg.size, fun k hk hn hr => (hg.block k (Nat.lt_of_lt_of_le hk h.size) (fun e => hn (Option.some.inj e))).trans (h.block k hk hn hr)⟩
/-- The region that finds both leaders and makes the pair. -/
structure VB (ml : Nat) (lead rank : Nat → Nat) (la lb : Nat) (V : World) (L : Nat → Bool) (vals : Nat → Value) (w : World) : Prop where
  dn : (L 5 = true → L 2 = true) ∧ (L 6 = true → L 2 = true ∧ L 5 = true) ∧ (L 8 = true → L 6 = true ∧ L 7 = true)
  out : Out2 ml none V w
  ld : ∃ f, Forest f lead rank ∧ LeadIs w ml f
  v2 : L 2 = true → vals 2 = .int .i64 (la : Int)
  v5 : L 5 = true → vals 5 = .int .i64 (lb : Int)
  v6 : L 6 = true → vals 6 = .agg #[.int .i64 (la : Int), .int .i64 (lb : Int)]
  va : L 7 = true → L 8 = false → ∃ X, vals 7 = .pointer (some ⟨X, 0, none⟩) ∧ V.heap.size ≤ X ∧ w.heap[X]? = some (arO 0 0)
  vs : L 8 = true → ∃ X, vals 7 = .pointer (some ⟨X, 0, none⟩) ∧ V.heap.size ≤ X ∧ w.heap[X]? = some (arO la lb)

set_option maxHeartbeats 4000000 in
set_option maxRecDepth 100000 in
theorem visit_any (na : Option Addr) (nn nc : Nat) (fv : Value) (mv ml : Nat) (lead rank : Nat → Nat) (a b : Nat) (f : Nat → Option Nat) (V : Nat → Nat → Bool) (w : World) (hF : Forest f lead rank) (hL : LeadIs w ml f) (n : Nat) (hV : VisIs w mv n V) (hmm : mv ≠ ml) :
    Calls Tryz.prog 45 #[cmV na nn nc fv mv ml, .int .i64 (a : Int), .int .i64 (b : Int)] w fun e w' => Out2 ml (some mv) w w' ∧ ∃ f' rank', LeadIs w' ml f' ∧
      ((V (lead a) (lead b) = true ∧ e = .returned (.bool false) ∧ Forest f' lead rank' ∧ VisIs w' mv n V) ∨
       (V (lead a) (lead b) = false ∧ e = .returned (.bool true) ∧ Forest f' (leadTo lead (lead a) (lead b)) rank' ∧ VisIs w' mv (n + 1) (setV V (lead a) (lead b)))) := by
  obtain ⟨W1, hW1⟩ : ∃ W1, w.alloc (cmO na nn nc fv mv ml) = W1 := ⟨_, rfl⟩
  have hb1 : Below w.heap.size w W1 := by rw [← hW1]; exact blkBelow w _ _
  have hs1 : W1.heap.size = w.heap.size + 1 := by rw [← hW1]; simp
  have x1 : W1.heap[w.heap.size]? = some (cmO na nn nc fv mv ml) := by rw [← hW1]; exact World.alloc_heap_new _ _
  have hml := hL.lt
  have hmv := hV.lt
  have HLA : Hid (∀ f W, Forest f lead rank → LeadIs W ml f → Calls Tryz.prog 62 #[cmV na nn nc fv mv ml, .int .i64 (a : Int)] W fun e w' => e = .returned (.int .i64 (lead a : Int)) ∧ Out2 ml none W w' ∧ ∃ f', Forest f' lead rank ∧ LeadIs w' ml f') := Lib.hid (fun f W h1 h2 => leader_any na nn nc fv mv ml lead rank (rank a) a (Nat.le_refl _) f W h1 h2)
  have HLB : Hid (∀ f W, Forest f lead rank → LeadIs W ml f → Calls Tryz.prog 62 #[cmV na nn nc fv mv ml, .int .i64 (b : Int)] W fun e w' => e = .returned (.int .i64 (lead b : Int)) ∧ Out2 ml none W w' ∧ ∃ f', Forest f' lead rank ∧ LeadIs w' ml f') := Lib.hid (fun f W h1 h2 => leader_any na nn nc fv mv ml lead rank (rank b) b (Nat.le_refl _) f W h1 h2)
  have HID := Lib.hid (And.intro (hF.idem a) (hF.idem b))
  obtain ⟨la, hla⟩ : ∃ la, lead a = la := ⟨_, rfl⟩
  obtain ⟨lb, hlb⟩ : ∃ lb, lead b = lb := ⟨_, rfl⟩
  rw [hla] at HLA HID
  rw [hlb] at HLB HID
  rw [hla, hlb]
  have HW1 := Lib.hid hW1
  have HB1 := Lib.hid hb1
  have HS1 := Lib.hid hs1
  have HML : Hid (ml < W1.heap.size) := Lib.hid (by omega)
  have HMV : Hid (mv < w.heap.size ∧ ml < w.heap.size ∧ mv ≠ ml) := Lib.hid ⟨hmv, hml, hmm⟩
  have HVV := Lib.hid hV
  have HLD : Hid (∃ f, Forest f lead rank ∧ LeadIs W1.drew ml f) := Lib.hid ⟨f, hF, hL.same (hb1.block ml hml)⟩
  have HBX : Hid (True ∧ ∀ W, Out2 ml none W1 W → W.heap[w.heap.size]? = some (cmO na nn nc fv mv ml)) := Lib.hid ⟨trivial, fun W hW => (hW.block _ (by omega) (by omega) (by simp)).trans x1⟩
  have HSS : Hid (∀ W, Out2 ml none W1 W → W.cell? ⟨w.heap.size, 0, none⟩ = some (.slice na nn nc) ∧ W.cell? ⟨w.heap.size, 1, none⟩ = some fv ∧ W.cell? ⟨w.heap.size, 2, none⟩ = some (.map (some mv)) ∧ W.cell? ⟨w.heap.size, 3, none⟩ = some (.map (some ml))) := Lib.hid (fun W hW => cmO_cells ((hW.block _ (by omega) (by omega) (by simp)).trans x1))
  clear hW1 hb1 hs1 x1 hml hmv hL hV hmm hla hlb hF
  go_enter Tryz.func45, Tryz.ntmps45
  go_upto_region 1 with fail
  rw [show w.alloc (.cells #[.slice na nn nc, fv, .map (some mv), .map (some ml)] 67) = W1 from HW1.out]
  refine wp_region_held_drew (S := fun W => W.cell? ⟨w.heap.size, 0, none⟩ = some (.slice na nn nc) ∧ W.cell? ⟨w.heap.size, 1, none⟩ = some fv ∧ W.cell? ⟨w.heap.size, 2, none⟩ = some (.map (some mv)) ∧ W.cell? ⟨w.heap.size, 3, none⟩ = some (.map (some ml))) (by kernel_rfl) (HSS.out W1 (Out2.refl _ _ _)) (fun hHeld => ?_)
  refine wpAnyH_take_l 0 (v := ?va0) rfl rfl (by kernel_rfl) (by kernel_rfl) (by kernel_rfl) (fun _ _ _ h => h) ?ha0 (by assumption) ?ra0
  case ha0 => (intro w hSw; (try dsimp only at hSw); go_simp; try rfl)
  case' ra0 => simp only [setD, List.set_cons_succ, List.set_cons_zero]
  refine wpAnyH_take_l 1 (v := ?va1) rfl rfl (by kernel_rfl) (by kernel_rfl) (by kernel_rfl) (fun _ _ _ h => h) ?ha1 (by assumption) ?ra1
  case ha1 => (intro w hSw; (try dsimp only at hSw); go_simp; try rfl)
  case' ra1 => simp only [setD, List.set_cons_succ, List.set_cons_zero]
  refine wpAnyH_take_l 3 (v := ?va3) rfl rfl (by kernel_rfl) (by kernel_rfl) (by kernel_rfl) (fun _ _ _ h => h) ?ha3 (by assumption) ?ra3
  case ha3 => (intro w hSw; (try dsimp only at hSw); go_simp; try rfl)
  case' ra3 => simp only [setD, List.set_cons_succ, List.set_cons_zero]
  refine wpAnyH_take_l 4 (v := ?va4) rfl rfl (by kernel_rfl) (by kernel_rfl) (by kernel_rfl) (fun _ _ _ h => h) ?ha4 (by assumption) ?ra4
  case ha4 => (intro w hSw; (try dsimp only at hSw); go_simp; try rfl)
  case' ra4 => simp only [setD, List.set_cons_succ, List.set_cons_zero]
  refine wpAnyH_start [2, 5, 6, 7, 8] (VB ml lead rank la lb W1) (by kernel_rfl) (by kernel_rfl) (fun L vals W hR => HSS.out _ hR.out) ?starta ?stepsa ?stopa
  case starta => exact ⟨⟨fun h => (Bool.false_ne_true h).elim, fun h => (Bool.false_ne_true h).elim, fun h => (Bool.false_ne_true h).elim⟩, (Out2.refl _ _ _).drew, HLD.out, fun h => (Bool.false_ne_true h).elim, fun h => (Bool.false_ne_true h).elim, fun h => (Bool.false_ne_true h).elim, fun h => (Bool.false_ne_true h).elim, fun h => (Bool.false_ne_true h).elim⟩
  case stepsa =>
    refine List.forall_mem_cons.2 ⟨?_, List.forall_mem_cons.2 ⟨?_, List.forall_mem_cons.2 ⟨?_, List.forall_mem_cons.2 ⟨?_, List.forall_mem_cons.2 ⟨?_, fun _ h => by cases h⟩⟩⟩⟩⟩
    · refine InvStep.list (k := 2) rfl rfl [] (by kernel_rfl) [(2, some 10), (5, some 13), (6, some 14), (7, some 7), (8, none)] (by kernel_rfl) (by decide) (fun L vals olds wx hLk hdeps hR K hK => ?_)
      have hK2 := hK.out
      clear hK
      simp only [fillL, setD, List.set_cons_succ, List.set_cons_zero] at hK2 ⊢
      clear hdeps
      go_simp
      obtain ⟨fx, hfx, hlx⟩ := hR.ld
      refine (HLA.out fx wx hfx hlx).mono ?_
      rintro en w9 ⟨rfl, ho9, f9, hf9, hl9⟩
      dsimp only
      obtain ⟨rD, rO, rL, r2, r5, r6, ra', rs'⟩ := hR
      refine hK2 _ _ ⟨⟨fun _ => rfl, fun h => ⟨rfl, (rD.2.1 h).2⟩, rD.2.2⟩, rO.trans' ho9, ⟨f9, hf9, hl9⟩, fun _ => rfl, r5, r6, fun h h' => ?_, fun h => ?_⟩
      · obtain ⟨X, e1, e2, e3⟩ := ra' h h'; exact ⟨X, e1, e2, (ho9.block X (Array.getElem?_eq_some_iff.1 e3).1 (by have := HML.out; omega) (by simp)).trans e3⟩
      · obtain ⟨X, e1, e2, e3⟩ := rs' h; exact ⟨X, e1, e2, (ho9.block X (Array.getElem?_eq_some_iff.1 e3).1 (by have := HML.out; omega) (by simp)).trans e3⟩
    · refine InvStep.list (k := 5) rfl rfl [2] (by kernel_rfl) [(2, some 10), (5, some 13), (6, some 14), (7, some 7), (8, none)] (by kernel_rfl) (by decide) (fun L vals olds wx hLk hdeps hR K hK => ?_)
      have hK2 := hK.out
      clear hK
      simp only [fillL, setD, List.set_cons_succ, List.set_cons_zero] at hK2 ⊢
      simp only [List.all_cons, List.all_nil, Bool.and_true] at hdeps
      go_simp
      obtain ⟨fx, hfx, hlx⟩ := hR.ld
      refine (HLB.out fx wx hfx hlx).mono ?_
      rintro en w9 ⟨rfl, ho9, f9, hf9, hl9⟩
      dsimp only
      obtain ⟨rD, rO, rL, r2, r5, r6, ra', rs'⟩ := hR
      refine hK2 _ _ ⟨⟨fun _ => hdeps, fun h => ⟨hdeps, rfl⟩, rD.2.2⟩, rO.trans' ho9, ⟨f9, hf9, hl9⟩, r2, fun _ => rfl, r6, fun h h' => ?_, fun h => ?_⟩
      · obtain ⟨X, e1, e2, e3⟩ := ra' h h'; exact ⟨X, e1, e2, (ho9.block X (Array.getElem?_eq_some_iff.1 e3).1 (by have := HML.out; omega) (by simp)).trans e3⟩
      · obtain ⟨X, e1, e2, e3⟩ := rs' h; exact ⟨X, e1, e2, (ho9.block X (Array.getElem?_eq_some_iff.1 e3).1 (by have := HML.out; omega) (by simp)).trans e3⟩
    · refine InvStep.list (k := 6) rfl rfl [2, 5] (by kernel_rfl) [(2, some 10), (5, some 13), (6, some 14), (7, some 7), (8, none)] (by kernel_rfl) (by decide) (fun L vals olds wx hLk hdeps hR K hK => ?_)
      have hK2 := hK.out
      clear hK
      simp only [fillL, setD, List.set_cons_succ, List.set_cons_zero] at hK2 ⊢
      simp only [List.all_cons, List.all_nil, Bool.and_true, Bool.and_eq_true] at hdeps
      have es := (slotO_done (vals := vals) (olds := olds) hdeps.1).trans (hR.v2 hdeps.1)
      have es2 := (slotO_done (vals := vals) (olds := olds) hdeps.2).trans (hR.v5 hdeps.2)
      simp only [es, es2] at hK2 ⊢
      clear es es2
      go_simp
      obtain ⟨rD, rO, rL, r2, r5, r6, ra', rs'⟩ := hR
      exact hK2 _ _ ⟨⟨rD.1, fun _ => hdeps, fun h => ⟨rfl, (rD.2.2 h).2⟩⟩, rO, rL, r2, r5, fun _ => rfl, ra', rs'⟩
    · refine InvStep.list (k := 7) rfl rfl [] (by kernel_rfl) [(2, some 10), (5, some 13), (6, some 14), (7, some 7), (8, none)] (by kernel_rfl) (by decide) (fun L vals olds wx hLk hdeps hR K hK => ?_)
      have hK2 := hK.out
      clear hK
      simp only [fillL, setD, List.set_cons_succ, List.set_cons_zero] at hK2 ⊢
      clear hdeps
      have f10 : L 8 = false := by
        cases e : L 8 with
        | false => rfl
        | true => rw [(hR.dn.2.2 e).2] at hLk; cases hLk
      go_simp
      obtain ⟨rD, rO, rL, r2, r5, r6, ra', rs'⟩ := hR
      obtain ⟨fx, hfx, hlx⟩ := rL
      exact hK2 _ _ ⟨⟨rD.1, rD.2.1, fun h => absurd (f10.symm.trans h) (by decide)⟩, rO.alloc' _, ⟨fx, hfx, hlx.same (Below.heap_alloc _ _ _ hlx.lt)⟩, r2, r5, r6, fun _ _ => ⟨_, rfl, rO.size, World.alloc_heap_new _ _⟩, fun h => absurd (f10.symm.trans h) (by decide)⟩
    · refine InvStep.list (k := 8) rfl rfl [6, 7] (by kernel_rfl) [(2, some 10), (5, some 13), (6, some 14), (7, some 7), (8, none)] (by kernel_rfl) (by decide) (fun L vals olds wx hLk hdeps hR K hK => ?_)
      have hK2 := hK.out
      clear hK
      simp only [fillL, setD, List.set_cons_succ, List.set_cons_zero] at hK2 ⊢
      simp only [List.all_cons, List.all_nil, Bool.and_true, Bool.and_eq_true] at hdeps
      obtain ⟨X, eX, hX1, hX2⟩ := hR.va hdeps.2 hLk
      have es := (slotO_done (vals := vals) (olds := olds) hdeps.1).trans (hR.v6 hdeps.1)
      have es2 := (slotO_done (vals := vals) (olds := olds) hdeps.2).trans eX
      simp only [es, es2] at hK2 ⊢
      clear es es2
      obtain ⟨z0, z1, z2, z3⟩ := arO_cells hX2
      have EX := Lib.hid eX
      clear eX
      go_simp
      clear z0 z1 z2 z3
      obtain ⟨rD, rO, rL, r2, r5, r6, ra', rs'⟩ := hR
      obtain ⟨fx, hfx, hlx⟩ := rL
      have hne : X ≠ ml := by have := HML.out; omega
      refine hK2 undef _ ⟨⟨rD.1, rD.2.1, fun _ => hdeps⟩, (rO.set' (p := ⟨X, 0, none⟩) hX1 _).set' (p := ⟨X, 1, none⟩) hX1 _, ⟨fx, hfx, hlx.same ((set_oth _ 1 _ (fun e => hne e.symm)).trans (set_oth _ 0 _ (fun e => hne e.symm)))⟩, r2, r5, r6, fun _ h => (Bool.false_ne_true h.symm).elim, fun _ => ⟨X, EX.out, hX1, arO_fill hX2 _ _⟩⟩
  case stopa =>
    refine end_plain [(2, some 10), (5, some 13), (6, some 14), (7, some 7), (8, none)] (by kernel_rfl) (by decide) (fun L vals olds w8 hall hR => ?_)
    simp only [List.all_cons, List.all_nil, Bool.and_true, Bool.and_eq_true] at hall
    obtain ⟨q2, q5, q6, q7, q8⟩ := hall
    obtain ⟨X, eX, hX1, hX2⟩ := hR.vs q8
    have HW8 := Lib.hid hR.out
    have HX8 := Lib.hid (And.intro hX1 hX2)
    have HL8 := Lib.hid hR.ld
    simp only [fillL, List.set_cons_succ, List.set_cons_zero, slotO_done q7, eX]
    clear hR q2 q5 q6 q7 q8 hX1 hX2 eX hHeld
    obtain ⟨f8, hf8, hl8⟩ := HL8.out
    obtain ⟨hX1, hX2⟩ := HX8.out
    obtain ⟨p0, p1, p2, p3⟩ := arO_cells hX2
    obtain ⟨c0, c1, c2, c3⟩ := HSS.out w8 HW8.out
    have hv8 : VisIs w8 mv n V := HVV.out.same ((HW8.out.block mv (by have := HMV.out; have := HS1.out; omega) HMV.out.2.2 (by simp)).trans (HB1.out.block mv HMV.out.1))
    have hlk := hv8.look la lb
    have HF8 := Lib.hid hf8
    have HL8' := Lib.hid hl8
    have HV8 := Lib.hid hv8
    have HO8 : Hid (Out2 ml none w w8) := Lib.hid ((Out2.of_below HB1.out).trans' HW8.out)
    have HXX := Lib.hid (And.intro hX1 hX2)
    clear hf8 hl8 hX1 hX2
    cases hvv : V la lb
    · rw [hvv] at hlk
      have HVF := Lib.hid hvv
      obtain ⟨w9, hup, hv9, hg9⟩ := hv8.put la lb hvv
      have hl9 : LeadIs w9 ml f8 := HL8'.out.same (hg9.block ml HL8'.out.lt (by have := HMV.out.2.2; simpa using fun e => this e.symm))
      have HV9 := Lib.hid hv9
      have HL9 := Lib.hid hl9
      have HG9 := Lib.hid hg9
      clear hvv hv8 hv9 hl9 hg9
      go_upto_region 5 with fail
      clear c0 c1 c2 c3 p0 p1 p2 p3 hlk hup
      have hsz : w.heap.size < w8.heap.size := by have := HW8.out.size; have := HS1.out; omega
      have hsx : X < w8.heap.size := (Array.getElem?_eq_some_iff.1 HXX.out.2).1
      obtain ⟨c0, c1, c2, c3⟩ : w9.cell? ⟨w.heap.size, 0, none⟩ = some (.slice na nn nc) ∧ w9.cell? ⟨w.heap.size, 1, none⟩ = some fv ∧ w9.cell? ⟨w.heap.size, 2, none⟩ = some (.map (some mv)) ∧ w9.cell? ⟨w.heap.size, 3, none⟩ = some (.map (some ml)) :=
        cmO_cells ((HG9.out.block _ hsz (fun e => by have := Option.some.inj e; have := HMV.out; omega)).trans (HBX.out.2 w8 HW8.out))
      obtain ⟨p0, p1, p2, p3⟩ := arO_cells ((HG9.out.block X hsx (fun e => by have := Option.some.inj e; have := HMV.out; have := HXX.out.1; have := HS1.out; omega)).trans HXX.out.2)
      obtain ⟨w10, hup, hl10, hg10⟩ := HL9.out.put la lb
      have HL10 := Lib.hid hl10
      have HG10 := Lib.hid hg10
      have hv10 : VisIs w10 mv (n + 1) (setV V la lb) := HV9.out.same (hg10.block mv HV9.out.lt (fun e => HMV.out.2.2 (Option.some.inj e)))
      have HV10 := Lib.hid hv10
      clear hl10 hg10 hsz hsx hv10
      go_wp2_with fail
      go_ret
      refine ⟨(HO8.out.more.grownA HG9.out).grownB HG10.out, ?_⟩
      by_cases hll : la = lb
      · refine ⟨_, rank, HL10.out, .inr ⟨HVF.out, rfl, ?_, HV10.out⟩⟩
        subst hll
        rw [leadTo_self]
        exact HF8.out.loop HID.out.1
      · exact ⟨_, _, HL10.out, .inr ⟨HVF.out, rfl, HF8.out.join HID.out.1 HID.out.2 hll, HV10.out⟩⟩
    · rw [hvv] at hlk
      have HVT := Lib.hid hvv
      clear hvv hv8
      go_wp2_with fail
      go_ret
      exact ⟨HO8.out.more, f8, rank, HL8'.out, .inl ⟨HVT.out, rfl, HF8.out, HV8.out⟩⟩
end Go.Proofs.YtjmnaibbljakaaaGreatDoor
