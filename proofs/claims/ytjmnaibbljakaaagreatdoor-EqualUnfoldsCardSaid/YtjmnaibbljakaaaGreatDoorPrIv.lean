/- Regions that draw their order: a relation over the set of operations that are done, and one step for each operation, instead of one walk for each order. -/
import Derived.Deep.RegionHeld
import Derived.Still
namespace Go.Proofs.YtjmnaibbljakaaaGreatDoor

/-- The slot that an operation writes. -/
def dstAt (ops : Array Oper) (k : Nat) : Option Tmp := (ops[k]?).bind (·.dst)
/-- The slots while the region is under way: those of the operations in L hold vals. -/
def fillSel (ops : Array Oper) (L : Nat → Bool) (vals : Nat → Value) : List Nat → Array Value → Array Value
  | [], t => t
  | k :: r, t => fillSel ops L vals r (match dstAt ops k with | some d => t.setIfInBounds d (if L k = true then vals k else t.getD d undef) | none => t)
def midAct (ops : Array Oper) (a0 : Act) (rem : List Nat) (L : Nat → Bool) (vals : Nat → Value) : Act := ⟨fillSel ops L vals rem a0.tmps, a0.defers⟩
def updL (L : Nat → Bool) (k : Nat) : Nat → Bool := fun j => j == k || L j
def updV (vals : Nat → Value) (k : Nat) (v : Value) : Nat → Value := fun j => if j = k then v else vals j

/-- On which of the operations that are left an operation waits. -/
def depsAt (md : Region.Mode) (ops : Array Oper) (rem : List Nat) (k : Nat) : List Nat :=
  match ops[k]? with
  | some o => ((o.after.toList.filter (Region.binds md)).map (·.on)).filter rem.contains
  | none => []
/-- No two of the operations that are left write one slot; each waits for earlier ones alone; all others are done. -/
def invOk (md : Region.Mode) (ops : Array Oper) (rem : List Nat) (listed : Array Bool) : Bool :=
  decide (listed.size = ops.size) && ((List.range ops.size).all fun i => listed.getD i true == !rem.contains i) && (rem.all fun i => decide (i < ops.size)) &&
  (rem.all fun i => rem.all fun j => i == j || (match dstAt ops i with | some d => !(dstAt ops j == some d) | none => true)) &&
  (rem.all fun k => match ops[k]? with | some o => o.after.all fun e => !Region.binds md e || decide (e.on < k) | none => false) && decide rem.Nodup

section
variable {ops : Array Oper} {vals : Nat → Value}
theorem fillSel_size {L : Nat → Bool} : ∀ (rem : List Nat) (t : Array Value), (fillSel ops L vals rem t).size = t.size
  | [], t => rfl
  | k :: r, t => by
    rw [fillSel, fillSel_size r]
    cases dstAt ops k with
    | none => rfl
    | some d => simp
theorem fillSel_other {L : Nat → Bool} {s : Nat} : ∀ (rem : List Nat) (t : Array Value), (∀ k ∈ rem, L k = true → dstAt ops k ≠ some s) → (fillSel ops L vals rem t)[s]? = t[s]?
  | [], t, _ => rfl
  | k :: r, t, h => by
    rw [fillSel, fillSel_other r _ (fun j hj => h j (by simp [hj]))]
    cases hd : dstAt ops k with
    | none => rfl
    | some d =>
      simp only []
      by_cases hL : L k = true
      · have hne : d ≠ s := fun e => h k (by simp) hL (by rw [hd, e])
        rw [Array.getElem?_setIfInBounds]
        simp [hne]
      · rw [if_neg hL, Array.getElem?_setIfInBounds]
        by_cases e : d = s
        · subst e
          by_cases hlt : d < t.size
          · simp [hlt, Array.getD]
          · simp [hlt]
        · simp [e]
theorem fillSel_at {L : Nat → Bool} {k d : Nat} : ∀ (rem : List Nat) (t : Array Value), k ∈ rem → L k = true → dstAt ops k = some d → d < t.size → (∀ j ∈ rem, j ≠ k → dstAt ops j ≠ some d) → (fillSel ops L vals rem t)[d]? = some (vals k)
  | [], _, h, _, _, _, _ => by cases h
  | j :: r, t, hm, hL, hd, hlt, hne => by
    rw [fillSel]
    by_cases hjr : k ∈ r
    · refine fillSel_at r _ hjr hL hd ?_ (fun i hi => hne i (by simp [hi]))
      cases dstAt ops j with
      | none => exact hlt
      | some e => simpa using hlt
    · have hjk : k = j := by
        rcases List.mem_cons.1 hm with h | h
        · exact h
        · exact absurd h hjr
      subst hjk
      rw [hd]
      simp only [hL, if_true]
      rw [fillSel_other r _ (fun i hi _ => hne i (by simp [hi]) (fun e => hjr (e ▸ hi)))]
      simp [hlt]
theorem midAct_put {a0 : Act} {rem : List Nat} {L : Nat → Bool} {k : Nat} {o : Oper} (hk : k ∈ rem) (ho : ops[k]? = some o)
    (hd : ∀ i ∈ rem, ∀ j ∈ rem, i ≠ j → ∀ d, dstAt ops i = some d → dstAt ops j ≠ some d) (v : Value) :
    (midAct ops a0 rem L vals).put o.dst v = midAct ops a0 rem (updL L k) (updV vals k v) := by
  have hdk : dstAt ops k = o.dst := by simp [dstAt, ho]
  have key : ∀ s : Nat, ((midAct ops a0 rem L vals).put o.dst v).tmps[s]? = (fillSel ops (updL L k) (updV vals k v) rem a0.tmps)[s]? := by
    intro s
    by_cases hs : ∃ j ∈ rem, updL L k j = true ∧ dstAt ops j = some s
    · obtain ⟨j, hj, hLj, hdj⟩ := hs
      by_cases hlt : s < a0.tmps.size
      · rw [fillSel_at rem a0.tmps hj hLj hdj hlt (fun i hi hij => fun e => hd i hi j hj hij s e hdj)]
        by_cases hjk : j = k
        · subst hjk
          rw [hdk] at hdj
          rw [hdj]
          simp only [Act.put, midAct, updV, if_true]
          rw [Array.getElem?_setIfInBounds]
          simp [fillSel_size, hlt]
        · have hL : L j = true := by
            simp only [updL, Bool.or_eq_true, beq_iff_eq] at hLj
            rcases hLj with h | h
            · exact absurd h hjk
            · exact h
          have hne : o.dst ≠ some s := by rw [← hdk]; exact hd j hj k hk hjk s hdj
          have e2 := fillSel_at (vals := vals) rem a0.tmps hj hL hdj hlt (fun i hi hij => fun e => hd i hi j hj hij s e hdj)
          rw [updV, if_neg hjk, ← e2]
          cases hod : o.dst with
          | none => rfl
          | some d =>
            have : d ≠ s := fun e => hne (by rw [hod, e])
            simp [Act.put, midAct, this]
      · have h1 : (fillSel ops (updL L k) (updV vals k v) rem a0.tmps)[s]? = none := by
          rw [Array.getElem?_eq_none]; rw [fillSel_size]; omega
        rw [h1]
        rw [Array.getElem?_eq_none]
        cases o.dst with
        | none => simp [Act.put, midAct, fillSel_size]; omega
        | some d => simp [Act.put, midAct, fillSel_size]; omega
    · have hno : ∀ j ∈ rem, updL L k j = true → dstAt ops j ≠ some s := fun j hj hL he => hs ⟨j, hj, hL, he⟩
      rw [fillSel_other (s := s) rem a0.tmps hno]
      have hne : o.dst ≠ some s := by rw [← hdk]; exact hno k hk (by simp [updL])
      have h2 := fillSel_other (ops := ops) (vals := vals) (L := L) (s := s) rem a0.tmps (fun j hj hL => hno j hj (by simp [updL, hL]))
      rw [← h2]
      cases hod : o.dst with
      | none => rfl
      | some d =>
        have : d ≠ s := fun e => hne (by rw [hod, e])
        simp [Act.put, midAct, this]
  have h1 : ((midAct ops a0 rem L vals).put o.dst v).tmps = fillSel ops (updL L k) (updV vals k v) rem a0.tmps := Array.ext_getElem? key
  have h2 : ((midAct ops a0 rem L vals).put o.dst v).defers = a0.defers := by cases o.dst <;> rfl
  have h3 : midAct ops a0 rem (updL L k) (updV vals k v) = ⟨((midAct ops a0 rem L vals).put o.dst v).tmps, ((midAct ops a0 rem L vals).put o.dst v).defers⟩ := by rw [h1, h2]; rfl
  exact h3.symm
end

/-- One operation's step: from whatever set of operations that may be done before it. -/
def InvStep (P : Program) (md : Region.Mode) (ops : Array Oper) (Q : Exit → Act → World → Prop) (a0 : Act) (rem : List Nat) (R : (Nat → Bool) → (Nat → Value) → World → Prop) (k : Nat) : Prop :=
  ∀ o, ops[k]? = some o → ∀ (L : Nat → Bool) (vals : Nat → Value) (w : World), L k = false → (depsAt md ops rem k).all L = true → R L vals w →
    ∀ K : Act → World → Prop, (∀ v w', R (updL L k) (updV vals k v) w' → K ((midAct ops a0 rem L vals).put o.dst v) w') →
    if Region.wanted o (yielded ops (midAct ops a0 rem L vals).tmps) = true then Oper.wp P o (midAct ops a0 rem L vals) w K Q else K ((midAct ops a0 rem L vals).put o.dst undef) w

theorem filter_upd {L : Nat → Bool} {k : Nat} : ∀ (rem : List Nat), rem.Nodup → k ∈ rem → L k = false → (rem.filter fun j => !updL L k j).length + 1 = (rem.filter fun j => !L j).length
  | [], _, h, _ => by cases h
  | j :: r, hn, hm, hL => by
    have hn' := List.nodup_cons.1 hn
    by_cases hjk : j = k
    · subst hjk
      have h1 : updL L j j = true := by simp [updL]
      have h2 : ∀ i ∈ r, (!updL L j i) = !L i := fun i hi => by
        have : i ≠ j := fun e => hn'.1 (e ▸ hi)
        simp [updL, this]
      simp only [List.filter_cons, h1, hL, Bool.not_true, Bool.not_false, if_true, Bool.false_eq_true, if_false, List.length_cons]
      rw [List.filter_congr h2]
    · have hk : k ∈ r := by
        rcases List.mem_cons.1 hm with h | h
        · exact absurd h.symm hjk
        · exact h
      have h1 : updL L k j = L j := by simp [updL, hjk]
      have ih := filter_upd r hn'.2 hk hL
      simp only [List.filter_cons, h1]
      split <;> (try simp only [List.length_cons]) <;> omega

theorem wpAnyH_inv {P : Program} {md : Region.Mode} {ops : Array Oper} {Q : Exit → Act → World → Prop} {S : World → Prop} (a0 : Act) (rem : List Nat) (listed0 : Array Bool)
    (R : (Nat → Bool) → (Nat → Value) → World → Prop) (hok : invOk md ops rem listed0 = true) (hS : ∀ L vals w, R L vals w → S w)
    (hstep : ∀ k ∈ rem, InvStep P md ops Q a0 rem R k) (hend : ∀ L vals w, (∀ k ∈ rem, L k = true) → R L vals w → Q .normal (midAct ops a0 rem L vals) w) :
    ∀ (fuel : Nat) (listed : Array Bool) (L : Nat → Bool) (vals : Nat → Value) (w : World), listed.size = ops.size → (∀ i < ops.size, listed.getD i true = (!rem.contains i || L i)) → (rem.filter fun j => !L j).length = fuel → R L vals w →
      wpAnyH P md ops Q S fuel listed (midAct ops a0 rem L vals) w := by
  simp only [invOk, Bool.and_eq_true, decide_eq_true_eq, List.all_eq_true, List.mem_range] at hok
  obtain ⟨⟨⟨⟨⟨hsz, hls⟩, hlt⟩, hdd⟩, hor⟩, hnd⟩ := hok
  have hd : ∀ i ∈ rem, ∀ j ∈ rem, i ≠ j → ∀ d, dstAt ops i = some d → dstAt ops j ≠ some d := by
    intro i hi j hj hij d hdi
    have h := hdd i hi j hj
    rw [hdi] at h
    simp only [Bool.or_eq_true, beq_iff_eq, Bool.not_eq_true'] at h
    rcases h with h | h
    · exact absurd h hij
    · intro e; rw [e] at h; simp at h
  have hdone : ∀ L : Nat → Bool, (∀ k ∈ rem, L k = true) → ∀ listed : Array Bool, listed.size = ops.size → (∀ i < ops.size, listed.getD i true = (!rem.contains i || L i)) → Region.ready md ops listed = [] := by
    intro L hL listed hs hli
    rw [List.eq_nil_iff_forall_not_mem]
    intro i hi
    obtain ⟨h1, o, ho, _⟩ := mem_ready.1 hi
    have hilt : i < ops.size := (Array.getElem?_eq_some_iff.1 ho).1
    rw [hli i hilt] at h1
    by_cases hc : i ∈ rem
    · rw [hL i hc] at h1; simp at h1
    · simp [hc] at h1
  intro fuel
  induction fuel with
  | zero =>
    intro listed L vals w hs hli hf hR
    have hL : ∀ k ∈ rem, L k = true := by
      intro k hk
      cases h : L k with
      | true => rfl
      | false =>
        have : k ∈ rem.filter fun j => !L j := List.mem_filter.2 ⟨hk, by simp [h]⟩
        rw [List.length_eq_zero_iff.1 hf] at this
        cases this
    exact ⟨hdone L hL listed hs hli, hend L vals w hL hR⟩
  | succ fuel ih =>
    intro listed L vals w hs hli hf hR
    have hex : ∃ k ∈ rem, L k = false := by
      cases hl : rem.filter fun j => !L j with
      | nil => rw [hl] at hf; cases hf
      | cons k r =>
        have : k ∈ rem.filter fun j => !L j := by rw [hl]; simp
        obtain ⟨h1, h2⟩ := List.mem_filter.1 this
        exact ⟨k, h1, by simpa using h2⟩
    constructor
    · intro hr
      exfalso
      -- the least operation that is left may come up
      have hmin : ∀ n k, k ≤ n → k ∈ rem → L k = false → False := by
        intro n
        induction n with
        | zero =>
          intro k hkn hk hLk
          have h0 : k ∈ Region.ready md ops listed := by
            have ho := hor k hk
            cases hok : ops[k]? with
            | none => rw [hok] at ho; cases ho
            | some o =>
              rw [hok] at ho
              refine mem_ready.2 ⟨?_, o, hok, ?_⟩
              · rw [hli k (hlt k hk)]; simp [hk, hLk]
              · intro e he hb
                have := Array.all_eq_true'.1 ho e he
                simp only [hb, Bool.not_true, Bool.false_or, decide_eq_true_eq] at this
                omega
          rw [hr] at h0; cases h0
        | succ n ihn =>
          intro k hkn hk hLk
          by_cases hall : ∀ j ∈ rem, j < k → L j = true
          · have h0 : k ∈ Region.ready md ops listed := by
              have ho := hor k hk
              cases hok : ops[k]? with
              | none => rw [hok] at ho; cases ho
              | some o =>
                rw [hok] at ho
                refine mem_ready.2 ⟨?_, o, hok, ?_⟩
                · rw [hli k (hlt k hk)]; simp [hk, hLk]
                · intro e he hb
                  have hlt2 := Array.all_eq_true'.1 ho e he
                  simp only [hb, Bool.not_true, Bool.false_or, decide_eq_true_eq] at hlt2
                  have hes : e.on < ops.size := Nat.lt_trans hlt2 (hlt k hk)
                  have h1 := hli e.on hes
                  have h2 : listed.getD e.on true = true := by
                    rw [h1]
                    by_cases hc : e.on ∈ rem
                    · simp [hall e.on hc hlt2]
                    · simp [hc]
                  have h3 : e.on < listed.size := by omega
                  simp [Array.getD, h3] at h2 ⊢
                  exact h2
            rw [hr] at h0; cases h0
          · have : ∃ j, j ∈ rem ∧ j < k ∧ L j = false := by
              refine Classical.byContradiction fun hn => hall fun j hj hjk => ?_
              cases h : L j with
              | true => rfl
              | false => exact absurd ⟨j, hj, hjk, h⟩ hn
            obtain ⟨j, hj, hjk, hLj⟩ := this
            exact ihn j (by omega) hj hLj
      obtain ⟨k, hk, hLk⟩ := hex
      exact hmin k k (Nat.le_refl _) hk hLk
    · intro i hi
      obtain ⟨h1, o, ho, h3⟩ := mem_ready.1 hi
      have hilt : i < ops.size := (Array.getElem?_eq_some_iff.1 ho).1
      rw [hli i hilt] at h1
      have hc : i ∈ rem ∧ L i = false := by
        by_cases hc : i ∈ rem
        · simp [hc] at h1; exact ⟨hc, h1⟩
        · simp [hc] at h1
      have hdeps : (depsAt md ops rem i).all L = true := by
        rw [List.all_eq_true]
        intro j hj
        simp only [depsAt, ho, List.mem_filter, List.mem_map] at hj
        obtain ⟨⟨e, ⟨he, hb⟩, rfl⟩, hcr⟩ := hj
        have hm := h3 e (by simpa using he) hb
        have hlt2 := hor i hc.1
        rw [ho] at hlt2
        have hlt3 := Array.all_eq_true'.1 hlt2 e (by simpa using he)
        simp only [hb, Bool.not_true, Bool.false_or, decide_eq_true_eq] at hlt3
        have hes : e.on < ops.size := by omega
        have h4 := hli e.on hes
        have h5 : e.on < listed.size := by omega
        simp [Array.getD, h5] at hm h4
        rw [hm] at h4
        simpa [List.contains_iff_mem.1 hcr] using h4
      have st := hstep i hc.1 o ho L vals w hc.2 hdeps hR (fun a' w' => S w' ∧ wpAnyH P md ops Q S fuel (listed.setIfInBounds i true) a' w') (fun v w' hR' => by
        rw [midAct_put hc.1 ho hd v]
        refine ⟨hS _ _ _ hR', ih _ _ _ _ (by simpa using hs) ?_ ?_ hR'⟩
        · intro j hj
          by_cases hji : i = j
          · subst hji
            simp [Array.getD, hs, hilt, updL]
          · have := hli j hj
            have h6 : j < listed.size := by omega
            simp [Array.getD, h6] at this
            have hij : (j == i) = false := by simpa using Ne.symm hji
            simp [Array.getD, h6, hji, updL, hij, this]
        · have := filter_upd rem hnd hc.1 hc.2
          omega)
      unfold wpOp
      simp only [ho]
      split at st
      · next hw => rw [if_pos hw]; exact .inl st
      · next hw => rw [if_neg hw]; exact st

/-- The beginning: the slots are as they are, nothing of what is left is done. -/
theorem midAct_zero {ops : Array Oper} {a0 : Act} {vals : Nat → Value} : ∀ (rem : List Nat) (t : Array Value), fillSel ops (fun _ => false) vals rem t = t
  | [], t => rfl
  | k :: r, t => by
    rw [fillSel]
    have : (match dstAt ops k with | some d => t.setIfInBounds d (if (fun _ => false) k = true then vals k else t.getD d undef) | none => t) = t := by
      cases dstAt ops k with
      | none => rfl
      | some d =>
        simp only [Bool.false_eq_true, if_false]
        refine Array.ext_getElem? fun s => ?_
        rw [Array.getElem?_setIfInBounds]
        split
        · next e => subst e; split
                    · next h => simp [h]
                    · next h => simp [h]
        · rfl
    rw [this, midAct_zero (a0 := a0) r t]
theorem wpAnyH_start {P : Program} {md : Region.Mode} {ops : Array Oper} {Q : Exit → Act → World → Prop} {S : World → Prop} {a0 : Act} {w : World} {listed : Array Bool} {fuel : Nat} (rem : List Nat)
    (R : (Nat → Bool) → (Nat → Value) → World → Prop) (hok : invOk md ops rem listed = true) (hf : rem.length = fuel) (hS : ∀ L vals w, R L vals w → S w) (h0 : R (fun _ => false) (fun _ => undef) w)
    (hstep : ∀ k ∈ rem, InvStep P md ops Q a0 rem R k) (hend : ∀ L vals w, (∀ k ∈ rem, L k = true) → R L vals w → Q .normal (midAct ops a0 rem L vals) w) :
    wpAnyH P md ops Q S fuel listed a0 w := by
  have h := wpAnyH_inv a0 rem listed R hok hS hstep hend fuel listed (fun _ => false) (fun _ => undef) w
    (by simp only [invOk, Bool.and_eq_true, decide_eq_true_eq] at hok; exact hok.1.1.1.1.1)
    (fun i hi => by
      simp only [invOk, Bool.and_eq_true, List.all_eq_true, List.mem_range, beq_iff_eq] at hok
      rw [hok.1.1.1.1.2 i hi]; simp)
    (by rw [show (rem.filter fun j => !(fun _ => false) j) = rem from List.filter_eq_self.2 (fun _ _ => rfl)]; exact hf) h0
  have e : midAct ops a0 rem (fun _ => false) (fun _ => undef) = a0 := by rw [midAct, midAct_zero (a0 := a0)]
  rwa [e] at h
/-! ### The frame written out -/
def slotO (L : Nat → Bool) (vals olds : Nat → Value) (k : Nat) : Value := if L k = true then vals k else olds k
theorem slotO_done {L : Nat → Bool} {vals olds : Nat → Value} {k : Nat} (h : L k = true) : slotO L vals olds k = vals k := if_pos h
def fillO (L : Nat → Bool) (vals olds : Nat → Value) : List (Nat × Option Tmp) → Array Value → Array Value
  | [], t => t
  | (k, some d) :: r, t => fillO L vals olds r (t.setIfInBounds d (slotO L vals olds k))
  | (_, none) :: r, t => fillO L vals olds r t
theorem fillO_congr {L : Nat → Bool} {vals olds olds' : Nat → Value} : ∀ (l : List (Nat × Option Tmp)) (t : Array Value), (∀ x ∈ l, olds x.1 = olds' x.1) → fillO L vals olds l t = fillO L vals olds' l t
  | [], _, _ => rfl
  | (k, some d) :: r, t, h => by
    have hk : slotO L vals olds k = slotO L vals olds' k := by unfold slotO; rw [h (k, some d) (by simp)]
    simp only [fillO, hk]; exact fillO_congr r _ (fun x hx => h x (by simp [hx]))
  | (k, none) :: r, t, h => by simp only [fillO]; exact fillO_congr r _ (fun x hx => h x (by simp [hx]))
theorem fillSel_open {ops : Array Oper} (L : Nat → Bool) (vals : Nat → Value) : ∀ (rem : List Nat) (t : Array Value), rem.Nodup → ∃ olds : Nat → Value, fillSel ops L vals rem t = fillO L vals olds (rem.map fun k => (k, dstAt ops k)) t
  | [], t, _ => ⟨fun _ => undef, rfl⟩
  | k :: r, t, hn => by
    have hn' := List.nodup_cons.1 hn
    obtain ⟨olds, e⟩ := fillSel_open (ops := ops) L vals r (match dstAt ops k with | some d => t.setIfInBounds d (if L k = true then vals k else t.getD d undef) | none => t) hn'.2
    cases hd : dstAt ops k with
    | none =>
      refine ⟨olds, ?_⟩
      rw [fillSel, e]; simp only [hd, List.map_cons, fillO]
    | some d =>
      refine ⟨fun j => if j = k then t.getD d undef else olds j, ?_⟩
      have hs : (if L k = true then vals k else t.getD d undef) = slotO L vals (fun j => if j = k then t.getD d undef else olds j) k := by simp [slotO]
      rw [fillSel, e]; simp only [hd, List.map_cons, fillO, ← hs]
      refine fillO_congr _ _ (fun x hx => ?_)
      obtain ⟨j, hj, rfl⟩ := List.mem_map.1 hx
      have : j ≠ k := fun e => hn'.1 (e ▸ hj)
      simp [this]
theorem InvStep.lit {P : Program} {md : Region.Mode} {ops : Array Oper} {Q : Exit → Act → World → Prop} {a0 : Act} {rem : List Nat} {R : (Nat → Bool) → (Nat → Value) → World → Prop} {k : Nat} {o : Oper} (ho : ops[k]? = some o)
    (deps : List Nat) (hdeps : depsAt md ops rem k = deps) (lst : List (Nat × Option Tmp)) (hl : (rem.map fun k => (k, dstAt ops k)) = lst) (hn : rem.Nodup)
    (h : ∀ (L : Nat → Bool) (vals olds : Nat → Value) (w : World), L k = false → deps.all L = true → R L vals w →
      ∀ K : Act → World → Prop, Shut (∀ v w', R (updL L k) (updV vals k v) w' → K (Act.put ⟨fillO L vals olds lst a0.tmps, a0.defers⟩ o.dst v) w') →
      if Region.wanted o (yielded ops (fillO L vals olds lst a0.tmps)) = true then Oper.wp P o ⟨fillO L vals olds lst a0.tmps, a0.defers⟩ w K Q else K (Act.put ⟨fillO L vals olds lst a0.tmps, a0.defers⟩ o.dst undef) w) : InvStep P md ops Q a0 rem R k := by
  intro o' ho' L vals w hL hd hR K hK
  obtain rfl := Option.some.inj (ho.symm.trans ho')
  obtain ⟨olds, e⟩ := fillSel_open (ops := ops) L vals rem a0.tmps hn
  rw [hl] at e
  rw [hdeps] at hd
  have em : midAct ops a0 rem L vals = ⟨fillO L vals olds lst a0.tmps, a0.defers⟩ := by rw [midAct, e]
  rw [em] at hK ⊢
  exact h L vals olds w hL hd hR K hK
/-- The end: every slot holds what its operation yielded. -/
theorem end_lit {ops : Array Oper} {Q : Exit → Act → World → Prop} {a0 : Act} {rem : List Nat} {R : (Nat → Bool) → (Nat → Value) → World → Prop} (lst : List (Nat × Option Tmp)) (hl : (rem.map fun k => (k, dstAt ops k)) = lst) (hn : rem.Nodup)
    (h : ∀ (L : Nat → Bool) (vals olds : Nat → Value) (w : World), rem.all L = true → R L vals w → Q .normal ⟨fillO L vals olds lst a0.tmps, a0.defers⟩ w) :
    ∀ L vals w, (∀ k ∈ rem, L k = true) → R L vals w → Q .normal (midAct ops a0 rem L vals) w := by
  intro L vals w hL hR
  obtain ⟨olds, e⟩ := fillSel_open (ops := ops) L vals rem a0.tmps hn
  rw [hl] at e
  rw [midAct, e]
  exact h L vals olds w (List.all_eq_true.2 hL) hR
theorem updL_same (L : Nat → Bool) (k : Nat) : updL L k k = true := by simp [updL]
theorem updL_ne {L : Nat → Bool} {k j : Nat} (h : (j == k) = false) : updL L k j = L j := by simp [updL, h]
theorem updV_same (vals : Nat → Value) (k : Nat) (v : Value) : updV vals k v k = v := if_pos rfl
theorem updV_ne {vals : Nat → Value} {k j : Nat} {v : Value} (h : j ≠ k) : updV vals k v j = vals j := if_neg h
/-! ### .. as a list -/
def fillL (L : Nat → Bool) (vals olds : Nat → Value) : List (Nat × Option Tmp) → List Value → List Value
  | [], t => t
  | (k, some d) :: r, t => fillL L vals olds r (t.set d (slotO L vals olds k))
  | (_, none) :: r, t => fillL L vals olds r t
def setD (t : List Value) : Option Tmp → Value → List Value
  | some d, v => t.set d v
  | none, _ => t
theorem fillO_list {L : Nat → Bool} {vals olds : Nat → Value} : ∀ (l : List (Nat × Option Tmp)) (t : List Value), fillO L vals olds l t.toArray = (fillL L vals olds l t).toArray
  | [], _ => rfl
  | (k, some d) :: r, t => by rw [fillO, fillL, List.setIfInBounds_toArray, fillO_list r]
  | (k, none) :: r, t => by rw [fillO, fillL, fillO_list r]
theorem put_list (t : List Value) (ds : List Deferred) (d : Option Tmp) (v : Value) : Act.put ⟨t.toArray, ds⟩ d v = ⟨(setD t d v).toArray, ds⟩ := by
  cases d with
  | none => rfl
  | some d => rw [Act.put, setD, List.setIfInBounds_toArray]
theorem wp_wanted {P : Program} {ops : Array Oper} {o : Oper} {a : Act} {w : World} {K : Act → World → Prop} {Q : Exit → Act → World → Prop} (hg : o.guard = none) (h : if Region.wanted o (yielded ops a.tmps) = true then Oper.wp P o a w K Q else False) : Oper.wp P o a w K Q := by
  have hw : Region.wanted o (yielded ops a.tmps) = true := by simp [Region.wanted, hg]
  rwa [if_pos hw] at h
theorem InvStep.plain {P : Program} {md : Region.Mode} {ops : Array Oper} {Q : Exit → Act → World → Prop} {T : List Value} {ds : List Deferred} {rem : List Nat} {R : (Nat → Bool) → (Nat → Value) → World → Prop} {k : Nat} {o : Oper} (ho : ops[k]? = some o) (hg : o.guard = none)
    (deps : List Nat) (hdeps : depsAt md ops rem k = deps) (lst : List (Nat × Option Tmp)) (hl : (rem.map fun k => (k, dstAt ops k)) = lst) (hn : rem.Nodup)
    (h : ∀ (L : Nat → Bool) (vals olds : Nat → Value) (w : World), L k = false → deps.all L = true → R L vals w →
      ∀ K : Act → World → Prop, Shut (∀ v w', R (updL L k) (updV vals k v) w' → K ⟨(setD (fillL L vals olds lst T) o.dst v).toArray, ds⟩ w') →
      Oper.wp P o ⟨(fillL L vals olds lst T).toArray, ds⟩ w K Q) : InvStep P md ops Q ⟨T.toArray, ds⟩ rem R k := by
  refine InvStep.lit ho deps hdeps lst hl hn (fun L vals olds w hL hd hR K hK => ?_)
  have hw : Region.wanted o (yielded ops (fillO L vals olds lst T.toArray)) = true := by simp [Region.wanted, hg]
  rw [if_pos hw]
  have h' := h L vals olds w hL hd hR K
  rw [fillO_list] at hK ⊢
  refine h' (fun v w' hr => ?_)
  rw [← put_list]
  exact hK v w' hr
theorem end_plain {ops : Array Oper} {Q : Exit → Act → World → Prop} {T : List Value} {ds : List Deferred} {rem : List Nat} {R : (Nat → Bool) → (Nat → Value) → World → Prop} (lst : List (Nat × Option Tmp)) (hl : (rem.map fun k => (k, dstAt ops k)) = lst) (hn : rem.Nodup)
    (h : ∀ (L : Nat → Bool) (vals olds : Nat → Value) (w : World), rem.all L = true → R L vals w → Q .normal ⟨(fillL L vals olds lst T).toArray, ds⟩ w) :
    ∀ L vals w, (∀ k ∈ rem, L k = true) → R L vals w → Q .normal (midAct ops ⟨T.toArray, ds⟩ rem L vals) w :=
  end_lit lst hl hn (fun L vals olds w ha hr => by rw [fillO_list]; exact h L vals olds w ha hr)
/-! ### .. over a region that is written out as a list -/
/-- An operation that may be taken first. -/
theorem wpAnyH_take_l {P : Program} {md : Region.Mode} {l : List Oper} {Q : Exit → Act → World → Prop} {S : World → Prop} {fuel : Nat} {B : List Bool} {T : List Value} {ds : List Deferred} {w : World} (i : Nat) {oi : Oper} {v : Value} (hi : l[i]? = some oi) (hg : oi.guard = none)
    (hs : Region.noSelect l.toArray = true) (hf : Region.free md l.toArray B.toArray i = true) (hr : (Region.ready md l.toArray B.toArray).contains i = true)
    (hQ : ∀ c a w, Q (.panic c) (a.put oi.dst v) w → Q (.panic c) a w) (hv : ∀ w, S w → (execOp (Act.eval ⟨T.toArray, ds⟩) oi).run P w = .ok (.value v) w) (hS : S w)
    (h : wpAnyH P md l.toArray Q S fuel (B.set i true).toArray ⟨(setD T oi.dst v).toArray, ds⟩ w) : wpAnyH P md l.toArray Q S (fuel + 1) B.toArray ⟨T.toArray, ds⟩ w := by
  refine wpAnyH_take (i := i) (oi := oi) (v := v) (by simpa using hi) hs hf hr hQ (.inl ⟨by simp [Region.wanted, hg], hv⟩) hS ?_
  rw [put_list, List.setIfInBounds_toArray]
  exact h
theorem InvStep.list {P : Program} {md : Region.Mode} {l : List Oper} {Q : Exit → Act → World → Prop} {T : List Value} {ds : List Deferred} {rem : List Nat} {R : (Nat → Bool) → (Nat → Value) → World → Prop} {k : Nat} {o : Oper} (ho : l[k]? = some o) (hg : o.guard = none)
    (deps : List Nat) (hdeps : (deps.all (depsAt md l.toArray rem k).contains) = true) (lst : List (Nat × Option Tmp)) (hl : (rem.map fun k => (k, dstAt l.toArray k)) = lst) (hn : rem.Nodup)
    (h : ∀ (L : Nat → Bool) (vals olds : Nat → Value) (w : World), L k = false → deps.all L = true → R L vals w →
      ∀ K : Act → World → Prop, Shut (∀ v w', R (updL L k) (updV vals k v) w' → K ⟨(setD (fillL L vals olds lst T) o.dst v).toArray, ds⟩ w') →
      Oper.wp P o ⟨(fillL L vals olds lst T).toArray, ds⟩ w K Q) : InvStep P md l.toArray Q ⟨T.toArray, ds⟩ rem R k :=
  InvStep.plain (by simpa using ho) hg _ rfl lst hl hn (fun L vals olds w h1 h2 => h L vals olds w h1 (by
    rw [List.all_eq_true] at hdeps h2 ⊢
    exact fun j hj => h2 j (by simpa using hdeps j hj)))
end Go.Proofs.YtjmnaibbljakaaaGreatDoor
