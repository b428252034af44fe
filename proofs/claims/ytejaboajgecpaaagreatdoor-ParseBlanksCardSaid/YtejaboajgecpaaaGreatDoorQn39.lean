/- Parsing: lemmas. -/
import Derived.Test.YtejaboajgecpaaaGreatDoorQn38
set_option maxHeartbeats 16000000
set_option maxRecDepth 100000
namespace Go.Proofs.YtejaboajgecpaaaGreatDoor
def SQ (NS : Prop) : List Tk -> List Tk -> Prop
 | [], [e] => e.t = sShut /\ e.k = 3
 | x :: r, y :: q => (NS -> (x.t.toList == sShut.toList) = false) /\ x.k = y.k /\ x.t = y.t /\ x.v = y.v /\ SQ NS r q
 | _, _ => False
section
variable {NS : Prop}
theorem sq_nil {ts : List Tk} (h : SQ NS [] ts) : ∃ e, ts = [e] /\ e.t = sShut /\ e.k = 3 := by
 match ts, h with
 | [e], h => exact ⟨e, rfl, h⟩
theorem sq_cons {x : Tk} {r ts : List Tk} (h : SQ NS (x :: r) ts) : ∃ y q, ts = y :: q /\ x.k = y.k /\ x.t = y.t /\ x.v = y.v /\ SQ NS r q := by
 match ts, h with
 | y :: q, h => exact ⟨y, q, rfl, h.2⟩
theorem sq_shutless {x : Tk} {r ts : List Tk} (h : SQ NS (x :: r) ts) : NS -> (x.t.toList == sShut.toList) = false := by
 match ts, h with
 | y :: q, h => exact h.1
theorem sq_hd {s : ByteArray} (hs : (sShut.toList == s.toList) = false) : ∀ {ts ts' : List Tk}, SQ NS ts ts' -> hd s ts' = hd s ts
 | [], ts', h => by
  obtain ⟨e, rfl, he, _⟩ := sq_nil h
  show (e.t.toList == s.toList) = false
  rw [he]; exact hs
 | x :: r, ts', h => by
  obtain ⟨y, q, rfl, _, e, _⟩ := sq_cons h
  show (y.t.toList == s.toList) = (x.t.toList == s.toList)
  rw [e]
theorem sq_tail {s : ByteArray} : ∀ {ts ts' : List Tk}, SQ NS ts ts' -> hd s ts = true -> SQ NS ts.tail ts'.tail /\ ts.tail.length + 1 = ts.length
 | [], _, _, h => by cases h
 | x :: r, ts', h, _ => by
  obtain ⟨y, q, rfl, _, _, _, h⟩ := sq_cons h
  exact ⟨h, rfl⟩
end
def Sq {α : Type} (NS : Prop) (n : Nat) (A B : PR α) : Prop := match A, B with
 | .ok x r, .ok y q => x = y /\ SQ NS r q /\ r.length <= n
 | .ok _ _, .bad _ _ => False
 | .bad e _, .bad e' _ => e ≠ 0 /\ (NS -> e' ≠ 0)
 | .bad e _, .ok _ q => e ≠ 0 /\ (NS -> q = [])
def Emp {α : Type} (A : PR α) : Prop := match A with
 | .ok _ q => q = []
 | .bad e _ => e ≠ 0
theorem emp_of {α : Type} {F : List Tk -> PR α} (h : Con F) : Emp (F []) := by
 have h := h [] [] trivial
 cases hf : F [] with
 | ok x r => rw [hf] at h; exact List.length_eq_zero_iff.1 (Nat.le_zero.1 h.2.2)
 | bad e r => rw [hf] at h; exact h.2
structure SimQ {α : Type} (NS : Prop) (n : Nat) (F G : List Tk -> PR α) : Prop where
 sim : ∀ ts ts', SQ NS ts ts' -> ts.length <= n -> Sq NS ts.length (F ts) (G ts')
 emp : Con G
section
variable {α β : Type} {NS : Prop} {n m : Nat}
theorem Sq.ok {x : α} {r q : List Tk} (h : SQ NS r q) (hl : r.length <= n) : Sq NS n (.ok x r) (.ok x q) := ⟨rfl, h, hl⟩
theorem Sq.bad {e : Int} {r q : List Tk} (he : e ≠ 0 := by decide) : Sq NS n (.bad e r : PR α) (.bad e q) := ⟨he, fun _ => he⟩
theorem Sq.mono {A B : PR α} (h : Sq NS n A B) (hm : n <= m) : Sq NS m A B := by
 match A, B, h with
 | .ok x r, .ok y q, h => exact ⟨h.1, h.2.1, Nat.le_trans h.2.2 hm⟩
 | .bad e r, .bad e' q, h => exact h
 | .bad e r, .ok y q, h => exact h
theorem Sq.ite {s : ByteArray} {ts ts' : List Tk} {A A' B B' : PR α} (hs : (sShut.toList == s.toList) = false) (h : SQ NS ts ts') (hy : hd s ts = true -> Sq NS n A A') (hn : Sq NS n B B') : Sq NS n (if hd s ts = true then A else B) (if hd s ts' = true then A' else B') := by
 rw [sq_hd hs h]
 cases hh : hd s ts with
 | true => exact hy hh
 | false => exact hn
theorem SimQ.mono {F G : List Tk -> PR α} (h : SimQ NS n F G) (hm : m <= n) : SimQ NS m F G := ⟨fun ts ts' hs hl => h.sim ts ts' hs (Nat.le_trans hl hm), h.emp⟩
theorem SimQ.ok (x : α) : SimQ NS n (fun r => .ok x r) (fun r => .ok x r) := ⟨fun _ _ h _ => Sq.ok h (Nat.le_refl _), Con.ok x⟩
theorem SimQ.bind {A A' : List Tk -> PR α} {B B' : α -> List Tk -> PR β} (hA : SimQ NS n A A') (hB : ∀ x, SimQ NS n (B x) (B' x)) : SimQ NS n (fun ts => (A ts).bind B) (fun ts => (A' ts).bind B') := by
 refine ⟨fun ts ts' h hn => ?_, Con.bind hA.emp fun x => (hB x).emp⟩
 have ha := hA.sim ts ts' h hn
 show Sq NS _ ((A ts).bind B) ((A' ts').bind B')
 match A ts, A' ts', ha with
 | .ok x r, .ok y q, ha =>
  obtain ⟨rfl, h1, h2⟩ := ha
  exact ((hB x).sim r q h1 (Nat.le_trans h2 hn)).mono h2
 | .bad e r, .bad e' q, ha => exact ha
 | .bad e r, .ok y q, ha =>
  have he : NS -> Emp (B' y q) := fun hn => by rw [ha.2 hn]; exact emp_of (hB y).emp
  show Sq NS _ (.bad e r) (B' y q)
  cases hb : B' y q with
  | ok z q2 => exact ⟨ha.1, fun h => by have := he h; rw [hb] at this; exact this⟩
  | bad e2 q2 => exact ⟨ha.1, fun h => by have := he h; rw [hb] at this; exact this⟩
theorem sq_need {s : ByteArray} (hs : (sShut.toList == s.toList) = false) : SimQ NS n (need s) (need s) := by
 refine ⟨fun ts ts' h _ => ?_, con_need s⟩
 unfold need
 refine Sq.ite hs h (fun hh => ?_) Sq.bad
 obtain ⟨h1, h2⟩ := sq_tail h hh
 exact Sq.ok h1 (by omega)
theorem sq_shut : SimQ NS n (need sShut) (need sShut) := by
 refine ⟨fun ts ts' h _ => ?_, con_need _⟩
 match ts, h with
 | [], h =>
  obtain ⟨e, rfl, he, _⟩ := sq_nil h
  have hh : hd sShut [e] = true := by show (e.t.toList == _) = true; rw [he]; simp
  unfold need
  rw [if_pos hh, if_neg (by show ¬ false = true; simp)]
  exact ⟨by decide, fun _ => rfl⟩
 | x :: r, h =>
  obtain ⟨y, q, rfl, _, ht, _, h1⟩ := sq_cons h
  have e : hd sShut (y :: q) = hd sShut (x :: r) := by show (y.t.toList == _) = (x.t.toList == _); rw [ht]
  unfold need
  rw [e]
  split
  ·exact Sq.ok h1 (by simp)
  ·exact Sq.bad
theorem sq_name : SimQ NS n (pname nameB) (pname nameB) := by
 refine ⟨fun ts ts' h _ => ?_, con_name⟩
 match ts, h with
 | [], h =>
  obtain ⟨e, rfl, he, _⟩ := sq_nil h
  have hn : nameB e.t = false := by rw [he]; decide +kernel
  rw [pname, pname, if_neg (by rw [hn]; simp)]
  exact Sq.bad
 | x :: r, h =>
  obtain ⟨y, q, rfl, _, ht, _, h⟩ := sq_cons h
  rw [pname, pname, ht]
  split
  ·exact Sq.ok h (by simp)
  ·exact Sq.bad
theorem sq_number : SimQ NS n pnumber pnumber := by
 refine ⟨fun ts ts' h _ => ?_, con_number⟩
 match ts, h with
 | [], h =>
  obtain ⟨e, rfl, _, hk⟩ := sq_nil h
  rw [pnumber, pnumber, if_pos (.inl (by rw [hk]; decide))]
  exact Sq.bad
 | x :: r, h =>
  obtain ⟨y, q, rfl, hk, _, hv, h⟩ := sq_cons h
  rw [pnumber, pnumber, hk, hv]
  split
  ·exact Sq.bad
  ·split
   ·exact Sq.bad
   ·exact Sq.ok h (by simp)
theorem sq_prio : SimQ NS n pprio pprio := by
 refine ⟨fun ts ts' h _ => ?_, con_prio⟩
 match ts, h with
 | [], h =>
  obtain ⟨e, rfl, ht, hk⟩ := sq_nil h
  rw [pprio, pprio, if_pos (by rw [hk]; decide)]
  exact ⟨rfl, ⟨ht, hk⟩, Nat.le_refl _⟩
 | x :: r, h =>
  have h0 := h
  obtain ⟨y, q, rfl, hk, _, _, _⟩ := sq_cons h
  rw [pprio, pprio, hk]
  split
  ·exact Sq.ok h0 (Nat.le_refl _)
  ·exact (sq_number (n := (x :: r).length)).sim _ _ h0 (Nat.le_refl _)
theorem sq_val : SimQ NS n (pval nameB) (pval nameB) := by
 refine ⟨fun ts ts' h _ => ?_, con_val⟩
 match ts, h with
 | [], h =>
  obtain ⟨e, rfl, ht, hk⟩ := sq_nil h
  rw [pval, pval, if_neg (by rw [ht]; decide +kernel), if_neg (by rw [ht]; decide +kernel), if_neg (by rw [hk]; decide), if_neg (by rw [ht]; decide +kernel)]
  exact Sq.bad
 | x :: r, h =>
  obtain ⟨y, q, rfl, hk, ht, hv, h⟩ := sq_cons h
  rw [pval, pval, hk, ht, hv]
  repeat' split
  all_goals first | exact Sq.ok h (by simp) | exact Sq.bad
theorem sq_list {F G : List Tk -> PR α} (hF : SimQ NS n F G) : ∀ (g g' m : Nat), m <= n -> m < g -> m < g' -> SimQ NS m (plist F g) (plist G g')
 | 0, _, _, _, h, _ => by omega
 | _ + 1, 0, _, _, _, h => by omega
 | g + 1, g' + 1, m, hm, h1, h2 => by
  refine SimQ.bind (hF.mono hm) fun x => ⟨fun ts ts' h hn => ?_, Con.ite (s := sComma) (A := fun ts => (plist G g' ts).bind fun l r => .ok (x :: l) r) (B := fun r => .ok [x] r) (Con.bind (con_list hF.emp g') fun l => Con.ok (x :: l)) (Con.ok [x])⟩
  refine Sq.ite (by decide +kernel) h (fun hh => ?_) (Sq.ok h (Nat.le_refl _))
  obtain ⟨h3, h4⟩ := sq_tail h hh
  exact ((SimQ.bind (sq_list hF g g' ts.tail.length (by omega) (by omega) (by omega)) fun l => SimQ.ok (x :: l)).sim _ _ h3 (Nat.le_refl _)).mono (by omega)
theorem sq_case {F G : List Tk -> PR α} (hF : SimQ NS n F G) : SimQ NS n (pcase nameB F) (pcase nameB G) := SimQ.bind sq_name fun _ => SimQ.bind (sq_need (by decide +kernel)) fun _ => SimQ.bind hF fun _ => SimQ.ok _
theorem sq_cases {F G : List Tk -> PR α} (hF : SimQ NS n F G) (g g' : Nat) (hg : n < g) (hg' : n < g') : SimQ NS n (pcases nameB F g) (pcases nameB G g') := SimQ.bind (sq_need (by decide +kernel)) fun _ => SimQ.bind (sq_list (sq_case hF) g g' n (Nat.le_refl _) hg hg') fun _ => SimQ.bind (sq_need (by decide +kernel)) fun _ => SimQ.ok _
theorem sq_upto {F G : List Tk -> PR α} {s : ByteArray} (hsm : (sShut.toList == s.toList) = false) (hF : SimQ NS n F G) (g g' : Nat) (hg : n < g) (hg' : n < g') : SimQ NS n (plistUpTo F s g) (plistUpTo G s g') := by
 refine ⟨fun ts ts' h hn => ?_, con_upto hF.emp s g'⟩
 unfold plistUpTo
 refine Sq.ite hsm h (fun hh => ?_) ?_
 ·obtain ⟨h1, h2⟩ := sq_tail h hh
  exact Sq.ok h1 (by omega)
 ·exact (SimQ.bind (sq_list hF g g' n (Nat.le_refl _) hg hg') fun l => SimQ.bind (sq_need hsm) fun _ => SimQ.ok l).sim ts ts' h hn
theorem sq_var : SimQ NS n (pvar nameB) (pvar nameB) := by
 refine SimQ.bind sq_name fun x => ⟨fun ts ts' h hn => ?_, Con.ite (s := sPlus) (A := fun r => (pnumber r).bind fun s r => .ok (Ty.mk 9 0 x s [] []) r) (B := fun r => .ok (Ty.mk 9 0 x 0 [] []) r) (Con.bind con_number fun s => Con.ok (Ty.mk 9 0 x s [] [])) (Con.ok _)⟩
 refine Sq.ite (by decide +kernel) h (fun hh => ?_) (Sq.ok h (Nat.le_refl _))
 obtain ⟨h1, h2⟩ := sq_tail h hh
 exact ((SimQ.bind sq_number fun s => SimQ.ok (Ty.mk 9 0 x s [] [])).sim _ _ h1 (Nat.le_refl _)).mono (by omega)
end
section
variable {NS : Prop} {n : Nat} {S T : List Tk -> PR Ty}
theorem sq_any (hS : SimQ NS n S T) : SimQ NS n (panyS S) (panyS T) := by
 refine ⟨fun ts ts' h hn => ?_, con_any hS.emp⟩
 unfold panyS
 refine Sq.ite (by decide +kernel) h (fun hh => ?_) (Sq.ite (by decide +kernel) h (fun hh => ?_) (hS.sim ts ts' h hn))
 ·obtain ⟨h1, h2⟩ := sq_tail h hh; exact Sq.ok h1 (by omega)
 ·obtain ⟨h1, h2⟩ := sq_tail h hh; exact Sq.ok h1 (by omega)
theorem sq_pay (hS : SimQ NS n S T) : SimQ NS n (ppayS S) (ppayS T) := by
 refine ⟨fun ts ts' h hn => ?_, con_pay hS.emp⟩
 unfold ppayS
 rw [sq_hd (s := sBang) (by decide +kernel) h, sq_hd (s := sAsk) (by decide +kernel) h, sq_hd (s := sPlus) (by decide +kernel) h, sq_hd (s := sAnd) (by decide +kernel) h, sq_hd (s := sRec) (by decide +kernel) h]
 split
 ·exact Sq.bad
 ·exact (sq_any hS).sim ts ts' h hn
theorem sq_exch (hS : SimQ NS n S T) (k : Int) : SimQ NS n (pexchS S k) (pexchS T k) := SimQ.bind sq_prio fun _ => SimQ.bind (sq_pay hS) fun _ => SimQ.bind (sq_need (by decide +kernel)) fun _ => SimQ.bind hS fun _ => SimQ.ok _
theorem sq_choice (hS : SimQ NS n S T) (g g' : Nat) (hg : n < g) (hg' : n < g') (k : Int) : SimQ NS n (pchoiceS nameB S g k) (pchoiceS nameB T g' k) := SimQ.bind sq_prio fun _ => SimQ.bind (sq_cases hS g g' hg hg') fun _ => SimQ.ok _
theorem sq_rec (hS : SimQ NS n S T) : SimQ NS n (precS nameB S) (precS nameB T) := SimQ.bind sq_name fun _ => SimQ.bind (sq_need (by decide +kernel)) fun _ => SimQ.bind hS fun _ => SimQ.ok _
end
theorem sq_sess {NS : Prop} : ∀ (f f' n : Nat), n < f -> n < f' -> SimQ NS n (psess nameB f) (psess nameB f')
 | 0, _, _, h, _ => by omega
 | _ + 1, 0, _, _, h => by omega
 | f + 1, f' + 1, n, h1, h2 => by
  refine ⟨fun ts ts' h hn => ?_, con_sess _⟩
  rw [psess, psess]
  have ih : ∀ m, m < ts.length -> SimQ NS m (psess nameB f) (psess nameB f') := fun m hm => sq_sess f f' m (by omega) (by omega)
  refine Sq.ite (by decide +kernel) h (fun hh => ?_) (Sq.ite (by decide +kernel) h (fun hh => ?_) (Sq.ite (by decide +kernel) h (fun hh => ?_) (Sq.ite (by decide +kernel) h (fun hh => ?_) (Sq.ite (by decide +kernel) h (fun hh => ?_) (Sq.ite (by decide +kernel) h (fun hh => ?_) (Sq.ite (by decide +kernel) h (fun hh => ?_) (sq_var.sim ts ts' h hn)))))))
  all_goals obtain ⟨h3, h4⟩ := sq_tail h hh
  ·exact Sq.ok h3 (by omega)
  ·exact ((sq_exch (ih ts.tail.length (by omega)) 4).sim _ _ h3 (Nat.le_refl _)).mono (by omega)
  ·exact ((sq_exch (ih ts.tail.length (by omega)) 5).sim _ _ h3 (Nat.le_refl _)).mono (by omega)
  ·exact ((sq_choice (ih ts.tail.length (by omega)) f f' (by omega) (by omega) 6).sim _ _ h3 (Nat.le_refl _)).mono (by omega)
  ·exact ((sq_choice (ih ts.tail.length (by omega)) f f' (by omega) (by omega) 7).sim _ _ h3 (Nat.le_refl _)).mono (by omega)
  ·exact ((sq_rec (ih ts.tail.length (by omega))).sim _ _ h3 (Nat.le_refl _)).mono (by omega)
  ·exact ((SimQ.bind (ih ts.tail.length (by omega)) fun t => SimQ.bind sq_shut fun _ => SimQ.ok t).sim _ _ h3 (Nat.le_refl _)).mono (by omega)
section
variable {NS : Prop} {n : Nat} {S S' P P' : List Tk -> PR Pr}
theorem sq_rest (hS : SimQ NS n S S') : SimQ NS n (prestS S) (prestS S') := SimQ.bind (sq_need (by decide +kernel)) fun _ => hS
theorem sq_send (hS : SimQ NS n S S') (c : ByteArray) : SimQ NS n (psendS nameB S c) (psendS nameB S' c) := SimQ.bind (sq_need (by decide +kernel)) fun _ => SimQ.bind sq_val fun _ => SimQ.bind (sq_need (by decide +kernel)) fun _ => SimQ.bind (sq_rest hS) fun _ => SimQ.ok _
theorem sq_recv (hS : SimQ NS n S S') (c : ByteArray) : SimQ NS n (precvS nameB S c) (precvS nameB S' c) := SimQ.bind (sq_need (by decide +kernel)) fun _ => SimQ.bind sq_name fun _ => SimQ.bind sq_shut fun _ => SimQ.bind (sq_rest hS) fun _ => SimQ.ok _
theorem sq_sel (hS : SimQ NS n S S') (c : ByteArray) : SimQ NS n (pselS nameB S c) (pselS nameB S' c) := SimQ.bind sq_name fun _ => SimQ.bind (sq_rest hS) fun _ => SimQ.ok _
theorem sq_bra (hP : SimQ NS n P P') (g g' : Nat) (hg : n < g) (hg' : n < g') (c : ByteArray) : SimQ NS n (pbraS nameB P g c) (pbraS nameB P' g' c) := SimQ.bind (sq_cases hP g g' hg hg') fun _ => SimQ.ok _
theorem sq_call (g g' : Nat) (hg : n < g) (hg' : n < g') (c : ByteArray) : SimQ NS n (pcallS nameB g c) (pcallS nameB g' c) := SimQ.bind (sq_need (by decide +kernel)) fun _ => SimQ.bind (sq_upto (by decide +kernel) sq_val g g' hg hg') fun _ => SimQ.ok _
theorem sq_new {T T' : List Tk -> PR Ty} (hT : SimQ NS n T T') (hS : SimQ NS n S S') : SimQ NS n (pnewS nameB T S) (pnewS nameB T' S') := SimQ.bind (sq_need (by decide +kernel)) fun _ => SimQ.bind sq_name fun _ => SimQ.bind (sq_need (by decide +kernel)) fun _ => SimQ.bind sq_name fun _ => SimQ.bind (sq_need (by decide +kernel)) fun _ => SimQ.bind hT fun _ => SimQ.bind sq_shut fun _ => SimQ.bind hS fun _ => SimQ.ok _
theorem sq_named (hP : ∀ m, m + 1 <= n -> SimQ NS m P P') (hS : ∀ m, m + 1 <= n -> SimQ NS m S S') (cP : Con P') (cS : Con S') (g g' : Nat) (hg : n < g) (hg' : n < g') (c : ByteArray) : SimQ NS n (pnamedS nameB P S g c) (pnamedS nameB P' S' g' c) := by
 refine ⟨fun ts ts' h hn => ?_, con_named cP cS g' c⟩
 unfold pnamedS
 refine Sq.ite (by decide +kernel) h (fun hh => ?_) (Sq.ite (by decide +kernel) h (fun hh => ?_) (Sq.ite (by decide +kernel) h (fun hh => ?_) (Sq.ite (by decide +kernel) h (fun hh => ?_) ((sq_call g g' hg hg' c).sim ts ts' h hn))))
 all_goals obtain ⟨h3, h4⟩ := sq_tail h hh
 ·exact ((sq_send (hS ts.tail.length (by omega)) c).sim _ _ h3 (Nat.le_refl _)).mono (by omega)
 ·exact ((sq_recv (hS ts.tail.length (by omega)) c).sim _ _ h3 (Nat.le_refl _)).mono (by omega)
 ·exact ((sq_sel (hS ts.tail.length (by omega)) c).sim _ _ h3 (Nat.le_refl _)).mono (by omega)
 ·exact ((sq_bra (hP ts.tail.length (by omega)) g g' (by omega) (by omega) c).sim _ _ h3 (Nat.le_refl _)).mono (by omega)
end
theorem SimQ.par {NS : Prop} {n : Nat} {F G : List Tk -> PR (List Pr)} (h : SimQ NS n F G) : SimQ NS n (fun r => (F r).bind fun l r => .ok (parOf l) r) (fun r => (G r).bind fun l r => .ok (parOf l) r) := SimQ.bind h fun _ => SimQ.ok _
theorem sq_parts {NS : Prop} : ∀ (f f' : Nat) (b : Bool) (n : Nat), 2 * n + (if b = true then 4 else 3) <= f -> 2 * n + (if b = true then 4 else 3) <= f' -> SimQ NS n (pparts nameB f b) (pparts nameB f' b)
 | 0, _, b, n, h, _ => by cases b <;> simp at h
 | _ + 1, 0, b, n, _, h => by cases b <;> simp at h
 | f + 1, f' + 1, false, n, h1, h2 => by
  simp only [Bool.false_eq_true, if_false] at h1 h2
  refine ⟨fun ts ts' h hn => ?_, con_parts _ _⟩
  rw [pparts, pparts]
  have hP : ∀ m, m + 1 <= n -> SimQ NS m (pparts nameB f true) (pparts nameB f' true) := fun m hm => sq_parts f f' true m (by simp; omega) (by simp; omega)
  have hS : ∀ m, m + 1 <= n -> SimQ NS m (pparts nameB f false) (pparts nameB f' false) := fun m hm => sq_parts f f' false m (by simp; omega) (by simp; omega)
  have hT : ∀ m, m + 1 <= n -> SimQ NS m (psess nameB f) (psess nameB f') := fun m hm => sq_sess f f' m (by omega) (by omega)
  refine Sq.ite (by decide +kernel) h (fun hh => ?_) (Sq.ite (by decide +kernel) h (fun hh => ?_) (Sq.ite (by decide +kernel) h (fun hh => ?_) ?_))
  ·obtain ⟨h3, h4⟩ := sq_tail h hh
   exact Sq.ok h3 (by omega)
  ·obtain ⟨h3, h4⟩ := sq_tail h hh
   exact ((SimQ.bind (hP ts.tail.length (by omega)) fun l => SimQ.bind sq_shut fun _ => SimQ.ok [parOf l]).sim _ _ h3 (Nat.le_refl _)).mono (by omega)
  ·obtain ⟨h3, h4⟩ := sq_tail h hh
   exact ((SimQ.bind (sq_new (hT ts.tail.length (by omega)) (hS ts.tail.length (by omega)).par) fun p => SimQ.ok [p]).sim _ _ h3 (Nat.le_refl _)).mono (by omega)
  ·exact (SimQ.bind (n := n) sq_name fun c => SimQ.bind (sq_named (fun m hm => (hP m hm).par) (fun m hm => (hS m hm).par) (con_parts f' true).par (con_parts f' false).par f f' (by omega) (by omega) c) fun p => SimQ.ok [p]).sim ts ts' h hn
 | f + 1, f' + 1, true, n, h1, h2 => by
  simp only [if_true] at h1 h2
  have hP : ∀ m, m + 1 <= n -> SimQ NS m (pparts nameB f true) (pparts nameB f' true) := fun m hm => sq_parts f f' true m (by simp; omega) (by simp; omega)
  have e1 : SimQ NS n (fun ts => if hd sOpen ts = true then (pparts nameB f true ts.tail).bind fun l r => (need sShut r).bind fun _ r => .ok l r else pparts nameB f false ts) (fun ts => if hd sOpen ts = true then (pparts nameB f' true ts.tail).bind fun l r => (need sShut r).bind fun _ r => .ok l r else pparts nameB f' false ts) := by
   refine ⟨fun ts ts' h hn => ?_, Con.ite (A := fun ts => (pparts nameB f' true ts).bind fun l r => (need sShut r).bind fun _ r => .ok l r) (Con.bind (con_parts f' true) fun l => Con.bind (con_need sShut) fun _ => Con.ok l) (con_parts f' false)⟩
   refine Sq.ite (by decide +kernel) h (fun hh => ?_) ((sq_parts f f' false n (by simp; omega) (by simp; omega)).sim ts ts' h hn)
   obtain ⟨h3, h4⟩ := sq_tail h hh
   exact ((SimQ.bind (hP ts.tail.length (by omega)) fun l => SimQ.bind sq_shut fun _ => SimQ.ok l).sim _ _ h3 (Nat.le_refl _)).mono (by omega)
  have e2 := SimQ.bind e1 (B := fun l r => if hd sBar r = true then (pparts nameB f true r.tail).bind fun m r => .ok (l ++ m) r else .ok l r) (B' := fun l r => if hd sBar r = true then (pparts nameB f' true r.tail).bind fun m r => .ok (l ++ m) r else .ok l r) fun l => by
   refine ⟨fun ts ts' h hn => ?_, Con.ite (s := sBar) (A := fun r => (pparts nameB f' true r).bind fun m r => .ok (l ++ m) r) (B := fun r => .ok l r) (Con.bind (con_parts f' true) fun m => Con.ok (l ++ m)) (Con.ok l)⟩
   refine Sq.ite (by decide +kernel) h (fun hh => ?_) (Sq.ok h (Nat.le_refl _))
   obtain ⟨h3, h4⟩ := sq_tail h hh
   exact ((SimQ.bind (hP ts.tail.length (by omega)) fun m => SimQ.ok (l ++ m)).sim _ _ h3 (Nat.le_refl _)).mono (by omega)
  refine ⟨fun ts ts' h hn => ?_, con_parts _ _⟩
  rw [pparts, pparts]
  exact e2.sim ts ts' h hn
end Go.Proofs.YtejaboajgecpaaaGreatDoor
namespace Go.Proofs.YtejaboajgecpaaaGreatDoor
theorem ba_eq {a b : ByteArray} (h : (a.toList == b.toList) = true) : a = b := by
 have h : a.toList = b.toList := by simpa using h
 rw [Lib.toList_data, Lib.toList_data] at h
 obtain ⟨⟨l⟩⟩ := a
 obtain ⟨⟨m⟩⟩ := b
 obtain rfl : l = m := h
 rfl
theorem items_sub : ∀ (f : Nat) (L : List UInt8) (a : Nat) (x : Tok.Item), x ∈ Tok.items f L a -> ∀ b ∈ x.t.data.toList, b ∈ L
 | 0, _, _, _, h => by cases h
 | f + 1, L, a, x, h => by
  rw [Tok.items] at h
  split at h
  ·split at h
   ·rw [List.mem_singleton.1 h]; intro b hb; cases hb
   ·rcases List.mem_cons.1 h with rfl | h
    ·intro b hb
     exact List.mem_of_mem_drop (List.mem_of_mem_take (show b ∈ List.take _ (List.drop a L) from hb))
    ·exact items_sub f L _ x h
  ·cases h
end Go.Proofs.YtejaboajgecpaaaGreatDoor
namespace Go.Proofs.YtejaboajgecpaaaGreatDoor.Tok
open Go.RowKit Go.Shelf Go.Deep
theorem span_gap (p : UInt8 -> Bool) (h : p 32 = false) (b : List UInt8) : ∀ l : List UInt8, Lx.span p (l ++ 32 :: b) = Lx.span p l
 | [] => by rw [List.nil_append, Lx.span_cons, if_neg (by rw [h]; decide), Lx.span_nil]
 | c :: l => by rw [List.cons_append, Lx.span_cons, Lx.span_cons, span_gap p h b l]
theorem wordLen_gap (b l : List UInt8) : Lx.wordLen (l ++ 32 :: b) = Lx.wordLen l := by
 cases l with
 | nil => simp [Lx.wordLen, Lx.letU, Lx.letB]
 | cons c r => simp only [List.cons_append, Lx.wordLen]; rw [span_gap Lx.wcU (by decide)]
theorem numberLen_gap (b l : List UInt8) : Lx.numberLen (l ++ 32 :: b) = Lx.numberLen l := by
 cases l with
 | nil => simp [Lx.numberLen, Lx.digU, Lx.digB]
 | cons c r =>
  have hs : ∀ r, Lx.span Lx.digU (r ++ 32 :: b) = Lx.span Lx.digU r := span_gap Lx.digU (by decide) b
  cases r with
  | nil =>
   have h1 : Lx.digU 32 = false := by decide
   have h2 : Lx.span Lx.digU (32 :: b) = 0 := by rw [Lx.span_cons, if_neg (by decide)]
   simp only [List.cons_append, List.nil_append, Lx.numberLen, h1, h2, Lx.span_nil]
   simp
  | cons d r =>
   have hs2 := hs (d :: r)
   rw [List.cons_append] at hs2
   simp only [List.cons_append, Lx.numberLen, hs2]
theorem tokL_gap (b l : List UInt8) (hl : l ≠ []) : Lx.tokL (l ++ 32 :: b) = Lx.tokL l := by
 unfold Lx.tokL
 have h2 := Lx.numberLen_le l
 rw [wordLen_gap, numberLen_gap, List.take_append_of_le_length h2]
 cases l with
 | nil => exact absurd rfl hl
 | cons c r => rfl
structure Alone (x : Item) : Prop where
 tok : Lx.tokL x.t.data.toList = .inr (x.k, x.t.size, x.v)
 ne : 1 <= x.t.size
 start : ∀ R, Lx.skipG false (x.t.data.toList ++ R) = 0
def strip (x : Item) : Int × ByteArray × Int × Int := (x.k, x.t, x.v, x.e)
theorem strip_shift (d : Nat) (x : Item) : strip (shift d x) = strip x := by
 unfold shift; split <;> rfl
theorem joinL_one (x : Item) : joinL [x] = x.t.data.toList := Lib.join_one _ _
theorem joinL_two (x y : Item) (r : List Item) : joinL (x :: y :: r) = x.t.data.toList ++ 32 :: joinL (y :: r) := by
 unfold joinL
 simp only [List.map_cons]
 rw [Lib.join_cons, Lib.join_cons]
 simp [Lib.joinTail]
theorem items_joined : ∀ (xs : List Item), (∀ x ∈ xs, Alone x /\ x.e = 0) -> ∀ f, (joinL xs).length < f -> Lx.skipG false (joinL xs) = 0 /\ (items f (joinL xs) 0).map strip = xs.map strip
 | [], _, f, _ => by
  refine ⟨rfl, ?_⟩
  rw [show joinL [] = [] from rfl, items_end _ _ _ (by simp)]
 | [x], h, f, hf => by
  obtain ⟨ha, he⟩ := h x (by simp)
  rw [joinL_one] at hf |-
  have hl : x.t.data.toList.length = x.t.size := rfl
  have hn := ha.ne
  obtain ⟨f', rfl⟩ : ∃ f', f = f' + 1 := ⟨f - 1, by omega⟩
  refine ⟨by have := ha.start []; rwa [List.append_nil] at this, ?_⟩
  rw [items_tok f' _ 0 (by omega) x.k x.t x.v (by rw [List.drop_zero]; exact ha.tok) (by rw [List.drop_zero, List.take_of_length_le (by omega)]; rfl), items_end _ _ _ (by omega)]
  simp [strip, he]
 | x :: y :: r, h, f, hf => by
  obtain ⟨ha, he⟩ := h x (by simp)
  have ih := items_joined (y :: r) (fun z hz => h z (List.mem_cons_of_mem _ hz))
  rw [joinL_two] at hf |-
  have hl : x.t.data.toList.length = x.t.size := rfl
  have hn := ha.ne
  obtain ⟨f', rfl⟩ : ∃ f', f = f' + 1 := ⟨f - 1, by omega⟩
  refine ⟨ha.start _, ?_⟩
  rw [List.length_append, List.length_cons] at hf
  obtain ⟨ih1, ih2⟩ := ih f' (by omega)
  have hne : x.t.data.toList ≠ [] := fun e => by rw [e] at hl; simp at hl; omega
  rw [items_tok f' _ 0 (by rw [List.length_append]; omega) x.k x.t x.v (by rw [List.drop_zero, tokL_gap _ _ hne]; exact ha.tok) (by rw [List.drop_zero, List.take_left' hl]; rfl)]
  rw [Nat.zero_add, List.drop_left' hl, Lx.skipG_blank 32 _ (by decide), ih1]
  have e : x.t.data.toList ++ 32 :: joinL (y :: r) = (x.t.data.toList ++ [32]) ++ joinL (y :: r) := by simp
  have e2 : x.t.size + (1 + 0) = (x.t.data.toList ++ [32]).length + 0 := by simp
  rw [e, e2, items_shift, List.map_cons, List.map_map, List.map_cons, <- ih2]
  congr 1
  ·simp [strip, he]
  ·apply List.map_congr_left
   intro z _; exact strip_shift _ _
theorem span_take (p : UInt8 -> Bool) : ∀ l : List UInt8, Lx.span p (l.take (Lx.span p l)) = Lx.span p l
 | [] => by rw [Lx.span_nil, List.take_nil, Lx.span_nil]
 | c :: r => by
  rw [Lx.span_cons]
  by_cases h : p c = true
  ·rw [if_pos h, Nat.add_comm 1, List.take_succ_cons, Lx.span_cons, if_pos h, span_take p r]; omega
  ·rw [if_neg h, List.take_zero, Lx.span_nil]
theorem wordLen_take (l : List UInt8) (h : 0 < Lx.wordLen l) : Lx.wordLen (l.take (Lx.wordLen l)) = Lx.wordLen l := by
 cases l with
 | nil => simp [Lx.wordLen] at h
 | cons c r =>
  simp only [Lx.wordLen] at h |-
  by_cases hc : Lx.letU c = true
  ·rw [if_pos hc, Nat.add_comm 1, List.take_succ_cons]; simp only; rw [if_pos hc, span_take]; omega
  ·rw [if_neg hc] at h; omega
theorem wordLen_take0 (l : List UInt8) (n : Nat) (h : Lx.wordLen l = 0) : Lx.wordLen (l.take n) = 0 := by
 cases l with
 | nil => rw [List.take_nil]; rfl
 | cons c r =>
  cases n with
  | zero => rfl
  | succ n =>
   rw [List.take_succ_cons]
   simp only [Lx.wordLen] at h |-
   by_cases hc : Lx.letU c = true
   ·rw [if_pos hc] at h; omega
   ·rw [if_neg hc]
theorem numberLen_take (l : List UInt8) (h : 0 < Lx.numberLen l) : Lx.numberLen (l.take (Lx.numberLen l)) = Lx.numberLen l := by
 cases l with
 | nil => simp [Lx.numberLen] at h
 | cons c r =>
  by_cases h48 : c = 48
  ·subst h48; simp [Lx.numberLen]
  ·by_cases h45 : c = 45
   ·subst h45
    cases r with
    | nil => simp [Lx.numberLen] at h
    | cons d r' =>
     by_cases hd : d ≠ 48 /\ Lx.digU d = true
     ·have hs := span_take Lx.digU (d :: r')
      have hm : ∀ q, Lx.numberLen (45 :: d :: q) = 1 + Lx.span Lx.digU (d :: q) := fun q => by
       simp only [Lx.numberLen]; rw [if_neg (by decide), if_pos trivial, if_neg hd.1, if_pos hd.2]
      have h1 : 1 <= Lx.span Lx.digU (d :: r') := by rw [Lx.span_cons, if_pos hd.2]; omega
      obtain ⟨n, hn⟩ : ∃ n, Lx.span Lx.digU (d :: r') = n + 1 := ⟨_, (Nat.sub_add_cancel h1).symm⟩
      rw [hn, List.take_succ_cons] at hs
      rw [hm, hn, show 1 + (n + 1) = n + 1 + 1 by omega, List.take_succ_cons, List.take_succ_cons, hm, hs]; omega
     ·exfalso
      simp only [Lx.numberLen] at h
      rw [if_neg (by decide), if_pos trivial] at h
      by_cases e : d = 48
      ·rw [if_pos e] at h; omega
      ·rw [if_neg e, if_neg (fun x => hd ⟨e, x⟩)] at h; omega
   ·by_cases hd : Lx.digU c = true
    ·have hm : ∀ q, Lx.numberLen (c :: q) = 1 + Lx.span Lx.digU q := fun q => by
      simp only [Lx.numberLen]; rw [if_neg h48, if_neg h45, if_pos hd]
     rw [hm, Nat.add_comm 1, List.take_succ_cons, hm, span_take]; omega
    ·exfalso
     simp only [Lx.numberLen] at h
     rw [if_neg h48, if_neg h45, if_neg hd] at h; omega
theorem numberLen_one (c : UInt8) (r : List UInt8) (h : Lx.numberLen (c :: r) = 0) : Lx.numberLen [c] = 0 := by
 simp only [Lx.numberLen] at h |-
 by_cases h48 : c = 48
 ·rw [if_pos h48] at h; omega
 ·rw [if_neg h48] at h |-
  by_cases h45 : c = 45
  ·rw [if_pos h45]
  ·rw [if_neg h45] at h |-
   by_cases hd : Lx.digU c = true
   ·rw [if_pos hd] at h; omega
   ·rw [if_neg hd]
theorem tokL_take (l : List UInt8) (k : Int) (n : Nat) (v : Int) (h : Lx.tokL l = .inr (k, n, v)) : Lx.tokL (l.take n) = .inr (k, n, v) := by
 by_cases hw : 0 < Lx.wordLen l
 ·rw [Lx.tokL_word hw] at h
  cases h
  rw [Lx.tokL_word (by rw [wordLen_take l hw]; exact hw), wordLen_take l hw]
 ·have hw0 : Lx.wordLen l = 0 := by omega
  by_cases hn : 0 < Lx.numberLen l
  ·rcases Lx.numberLen_num _ hn with ⟨u, hu⟩ | hr
   ·rw [Lx.tokL_number hw hn hu] at h
    cases h
    have e := numberLen_take l hn
    have hu2 : Lib.parseIntB 64 ((l.take (Lx.numberLen l)).take (Lx.numberLen (l.take (Lx.numberLen l)))) = .ok v := by
     rw [e, List.take_take, Nat.min_self]; exact hu
    rw [Lx.tokL_number (by rw [wordLen_take0 _ _ hw0]; omega) (by rw [e]; exact hn) hu2, e]
   ·rw [Lx.tokL_range hw hn hr] at h; cases h
  ·cases l with
   | nil => unfold Lx.tokL at h; rw [if_neg hw, if_neg hn] at h; cases h
   | cons c r =>
    by_cases hg : Lx.isSign c = true
    ·rw [Lx.tokL_sign hw hn hg] at h
     cases h
     have e1 := wordLen_take0 (c :: r) 1 hw0
     have e2 := numberLen_one c r (by omega)
     rw [List.take_succ_cons, List.take_zero] at e1 |-
     exact Lx.tokL_sign (by omega) (by omega) hg
    ·rw [Lx.tokL_none hw hn hg] at h; cases h
theorem byte_start (c : UInt8) : (!(Lx.letU c || Lx.digU c || c == 45 || Lx.isSign c) || (!Lx.blank c && c != 35)) = true :=
 all_bytes (p := fun c => (!(Lx.letU c || Lx.digU c || c == 45 || Lx.isSign c) || (!Lx.blank c && c != 35))) (q := fun _ => true) (by decide +kernel) c
theorem start_of (c : UInt8) (R : List UInt8) (h : (Lx.letU c || Lx.digU c || c == 45 || Lx.isSign c) = true) : Lx.skipG false (c :: R) = 0 := by
 have := byte_start c
 rw [h] at this
 simp at this
 exact Lx.skipG_stop c R this.1 this.2
theorem first_of (c : UInt8) (r : List UInt8) (k : Int) (n : Nat) (v : Int) (h : Lx.tokL (c :: r) = .inr (k, n, v)) : (Lx.letU c || Lx.digU c || c == 45 || Lx.isSign c) = true := by
 cases hl : Lx.letU c with
 | true => rfl
 | false =>
  cases hd : Lx.digU c with
  | true => rfl
  | false =>
   by_cases h45 : c = 45
   ·subst h45; rfl
   ·have h48 : c ≠ 48 := fun e => by subst e; exact absurd hd (by decide)
    have hw : Lx.wordLen (c :: r) = 0 := by simp only [Lx.wordLen]; rw [if_neg (by simp [hl])]
    have hn : Lx.numberLen (c :: r) = 0 := by simp only [Lx.numberLen]; rw [if_neg h48, if_neg h45, if_neg (by simp [hd])]
    cases hg : Lx.isSign c with
    | true => simp
    | false => rw [Lx.tokL_none (by omega) (by omega) (by simp [hg])] at h; cases h
theorem items_alone : ∀ (f : Nat) (L : List UInt8) (a : Nat), ∀ x ∈ items f L a, x.e = 0 -> Alone x
 | 0, _, _, x, h, _ => by cases h
 | f + 1, L, a, x, h, h0 => by
  by_cases ha : a < L.length
  ·rcases tokL_cases L a ha with ⟨e, he, he'⟩ | ⟨k, t, v, ht, htx, h1, h2⟩
   ·rw [items_err f L a ha e he] at h
    rw [List.mem_singleton.1 h] at h0
    simp at h0; omega
   ·rw [items_tok f L a ha k t v ht htx] at h
    rcases List.mem_cons.1 h with rfl | h
    ·have et : t.data.toList = (L.drop a).take t.size := by
      have := congrArg (fun b : ByteArray => b.data.toList) htx
      exact this
     have h3 := tokL_take _ k t.size v ht
     rw [<- et] at h3
     refine ⟨h3, h1, fun R => ?_⟩
     show Lx.skipG false (t.data.toList ++ R) = 0
     cases hc : t.data.toList with
     | nil => have : t.data.toList.length = t.size := rfl; rw [hc] at this; simp at this; omega
     | cons c r =>
      rw [hc] at h3
      exact start_of c _ (first_of c r k _ v h3)
    ·exact items_alone f L _ x h h0
  ·rw [items_end _ _ _ ha] at h; cases h
end Go.Proofs.YtejaboajgecpaaaGreatDoor.Tok
namespace Go.Proofs.YtejaboajgecpaaaGreatDoor.Tok
open Go.Lib (hid)
open Go.RowKit Go.Shelf Go.Deep
theorem joinL_snoc : ∀ (ys : List Item) (x : Item), ys ≠ [] -> joinL (ys ++ [x]) = joinL ys ++ 32 :: x.t.data.toList
 | [], _, h => absurd rfl h
 | [y], x, _ => by rw [List.singleton_append, joinL_two, joinL_one, joinL_one]
 | y :: z :: r, x, _ => by
  have ih := joinL_snoc (z :: r) x (by simp)
  rw [List.cons_append] at ih
  rw [List.cons_append, List.cons_append, joinL_two, joinL_two, ih, List.append_assoc, List.cons_append]
theorem joinL_take_le : ∀ (xs : List Item) (k : Nat), (joinL (xs.take k)).length <= (joinL xs).length
 | [], k => by rw [List.take_nil]; exact Nat.le_refl _
 | [x], 0 => by simp [joinL, Lib.join_nil]
 | [x], k + 1 => by rw [List.take_succ_cons, List.take_nil]; exact Nat.le_refl _
 | x :: y :: r, 0 => by simp [joinL, Lib.join_nil]
 | x :: y :: r, 1 => by rw [List.take_succ_cons, List.take_zero, joinL_one, joinL_two, List.length_append]; omega
 | x :: y :: r, k + 2 => by
  have ih := joinL_take_le (y :: r) (k + 1)
  rw [List.take_succ_cons] at ih
  rw [List.take_succ_cons, List.take_succ_cons, joinL_two, joinL_two, List.length_append, List.length_append, List.length_cons, List.length_cons]; omega
theorem nil_app (t : ByteArray) : (⟨#[]⟩ : ByteArray) ++ t = t := by
 apply ByteArray.ext; simp
theorem rjoin_any (g o cap : Nat) (xs : List Item) (w : World) (ht : TokAt w g o xs) (hn : xs.length <= 1048576) (hlen : (joinL xs).length <= 140737488355328) :
 Calls Tryz.prog 20 #[.slice (some ⟨g, o, none⟩) xs.length cap] w fun e w' => e = .returned (.string (txt (joinL xs))) /\ Drew w w' := by
 obtain ⟨n, hn'⟩ : ∃ n, n = xs.length := ⟨_, rfl⟩
 rw [<- hn'] at hn |-
 have HN := hid hn'
 have HL := hid hlen
 clear hn' hlen
 go_enter Tryz.func20, Tryz.ntmps20
 go_wp2_with fail
 go_loopw [3, 4] (fun s i wr => ∃ (k : Nat) (t : ByteArray), i = .int .i64 k /\ s = .string t /\ k <= n /\ Hid (t = txt (joinL (xs.take k))) /\ t.size <= 140737488355328 /\ Drew w wr) (fun _ i _ => n - (intOf i).toNat)
 case atStart => exact ⟨0, ⟨#[]⟩, rfl, rfl, by omega, hid (by rw [List.take_zero]; rfl), by decide, Drew.refl _⟩
 case round =>
  obtain ⟨k, t, rfl, rfl, hk, htk, hts, hdr⟩ := hrel
  by_cases hlt : k < n
  ·obtain ⟨x, hx⟩ : ∃ x, xs[k]? = some x := ⟨_, List.getElem?_eq_getElem (by rw [<- HN.out]; exact hlt)⟩
   obtain ⟨c0, c1, c2, c3⟩ := ht k x hx
   have htake : xs.take (k + 1) = xs.take k ++ [x] := by rw [List.take_add_one, hx, Option.toList_some]
   have hle := joinL_take_le xs (k + 1)
   by_cases hk0 : k = 0
   ·subst hk0
    rw [htake, List.take_zero, List.nil_append, joinL_one] at hle
    have ht0 : t = ⟨#[]⟩ := by rw [htk.out, List.take_zero]; rfl
    have hsz : x.t.size <= 140737488355328 := by have : x.t.data.toList.length = x.t.size := rfl; have := HL.out; omega
    have HT := hid (show x.t = txt (joinL (xs.take (0 + 1))) by rw [htake, List.take_zero, List.nil_append, joinL_one]; rfl)
    subst ht0
    clear hx htake hle
    obtain ⟨nq, rfl⟩ := hdr
    go_wp2_with fail
    go_roundw
    case rel => exact ⟨1, ⟨#[]⟩ ++ x.t, rfl, rfl, by omega, hid (by rw [nil_app]; exact HT.out), by rw [nil_app]; exact hsz, ⟨nq, rfl⟩⟩
    case measure => simp [intOf]; omega
   ·have hne : xs.take k ≠ [] := fun e => by have := congrArg List.length e; rw [List.length_take, <- HN.out] at this; simp at this; omega
    rw [htake, joinL_snoc _ _ hne, List.length_append, List.length_cons] at hle
    have hsz : t.size + 1 + x.t.size <= 140737488355328 := by
     have h1 : x.t.data.toList.length = x.t.size := rfl
     have h2 := HL.out
     have h3 : t.size = (joinL (xs.take k)).length := by rw [htk.out]; rfl
     omega
    have HT := hid (show (t ++ ⟨#[32]⟩) ++ x.t = txt (joinL (xs.take (k + 1))) by
     rw [htake, joinL_snoc _ _ hne, htk.out]
     apply ByteArray.ext; simp [txt])
    clear hx htake hle hne
    obtain ⟨nq, rfl⟩ := hdr
    go_wp2_with fail
    go_roundw
    case rel => exact ⟨k + 1, t ++ ⟨#[32]⟩ ++ x.t, by go_num, rfl, by omega, HT, by rw [ByteArray.size_append, ByteArray.size_append]; exact hsz, ⟨nq, rfl⟩⟩
    case measure => simp [intOf]; omega
  ·obtain rfl : k = n := by omega
   have HR := hid (show t = txt (joinL xs) by rw [htk.out, HN.out, List.take_length])
   go_wp2_with fail
   go_ret
   exact ⟨by rw [<- HR.out]; rfl, hdr⟩
end Go.Proofs.YtejaboajgecpaaaGreatDoor.Tok
namespace Go.Proofs.YtejaboajgecpaaaGreatDoor.Tok
open Go.RowKit Go.Shelf Go.Deep
theorem items_joinlen : ∀ (f : Nat) (L : List UInt8) (a : Nat), (joinL (items f L a)).length <= 2 * (L.length - a)
 | 0, L, a => by simp [items, joinL, Lib.join_nil]
 | f + 1, L, a => by
  by_cases ha : a < L.length
  ·rcases tokL_cases L a ha with ⟨e, he, he'⟩ | ⟨k, t, v, ht, htx, h1, h2⟩
   ·rw [items_err f L a ha e he, joinL_one]; simp
   ·rw [items_tok f L a ha k t v ht htx]
    have ih := items_joinlen f L (a + t.size + Lx.skipG false (L.drop (a + t.size)))
    have hl : t.data.toList.length = t.size := rfl
    cases hr : items f L (a + t.size + Lx.skipG false (L.drop (a + t.size))) with
    | nil => rw [joinL_one]; show t.data.toList.length <= _; omega
    | cons y r =>
     rw [hr] at ih
     rw [joinL_two, List.length_append, List.length_cons]
     show t.data.toList.length + _ <= _
     omega
  ·rw [items_end _ _ _ ha]; simp [joinL, Lib.join_nil]
theorem rjoin_nil (w : World) :
 Calls Tryz.prog 20 #[.slice none 0 0] w fun e w' => e = .returned (.string ⟨#[]⟩) /\ Drew w w' := by
 go_enter Tryz.func20, Tryz.ntmps20
 go_wp2_with fail
 go_loop [3, 4] (fun s i => i = .int .i64 0 /\ s = .string ⟨#[]⟩) (fun _ _ => 0)
 case atStart => exact ⟨rfl, rfl⟩
 case round =>
  obtain ⟨rfl, rfl⟩ := hrel
  go_wp2_with fail
  go_ret
  exact ⟨rfl, Drew.refl _⟩
theorem rjoin_holds (v : Value) (xs : List Item) (w : World) (h : Holds w v xs) (hn : xs.length <= 1048576) (hlen : (joinL xs).length <= 140737488355328) :
 Calls Tryz.prog 20 #[v] w fun e w' => e = .returned (.string (txt (joinL xs))) /\ Drew w w' := by
 rcases h with ⟨rfl, rfl⟩ | ⟨g, o, cap, rfl, _, ht⟩
 ·exact rjoin_nil w
 ·exact rjoin_any g o cap xs w ht hn hlen
end Go.Proofs.YtejaboajgecpaaaGreatDoor.Tok
