/- Plain mathematics: lemmas. -/
import Derived.Test.YtejaboajgecpaaaGreatDoorQm32
set_option maxHeartbeats 16000000
set_option maxRecDepth 100000
namespace Go.Proofs.YtejaboajgecpaaaGreatDoor.Tok
open Go.RowKit
theorem span_stop (p : UInt8 -> Bool) (h : p 10 = false) (b : List UInt8) : ∀ l : List UInt8, Lx.span p (l ++ 10 :: b) = Lx.span p l
 | [] => by rw [List.nil_append, Lx.span_cons, if_neg (by rw [h]; decide), Lx.span_nil]
 | c :: l => by rw [List.cons_append, Lx.span_cons, Lx.span_cons, span_stop p h b l]
theorem wordLen_stop (b l : List UInt8) : Lx.wordLen (l ++ 10 :: b) = Lx.wordLen l := by
 cases l with
 | nil => simp [Lx.wordLen, Lx.letU, Lx.letB]
 | cons c r => simp only [List.cons_append, Lx.wordLen]; rw [span_stop Lx.wcU (by decide)]
theorem numberLen_stop (b l : List UInt8) : Lx.numberLen (l ++ 10 :: b) = Lx.numberLen l := by
 cases l with
 | nil => simp [Lx.numberLen, Lx.digU, Lx.digB]
 | cons c r =>
  have hs : ∀ r, Lx.span Lx.digU (r ++ 10 :: b) = Lx.span Lx.digU r := span_stop Lx.digU (by decide) b
  cases r with
  | nil =>
   have h1 : Lx.digU 10 = false := by decide
   have h2 : Lx.span Lx.digU (10 :: b) = 0 := by rw [Lx.span_cons, if_neg (by decide)]
   simp only [List.cons_append, List.nil_append, Lx.numberLen, h1, h2, Lx.span_nil]
   simp
  | cons d r =>
   have hs2 := hs (d :: r)
   rw [List.cons_append] at hs2
   simp only [List.cons_append, Lx.numberLen, hs2]
theorem tokL_stop (b l : List UInt8) (hl : l ≠ []) : Lx.tokL (l ++ 10 :: b) = Lx.tokL l := by
 unfold Lx.tokL
 have h2 := Lx.numberLen_le l
 rw [wordLen_stop, numberLen_stop, List.take_append_of_le_length h2]
 cases l with
 | nil => exact absurd rfl hl
 | cons c r => rfl
theorem skip_stop (b : List UInt8) : ∀ (l : List UInt8) (m : Bool), Lx.skipG m (l ++ 10 :: b) = if Lx.skipG m l < l.length then Lx.skipG m l else l.length + 1 + Lx.skipG false b
 | [], m => by
  rw [Lx.skipG_nil]
  cases m with
  | false => rw [List.nil_append, Lx.skipG_blank _ _ (by decide)]; simp
  | true => rw [List.nil_append, Lx.skipG]; simp
 | c :: l, m => by
  have ih := skip_stop b l
  cases m with
  | false =>
   rw [List.cons_append]
   by_cases hb : Lx.blank c = true
   ·rw [Lx.skipG_blank _ _ hb, Lx.skipG_blank _ _ hb, ih false, List.length_cons]
    by_cases h : Lx.skipG false l < l.length
    ·rw [if_pos h, if_pos (by omega)]
    ·rw [if_neg h, if_neg (by omega)]; omega
   ·by_cases h35 : c = 35
    ·subst h35
     have e35 : ∀ r, Lx.skipG false (35 :: r) = 1 + Lx.skipG true r := fun r => by rw [Lx.skipG, if_neg (by decide), if_pos rfl]
     rw [e35, e35, ih true, List.length_cons]
     by_cases h : Lx.skipG true l < l.length
     ·rw [if_pos h, if_pos (by omega)]
     ·rw [if_neg h, if_neg (by omega)]; omega
    ·rw [Lx.skipG_stop _ _ (by simpa using hb) h35, Lx.skipG_stop _ _ (by simpa using hb) h35, if_pos (by simp)]
  | true =>
   rw [List.cons_append, Lx.skipG, Lx.skipG, List.length_cons]
   by_cases h10 : c = 10
   ·rw [if_pos h10, if_pos h10, ih false]
    by_cases h : Lx.skipG false l < l.length
    ·rw [if_pos h, if_pos (by omega)]
    ·rw [if_neg h, if_neg (by omega)]; omega
   ·rw [if_neg h10, if_neg h10, ih true]
    by_cases h : Lx.skipG true l < l.length
    ·rw [if_pos h, if_pos (by omega)]
    ·rw [if_neg h, if_neg (by omega)]; omega
theorem items_fuel : ∀ (f f' : Nat) (L : List UInt8) (a : Nat), L.length - a < f -> L.length - a < f' -> items f L a = items f' L a
 | 0, _, _, _, h, _ => by omega
 | _ + 1, 0, _, _, _, h => by omega
 | f + 1, f' + 1, L, a, h, h' => by
  by_cases ha : a < L.length
  ·rcases tokL_cases L a ha with ⟨e, he, _⟩ | ⟨k, t, v, ht, htx, h1, h2⟩
   ·rw [items_err f L a ha e he, items_err f' L a ha e he]
   ·rw [items_tok f L a ha k t v ht htx, items_tok f' L a ha k t v ht htx, items_fuel f f' L _ (by omega) (by omega)]
  ·rw [items_end _ _ _ ha, items_end _ _ _ ha]
def shift (d : Nat) (x : Item) : Item := if x.e = 0 then { x with a := x.a + d } else { x with p := x.p + d }
theorem items_shift (P b : List UInt8) : ∀ (f q : Nat), items f (P ++ b) (P.length + q) = (items f b q).map (shift P.length)
 | 0, _ => rfl
 | f + 1, q => by
  have hd : ∀ q, (P ++ b).drop (P.length + q) = b.drop q := fun q => by rw [List.drop_append, List.drop_eq_nil_of_le (by omega)]; simp
  by_cases hq : q < b.length
  ·have hq' : P.length + q < (P ++ b).length := by rw [List.length_append]; omega
   rcases tokL_cases b q hq with ⟨e, he, he'⟩ | ⟨k, t, v, ht, htx, h1, h2⟩
   ·rw [items_err f b q hq e he, items_err f (P ++ b) _ hq' e (by rw [hd]; exact he)]
    have hne : e ≠ 0 := by omega
    simp [shift, hne]; omega
   ·have h3 : P.length + q + t.size = P.length + (q + t.size) := by omega
    rw [items_tok f b q hq k t v ht htx, items_tok f (P ++ b) _ hq' k t v (by rw [hd]; exact ht) (by rw [hd]; exact htx), h3, hd]
    have ih := items_shift P b f (q + t.size + Lx.skipG false (b.drop (q + t.size)))
    have h4 : P.length + (q + t.size) + Lx.skipG false (b.drop (q + t.size)) = P.length + (q + t.size + Lx.skipG false (b.drop (q + t.size))) := by omega
    rw [h4, ih]
    simp [shift]; omega
  ·rw [items_end _ _ _ hq, items_end _ _ _ (by rw [List.length_append]; omega)]; rfl
def joinI (xs ys : List Item) : List Item := if xs.all (fun x => x.e == 0) then xs ++ ys else xs
theorem joinI_cons (x : Item) (xs ys : List Item) (h : x.e = 0) : joinI (x :: xs) ys = x :: joinI xs ys := by
 unfold joinI; rw [List.all_cons, h]; simp; split <;> rfl
theorem joinI_nil (ys : List Item) : joinI [] ys = ys := rfl
theorem items_two (A b : List UInt8) : ∀ (f p fL : Nat), p <= A.length -> A.length - p < f -> (A ++ 10 :: b).length - p < fL ->
 items fL (A ++ 10 :: b) (if p < A.length then p else A.length + 1 + Lx.skipG false b) = joinI (items f A p) ((items (b.length + 1) b (Lx.skipG false b)).map (shift (A.length + 1)))
 | 0, _, _, _, h, _ => by omega
 | f + 1, p, fL, hp, hf, hfL => by
  have hlen : (A ++ 10 :: b).length = A.length + 1 + b.length := by simp; omega
  have tail : ∀ fL, b.length < fL -> items fL (A ++ 10 :: b) (A.length + 1 + Lx.skipG false b) = (items (b.length + 1) b (Lx.skipG false b)).map (shift (A.length + 1)) := by
   intro fL hfl
   have h := items_shift (A ++ [10]) b fL (Lx.skipG false b)
   have e1 : (A ++ [10]).length = A.length + 1 := by simp
   have e2 : A ++ [10] ++ b = A ++ 10 :: b := by simp
   rw [e1, e2] at h
   rw [h, items_fuel fL (b.length + 1) b _ (by omega) (by omega)]
  by_cases ha : p < A.length
  ·rw [if_pos ha]
   have ha' : p < (A ++ 10 :: b).length := by omega
   have hd : ∀ q, q <= A.length -> (A ++ 10 :: b).drop q = A.drop q ++ 10 :: b := fun q hq => by rw [List.drop_append_of_le_length hq]
   have hne : A.drop p ≠ [] := by intro e; have := congrArg List.length e; simp at this; omega
   cases fL with
   | zero => omega
   | succ fL =>
    rcases tokL_cases A p ha with ⟨e, he, he'⟩ | ⟨k, t, v, ht, htx, h1, h2⟩
    ·rw [items_err f A p ha e he, items_err fL _ p ha' e (by rw [hd p hp, tokL_stop _ _ hne]; exact he)]
     have hnz : (e == 0) = false := by rw [beq_eq_false_iff_ne]; omega
     simp [joinI, hnz]
    ·have hsz : (A.drop p).length = A.length - p := List.length_drop
     rw [items_tok f A p ha k t v ht htx, items_tok fL _ p ha' k t v (by rw [hd p hp, tokL_stop _ _ hne]; exact ht) (by rw [hd p hp, List.take_append_of_le_length (by omega)]; exact htx), joinI_cons _ _ _ rfl]
     congr 1
     rw [hd _ h2, skip_stop]
     have hle := Lx.skipG_le false (A.drop (p + t.size))
     have hl2 : (A.drop (p + t.size)).length = A.length - (p + t.size) := List.length_drop
     have ih := items_two A b f (p + t.size + Lx.skipG false (A.drop (p + t.size))) fL (by omega) (by omega) (by omega)
     rw [<- ih]
     by_cases hs : Lx.skipG false (A.drop (p + t.size)) < (A.drop (p + t.size)).length
     ·rw [if_pos hs, if_pos (by omega)]
     ·rw [if_neg hs, if_neg (by omega)]; congr 1; omega
  ·rw [if_neg ha, items_end _ _ _ ha, joinI_nil]
   exact tail fL (by omega)
theorem items_pair (A b : List UInt8) :
 items ((A ++ 10 :: b).length + 1) (A ++ 10 :: b) (Lx.skipG false (A ++ 10 :: b)) = joinI (items (A.length + 1) A (Lx.skipG false A)) ((items (b.length + 1) b (Lx.skipG false b)).map (shift (A.length + 1))) := by
 have hle := Lx.skipG_le false A
 rw [<- items_two A b (A.length + 1) (Lx.skipG false A) ((A ++ 10 :: b).length + 1) hle (by omega) (by omega), skip_stop]
end Go.Proofs.YtejaboajgecpaaaGreatDoor.Tok
namespace Go.Proofs.YtejaboajgecpaaaGreatDoor.Tok
open Go.RowKit Go.Shelf Go.Deep
theorem items_either (s : ByteArray) : (∃ q x, items (s.size + 1) s.data.toList (Lx.skipG false s.data.toList) = q ++ [x] /\ x.e ≠ 0 /\ ∀ y ∈ q, y.e = 0) \/ ∀ x ∈ items (s.size + 1) s.data.toList (Lx.skipG false s.data.toList), x.e = 0 := by
 rcases items_three s with h | h | ⟨_, h⟩
 ·exact .inl h
 ·right; intro x hx; rw [h] at hx; cases hx
 ·exact .inr h
theorem joinI_ok (xs ys : List Item) (h : ∀ x ∈ xs, x.e = 0) : joinI xs ys = xs ++ ys := by
 unfold joinI; rw [if_pos]; rw [List.all_eq_true]; intro x hx; rw [h x hx]; rfl
theorem joinI_bad (q ys : List Item) (x : Item) (h : x.e ≠ 0) : joinI (q ++ [x]) ys = q ++ [x] := by
 unfold joinI; rw [if_neg]; rw [List.all_eq_true]; intro hall
 have := hall x (by simp); simp at this; exact h this
end Go.Proofs.YtejaboajgecpaaaGreatDoor.Tok
