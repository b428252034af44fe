/- Package lex: lemmas. -/
import Derived.Test.YtejaboajgecpaaaGreatDoorQn29
set_option maxHeartbeats 16000000
set_option maxRecDepth 100000
namespace Go.Proofs.YtejaboajgecpaaaGreatDoor.Tok
open Go.RowKit Go.Shelf
attribute [local go_sem] Oper.semAt_some
structure Item where
 k : Int
 t : ByteArray
 v : Int
 a : Int
 e : Int
 p : Int
def items : Nat -> List UInt8 -> Nat -> List Item
 | 0, _, _ => []
 | f + 1, L, a => if a < L.length then
  match Lx.tokL (L.drop a) with
  | .inl e => [⟨0, ⟨#[]⟩, 0, 0, e, a⟩]
  | .inr (k, n, v) => ⟨k, txt ((L.drop a).take n), v, a, 0, 0⟩ :: items f L (a + n + Lx.skipG false (L.drop (a + n)))
  else []
theorem tokL_cases (L : List UInt8) (a : Nat) (ha : a < L.length) :
 (∃ e, Lx.tokL (L.drop a) = .inl e /\ (e = 1 \/ e = 2)) \/
 (∃ (k : Int) (t : ByteArray) (v : Int), Lx.tokL (L.drop a) = .inr (k, t.size, v) /\ t = txt ((L.drop a).take t.size) /\ 1 <= t.size /\ a + t.size <= L.length) := by
 have h1 := Lx.wordLen_le (L.drop a)
 have h2 := Lx.numberLen_le (L.drop a)
 rw [List.length_drop] at h1 h2
 have key : ∀ (k : Int) (n : Nat) (v : Int), Lx.tokL (L.drop a) = .inr (k, n, v) -> 1 <= n -> a + n <= L.length ->
  ∃ (k : Int) (t : ByteArray) (v : Int), Lx.tokL (L.drop a) = .inr (k, t.size, v) /\ t = txt ((L.drop a).take t.size) /\ 1 <= t.size /\ a + t.size <= L.length := by
  intro k n v h hn hl
  have hs : (txt ((L.drop a).take n)).size = n := by
   show ((L.drop a).take n).length = n
   rw [List.length_take, List.length_drop]; omega
  exact ⟨k, txt ((L.drop a).take n), v, by rw [hs]; exact h, by rw [hs], by omega, by omega⟩
 by_cases hw : 0 < Lx.wordLen (L.drop a)
 ·exact .inr (key 1 _ 0 (Lx.tokL_word hw) hw (by omega))
 ·by_cases hn : 0 < Lx.numberLen (L.drop a)
  ·rcases Lx.numberLen_num _ hn with ⟨v, hv⟩ | hr
   ·exact .inr (key 2 _ v (Lx.tokL_number hw hn hv) hn (by omega))
   ·exact .inl ⟨2, Lx.tokL_range hw hn hr, .inr rfl⟩
  ·obtain ⟨c, r, hd⟩ : ∃ c r, L.drop a = c :: r := by
    cases h : L.drop a with
    | nil => have := congrArg List.length h; simp at this; omega
    | cons c r => exact ⟨c, r, rfl⟩
   rw [hd] at hw hn
   by_cases hg : Lx.isSign c = true
   ·exact .inr (key 3 1 0 (by rw [hd]; exact Lx.tokL_sign hw hn hg) (by omega) (by omega))
   ·exact .inl ⟨1, by rw [hd]; exact Lx.tokL_none hw hn hg, .inl rfl⟩
theorem items_end (f : Nat) (L : List UInt8) (a : Nat) (h : ¬ a < L.length) : items f L a = [] := by
 cases f with
 | zero => rfl
 | succ f => rw [items, if_neg h]
theorem items_err (f : Nat) (L : List UInt8) (a : Nat) (h : a < L.length) (e : Int) (he : Lx.tokL (L.drop a) = .inl e) : items (f + 1) L a = [⟨0, ⟨#[]⟩, 0, 0, e, a⟩] := by
 rw [items, if_pos h, he]
theorem items_tok (f : Nat) (L : List UInt8) (a : Nat) (h : a < L.length) (k : Int) (t : ByteArray) (v : Int) (ht : Lx.tokL (L.drop a) = .inr (k, t.size, v)) (hx : t = txt ((L.drop a).take t.size)) :
 items (f + 1) L a = ⟨k, t, v, a, 0, 0⟩ :: items f L (a + t.size + Lx.skipG false (L.drop (a + t.size))) := by
 rw [items, if_pos h, ht]; simp only; rw [<- hx]
theorem tokenAt_tok (s : ByteArray) (hs : s.size <= 281474976710656) (a : Nat) (ha : a < s.size) (k : Int) (t : ByteArray) (v : Int) (ht : Hid (Lx.tokL (s.data.toList.drop a) = .inr (k, t.size, v))) (hx : Hid (t = txt ((s.data.toList.drop a).take t.size))) (B : Nat) (w : World) (he : Env B w) :
 Calls Tryz.prog 107 #[.string s, .int .i64 a] w fun e w' => e = .returned (.tuple #[.agg #[.int .i64 k, .string t, .int .i64 v, .int .i64 a], .int .i64 0]) /\ Below w.heap.size w w' := by
 have h := tokenAt_any s hs a ha B w he
 rw [ht.out] at h
 simp only [tokR, tokV, <- hx.out] at h
 exact h
theorem tokenAt_err (s : ByteArray) (hs : s.size <= 281474976710656) (a : Nat) (ha : a < s.size) (e : Int) (ht : Hid (Lx.tokL (s.data.toList.drop a) = .inl e)) (B : Nat) (w : World) (he : Env B w) :
 Calls Tryz.prog 107 #[.string s, .int .i64 a] w fun e' w' => e' = .returned (.tuple #[.agg #[.int .i64 0, .string ⟨#[]⟩, .int .i64 0, .int .i64 0], .int .i64 e]) /\ Below w.heap.size w w' := by
 have h := tokenAt_any s hs a ha B w he
 rw [ht.out] at h
 exact h
theorem skip_sum (s : ByteArray) (hs : s.size <= 9223372036854775807) (a m : Nat) (ha : a + m <= s.size) (nx : Nat) (hn : Hid (a + m + Lx.skipG false (s.data.toList.drop (a + m)) = nx)) (w : World) :
 Calls Tryz.prog 106 #[.string s, .int .i64 ((a : Int) + (m : Int))] w fun e w' => e = .returned (.int .i64 nx) /\ w = w' := by
 have h := skip_any s hs (a + m) ha w
 rw [hn.out, Int.natCast_add] at h
 exact h
theorem skip_zero (s : ByteArray) (hs : s.size <= 9223372036854775807) (nx : Nat) (hn : Hid (Lx.skipG false s.data.toList = nx)) (w : World) :
 Calls Tryz.prog 106 #[.string s, .int .i64 0] w fun e w' => e = .returned (.int .i64 nx) /\ w = w' := by
 have h := skip_any s hs 0 (by omega) w
 rw [List.drop_zero, hn.out, Nat.zero_add] at h
 exact h
def Refers (O : Nat) (W : World) (k : Nat) : Prop := ∃ v, W.cell? ⟨O, 0, none⟩ = some v /\ v.ownBlock = some k
def Good (O n₀ : Nat) (W : World) : Prop := ∀ k, Refers O W k -> n₀ <= k /\ k < W.heap.size
structure Kp (O n₀ : Nat) (W W' : World) : Prop where
 size : W.heap.size <= W'.heap.size
 keep : ∀ (k : Nat) (o : Obj), W.heap[k]? = some o -> o.isCells = true -> k ≠ O -> ¬ Refers O W k -> W'.heap[k]? = some o
 refs : ∀ k, Refers O W' k -> Refers O W k \/ W.heap.size <= k
 good : Good O n₀ W -> Good O n₀ W'
theorem Kp.trans {O n₀ : Nat} {A B C : World} (h : Kp O n₀ A B) (g : Kp O n₀ B C) : Kp O n₀ A C where
 size := Nat.le_trans h.size g.size
 keep k o hk hc hO hr := g.keep k o (h.keep k o hk hc hO hr) hc hO (fun hr' => by
  rcases h.refs k hr' with h1 | h1
  ·exact hr h1
  ·have := (Array.getElem?_eq_some_iff.1 hk).1; omega)
 refs k hk := by
  rcases g.refs k hk with h1 | h1
  ·exact h.refs k h1
  ·exact .inr (Nat.le_trans h.size h1)
 good hg := g.good (h.good hg)
theorem Kp.put {O n₀ : Nat} {w : World} (hO : O < w.heap.size) (W : World) (l : Nat) (o o' : Obj) (hl : w.heap.size <= l) (h : W.heap[l]? = some o) (ho : o.isCells = false) (_ : o.isWalk = false) : Kp O n₀ W (W.putObj l o') := by
 have hOl : O ≠ l := by omega
 have hc : (W.putObj l o').cell? ⟨O, 0, none⟩ = W.cell? ⟨O, 0, none⟩ := World.cell?_of_block (World.putObj_heap_other hOl)
 have hsz : (W.putObj l o').heap.size = W.heap.size := by simp
 refine ⟨by omega, fun k ob hk hcl _ _ => ?_, fun k ⟨v, hv, hb⟩ => .inl ⟨v, by rw [<- hc]; exact hv, hb⟩, fun hg k ⟨v, hv, hb⟩ => ?_⟩
 ·rw [World.putObj_heap_other (fun e => ?_)]
  ·exact hk
  ·subst e; rw [hk] at h; cases h; rw [hcl] at ho; cases ho
 ·have := hg k ⟨v, by rw [<- hc]; exact hv, hb⟩; omega
theorem grown_none {W W' : World} (h : Below W.heap.size W W') : W.grownBy W' none := ⟨h.os, h.tape, h.output, h.size, fun k hk _ => h.block k hk⟩
theorem Env.keep {B : Nat} {W W' : World} (h : Env B W) (hsz : W.heap.size <= W'.heap.size) (hk : ∀ (g : Nat) (o : Obj), g < B -> W.heap[g]? = some o -> o.isCells = true -> W'.heap[g]? = some o) : Env B W' := by
 have var : ∀ {n : String} {g : Nat} {cs : Array Value}, Tryz.prog.globalNamed n = some g -> g < B -> W.var? Tryz.prog n = some cs -> W'.var? Tryz.prog n = some cs := by
  intro n g cs hg hgB hv
  unfold World.var? at hv |-
  simp only [hg, Option.bind_some] at hv |-
  cases ho : W.heap[g]? with
  | none => rw [ho] at hv; cases hv
  | some o =>
   rw [ho] at hv
   cases o with
   | cells cs' ty fr => rw [hk g _ hgB ho rfl]; exact hv
   | _ => cases hv
 obtain ⟨tp, p, hr⟩ := h.range
 exact ⟨⟨tp, p, var gRange h.above.1 hr⟩, var gWords h.above.2 h.words, h.above, Nat.le_trans h.size hsz⟩
abbrev encs (x : Item) : Array Value := #[.agg #[.int .i64 x.k, .string x.t, .int .i64 x.v, .int .i64 x.a], .agg #[.int .i64 x.e, .int .i64 x.p]]
structure Inv (O n₀ Bn B : Nat) (s : ByteArray) (W : World) : Prop where
 box : Boxed W Bn 9 (.string s)
 env : Env B W
 good : Good O n₀ W
 le : n₀ <= W.heap.size
theorem Refers.old {O k : Nat} {W W' : World} (hO : O < W.heap.size) (hb : Below W.heap.size W W') (h : Refers O W' k) : Refers O W k := by
 obtain ⟨v, hv, hk⟩ := h
 exact ⟨v, (hb.cell (p := ⟨O, 0, none⟩) hO).symm.trans hv, hk⟩
theorem Inv.to {O n₀ Bn B : Nat} {s : ByteArray} {W W' : World} (h : Inv O n₀ Bn B s W) (hO : O < n₀) (hb : Below W.heap.size W W') : Inv O n₀ Bn B s W' where
 box := h.box.kept (grown_none hb) (by simp)
 env := h.env.to hb
 good k hk := by
  have := h.good k (hk.old (Nat.lt_of_lt_of_le hO h.le) hb)
  exact ⟨this.1, Nat.lt_of_lt_of_le this.2 hb.size⟩
 le := Nat.le_trans h.le hb.size
theorem Inv.over {O n₀ Bn B : Nat} {s : ByteArray} {W W' : World} (h : Inv O n₀ Bn B s W) (hBn : Bn < n₀) (hBO : Bn ≠ O) (hB : B <= O) (hO : O < n₀) (hk : Kp O n₀ W W') : Inv O n₀ Bn B s W' where
 box := hk.keep Bn _ h.box rfl hBO (fun hr => by have := (h.good Bn hr).1; omega)
 env := h.env.keep hk.size (fun g o hg ho hc => hk.keep g o ho hc (by omega) (fun hr => by have := (h.good g hr).1; omega))
 good := hk.good h.good
 le := Nat.le_trans h.le hk.size
theorem Boxed.at4 {W : World} {b : Nat} {t : TypeId} {x0 x1 x2 x3 : Value} (h : W.heap[b]? = some (.cells #[x0, x1, x2, x3] t (0, 0))) : W.cell? ⟨b, 1, none⟩ = some x1 := by simp [World.cell?, h]
theorem items_len : ∀ (f : Nat) (L : List UInt8) (a : Nat), (items f L a).length <= f
 | 0, _, _ => by simp [items]
 | f + 1, L, a => by
  rw [items]
  split
  ·split
   ·simp
   ·have := items_len f L; simp only [List.length_cons]; have := this (a + ‹Nat› + Lx.skipG false (L.drop (a + ‹Nat›))); omega
  ·simp
theorem Kp.of_below {O n₀ : Nat} {W W' : World} (hO : O < W.heap.size) (hb : Below W.heap.size W W') : Kp O n₀ W W' where
 size := hb.size
 keep k o hk _ _ _ := (hb.block k (Array.getElem?_eq_some_iff.1 hk).1).trans hk
 refs k hk := .inl (hk.old hO hb)
 good hg k hk := by
  have := hg k (hk.old hO hb)
  exact ⟨this.1, Nat.lt_of_lt_of_le this.2 hb.size⟩
theorem boxed_refers {O k : Nat} {W : World} {t : TypeId} {v : Value} (hv : Boxed W O t v) : Refers O W k ↔ v.ownBlock = some k :=
 ⟨fun ⟨u, hu, hk⟩ => by rw [hv.cell] at hu; cases hu; exact hk, fun h => ⟨v, hv.cell, h⟩⟩
theorem ownsRow_block {W : World} {base : Nat} {e : TypeId} {size : Nat} {v : Value} {n k : Nat} {xs : List Value} (h : W.ownsRow base e size v n xs) (hk : v.ownBlock = some k) : base <= k /\ k < W.heap.size := by
 rcases h.2 with ⟨rfl, _⟩ | ⟨g, cap, cur, rfl, hb, hg, _⟩
 ·simp [Value.ownBlock] at hk
 ·obtain rfl : g = k := by simpa [Value.ownBlock] using hk
  exact ⟨hb, (Array.getElem?_eq_some_iff.1 hg).1⟩
theorem ownsRow_base {W : World} {base base' : Nat} {e : TypeId} {size : Nat} {v : Value} {n : Nat} {xs : List Value} (h : W.ownsRow base e size v n xs) (hb : base' <= base) : W.ownsRow base' e size v n xs := by
 refine ⟨h.1, ?_⟩
 rcases h.2 with hn | ⟨g, cap, cur, rfl, hg, r⟩
 ·exact .inl hn
 ·exact .inr ⟨g, cap, cur, rfl, Nat.le_trans hb hg, r⟩
theorem Kp.append {O n₀ n₁ : Nat} {W w1 : World} {t e : TypeId} {size k m : Nat} {v v' : Value} {xs ys : List Value} {tmp : Obj} (hv : Boxed W O t v) (hte : t ≠ e) (hrow : W.ownsRow n₁ e size v k xs) (hn : n₀ <= n₁)
 (hown' : w1.ownsRow n₁ e size v' m ys) (hgrow : (W.alloc tmp).grownBy w1 v.ownBlock) (hw : v'.ownBlock = v.ownBlock \/ v'.ownBlock = some (W.alloc tmp).heap.size) : Kp O n₀ W (w1.setCell ⟨O, 0, none⟩ v') := by
 have hv1 : Boxed w1 O t v := (hv.alloc tmp).kept hgrow (hv.not_row hte hrow)
 have hv2 := hv1.set v'
 have hsz : W.heap.size <= w1.heap.size := by have := hgrow.size; simp at this; omega
 have hsz2 : (w1.setCell ⟨O, 0, none⟩ v').heap.size = w1.heap.size := by simp
 refine ⟨by omega, fun j o hj hc hO hr => ?_, fun j hj => ?_, fun _ j hj => ?_⟩
 ·rw [Below.heap_setCell _ _ _ j (fun e => hO e)]
  have hlt := (Array.getElem?_eq_some_iff.1 hj).1
  rw [hgrow.block j (by simp; omega) (fun e => hr ((boxed_refers hv).2 e.symm))]
  exact (Below.heap_alloc W tmp j hlt).trans hj
 ·rw [boxed_refers hv2] at hj
  rcases hw with h | h
  ·exact .inl ((boxed_refers hv).2 (h ▸ hj))
  ·rw [h] at hj; simp at hj; exact .inr (by omega)
 ·rw [boxed_refers hv2] at hj
  have := ownsRow_block hown' hj
  omega
theorem items_last : ∀ (f : Nat) (L : List UInt8) (a : Nat) (q r : List Item) (x : Item), items f L a = q ++ x :: r -> x.e ≠ 0 -> r = []
 | 0, _, _, q, r, x, h, _ => by have := congrArg List.length h; simp [items] at this
 | f + 1, L, a, q, r, x, h, hx => by
  rw [items] at h
  split at h
  ·split at h
   ·cases q with
    | nil => simp at h; exact h.2
    | cons y q => have := congrArg List.length h; simp at this
   ·cases q with
    | nil => simp at h; exact absurd (by rw [<- h.1]) hx
    | cons y q =>
     simp only [List.cons_append, List.cons.injEq] at h
     exact items_last f L _ q r x h.2 hx
  ·have := congrArg List.length h; simp at this
theorem cells_kept {W W' : World} {row : Option Nat} {b : Nat} {cs : Array Value} {t : TypeId} {fr : Nat × Nat} (h : W.heap[b]? = some (.cells cs t fr)) (hg : W.grownBy W' row) (hr : ∀ r, row = some r -> ∃ o : Obj, W.heap[r]? = some o /\ o.isCells = false) : W'.heap[b]? = some (.cells cs t fr) := by
 refine (hg.block b (Array.getElem?_eq_some_iff.1 h).1 (fun e => ?_)).trans h
 obtain ⟨o, ho, hc⟩ := hr b e.symm
 rw [h] at ho; cases ho; cases hc
end Go.Proofs.YtejaboajgecpaaaGreatDoor.Tok
namespace Go.Proofs.YtejaboajgecpaaaGreatDoor.Tok
open Go.Lib (hid)
open Go.RowKit Go.Shelf
attribute [local go_sem] Oper.semAt_some
theorem scan1_in (n : Nat) (hn : 1 <= n) (l Bn O n₀ B : Nat) (hBn : Bn < n₀) (hBO : Bn ≠ O) (hB : B <= O) (hO : O < n₀) (s : ByteArray) (hs : s.size <= 281474976710656) (xs : List Item)
 (hxs : xs = items (s.size + 1) s.data.toList (Lx.skipG false s.data.toList)) (J Jx : List Item -> World -> Prop)
 (W : World) (hI : Inv O n₀ Bn B s W) (hJ : AbidesFrom W.heap.size J)
 (hY : ∀ pre x W, J pre W -> pre.length < xs.length -> YieldAt Fence.wide (n - 1) Tryz.prog l (encs x) W fun e W' =>
  (e = .returned (.bool true) /\ J (pre ++ [x]) W' /\ Kp O n₀ W W') \/ (e = .returned (.bool false) /\ Jx (pre ++ [x]) W'))
 (h0 : J [] W) :
 CallsIn Fence.wide n Tryz.prog 105 #[.func (.yield l) #[] #[], .pointer (some ⟨Bn, 0, none⟩)] W fun e W' => (∃ v, e = .returned v) /\
  ((∃ ys, ys = xs /\ J ys W') \/ (∃ pre, pre <+: xs /\ Jx pre W')) := by
 have hc := hI.box.cell
 have hs' : s.size <= 9223372036854775807 := by omega
 obtain ⟨nx0, hnx0⟩ : ∃ nx, Hid (Lx.skipG false s.data.toList = nx) := ⟨_, hid rfl⟩
 have HX := hid hxs
 clear hxs
 refine callsIn_of_wp Tryz.func105 rfl trivial ?_ rfl
 simp only [Tryz.ntmps105, List.size_toArray, List.length_cons, List.length_nil, Nat.reduceAdd, Nat.reduceSub, Array.replicate_succ, Array.replicate_zero, List.push_toArray, List.append_toArray, List.nil_append, List.cons_append]
 gi_wp2_with (refine ⟨trivial, ?_⟩; gi_at_call 106; refine (callsIn_wide.2 (skip_zero s hs' nx0 hnx0 _)).mono ?_; rintro e w1 ⟨rfl, rfl⟩)
 gi_loopw [3] (fun p wr => ∃ (pre : List Item) (a f : Nat), p = .int .i64 a /\ a <= s.size /\ Hid (xs = pre ++ items f s.data.toList a) /\ s.size - a < f /\ J pre wr /\ Inv O n₀ Bn B s wr /\ W.heap.size <= wr.heap.size)
  (fun p _ => s.size - (intOf p).toNat)
 case atStart =>
  have hle := Lx.skipG_le false s.data.toList
  have hll : s.data.toList.length = s.size := rfl
  rw [<- hnx0.out]
  exact ⟨[], _, s.size + 1, rfl, by omega, hid HX.out, by omega, h0, hI, Nat.le_refl _⟩
 case round =>
  obtain ⟨pre, a, f, rfl, ha, hx, hf, hJs, hinv, hsz⟩ := hrel
  have hc := hinv.box.cell
  by_cases hlt : a < s.size
  ·rcases tokL_cases s.data.toList a hlt with ⟨e, he, he'⟩ | ⟨k, t, v, ht, htx, ht1, ht2⟩
   ·have HT := hid he
    have hne : (e != 0) = true := by rcases he' with rfl | rfl <;> rfl
    cases f with
    | zero => omega
    | succ f =>
     have hit := items_err f s.data.toList a hlt e he
     have hx' : xs = pre ++ [⟨0, ⟨#[]⟩, 0, 0, e, a⟩] := by rw [hx.out, hit]
     have hlen : pre.length < xs.length := by rw [hx.out, hit]; simp
     have HX' := hid hx'
     clear hit hx' he he' hx
     gi_wp2_with fail
     refine ⟨trivial, ?_⟩
     refine (callsIn_wide.2 (tokenAt_err s hs a hlt e HT B _ hinv.env)).mono ?_
     rintro e1 w1 ⟨rfl, hb⟩
     have hb2 := hb.trans ((blkBelow w1 #[.int .i64 0, .string ⟨#[]⟩, .int .i64 0, .int .i64 0] 99).mono hb.size)
     have hinv2 := hinv.to hO hb2
     have hJ2 := hJ pre _ _ none hJs (grown_none hb2) (fun r e => by cases e)
     obtain ⟨fn, tmps, assign, body, hy, hR⟩ := hY pre ⟨0, ⟨#[]⟩, 0, 0, e, a⟩ _ hJ2 hlen
     simp only [encs] at hy
     gi_wp2_with fail
     refine hR.mono ?_
     rintro e1 W3 (⟨rfl, hJ3, hk3⟩ | ⟨rfl, hJx3⟩)
     ·gi_wp2
      refine bodyPost_ret (results_none rfl _ _ _) rfl ?_
      exact ⟨⟨_, rfl⟩, .inl ⟨_, HX'.out.symm, hJ3⟩⟩
     ·gi_wp2
      refine bodyPost_ret (results_none rfl _ _ _) rfl ?_
      exact ⟨⟨_, rfl⟩, .inr ⟨_, ⟨[], by rw [List.append_nil]; exact HX'.out.symm⟩, hJx3⟩⟩
   ·have HT := hid ht
    have HTX := hid htx
    cases f with
    | zero => omega
    | succ f =>
     have hit := items_tok f s.data.toList a hlt k t v ht htx
     have hx' : xs = (pre ++ [⟨k, t, v, a, 0, 0⟩]) ++ items f s.data.toList (a + t.size + Lx.skipG false (s.data.toList.drop (a + t.size))) := by
      rw [hx.out, hit]; simp
     have hlen : pre.length < xs.length := by rw [hx.out, hit]; simp
     obtain ⟨nx, hnx⟩ : ∃ nx, Hid (a + t.size + Lx.skipG false (s.data.toList.drop (a + t.size)) = nx) := ⟨_, hid rfl⟩
     have hnle : nx <= s.size := by
      have h1 := Lx.skipG_le false (s.data.toList.drop (a + t.size))
      have h2 : s.data.toList.length = s.size := rfl
      rw [List.length_drop] at h1; have := hnx.out; omega
     have hnge : a + t.size <= nx := by have := hnx.out; omega
     have ht2' : a + t.size <= s.size := ht2
     have HX' := hid hx'
     clear hit hx' ht htx hx ht2
     gi_wp2_with fail
     refine ⟨trivial, ?_⟩
     refine (callsIn_wide.2 (tokenAt_tok s hs a hlt k t v HT HTX B _ hinv.env)).mono ?_
     rintro e w1 ⟨rfl, hb⟩
     have hb2 := hb.trans ((blkBelow w1 #[.int .i64 k, .string t, .int .i64 v, .int .i64 a] 99).mono hb.size)
     have hinv2 := hinv.to hO hb2
     have hJ2 := hJ pre _ _ none hJs (grown_none hb2) (fun r e => by cases e)
     obtain ⟨fn, tmps, assign, body, hy, hR⟩ := hY pre ⟨k, t, v, a, 0, 0⟩ _ hJ2 hlen
     simp only [encs] at hy
     gi_wp2_with fail
     refine hR.mono ?_
     rintro e W3 (⟨rfl, hJ3, hk3⟩ | ⟨rfl, hJx3⟩)
     ·have hinv3 := hinv2.over hBn hBO hB hO hk3
      have hbox := hinv3.box.cell
      have htok := Boxed.at4 (hk3.keep w1.heap.size _ (World.alloc_heap_new w1 _) rfl (by have := hinv.le; have := hb.size; omega) (fun hr => by
       have h1 := (hr.old (by have := hinv.le; have := hb.size; omega) (blkBelow w1 _ _)).old (by have := hinv.le; omega) hb
       have := (hinv.good _ h1).2; have := hb.size; omega))
      gi_wp2_with (refine ⟨trivial, ?_⟩; gi_at_call 106; refine (callsIn_wide.2 (skip_sum s hs' a t.size ht2' nx hnx _)).mono ?_; rintro e w1 ⟨rfl, rfl⟩)
      have hz3 := hk3.size
      have hz1 := hb.size
      rw [World.size_alloc] at hz3
      exact ⟨⟨pre ++ [⟨k, t, v, a, 0, 0⟩], nx, f, rfl, hnle, hid (by rw [HX'.out, hnx.out]), by omega, hJ3, hinv3, by omega⟩, by simp [intOf]; omega⟩
     ·gi_wp2
      refine bodyPost_ret (results_none rfl _ _ _) rfl ?_
      exact ⟨⟨_, rfl⟩, .inr ⟨pre ++ [⟨k, t, v, a, 0, 0⟩], ⟨_, HX'.out.symm⟩, hJx3⟩⟩
  ·have hit := items_end f s.data.toList a hlt
   have hx' : xs = pre := by rw [hx.out, hit, List.append_nil]
   have HX' := hid hx'
   clear hit hx' hx
   gi_wp2
   go_end0
   exact ⟨⟨_, rfl⟩, .inl ⟨_, HX'.out.symm, hJs⟩⟩
end Go.Proofs.YtejaboajgecpaaaGreatDoor.Tok
