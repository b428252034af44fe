/- Types as trees: a datatype for them, how they lie in memory, and that they go on lying so. -/
import Derived.Below
import Derived.Lib.Hide
import Derived.RangeFuncWrites
import Derived.WalkSmall
import Derived.WalkKit
namespace Go.Proofs.YtjmnaibbljakaaaGreatDoor
open Go.RowKit

inductive Ty where
  | mk (k p : Int) (n : ByteArray) (s : Int) (ls : List ByteArray) (ts : List Ty)
instance : Inhabited Ty := ⟨.mk 0 0 ⟨#[]⟩ 0 [] []⟩

namespace Ty
def k : Ty → Int | .mk k _ _ _ _ _ => k
def p : Ty → Int | .mk _ p _ _ _ _ => p
def n : Ty → ByteArray | .mk _ _ n _ _ _ => n
def s : Ty → Int | .mk _ _ _ s _ _ => s
def ls : Ty → List ByteArray | .mk _ _ _ _ ls _ => ls
def ts : Ty → List Ty | .mk _ _ _ _ _ ts => ts
end Ty

mutual
theorem Ty.ind {M : Ty → Prop} (h : ∀ k p n s ls ts, (∀ t ∈ ts, M t) → M (.mk k p n s ls ts)) : ∀ t, M t
  | .mk k p n s ls ts => h k p n s ls ts (Ty.inds h ts)
theorem Ty.inds {M : Ty → Prop} (h : ∀ k p n s ls ts, (∀ t ∈ ts, M t) → M (.mk k p n s ls ts)) : ∀ ts : List Ty, ∀ t ∈ ts, M t
  | [], _, hm => by cases hm
  | t :: r, u, hm => by
    rcases List.mem_cons.1 hm with e | hm
    · rw [e]; exact Ty.ind h t
    · exact Ty.inds h r u hm
end

/-! ### Measures -/
mutual
def Ty.size : Ty → Nat
  | .mk _ _ _ _ _ ts => Ty.sizes ts + 1
def Ty.sizes : List Ty → Nat
  | [] => 0
  | t :: r => t.size + Ty.sizes r
end
mutual
def Ty.depth : Ty → Nat
  | .mk _ _ _ _ _ ts => Ty.depths ts + 1
def Ty.depths : List Ty → Nat
  | [] => 0
  | t :: r => max t.depth (Ty.depths r)
end
theorem Ty.size_eq (t : Ty) : t.size = Ty.sizes t.ts + 1 := by cases t; simp [Ty.size, Ty.ts]
theorem Ty.depth_eq (t : Ty) : t.depth = Ty.depths t.ts + 1 := by cases t; simp [Ty.depth, Ty.ts]
theorem Ty.size_pos (t : Ty) : 1 ≤ t.size := by rw [Ty.size_eq]; omega
theorem Ty.depth_pos (t : Ty) : 1 ≤ t.depth := by rw [Ty.depth_eq]; omega
theorem Ty.sizes_append (l r : List Ty) : Ty.sizes (l ++ r) = Ty.sizes l + Ty.sizes r := by
  induction l with
  | nil => simp [Ty.sizes]
  | cons t l ih => simp only [List.cons_append, Ty.sizes, ih]; omega
theorem Ty.depths_append (l r : List Ty) : Ty.depths (l ++ r) = max (Ty.depths l) (Ty.depths r) := by
  induction l with
  | nil => simp [Ty.depths]
  | cons t l ih => simp only [List.cons_append, Ty.depths, ih]; omega
theorem take_snoc_get {α : Type} {l : List α} {i : Nat} {x : α} (h : l[i]? = some x) : l.take (i + 1) = l.take i ++ [x] := by
  rw [List.take_add_one, h]; rfl
theorem Ty.sizes_take {l : List Ty} {i : Nat} {t : Ty} (h : l[i]? = some t) : Ty.sizes (l.take (i + 1)) = Ty.sizes (l.take i) + t.size := by
  rw [take_snoc_get h, Ty.sizes_append]; simp [Ty.sizes]
theorem Ty.depths_take {l : List Ty} {i : Nat} {t : Ty} (h : l[i]? = some t) : Ty.depths (l.take (i + 1)) = max (Ty.depths (l.take i)) t.depth := by
  rw [take_snoc_get h, Ty.depths_append]; simp [Ty.depths]
theorem Ty.sizes_take_le (l : List Ty) (i : Nat) : Ty.sizes (l.take i) ≤ Ty.sizes l := by
  have := Ty.sizes_append (l.take i) (l.drop i); rw [List.take_append_drop] at this; omega
theorem Ty.depths_take_le (l : List Ty) (i : Nat) : Ty.depths (l.take i) ≤ Ty.depths l := by
  have := Ty.depths_append (l.take i) (l.drop i); rw [List.take_append_drop] at this; omega
theorem Ty.depth_mem {l : List Ty} {t : Ty} (h : t ∈ l) : t.depth ≤ Ty.depths l := by
  induction l with
  | nil => cases h
  | cons u l ih =>
    simp only [Ty.depths]
    rcases List.mem_cons.1 h with rfl | h
    · omega
    · have := ih h; omega
theorem Ty.size_mem {l : List Ty} {t : Ty} (h : t ∈ l) : t.size ≤ Ty.sizes l := by
  induction l with
  | nil => cases h
  | cons u l ih =>
    simp only [Ty.sizes]
    rcases List.mem_cons.1 h with rfl | h
    · omega
    · have := ih h; omega
theorem Ty.length_sizes (l : List Ty) : l.length ≤ Ty.sizes l := by
  induction l with
  | nil => simp
  | cons u l ih => simp only [Ty.sizes, List.length_cons]; have := u.size_pos; omega

/-! ### In memory -/
/-- Texts lie from cell o of block b on. -/
def StrRow (w : World) (b o : Nat) (ls : List ByteArray) : Prop := ∀ (j : Nat) (s : ByteArray), ls[j]? = some s → w.cell? ⟨b, o + j, none⟩ = some (.string s)
/-- A value that is a slice of texts, below block B. -/
def StrSl (B : Nat → Prop) (w : World) (v : Value) (ls : List ByteArray) : Prop :=
  (((∃ a c, v = .slice a 0 c) ∧ ls = []) ∨ ∃ b o c, v = .slice (some ⟨b, o, none⟩) ls.length c ∧ B b ∧ ls.length ≤ c ∧ StrRow w b o ls) ∧ ls.length ≤ maxLen ∧ ∀ s ∈ ls, s.size ≤ maxLen

mutual
/-- A type lies at cell o of block b. -/
def TyAt (B : Nat → Prop) (w : World) : Ty → Nat → Nat → Prop
  | .mk k p n s ls ts, b, o => B b ∧ n.size ≤ maxLen ∧
      (w.cell? ⟨b, o, none⟩ = some (.int .i64 k) ∧ w.cell? ⟨b, o + 1, none⟩ = some (.int .i64 p) ∧ w.cell? ⟨b, o + 2, none⟩ = some (.string n) ∧ w.cell? ⟨b, o + 3, none⟩ = some (.int .i64 s)) ∧
      ∃ lv kv, w.cell? ⟨b, o + 4, none⟩ = some lv ∧ w.cell? ⟨b, o + 5, none⟩ = some kv ∧ StrSl B w lv ls ∧
        (((∃ a c, kv = .slice a 0 c) ∧ ts = []) ∨ ∃ kb ko c, kv = .slice (some ⟨kb, ko, none⟩) ts.length c ∧ B kb ∧ TysAt B w ts kb ko) ∧ ts.length ≤ maxLen
/-- Types lie one behind the other from cell o of block b on. -/
def TysAt (B : Nat → Prop) (w : World) : List Ty → Nat → Nat → Prop
  | [], _, _ => True
  | t :: r, b, o => TyAt B w t b o ∧ TysAt B w r b (o + 6)
end
/-- A value that is a slice of types. -/
def TySl (B : Nat → Prop) (w : World) (kv : Value) (ts : List Ty) : Prop :=
  (((∃ a c, kv = .slice a 0 c) ∧ ts = []) ∨ ∃ kb ko c, kv = .slice (some ⟨kb, ko, none⟩) ts.length c ∧ B kb ∧ TysAt B w ts kb ko) ∧ ts.length ≤ maxLen
/-- A value that is a type. -/
def TyVal (B : Nat → Prop) (w : World) (v : Value) (t : Ty) : Prop :=
  ∃ lv kv, v = .agg #[.int .i64 t.k, .int .i64 t.p, .string t.n, .int .i64 t.s, lv, kv] ∧ t.n.size ≤ maxLen ∧ StrSl B w lv t.ls ∧ TySl B w kv t.ts

theorem TyAt.eq {B : Nat → Prop} {w : World} {t : Ty} {b o : Nat} : TyAt B w t b o ↔ B b ∧ t.n.size ≤ maxLen ∧
      (w.cell? ⟨b, o, none⟩ = some (.int .i64 t.k) ∧ w.cell? ⟨b, o + 1, none⟩ = some (.int .i64 t.p) ∧ w.cell? ⟨b, o + 2, none⟩ = some (.string t.n) ∧ w.cell? ⟨b, o + 3, none⟩ = some (.int .i64 t.s)) ∧
      ∃ lv kv, w.cell? ⟨b, o + 4, none⟩ = some lv ∧ w.cell? ⟨b, o + 5, none⟩ = some kv ∧ StrSl B w lv t.ls ∧ TySl B w kv t.ts := by
  cases t; simp only [TyAt, TySl, Ty.k, Ty.p, Ty.n, Ty.s, Ty.ls, Ty.ts]

/-- Whatever is cells below B lies as it lay. -/
def Keeps (B : Nat → Prop) (w w' : World) : Prop := ∀ (k : Nat) (o : Obj), B k → w.heap[k]? = some o → o.isCells = true → w'.heap[k]? = some o
theorem Keeps.refl (B : Nat → Prop) (w : World) : Keeps B w w := fun _ _ _ h _ => h
theorem Keeps.trans {B : Nat → Prop} {a b c : World} (h : Keeps B a b) (g : Keeps B b c) : Keeps B a c := fun k o hk ho hc => g k o hk (h k o hk ho hc) hc
theorem Keeps.mono {B C : Nat → Prop} {a b : World} (h : Keeps B a b) (hc : ∀ k, C k → B k) : Keeps C a b := fun k o hk ho h' => h k o (hc k hk) ho h'
theorem Keeps.cell {B : Nat → Prop} {w w' : World} (h : Keeps B w w') {b o : Nat} {v : Value} (hb : B b) (hv : w.cell? ⟨b, o, none⟩ = some v) : w'.cell? ⟨b, o, none⟩ = some v := by
  unfold World.cell? at hv ⊢
  cases ho : w.heap[b]? with
  | none => simp [ho] at hv
  | some ob =>
    cases ob with
    | cells cs t fr =>
      have := h b _ hb ho rfl
      simp only [ho] at hv
      simp only [this]; exact hv
    | _ => simp [ho] at hv
theorem _root_.Go.RowKit.Below.keeps' {n : Nat} {w w' : World} (h : Below n w w') : Keeps (fun k => k < n) w w' := fun k _ hk ho _ => (h.block k hk).trans ho

/-- All blocks of B lie in w. -/
def Low (B : Nat → Prop) (w : World) : Prop := ∀ k, B k → k < w.heap.size
theorem Low.le {B : Nat → Prop} {w w' : World} (h : Low B w) (hs : w.heap.size ≤ w'.heap.size) : Low B w' := fun k hk => Nat.lt_of_lt_of_le (h k hk) hs
theorem blkBelow (w : World) (cs : Array Value) (t : TypeId) : Below w.heap.size w (w.alloc (.cells cs t)) := (Below.refl _ _).alloc (Nat.le_refl _) _
theorem blk_cell {w wr : World} {cs : Array Value} {t : TypeId} (hb : Below (w.heap.size + 1) (w.alloc (.cells cs t)) wr) (j : Nat) {v : Value} (h : cs[j]? = some v) : wr.cell? ⟨w.heap.size, j, none⟩ = some v :=
  (hb.cell (p := ⟨w.heap.size, j, none⟩) (Nat.lt_succ_self _)).trans (by simp [h])
theorem blk_below {w wr : World} {cs : Array Value} {t : TypeId} (hb : Below (w.heap.size + 1) (w.alloc (.cells cs t)) wr) : Below w.heap.size w wr := (blkBelow w cs t).trans (hb.mono (Nat.le_succ _))

/-- The world, some answers further. -/
def Drew (w wr : World) : Prop := ∃ nq, wr = w.drewN nq
theorem Drew.refl (w : World) : Drew w w := ⟨0, rfl⟩
theorem Drew.more {w wr : World} (h : Drew w wr) (n : Nat) : Drew w (wr.drewN n) := by
  obtain ⟨m, rfl⟩ := h; exact ⟨m + n, by rw [World.drewN_drewN]⟩
theorem Drew.trans {a b c : World} (h : Drew a b) (g : Drew b c) : Drew a c := by
  obtain ⟨m, rfl⟩ := g; exact h.more m
theorem Drew.below {w wr : World} (h : Drew w wr) (B : Nat) : Below B w wr := by
  obtain ⟨m, rfl⟩ := h; exact below_drewN (Below.refl _ _) m
theorem below_seq {a b c : World} (h : Below a.heap.size a b) (k : Below b.heap.size b c) : Below a.heap.size a c := h.trans (k.mono h.size)
theorem bcell {W w1 : World} (hb : Below W.heap.size W w1) : (∀ b o, b < W.heap.size → w1.cell? ⟨b, o, none⟩ = W.cell? ⟨b, o, none⟩) ∧ (∀ b o, b < W.heap.size → w1.frozen? ⟨b, o, none⟩ = W.frozen? ⟨b, o, none⟩) :=
  ⟨fun b o h => hb.cell (p := ⟨b, o, none⟩) h, fun b o h => hb.frozen (p := ⟨b, o, none⟩) h⟩
theorem StrSl.keep {B : Nat → Prop} {w w' : World} (h : Keeps B w w') {v : Value} {ls : List ByteArray} (hv : StrSl B w v ls) : StrSl B w' v ls := by
  refine ⟨?_, hv.2⟩
  rcases hv.1 with h1 | ⟨b, o, c, h1, h2, hc, h3⟩
  · exact .inl h1
  · exact .inr ⟨b, o, c, h1, h2, hc, fun j s hj => h.cell h2 (h3 j s hj)⟩
mutual
theorem TyAt.keep {B : Nat → Prop} {w w' : World} (h : Keeps B w w') : ∀ (t : Ty) (b o : Nat), TyAt B w t b o → TyAt B w' t b o
  | .mk k p n s ls ts, b, o, ht => by
    simp only [TyAt] at ht ⊢
    obtain ⟨hb, hn, ⟨c0, c1, c2, c3⟩, lv, kv, c4, c5, hl, hk, hm⟩ := ht
    refine ⟨hb, hn, ⟨h.cell hb c0, h.cell hb c1, h.cell hb c2, h.cell hb c3⟩, lv, kv, h.cell hb c4, h.cell hb c5, hl.keep h, ?_, hm⟩
    rcases hk with h1 | ⟨kb, ko, c, h1, h2, h3⟩
    · exact .inl h1
    · exact .inr ⟨kb, ko, c, h1, h2, TysAt.keep h ts kb ko h3⟩
theorem TysAt.keep {B : Nat → Prop} {w w' : World} (h : Keeps B w w') : ∀ (ts : List Ty) (b o : Nat), TysAt B w ts b o → TysAt B w' ts b o
  | [], _, _, _ => by simp [TysAt]
  | t :: r, b, o, ht => by
    simp only [TysAt] at ht ⊢
    exact ⟨TyAt.keep h t b o ht.1, TysAt.keep h r b (o + 6) ht.2⟩
end
theorem TySl.keep {B : Nat → Prop} {w w' : World} (h : Keeps B w w') {v : Value} {ts : List Ty} (hv : TySl B w v ts) : TySl B w' v ts := by
  refine ⟨?_, hv.2⟩
  rcases hv.1 with h1 | ⟨b, o, c, h1, h2, h3⟩
  · exact .inl h1
  · exact .inr ⟨b, o, c, h1, h2, TysAt.keep h _ _ _ h3⟩
theorem TyVal.keep {B : Nat → Prop} {w w' : World} (h : Keeps B w w') {v : Value} {t : Ty} (hv : TyVal B w v t) : TyVal B w' v t := by
  obtain ⟨lv, kv, e, hn, hl, hk⟩ := hv
  exact ⟨lv, kv, e, hn, hl.keep h, hk.keep h⟩

theorem StrSl.mono {B C : Nat → Prop} {w : World} (h : ∀ k, B k → C k) {v : Value} {ls : List ByteArray} (hv : StrSl B w v ls) : StrSl C w v ls := by
  refine ⟨?_, hv.2⟩
  rcases hv.1 with h1 | ⟨b, o, c, h1, h2, hc, h3⟩
  · exact .inl h1
  · exact .inr ⟨b, o, c, h1, h _ h2, hc, h3⟩
mutual
theorem TyAt.mono {B C : Nat → Prop} {w : World} (h : ∀ k, B k → C k) : ∀ (t : Ty) (b o : Nat), TyAt B w t b o → TyAt C w t b o
  | .mk k p n s ls ts, b, o, ht => by
    simp only [TyAt] at ht ⊢
    obtain ⟨hb, hn, hc, lv, kv, c4, c5, hl, hk, hm⟩ := ht
    refine ⟨h _ hb, hn, hc, lv, kv, c4, c5, hl.mono h, ?_, hm⟩
    rcases hk with h1 | ⟨kb, ko, c, h1, h2, h3⟩
    · exact .inl h1
    · exact .inr ⟨kb, ko, c, h1, h _ h2, TysAt.mono h ts kb ko h3⟩
theorem TysAt.mono {B C : Nat → Prop} {w : World} (h : ∀ k, B k → C k) : ∀ (ts : List Ty) (b o : Nat), TysAt B w ts b o → TysAt C w ts b o
  | [], _, _, _ => by simp [TysAt]
  | t :: r, b, o, ht => by
    simp only [TysAt] at ht ⊢
    exact ⟨TyAt.mono h t b o ht.1, TysAt.mono h r b (o + 6) ht.2⟩
end
theorem TySl.mono {B C : Nat → Prop} {w : World} (h : ∀ k, B k → C k) {v : Value} {ts : List Ty} (hv : TySl B w v ts) : TySl C w v ts := by
  refine ⟨?_, hv.2⟩
  rcases hv.1 with h1 | ⟨b, o, c, h1, h2, h3⟩
  · exact .inl h1
  · exact .inr ⟨b, o, c, h1, h _ h2, TysAt.mono h _ _ _ h3⟩
theorem TyVal.mono {B C : Nat → Prop} {w : World} (h : ∀ k, B k → C k) {v : Value} {t : Ty} (hv : TyVal B w v t) : TyVal C w v t := by
  obtain ⟨lv, kv, e, hn, hl, hk⟩ := hv
  exact ⟨lv, kv, e, hn, hl.mono h, hk.mono h⟩
theorem TyVal.to {B : Nat → Prop} {C : Nat} {w w' : World} (hBC : ∀ k, B k → k < C) (hb : Below C w w') {v : Value} {t : Ty} (hv : TyVal B w v t) : TyVal B w' v t := hv.keep (hb.keeps'.mono hBC)

theorem TysAt.get {B : Nat → Prop} {w : World} : ∀ {ts : List Ty} {b o : Nat}, TysAt B w ts b o → ∀ {i : Nat} {t : Ty}, ts[i]? = some t → TyAt B w t b (o + i * 6)
  | [], _, _, _, i, t, hi => by simp at hi
  | u :: r, b, o, h, i, t, hi => by
    simp only [TysAt] at h
    cases i with
    | zero => simp at hi; subst hi; simpa using h.1
    | succ i =>
      have := TysAt.get h.2 (i := i) (t := t) (by simpa using hi)
      rw [show o + (i + 1) * 6 = o + 6 + i * 6 by omega]; exact this
theorem TySl.open {B : Nat → Prop} {w : World} {kv : Value} {ts : List Ty} (h : TySl B w kv ts) :
    ∃ pa len c, kv = .slice pa len c ∧ Hid (len = ts.length) ∧ len ≤ 9223372036854775807 ∧ ∀ i t, ts[i]? = some t → ∃ kb ko, pa = some ⟨kb, ko, none⟩ ∧ B kb ∧ TyAt B w t kb (ko + i * 6) := by
  obtain ⟨h, hm⟩ := h
  unfold maxLen at hm
  rcases h with ⟨⟨a, c, rfl⟩, rfl⟩ | ⟨kb, ko, c, rfl, hkb, hrow⟩
  · exact ⟨a, 0, c, rfl, Lib.hid rfl, by omega, fun i t hi => by simp at hi⟩
  · exact ⟨_, _, _, rfl, Lib.hid rfl, by omega, fun i t hi => ⟨kb, ko, rfl, hkb, hrow.get hi⟩⟩
theorem StrSl.open {B : Nat → Prop} {w : World} {v : Value} {ls : List ByteArray} (h : StrSl B w v ls) :
    ∃ pa len c, v = .slice pa len c ∧ Hid (len = ls.length) ∧ len ≤ 9223372036854775807 ∧ ∀ i s, ls[i]? = some s → s.size ≤ maxLen ∧ ∃ kb ko, pa = some ⟨kb, ko, none⟩ ∧ B kb ∧ w.cell? ⟨kb, ko + i, none⟩ = some (.string s) := by
  obtain ⟨h, hm, hz⟩ := h
  unfold maxLen at hm
  rcases h with ⟨⟨a, c, rfl⟩, rfl⟩ | ⟨b, o, c, rfl, hb, _, hrow⟩
  · exact ⟨a, 0, c, rfl, Lib.hid rfl, by omega, fun i t hi => by simp at hi⟩
  · exact ⟨_, _, _, rfl, Lib.hid rfl, by omega, fun i t hi => ⟨hz _ (List.mem_of_getElem? hi), b, o, rfl, hb, hrow i t hi⟩⟩
theorem StrSl.cap_le {B : Nat → Prop} {w : World} {pa : Option Addr} {n c : Nat} {ls : List ByteArray} (h : StrSl B w (.slice pa n c) ls) : n ≤ c := by
  rcases h.1 with ⟨⟨_, _, e⟩, _⟩ | ⟨b, o, c', e, _, hc, _⟩
  · simp only [Value.slice.injEq] at e; omega
  · simp only [Value.slice.injEq] at e; omega
/-- A list of texts: nil, or a slice with an address. -/
theorem StrSl.parts {B : Nat → Prop} {w : World} {v : Value} {ls : List ByteArray} (h : StrSl B w v ls) : (∃ c, v = .slice none 0 c ∧ ls = []) ∨
    ∃ ad c, v = .slice (some ad) ls.length c ∧ ∀ k x, ls[k]? = some x → ∃ g o, ad = ⟨g, o, none⟩ ∧ B g ∧ w.cell? ⟨g, o + k, none⟩ = some (.string x) := by
  rcases h.1 with ⟨⟨a, c, rfl⟩, rfl⟩ | ⟨b, o, c, rfl, hb, _, hrow⟩
  · cases a with
    | none => exact .inl ⟨c, rfl, rfl⟩
    | some ad => exact .inr ⟨ad, c, rfl, fun k x hx => by simp at hx⟩
  · exact .inr ⟨_, c, rfl, fun k x hx => ⟨b, o, rfl, hb, hrow k x hx⟩⟩
theorem TySl.parts {B : Nat → Prop} {w : World} {v : Value} {ts : List Ty} (h : TySl B w v ts) : (∃ c, v = .slice none 0 c ∧ ts = []) ∨
    ∃ ad c, v = .slice (some ad) ts.length c ∧ ∀ k t, ts[k]? = some t → ∃ g o, ad = ⟨g, o, none⟩ ∧ B g ∧ TyAt B w t g (o + k * 6) := by
  rcases h.1 with ⟨⟨a, c, rfl⟩, rfl⟩ | ⟨b, o, c, rfl, hb, hrow⟩
  · cases a with
    | none => exact .inl ⟨c, rfl, rfl⟩
    | some ad => exact .inr ⟨ad, c, rfl, fun k x hx => by simp at hx⟩
  · exact .inr ⟨_, c, rfl, fun k t ht => ⟨b, o, rfl, hb, hrow.get ht⟩⟩
/-- The cells of a type, and the value that is loaded. -/
theorem TyAt.load {B : Nat → Prop} {w : World} {t : Ty} {b o : Nat} (h : TyAt B w t b o) :
    ∃ lv kv, (w.cell? ⟨b, o, none⟩ = some (.int .i64 t.k) ∧ w.cell? ⟨b, o + 1, none⟩ = some (.int .i64 t.p) ∧ w.cell? ⟨b, o + 2, none⟩ = some (.string t.n) ∧ w.cell? ⟨b, o + 3, none⟩ = some (.int .i64 t.s) ∧
      w.cell? ⟨b, o + 4, none⟩ = some lv ∧ w.cell? ⟨b, o + 5, none⟩ = some kv) ∧ TyVal B w (.agg #[.int .i64 t.k, .int .i64 t.p, .string t.n, .int .i64 t.s, lv, kv]) t := by
  obtain ⟨_, hn, ⟨c0, c1, c2, c3⟩, lv, kv, c4, c5, hl, hk⟩ := TyAt.eq.1 h
  exact ⟨lv, kv, ⟨c0, c1, c2, c3, c4, c5⟩, lv, kv, rfl, hn, hl, hk⟩

/-- The same, the two slices written out. -/
theorem TyAt.load' {B : Nat → Prop} {w : World} {t : Ty} {b o : Nat} (h : TyAt B w t b o) :
    ∃ (la : Option Addr) (ln lc : Nat) (ka : Option Addr) (kn kc : Nat), (w.cell? ⟨b, o, none⟩ = some (.int .i64 t.k) ∧ w.cell? ⟨b, o + 1, none⟩ = some (.int .i64 t.p) ∧ w.cell? ⟨b, o + 2, none⟩ = some (.string t.n) ∧ w.cell? ⟨b, o + 3, none⟩ = some (.int .i64 t.s) ∧
      w.cell? ⟨b, o + 4, none⟩ = some (.slice la ln lc) ∧ w.cell? ⟨b, o + 5, none⟩ = some (.slice ka kn kc)) ∧ TyVal B w (.agg #[.int .i64 t.k, .int .i64 t.p, .string t.n, .int .i64 t.s, .slice la ln lc, .slice ka kn kc]) t := by
  obtain ⟨lv, kv, hc, hv⟩ := h.load
  obtain ⟨lv', kv', e, hn, hl, hk⟩ := hv
  obtain ⟨la, ln, lc, el, _⟩ := hl.open
  obtain ⟨ka, kn, kc, ek, _⟩ := hk.open
  simp only [Value.agg.injEq, Array.mk.injEq, List.cons.injEq, and_true, true_and] at e
  obtain ⟨rfl, rfl⟩ := e
  subst el ek
  exact ⟨la, ln, lc, ka, kn, kc, hc, _, _, rfl, hn, hl, hk⟩

end Go.Proofs.YtjmnaibbljakaaaGreatDoor
