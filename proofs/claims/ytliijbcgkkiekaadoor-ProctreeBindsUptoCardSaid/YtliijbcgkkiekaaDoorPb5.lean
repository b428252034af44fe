/- Types: recsInFront and Unfold, where one TRec stands in front. (and what follows from it) -/
import Derived.Test.YtliijbcgkkiekaaDoorPb4
import Derived.RangeFuncNested
import Derived.RangeFuncBound
import Derived.RangeFuncCalls
import Derived.RangeFuncLeaves
import Derived.RangeFuncBox
import Derived.Shelf.RegionOpen
import Derived.OwnWalkIn
import Derived.TacticsInMore
import Derived.LoopNIn
import Derived.LoopIn
import Derived.Maps.OwnIn
import Derived.ArgAppend

/- Types: recsInFront and Unfold, where one TRec stands in front. -/
namespace Go.Proofs.YtliijbcgkkiekaaDoor
open Go.RowKit Go.Deep Go.Shelf

/-- Between two rounds of recsInFront. -/
def RecI (w : World) (o : Obj) (b : Ty) (la : Option Addr) (ln lc : Nat) (ka : Option Addr) (kn kc : Nat) (m : Nat) (wr : World) : Prop :=
  (m = 0 ∧ wr = w.alloc o) ∨ (m = 1 ∧ Six wr w.heap.size (.int .i64 b.k) (.int .i64 b.p) (.string b.n) (.int .i64 b.s) (.slice la ln lc) (.slice ka kn kc) ∧ Below w.heap.size w wr)

set_option maxHeartbeats 1000000 in
set_option maxRecDepth 100000 in
theorem recs_one (B : Nat → Prop) (p s : Int) (n : ByteArray) (ls : List ByteArray) (b : Ty) (hb8 : b.k ≠ 8) (v : Value) (w : World) (hB : Low B w) (hv : TyVal B w v (.mk 8 p n s ls [b])) :
    Calls Tryd.prog 76 #[v] w fun e w' => e = .returned (.int .i64 1) ∧ Below w.heap.size w w' := by
  obtain ⟨lv, kv, rfl, _, hl, hk⟩ := hv
  dsimp only [Ty.k, Ty.p, Ty.n, Ty.s, Ty.ls, Ty.ts] at hl hk ⊢
  obtain ⟨l1, l2, l3, rfl, _⟩ := hl.open
  obtain ⟨pa, len, c, rfl, hlen, _, hget⟩ := hk.open
  have hl1 : len = 1 := by rw [hlen.out]; rfl
  subst hl1
  obtain ⟨kb, ko, rfl, hkb, hty⟩ := hget 0 b rfl
  have h6 := Six.new w (.int .i64 8) (.int .i64 p) (.string n) (.int .i64 s) (.slice l1 l2 l3) (.slice (some ⟨kb, ko, none⟩) 1 c)
  obtain ⟨la, ln, lc, ka, kn, kc, ⟨a0, a1, a2, a3, a4, a5⟩, hval⟩ := (hty.keep ((blkBelow w #[.int .i64 8, .int .i64 p, .string n, .int .i64 s, .slice l1 l2 l3, .slice (some ⟨kb, ko, none⟩) 1 c] 25).keeps'.mono hB)).load'
  simp only [Nat.zero_mul, Nat.add_zero] at a0 a1 a2 a3 a4 a5
  have h8 : (b.k == 8) = false := by simpa using hb8
  have H6 := Lib.hid h6
  clear h6 hget hlen hl hk hb8
  go_enter Tryd.func76, Tryd.ntmps76
  go_wp2_with fail
  go_loopw [3] (fun i wr => ∃ m : Nat, i = .int .i64 m ∧ RecI w (cell6 8 p n s (.slice l1 l2 l3) (.slice (some ⟨kb, ko, none⟩) 1 c)) b la ln lc ka kn kc m wr) (fun i _ => 2 - (intOf i).toNat)
  case atStart => exact ⟨0, rfl, .inl ⟨rfl, rfl⟩⟩
  case round =>
    obtain ⟨m, rfl, hm⟩ := hrel
    rcases hm with ⟨rfl, rfl⟩ | ⟨rfl, h6, hb⟩
    · obtain ⟨⟨c0, c1, c2, c3, c4, c5⟩, hf⟩ := H6.out.cells
      go_wp2_with fail
      go_roundw
      case rel => exact ⟨1, rfl, .inr ⟨rfl, Six.new w _ _ _ _ _ _, blkBelow w _ _⟩⟩
      case measure => simp [intOf]
    · obtain ⟨⟨c0, c1, c2, c3, c4, c5⟩, hf⟩ := h6.cells
      clear a0 a1 a2 a3 a4 a5
      go_wp2_with fail
      go_ret
      exact ⟨rfl, hb⟩

theorem TyVal.drew {B : Nat → Prop} {w : World} {v : Value} {t : Ty} (h : TyVal B w v t) : TyVal B w.drew v t := TyVal.keep (w := w) (w' := w.drew) (fun _ _ _ h _ => h) h
/-- Between two rounds of Unfold. -/
def UnfI (w w5 : World) (lo : Nat) (g : Ty) (m : Nat) (wr : World) : Prop :=
  (m = 0 ∧ wr = w5) ∨ (m = 1 ∧ ∃ la ln lc ka kn kc, Six wr lo (.int .i64 g.k) (.int .i64 g.p) (.string g.n) (.int .i64 g.s) (.slice la ln lc) (.slice ka kn kc) ∧
    TyVal (Fresh (lo + 1) wr.heap.size) wr (.agg #[.int .i64 g.k, .int .i64 g.p, .string g.n, .int .i64 g.s, .slice la ln lc, .slice ka kn kc]) g ∧
    Six wr (w.heap.size + 1) (.int .i64 0) (.int .i64 0) (.string ⟨#[]⟩) (.int .i64 0) (.slice none 0 0) (.slice none 0 0) ∧ Below w.heap.size w wr)

set_option maxHeartbeats 1000000 in
set_option maxRecDepth 100000 in
theorem unfold_one (B : Nat → Prop) (p s : Int) (n : ByteArray) (ls : List ByteArray) (b : Ty) (hb8 : b.k ≠ 8) (hm : (Ty.mk 8 p n s ls [b]).mod) (v : Value) (w : World) (hB : Low B w) (hv : TyVal B w v (.mk 8 p n s ls [b])) :
    Calls Tryd.prog 45 #[v] w (TyRet w (Ty.put n (.mk 8 p n s ls [b]) b)) := by
  have hv' := hv
  obtain ⟨lv, kv, rfl, _⟩ := hv'
  dsimp only [Ty.k, Ty.p, Ty.n, Ty.s] at hv ⊢
  have hb0 := box2_below w (cell6 8 p n s lv kv) (cell6 0 0 ⟨#[]⟩ 0 (.slice none 0 0) (.slice none 0 0))
  obtain ⟨s0, s1⟩ := Six.two w (.int .i64 8) (.int .i64 p) (.string n) (.int .i64 s) lv kv (.int .i64 0) (.int .i64 0) (.string ⟨#[]⟩) (.int .i64 0) (.slice none 0 0) (.slice none 0 0)
  have HC := Lib.hid (copy_any B _ hm _ _ (hB.le hb0.size) (hv.to hB hb0))
  have S0 := Lib.hid s0
  have S1 := Lib.hid s1
  have HB0 := Lib.hid hb0
  have HV := Lib.hid hv
  clear s0 s1 hb0 hv
  go_enter Tryd.func45, Tryd.ntmps45
  go_wp2_with fail
  refine HC.out.mono ?_
  rintro e w3 ⟨la, ln, lc, ka, kn, kc, rfl, hv3, hb3⟩
  dsimp only [Ty.k, Ty.p, Ty.n, Ty.s] at hv3 ⊢
  have hz3 : w.heap.size + 2 ≤ w3.heap.size := by have := hb3.size; simp at this; omega
  have hbx := blkBelow w3 #[.int .i64 8, .int .i64 p, .string n, .int .i64 s, .slice la ln lc, .slice ka kn kc] 25
  have h6 := Six.new w3 (.int .i64 8) (.int .i64 p) (.string n) (.int .i64 s) (.slice la ln lc) (.slice ka kn kc)
  have hsz4 : (w3.alloc (.cells #[.int .i64 8, .int .i64 p, .string n, .int .i64 s, .slice la ln lc, .slice ka kn kc] 25)).heap.size = w3.heap.size + 1 := by simp
  obtain ⟨w4, hw4⟩ : ∃ w4, w3.alloc (.cells #[.int .i64 8, .int .i64 p, .string n, .int .i64 s, .slice la ln lc, .slice ka kn kc] 25) = w4 := ⟨_, rfl⟩
  rw [hw4] at hbx h6 hsz4
  obtain ⟨⟨c0, c1, c2, c3, c4, c5⟩, hf0⟩ := ((S0.out.to hb3).to hbx).cells
  have HS1 := Lib.hid ((S1.out.to hb3).to hbx)
  have HV3 := Lib.hid (hv3.to (fun k hk => hk.2) hbx)
  have HB4 := Lib.hid (below_seq (below_seq HB0.out hb3) hbx)
  have HR := Lib.hid (recs_one B p s n ls b hb8 _ w4 (hB.le HB4.out.size) (HV.out.to hB HB4.out))
  have H6 := Lib.hid h6
  have HZ := Lib.hid hsz4
  clear hv3 hb3 hbx h6 hsz4
  go_wp2_with (go_at_call 76; refine HR.out.mono ?_; rintro e w5 ⟨rfl, hb5⟩)
  clear hw4 c0 c1 c2 c3 c4 c5 hf0
  have S15 := Lib.hid (HS1.out.to hb5)
  have H65 := Lib.hid (H6.out.to hb5)
  have HW5 := Lib.hid (below_seq HB4.out hb5)
  have hlo : w3.heap.size + 1 ≤ w5.heap.size := by have := hb5.size; have := HZ.out; omega
  have ht5 := HV3.out.to (fun k hk => by have := hk.2; have := HZ.out; omega) hb5
  obtain ⟨lv', kv', he, _, _, hks⟩ := ht5
  simp only [Value.agg.injEq, Array.mk.injEq, List.cons.injEq, and_true, Ty.k, Ty.p, Ty.n, Ty.s, true_and] at he
  obtain ⟨rfl, rfl⟩ := he
  obtain ⟨pa, len, c, he, hlen, _, hget⟩ := hks.open
  simp only [Value.slice.injEq] at he
  obtain ⟨rfl, rfl, rfl⟩ := he
  have hl1 : kn = 1 := by rw [hlen.out]; rfl
  subst hl1
  obtain ⟨kb, ko, rfl, hkb, hty⟩ := hget 0 b rfl
  obtain ⟨la', ln', lc', ka', kn', kc', ⟨a0, a1, a2, a3, a4, a5⟩, hval⟩ := hty.load'
  simp only [Nat.zero_mul, Nat.add_zero] at a0 a1 a2 a3 a4 a5
  have hlow : Low (Fresh ((w.alloc (cell6 8 p n s lv kv)).alloc (cell6 0 0 ⟨#[]⟩ 0 (.slice none 0 0) (.slice none 0 0))).heap.size w3.heap.size) w5.drew := fun k hk => by have := hk.2; show k < w5.heap.size; omega
  have HP := Lib.hid (replace_any _ n (.mk 8 p n s ls [b]) hm b (by simp only [Ty.mod, Ty.mods] at hm; exact hm.2.2.2.2.1) _ _ w5.drew hlow hval.drew ((HV3.out.to (fun k hk => by have := hk.2; have := HZ.out; omega) hb5).drew))
  dsimp only [Ty.k, Ty.p, Ty.n, Ty.s] at HP
  obtain ⟨g, hg⟩ : ∃ g, Ty.put n (.mk 8 p n s ls [b]) b = g := ⟨_, rfl⟩
  rw [hg] at HP
  have HG := Lib.hid hg
  clear hg hty hval hget hlen hks hlow hm hb8 hb5
  go_loopw [8] (fun i wr => ∃ m : Nat, i = .int .i64 m ∧ UnfI w w5 w3.heap.size g m wr) (fun i _ => 2 - (intOf i).toNat)
  case atStart => exact ⟨0, rfl, .inl ⟨rfl, rfl⟩⟩
  case round =>
    obtain ⟨m, rfl, hm⟩ := hrel
    rcases hm with ⟨rfl, hw⟩ | ⟨rfl, la2, ln2, lc2, ka2, kn2, kc2, h6, hvg, h1, hb⟩
    · rw [hw]
      clear hw
      obtain ⟨⟨c0, c1, c2, c3, c4, c5⟩, hf⟩ := H65.out.cells
      go_wp2_with fail
      go_still_tail 7, (by kernel_rfl)
      change wpList _ _ _ _ _ w5.drew
      clear c0 c1 c2 c3 c4 c5 hf a0 a1 a2 a3 a4 a5
      have h65 : Six w5.drew w3.heap.size (.int .i64 8) (.int .i64 p) (.string n) (.int .i64 s) (.slice la ln lc) (.slice (some ⟨kb, ko, none⟩) 1 kc) := H65.out
      have h15 : Six w5.drew (w.heap.size + 1) (.int .i64 0) (.int .i64 0) (.string ⟨#[]⟩) (.int .i64 0) (.slice none 0 0) (.slice none 0 0) := S15.out
      have hw5 : Below w.heap.size w w5.drew := HW5.out.drew
      have hlo' : w3.heap.size + 1 ≤ w5.drew.heap.size := hlo
      generalize w5.drew = w6 at *
      have H66 := Lib.hid h65
      have H16 := Lib.hid h15
      have HW6 := Lib.hid hw5
      clear h65 h15 hw5
      go_wp2_with fail
      refine HP.out.mono ?_
      rintro e w7 ⟨la2, ln2, lc2, ka2, kn2, kc2, rfl, hv7, hb7⟩
      obtain ⟨⟨c0, c1, c2, c3, c4, c5⟩, hf⟩ := (H66.out.to hb7).cells
      have HF := Lib.hid ((H66.out.to hb7).fill (.int .i64 g.k) (.int .i64 g.p) (.string g.n) (.int .i64 g.s) (.slice la2 ln2 lc2) (.slice ka2 kn2 kc2))
      have hab := (Above.refl w6.heap.size w7).fill (c := w3.heap.size) (by omega) (.int .i64 g.k) (.int .i64 g.p) (.string g.n) (.int .i64 g.s) (.slice la2 ln2 lc2) (.slice ka2 kn2 kc2)
      have HV7 := Lib.hid ((hv7.keep hab.keeps).mono (Fresh.mono (c := w3.heap.size + 1) hlo' hab.size))
      have HB7 := Lib.hid (below_fill (c := w3.heap.size) (below_seq HW6.out hb7) (by omega) (.int .i64 g.k) (.int .i64 g.p) (.string g.n) (.int .i64 g.s) (.slice la2 ln2 lc2) (.slice ka2 kn2 kc2))
      have HS7 := Lib.hid (((((((H16.out.to hb7).other (c := w3.heap.size) (o := 0) (by omega) (.int .i64 g.k)).other (c := w3.heap.size) (o := 1) (by omega) (.int .i64 g.p)).other (c := w3.heap.size) (o := 2) (by omega) (.string g.n)).other (c := w3.heap.size) (o := 3) (by omega) (.int .i64 g.s)).other (c := w3.heap.size) (o := 4) (by omega) (.slice la2 ln2 lc2)).other (c := w3.heap.size) (o := 5) (by omega) (.slice ka2 kn2 kc2))
      clear hv7 hb7 hab
      go_wp2_with fail
      go_roundw
      case rel => exact ⟨1, rfl, .inr ⟨rfl, la2, ln2, lc2, ka2, kn2, kc2, HF.out, HV7.out, HS7.out, HB7.out⟩⟩
      case measure => simp [intOf]
    · obtain ⟨⟨c0, c1, c2, c3, c4, c5⟩, hf⟩ := h6.cells
      obtain ⟨⟨d0, d1, d2, d3, d4, d5⟩, hf1⟩ := h1.cells
      have HVG := Lib.hid hvg
      have HB := Lib.hid hb
      clear a0 a1 a2 a3 a4 a5 hvg h6 h1 hb
      go_wp2_with fail
      have hab := (Above.refl (w3.heap.size + 1) wr).fill (c := w.heap.size + 1) (by omega) (.int .i64 g.k) (.int .i64 g.p) (.string g.n) (.int .i64 g.s) (.slice la2 ln2 lc2) (.slice ka2 kn2 kc2)
      rw [HG.out]
      exact bodyPost_ret (v := .agg #[.int .i64 g.k, .int .i64 g.p, .string g.n, .int .i64 g.s, .slice la2 ln2 lc2, .slice ka2 kn2 kc2]) (by simp [results, Tryd.results45, go_sem, d0, d1, d2, d3, d4, d5]) rfl
        ⟨la2, ln2, lc2, ka2, kn2, kc2, rfl, (HVG.out.keep hab.keeps).mono (Fresh.mono (c := w.heap.size) (by omega) hab.size), below_fill (c := w.heap.size + 1) HB.out (by omega) _ _ _ _ _ _⟩

end Go.Proofs.YtliijbcgkkiekaaDoor

/- Types: the iterator over the nodes: what is told at each round; append, with the row's block told. -/
namespace Go.Proofs.YtliijbcgkkiekaaDoor
open Go.RowKit Go.Deep Go.Shelf

/-- What a round is handed: the nodes around, the index, the node. -/
structure Nd where
  ar : Value
  kid : Int
  b : Nat
  o : Nat
  path : List Ty
  ty : Ty
abbrev ndArgs (x : Nd) : Array Value := #[.agg #[x.ar, .int .i64 x.kid], .pointer (some ⟨x.b, x.o, none⟩)]
/-- What is told of a round, without addresses. -/
def Nd.g (x : Nd) : List Ty × Int × Ty := (x.path, x.kid, x.ty)
mutual
/-- All nodes, each before its Kids. -/
def preT (path : List Ty) (kid : Int) : Ty → List (List Ty × Int × Ty)
  | .mk k p n s ls ts => (path, kid, .mk k p n s ls ts) :: preTs (path ++ [.mk k p n s ls ts]) 0 ts
def preTs (path : List Ty) (kid : Int) : List Ty → List (List Ty × Int × Ty)
  | [] => []
  | t :: r => preT path kid t ++ preTs path (kid + 1) r
end
theorem preT_eq (path : List Ty) (kid : Int) (t : Ty) : preT path kid t = (path, kid, t) :: preTs (path ++ [t]) 0 t.ts := by cases t; simp [preT, Ty.ts]
theorem preTs_append (path : List Ty) : ∀ (l r : List Ty) (kid : Int), preTs path kid (l ++ r) = preTs path kid l ++ preTs path (kid + l.length) r
  | [], r, kid => by simp [preTs]
  | t :: l, r, kid => by
    simp only [List.cons_append, preTs, preTs_append path l r (kid + 1), List.append_assoc, List.length_cons]
    congr 3
    omega
theorem preTs_take {path : List Ty} {l : List Ty} {j : Nat} {t : Ty} (h : l[j]? = some t) (kid : Int) : preTs path kid (l.take (j + 1)) = preTs path kid (l.take j) ++ preT path (kid + j) t := by
  have hj := (List.getElem?_eq_some_iff.1 h).1
  rw [take_snoc_get h, preTs_append, List.length_take, Nat.min_eq_left (by omega)]
  simp [preTs]
theorem preTs_prefix (path : List Ty) (l : List Ty) (j : Nat) (kid : Int) : preTs path kid (l.take j) <+: preTs path kid l := by
  conv => rhs; rw [← List.take_append_drop j l, preTs_append]
  exact List.prefix_append _ _

def ptrs (ads : List (Nat × Nat)) : List Value := ads.map fun a => .pointer (some ⟨a.1, a.2, none⟩)
/-- The slice of the nodes around lies in memory of its own (from block D on), and its pointers lead to these nodes. -/
def ARow (D : Nat) (S : Nat → Prop) (W : World) (ar : Value) (path : List Ty) : Prop :=
  ∃ ads : List (Nat × Nat), ads.length = path.length ∧ W.ownsRow D 60 1 ar path.length (ptrs ads) ∧ ∀ (i : Nat) (a : Nat × Nat) (t : Ty), ads[i]? = some a → path[i]? = some t → TyAt S W t a.1 a.2
/-- What holds in memory at a round. -/
def Px (D : Nat) (S : Nat → Prop) (x : Nd) (W : World) : Prop := ARow D S W x.ar x.path ∧ TyAt S W x.ty x.b x.o ∧ x.path.length ≤ 1000

theorem ownsRow_kept {W W' : World} {base : Nat} {e : TypeId} {size : Nat} {v : Value} {n : Nat} {xs : List Value} (h : W.ownsRow base e size v n xs) (hk : ∀ (g : Nat) (o : Obj), v.ownBlock = some g → W.heap[g]? = some o → o.isCells = true → W'.heap[g]? = some o) : W'.ownsRow base e size v n xs := by
  refine ⟨h.1, ?_⟩
  rcases h.2 with h0 | ⟨g, cap, cur, rfl, hb, hg, r⟩
  · exact .inl h0
  · exact .inr ⟨g, cap, cur, rfl, hb, hk g _ rfl hg rfl, r⟩
theorem ARow.kept {D : Nat} {S : Nat → Prop} {W W' : World} {ar : Value} {path : List Ty} (h : ARow D S W ar path) (hS : Keeps S W W') (hk : ∀ (g : Nat) (o : Obj), ar.ownBlock = some g → W.heap[g]? = some o → o.isCells = true → W'.heap[g]? = some o) : ARow D S W' ar path := by
  obtain ⟨ads, h1, h2, h3⟩ := h
  exact ⟨ads, h1, ownsRow_kept h2 hk, fun i a t ha ht => (h3 i a t ha ht).keep hS⟩
theorem CellsKept.keeps {A B : World} (h : CellsKept A B) (S : Nat → Prop) : Keeps S A B := fun k o _ ho hc => h k o ho hc
theorem Px.kept {D : Nat} {S : Nat → Prop} {x : Nd} {W W' : World} (h : CellsKept W W') (hp : Px D S x W) : Px D S x W' :=
  ⟨hp.1.kept (h.keeps S) (fun g o _ ho hc => h g o ho hc), hp.2.1.keep (h.keeps S), hp.2.2⟩
theorem cellsKept_alloc (W : World) (o : Obj) : CellsKept W (W.alloc o) := fun k _ hk _ => (Below.heap_alloc W o k (Array.getElem?_eq_some_iff.1 hk).1).trans hk

/-- Cells lie as they lay, but for the blocks X and the block of one slice. -/
structure KV (X : Nat → Prop) (ar : Value) (W W' : World) : Prop where
  size : W.heap.size ≤ W'.heap.size
  keep : ∀ (k : Nat) (o : Obj), W.heap[k]? = some o → o.isCells = true → ¬ X k → ar.ownBlock ≠ some k → W'.heap[k]? = some o
/-- What a round keeps. -/
abbrev Kp (X : Nat → Prop) : World → World → Prop := KV X .nilFunc
theorem KV.refl (X : Nat → Prop) (ar : Value) (W : World) : KV X ar W W := ⟨Nat.le_refl _, fun _ _ h _ _ _ => h⟩
theorem KV.trans {X : Nat → Prop} {ar : Value} {A B C : World} (h : KV X ar A B) (g : KV X ar B C) : KV X ar A C :=
  ⟨Nat.le_trans h.size g.size, fun k o hk hc hx ha => g.keep k o (h.keep k o hk hc hx ha) hc hx ha⟩
theorem KV.of_kp {X : Nat → Prop} {ar : Value} {A B : World} (h : Kp X A B) : KV X ar A B := ⟨h.size, fun k o hk hc hx _ => h.keep k o hk hc hx (by simp [Value.ownBlock])⟩
theorem KV.of_below {X : Nat → Prop} {ar : Value} {A B : World} (h : Below A.heap.size A B) : KV X ar A B := ⟨h.size, fun k _ hk _ _ _ => (h.block k (Array.getElem?_eq_some_iff.1 hk).1).trans hk⟩
theorem KV.of_cells {X : Nat → Prop} {ar : Value} {A B : World} (hs : A.heap.size ≤ B.heap.size) (h : CellsKept A B) : KV X ar A B := ⟨hs, fun k o hk hc _ _ => h k o hk hc⟩
theorem KV.keeps {X : Nat → Prop} {ar : Value} {A B : World} {S : Nat → Prop} (h : KV X ar A B) (hS : ∀ k, S k → ¬ X k ∧ ar.ownBlock ≠ some k) : Keeps S A B := fun k o hk ho hc => h.keep k o ho hc (hS k hk).1 (hS k hk).2

theorem ptrInfo : (Tryd.prog.info? 60).map (fun i => (i.zero, i.size, i.bytes)) = some (some (.pointer none), 1, 8) := by kernel_rfl

/-- append of one pointer to a row of one's own: where the new row lies. -/
theorem run_append_ptr (base : Nat) (ty : TypeId) (v : Value) (n : Nat) (xs : List Value) (w : World) (hown : w.ownsRow base 60 1 v n xs) (ad : Addr) (c : Nat) (u : Value) (hu : w.cell? ad = some u) (h1 : u.oneCell' = true) (h63 : n + 1 ≤ 1000000) (hbase : base ≤ w.heap.size) :
    ∃ g' c' w', (Builtin.append_ #[66, 66] ty #[v, .slice (some ad) 1 c]).run Tryd.prog w = .ok (.slice (some ⟨g', 0, none⟩) (n + 1) c') w' ∧ w'.ownsRow base 60 1 (.slice (some ⟨g', 0, none⟩) (n + 1) c') (n + 1) (xs ++ [u]) ∧
      ((v = .slice (some ⟨g', 0, none⟩) n c' ∧ w.grownBy w' (some g')) ∨ (w.heap.size ≤ g' ∧ w.grownBy w' none)) := by
  obtain ⟨i0, hi, hz0, hz1, hz2⟩ := info_parts ptrInfo
  have hnews : ∀ (j : Nat) (x : Value), [u][j]? = some x → w.cell? (ad.add j) = some x := fun j x hj => by
    cases j with
    | zero => simp at hj; subst hj; simpa [Addr.add] using hu
    | succ j => simp at hj
  have hone : ∀ x ∈ [u], x.oneCell' = true := fun x hx => by simp at hx; subst hx; exact h1
  rcases hown.2 with ⟨rfl, rfl⟩ | ⟨g, cap, cur, rfl, hb, hg, hnc, hcm, hcs, htake⟩
  · obtain ⟨v', w', hr, h2, h3, h4, h5⟩ := run_append_own_at (P := Tryd.prog) w base 66 ty 60 i0 _ 1 8 Tryd.underlying66 hi hz0 hz1 hz2 rfl (by decide) _ _ xs hown ad 1 c [u] rfl hnews hone (by unfold maxLen; omega) (by omega) hbase
    rcases h2.2 with ⟨rfl, h0⟩ | ⟨g', c', cur', rfl, r⟩
    · omega
    · refine ⟨g', c', w', hr, h2, .inr ⟨?_, h3⟩⟩
      rcases h5 with h | h
      · simp [Value.ownBlock] at h
      · simp [Value.ownBlock] at h; omega
  · by_cases hroom : n + 1 ≤ cap
    · obtain ⟨w', hr, h2, h3⟩ := run_append_fits (P := Tryd.prog) w base 66 ty 60 i0 1 Tryd.underlying66 hi hz1 g n cap xs hown ad 1 c [u] rfl hnews hone hroom
      exact ⟨g, cap, w', hr, h2, .inl ⟨rfl, h3⟩⟩
    · have holds : ∀ (j : Nat) (x : Value), xs[j]? = some x → w.cell? ((⟨g, 0, none⟩ : Addr).add j) = some x := fun j x hj => by
        have hx : cur.toList[j]? = some x := by
          have hl := (List.getElem?_eq_some_iff.1 hj).1
          rw [← htake] at hj hl
          rw [List.length_take] at hl
          rw [List.getElem?_take] at hj
          simpa using (by simpa using hj : j < n ∧ cur[j]? = some x).2
        have e : (⟨g, 0, none⟩ : Addr).add j = ⟨g, j, none⟩ := by
          unfold Addr.add
          by_cases h : j = 0
          · subst h; rfl
          · simp [h]
        rw [e]
        simpa [World.cell?, hg] using hx
      obtain ⟨v', w', hr, h2, h3⟩ := run_append_arg_grows (P := Tryd.prog) w 66 ty 60 i0 _ 1 8 Tryd.underlying66 hi hz0 hz1 hz2 rfl (by decide) ⟨g, 0, none⟩ n cap xs (by simpa using hown.1) holds ad 1 c [u] rfl hnews (by omega) (by unfold maxLen; omega) (by omega)
      rcases h2.2 with ⟨rfl, h0⟩ | ⟨g', c', cur', rfl, hb', r⟩
      · omega
      · exact ⟨g', c', w', hr, ⟨h2.1, .inr ⟨g', c', cur', rfl, by omega, r⟩⟩, .inr ⟨hb', h3⟩⟩

/-- The same, for the walk within a fence. -/
theorem wpListIn_append_ptr {F : Fence} {nF : Nat} {w : World} {ops : Array Oper} {rest : List Oper} {o : Oper} {a : Act} {Q : Exit → Act → World → Prop} (hgd : o.guard = none) (s x : Operand)
    (ho : o.op = .call { callee := .builtin .append, args := #[s, x], argTypes := #[66, 66] }) (base : Nat) (v : Value) (n : Nat) (xs : List Value) (hs : a.eval s = v) (hown : w.ownsRow base 60 1 v n xs)
    (ad : Addr) (c : Nat) (u : Value) (hx : a.eval x = .slice (some ad) 1 c) (hu : w.cell? ad = some u) (h1 : u.oneCell' = true) (h63 : n + 1 ≤ 1000000) (hbase : base ≤ w.heap.size)
    (h : ∀ g' c' w', w'.ownsRow base 60 1 (.slice (some ⟨g', 0, none⟩) (n + 1) c') (n + 1) (xs ++ [u]) → ((v = .slice (some ⟨g', 0, none⟩) n c' ∧ w.grownBy w' (some g')) ∨ (w.heap.size ≤ g' ∧ w.grownBy w' none)) →
      wpListIn F nF Tryd.prog ops Q rest (a.put o.dst (.slice (some ⟨g', 0, none⟩) (n + 1) c')) w') :
    wpListIn F nF Tryd.prog ops Q (o :: rest) a w := by
  refine wpListIn_plain hgd fun K hK => ?_
  obtain ⟨g', c', w', hr, h2, h3⟩ := run_append_ptr base o.type v n xs w hown ad c u hu h1 h63 hbase
  unfold Oper.wpIn
  refine ⟨by simp [Oper.about, ho, resolve, Target.leads, Sem.run_pure], ?_⟩
  rw [Oper.semAt_plain F _ _ (by rw [ho]; intro c hc'; cases hc')]
  simp [execOp, ho, resolve, invoke, builtin, hs, hx, hr, Result.andThen]
  exact hK _ _ (h g' c' w' h2 h3)

/-- Behind a node's Kids: the slice that came in, and what was kept. -/
theorem row_back {D : Nat} {X S : Nat → Prop} {W w1 W' : World} {ar : Value} {path : List Ty} {t : Ty} {g' c' : Nat} (hX : ∀ k, X k → ¬ S k ∧ k < D) (hrow : ARow D S W ar path)
    (hcase : (ar = .slice (some ⟨g', 0, none⟩) path.length c' ∧ W.grownBy w1 (some g')) ∨ (W.heap.size ≤ g' ∧ W.grownBy w1 none))
    (hkv : KV X (.slice (some ⟨g', 0, none⟩) (path.length + 1) c') w1 W') (hrow' : ARow D S W' (.slice (some ⟨g', 0, none⟩) (path.length + 1) c') (path ++ [t])) : ARow D S W' ar path ∧ KV X ar W W' := by
  rcases hcase with ⟨rfl, hg⟩ | ⟨hnew, hg⟩
  · have hkv' : KV X (.slice (some ⟨g', 0, none⟩) path.length c') W W' := ⟨Nat.le_trans hg.size hkv.size, fun k o hk hc hx ha => hkv.keep k o ((hg.block k (Array.getElem?_eq_some_iff.1 hk).1 (fun e => ha (by simp only [Option.some.injEq] at e; simp [Value.ownBlock, e]))).trans hk) hc hx (by simpa [Value.ownBlock] using ha)⟩
    refine ⟨?_, hkv'⟩
    obtain ⟨ads, h1, h2, h3⟩ := hrow
    obtain ⟨ads', h1', h2', h3'⟩ := hrow'
    have hlen : (path ++ [t]).length = path.length + 1 := by simp
    rw [hlen] at h1' h2'
    refine ⟨ads'.take path.length, by rw [List.length_take]; omega, ?_, fun i a u ha hu => ?_⟩
    · refine ⟨by simp [ptrs]; omega, ?_⟩
      rcases h2'.2 with ⟨h, _⟩ | ⟨g, cap, cur, h, hb, hgg, hnc, hcm, hcs, htake⟩
      · simp at h
      · simp only [Value.slice.injEq, Option.some.injEq, Addr.mk.injEq, and_true, true_and] at h
        obtain ⟨rfl, rfl⟩ := h
        refine .inr ⟨g', c', cur, rfl, hb, hgg, by omega, hcm, hcs, ?_⟩
        have := congrArg (List.take (path.length * 1)) htake
        rw [List.take_take, Nat.min_eq_left (by omega)] at this
        rw [this]
        simp [ptrs, List.map_take]
    · have hi : i < path.length := (List.getElem?_eq_some_iff.1 hu).1
      have ha' : ads'[i]? = some a := by rw [List.getElem?_take, if_pos hi] at ha; exact ha
      exact h3' i a u ha' (by rw [List.getElem?_append_left hi]; exact hu)
  · have hkv' : KV X ar W W' := ⟨Nat.le_trans hg.size hkv.size, fun k o hk hc hx _ => by
      have hlt := (Array.getElem?_eq_some_iff.1 hk).1
      exact hkv.keep k o ((hg.block k hlt (by simp)).trans hk) hc hx (by simp [Value.ownBlock]; omega)⟩
    have hall : ∀ (k : Nat) (o : Obj), W.heap[k]? = some o → o.isCells = true → ¬ X k → W'.heap[k]? = some o := fun k o hk hc hx => by
      have hlt := (Array.getElem?_eq_some_iff.1 hk).1
      exact hkv.keep k o ((hg.block k hlt (by simp)).trans hk) hc hx (by simp [Value.ownBlock]; omega)
    refine ⟨hrow.kept (fun k o hk ho hc => hall k o ho hc (fun hx => (hX k hx).1 hk)) (fun g o hg' ho hc => hall g o ho hc (fun hx => ?_)), hkv'⟩
    obtain ⟨ads, _, h2, _⟩ := hrow
    rcases h2.2 with ⟨rfl, _⟩ | ⟨g0, cap, cur, rfl, hb, _⟩
    · simp [Value.ownBlock] at hg'
    · simp [Value.ownBlock] at hg'
      have := (hX g hx).2
      omega

end Go.Proofs.YtliijbcgkkiekaaDoor

/- Types: visit, by induction on the type. -/
namespace Go.Proofs.YtliijbcgkkiekaaDoor
open Go.RowKit Go.Deep Go.Shelf
attribute [local go_sem] Oper.semAt_some

theorem room_none {F : Fence} (hd : F.depth = none) (k : Nat) : F.room k := fun d h => by rw [hd] at h; cases h
theorem yield_any {F : Fence} (hd : F.depth = none) {m : Nat} (m' : Nat) {P : Program} {l : Nat} {args : Array Value} {W : World} {R : Ending → World → Prop} (h : YieldAt F m P l args W R) : YieldAt F m' P l args W R := by
  obtain ⟨fn, tmps, assign, body, hy, hR⟩ := h
  exact ⟨fn, tmps, assign, body, hy, ⟨hR.1, fun c cs _ => hR.2 c cs (room_none hd _)⟩⟩

/-- Cells lie as they lay, but for the block of one slice. -/
def CellsBut (ar : Value) (W W' : World) : Prop := ∀ (k : Nat) (o : Obj), W.heap[k]? = some o → o.isCells = true → ar.ownBlock ≠ some k → W'.heap[k]? = some o
theorem CellsBut.keeps {ar : Value} {W W' : World} {S : Nat → Prop} (h : CellsBut ar W W') (hS : ∀ k, S k → ar.ownBlock ≠ some k) : Keeps S W W' := fun k o hk ho hc => h k o ho hc (hS k hk)
theorem grown_cells {ar : Value} {W w1 : World} {n g' c' : Nat} {tmp : Obj} (hcase : (ar = .slice (some ⟨g', 0, none⟩) n c' ∧ (W.alloc tmp).grownBy w1 (some g')) ∨ ((W.alloc tmp).heap.size ≤ g' ∧ (W.alloc tmp).grownBy w1 none)) : W.heap.size ≤ w1.heap.size ∧ CellsBut ar W w1 := by
  rcases hcase with ⟨rfl, hg⟩ | ⟨_, hg⟩
  · exact ⟨by have := hg.size; simp at this; omega, fun k o hk hc ha => (hg.block k (by have := (Array.getElem?_eq_some_iff.1 hk).1; simp; omega) (fun e => ha (by simp only [Option.some.injEq] at e; simp [Value.ownBlock, e]))).trans (cellsKept_alloc W tmp k o hk hc)⟩
  · exact ⟨by have := hg.size; simp at this; omega, fun k o hk hc _ => (hg.block k (by have := (Array.getElem?_eq_some_iff.1 hk).1; simp; omega) (by simp)).trans (cellsKept_alloc W tmp k o hk hc)⟩
theorem own_ge {W : World} {base n k : Nat} {e : TypeId} {size : Nat} {v : Value} {xs : List Value} (h : W.ownsRow base e size v n xs) (hk : v.ownBlock = some k) : base ≤ k := by
  rcases h.2 with ⟨rfl, _⟩ | ⟨g, cap, cur, rfl, hb, _⟩
  · simp [Value.ownBlock] at hk
  · obtain rfl : g = k := by simpa [Value.ownBlock] using hk
    exact hb

/-- What is returned by visit. -/
def VisPost (D : Nat) (S X : Nat → Prop) (J Jx : List Nd → World → Prop) (pre : List Nd) (ar : Value) (path : List Ty) (kid : Int) (t : Ty) (W : World) (e : Ending) (W' : World) : Prop :=
  (e = .returned (.bool true) ∧ (∃ ys, ys.map Nd.g = preT path kid t ∧ J (pre ++ ys) W') ∧ KV X ar W W' ∧ ARow D S W' ar path) ∨
  (e = .returned (.bool false) ∧ ∃ ys, ys.map Nd.g <+: preT path kid t ∧ Jx (pre ++ ys) W')

set_option maxRecDepth 100000 in
set_option maxHeartbeats 2000000 in
/-- visit, with a word G that a node around hands down to its Kids. -/
theorem visit_g (G : List Ty → Ty → Prop) (hG : ∀ path t, G path t → ∀ u ∈ t.ts, G (path ++ [t]) u) (F : Fence) (hd : F.depth = none) (hF : ∀ f, F.fn f) (hro : F.round = none) (l D : Nat) (S X : Nat → Prop) (hX : ∀ k, X k → ¬ S k ∧ k < D) (hS : ∀ k, S k → k < D) (J Jx : List Nd → World → Prop) (hJ : AbidesAll D J)
    (hY : ∀ m pre x W, J pre W → Px D S x W → G x.path x.ty → D ≤ W.heap.size → YieldAt F m Tryd.prog l (ndArgs x) W fun e W' => (e = .returned (.bool true) ∧ J (pre ++ [x]) W' ∧ Kp X W W') ∨ (e = .returned (.bool false) ∧ Jx (pre ++ [x]) W')) :
    ∀ (t : Ty) (n : Nat) (path : List Ty) (kid : Int) (pa : Option Addr) (an ac b o : Nat) (pre : List Nd) (W : World), D ≤ W.heap.size → J pre W → TyAt S W t b o → ARow D S W (.slice pa an ac) path → path.length + t.depth ≤ 1000 → G path t →
      CallsIn F n Tryd.prog 82 #[.agg #[.slice pa an ac, .int .i64 kid], .pointer (some ⟨b, o, none⟩), .func (.yield l) #[] #[]] W (VisPost D S X J Jx pre (.slice pa an ac) path kid t W) := by
  refine Ty.ind ?_
  intro k p nm s ls ts ih n path kid pa an ac b o pre W hDW hj hty hrow hdep hg0
  obtain ⟨t, ht0⟩ : ∃ t, Ty.mk k p nm s ls ts = t := ⟨_, rfl⟩
  have hts : ts = t.ts := by rw [← ht0]; rfl
  rw [ht0] at hty hdep hg0 ⊢
  have hdd : ∀ k : Nat, (F.depth.isSome = true → 1 ≤ k) := fun k h => by rw [hd] at h; cases h
  have hbx := blkBelow W #[.slice pa an ac, .int .i64 kid] 68
  have hj1 := hJ.alloc (.cells #[.slice pa an ac, .int .i64 kid] 68) hj
  have hck := cellsKept_alloc W (.cells #[.slice pa an ac, .int .i64 kid] 68)
  have hpx : Px D S ⟨.slice pa an ac, kid, b, o, path, t⟩ (W.alloc (.cells #[.slice pa an ac, .int .i64 kid] 68)) := ⟨hrow.kept (hck.keeps S) (fun g o _ ho hc => hck g o ho hc), hty.keep (hck.keeps S), by show path.length ≤ 1000; omega⟩
  obtain ⟨fn, tmps, assign, body, hy, hR⟩ := hY (n - 1) pre ⟨.slice pa an ac, kid, b, o, path, t⟩ _ hj1 hpx hg0 (by simp; omega)
  simp only [ndArgs] at hy
  have HR := Lib.hid hR
  have HGK := Lib.hid (hG path t hg0)
  clear hj1 hck hpx hR hg0
  refine callsIn_of_wp Tryd.func82 rfl (hF _) ?_ hro
  simp only [Tryd.ntmps82, List.size_toArray, List.length_cons, List.length_nil, Nat.reduceAdd, Nat.reduceSub, Array.replicate_succ, Array.replicate_zero, List.push_toArray, List.append_toArray, List.nil_append, List.cons_append]
  gi_wp2_with fail
  refine HR.out.mono ?_
  rintro e W2 (⟨rfl, hj2, hk2⟩ | ⟨rfl, hx2⟩)
  · have hz2 : W.heap.size < W2.heap.size := by have := hk2.size; simp at this; omega
    have hck2 : CellsKept W (W.alloc (.cells #[.slice pa an ac, .int .i64 kid] 68)) := cellsKept_alloc W _
    have c0 : W2.cell? ⟨W.heap.size, 0, none⟩ = some (.slice pa an ac) := by
      have := hk2.keep W.heap.size _ (World.alloc_heap_new W _) rfl (fun hx => by have := (hX _ hx).2; omega) (by simp [Value.ownBlock])
      simp [World.cell?, this]
    have hkS : Keeps S (W.alloc (.cells #[.slice pa an ac, .int .i64 kid] 68)) W2 := hk2.keeps (fun k hk => ⟨fun hx => (hX k hx).1 hk, by simp [Value.ownBlock]⟩)
    have hty2 := (hty.keep (hck2.keeps S)).keep hkS
    have hrow2 : ARow D S W2 (.slice pa an ac) path := (hrow.kept (hck2.keeps S) (fun g o _ ho hc => hck2 g o ho hc)).kept hkS (fun g o hg ho hc => hk2.keep g o ho hc (fun hx => by
      have hd' := (hX g hx).2
      obtain ⟨_, _, h2, _⟩ := hrow
      rcases h2.2 with ⟨h, _⟩ | ⟨g0, cap, cur, h, hb, _⟩
      · simp only [Value.slice.injEq] at h; obtain ⟨rfl, _⟩ := h; simp [Value.ownBlock] at hg
      · simp only [Value.slice.injEq] at h; obtain ⟨rfl, _⟩ := h; simp [Value.ownBlock] at hg; omega) (by simp [Value.ownBlock]))
    have hkv2 : KV X (.slice pa an ac) W W2 := (KV.of_below hbx).trans (KV.of_kp hk2)
    obtain ⟨ads, hal, hown, hat⟩ := hrow2
    have HAT := Lib.hid hat
    have HKV2 := Lib.hid hkv2
    have HTY2 := Lib.hid hty2
    have HJ2 := Lib.hid hj2
    clear hy HR hj hty hrow hbx hk2 hkS hty2 hj2 hck2 hat hkv2
    gi_wp2_with (gi_at_builtin; go_must (refine wpListIn_append_ptr rfl _ _ rfl D _ _ _ rfl (hown.alloc _) ⟨W2.heap.size, 0, none⟩ 1 (.pointer (some ⟨b, o, none⟩)) rfl (blk_cell (Below.refl _ _) 0 rfl) (by simp [Value.oneCell']) (by omega) (by simp; omega) ?_); intro g' c' w3 hown' hcase; have hg3 : W2.heap.size ≤ w3.heap.size ∧ CellsBut (.slice pa an ac) W2 w3 := grown_cells hcase; have hty3 := HTY2.out.keep (hg3.2.keeps (fun k hk => fun e => by have := hS k hk; have := own_ge hown e; omega)); obtain ⟨la, ln, lc, ka, kn, kc, ⟨_, _, _, _, _, e5⟩, hval⟩ := hty3.load'; replace hval := Lib.hid hval; replace hown' := Lib.hid hown'; replace hcase := Lib.hid hcase; replace hty3 := Lib.hid hty3)
    have hg' : D ≤ g' := own_ge hown'.out rfl
    have hrow3 : ARow D S w3 (.slice (some ⟨g', 0, none⟩) (path.length + 1) c') (path ++ [t]) := by
      refine ⟨ads ++ [(b, o)], by simp [hal], by simpa [ptrs] using hown'.out, fun i a u ha hu => ?_⟩
      by_cases hi : i < path.length
      · rw [List.getElem?_append_left (by omega)] at ha
        rw [List.getElem?_append_left hi] at hu
        exact (HAT.out i a u ha hu).keep (hg3.2.keeps (fun k hk => fun e => by have := hS k hk; have := own_ge hown e; omega))
      · have hi2 : i = path.length := by have := (List.getElem?_eq_some_iff.1 hu).1; simp at this; omega
        subst hi2
        rw [List.getElem?_append_right (by omega), hal] at ha
        rw [List.getElem?_append_right (by omega)] at hu
        simp at ha hu
        subst ha hu
        exact hty3.out
    have hj3 : J (pre ++ [⟨.slice pa an ac, kid, b, o, path, t⟩] ++ []) w3 := by
      rw [List.append_nil]
      rcases hcase.out with ⟨_, hg⟩ | ⟨_, hg⟩
      · exact hJ _ _ _ _ (hJ.alloc _ HJ2.out) hg (fun r e => by cases e; exact hg')
      · exact hJ _ _ _ _ (hJ.alloc _ HJ2.out) hg (fun r e => by cases e)
    obtain ⟨lv', kv', he, _, _, hks⟩ := hval.out
    simp only [Value.agg.injEq, Array.mk.injEq, List.cons.injEq, and_true, true_and] at he
    obtain ⟨rfl, rfl⟩ := he
    obtain ⟨ka', kn', kc', he, hlen, hmx, hget⟩ := hks.open
    simp only [Value.slice.injEq] at he
    obtain ⟨rfl, rfl, rfl⟩ := he
    have hSb : S b := (TyAt.eq.1 hty3.out).1
    have HG := Lib.hid hget
    have HIH := Lib.hid ih
    have HE5 := Lib.hid e5
    have HROW3 := Lib.hid hrow3
    have HJ3 := Lib.hid hj3
    have HOWN := Lib.hid hown
    have HG3 := Lib.hid hg3
    have HTS := Lib.hid hts
    have HAL := Lib.hid hal
    clear hget ih e5 hrow3 hj3 hks hown hg3 hts ht0 hal
    gi_loopw [24] (fun i wr => ∃ (j : Nat) (ys : List Nd), i = .int .i64 j ∧ j ≤ kn ∧ Hid (ys.map Nd.g = preTs (path ++ [t]) 0 (t.ts.take j)) ∧ Hid (J (pre ++ [⟨.slice pa an ac, kid, b, o, path, t⟩] ++ ys) wr) ∧ Hid (KV X (.slice (some ⟨g', 0, none⟩) (path.length + 1) c') w3 wr) ∧ Hid (ARow D S wr (.slice (some ⟨g', 0, none⟩) (path.length + 1) c') (path ++ [t])))
      (fun i _ => kn - (intOf i).toNat)
    case atStart => exact ⟨0, [], rfl, by omega, Lib.hid (by simp [preTs]), Lib.hid HJ3.out, Lib.hid (KV.refl _ _ _), Lib.hid HROW3.out⟩
    case round =>
      obtain ⟨j, ys, rfl, hj, HYS, HJJ, HKV, HRW⟩ := hrel
      by_cases hlt : j < kn
      · obtain ⟨t', ht'⟩ : ∃ t', t.ts[j]? = some t' := ⟨_, List.getElem?_eq_getElem (by rw [← hlen.out]; exact hlt)⟩
        obtain ⟨kb, ko, rfl, hkb, hty'⟩ := HG.out j t' ht'
        have hkS : Keeps S w3 wr := HKV.out.keeps (fun k hk => ⟨fun hx => (hX k hx).1 hk, fun e => by have := hS k hk; simp [Value.ownBlock] at e; omega⟩)
        have e5 := hkS.cell hSb HE5.out
        have hmem : t' ∈ ts := by rw [HTS.out]; exact List.mem_of_getElem? ht'
        have hdt : t'.depth + 1 ≤ t.depth := by rw [t.depth_eq]; have := Ty.depth_mem (List.mem_of_getElem? ht'); omega
        have hDr : D ≤ wr.heap.size := by have h1 := HKV.out.size; have h2 := HG3.out.1; omega
        have IH := Lib.hid (fun n' => HIH.out t' hmem n' (path ++ [t]) (j : Int) (some ⟨g', 0, none⟩) (path.length + 1) c' kb (ko + j * 6) (pre ++ [⟨.slice pa an ac, kid, b, o, path, t⟩] ++ ys) wr hDr HJJ.out (hty'.keep hkS) HRW.out (by simp; omega) (HGK.out t' (List.mem_of_getElem? ht')))
        have HPT := Lib.hid (preTs_take (path := path ++ [t]) ht' 0)
        have HPP := Lib.hid (preTs_prefix (path ++ [t]) t.ts (j + 1) 0)
        clear ht' hty' hkS hmem hdt hDr
        gi_wp2_with fail
        refine (IH.out _).mono ?_
        rintro e w4 (⟨rfl, ⟨zs, hz1, hz2⟩, hkv, hrw⟩ | ⟨rfl, zs, hz1, hz2⟩)
        · have hys : Hid ((ys ++ zs).map Nd.g = preTs (path ++ [t]) 0 (t.ts.take (j + 1))) := Lib.hid (by rw [List.map_append, HYS.out, hz1, HPT.out]; simp)
          have hjj : Hid (J (pre ++ [⟨.slice pa an ac, kid, b, o, path, t⟩] ++ (ys ++ zs)) w4) := Lib.hid (by rw [← List.append_assoc]; exact hz2)
          have hkk := Lib.hid (HKV.out.trans hkv)
          have hrr := Lib.hid hrw
          clear hz1 hz2 hkv hrw
          gi_wp2_with fail
          exact ⟨⟨j + 1, ys ++ zs, by go_num, by omega, hys, hjj, hkk, hrr⟩, by simp [intOf]; omega⟩
        · have hq : ∃ q, q.map Nd.g <+: preT path kid t ∧ Jx (pre ++ q) w4 := by
            refine ⟨[⟨.slice pa an ac, kid, b, o, path, t⟩] ++ (ys ++ zs), ?_, by simpa [List.append_assoc] using hz2⟩
            rw [preT_eq, List.map_append, List.map_append, HYS.out]
            refine (List.prefix_cons_inj _).2 ((List.IsPrefix.trans ?_ HPP.out))
            rw [HPT.out]
            refine (List.prefix_append_right_inj _).2 ?_
            simpa using hz1
          have HQ := Lib.hid hq
          clear hz1 hz2 hq
          gi_wp2
          go_ret
          exact .inr ⟨rfl, HQ.out⟩
      · obtain rfl : j = kn := by omega
        have hback := row_back (W := W2.alloc (.cells #[.pointer (some ⟨b, o, none⟩)] 60)) (path := path) (t := t) (ar := .slice pa an ac) hX
          (by
            refine ⟨ads, HAL.out, HOWN.out.alloc _, fun i a u ha hu => (HAT.out i a u ha hu).keep ((cellsKept_alloc W2 _).keeps S)⟩) hcase.out HKV.out HRW.out
        have hq : ∃ q, q.map Nd.g = preT path kid t ∧ J (pre ++ q) wr := by
          refine ⟨[⟨.slice pa an ac, kid, b, o, path, t⟩] ++ ys, ?_, by simpa [List.append_assoc] using HJJ.out⟩
          rw [preT_eq, List.map_append, HYS.out, List.take_of_length_le (by rw [hlen.out]; exact Nat.le_refl _)]
          rfl
        have HQ := Lib.hid hq
        have HBK := Lib.hid hback
        clear hq hback
        gi_wp2
        go_ret
        exact .inl ⟨rfl, HQ.out, HKV2.out.trans ((KV.of_below (blkBelow W2 _ _)).trans HBK.out.2), HBK.out.1⟩
  · gi_wp2
    go_ret
    exact .inr ⟨rfl, [_], by rw [preT_eq]; exact ⟨preTs (path ++ [t]) 0 t.ts, rfl⟩, hx2⟩

theorem visit_in (F : Fence) (hd : F.depth = none) (hF : ∀ f, F.fn f) (hro : F.round = none) (l D : Nat) (S X : Nat → Prop) (hX : ∀ k, X k → ¬ S k ∧ k < D) (hS : ∀ k, S k → k < D) (J Jx : List Nd → World → Prop) (hJ : AbidesAll D J)
    (hY : ∀ m pre x W, J pre W → Px D S x W → D ≤ W.heap.size → YieldAt F m Tryd.prog l (ndArgs x) W fun e W' => (e = .returned (.bool true) ∧ J (pre ++ [x]) W' ∧ Kp X W W') ∨ (e = .returned (.bool false) ∧ Jx (pre ++ [x]) W'))
    (t : Ty) (n : Nat) (path : List Ty) (kid : Int) (pa : Option Addr) (an ac b o : Nat) (pre : List Nd) (W : World) (hDW : D ≤ W.heap.size) (hj : J pre W) (hty : TyAt S W t b o) (hrow : ARow D S W (.slice pa an ac) path) (hdep : path.length + t.depth ≤ 1000) :
      CallsIn F n Tryd.prog 82 #[.agg #[.slice pa an ac, .int .i64 kid], .pointer (some ⟨b, o, none⟩), .func (.yield l) #[] #[]] W (VisPost D S X J Jx pre (.slice pa an ac) path kid t W) :=
  visit_g (fun _ _ => True) (fun _ _ _ _ _ => trivial) F hd hF hro l D S X hX hS J Jx hJ (fun m pre x W hj hp _ hs => hY m pre x W hj hp hs) t n path kid pa an ac b o pre W hDW hj hty hrow hdep trivial

end Go.Proofs.YtliijbcgkkiekaaDoor
