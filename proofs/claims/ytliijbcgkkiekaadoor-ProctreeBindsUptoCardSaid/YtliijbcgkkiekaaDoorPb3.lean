/- Types: lists mapped into new memory. (and what follows from it) -/
import Derived.Test.YtliijbcgkkiekaaDoorPb2
import Derived.Laws.OwnMore
import Derived.Deep.OwnRows
import Derived.Maps.AppendAt
import Derived.Lib.SliceRun

/- Types: lists mapped into new memory. -/
namespace Go.Proofs.YtliijbcgkkiekaaDoor
open Go.RowKit Go.Deep

/-- Blocks that are new between two sizes of the heap. -/
def Fresh (a b : Nat) : Nat → Prop := fun k => a ≤ k ∧ k < b
theorem Fresh.low {a : Nat} {w : World} : Low (Fresh a w.heap.size) w := fun _ h => h.2
theorem Fresh.mono {a b c d : Nat} (h1 : c ≤ a) (h2 : b ≤ d) : ∀ k, Fresh a b k → Fresh c d k := fun _ h => ⟨Nat.le_trans h1 h.1, Nat.lt_of_lt_of_le h.2 h2⟩

def sRow (ls : List ByteArray) (k : Nat) : List Value := (ls.take k).map Value.string ++ List.replicate (ls.length - k) (.string ⟨#[]⟩)
theorem strInfo : (Tryd.prog.info? 9).map (fun i => (i.zero, i.size, i.bytes)) = some (some (.string ⟨#[]⟩), 1, 16) := by kernel_rfl
theorem sRow_len (ls : List ByteArray) (k : Nat) (h : k ≤ ls.length) : (sRow ls k).length = ls.length := by simp [sRow]; omega
theorem sRow_at (ls : List ByteArray) (k : Nat) (h : k < ls.length) : (sRow ls k)[k]? = some (.string ⟨#[]⟩) := by
  unfold sRow
  have e : ((ls.take k).map Value.string).length = k := by rw [List.length_map, List.length_take]; omega
  rw [List.getElem?_append_right (by omega), e, Nat.sub_self, List.getElem?_replicate, if_pos (by omega)]
theorem sRow_set (ls : List ByteArray) (k : Nat) (x : ByteArray) (h : ls[k]? = some x) : (sRow ls k).set k (.string x) = sRow ls (k + 1) := by
  have hk : k < ls.length := (List.getElem?_eq_some_iff.1 h).1
  unfold sRow
  have el : ((ls.take k).map Value.string).length = k := by rw [List.length_map, List.length_take]; omega
  have e : ls.length - k = (ls.length - (k + 1)) + 1 := by omega
  rw [List.set_append_right _ _ (by omega), el, Nat.sub_self, e, List.replicate_succ, List.set_cons_zero, List.take_add_one, h]
  simp
theorem sRow_all (ls : List ByteArray) : sRow ls ls.length = ls.map Value.string := by simp [sRow]

set_option maxHeartbeats 400000 in
theorem ident_any (s : ByteArray) (w : World) : Calls Tryd.prog 103 #[.string s] w fun e w' => e = .returned (.string s) ∧ w = w' := by
  go_enter Tryd.func103, Tryd.ntmps103
  go_wp2
  go_ret
  exact ⟨rfl, rfl⟩

theorem eqS (a : Option Addr) (l c : Nat) (w : World) : (binOp .eql 22 (.slice a l c) (.slice none 0 0)).run Tryd.prog w = .ok (.bool a.isNone) w := Lib.run_eql_slice_nil w 22 9 a l c 0 0 Tryd.underlying22
theorem eqK (a : Option Addr) (l c : Nat) (w : World) : (binOp .eql 23 (.slice a l c) (.slice none 0 0)).run Tryd.prog w = .ok (.bool a.isNone) w := Lib.run_eql_slice_nil w 23 25 a l c 0 0 Tryd.underlying23

/-- What a copied list of texts is. -/
def StrRet (w : World) (ls : List ByteArray) (e : Ending) (w' : World) : Prop :=
  ∃ la ln lc, e = .returned (.slice la ln lc) ∧ StrSl (Fresh w.heap.size w'.heap.size) w' (.slice la ln lc) ls ∧ Below w.heap.size w w'

set_option maxHeartbeats 2000000 in
theorem mappedS_any (B : Nat → Prop) (v : Value) (ls : List ByteArray) (hn : ls.length ≤ 1048576) (w : World) (hB : Low B w) (h : StrSl B w v ls) :
    Calls Tryd.prog 102 #[v, .func (.func 103) #[] #[]] w (StrRet w ls) := by
  have hsz := h.2.2
  rcases h.parts with ⟨c, rfl, rfl⟩ | ⟨ad, c, rfl, hrow⟩
  · have hq := eqS none 0 c
    go_enter Tryd.func102, Tryd.ntmps102
    go_wp2_with fail
    go_ret
    exact ⟨_, _, _, rfl, ⟨.inl ⟨⟨_, _, rfl⟩, rfl⟩, by simp [maxLen], fun s hs => by cases hs⟩, Below.refl _ _⟩
  · obtain ⟨n, hn'⟩ : ∃ n, n = ls.length := ⟨_, rfl⟩
    have hmk := run_make_row' (P := Tryd.prog) 22 9 (.string ⟨#[]⟩) 16 Tryd.underlying22 strInfo rfl .i64 .i64 ls.length (by omega) (by omega)
    rw [← hn'] at hmk ⊢ hn
    have HN := Lib.hid hn'
    have HR := Lib.hid hrow
    have hq := eqS (some ad) n c
    clear hn' hrow h
    go_enter Tryd.func102, Tryd.ntmps102
    go_wp2_with fail
    go_loopw [15] (fun i wr => ∃ k : Nat, i = .int .i64 k ∧ k ≤ n ∧ wr.ownsRow w.heap.size 9 1 (.slice (some ⟨w.heap.size, 0, none⟩) n n) n (sRow ls k) ∧ Below w.heap.size w wr) (fun i _ => n - (intOf i).toNat)
    case atStart =>
      refine ⟨0, rfl, by omega, ?_, (Below.refl _ _).alloc (Nat.le_refl _) _⟩
      have h := World.ownsRow_lit (base := w.heap.size) (e := 9) (size := 1) w (madeCells #[.string ⟨#[]⟩] n) n (Nat.le_refl _) (by unfold maxLen; omega) (by have h := congrArg List.length (toList_madeCells_one (.string ⟨#[]⟩) n); rw [Array.length_toList, List.length_replicate] at h; omega)
      rw [toList_madeCells_one] at h
      have e : sRow ls 0 = List.replicate n (.string ⟨#[]⟩) := by simp [sRow, HN.out]
      rw [e]; exact h
    case round =>
      obtain ⟨k, rfl, hk, hrow, hb⟩ := hrel
      have hlw := (hrow.lt w.heap.size rfl).2
      by_cases hlt : k < n
      · obtain ⟨x, hx⟩ : ∃ x, ls[k]? = some x := ⟨_, List.getElem?_eq_getElem (by rw [← HN.out]; exact hlt)⟩
        obtain ⟨g, o, rfl, hg, hcx⟩ := HR.out k x hx
        have c0 := (hb.cell (p := ⟨g, o + k, none⟩) (hB g hg)).trans hcx
        clear hcx
        have d0 : wr.cell? ⟨w.heap.size, k, none⟩ = some (.string ⟨#[]⟩) := (hrow.cellAt k (by omega)).trans (sRow_at ls k (by rw [← HN.out]; exact hlt))
        have d1 : wr.frozen? ⟨w.heap.size, k, none⟩ = false := hrow.frozenAt k
        have hst := (hrow.stored k (.string x)).1
        rw [sRow_set ls k x hx] at hst
        clear hx
        go_wp2_with (go_at_call 103; refine (ident_any _ _).mono ?_; rintro e w1 ⟨rfl, rfl⟩)
        go_roundw
        case rel => exact ⟨k + 1, by go_num, by omega, hst, hb.setCell (p := ⟨w.heap.size, k, none⟩) (Nat.le_refl _) _⟩
        case measure => simp [intOf]; omega
      · obtain rfl : k = n := by omega
        clear hmk
        go_wp2_with fail
        go_ret
        refine ⟨_, _, _, rfl, ⟨.inr ⟨w.heap.size, 0, k, by rw [HN.out], ⟨Nat.le_refl _, hlw⟩, by rw [HN.out]; exact Nat.le_refl _, fun j s hj => ?_⟩, by unfold maxLen; have := HN.out; omega, hsz⟩, hb⟩
        have hj' : j < ls.length := (List.getElem?_eq_some_iff.1 hj).1
        rw [Nat.zero_add, hrow.cellAt j (by rw [Nat.mul_one, HN.out]; exact hj'), HN.out, sRow_all, List.getElem?_map, hj]; rfl

end Go.Proofs.YtliijbcgkkiekaaDoor

/- Types: a list of types, mapped by a function value into new memory. -/
namespace Go.Proofs.YtliijbcgkkiekaaDoor
open Go.RowKit Go.Deep

/-- A type in new memory is returned. -/
def TyRet (w : World) (g : Ty) (e : Ending) (w' : World) : Prop :=
  ∃ la ln lc ka kn kc, e = .returned (.agg #[.int .i64 g.k, .int .i64 g.p, .string g.n, .int .i64 g.s, .slice la ln lc, .slice ka kn kc]) ∧
    TyVal (Fresh w.heap.size w'.heap.size) w' (.agg #[.int .i64 g.k, .int .i64 g.p, .string g.n, .int .i64 g.s, .slice la ln lc, .slice ka kn kc]) g ∧ Below w.heap.size w w'
/-- A list of types in new memory is returned. -/
def TysRet (w : World) (gs : List Ty) (e : Ending) (w' : World) : Prop :=
  ∃ ka kn kc, e = .returned (.slice ka kn kc) ∧ TySl (Fresh w.heap.size w'.heap.size) w' (.slice ka kn kc) gs ∧ Below w.heap.size w w'
/-- What the function value does to each type of a list. -/
def MapsTo (f : Nat) (caps : Array Value) (B : Nat → Prop) (w0 : World) (ts : List Ty) (g : Ty → Ty) : Prop :=
  ∀ t ∈ ts, ∀ (v : Value) (wr : World), Below w0.heap.size w0 wr → TyVal B wr v t → Calls Tryd.prog f (#[v] ++ caps) wr (TyRet wr (g t))

theorem tyInfo : (Tryd.prog.info? 25).map (fun i => (i.zero, i.size, i.bytes)) = some (some (.agg #[.int .i64 0, .int .i64 0, .string ⟨#[]⟩, .int .i64 0, .slice none 0 0, .slice none 0 0]), 6, 88) := by kernel_rfl

/-- What lies in the block that is being filled: k types stand. -/
structure Filled (g n : Nat) (gs : List Ty) (k : Nat) (w : World) : Prop where
  block : ∃ cs, w.heap[g]? = some (.cells cs 25 (0, 0)) ∧ cs.size = n * 6
  done : ∀ i t, i < k → gs[i]? = some t → ∃ v5 v6, w.cell? ⟨g, i * 6, none⟩ = some (.int .i64 t.k) ∧ w.cell? ⟨g, i * 6 + 1, none⟩ = some (.int .i64 t.p) ∧ w.cell? ⟨g, i * 6 + 2, none⟩ = some (.string t.n) ∧ w.cell? ⟨g, i * 6 + 3, none⟩ = some (.int .i64 t.s) ∧
    w.cell? ⟨g, i * 6 + 4, none⟩ = some v5 ∧ w.cell? ⟨g, i * 6 + 5, none⟩ = some v6 ∧ TyVal (Fresh (g + 1) w.heap.size) w (.agg #[.int .i64 t.k, .int .i64 t.p, .string t.n, .int .i64 t.s, v5, v6]) t

theorem Filled.to {g n k : Nat} {gs : List Ty} {w w' : World} (h : Filled g n gs k w) (hb : Below w.heap.size w w') : Filled g n gs k w' := by
  obtain ⟨cs, hcs, hz⟩ := h.block
  have hg := (Array.getElem?_eq_some_iff.1 hcs).1
  refine ⟨⟨cs, (hb.block g hg).trans hcs, hz⟩, fun i t hi ht => ?_⟩
  obtain ⟨v5, v6, c0, c1, c2, c3, c4, c5, hv⟩ := h.done i t hi ht
  refine ⟨v5, v6, (hb.cell (p := ⟨g, _, none⟩) hg).trans c0, (hb.cell (p := ⟨g, _, none⟩) hg).trans c1, (hb.cell (p := ⟨g, _, none⟩) hg).trans c2, (hb.cell (p := ⟨g, _, none⟩) hg).trans c3, (hb.cell (p := ⟨g, _, none⟩) hg).trans c4, (hb.cell (p := ⟨g, _, none⟩) hg).trans c5, ?_⟩
  exact (hv.to (fun k hk => hk.2) hb).mono (Fresh.mono (Nat.le_refl _) hb.size)
theorem cell_in {w : World} {g : Nat} {cs : Array Value} {t : TypeId} {fr : Nat × Nat} (h : w.heap[g]? = some (.cells cs t fr)) {j : Nat} (hj : j < cs.size) : ∃ x, w.cell? ⟨g, j, none⟩ = some x := ⟨cs[j], by simp [World.cell?, h, hj]⟩
theorem frozen_of_block {w : World} {g : Nat} {cs : Array Value} {t : TypeId} (h : w.heap[g]? = some (.cells cs t (0, 0))) (j : Nat) : w.frozen? ⟨g, j, none⟩ = false := by simp [World.frozen?, h]

theorem heap_setCells_other {g k : Nat} (h : k ≠ g) : ∀ (vs : List Value) (o : Nat) (w : World), (w.setCells g o vs).heap[k]? = w.heap[k]?
  | [], _, _ => rfl
  | v :: r, o, w => by
    show ((w.setCell ⟨g, o, none⟩ v).setCells g (o + 1) r).heap[k]? = _
    rw [heap_setCells_other h r (o + 1)]
    exact Below.heap_setCell _ _ _ k h
theorem heap_setCells_same {g : Nat} : ∀ (vs : List Value) (o : Nat) (w : World) (cs : Array Value) (t : TypeId), w.heap[g]? = some (.cells cs t (0, 0)) → ∃ cs', (w.setCells g o vs).heap[g]? = some (.cells cs' t (0, 0)) ∧ cs'.size = cs.size
  | [], _, _, cs, t, h => ⟨cs, h, rfl⟩
  | v :: r, o, w, cs, t, h => by
    have h1 : (w.setCell ⟨g, o, none⟩ v).heap[g]? = some (.cells (cs.setIfInBounds o v) t (0, 0)) := by
      obtain ⟨hlt, hk⟩ := Array.getElem?_eq_some_iff.1 h
      show (w.heap.modify g _)[g]? = _
      rw [Array.getElem?_eq_getElem (by rw [Array.size_modify]; exact hlt), Array.getElem_modify_self, hk]
      rfl
    obtain ⟨cs', h2, h3⟩ := heap_setCells_same r (o + 1) _ _ t h1
    exact ⟨cs', h2, by rw [h3]; simp⟩
theorem setCells6 (w : World) (g o : Nat) (a b c d e f : Value) : w.setCells g o [a, b, c, d, e, f] = (((((w.setCell ⟨g, o, none⟩ a).setCell ⟨g, o + 1, none⟩ b).setCell ⟨g, o + 2, none⟩ c).setCell ⟨g, o + 3, none⟩ d).setCell ⟨g, o + 4, none⟩ e).setCell ⟨g, o + 5, none⟩ f := rfl
theorem below_setCells {B : Nat} (g : Nat) (hg : B ≤ g) : ∀ (vs : List Value) (o : Nat) (w : World), Below B w (w.setCells g o vs)
  | [], _, _ => Below.refl _ _
  | v :: r, o, w => ((Below.refl B w).setCell (p := ⟨g, o, none⟩) hg v).trans (below_setCells g hg r (o + 1) _)
theorem size_setCells (g : Nat) : ∀ (vs : List Value) (o : Nat) (w : World), (w.setCells g o vs).heap.size = w.heap.size
  | [], _, _ => rfl
  | v :: r, o, w => by
    show ((w.setCell ⟨g, o, none⟩ v).setCells g (o + 1) r).heap.size = _
    rw [size_setCells g r (o + 1)]; simp
theorem tyAt_of {B : Nat → Prop} {w : World} {t : Ty} {b o : Nat} {v5 v6 : Value} (hb : B b) (c0 : w.cell? ⟨b, o, none⟩ = some (.int .i64 t.k)) (c1 : w.cell? ⟨b, o + 1, none⟩ = some (.int .i64 t.p)) (c2 : w.cell? ⟨b, o + 2, none⟩ = some (.string t.n)) (c3 : w.cell? ⟨b, o + 3, none⟩ = some (.int .i64 t.s))
    (c4 : w.cell? ⟨b, o + 4, none⟩ = some v5) (c5 : w.cell? ⟨b, o + 5, none⟩ = some v6) (h : TyVal B w (.agg #[.int .i64 t.k, .int .i64 t.p, .string t.n, .int .i64 t.s, v5, v6]) t) : TyAt B w t b o := by
  obtain ⟨lv, kv, e, hn, hl, hk⟩ := h
  simp only [Value.agg.injEq, Array.mk.injEq, List.cons.injEq, and_true, true_and] at e
  obtain ⟨rfl, rfl⟩ := e
  exact TyAt.eq.2 ⟨hb, hn, ⟨c0, c1, c2, c3⟩, _, _, c4, c5, hl, hk⟩
theorem tysAt_of {B : Nat → Prop} {w : World} : ∀ {ts : List Ty} {b o : Nat}, (∀ i t, ts[i]? = some t → TyAt B w t b (o + i * 6)) → TysAt B w ts b o
  | [], _, _, _ => by simp [TysAt]
  | t :: r, b, o, h => by
    simp only [TysAt]
    refine ⟨by simpa using h 0 t rfl, tysAt_of (fun i u hi => ?_)⟩
    have := h (i + 1) u (by simpa using hi)
    rw [show o + 6 + i * 6 = o + (i + 1) * 6 by omega]; exact this
theorem Filled.store {g n k : Nat} {gs : List Ty} {w : World} (h : Filled g n gs k w) (hk : k < n) {t : Ty} (ht : gs[k]? = some t) {v5 v6 : Value} (hv : TyVal (Fresh (g + 1) w.heap.size) w (.agg #[.int .i64 t.k, .int .i64 t.p, .string t.n, .int .i64 t.s, v5, v6]) t) :
    Filled g n gs (k + 1) (w.setCells g (k * 6) [.int .i64 t.k, .int .i64 t.p, .string t.n, .int .i64 t.s, v5, v6]) := by
  obtain ⟨cs, hcs, hz⟩ := h.block
  obtain ⟨cs', h1, h2⟩ := heap_setCells_same [.int .i64 t.k, .int .i64 t.p, .string t.n, .int .i64 t.s, v5, v6] (k * 6) w cs _ hcs
  have hkeep : Keeps (Fresh (g + 1) w.heap.size) w (w.setCells g (k * 6) [.int .i64 t.k, .int .i64 t.p, .string t.n, .int .i64 t.s, v5, v6]) := fun j o hj ho _ => (heap_setCells_other (by have := hj.1; omega) _ _ _).trans ho
  have hsz := size_setCells g [.int .i64 t.k, .int .i64 t.p, .string t.n, .int .i64 t.s, v5, v6] (k * 6) w
  refine ⟨⟨cs', h1, by omega⟩, fun i u hi hu => ?_⟩
  by_cases e : i = k
  · subst e
    rw [ht] at hu; cases hu
    have hin := World.cell?_setCells_in g [.int .i64 t.k, .int .i64 t.p, .string t.n, .int .i64 t.s, v5, v6] (i * 6) w (fun j hj => by
      obtain ⟨x, hx⟩ := cell_in hcs (j := i * 6 + j) (by simp at hj; omega)
      rw [hx]; rfl)
    exact ⟨v5, v6, hin 0 (by simp), hin 1 (by simp), hin 2 (by simp), hin 3 (by simp), hin 4 (by simp), hin 5 (by simp), by rw [hsz]; exact hv.keep hkeep⟩
  · obtain ⟨u5, u6, c0, c1, c2, c3, c4, c5, hu'⟩ := h.done i u (by omega) hu
    have hout : ∀ j, j < 6 → (w.setCells g (k * 6) [.int .i64 t.k, .int .i64 t.p, .string t.n, .int .i64 t.s, v5, v6]).cell? ⟨g, i * 6 + j, none⟩ = w.cell? ⟨g, i * 6 + j, none⟩ := fun j hj =>
      World.cell?_setCells_out g _ _ _ _ (fun _ _ => .inl (by simp; omega))
    exact ⟨u5, u6, (hout 0 (by omega)).trans c0, (hout 1 (by omega)).trans c1, (hout 2 (by omega)).trans c2, (hout 3 (by omega)).trans c3, (hout 4 (by omega)).trans c4, (hout 5 (by omega)).trans c5, by rw [hsz]; exact hu'.keep hkeep⟩

set_option maxHeartbeats 1000000 in
set_option maxRecDepth 100000 in
theorem mappedT_any (B : Nat → Prop) (kv : Value) (ts : List Ty) (g : Ty → Ty) (f : Nat) (caps : Array Value) (hn : ts.length ≤ 1048576) (w : World) (hB : Low B w) (h : TySl B w kv ts) (eg : ∀ args w, (callFunc f args).run Tryd.prog w = .ok (.enter f args) w) (hf : MapsTo f caps B w ts g) :
    Calls Tryd.prog 104 #[kv, .func (.func f) #[] caps] w (TysRet w (ts.map g)) := by
  rcases h.parts with ⟨c, rfl, rfl⟩ | ⟨ad, c, rfl, hrow⟩
  · have hq := eqK none 0 c
    go_enter Tryd.func104, Tryd.ntmps104
    go_wp2_with fail
    go_ret
    exact ⟨_, _, _, rfl, ⟨.inl ⟨⟨_, _, rfl⟩, rfl⟩, by simp [maxLen]⟩, Below.refl _ _⟩
  · obtain ⟨n, hn'⟩ : ∃ n, n = ts.length := ⟨_, rfl⟩
    obtain ⟨i0, hi, hz0, hz1, hz2⟩ := info_parts tyInfo
    have hmk := fun w => run_make (P := Tryd.prog) w 23 25 i0 _ Tryd.underlying23 hi hz0 .i64 .i64 n n (by omega) (Int.le_refl _) (by rw [hz2]; omega) (by omega)
    have hsz := hz1
    rw [hz1] at hmk
    simp only [Int.toNat_natCast, Value.cells] at hmk
    have hq := eqK (some ad) n c
    rw [← hn'] at hn ⊢
    have HN := Lib.hid hn'
    have HR := Lib.hid hrow
    have HF := Lib.hid hf
    clear hn' hrow hf hi hz0 hz1 hz2 hsz h
    go_enter Tryd.func104, Tryd.ntmps104
    go_wp2_with fail
    clear hq
    go_loopw [15] (fun i wr => ∃ k : Nat, i = .int .i64 k ∧ k ≤ n ∧ Filled w.heap.size n (ts.map g) k wr ∧ Below w.heap.size w wr) (fun i _ => n - (intOf i).toNat)
    case atStart =>
      refine ⟨0, rfl, by omega, ⟨⟨_, World.alloc_heap_new w _, by rw [size_madeCells]⟩, fun i t hi => by omega⟩, (Below.refl _ _).alloc (Nat.le_refl _) _⟩
    case round =>
      obtain ⟨k, rfl, hk, hfill, hb⟩ := hrel
      by_cases hlt : k < n
      · obtain ⟨t, ht⟩ : ∃ t, ts[k]? = some t := ⟨_, List.getElem?_eq_getElem (by rw [← HN.out]; exact hlt)⟩
        obtain ⟨b, o, rfl, hg, htat⟩ := HR.out k t ht
        have hgw := hB b hg
        obtain ⟨la, ln, lc, ka, kn, kc, ⟨a0, a1, a2, a3, a4, a5⟩, hval⟩ := (htat.keep (hb.keeps'.mono hB)).load'
        clear htat
        have hbx := blkBelow wr #[.int .i64 t.k, .int .i64 t.p, .string t.n, .int .i64 t.s, .slice la ln lc, .slice ka kn kc] 25
        have IH := Lib.hid (HF.out t (List.mem_of_getElem? ht) _ _ (below_seq hb hbx) (hval.to (hB.le hb.size) hbx))
        clear hmk
        go_wp2_with fail
        refine IH.out.mono ?_
        rintro e w2 ⟨la', ln', lc', ka', kn', kc', rfl, hval2, hb2⟩
        have hfill2 := hfill.to (below_seq hbx hb2)
        obtain ⟨cs, hcs, hcz⟩ := hfill2.block
        have hfz := frozen_of_block hcs
        obtain ⟨x0, d0⟩ := cell_in hcs (j := k * 6) (by omega)
        obtain ⟨x1, d1⟩ := cell_in hcs (j := k * 6 + 1) (by omega)
        obtain ⟨x2, d2⟩ := cell_in hcs (j := k * 6 + 2) (by omega)
        obtain ⟨x3, d3⟩ := cell_in hcs (j := k * 6 + 3) (by omega)
        obtain ⟨x4, d4⟩ := cell_in hcs (j := k * 6 + 4) (by omega)
        obtain ⟨x5, d5⟩ := cell_in hcs (j := k * 6 + 5) (by omega)
        have HCS := Lib.hid hcs
        clear hcs
        go_wp2_with fail
        have hg2 := (hval2.to (fun k hk => hk.2) (Below.refl _ _)).mono (Fresh.mono (c := w.heap.size + 1) (d := w2.heap.size) (by have := hb.size; have h3 : w.heap.size < wr.heap.size := (Array.getElem?_eq_some_iff.1 (hfill.block.choose_spec.1)).1; simp; omega) (Nat.le_refl _))
        have hst := hfill2.store (by omega) (t := g t) (by rw [List.getElem?_map, ht]; rfl) hg2
        have hbs := (below_seq (below_seq hb hbx) hb2).trans (below_setCells w.heap.size (Nat.le_refl _) [.int .i64 (g t).k, .int .i64 (g t).p, .string (g t).n, .int .i64 (g t).s, .slice la' ln' lc', .slice ka' kn' kc'] (k * 6) w2)
        rw [setCells6] at hst hbs
        go_roundw
        case rel => exact ⟨k + 1, by go_num, by omega, hst, hbs⟩
        case measure => simp [intOf]; omega
      · obtain rfl : k = n := by omega
        clear hmk
        go_wp2_with fail
        go_ret
        have hgl : w.heap.size < wr.heap.size := (Array.getElem?_eq_some_iff.1 (hfill.block.choose_spec.1)).1
        refine ⟨_, _, _, rfl, ⟨.inr ⟨w.heap.size, 0, k, by rw [List.length_map, HN.out], ⟨Nat.le_refl _, hgl⟩, ?_⟩, by rw [List.length_map, ← HN.out]; unfold maxLen; omega⟩, hb⟩
        exact tysAt_of (fun i t hi => by
          have hlt' : i < k := by have := (List.getElem?_eq_some_iff.1 hi).1; rw [List.length_map] at this; have := HN.out; omega
          obtain ⟨v5, v6, c0, c1, c2, c3, c4, c5, hv⟩ := hfill.done i t hlt' hi
          rw [Nat.zero_add]
          exact tyAt_of ⟨Nat.le_refl _, hgl⟩ c0 c1 c2 c3 c4 c5 (hv.mono (Fresh.mono (Nat.le_succ _) (Nat.le_refl _))))

end Go.Proofs.YtliijbcgkkiekaaDoor

/- Processes as trees: a datatype for them, how they lie in memory, and that they go on lying so. -/
namespace Go.Proofs.YtliijbcgkkiekaaDoor
open Go.RowKit

structure Vl where
  k : Int
  n : ByteArray
  x : Int
inductive Pr where
  | mk (k : Int) (c x : ByteArray) (ls : List ByteArray) (vs : List Vl) (t : Ty) (ps : List Pr)
instance : Inhabited Pr := ⟨.mk 0 ⟨#[]⟩ ⟨#[]⟩ [] [] default []⟩

namespace Pr
def k : Pr → Int | .mk k _ _ _ _ _ _ => k
def c : Pr → ByteArray | .mk _ c _ _ _ _ _ => c
def x : Pr → ByteArray | .mk _ _ x _ _ _ _ => x
def ls : Pr → List ByteArray | .mk _ _ _ ls _ _ _ => ls
def vs : Pr → List Vl | .mk _ _ _ _ vs _ _ => vs
def t : Pr → Ty | .mk _ _ _ _ _ t _ => t
def ps : Pr → List Pr | .mk _ _ _ _ _ _ ps => ps
end Pr

mutual
theorem Pr.ind {M : Pr → Prop} (h : ∀ k c x ls vs t ps, (∀ p ∈ ps, M p) → M (.mk k c x ls vs t ps)) : ∀ p, M p
  | .mk k c x ls vs t ps => h k c x ls vs t ps (Pr.inds h ps)
theorem Pr.inds {M : Pr → Prop} (h : ∀ k c x ls vs t ps, (∀ p ∈ ps, M p) → M (.mk k c x ls vs t ps)) : ∀ ps : List Pr, ∀ p ∈ ps, M p
  | [], _, hm => by cases hm
  | p :: r, u, hm => by
    rcases List.mem_cons.1 hm with e | hm
    · rw [e]; exact Pr.ind h p
    · exact Pr.inds h r u hm
end

/-! ### Measures -/
mutual
def Pr.size : Pr → Nat
  | .mk _ _ _ _ _ _ ps => Pr.sizes ps + 1
def Pr.sizes : List Pr → Nat
  | [] => 0
  | p :: r => p.size + Pr.sizes r
end
mutual
def Pr.depth : Pr → Nat
  | .mk _ _ _ _ _ _ ps => Pr.depths ps + 1
def Pr.depths : List Pr → Nat
  | [] => 0
  | p :: r => max p.depth (Pr.depths r)
end
theorem Pr.size_eq (p : Pr) : p.size = Pr.sizes p.ps + 1 := by cases p; simp [Pr.size, Pr.ps]
theorem Pr.depth_eq (p : Pr) : p.depth = Pr.depths p.ps + 1 := by cases p; simp [Pr.depth, Pr.ps]
theorem Pr.size_pos (p : Pr) : 1 ≤ p.size := by rw [Pr.size_eq]; omega
theorem Pr.depth_pos (p : Pr) : 1 ≤ p.depth := by rw [Pr.depth_eq]; omega
theorem Pr.sizes_append (l r : List Pr) : Pr.sizes (l ++ r) = Pr.sizes l + Pr.sizes r := by
  induction l with
  | nil => simp [Pr.sizes]
  | cons t l ih => simp only [List.cons_append, Pr.sizes, ih]; omega
theorem Pr.depths_append (l r : List Pr) : Pr.depths (l ++ r) = max (Pr.depths l) (Pr.depths r) := by
  induction l with
  | nil => simp [Pr.depths]
  | cons t l ih => simp only [List.cons_append, Pr.depths, ih]; omega
theorem Pr.sizes_take {l : List Pr} {i : Nat} {p : Pr} (h : l[i]? = some p) : Pr.sizes (l.take (i + 1)) = Pr.sizes (l.take i) + p.size := by
  rw [take_snoc_get h, Pr.sizes_append]; simp [Pr.sizes]
theorem Pr.depths_take {l : List Pr} {i : Nat} {p : Pr} (h : l[i]? = some p) : Pr.depths (l.take (i + 1)) = max (Pr.depths (l.take i)) p.depth := by
  rw [take_snoc_get h, Pr.depths_append]; simp [Pr.depths]
theorem Pr.sizes_take_le (l : List Pr) (i : Nat) : Pr.sizes (l.take i) ≤ Pr.sizes l := by
  have := Pr.sizes_append (l.take i) (l.drop i); rw [List.take_append_drop] at this; omega
theorem Pr.depths_take_le (l : List Pr) (i : Nat) : Pr.depths (l.take i) ≤ Pr.depths l := by
  have := Pr.depths_append (l.take i) (l.drop i); rw [List.take_append_drop] at this; omega
theorem Pr.depth_mem {l : List Pr} {p : Pr} (h : p ∈ l) : p.depth ≤ Pr.depths l := by
  induction l with
  | nil => cases h
  | cons u l ih =>
    simp only [Pr.depths]
    rcases List.mem_cons.1 h with rfl | h
    · omega
    · have := ih h; omega
theorem Pr.size_mem {l : List Pr} {p : Pr} (h : p ∈ l) : p.size ≤ Pr.sizes l := by
  induction l with
  | nil => cases h
  | cons u l ih =>
    simp only [Pr.sizes]
    rcases List.mem_cons.1 h with rfl | h
    · omega
    · have := ih h; omega
theorem Pr.length_sizes (l : List Pr) : l.length ≤ Pr.sizes l := by
  induction l with
  | nil => simp
  | cons u l ih => simp only [Pr.sizes, List.length_cons]; have := u.size_pos; omega
mutual
theorem Pr.depth_le_size : ∀ p : Pr, p.depth ≤ p.size
  | .mk k c x ls vs t ps => by have := Pr.depths_le_sizes ps; simp only [Pr.depth, Pr.size]; omega
theorem Pr.depths_le_sizes : ∀ ps : List Pr, Pr.depths ps ≤ Pr.sizes ps
  | [] => by simp [Pr.depths, Pr.sizes]
  | p :: r => by have := Pr.depth_le_size p; have := Pr.depths_le_sizes r; simp only [Pr.depths, Pr.sizes]; omega
end

/-! ### In memory -/
/-- A value that is a slice of values. -/
def VlRow (w : World) (b o : Nat) (vs : List Vl) : Prop := ∀ (j : Nat) (a : Vl), vs[j]? = some a → w.cell? ⟨b, o + j * 3, none⟩ = some (.int .i64 a.k) ∧ w.cell? ⟨b, o + j * 3 + 1, none⟩ = some (.string a.n) ∧ w.cell? ⟨b, o + j * 3 + 2, none⟩ = some (.int .i64 a.x)
def VlSl (B : Nat → Prop) (w : World) (v : Value) (vs : List Vl) : Prop :=
  (((∃ a c, v = .slice a 0 c) ∧ vs = []) ∨ ∃ b o c, v = .slice (some ⟨b, o, none⟩) vs.length c ∧ B b ∧ vs.length ≤ c ∧ VlRow w b o vs) ∧ vs.length ≤ maxLen ∧ ∀ a ∈ vs, a.n.size ≤ maxLen

mutual
/-- A process lies at cell o of block b. -/
def PrAt (B : Nat → Prop) (w : World) : Pr → Nat → Nat → Prop
  | .mk k c x ls vs t ps, b, o => B b ∧ (c.size ≤ maxLen ∧ x.size ≤ maxLen) ∧
      (w.cell? ⟨b, o, none⟩ = some (.int .i64 k) ∧ w.cell? ⟨b, o + 1, none⟩ = some (.string c) ∧ w.cell? ⟨b, o + 2, none⟩ = some (.string x)) ∧
      TyAt B w t b (o + 5) ∧
      ∃ lv av kv, w.cell? ⟨b, o + 3, none⟩ = some lv ∧ w.cell? ⟨b, o + 4, none⟩ = some av ∧ w.cell? ⟨b, o + 11, none⟩ = some kv ∧ StrSl B w lv ls ∧ VlSl B w av vs ∧
        (((∃ a c, kv = .slice a 0 c) ∧ ps = []) ∨ ∃ kb ko c, kv = .slice (some ⟨kb, ko, none⟩) ps.length c ∧ B kb ∧ PrsAt B w ps kb ko) ∧ ps.length ≤ maxLen
/-- Processes lie one behind the other from cell o of block b on. -/
def PrsAt (B : Nat → Prop) (w : World) : List Pr → Nat → Nat → Prop
  | [], _, _ => True
  | p :: r, b, o => PrAt B w p b o ∧ PrsAt B w r b (o + 12)
end
/-- A value that is a slice of processes. -/
def PrSl (B : Nat → Prop) (w : World) (kv : Value) (ps : List Pr) : Prop :=
  (((∃ a c, kv = .slice a 0 c) ∧ ps = []) ∨ ∃ kb ko c, kv = .slice (some ⟨kb, ko, none⟩) ps.length c ∧ B kb ∧ PrsAt B w ps kb ko) ∧ ps.length ≤ maxLen
/-- The twelve cells of a process. -/
abbrev prAgg (p : Pr) (lv av tl tk kv : Value) : Value := .agg #[.int .i64 p.k, .string p.c, .string p.x, lv, av, .int .i64 p.t.k, .int .i64 p.t.p, .string p.t.n, .int .i64 p.t.s, tl, tk, kv]
/-- A value that is a process. -/
def PrVal (B : Nat → Prop) (w : World) (v : Value) (p : Pr) : Prop :=
  ∃ lv av tl tk kv, v = prAgg p lv av tl tk kv ∧ (p.c.size ≤ maxLen ∧ p.x.size ≤ maxLen) ∧ StrSl B w lv p.ls ∧ VlSl B w av p.vs ∧ TyVal B w (.agg #[.int .i64 p.t.k, .int .i64 p.t.p, .string p.t.n, .int .i64 p.t.s, tl, tk]) p.t ∧ PrSl B w kv p.ps

theorem PrAt.eq {B : Nat → Prop} {w : World} {p : Pr} {b o : Nat} : PrAt B w p b o ↔ B b ∧ (p.c.size ≤ maxLen ∧ p.x.size ≤ maxLen) ∧
      (w.cell? ⟨b, o, none⟩ = some (.int .i64 p.k) ∧ w.cell? ⟨b, o + 1, none⟩ = some (.string p.c) ∧ w.cell? ⟨b, o + 2, none⟩ = some (.string p.x)) ∧
      TyAt B w p.t b (o + 5) ∧
      ∃ lv av kv, w.cell? ⟨b, o + 3, none⟩ = some lv ∧ w.cell? ⟨b, o + 4, none⟩ = some av ∧ w.cell? ⟨b, o + 11, none⟩ = some kv ∧ StrSl B w lv p.ls ∧ VlSl B w av p.vs ∧ PrSl B w kv p.ps := by
  cases p; simp only [PrAt, PrSl, Pr.k, Pr.c, Pr.x, Pr.t, Pr.ls, Pr.vs, Pr.ps]

theorem VlSl.keep {B : Nat → Prop} {w w' : World} (h : Keeps B w w') {v : Value} {vs : List Vl} (hv : VlSl B w v vs) : VlSl B w' v vs := by
  refine ⟨?_, hv.2⟩
  rcases hv.1 with h1 | ⟨b, o, c, h1, h2, hc, h3⟩
  · exact .inl h1
  · exact .inr ⟨b, o, c, h1, h2, hc, fun j a hj => ⟨h.cell h2 (h3 j a hj).1, h.cell h2 (h3 j a hj).2.1, h.cell h2 (h3 j a hj).2.2⟩⟩
theorem VlSl.mono {B C : Nat → Prop} {w : World} (h : ∀ k, B k → C k) {v : Value} {vs : List Vl} (hv : VlSl B w v vs) : VlSl C w v vs := by
  refine ⟨?_, hv.2⟩
  rcases hv.1 with h1 | ⟨b, o, c, h1, h2, hc, h3⟩
  · exact .inl h1
  · exact .inr ⟨b, o, c, h1, h _ h2, hc, h3⟩
mutual
theorem PrAt.keep {B : Nat → Prop} {w w' : World} (h : Keeps B w w') : ∀ (p : Pr) (b o : Nat), PrAt B w p b o → PrAt B w' p b o
  | .mk k c x ls vs t ps, b, o, hp => by
    simp only [PrAt] at hp ⊢
    obtain ⟨hb, hn, ⟨c0, c1, c2⟩, ht, lv, av, kv, c3, c4, c11, hl, ha, hk, hm⟩ := hp
    refine ⟨hb, hn, ⟨h.cell hb c0, h.cell hb c1, h.cell hb c2⟩, ht.keep h, lv, av, kv, h.cell hb c3, h.cell hb c4, h.cell hb c11, hl.keep h, ha.keep h, ?_, hm⟩
    rcases hk with h1 | ⟨kb, ko, c, h1, h2, h3⟩
    · exact .inl h1
    · exact .inr ⟨kb, ko, c, h1, h2, PrsAt.keep h ps kb ko h3⟩
theorem PrsAt.keep {B : Nat → Prop} {w w' : World} (h : Keeps B w w') : ∀ (ps : List Pr) (b o : Nat), PrsAt B w ps b o → PrsAt B w' ps b o
  | [], _, _, _ => by simp [PrsAt]
  | p :: r, b, o, hp => by
    simp only [PrsAt] at hp ⊢
    exact ⟨PrAt.keep h p b o hp.1, PrsAt.keep h r b (o + 12) hp.2⟩
end
theorem PrSl.keep {B : Nat → Prop} {w w' : World} (h : Keeps B w w') {v : Value} {ps : List Pr} (hv : PrSl B w v ps) : PrSl B w' v ps := by
  refine ⟨?_, hv.2⟩
  rcases hv.1 with h1 | ⟨b, o, c, h1, h2, h3⟩
  · exact .inl h1
  · exact .inr ⟨b, o, c, h1, h2, PrsAt.keep h _ _ _ h3⟩
theorem PrVal.keep {B : Nat → Prop} {w w' : World} (h : Keeps B w w') {v : Value} {p : Pr} (hv : PrVal B w v p) : PrVal B w' v p := by
  obtain ⟨lv, av, tl, tk, kv, e, hn, hl, ha, ht, hk⟩ := hv
  exact ⟨lv, av, tl, tk, kv, e, hn, hl.keep h, ha.keep h, ht.keep h, hk.keep h⟩
mutual
theorem PrAt.mono {B C : Nat → Prop} {w : World} (h : ∀ k, B k → C k) : ∀ (p : Pr) (b o : Nat), PrAt B w p b o → PrAt C w p b o
  | .mk k c x ls vs t ps, b, o, hp => by
    simp only [PrAt] at hp ⊢
    obtain ⟨hb, hn, hc, ht, lv, av, kv, c3, c4, c11, hl, ha, hk, hm⟩ := hp
    refine ⟨h _ hb, hn, hc, ht.mono h, lv, av, kv, c3, c4, c11, hl.mono h, ha.mono h, ?_, hm⟩
    rcases hk with h1 | ⟨kb, ko, c, h1, h2, h3⟩
    · exact .inl h1
    · exact .inr ⟨kb, ko, c, h1, h _ h2, PrsAt.mono h ps kb ko h3⟩
theorem PrsAt.mono {B C : Nat → Prop} {w : World} (h : ∀ k, B k → C k) : ∀ (ps : List Pr) (b o : Nat), PrsAt B w ps b o → PrsAt C w ps b o
  | [], _, _, _ => by simp [PrsAt]
  | p :: r, b, o, hp => by
    simp only [PrsAt] at hp ⊢
    exact ⟨PrAt.mono h p b o hp.1, PrsAt.mono h r b (o + 12) hp.2⟩
end
theorem PrSl.mono {B C : Nat → Prop} {w : World} (h : ∀ k, B k → C k) {v : Value} {ps : List Pr} (hv : PrSl B w v ps) : PrSl C w v ps := by
  refine ⟨?_, hv.2⟩
  rcases hv.1 with h1 | ⟨b, o, c, h1, h2, h3⟩
  · exact .inl h1
  · exact .inr ⟨b, o, c, h1, h _ h2, PrsAt.mono h _ _ _ h3⟩
theorem PrVal.mono {B C : Nat → Prop} {w : World} (h : ∀ k, B k → C k) {v : Value} {p : Pr} (hv : PrVal B w v p) : PrVal C w v p := by
  obtain ⟨lv, av, tl, tk, kv, e, hn, hl, ha, ht, hk⟩ := hv
  exact ⟨lv, av, tl, tk, kv, e, hn, hl.mono h, ha.mono h, ht.mono h, hk.mono h⟩
theorem PrVal.to {B : Nat → Prop} {C : Nat} {w w' : World} (hBC : ∀ k, B k → k < C) (hb : Below C w w') {v : Value} {p : Pr} (hv : PrVal B w v p) : PrVal B w' v p := hv.keep (hb.keeps'.mono hBC)

theorem PrsAt.get {B : Nat → Prop} {w : World} : ∀ {ps : List Pr} {b o : Nat}, PrsAt B w ps b o → ∀ {i : Nat} {p : Pr}, ps[i]? = some p → PrAt B w p b (o + i * 12)
  | [], _, _, _, i, p, hi => by simp at hi
  | u :: r, b, o, h, i, p, hi => by
    simp only [PrsAt] at h
    cases i with
    | zero => simp at hi; subst hi; simpa using h.1
    | succ i =>
      have := PrsAt.get h.2 (i := i) (p := p) (by simpa using hi)
      rw [show o + (i + 1) * 12 = o + 12 + i * 12 by omega]; exact this
theorem prsAt_of {B : Nat → Prop} {w : World} : ∀ {ps : List Pr} {b o : Nat}, (∀ i p, ps[i]? = some p → PrAt B w p b (o + i * 12)) → PrsAt B w ps b o
  | [], _, _, _ => by simp [PrsAt]
  | p :: r, b, o, h => by
    simp only [PrsAt]
    refine ⟨by simpa using h 0 p rfl, prsAt_of (fun i u hi => ?_)⟩
    have := h (i + 1) u (by simpa using hi)
    rw [show o + 12 + i * 12 = o + (i + 1) * 12 by omega]; exact this
theorem PrSl.open {B : Nat → Prop} {w : World} {kv : Value} {ps : List Pr} (h : PrSl B w kv ps) :
    ∃ pa len c, kv = .slice pa len c ∧ Hid (len = ps.length) ∧ len ≤ 9223372036854775807 ∧ ∀ i p, ps[i]? = some p → ∃ kb ko, pa = some ⟨kb, ko, none⟩ ∧ B kb ∧ PrAt B w p kb (ko + i * 12) := by
  obtain ⟨h, hm⟩ := h
  unfold maxLen at hm
  rcases h with ⟨⟨a, c, rfl⟩, rfl⟩ | ⟨kb, ko, c, rfl, hkb, hrow⟩
  · exact ⟨a, 0, c, rfl, Lib.hid rfl, by omega, fun i t hi => by simp at hi⟩
  · exact ⟨_, _, _, rfl, Lib.hid rfl, by omega, fun i t hi => ⟨kb, ko, rfl, hkb, hrow.get hi⟩⟩
theorem VlSl.open {B : Nat → Prop} {w : World} {v : Value} {vs : List Vl} (h : VlSl B w v vs) :
    ∃ pa len c, v = .slice pa len c ∧ Hid (len = vs.length) ∧ len ≤ 9223372036854775807 ∧ ∀ i a, vs[i]? = some a → a.n.size ≤ maxLen ∧ ∃ kb ko, pa = some ⟨kb, ko, none⟩ ∧ B kb ∧ w.cell? ⟨kb, ko + i * 3, none⟩ = some (.int .i64 a.k) ∧ w.cell? ⟨kb, ko + i * 3 + 1, none⟩ = some (.string a.n) ∧ w.cell? ⟨kb, ko + i * 3 + 2, none⟩ = some (.int .i64 a.x) := by
  obtain ⟨h, hm, hz⟩ := h
  unfold maxLen at hm
  rcases h with ⟨⟨a, c, rfl⟩, rfl⟩ | ⟨b, o, c, rfl, hb, _, hrow⟩
  · exact ⟨a, 0, c, rfl, Lib.hid rfl, by omega, fun i t hi => by simp at hi⟩
  · exact ⟨_, _, _, rfl, Lib.hid rfl, by omega, fun i a hi => ⟨hz _ (List.mem_of_getElem? hi), b, o, rfl, hb, hrow i a hi⟩⟩
/-- The cells of a process, all slices written out, and the value that is loaded. -/
theorem PrAt.load' {B : Nat → Prop} {w : World} {p : Pr} {b o : Nat} (h : PrAt B w p b o) :
    ∃ (la : Option Addr) (ln lc : Nat) (aa : Option Addr) (an ac : Nat) (ta : Option Addr) (tn tc : Nat) (ua : Option Addr) (un uc : Nat) (ka : Option Addr) (kn kc : Nat),
      (w.cell? ⟨b, o, none⟩ = some (.int .i64 p.k) ∧ w.cell? ⟨b, o + 1, none⟩ = some (.string p.c) ∧ w.cell? ⟨b, o + 2, none⟩ = some (.string p.x) ∧ w.cell? ⟨b, o + 3, none⟩ = some (.slice la ln lc) ∧ w.cell? ⟨b, o + 4, none⟩ = some (.slice aa an ac) ∧
       w.cell? ⟨b, o + 5, none⟩ = some (.int .i64 p.t.k) ∧ w.cell? ⟨b, o + 6, none⟩ = some (.int .i64 p.t.p) ∧ w.cell? ⟨b, o + 7, none⟩ = some (.string p.t.n) ∧ w.cell? ⟨b, o + 8, none⟩ = some (.int .i64 p.t.s) ∧
       w.cell? ⟨b, o + 9, none⟩ = some (.slice ta tn tc) ∧ w.cell? ⟨b, o + 10, none⟩ = some (.slice ua un uc) ∧ w.cell? ⟨b, o + 11, none⟩ = some (.slice ka kn kc)) ∧
      PrVal B w (prAgg p (.slice la ln lc) (.slice aa an ac) (.slice ta tn tc) (.slice ua un uc) (.slice ka kn kc)) p := by
  obtain ⟨hb, hn, ⟨c0, c1, c2⟩, ht, lv, av, kv, c3, c4, c11, hl, ha, hk⟩ := PrAt.eq.1 h
  obtain ⟨ta, tn, tc, ua, un, uc, ⟨d0, d1, d2, d3, d4, d5⟩, htv⟩ := ht.load'
  obtain ⟨la, ln, lc, rfl, _⟩ := hl.open
  obtain ⟨aa, an, ac, rfl, _⟩ := ha.open
  obtain ⟨ka, kn, kc, rfl, _⟩ := hk.open
  exact ⟨la, ln, lc, aa, an, ac, ta, tn, tc, ua, un, uc, ka, kn, kc, ⟨c0, c1, c2, c3, c4, d0, d1, d2, d3, d4, d5, c11⟩, _, _, _, _, _, rfl, hn, hl, ha, htv, hk⟩
/-- A process from its cells. -/
theorem prAt_of {B : Nat → Prop} {w : World} {p : Pr} {b o : Nat} {lv av tl tk kv : Value} (hb : B b)
    (c0 : w.cell? ⟨b, o, none⟩ = some (.int .i64 p.k)) (c1 : w.cell? ⟨b, o + 1, none⟩ = some (.string p.c)) (c2 : w.cell? ⟨b, o + 2, none⟩ = some (.string p.x)) (c3 : w.cell? ⟨b, o + 3, none⟩ = some lv) (c4 : w.cell? ⟨b, o + 4, none⟩ = some av)
    (c5 : w.cell? ⟨b, o + 5, none⟩ = some (.int .i64 p.t.k)) (c6 : w.cell? ⟨b, o + 6, none⟩ = some (.int .i64 p.t.p)) (c7 : w.cell? ⟨b, o + 7, none⟩ = some (.string p.t.n)) (c8 : w.cell? ⟨b, o + 8, none⟩ = some (.int .i64 p.t.s))
    (c9 : w.cell? ⟨b, o + 9, none⟩ = some tl) (c10 : w.cell? ⟨b, o + 10, none⟩ = some tk) (c11 : w.cell? ⟨b, o + 11, none⟩ = some kv) (hv : PrVal B w (prAgg p lv av tl tk kv) p) : PrAt B w p b o := by
  obtain ⟨lv', av', tl', tk', kv', e, hn, hl, ha, ht, hk⟩ := hv
  simp only [prAgg, Value.agg.injEq, Array.mk.injEq, List.cons.injEq, and_true, true_and] at e
  obtain ⟨rfl, rfl, rfl, rfl, rfl⟩ := e
  exact PrAt.eq.2 ⟨hb, hn, ⟨c0, c1, c2⟩, tyAt_of hb c5 c6 c7 c8 c9 c10 ht, _, _, _, c3, c4, c11, hl, ha, hk⟩

end Go.Proofs.YtliijbcgkkiekaaDoor

/- Programs: a datatype for them, and how they lie in memory. -/
namespace Go.Proofs.YtliijbcgkkiekaaDoor
open Go.RowKit

structure Pm where
  n : ByteArray
  t : Ty
structure Df where
  n : ByteArray
  ms : List Pm
  b : Pr
structure Pg where
  ds : List Df
  m : Pr

/-- A parameter lies at cell o of block b. -/
def PmAt (B : Nat → Prop) (w : World) (a : Pm) (b o : Nat) : Prop := a.n.size ≤ maxLen ∧ w.cell? ⟨b, o, none⟩ = some (.string a.n) ∧ TyAt B w a.t b (o + 1)
theorem PmAt.keep {B : Nat → Prop} {w w' : World} (h : Keeps B w w') {a : Pm} {b o : Nat} (hb : B b) (ha : PmAt B w a b o) : PmAt B w' a b o := ⟨ha.1, h.cell hb ha.2.1, ha.2.2.keep h⟩
theorem PmAt.mono {B C : Nat → Prop} {w : World} (h : ∀ k, B k → C k) {a : Pm} {b o : Nat} (ha : PmAt B w a b o) : PmAt C w a b o := ⟨ha.1, ha.2.1, ha.2.2.mono h⟩
/-- A value that is a slice of parameters. -/
def PmSl (B : Nat → Prop) (w : World) (v : Value) (l : List Pm) : Prop :=
  (((∃ a c, v = .slice a 0 c) ∧ l = []) ∨ ∃ b o c, v = .slice (some ⟨b, o, none⟩) l.length c ∧ B b ∧ ∀ (j : Nat) (a : Pm), l[j]? = some a → PmAt B w a b (o + j * 7)) ∧ l.length ≤ maxLen
theorem PmSl.keep {B : Nat → Prop} {w w' : World} (h : Keeps B w w') {v : Value} {l : List Pm} (hv : PmSl B w v l) : PmSl B w' v l := by
  refine ⟨?_, hv.2⟩
  rcases hv.1 with h1 | ⟨b, o, c, h1, h2, h3⟩
  · exact .inl h1
  · exact .inr ⟨b, o, c, h1, h2, fun j a hj => PmAt.keep h h2 (h3 j a hj)⟩
theorem PmSl.mono {B C : Nat → Prop} {w : World} (h : ∀ k, B k → C k) {v : Value} {l : List Pm} (hv : PmSl B w v l) : PmSl C w v l := by
  refine ⟨?_, hv.2⟩
  rcases hv.1 with h1 | ⟨b, o, c, h1, h2, h3⟩
  · exact .inl h1
  · exact .inr ⟨b, o, c, h1, h _ h2, fun j a hj => PmAt.mono h (h3 j a hj)⟩
theorem PmSl.open {B : Nat → Prop} {w : World} {v : Value} {l : List Pm} (h : PmSl B w v l) :
    ∃ pa len c, v = .slice pa len c ∧ Hid (len = l.length) ∧ len ≤ 9223372036854775807 ∧ ∀ i a, l[i]? = some a → ∃ kb ko, pa = some ⟨kb, ko, none⟩ ∧ B kb ∧ PmAt B w a kb (ko + i * 7) := by
  obtain ⟨h, hm⟩ := h
  unfold maxLen at hm
  rcases h with ⟨⟨a, c, rfl⟩, rfl⟩ | ⟨kb, ko, c, rfl, hkb, hrow⟩
  · exact ⟨a, 0, c, rfl, Lib.hid rfl, by omega, fun i t hi => by simp at hi⟩
  · exact ⟨_, _, _, rfl, Lib.hid rfl, by omega, fun i t hi => ⟨kb, ko, rfl, hkb, hrow i t hi⟩⟩

/-- A definition lies at cell o of block b. -/
def DfAt (B : Nat → Prop) (w : World) (d : Df) (b o : Nat) : Prop := d.n.size ≤ maxLen ∧ w.cell? ⟨b, o, none⟩ = some (.string d.n) ∧ (∃ mv, w.cell? ⟨b, o + 1, none⟩ = some mv ∧ PmSl B w mv d.ms) ∧ PrAt B w d.b b (o + 2)
theorem DfAt.keep {B : Nat → Prop} {w w' : World} (h : Keeps B w w') {a : Df} {b o : Nat} (hb : B b) (ha : DfAt B w a b o) : DfAt B w' a b o := by
  obtain ⟨h1, h2, ⟨mv, h3, h4⟩, h5⟩ := ha
  exact ⟨h1, h.cell hb h2, ⟨mv, h.cell hb h3, h4.keep h⟩, PrAt.keep h _ _ _ h5⟩
theorem DfAt.mono {B C : Nat → Prop} {w : World} (h : ∀ k, B k → C k) {a : Df} {b o : Nat} (ha : DfAt B w a b o) : DfAt C w a b o := by
  obtain ⟨h1, h2, ⟨mv, h3, h4⟩, h5⟩ := ha
  exact ⟨h1, h2, ⟨mv, h3, h4.mono h⟩, PrAt.mono h _ _ _ h5⟩
/-- A value that is a slice of definitions. -/
def DfSl (B : Nat → Prop) (w : World) (v : Value) (l : List Df) : Prop :=
  (((∃ a c, v = .slice a 0 c) ∧ l = []) ∨ ∃ b o c, v = .slice (some ⟨b, o, none⟩) l.length c ∧ B b ∧ ∀ (j : Nat) (a : Df), l[j]? = some a → DfAt B w a b (o + j * 14)) ∧ l.length ≤ maxLen
theorem DfSl.keep {B : Nat → Prop} {w w' : World} (h : Keeps B w w') {v : Value} {l : List Df} (hv : DfSl B w v l) : DfSl B w' v l := by
  refine ⟨?_, hv.2⟩
  rcases hv.1 with h1 | ⟨b, o, c, h1, h2, h3⟩
  · exact .inl h1
  · exact .inr ⟨b, o, c, h1, h2, fun j a hj => DfAt.keep h h2 (h3 j a hj)⟩
theorem DfSl.mono {B C : Nat → Prop} {w : World} (h : ∀ k, B k → C k) {v : Value} {l : List Df} (hv : DfSl B w v l) : DfSl C w v l := by
  refine ⟨?_, hv.2⟩
  rcases hv.1 with h1 | ⟨b, o, c, h1, h2, h3⟩
  · exact .inl h1
  · exact .inr ⟨b, o, c, h1, h _ h2, fun j a hj => DfAt.mono h (h3 j a hj)⟩
theorem DfSl.open {B : Nat → Prop} {w : World} {v : Value} {l : List Df} (h : DfSl B w v l) :
    ∃ pa len c, v = .slice pa len c ∧ Hid (len = l.length) ∧ len ≤ 9223372036854775807 ∧ ∀ i a, l[i]? = some a → ∃ kb ko, pa = some ⟨kb, ko, none⟩ ∧ B kb ∧ DfAt B w a kb (ko + i * 14) := by
  obtain ⟨h, hm⟩ := h
  unfold maxLen at hm
  rcases h with ⟨⟨a, c, rfl⟩, rfl⟩ | ⟨kb, ko, c, rfl, hkb, hrow⟩
  · exact ⟨a, 0, c, rfl, Lib.hid rfl, by omega, fun i t hi => by simp at hi⟩
  · exact ⟨_, _, _, rfl, Lib.hid rfl, by omega, fun i t hi => ⟨kb, ko, rfl, hkb, hrow i t hi⟩⟩

/-- A program lies at cell o of block b. -/
def PgAt (B : Nat → Prop) (w : World) (g : Pg) (b o : Nat) : Prop := B b ∧ (∃ dv, w.cell? ⟨b, o, none⟩ = some dv ∧ DfSl B w dv g.ds) ∧ PrAt B w g.m b (o + 1)
theorem PgAt.keep {B : Nat → Prop} {w w' : World} (h : Keeps B w w') {g : Pg} {b o : Nat} (hg : PgAt B w g b o) : PgAt B w' g b o := by
  obtain ⟨hb, ⟨dv, h1, h2⟩, h3⟩ := hg
  exact ⟨hb, ⟨dv, h.cell hb h1, h2.keep h⟩, PrAt.keep h _ _ _ h3⟩
/-- A value that is a program. -/
def PgVal (B : Nat → Prop) (w : World) (v : Value) (g : Pg) : Prop :=
  ∃ dv lv av tl tk kv, v = .agg #[dv, .int .i64 g.m.k, .string g.m.c, .string g.m.x, lv, av, .int .i64 g.m.t.k, .int .i64 g.m.t.p, .string g.m.t.n, .int .i64 g.m.t.s, tl, tk, kv] ∧ DfSl B w dv g.ds ∧ PrVal B w (prAgg g.m lv av tl tk kv) g.m
theorem PgVal.keep {B : Nat → Prop} {w w' : World} (h : Keeps B w w') {v : Value} {g : Pg} (hv : PgVal B w v g) : PgVal B w' v g := by
  obtain ⟨dv, lv, av, tl, tk, kv, e, hd, hp⟩ := hv
  exact ⟨dv, lv, av, tl, tk, kv, e, hd.keep h, hp.keep h⟩
theorem PgVal.mono {B C : Nat → Prop} {w : World} (h : ∀ k, B k → C k) {v : Value} {g : Pg} (hv : PgVal B w v g) : PgVal C w v g := by
  obtain ⟨dv, lv, av, tl, tk, kv, e, hd, hp⟩ := hv
  exact ⟨dv, lv, av, tl, tk, kv, e, hd.mono h, hp.mono h⟩
theorem PgVal.to {B : Nat → Prop} {C : Nat} {w w' : World} (hBC : ∀ k, B k → k < C) (hb : Below C w w') {v : Value} {g : Pg} (hv : PgVal B w v g) : PgVal B w' v g := hv.keep (hb.keeps'.mono hBC)

end Go.Proofs.YtliijbcgkkiekaaDoor
