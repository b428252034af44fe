/- Copies in new memory, none of whose blocks is frozen: types. (and what follows from it) -/
import Derived.Test.YtipjjhkgcbabnaaDoorPk8
import Derived.Test.YtipjjhkgcbabnaaDoorPk7
import Derived.Test.YtipjjhkgcbabnaaDoorTyOd
import Derived.Test.YtipjjhkgcbabnaaDoorPk3
import Derived.Deep.RegionWith
import Derived.Maps.AppendAt

/- Copies in new memory, none of whose blocks is frozen: types. -/
namespace Go.Proofs.YtipjjhkgcbabnaaDoor
open Go.RowKit Go.Deep Go.Shelf

/-- A block of cells none of which is frozen. -/
def Uf (w : World) (k : Nat) : Prop := ∃ cs t, w.heap[k]? = some (.cells cs t (0, 0))
/-- New blocks, none of them frozen. -/
def FrU (w : World) (a b : Nat) : Nat → Prop := fun k => (a ≤ k ∧ k < b) ∧ Uf w k
theorem FrU.sub {w : World} {a b : Nat} : ∀ k, FrU w a b k → Fresh a b k := fun _ h => h.1
theorem Uf.keep {F : Nat → Prop} {w w' : World} (h : Keeps F w w') {k : Nat} (hf : F k) (hu : Uf w k) : Uf w' k := by
  obtain ⟨cs, t, h1⟩ := hu
  exact ⟨cs, t, h k _ hf h1 rfl⟩
theorem FrU.keeps {w0 w w' : World} {a b : Nat} (h : Keeps (Fresh a b) w w') : Keeps (FrU w0 a b) w w' := h.mono FrU.sub
theorem FrU.up {w w' : World} {a b c d : Nat} (h : Keeps (Fresh a b) w w') (h1 : c ≤ a) (h2 : b ≤ d) : ∀ k, FrU w a b k → FrU w' c d k := fun _ hk => ⟨⟨Nat.le_trans h1 hk.1.1, Nat.lt_of_lt_of_le hk.1.2 h2⟩, Uf.keep h hk.1 hk.2⟩
theorem FrU.mono {w : World} {a b c d : Nat} (h1 : c ≤ a) (h2 : b ≤ d) : ∀ k, FrU w a b k → FrU w c d k := fun _ hk => ⟨⟨Nat.le_trans h1 hk.1.1, Nat.lt_of_lt_of_le hk.1.2 h2⟩, hk.2⟩
theorem StrSl.up {w w' : World} {a b c d : Nat} {v : Value} {x : List ByteArray} (hv : StrSl (FrU w a b) w v x) (h : Keeps (Fresh a b) w w') (h1 : c ≤ a) (h2 : b ≤ d) : StrSl (FrU w' c d) w' v x := (StrSl.keep (FrU.keeps h) hv).mono (FrU.up h h1 h2)
theorem StrSl.up2 {w w' : World} {a b c d : Nat} {v : Value} {x : List ByteArray} (hv : StrSl (FrU w a b) w v x) (h : Keeps (Fresh c d) w w') (h1 : c ≤ a) (h2 : b ≤ d) : StrSl (FrU w' c d) w' v x := StrSl.up (hv.mono (FrU.mono h1 h2)) h (Nat.le_refl _) (Nat.le_refl _)
theorem TySl.up {w w' : World} {a b c d : Nat} {v : Value} {x : List Ty} (hv : TySl (FrU w a b) w v x) (h : Keeps (Fresh a b) w w') (h1 : c ≤ a) (h2 : b ≤ d) : TySl (FrU w' c d) w' v x := (TySl.keep (FrU.keeps h) hv).mono (FrU.up h h1 h2)
theorem TySl.up2 {w w' : World} {a b c d : Nat} {v : Value} {x : List Ty} (hv : TySl (FrU w a b) w v x) (h : Keeps (Fresh c d) w w') (h1 : c ≤ a) (h2 : b ≤ d) : TySl (FrU w' c d) w' v x := TySl.up (hv.mono (FrU.mono h1 h2)) h (Nat.le_refl _) (Nat.le_refl _)
theorem TyVal.up {w w' : World} {a b c d : Nat} {v : Value} {x : Ty} (hv : TyVal (FrU w a b) w v x) (h : Keeps (Fresh a b) w w') (h1 : c ≤ a) (h2 : b ≤ d) : TyVal (FrU w' c d) w' v x := (TyVal.keep (FrU.keeps h) hv).mono (FrU.up h h1 h2)
theorem TyVal.up2 {w w' : World} {a b c d : Nat} {v : Value} {x : Ty} (hv : TyVal (FrU w a b) w v x) (h : Keeps (Fresh c d) w w') (h1 : c ≤ a) (h2 : b ≤ d) : TyVal (FrU w' c d) w' v x := TyVal.up (hv.mono (FrU.mono h1 h2)) h (Nat.le_refl _) (Nat.le_refl _)
theorem VlSl.up {w w' : World} {a b c d : Nat} {v : Value} {x : List Vl} (hv : VlSl (FrU w a b) w v x) (h : Keeps (Fresh a b) w w') (h1 : c ≤ a) (h2 : b ≤ d) : VlSl (FrU w' c d) w' v x := (VlSl.keep (FrU.keeps h) hv).mono (FrU.up h h1 h2)
theorem VlSl.up2 {w w' : World} {a b c d : Nat} {v : Value} {x : List Vl} (hv : VlSl (FrU w a b) w v x) (h : Keeps (Fresh c d) w w') (h1 : c ≤ a) (h2 : b ≤ d) : VlSl (FrU w' c d) w' v x := VlSl.up (hv.mono (FrU.mono h1 h2)) h (Nat.le_refl _) (Nat.le_refl _)
theorem PrVal.up {w w' : World} {a b c d : Nat} {v : Value} {x : Pr} (hv : PrVal (FrU w a b) w v x) (h : Keeps (Fresh a b) w w') (h1 : c ≤ a) (h2 : b ≤ d) : PrVal (FrU w' c d) w' v x := (PrVal.keep (FrU.keeps h) hv).mono (FrU.up h h1 h2)
theorem PrVal.up2 {w w' : World} {a b c d : Nat} {v : Value} {x : Pr} (hv : PrVal (FrU w a b) w v x) (h : Keeps (Fresh c d) w w') (h1 : c ≤ a) (h2 : b ≤ d) : PrVal (FrU w' c d) w' v x := PrVal.up (hv.mono (FrU.mono h1 h2)) h (Nat.le_refl _) (Nat.le_refl _)
theorem uf_row {w : World} {base : Nat} {e : TypeId} {size g n cap m : Nat} {xs : List Value} (h : w.ownsRow base e size (.slice (some ⟨g, 0, none⟩) n cap) m xs) : Uf w g := by
  rcases h.2 with ⟨h, _⟩ | ⟨g', cap', cur, hv, _, hg, _⟩
  · cases h
  · injection hv with h1 h2 h3
    injection h1 with h1
    injection h1 with h1
    subst h1
    exact ⟨cur, e, hg⟩

def StrRetU (w : World) (ls : List ByteArray) (e : Ending) (w' : World) : Prop :=
  ∃ la ln lc, e = .returned (.slice la ln lc) ∧ StrSl (FrU w' w.heap.size w'.heap.size) w' (.slice la ln lc) ls ∧ Below w.heap.size w w'
def TyRetU (w : World) (g : Ty) (e : Ending) (w' : World) : Prop :=
  ∃ la ln lc ka kn kc, e = .returned (.agg #[.int .i64 g.k, .int .i64 g.p, .string g.n, .int .i64 g.s, .slice la ln lc, .slice ka kn kc]) ∧
    TyVal (FrU w' w.heap.size w'.heap.size) w' (.agg #[.int .i64 g.k, .int .i64 g.p, .string g.n, .int .i64 g.s, .slice la ln lc, .slice ka kn kc]) g ∧ Below w.heap.size w w'
def TysRetU (w : World) (gs : List Ty) (e : Ending) (w' : World) : Prop :=
  ∃ ka kn kc, e = .returned (.slice ka kn kc) ∧ TySl (FrU w' w.heap.size w'.heap.size) w' (.slice ka kn kc) gs ∧ Below w.heap.size w w'
def MapsToU (f : Nat) (caps : Array Value) (B : Nat → Prop) (w0 : World) (ts : List Ty) (g : Ty → Ty) : Prop :=
  ∀ t ∈ ts, ∀ (v : Value) (wr : World), Below w0.heap.size w0 wr → TyVal B wr v t → Calls Tryd.prog f (#[v] ++ caps) wr (TyRetU wr (g t))

set_option maxHeartbeats 2000000 in
theorem mappedSU_any (B : Nat → Prop) (v : Value) (ls : List ByteArray) (hn : ls.length ≤ 400000000) (w : World) (hB : Low B w) (h : StrSl B w v ls) :
    Calls Tryd.prog 102 #[v, .func (.func 103) #[] #[]] w (StrRetU w ls) := by
  have hsz := h.2.2
  rcases h.parts with ⟨c, rfl, rfl⟩ | ⟨ad, c, rfl, hrow⟩
  · have hq := eqS none 0 c
    go_enter Tryd.func102, Tryd.ntmps102
    go_wp2_with fail
    go_ret
    exact ⟨_, _, _, rfl, ⟨.inl ⟨⟨_, _, rfl⟩, rfl⟩, by simp [maxLen], fun s hs => by cases hs⟩, Below.refl _ _⟩
  · obtain ⟨n, hn'⟩ : ∃ n, n = ls.length := ⟨_, rfl⟩
    have hmk := run_make_row' (P := Tryd.prog) 22 9 (.string ⟨#[]⟩) 16 Tryd.underlying22 strInfo rfl .i64 .i64 ls.length (by omega) (by omega)
    rw [← hn'] at hmk ⊢ hn
    have HN := Lib.hid hn'
    have HR := Lib.hid hrow
    have hq := eqS (some ad) n c
    clear hn' hrow h
    go_enter Tryd.func102, Tryd.ntmps102
    go_wp2_with fail
    go_loopw [15] (fun i wr => ∃ k : Nat, i = .int .i64 k ∧ k ≤ n ∧ wr.ownsRow w.heap.size 9 1 (.slice (some ⟨w.heap.size, 0, none⟩) n n) n (sRow ls k) ∧ Below w.heap.size w wr) (fun i _ => n - (intOf i).toNat)
    case atStart =>
      refine ⟨0, rfl, by omega, ?_, (Below.refl _ _).alloc (Nat.le_refl _) _⟩
      have h := World.ownsRow_lit (base := w.heap.size) (e := 9) (size := 1) w (madeCells #[.string ⟨#[]⟩] n) n (Nat.le_refl _) (by unfold maxLen; omega) (by have h := congrArg List.length (toList_madeCells_one (.string ⟨#[]⟩) n); rw [Array.length_toList, List.length_replicate] at h; omega)
      rw [toList_madeCells_one] at h
      have e : sRow ls 0 = List.replicate n (.string ⟨#[]⟩) := by simp [sRow, HN.out]
      rw [e]; exact h
    case round =>
      obtain ⟨k, rfl, hk, hrow, hb⟩ := hrel
      have hlw := (hrow.lt w.heap.size rfl).2
      by_cases hlt : k < n
      · obtain ⟨x, hx⟩ : ∃ x, ls[k]? = some x := ⟨_, List.getElem?_eq_getElem (by rw [← HN.out]; exact hlt)⟩
        obtain ⟨g, o, rfl, hg, hcx⟩ := HR.out k x hx
        have c0 := (hb.cell (p := ⟨g, o + k, none⟩) (hB g hg)).trans hcx
        clear hcx
        have d0 : wr.cell? ⟨w.heap.size, k, none⟩ = some (.string ⟨#[]⟩) := (hrow.cellAt k (by omega)).trans (sRow_at ls k (by rw [← HN.out]; exact hlt))
        have d1 : wr.frozen? ⟨w.heap.size, k, none⟩ = false := hrow.frozenAt k
        have hst := (hrow.stored k (.string x)).1
        rw [sRow_set ls k x hx] at hst
        clear hx
        go_wp2_with (go_at_call 103; refine (ident_any _ _).mono ?_; rintro e w1 ⟨rfl, rfl⟩)
        go_roundw
        case rel => exact ⟨k + 1, by go_num, by omega, hst, hb.setCell (p := ⟨w.heap.size, k, none⟩) (Nat.le_refl _) _⟩
        case measure => simp [intOf]; omega
      · obtain rfl : k = n := by omega
        clear hmk
        go_wp2_with fail
        go_ret
        refine ⟨_, _, _, rfl, ⟨.inr ⟨w.heap.size, 0, k, by rw [HN.out], ⟨⟨Nat.le_refl _, hlw⟩, uf_row hrow⟩, by rw [HN.out]; exact Nat.le_refl _, fun j s hj => ?_⟩, by unfold maxLen; have := HN.out; omega, hsz⟩, hb⟩
        have hj' : j < ls.length := (List.getElem?_eq_some_iff.1 hj).1
        rw [Nat.zero_add, hrow.cellAt j (by rw [Nat.mul_one, HN.out]; exact hj'), HN.out, sRow_all, List.getElem?_map, hj]; rfl

/-- What lies in the block that is being filled: k types stand. -/
structure FilledU (g n : Nat) (gs : List Ty) (k : Nat) (w : World) : Prop where
  block : ∃ cs, w.heap[g]? = some (.cells cs 25 (0, 0)) ∧ cs.size = n * 6
  done : ∀ i t, i < k → gs[i]? = some t → ∃ v5 v6, w.cell? ⟨g, i * 6, none⟩ = some (.int .i64 t.k) ∧ w.cell? ⟨g, i * 6 + 1, none⟩ = some (.int .i64 t.p) ∧ w.cell? ⟨g, i * 6 + 2, none⟩ = some (.string t.n) ∧ w.cell? ⟨g, i * 6 + 3, none⟩ = some (.int .i64 t.s) ∧
    w.cell? ⟨g, i * 6 + 4, none⟩ = some v5 ∧ w.cell? ⟨g, i * 6 + 5, none⟩ = some v6 ∧ TyVal (FrU w (g + 1) w.heap.size) w (.agg #[.int .i64 t.k, .int .i64 t.p, .string t.n, .int .i64 t.s, v5, v6]) t
theorem FilledU.to {g n k : Nat} {gs : List Ty} {w w' : World} (h : FilledU g n gs k w) (hb : Below w.heap.size w w') : FilledU g n gs k w' := by
  obtain ⟨cs, hcs, hz⟩ := h.block
  have hg := (Array.getElem?_eq_some_iff.1 hcs).1
  refine ⟨⟨cs, (hb.block g hg).trans hcs, hz⟩, fun i t hi ht => ?_⟩
  obtain ⟨v5, v6, c0, c1, c2, c3, c4, c5, hv⟩ := h.done i t hi ht
  refine ⟨v5, v6, (hb.cell (p := ⟨g, _, none⟩) hg).trans c0, (hb.cell (p := ⟨g, _, none⟩) hg).trans c1, (hb.cell (p := ⟨g, _, none⟩) hg).trans c2, (hb.cell (p := ⟨g, _, none⟩) hg).trans c3, (hb.cell (p := ⟨g, _, none⟩) hg).trans c4, (hb.cell (p := ⟨g, _, none⟩) hg).trans c5, ?_⟩
  exact hv.up (hb.keeps'.mono (fun k hk => hk.2)) (Nat.le_refl _) hb.size
theorem FilledU.store {g n k : Nat} {gs : List Ty} {w : World} (h : FilledU g n gs k w) (hk : k < n) {t : Ty} (ht : gs[k]? = some t) {v5 v6 : Value} (hv : TyVal (FrU w (g + 1) w.heap.size) w (.agg #[.int .i64 t.k, .int .i64 t.p, .string t.n, .int .i64 t.s, v5, v6]) t) :
    FilledU g n gs (k + 1) (w.setCells g (k * 6) [.int .i64 t.k, .int .i64 t.p, .string t.n, .int .i64 t.s, v5, v6]) := by
  obtain ⟨cs, hcs, hz⟩ := h.block
  obtain ⟨cs', h1, h2⟩ := heap_setCells_same [.int .i64 t.k, .int .i64 t.p, .string t.n, .int .i64 t.s, v5, v6] (k * 6) w cs _ hcs
  have hkeep : Keeps (Fresh (g + 1) w.heap.size) w (w.setCells g (k * 6) [.int .i64 t.k, .int .i64 t.p, .string t.n, .int .i64 t.s, v5, v6]) := fun j o hj ho _ => (heap_setCells_other (by have := hj.1; omega) _ _ _).trans ho
  have hsz := size_setCells g [.int .i64 t.k, .int .i64 t.p, .string t.n, .int .i64 t.s, v5, v6] (k * 6) w
  refine ⟨⟨cs', h1, by omega⟩, fun i u hi hu => ?_⟩
  by_cases e : i = k
  · subst e
    rw [ht] at hu; cases hu
    have hin := World.cell?_setCells_in g [.int .i64 t.k, .int .i64 t.p, .string t.n, .int .i64 t.s, v5, v6] (i * 6) w (fun j hj => by
      obtain ⟨x, hx⟩ := cell_in hcs (j := i * 6 + j) (by simp at hj; omega)
      rw [hx]; rfl)
    exact ⟨v5, v6, hin 0 (by simp), hin 1 (by simp), hin 2 (by simp), hin 3 (by simp), hin 4 (by simp), hin 5 (by simp), by rw [hsz]; exact hv.up hkeep (Nat.le_refl _) (Nat.le_refl _)⟩
  · obtain ⟨u5, u6, c0, c1, c2, c3, c4, c5, hu'⟩ := h.done i u (by omega) hu
    have hout : ∀ j, j < 6 → (w.setCells g (k * 6) [.int .i64 t.k, .int .i64 t.p, .string t.n, .int .i64 t.s, v5, v6]).cell? ⟨g, i * 6 + j, none⟩ = w.cell? ⟨g, i * 6 + j, none⟩ := fun j hj =>
      World.cell?_setCells_out g _ _ _ _ (fun _ _ => .inl (by simp; omega))
    exact ⟨u5, u6, (hout 0 (by omega)).trans c0, (hout 1 (by omega)).trans c1, (hout 2 (by omega)).trans c2, (hout 3 (by omega)).trans c3, (hout 4 (by omega)).trans c4, (hout 5 (by omega)).trans c5, by rw [hsz]; exact hu'.up hkeep (Nat.le_refl _) (Nat.le_refl _)⟩

set_option maxHeartbeats 1000000 in
set_option maxRecDepth 100000 in
theorem mappedTU_any (B : Nat → Prop) (kv : Value) (ts : List Ty) (g : Ty → Ty) (f : Nat) (caps : Array Value) (hn : ts.length ≤ 1048576) (w : World) (hB : Low B w) (h : TySl B w kv ts) (eg : ∀ args w, (callFunc f args).run Tryd.prog w = .ok (.enter f args) w) (hf : MapsToU f caps B w ts g) :
    Calls Tryd.prog 104 #[kv, .func (.func f) #[] caps] w (TysRetU w (ts.map g)) := by
  rcases h.parts with ⟨c, rfl, rfl⟩ | ⟨ad, c, rfl, hrow⟩
  · have hq := eqK none 0 c
    go_enter Tryd.func104, Tryd.ntmps104
    go_wp2_with fail
    go_ret
    exact ⟨_, _, _, rfl, ⟨.inl ⟨⟨_, _, rfl⟩, rfl⟩, by simp [maxLen]⟩, Below.refl _ _⟩
  · obtain ⟨n, hn'⟩ : ∃ n, n = ts.length := ⟨_, rfl⟩
    obtain ⟨i0, hi, hz0, hz1, hz2⟩ := info_parts tyInfo
    have hmk := fun w => run_make (P := Tryd.prog) w 23 25 i0 _ Tryd.underlying23 hi hz0 .i64 .i64 n n (by omega) (Int.le_refl _) (by rw [hz2]; omega) (by omega)
    have hsz := hz1
    rw [hz1] at hmk
    simp only [Int.toNat_natCast, Value.cells] at hmk
    have hq := eqK (some ad) n c
    rw [← hn'] at hn ⊢
    have HN := Lib.hid hn'
    have HR := Lib.hid hrow
    have HF := Lib.hid hf
    clear hn' hrow hf hi hz0 hz1 hz2 hsz h
    go_enter Tryd.func104, Tryd.ntmps104
    go_wp2_with fail
    clear hq
    go_loopw [15] (fun i wr => ∃ k : Nat, i = .int .i64 k ∧ k ≤ n ∧ FilledU w.heap.size n (ts.map g) k wr ∧ Below w.heap.size w wr) (fun i _ => n - (intOf i).toNat)
    case atStart =>
      refine ⟨0, rfl, by omega, ⟨⟨_, World.alloc_heap_new w _, by rw [size_madeCells]⟩, fun i t hi => by omega⟩, (Below.refl _ _).alloc (Nat.le_refl _) _⟩
    case round =>
      obtain ⟨k, rfl, hk, hfill, hb⟩ := hrel
      by_cases hlt : k < n
      · obtain ⟨t, ht⟩ : ∃ t, ts[k]? = some t := ⟨_, List.getElem?_eq_getElem (by rw [← HN.out]; exact hlt)⟩
        obtain ⟨b, o, rfl, hg, htat⟩ := HR.out k t ht
        have hgw := hB b hg
        obtain ⟨la, ln, lc, ka, kn, kc, ⟨a0, a1, a2, a3, a4, a5⟩, hval⟩ := (htat.keep (hb.keeps'.mono hB)).load'
        clear htat
        have hbx := blkBelow wr #[.int .i64 t.k, .int .i64 t.p, .string t.n, .int .i64 t.s, .slice la ln lc, .slice ka kn kc] 25
        have IH := Lib.hid (HF.out t (List.mem_of_getElem? ht) _ _ (below_seq hb hbx) (hval.to (hB.le hb.size) hbx))
        clear hmk
        go_wp2_with fail
        refine IH.out.mono ?_
        rintro e w2 ⟨la', ln', lc', ka', kn', kc', rfl, hval2, hb2⟩
        have hfill2 := hfill.to (below_seq hbx hb2)
        obtain ⟨cs, hcs, hcz⟩ := hfill2.block
        have hfz := frozen_of_block hcs
        obtain ⟨x0, d0⟩ := cell_in hcs (j := k * 6) (by omega)
        obtain ⟨x1, d1⟩ := cell_in hcs (j := k * 6 + 1) (by omega)
        obtain ⟨x2, d2⟩ := cell_in hcs (j := k * 6 + 2) (by omega)
        obtain ⟨x3, d3⟩ := cell_in hcs (j := k * 6 + 3) (by omega)
        obtain ⟨x4, d4⟩ := cell_in hcs (j := k * 6 + 4) (by omega)
        obtain ⟨x5, d5⟩ := cell_in hcs (j := k * 6 + 5) (by omega)
        have HCS := Lib.hid hcs
        clear hcs
        go_wp2_with fail
        have hg2 := hval2.mono (FrU.mono (c := w.heap.size + 1) (d := w2.heap.size) (by have := hb.size; have h3 : w.heap.size < wr.heap.size := (Array.getElem?_eq_some_iff.1 (hfill.block.choose_spec.1)).1; simp; omega) (Nat.le_refl _))
        have hst := hfill2.store (by omega) (t := g t) (by rw [List.getElem?_map, ht]; rfl) hg2
        have hbs := (below_seq (below_seq hb hbx) hb2).trans (below_setCells w.heap.size (Nat.le_refl _) [.int .i64 (g t).k, .int .i64 (g t).p, .string (g t).n, .int .i64 (g t).s, .slice la' ln' lc', .slice ka' kn' kc'] (k * 6) w2)
        rw [setCells6] at hst hbs
        go_roundw
        case rel => exact ⟨k + 1, by go_num, by omega, hst, hbs⟩
        case measure => simp [intOf]; omega
      · obtain rfl : k = n := by omega
        clear hmk
        go_wp2_with fail
        go_ret
        have hgl : w.heap.size < wr.heap.size := (Array.getElem?_eq_some_iff.1 (hfill.block.choose_spec.1)).1
        refine ⟨_, _, _, rfl, ⟨.inr ⟨w.heap.size, 0, k, by rw [List.length_map, HN.out], ⟨⟨Nat.le_refl _, hgl⟩, _, _, hfill.block.choose_spec.1⟩, ?_⟩, by rw [List.length_map, ← HN.out]; unfold maxLen; omega⟩, hb⟩
        exact tysAt_of (fun i t hi => by
          have hlt' : i < k := by have := (List.getElem?_eq_some_iff.1 hi).1; rw [List.length_map] at this; have := HN.out; omega
          obtain ⟨v5, v6, c0, c1, c2, c3, c4, c5, hv⟩ := hfill.done i t hlt' hi
          rw [Nat.zero_add]
          exact tyAt_of ⟨⟨Nat.le_refl _, hgl⟩, _, _, hfill.block.choose_spec.1⟩ c0 c1 c2 c3 c4 c5 (hv.mono (FrU.mono (Nat.le_succ _) (Nat.le_refl _))))

theorem MapsToU.later {f : Nat} {caps : Array Value} {B : Nat → Prop} {w0 w1 : World} {ts : List Ty} {g : Ty → Ty} (h : MapsToU f caps B w0 ts g) (hb : Below w0.heap.size w0 w1) : MapsToU f caps B w1 ts g :=
  fun t ht v wr hw hv => h t ht v wr (below_seq hb hw) hv
set_option maxHeartbeats 1000000 in
set_option maxRecDepth 100000 in
theorem rebuildU_any (B : Nat → Prop) (k p s : Int) (n : ByteArray) (lv kv : Value) (ls : List ByteArray) (ts : List Ty) (g : Ty → Ty) (f : Nat) (caps : Array Value) (hnn : n.size ≤ maxLen) (hls : ls.length ≤ 400000000) (hts : ts.length ≤ 1048576) (w : World) (hB : Low B w) (hl : StrSl B w lv ls) (hk : TySl B w kv ts)
    (eg : ∀ args w, (callFunc f args).run Tryd.prog w = .ok (.enter f args) w) (hf : MapsToU f caps B w ts g) :
    Calls Tryd.prog 78 #[.agg #[.int .i64 k, .int .i64 p, .string n, .int .i64 s, lv, kv], .func (.func f) #[] caps] w (TyRetU w (.mk k p n s ls (ts.map g))) := by
  have hb0 := box2_below w (cell6 k p n s lv kv) (cell6 0 0 ⟨#[]⟩ 0 (.slice none 0 0) (.slice none 0 0))
  have HS := Lib.hid (mappedSU_any B lv ls hls _ (hB.le hb0.size) (hl.keep (hb0.keeps'.mono hB)))
  have HF := Lib.hid hf
  have HK := Lib.hid hk
  have HB := Lib.hid hb0
  clear hf hl hk hb0
  go_enter Tryd.func78, Tryd.ntmps78
  go_wp2_with (go_at_call 102; refine HS.out.mono ?_; rintro e w1 ⟨la, ln, lc, rfl, hs1, hb1⟩; obtain ⟨hcl, hfz⟩ := bcell hb1)
  have hz1 : w.heap.size + 1 < w1.heap.size := by have := hb1.size; simp at this; omega
  have hw2 : Below w.heap.size w (w1.setCell ⟨w.heap.size, 4, none⟩ (.slice la ln lc)) := (below_seq HB.out hb1).setCell (p := ⟨w.heap.size, 4, none⟩) (Nat.le_refl _) _
  obtain ⟨s0, s1⟩ := Six.two w (.int .i64 k) (.int .i64 p) (.string n) (.int .i64 s) lv kv (.int .i64 0) (.int .i64 0) (.string ⟨#[]⟩) (.int .i64 0) (.slice none 0 0) (.slice none 0 0)
  have S0 := Lib.hid ((s0.to hb1).set4 (.slice la ln lc))
  have S1 := Lib.hid ((s1.to hb1).other (c := w.heap.size) (o := 4) (by omega) (.slice la ln lc))
  have HS1 := Lib.hid hs1
  have HB1 := Lib.hid hb1
  clear hs1 hb1 s0 s1 hcl hfz
  refine (mappedTU_any B kv ts g f caps hts _ (hB.le hw2.size) (HK.out.keep (hw2.keeps'.mono hB)) eg (HF.out.later hw2)).mono ?_
  rintro e w3 ⟨ka, kn, kc, rfl, hk3, hb3⟩
  have hz3 : w.heap.size + 1 < w3.heap.size := by have := hb3.size; simp at this; omega
  obtain ⟨⟨c0, c1, c2, c3, c4, c5⟩, hf0⟩ := (S0.out.to hb3).cells
  obtain ⟨⟨d0, d1, d2, d3, d4, d5⟩, hf1⟩ := (S1.out.to hb3).cells
  have HK3 := Lib.hid hk3
  have HB3 := Lib.hid hb3
  have HW2 := Lib.hid hw2
  clear hk3 hb3 hw2
  go_wp2_with fail
  have hlo : ((w.alloc (cell6 k p n s lv kv)).alloc (cell6 0 0 ⟨#[]⟩ 0 (.slice none 0 0) (.slice none 0 0))).heap.size = w.heap.size + 2 := by simp
  have ha1 : Above (w.heap.size + 2) w1 (w1.setCell ⟨w.heap.size, 4, none⟩ (.slice la ln lc)) := (Above.refl _ _).set (by omega) _
  have ha3 := fun v0 v1 v2 v3 v4 v5 v6 => (((Above.refl (w.heap.size + 2) w3).set (c := w.heap.size) (o := 5) (by omega) v6).fill (c := w.heap.size + 1) (by omega) v0 v1 v2 v3 v4 v5)
  have hbw := fun v0 v1 v2 v3 v4 v5 v6 => below_fill (c := w.heap.size + 1) ((below_seq HW2.out HB3.out).setCell (p := ⟨w.heap.size, 5, none⟩) (Nat.le_refl _) v6) (by omega) v0 v1 v2 v3 v4 v5
  refine bodyPost_ret (v := .agg #[.int .i64 k, .int .i64 p, .string n, .int .i64 s, .slice la ln lc, .slice ka kn kc]) (by simp [results, Tryd.results78, go_sem, d0, d1, d2, d3, d4, d5]) rfl
    ⟨la, ln, lc, ka, kn, kc, rfl, ⟨_, _, rfl, hnn, ?_, ?_⟩, hbw _ _ _ _ _ _ _⟩
  · have h := HS1.out
    rw [hlo] at h
    have hall := (ha1.trans (Above.of_below HB3.out)).trans (ha3 (.int .i64 k) (.int .i64 p) (.string n) (.int .i64 s) (.slice la ln lc) (.slice ka kn kc) (.slice ka kn kc))
    exact h.up hall.keeps (by omega) hall.size
  · have h := HK3.out
    have hall := ha3 (.int .i64 k) (.int .i64 p) (.string n) (.int .i64 s) (.slice la ln lc) (.slice ka kn kc) (.slice ka kn kc)
    exact h.up (hall.keeps.mono (Fresh.mono (by have := HB1.out.size; simp at this ⊢; omega) (Nat.le_refl _))) (by have := HB1.out.size; simp at this ⊢; omega) hall.size

/-- A type that was returned, stored into a box of the caller's and read from it. -/
theorem ret_fillU {w W w3 : World} {c : Nat} (hW : Below w.heap.size w W) (hwc : w.heap.size ≤ c) (hc : c < W.heap.size) (hb3 : Below W.heap.size W w3) {g : Ty} {v : Value} (hv : TyVal (FrU w3 W.heap.size w3.heap.size) w3 v g) (v0 v1 v2 v3 v4 v5 : Value) :
    TyVal (FrU ((((((w3.setCell ⟨c, 0, none⟩ v0).setCell ⟨c, 1, none⟩ v1).setCell ⟨c, 2, none⟩ v2).setCell ⟨c, 3, none⟩ v3).setCell ⟨c, 4, none⟩ v4).setCell ⟨c, 5, none⟩ v5) w.heap.size ((((((w3.setCell ⟨c, 0, none⟩ v0).setCell ⟨c, 1, none⟩ v1).setCell ⟨c, 2, none⟩ v2).setCell ⟨c, 3, none⟩ v3).setCell ⟨c, 4, none⟩ v4).setCell ⟨c, 5, none⟩ v5).heap.size)
      ((((((w3.setCell ⟨c, 0, none⟩ v0).setCell ⟨c, 1, none⟩ v1).setCell ⟨c, 2, none⟩ v2).setCell ⟨c, 3, none⟩ v3).setCell ⟨c, 4, none⟩ v4).setCell ⟨c, 5, none⟩ v5) v g ∧
    Below w.heap.size w ((((((w3.setCell ⟨c, 0, none⟩ v0).setCell ⟨c, 1, none⟩ v1).setCell ⟨c, 2, none⟩ v2).setCell ⟨c, 3, none⟩ v3).setCell ⟨c, 4, none⟩ v4).setCell ⟨c, 5, none⟩ v5) := by
  have ha := (Above.refl W.heap.size w3).fill hc v0 v1 v2 v3 v4 v5
  exact ⟨hv.up ha.keeps hW.size ha.size, below_fill (below_seq hW hb3) hwc v0 v1 v2 v3 v4 v5⟩
set_option maxHeartbeats 1000000 in
set_option maxRecDepth 100000 in
theorem copyU_step (B : Nat → Prop) (k p s : Int) (n : ByteArray) (lv kv : Value) (ls : List ByteArray) (ts : List Ty) (hm : (Ty.mk k p n s ls ts).modc) (hnn : n.size ≤ maxLen) (w : World) (hB : Low B w) (hl : StrSl B w lv ls) (hk : TySl B w kv ts)
    (ih : ∀ t ∈ ts, ∀ (v : Value) (w : World), Low B w → TyVal B w v t → Calls Tryd.prog 74 #[v] w (TyRetU w t)) :
    Calls Tryd.prog 74 #[.agg #[.int .i64 k, .int .i64 p, .string n, .int .i64 s, lv, kv]] w (TyRetU w (.mk k p n s ls ts)) := by
  simp only [Ty.modc] at hm
  obtain ⟨hm1, hm2, _⟩ := hm
  have hb0 := box2_below w (cell6 k p n s lv kv) (cell6 0 0 ⟨#[]⟩ 0 (.slice none 0 0) (.slice none 0 0))
  obtain ⟨s0, s1⟩ := Six.two w (.int .i64 k) (.int .i64 p) (.string n) (.int .i64 s) lv kv (.int .i64 0) (.int .i64 0) (.string ⟨#[]⟩) (.int .i64 0) (.slice none 0 0) (.slice none 0 0)
  have HR := Lib.hid (rebuildU_any B k p s n lv kv ls ts id 74 #[] hnn hm1 hm2 _ (hB.le hb0.size) (hl.keep (hb0.keeps'.mono hB)) (hk.keep (hb0.keeps'.mono hB)) enters_copy
    (fun t ht v wr hwr hv => ih t ht v wr (hB.le (Nat.le_trans hb0.size hwr.size)) hv))
  have S1 := Lib.hid s1
  have HB0 := Lib.hid hb0
  clear s0 s1 hl hk ih hb0
  rw [List.map_id] at HR
  go_enter Tryd.func74, Tryd.ntmps74
  go_wp2_with fail
  refine HR.out.mono ?_
  rintro e w3 ⟨la, ln, lc, ka, kn, kc, rfl, hv3, hb3⟩
  obtain ⟨⟨d0, d1, d2, d3, d4, d5⟩, hf1⟩ := (S1.out.to hb3).cells
  have HV := Lib.hid hv3
  have HB3 := Lib.hid hb3
  clear hv3 hb3
  go_wp2_with fail
  have hfin := ret_fillU (c := w.heap.size + 1) HB0.out (by omega) (by simp) HB3.out HV.out (.int .i64 k) (.int .i64 p) (.string n) (.int .i64 s) (.slice la ln lc) (.slice ka kn kc)
  exact bodyPost_ret (v := .agg #[.int .i64 k, .int .i64 p, .string n, .int .i64 s, .slice la ln lc, .slice ka kn kc]) (by simp [results, Tryd.results74, go_sem, d0, d1, d2, d3, d4, d5, Ty.k, Ty.p, Ty.n, Ty.s]) rfl ⟨la, ln, lc, ka, kn, kc, rfl, hfin.1, hfin.2⟩

theorem copyU_any (B : Nat → Prop) : ∀ t : Ty, t.modc → ∀ (v : Value) (w : World), Low B w → TyVal B w v t → Calls Tryd.prog 74 #[v] w (TyRetU w t) := by
  refine Ty.ind ?_
  intro k p n s ls ts ih hm v w hB hv
  obtain ⟨lv, kv, rfl, hn, hl, hk⟩ := hv
  have hm' := hm
  simp only [Ty.modc] at hm'
  exact copyU_step B k p s n lv kv ls ts hm hn w hB hl hk (fun t ht => ih t ht (Ty.modcs_mem hm'.2.2 t ht))

end Go.Proofs.YtipjjhkgcbabnaaDoor

/- Copies in new memory, none of whose blocks is frozen: processes. -/
namespace Go.Proofs.YtipjjhkgcbabnaaDoor
open Go.RowKit Go.Deep Go.Shelf

def VlRetU (w : World) (vs : List Vl) (e : Ending) (w' : World) : Prop :=
  ∃ la ln lc, e = .returned (.slice la ln lc) ∧ VlSl (FrU w' w.heap.size w'.heap.size) w' (.slice la ln lc) vs ∧ Below w.heap.size w w'
def PrRetU (w : World) (p : Pr) (e : Ending) (w' : World) : Prop :=
  ∃ la ln lc aa an ac ta tn tc ua un uc ka kn kc, e = .returned (prAgg p (.slice la ln lc) (.slice aa an ac) (.slice ta tn tc) (.slice ua un uc) (.slice ka kn kc)) ∧
    PrVal (FrU w' w.heap.size w'.heap.size) w' (prAgg p (.slice la ln lc) (.slice aa an ac) (.slice ta tn tc) (.slice ua un uc) (.slice ka kn kc)) p ∧ Below w.heap.size w w'
theorem strCloneU_any (B : Nat → Prop) (v : Value) (ls : List ByteArray) (hn : ls.length ≤ 400000000) (w : World) (h : StrSl B w v ls) :
    Calls Tryd.prog 72 #[v] w (StrRetU w ls) := by
  have hsz := h.2.2
  rcases h.1 with ⟨⟨a, c, rfl⟩, rfl⟩ | ⟨b, o, c, rfl, hb, hc, hrow⟩
  · cases a with
    | none => exact (cloneS_nil c w).mono fun e w' ⟨h1, h2⟩ => ⟨_, _, _, h1, ⟨.inl ⟨⟨_, _, rfl⟩, rfl⟩, by simp [maxLen], fun s hs => by cases hs⟩, by rw [h2]; exact Below.refl _ _⟩
    | some ad =>
      refine (cloneS_any ad 0 c (by omega) [] rfl w (fun j u hj => by simp at hj) (fun u hu => by cases hu)).mono fun e w' ⟨g, cap, h1, h2, h3, h4, h5, h6⟩ => ⟨_, _, _, h1, ⟨.inl ⟨⟨_, _, rfl⟩, rfl⟩, by simp [maxLen], fun s hs => by cases hs⟩, h6⟩
  · refine (cloneS_any ⟨b, o, none⟩ ls.length c hn (ls.map .string) (by simp) w (fun j u hj => ?_) (fun u hu => by obtain ⟨x, _, rfl⟩ := List.mem_map.1 hu; rfl)).mono fun e w' ⟨g, cap, h1, h2, h3, h4, h5, h6⟩ => ⟨_, _, _, h1, ⟨.inr ⟨g, 0, cap, rfl, ⟨⟨h4, h5⟩, uf_row h3⟩, h2, fun j s hj => ?_⟩, h.2.1, hsz⟩, h6⟩
    · rw [List.getElem?_map] at hj
      cases hx : ls[j]? with
      | none => simp [hx] at hj
      | some x => simp [hx] at hj; subst hj; rw [addr_add0]; exact hrow j x hx
    · have hjl := (List.getElem?_eq_some_iff.1 hj).1
      rw [Nat.zero_add, h3.cellAt j (by omega), List.getElem?_map, hj]; rfl
theorem vlCloneU_any (B : Nat → Prop) (v : Value) (vs : List Vl) (hn : vs.length ≤ 400000000) (w : World) (h : VlSl B w v vs) :
    Calls Tryd.prog 73 #[v] w (VlRetU w vs) := by
  have hsz := h.2.2
  rcases h.1 with ⟨⟨a, c, rfl⟩, rfl⟩ | ⟨b, o, c, rfl, hb, hc, hrow⟩
  · cases a with
    | none => exact (cloneV_nil c w).mono fun e w' ⟨h1, h2⟩ => ⟨_, _, _, h1, ⟨.inl ⟨⟨_, _, rfl⟩, rfl⟩, by simp [maxLen], fun s hs => by cases hs⟩, by rw [h2]; exact Below.refl _ _⟩
    | some ad =>
      refine (cloneV_any ad 0 c (by omega) [] rfl w (fun j u hj => by simp at hj) (fun u hu => by cases hu)).mono fun e w' ⟨g, cap, h1, h2, h3, h4, h5, h6⟩ => ⟨_, _, _, h1, ⟨.inl ⟨⟨_, _, rfl⟩, rfl⟩, by simp [maxLen], fun s hs => by cases hs⟩, h6⟩
  · obtain ⟨news, hl, hnw, hone⟩ := news_of (w := w) (b := b) (o := o) (n := vs.length) (s := 3) (fun i hi r hr => by
      obtain ⟨a, ha⟩ : ∃ a, vs[i]? = some a := ⟨_, List.getElem?_eq_getElem hi⟩
      obtain ⟨q0, q1, q2⟩ := hrow i a ha
      match r, hr with
      | 0, _ => exact ⟨_, q0, rfl⟩
      | 1, _ => exact ⟨_, q1, rfl⟩
      | 2, _ => exact ⟨_, q2, rfl⟩) (by omega)
    refine (cloneV_any ⟨b, o, none⟩ vs.length c hn news hl w hnw hone).mono fun e w' ⟨g, cap, h1, h2, h3, h4, h5, h6⟩ => ⟨_, _, _, h1, ⟨.inr ⟨g, 0, cap, rfl, ⟨⟨h4, h5⟩, uf_row h3⟩, h2, fun j a hj => ?_⟩, h.2.1, hsz⟩, h6⟩
    have hjl := (List.getElem?_eq_some_iff.1 hj).1
    obtain ⟨q0, q1, q2⟩ := hrow j a hj
    rw [Nat.zero_add]
    exact ⟨cloned_cell hl hnw h3 (by omega) q0, cloned_cell hl hnw h3 (by omega) (by rw [← Nat.add_assoc]; exact q1), cloned_cell hl hnw h3 (by omega) (by rw [← Nat.add_assoc]; exact q2)⟩
/-- The copied row of processes: the first k stand anew. -/
structure PFilledU (B : Nat → Prop) (g n : Nat) (ps : List Pr) (k : Nat) (w : World) : Prop where
  block : ∃ cs, w.heap[g]? = some (.cells cs 36 (0, 0)) ∧ n * 12 ≤ cs.size
  each : ∀ i p, ps[i]? = some p → ∃ la ln lc aa an ac ta tn tc ua un uc ka kn kc, CellsAt w g (i * 12) p (.slice la ln lc) (.slice aa an ac) (.slice ta tn tc) (.slice ua un uc) (.slice ka kn kc) ∧ PrVal (if i < k then FrU w (g + 1) w.heap.size else B) w (prAgg p (.slice la ln lc) (.slice aa an ac) (.slice ta tn tc) (.slice ua un uc) (.slice ka kn kc)) p
theorem PFilled.u0 {B : Nat → Prop} {g n : Nat} {ps : List Pr} {w : World} (h : PFilled B g n ps 0 w) : PFilledU B g n ps 0 w := by
  refine ⟨h.block, fun i p hi => ?_⟩
  obtain ⟨la, ln, lc, aa, an, ac, ta, tn, tc, ua, un, uc, ka, kn, kc, hc, hv⟩ := h.each i p hi
  rw [if_neg (by omega)] at hv
  exact ⟨la, ln, lc, aa, an, ac, ta, tn, tc, ua, un, uc, ka, kn, kc, hc, by rw [if_neg (by omega)]; exact hv⟩
theorem PFilledU.to {B : Nat → Prop} {g n k : Nat} {ps : List Pr} {w w' : World} (h : PFilledU B g n ps k w) (hB : Low B w) (hb : Below w.heap.size w w') : PFilledU B g n ps k w' := by
  obtain ⟨cs, hcs, hz⟩ := h.block
  have hg := (Array.getElem?_eq_some_iff.1 hcs).1
  refine ⟨⟨cs, (hb.block g hg).trans hcs, hz⟩, fun i t ht => ?_⟩
  obtain ⟨la, ln, lc, aa, an, ac, ta, tn, tc, ua, un, uc, ka, kn, kc, ⟨d0, d1, d2, d3, d4, d5, d6, d7, d8, d9, d10, d11⟩, hv⟩ := h.each i t ht
  have hc : ∀ (o : Nat) (v : Value), w.cell? ⟨g, o, none⟩ = some v → w'.cell? ⟨g, o, none⟩ = some v := fun o v hv => (hb.cell (p := ⟨g, o, none⟩) hg).trans hv
  refine ⟨la, ln, lc, aa, an, ac, ta, tn, tc, ua, un, uc, ka, kn, kc, ⟨hc _ _ d0, hc _ _ d1, hc _ _ d2, hc _ _ d3, hc _ _ d4, hc _ _ d5, hc _ _ d6, hc _ _ d7, hc _ _ d8, hc _ _ d9, hc _ _ d10, hc _ _ d11⟩, ?_⟩
  by_cases hi : i < k
  · rw [if_pos hi] at hv ⊢
    exact hv.up (hb.keeps'.mono (fun j hj => hj.2)) (Nat.le_refl _) hb.size
  · rw [if_neg hi] at hv ⊢
    exact hv.to hB hb
theorem PFilledU.store {B : Nat → Prop} {g n k : Nat} {ps : List Pr} {w : World} (h : PFilledU B g n ps k w) (hn : n = ps.length) (hBg : ∀ j, B j → j ≠ g) {t : Pr} (ht : ps[k]? = some t) {la : Option Addr} {ln lc : Nat} {aa : Option Addr} {an ac : Nat} {ta : Option Addr} {tn tc : Nat} {ua : Option Addr} {un uc : Nat} {ka : Option Addr} {kn kc : Nat}
    (hv : PrVal (FrU w (g + 1) w.heap.size) w (prAgg t (.slice la ln lc) (.slice aa an ac) (.slice ta tn tc) (.slice ua un uc) (.slice ka kn kc)) t) :
    PFilledU B g n ps (k + 1) (w.setCells g (k * 12) (prCellsL t (.slice la ln lc) (.slice aa an ac) (.slice ta tn tc) (.slice ua un uc) (.slice ka kn kc))) := by
  obtain ⟨cs, hcs, hz⟩ := h.block
  obtain ⟨cs', h1, h2⟩ := heap_setCells_same (prCellsL t (.slice la ln lc) (.slice aa an ac) (.slice ta tn tc) (.slice ua un uc) (.slice ka kn kc)) (k * 12) w cs _ hcs
  have hkl := (List.getElem?_eq_some_iff.1 ht).1
  have hkeep : ∀ F : Nat → Prop, (∀ j, F j → j ≠ g) → Keeps F w (w.setCells g (k * 12) (prCellsL t (.slice la ln lc) (.slice aa an ac) (.slice ta tn tc) (.slice ua un uc) (.slice ka kn kc))) := fun F hF => keeps_setCells hF _ _
  have hsz := size_setCells g (prCellsL t (.slice la ln lc) (.slice aa an ac) (.slice ta tn tc) (.slice ua un uc) (.slice ka kn kc)) (k * 12) w
  refine ⟨⟨cs', h1, by omega⟩, fun i u hu => ?_⟩
  have hil := (List.getElem?_eq_some_iff.1 hu).1
  by_cases e : i = k
  · subst e
    rw [ht] at hu; cases hu
    have hin := World.cell?_setCells_in g (prCellsL t (.slice la ln lc) (.slice aa an ac) (.slice ta tn tc) (.slice ua un uc) (.slice ka kn kc)) (i * 12) w (fun j hj => by
      obtain ⟨x, hx⟩ := cell_in hcs (j := i * 12 + j) (by simp [prCellsL] at hj; omega)
      rw [hx]; rfl)
    refine ⟨la, ln, lc, aa, an, ac, ta, tn, tc, ua, un, uc, ka, kn, kc, ⟨hin 0 (by simp [prCellsL]), hin 1 (by simp [prCellsL]), hin 2 (by simp [prCellsL]), hin 3 (by simp [prCellsL]), hin 4 (by simp [prCellsL]), hin 5 (by simp [prCellsL]), hin 6 (by simp [prCellsL]), hin 7 (by simp [prCellsL]), hin 8 (by simp [prCellsL]), hin 9 (by simp [prCellsL]), hin 10 (by simp [prCellsL]), hin 11 (by simp [prCellsL])⟩, ?_⟩
    rw [if_pos (by omega), hsz]
    exact hv.up (hkeep _ (fun j hj => by have := hj.1; omega)) (Nat.le_refl _) (Nat.le_refl _)
  · obtain ⟨la', ln', lc', aa', an', ac', ta', tn', tc', ua', un', uc', ka', kn', kc', ⟨d0, d1, d2, d3, d4, d5, d6, d7, d8, d9, d10, d11⟩, hu'⟩ := h.each i u hu
    have hout : ∀ j, j < 12 → (w.setCells g (k * 12) (prCellsL t (.slice la ln lc) (.slice aa an ac) (.slice ta tn tc) (.slice ua un uc) (.slice ka kn kc))).cell? ⟨g, i * 12 + j, none⟩ = w.cell? ⟨g, i * 12 + j, none⟩ := fun j hj =>
      World.cell?_setCells_out g _ _ _ _ (fun _ hq => by
        rcases Nat.lt_or_ge i k with hik | hik
        · exact .inl (by simp; omega)
        · exact .inr (by simp [prCellsL]; omega))
    refine ⟨la', ln', lc', aa', an', ac', ta', tn', tc', ua', un', uc', ka', kn', kc', ⟨(hout 0 (by omega)).trans d0, (hout 1 (by omega)).trans d1, (hout 2 (by omega)).trans d2, (hout 3 (by omega)).trans d3, (hout 4 (by omega)).trans d4, (hout 5 (by omega)).trans d5, (hout 6 (by omega)).trans d6, (hout 7 (by omega)).trans d7, (hout 8 (by omega)).trans d8, (hout 9 (by omega)).trans d9, (hout 10 (by omega)).trans d10, (hout 11 (by omega)).trans d11⟩, ?_⟩
    by_cases hi : i < k
    · rw [if_pos hi] at hu'
      rw [if_pos (by omega), hsz]
      exact hu'.up (hkeep _ (fun j hj => by have := hj.1; omega)) (Nat.le_refl _) (Nat.le_refl _)
    · rw [if_neg hi] at hu'
      rw [if_neg (by omega)]
      exact hu'.keep (hkeep _ hBg)
theorem PFilledU.keep {B : Nat → Prop} {g n k : Nat} {ps : List Pr} {w w' : World} (h : PFilledU B g n ps k w) (hg : w'.heap[g]? = w.heap[g]?) (hs : w.heap.size ≤ w'.heap.size) (hB : Keeps B w w') (hF : Keeps (Fresh (g + 1) w.heap.size) w w') : PFilledU B g n ps k w' := by
  obtain ⟨cs, hcs, hz⟩ := h.block
  have hc : ∀ (o : Nat) (v : Value), w.cell? ⟨g, o, none⟩ = some v → w'.cell? ⟨g, o, none⟩ = some v := fun o v hv => by
    rw [← hv]; unfold World.cell?; simp only [hg]
  refine ⟨⟨cs, hg.trans hcs, hz⟩, fun i t ht => ?_⟩
  obtain ⟨la, ln, lc, aa, an, ac, ta, tn, tc, ua, un, uc, ka, kn, kc, ⟨d0, d1, d2, d3, d4, d5, d6, d7, d8, d9, d10, d11⟩, hv⟩ := h.each i t ht
  refine ⟨la, ln, lc, aa, an, ac, ta, tn, tc, ua, un, uc, ka, kn, kc, ⟨hc _ _ d0, hc _ _ d1, hc _ _ d2, hc _ _ d3, hc _ _ d4, hc _ _ d5, hc _ _ d6, hc _ _ d7, hc _ _ d8, hc _ _ d9, hc _ _ d10, hc _ _ d11⟩, ?_⟩
  by_cases hi : i < k
  · rw [if_pos hi] at hv ⊢
    exact hv.up hF (Nat.le_refl _) hs
  · rw [if_neg hi] at hv ⊢
    exact hv.keep hB
/-- What stands while the Kids are copied. -/
structure CpStU (w : World) (m : Nat) (p : Pr) (lv av tl tk kv : Value) (wr : World) : Prop where
  own : Twelve wr w.heap.size (.int .i64 p.k) (.string p.c) (.string p.x) lv av (.int .i64 p.t.k) (.int .i64 p.t.p) (.string p.t.n) (.int .i64 p.t.s) tl tk kv
  res : Twelve wr (w.heap.size + 1) (.int .i64 0) (.string ⟨#[]⟩) (.string ⟨#[]⟩) (.slice none 0 0) (.slice none 0 0) (.int .i64 0) (.int .i64 0) (.string ⟨#[]⟩) (.int .i64 0) (.slice none 0 0) (.slice none 0 0) (.slice none 0 0)
  strs : StrSl (FrU wr (w.heap.size + 2) m) wr lv p.ls
  vals : VlSl (FrU wr (w.heap.size + 2) m) wr av p.vs
  ty : TyVal (FrU wr (w.heap.size + 2) m) wr (.agg #[.int .i64 p.t.k, .int .i64 p.t.p, .string p.t.n, .int .i64 p.t.s, tl, tk]) p.t
  below : Below w.heap.size w wr
  low : w.heap.size + 2 ≤ m ∧ m ≤ wr.heap.size
theorem CpStU.to {w : World} {m : Nat} {p : Pr} {lv av tl tk kv : Value} {wr W : World} (h : CpStU w m p lv av tl tk kv wr) (hb : Below wr.heap.size wr W) : CpStU w m p lv av tl tk kv W := by
  have hk : Keeps (Fresh (w.heap.size + 2) m) wr W := hb.keeps'.mono (fun k hk => by have := hk.2; have := h.low.2; omega)
  exact ⟨h.own.to hb, h.res.to hb, h.strs.up hk (Nat.le_refl _) (Nat.le_refl _), h.vals.up hk (Nat.le_refl _) (Nat.le_refl _), h.ty.up hk (Nat.le_refl _) (Nat.le_refl _), below_seq h.below hb, h.low.1, Nat.le_trans h.low.2 hb.size⟩
theorem CpStU.stores {w : World} {m : Nat} {p : Pr} {lv av tl tk kv : Value} {wr : World} (h : CpStU w m p lv av tl tk kv wr) {g : Nat} (hg : m ≤ g) (vs : List Value) (o : Nat) : CpStU w m p lv av tl tk kv (wr.setCells g o vs) := by
  have hk : Keeps (Fresh (w.heap.size + 2) m) wr (wr.setCells g o vs) := keeps_setCells (fun k hk => by have := hk.2; omega) _ _
  have := h.low.1
  exact ⟨h.own.others (by omega) _ _, h.res.others (by omega) _ _, h.strs.up hk (Nat.le_refl _) (Nat.le_refl _), h.vals.up hk (Nat.le_refl _) (Nat.le_refl _), h.ty.up hk (Nat.le_refl _) (Nat.le_refl _), h.below.trans (below_setCells g (by omega) _ _ _), h.low.1, by rw [size_setCells]; exact h.low.2⟩

end Go.Proofs.YtipjjhkgcbabnaaDoor

/- Copy of a process in new memory, none of whose blocks is frozen. -/
namespace Go.Proofs.YtipjjhkgcbabnaaDoor
open Go.RowKit Go.Deep Go.Shelf

set_option maxHeartbeats 4000000 in
set_option maxRecDepth 100000 in
theorem pcopyU_step (B : Nat → Prop) (p : Pr) (hm : p.mod) (ih : ∀ u ∈ p.ps, ∀ (v : Value) (w : World), Low B w → PrVal B w v u → Calls Tryd.prog 41 #[v] w (PrRetU w u)) (v : Value) (w : World) (hB : Low B w) (hv : PrVal B w v p) :
    Calls Tryd.prog 41 #[v] w (PrRetU w p) := by
  obtain ⟨lv, av, tl, tk, kv, rfl, hn, hl, ha, ht, hk⟩ := hv
  obtain ⟨la, ln, lc, rfl, _⟩ := hl.open
  obtain ⟨aa, an, ac, rfl, _⟩ := ha.open
  obtain ⟨ka, kn, kc, rfl, _⟩ := hk.open
  obtain ⟨⟨ta, tn, tc, rfl⟩, ua, un, uc, rfl⟩ := ty_slices ht
  have hm' : p.ls.length ≤ 400000000 ∧ p.vs.length ≤ 400000000 ∧ p.ps.length ≤ 65536 ∧ p.t.modc := by
    cases p; simp only [Pr.mod] at hm; exact ⟨hm.1, hm.2.1, hm.2.2.1, hm.2.2.2.1⟩
  obtain ⟨hm1, hm2, hm3, hm4⟩ := hm'
  have t0 : Twelve ((w.alloc (cell12 p (.slice la ln lc) (.slice aa an ac) (.slice ta tn tc) (.slice ua un uc) (.slice ka kn kc))).alloc zero12) w.heap.size (.int .i64 p.k) (.string p.c) (.string p.x) (.slice la ln lc) (.slice aa an ac) (.int .i64 p.t.k) (.int .i64 p.t.p) (.string p.t.n) (.int .i64 p.t.s) (.slice ta tn tc) (.slice ua un uc) (.slice ka kn kc) := (Twelve.new w _ _ _ _ _ _ _ _ _ _ _ _).to (blkBelow _ _ _)
  have t1 : Twelve ((w.alloc (cell12 p (.slice la ln lc) (.slice aa an ac) (.slice ta tn tc) (.slice ua un uc) (.slice ka kn kc))).alloc zero12) (w.heap.size + 1) (.int .i64 0) (.string ⟨#[]⟩) (.string ⟨#[]⟩) (.slice none 0 0) (.slice none 0 0) (.int .i64 0) (.int .i64 0) (.string ⟨#[]⟩) (.int .i64 0) (.slice none 0 0) (.slice none 0 0) (.slice none 0 0) := by
    have := Twelve.new (w.alloc (cell12 p (.slice la ln lc) (.slice aa an ac) (.slice ta tn tc) (.slice ua un uc) (.slice ka kn kc))) (.int .i64 0) (.string ⟨#[]⟩) (.string ⟨#[]⟩) (.slice none 0 0) (.slice none 0 0) (.int .i64 0) (.int .i64 0) (.string ⟨#[]⟩) (.int .i64 0) (.slice none 0 0) (.slice none 0 0) (.slice none 0 0)
    rwa [World.size_alloc] at this
  have hb0 : Below w.heap.size w ((w.alloc (cell12 p (.slice la ln lc) (.slice aa an ac) (.slice ta tn tc) (.slice ua un uc) (.slice ka kn kc))).alloc zero12) := ((Below.refl _ _).alloc (Nat.le_refl _) _).alloc (by simp) _
  have hs2 : ((w.alloc (cell12 p (.slice la ln lc) (.slice aa an ac) (.slice ta tn tc) (.slice ua un uc) (.slice ka kn kc))).alloc zero12).heap.size = w.heap.size + 2 := by simp
  obtain ⟨w2, hw2⟩ : ∃ w2, (w.alloc (cell12 p (.slice la ln lc) (.slice aa an ac) (.slice ta tn tc) (.slice ua un uc) (.slice ka kn kc))).alloc zero12 = w2 := ⟨_, rfl⟩
  rw [hw2] at t0 t1 hb0 hs2
  simp only [cell12, zero12] at hw2
  have HW2 := Lib.hid hw2
  have HIH := Lib.hid ih
  have HL := Lib.hid hl
  have HA := Lib.hid ha
  have HT := Lib.hid ht
  have HK := Lib.hid hk
  have HNS := Lib.hid hn
  obtain ⟨ps, hps⟩ : ∃ ps, p.ps = ps := ⟨_, rfl⟩
  rw [hps] at HK HIH hm3
  clear hl ha ht hk ih hm hw2 hn
  unfold prAgg
  go_enter Tryd.func41, Tryd.ntmps41
  go_wp2_with fail
  rw [HW2.out]
  -- the labels
  refine (strCloneU_any B _ p.ls hm1 w2 (HL.out.keep (hb0.keeps'.mono hB))).mono ?_
  rintro e w3 ⟨la', ln', lc', rfl, hs3, hb3⟩
  have T0 := Lib.hid ((t0.to hb3).set3 (.slice la' ln' lc'))
  have T1 := Lib.hid ((t1.to hb3).other (c := w.heap.size) (o := 3) (by omega) (.slice la' ln' lc'))
  have hz3 := hb3.size
  obtain ⟨⟨c0, c1, c2, c3, c4, c5, c6, c7, c8, c9, c10, c11⟩, hf⟩ := (t0.to hb3).cells
  have hab3 : Above (w.heap.size + 2) w3 (w3.setCell ⟨w.heap.size, 3, none⟩ (.slice la' ln' lc')) := (Above.refl _ _).set (by omega) _
  have HB3 := Lib.hid ((below_seq hb0 hb3).setCell (p := ⟨w.heap.size, 3, none⟩) (Nat.le_refl _) (.slice la' ln' lc'))
  have HS3 := Lib.hid (hs3.up2 (c := w.heap.size + 2) (d := w3.heap.size) hab3.keeps (by omega) (Nat.le_refl _))
  have hq3 : (w3.setCell ⟨w.heap.size, 3, none⟩ (.slice la' ln' lc')).heap.size = w3.heap.size := by simp
  clear hs3 hb3 t0 t1 hb0 hab3 HL
  go_wp2_with fail
  obtain ⟨w4, hw4⟩ : ∃ w4, w3.setCell ⟨w.heap.size, 3, none⟩ (.slice la' ln' lc') = w4 := ⟨_, rfl⟩
  rw [hw4] at T0 T1 HB3 HS3 hq3 ⊢
  clear hw4 c0 c1 c2 c3 c4 c5 c6 c7 c8 c9 c10 c11 hf
  -- the values
  refine (vlCloneU_any B _ p.vs hm2 w4 (HA.out.keep (HB3.out.keeps'.mono hB))).mono ?_
  rintro e w5 ⟨aa', an', ac', rfl, ha5, hb5⟩
  have T2 := Lib.hid ((T0.out.to hb5).set4 (.slice aa' an' ac'))
  have T3 := Lib.hid ((T1.out.to hb5).other (c := w.heap.size) (o := 4) (by omega) (.slice aa' an' ac'))
  have hz5 := hb5.size
  obtain ⟨⟨c0, c1, c2, c3, c4, c5, c6, c7, c8, c9, c10, c11⟩, hf⟩ := (T0.out.to hb5).cells
  have hab5 : Above (w.heap.size + 2) w5 (w5.setCell ⟨w.heap.size, 4, none⟩ (.slice aa' an' ac')) := (Above.refl _ _).set (by omega) _
  have HB5 := Lib.hid ((below_seq HB3.out hb5).setCell (p := ⟨w.heap.size, 4, none⟩) (Nat.le_refl _) (.slice aa' an' ac'))
  have HS5 := Lib.hid ((HS3.out.up (c := w.heap.size + 2) (d := w5.heap.size) (hb5.keeps'.mono (fun k hk => by have := hk.2; omega)) (Nat.le_refl _) (by omega)).up2 hab5.keeps (Nat.le_refl _) (Nat.le_refl _))
  have HA5 := Lib.hid (ha5.up2 (c := w.heap.size + 2) (d := w5.heap.size) hab5.keeps (by omega) (Nat.le_refl _))
  have hq5 : (w5.setCell ⟨w.heap.size, 4, none⟩ (.slice aa' an' ac')).heap.size = w5.heap.size := by simp
  clear ha5 hb5 T0 T1 HB3 HS3 hab5 HA
  go_wp2_with fail
  obtain ⟨w6, hw6⟩ : ∃ w6, w5.setCell ⟨w.heap.size, 4, none⟩ (.slice aa' an' ac') = w6 := ⟨_, rfl⟩
  rw [hw6] at T2 T3 HB5 HS5 HA5 hq5 ⊢
  clear hw6 c0 c1 c2 c3 c4 c5 c6 c7 c8 c9 c10 c11 hf
  -- the type
  refine (copyU_any B p.t hm4 _ w6 (hB.le HB5.out.size) (HT.out.keep (HB5.out.keeps'.mono hB))).mono ?_
  rintro e w7 ⟨ta', tn', tc', ua', un', uc', rfl, ht7, hb7⟩
  have T4 := Lib.hid ((T2.out.to hb7).setT (.int .i64 p.t.k) (.int .i64 p.t.p) (.string p.t.n) (.int .i64 p.t.s) (.slice ta' tn' tc') (.slice ua' un' uc'))
  have T5 := Lib.hid ((T3.out.to hb7).others (c := w.heap.size) (by omega) [.int .i64 p.t.k, .int .i64 p.t.p, .string p.t.n, .int .i64 p.t.s, .slice ta' tn' tc', .slice ua' un' uc'] 5)
  have hz7 := hb7.size
  obtain ⟨⟨c0, c1, c2, c3, c4, c5, c6, c7, c8, c9, c10, c11⟩, hf⟩ := (T2.out.to hb7).cells
  have hkp7 : Keeps (Fresh (w.heap.size + 2) w7.heap.size) w7 (w7.setCells w.heap.size 5 [.int .i64 p.t.k, .int .i64 p.t.p, .string p.t.n, .int .i64 p.t.s, .slice ta' tn' tc', .slice ua' un' uc']) := keeps_setCells (fun k hk => by have := hk.1; omega) _ _
  have HB7 := Lib.hid ((below_seq HB5.out hb7).trans (below_setCells w.heap.size (Nat.le_refl _) [.int .i64 p.t.k, .int .i64 p.t.p, .string p.t.n, .int .i64 p.t.s, .slice ta' tn' tc', .slice ua' un' uc'] 5 w7))
  have HS7 := Lib.hid ((HS5.out.up (c := w.heap.size + 2) (d := w7.heap.size) (hb7.keeps'.mono (fun k hk => by have := hk.2; omega)) (Nat.le_refl _) (by omega)).up2 hkp7 (Nat.le_refl _) (Nat.le_refl _))
  have HA7 := Lib.hid ((HA5.out.up (c := w.heap.size + 2) (d := w7.heap.size) (hb7.keeps'.mono (fun k hk => by have := hk.2; omega)) (Nat.le_refl _) (by omega)).up2 hkp7 (Nat.le_refl _) (Nat.le_refl _))
  have HT7 := Lib.hid (ht7.up2 (c := w.heap.size + 2) (d := w7.heap.size) hkp7 (by omega) (Nat.le_refl _))
  have hq7 := size_setCells w.heap.size [.int .i64 p.t.k, .int .i64 p.t.p, .string p.t.n, .int .i64 p.t.s, .slice ta' tn' tc', .slice ua' un' uc'] 5 w7
  rw [setCells6] at T4 T5 HB7 HS7 HA7 HT7 hq7
  clear ht7 hb7 T2 T3 HB5 HS5 HA5 HT hkp7
  go_wp2_with fail
  obtain ⟨w8, hw8⟩ : ∃ w8, (((((w7.setCell ⟨w.heap.size, 5, none⟩ (.int .i64 p.t.k)).setCell ⟨w.heap.size, 5 + 1, none⟩ (.int .i64 p.t.p)).setCell ⟨w.heap.size, 5 + 2, none⟩ (.string p.t.n)).setCell ⟨w.heap.size, 5 + 3, none⟩ (.int .i64 p.t.s)).setCell ⟨w.heap.size, 5 + 4, none⟩ (.slice ta' tn' tc')).setCell ⟨w.heap.size, 5 + 5, none⟩ (.slice ua' un' uc') = w8 := ⟨_, rfl⟩
  rw [hw8] at T4 T5 HB7 HS7 HA7 HT7 hq7
  simp only [Nat.reduceAdd] at hw8
  rw [hw8]
  clear hw8 c0 c1 c2 c3 c4 c5 c6 c7 c8 c9 c10 c11 hf
  -- the Kids
  refine (prClone_any B _ ps hm3 w8 (hB.le HB7.out.size) (HK.out.keep (HB7.out.keeps'.mono hB))).mono ?_
  rintro e w9 ⟨hrow0, hb9⟩
  have hrow : (∃ a c, e = .returned (.slice a 0 c) ∧ ps = []) ∨ ∃ g cap, e = .returned (.slice (some ⟨g, 0, none⟩) ps.length cap) ∧ w8.heap.size ≤ g ∧ g < w9.heap.size ∧ PFilledU B g ps.length ps 0 w9 := by
    rcases hrow0 with h | ⟨g, cap, h1, h2, h3, h4⟩
    · exact .inl h
    · exact .inr ⟨g, cap, h1, h2, h3, h4.u0⟩
  clear hrow0
  have hrow' : ∃ ga cap, e = .returned (.slice ga ps.length cap) ∧ ((ps = [] ∧ True) ∨ ∃ g, ga = some ⟨g, 0, none⟩ ∧ w8.heap.size ≤ g ∧ g < w9.heap.size ∧ PFilledU B g ps.length ps 0 w9) := by
    rcases hrow with ⟨a, c, rfl, rfl⟩ | ⟨g, cap, rfl, h1, h2, h3⟩
    · exact ⟨a, c, rfl, .inl ⟨rfl, trivial⟩⟩
    · exact ⟨_, cap, rfl, .inr ⟨g, rfl, h1, h2, h3⟩⟩
  clear hrow
  obtain ⟨ga, cap, rfl, hrow⟩ := hrow'
  obtain ⟨n, hnn⟩ : ∃ n, n = ps.length := ⟨_, rfl⟩
  rw [← hnn] at hrow hm3 ⊢
  have hz9 := hb9.size
  have S9 : CpStU w w8.heap.size p (.slice la' ln' lc') (.slice aa' an' ac') (.slice ta' tn' tc') (.slice ua' un' uc') (.slice ka kn kc) w8 := ⟨T4.out, T5.out, by rw [hq7]; exact HS7.out, by rw [hq7]; exact HA7.out, by rw [hq7]; exact HT7.out, HB7.out, by omega, Nat.le_refl _⟩
  have S10 := S9.to hb9
  have S11 : CpStU w w8.heap.size p (.slice la' ln' lc') (.slice aa' an' ac') (.slice ta' tn' tc') (.slice ua' un' uc') (.slice ga n cap) (w9.setCell ⟨w.heap.size, 11, none⟩ (.slice ga n cap)) := by
    have hk : Keeps (Fresh (w.heap.size + 2) w8.heap.size) w9 (w9.setCells w.heap.size 11 [.slice ga n cap]) := keeps_setCells (fun k hk => by have := hk.1; omega) _ _
    exact ⟨S10.own.set11 _, S10.res.other (by omega) _, S10.strs.up hk (Nat.le_refl _) (Nat.le_refl _), S10.vals.up hk (Nat.le_refl _) (Nat.le_refl _), S10.ty.up hk (Nat.le_refl _) (Nat.le_refl _), S10.below.setCell (p := ⟨w.heap.size, 11, none⟩) (Nat.le_refl _) _, S10.low.1, by simp; omega⟩
  have hrow2 : (ps = [] ∧ True) ∨ ∃ g, ga = some ⟨g, 0, none⟩ ∧ w8.heap.size ≤ g ∧ g < w9.heap.size ∧ PFilledU B g n ps 0 (w9.setCell ⟨w.heap.size, 11, none⟩ (.slice ga n cap)) := by
    rcases hrow with h | ⟨g, h1, h2, h3, h4⟩
    · exact .inl h
    · refine .inr ⟨g, h1, h2, h3, h4.keep (Below.heap_setCell _ _ _ g (by simp; omega)) (by simp) ?_ ?_⟩
      · exact keeps_setCells (c := w.heap.size) (fun k hk => by have := hB k hk; omega) [.slice ga n cap] 11
      · exact keeps_setCells (c := w.heap.size) (fun k hk => by have := hk.1; omega) [.slice ga n cap] 11
  have HS := Lib.hid S11
  have HROW := Lib.hid hrow2
  have HN := Lib.hid hnn
  obtain ⟨⟨c0, c1, c2, c3, c4, c5, c6, c7, c8, c9, c10, c11⟩, hf⟩ := S10.own.cells
  clear S9 S10 S11 hrow2 hrow T4 T5 HB7 HS7 HA7 HT7 hb9 hnn HK
  go_wp2_with fail
  obtain ⟨w10, hw10⟩ : ∃ w10, w9.setCell ⟨w.heap.size, 11, none⟩ (.slice ga n cap) = w10 := ⟨_, rfl⟩
  have hz10 : w9.heap.size = w10.heap.size := by rw [← hw10]; simp
  rw [hw10] at HS HROW ⊢
  clear hw10 c0 c1 c2 c3 c4 c5 c6 c7 c8 c9 c10 c11 hf
  obtain ⟨m, hmm⟩ : ∃ m, w8.heap.size = m := ⟨_, rfl⟩
  rw [hmm] at HS HROW hz9
  go_loopw [24] (fun i wr => ∃ k : Nat, i = .int .i64 (k : Int) ∧ k ≤ n ∧ Hid (CpStU w m p (.slice la' ln' lc') (.slice aa' an' ac') (.slice ta' tn' tc') (.slice ua' un' uc') (.slice ga n cap) wr) ∧ Hid ((ps = [] ∧ True) ∨ ∃ g, ga = some ⟨g, 0, none⟩ ∧ m ≤ g ∧ g < wr.heap.size ∧ PFilledU B g n ps k wr)) (fun i _ => n - (intOf i).toNat)
  case atStart => exact ⟨0, rfl, by omega, HS, Lib.hid (by rw [← hz10]; exact HROW.out)⟩
  case round =>
    clear HROW HS
    obtain ⟨k, rfl, hk, HS, HROW⟩ := hrel
    by_cases hlt : k < n
    · obtain ⟨t, htk⟩ : ∃ t, ps[k]? = some t := ⟨_, List.getElem?_eq_getElem (by rw [← HN.out]; exact hlt)⟩
      obtain ⟨g, hga, hgm, hgl, hpf⟩ : ∃ g, ga = some ⟨g, 0, none⟩ ∧ m ≤ g ∧ g < wr.heap.size ∧ PFilledU B g n ps k wr := by
        rcases HROW.out with ⟨h, _⟩ | h
        · rw [h] at htk; cases htk
        · exact h
      subst hga
      obtain ⟨la2, ln2, lc2, aa2, an2, ac2, ta2, tn2, tc2, ua2, un2, uc2, ka2, kn2, kc2, ⟨d0, d1, d2, d3, d4, d5, d6, d7, d8, d9, d10, d11⟩, hval⟩ := hpf.each k t htk
      rw [if_neg (by omega)] at hval
      have hBr : Low B wr := hB.le HS.out.below.size
      have hbx := (blkBelow wr #[.int .i64 t.k, .string t.c, .string t.x, .slice la2 ln2 lc2, .slice aa2 an2 ac2, .int .i64 t.t.k, .int .i64 t.t.p, .string t.t.n, .int .i64 t.t.s, .slice ta2 tn2 tc2, .slice ua2 un2 uc2, .slice ka2 kn2 kc2] 36).drew
      have IH := Lib.hid (HIH.out t (List.mem_of_getElem? htk) _ _ (hBr.le hbx.size) (hval.to hBr hbx))
      have HPF := Lib.hid (hpf.to hBr hbx)
      have HS2 := Lib.hid (HS.out.to hbx)
      have HTK := Lib.hid htk
      have hblw := HS.out.below.size
      have hlow := HS.out.low
      have hlw0 : w.heap.size < wr.heap.size := by omega
      have hsz12 : ((wr.alloc (.cells #[.int .i64 t.k, .string t.c, .string t.x, .slice la2 ln2 lc2, .slice aa2 an2 ac2, .int .i64 t.t.k, .int .i64 t.t.p, .string t.t.n, .int .i64 t.t.s, .slice ta2 tn2 tc2, .slice ua2 un2 uc2, .slice ka2 kn2 kc2] 36)).drew).heap.size = wr.heap.size + 1 := by simp
      have c11 := HS.out.own.cells.1.2.2.2.2.2.2.2.2.2.2.2
      unfold prAgg at IH
      clear hpf hval hbx htk
      go_wp2_with fail
      go_region_with (go_at_call 41; refine IH.out.mono ?_; rintro e w11 ⟨la3, ln3, lc3, aa3, an3, ac3, ta3, tn3, tc3, ua3, un3, uc3, ka3, kn3, kc3, rfl, hv11, hb11⟩; have hpf := HPF.out.to (hBr.le (by rw [hsz12]; omega)) hb11; obtain ⟨cs, hcs, hcz⟩ := hpf.block; have hfz := frozen_of_block hcs; obtain ⟨x0, y0⟩ := cell_in hcs (j := k * 12) (by omega); obtain ⟨x1, y1⟩ := cell_in hcs (j := k * 12 + 1) (by omega); obtain ⟨x2, y2⟩ := cell_in hcs (j := k * 12 + 2) (by omega); obtain ⟨x3, y3⟩ := cell_in hcs (j := k * 12 + 3) (by omega); obtain ⟨x4, y4⟩ := cell_in hcs (j := k * 12 + 4) (by omega); obtain ⟨x5, y5⟩ := cell_in hcs (j := k * 12 + 5) (by omega); obtain ⟨x6, y6⟩ := cell_in hcs (j := k * 12 + 6) (by omega); obtain ⟨x7, y7⟩ := cell_in hcs (j := k * 12 + 7) (by omega); obtain ⟨x8, y8⟩ := cell_in hcs (j := k * 12 + 8) (by omega); obtain ⟨x9, y9⟩ := cell_in hcs (j := k * 12 + 9) (by omega); obtain ⟨x10, y10⟩ := cell_in hcs (j := k * 12 + 10) (by omega); obtain ⟨x11, y11⟩ := cell_in hcs (j := k * 12 + 11) (by omega); have z11 := (HS2.out.to hb11).own.cells.1.2.2.2.2.2.2.2.2.2.2.2; replace hcs := Lib.hid hcs)
      all_goals
        go_wp2_with fail
        have hs12 := hb11.size
        have hst := hpf.store HN.out (fun j hj => by have := hB j hj; omega) HTK.out (hv11.mono (FrU.mono (c := g + 1) (d := w11.heap.size) (by rw [hsz12]; omega) (Nat.le_refl _)))
        have hss := (HS2.out.to hb11).stores hgm (prCellsL t (.slice la3 ln3 lc3) (.slice aa3 an3 ac3) (.slice ta3 tn3 tc3) (.slice ua3 un3 uc3) (.slice ka3 kn3 kc3)) (k * 12)
        have hgl2 : g < (w11.setCells g (k * 12) (prCellsL t (.slice la3 ln3 lc3) (.slice aa3 an3 ac3) (.slice ta3 tn3 tc3) (.slice ua3 un3 uc3) (.slice ka3 kn3 kc3))).heap.size := by rw [size_setCells]; omega
        unfold prCellsL at hst hss hgl2
        rw [setCells12] at hst hss hgl2
        go_roundw
        case rel => exact ⟨k + 1, by go_num, by omega, Lib.hid hss, Lib.hid (.inr ⟨g, rfl, hgm, hgl2, hst⟩)⟩
        case measure => simp [intOf]; omega
    · obtain rfl : k = n := by omega
      obtain ⟨⟨c0, c1, c2, c3, c4, c5, c6, c7, c8, c9, c10, c11⟩, hf⟩ := HS.out.own.cells
      obtain ⟨⟨e0, e1, e2, e3, e4, e5, e6, e7, e8, e9, e10, e11⟩, hf1⟩ := HS.out.res.cells
      have hlow := HS.out.low
      have hbl := HS.out.below
      have hfill := HS.out.res.fill (.int .i64 p.k) (.string p.c) (.string p.x) (.slice la' ln' lc') (.slice aa' an' ac') (.int .i64 p.t.k) (.int .i64 p.t.p) (.string p.t.n) (.int .i64 p.t.s) (.slice ta' tn' tc') (.slice ua' un' uc') (.slice ga k cap)
      have hkp : ∀ F : Nat → Prop, (∀ j, F j → j ≠ w.heap.size + 1) → Keeps F wr (wr.setCells (w.heap.size + 1) 0 [.int .i64 p.k, .string p.c, .string p.x, .slice la' ln' lc', .slice aa' an' ac', .int .i64 p.t.k, .int .i64 p.t.p, .string p.t.n, .int .i64 p.t.s, .slice ta' tn' tc', .slice ua' un' uc', .slice ga k cap]) := fun F hF => keeps_setCells hF _ _
      have hbb := hbl.trans (below_setCells (w.heap.size + 1) (by omega) [.int .i64 p.k, .string p.c, .string p.x, .slice la' ln' lc', .slice aa' an' ac', .int .i64 p.t.k, .int .i64 p.t.p, .string p.t.n, .int .i64 p.t.s, .slice ta' tn' tc', .slice ua' un' uc', .slice ga k cap] 0 wr)
      have hsz := size_setCells (w.heap.size + 1) [.int .i64 p.k, .string p.c, .string p.x, .slice la' ln' lc', .slice aa' an' ac', .int .i64 p.t.k, .int .i64 p.t.p, .string p.t.n, .int .i64 p.t.s, .slice ta' tn' tc', .slice ua' un' uc', .slice ga k cap] 0 wr
      have hgo : ∀ g, w.heap.size + 1 ≠ g → (wr.setCells (w.heap.size + 1) 0 [.int .i64 p.k, .string p.c, .string p.x, .slice la' ln' lc', .slice aa' an' ac', .int .i64 p.t.k, .int .i64 p.t.p, .string p.t.n, .int .i64 p.t.s, .slice ta' tn' tc', .slice ua' un' uc', .slice ga k cap]).heap[g]? = wr.heap[g]? := fun g hg => heap_setCells_other (fun e => hg e.symm) _ _ _
      rw [setCells12] at hfill hkp hbb hsz hgo
      simp only [Nat.zero_add] at hfill hkp hbb hsz hgo
      have HFI := Lib.hid hfill
      have HKP := Lib.hid hkp
      have HBB := Lib.hid hbb
      have HSZ := Lib.hid hsz
      have HGO := Lib.hid hgo
      clear hfill hkp hbb hsz hgo
      go_wp2_with fail
      obtain ⟨w12, hw12⟩ : ∃ x, ((((((((((((wr.setCell ⟨w.heap.size + 1, 0, none⟩ (.int .i64 p.k)).setCell ⟨w.heap.size + 1, 1, none⟩ (.string p.c)).setCell ⟨w.heap.size + 1, 2, none⟩ (.string p.x)).setCell ⟨w.heap.size + 1, 3, none⟩ (.slice la' ln' lc')).setCell ⟨w.heap.size + 1, 4, none⟩ (.slice aa' an' ac')).setCell ⟨w.heap.size + 1, 5, none⟩ (.int .i64 p.t.k)).setCell ⟨w.heap.size + 1, 6, none⟩ (.int .i64 p.t.p)).setCell ⟨w.heap.size + 1, 7, none⟩ (.string p.t.n)).setCell ⟨w.heap.size + 1, 8, none⟩ (.int .i64 p.t.s)).setCell ⟨w.heap.size + 1, 9, none⟩ (.slice ta' tn' tc')).setCell ⟨w.heap.size + 1, 10, none⟩ (.slice ua' un' uc')).setCell ⟨w.heap.size + 1, 11, none⟩ (.slice ga k cap)) = x := ⟨_, rfl⟩
      rw [hw12] at HFI HKP HBB HSZ HGO ⊢
      clear hw12 c0 c1 c2 c3 c4 c5 c6 c7 c8 c9 c10 c11 hf e0 e1 e2 e3 e4 e5 e6 e7 e8 e9 e10 e11 hf1
      obtain ⟨⟨f0, f1, f2, f3, f4, f5, f6, f7, f8, f9, f10, f11⟩, hf2⟩ := HFI.out.cells
      have hF := HKP.out (Fresh (w.heap.size + 2) m) (fun j hj => by have := hj.1; omega)
      have hFm1 : w.heap.size ≤ w.heap.size + 2 := by omega
      have hFm2 : m ≤ w12.heap.size := by rw [HSZ.out]; omega
      have hpr : PrVal (FrU w12 w.heap.size w12.heap.size) w12 (prAgg p (.slice la' ln' lc') (.slice aa' an' ac') (.slice ta' tn' tc') (.slice ua' un' uc') (.slice ga k cap)) p := by
        refine ⟨_, _, _, _, _, rfl, HNS.out, HS.out.strs.up hF hFm1 hFm2, HS.out.vals.up hF hFm1 hFm2, HS.out.ty.up hF hFm1 hFm2, ?_, by rw [hps, ← HN.out]; unfold maxLen; omega⟩
        rw [hps]
        rcases HROW.out with ⟨h, _⟩ | ⟨g, h, hgm, hgl, hpf⟩
        · left
          have hk0 : k = 0 := by rw [HN.out, h]; rfl
          exact ⟨⟨ga, cap, by rw [hk0]⟩, h⟩
        · right
          have hug : Uf w12 g := by
            obtain ⟨cs, hcs, _⟩ := hpf.block
            exact ⟨cs, _, (HGO.out g (by omega)).trans hcs⟩
          refine ⟨g, 0, cap, by rw [h, ← HN.out], ⟨⟨by omega, by rw [HSZ.out]; exact hgl⟩, hug⟩, prsAt_of (fun i t hi => ?_)⟩
          have hik : i < k := by rw [HN.out]; exact (List.getElem?_eq_some_iff.1 hi).1
          obtain ⟨la2, ln2, lc2, aa2, an2, ac2, ta2, tn2, tc2, ua2, un2, uc2, ka2, kn2, kc2, ⟨d0, d1, d2, d3, d4, d5, d6, d7, d8, d9, d10, d11⟩, hval⟩ := hpf.each i t hi
          rw [if_pos hik] at hval
          have hc : ∀ (o : Nat) (v : Value), wr.cell? ⟨g, o, none⟩ = some v → w12.cell? ⟨g, o, none⟩ = some v := fun o v hv => by
            rw [← hv]; unfold World.cell?; simp only [HGO.out g (by omega)]
          rw [Nat.zero_add]
          exact prAt_of ⟨⟨by omega, by rw [HSZ.out]; exact hgl⟩, hug⟩ (hc _ _ d0) (hc _ _ d1) (hc _ _ d2) (hc _ _ d3) (hc _ _ d4) (hc _ _ d5) (hc _ _ d6) (hc _ _ d7) (hc _ _ d8) (hc _ _ d9) (hc _ _ d10) (hc _ _ d11)
            (hval.up (HKP.out _ (fun j hj => by have := hj.1; omega)) (by omega) (by rw [HSZ.out]; exact Nat.le_refl _))
      exact bodyPost_ret (v := (.agg #[.int .i64 p.k, .string p.c, .string p.x, .slice la' ln' lc', .slice aa' an' ac', .int .i64 p.t.k, .int .i64 p.t.p, .string p.t.n, .int .i64 p.t.s, .slice ta' tn' tc', .slice ua' un' uc', .slice ga k cap])) (by simp [results, Tryd.results41, go_sem, f0, f1, f2, f3, f4, f5, f6, f7, f8, f9, f10, f11]) rfl ⟨_, _, _, _, _, _, _, _, _, _, _, _, _, _, _, rfl, hpr, HBB.out⟩

theorem pcopyU_any (B : Nat → Prop) : ∀ p : Pr, p.mod → ∀ (v : Value) (w : World), Low B w → PrVal B w v p → Calls Tryd.prog 41 #[v] w (PrRetU w p) := by
  refine Pr.ind ?_
  intro k c x ls vs t ps ih hm v w hB hv
  have hm' := hm
  simp only [Pr.mod] at hm'
  exact pcopyU_step B _ hm (fun u hu => ih u hu (Pr.mods_mem hm'.2.2.2.2 u hu)) v w hB hv

end Go.Proofs.YtipjjhkgcbabnaaDoor

/- What stays in memory while a process is spoilt: texts stay texts, numbers stay numbers, all slices stay as they are. -/
namespace Go.Proofs.YtipjjhkgcbabnaaDoor
open Go.RowKit Go.Deep Go.Shelf

/-- A cell that was changed: a text became a text, a number a number. -/
def CellKin (v u : Value) : Prop := v = u ∨ (∃ s s', v = .string s ∧ u = .string s') ∨ ∃ t n n', v = .int t n ∧ u = .int t n'
theorem CellKin.refl (v : Value) : CellKin v v := .inl rfl
theorem CellKin.trans {a b c : Value} (h : CellKin a b) (k : CellKin b c) : CellKin a c := by
  rcases h with rfl | ⟨s, s', rfl, rfl⟩ | ⟨t, n, n', rfl, rfl⟩
  · exact k
  · rcases k with rfl | ⟨q, q', h1, rfl⟩ | ⟨t, n, n', h1, rfl⟩
    · exact .inr (.inl ⟨_, _, rfl, rfl⟩)
    · exact .inr (.inl ⟨_, _, rfl, rfl⟩)
    · cases h1
  · rcases k with rfl | ⟨q, q', h1, rfl⟩ | ⟨t', m, m', h1, rfl⟩
    · exact .inr (.inr ⟨_, _, _, rfl, rfl⟩)
    · cases h1
    · cases h1; exact .inr (.inr ⟨_, _, _, rfl, rfl⟩)
theorem CellKin.slice {a : Option Addr} {n c : Nat} {u : Value} (h : CellKin (.slice a n c) u) : u = .slice a n c := by
  rcases h with h | ⟨s, s', h, _⟩ | ⟨t, n, n', h, _⟩
  · exact h.symm
  · cases h
  · cases h
theorem CellKin.str {s : ByteArray} {u : Value} (h : CellKin (.string s) u) : ∃ s', u = .string s' := by
  rcases h with h | ⟨s, s', _, h⟩ | ⟨t, n, n', h, _⟩
  · exact ⟨_, h.symm⟩
  · exact ⟨_, h⟩
  · cases h
theorem CellKin.num {t : IntKind} {n : Int} {u : Value} (h : CellKin (.int t n) u) : ∃ n', u = .int t n' := by
  rcases h with h | ⟨s, s', h, _⟩ | ⟨t, n, n', h, h'⟩
  · exact ⟨_, h.symm⟩
  · cases h
  · cases h; exact ⟨_, h'⟩

/-- The worlds before and behind: outside F all lies as it lay, in F each cell is kin to what it was. -/
structure Kin (F : Nat → Prop) (w w' : World) : Prop where
  os : w'.os = w.os
  tape : w'.tape = w.tape
  output : w'.output = w.output
  size : w.heap.size ≤ w'.heap.size
  low : ∀ k, k < w.heap.size → ¬ F k → w'.heap[k]? = w.heap[k]?
  same : ∀ k cs t fr, F k → w.heap[k]? = some (.cells cs t fr) → ∃ cs', w'.heap[k]? = some (.cells cs' t fr) ∧ ∀ (j : Nat) (v : Value), cs[j]? = some v → ∃ u, cs'[j]? = some u ∧ CellKin v u
section
variable {F : Nat → Prop} {a b c w w' : World}
theorem Kin.refl (F : Nat → Prop) (w : World) : Kin F w w := ⟨rfl, rfl, rfl, Nat.le_refl _, fun _ _ _ => rfl, fun _ cs _ _ _ h => ⟨cs, h, fun _ v hv => ⟨v, hv, CellKin.refl v⟩⟩⟩
theorem Kin.trans (h : Kin F a b) (k : Kin F b c) : Kin F a c := by
  refine ⟨k.os.trans h.os, k.tape.trans h.tape, k.output.trans h.output, Nat.le_trans h.size k.size, fun i hi hf => (k.low i (Nat.lt_of_lt_of_le hi h.size) hf).trans (h.low i hi hf), fun i cs t fr hf hc => ?_⟩
  obtain ⟨cs1, h1, h2⟩ := h.same i cs t fr hf hc
  obtain ⟨cs2, h3, h4⟩ := k.same i cs1 t fr hf h1
  refine ⟨cs2, h3, fun j v hv => ?_⟩
  obtain ⟨u, hu, hk⟩ := h2 j v hv
  obtain ⟨u2, hu2, hk2⟩ := h4 j u hu
  exact ⟨u2, hu2, hk.trans hk2⟩
theorem Kin.alloc (hF : Low F w) (o : Obj) : Kin F w (w.alloc o) := by
  have hb := (Below.refl w.heap.size w).alloc (Nat.le_refl _) o
  exact ⟨hb.os, hb.tape, hb.output, hb.size, fun k hk _ => hb.block k hk, fun k cs t fr hf hc => ⟨cs, (hb.block k (hF k hf)).trans hc, fun _ v hv => ⟨v, hv, CellKin.refl v⟩⟩⟩
theorem Kin.uf (h : Kin F w w') {k : Nat} (hf : F k) (hu : Uf w k) : Uf w' k := by
  obtain ⟨cs, t, hc⟩ := hu
  obtain ⟨cs', h1, _⟩ := h.same k cs t _ hf hc
  exact ⟨cs', t, h1⟩
theorem Kin.cell (h : Kin F w w') {b o : Nat} {v : Value} (hb : F b) (hv : w.cell? ⟨b, o, none⟩ = some v) : ∃ u, w'.cell? ⟨b, o, none⟩ = some u ∧ CellKin v u := by
  unfold World.cell? at hv
  cases ho : w.heap[b]? with
  | none => simp [ho] at hv
  | some ob =>
    cases ob with
    | cells cs t fr =>
      simp only [ho] at hv
      obtain ⟨cs', h1, h2⟩ := h.same b cs t fr hb ho
      obtain ⟨u, hu, hk⟩ := h2 o v (by simpa using hv)
      exact ⟨u, by unfold World.cell?; simp only [h1]; simpa using hu, hk⟩
    | _ => simp [ho] at hv
theorem Uf.frozen {k j : Nat} (h : Uf w k) : w.frozen? ⟨k, j, none⟩ = false := by
  obtain ⟨cs, t, hc⟩ := h
  exact frozen_of_block hc j
theorem Uf.lt {k : Nat} (h : Uf w k) : k < w.heap.size := by
  obtain ⟨cs, t, hc⟩ := h
  exact (Array.getElem?_eq_some_iff.1 hc).1
/-- A store of a kin value. -/
theorem Kin.set {g o : Nat} {v u : Value} (hg : F g) (hv : w.cell? ⟨g, o, none⟩ = some v) (hk : CellKin v u) : Kin F w (w.setCell ⟨g, o, none⟩ u) := by
  have hb := (Below.refl 0 w).setCell (p := ⟨g, o, none⟩) (Nat.zero_le _) u
  refine ⟨hb.os, hb.tape, hb.output, hb.size, fun k _ hf => Below.heap_setCell _ _ _ k (by intro e; exact hf (by simp at e; rw [e]; exact hg)), fun k cs t fr hf hc => ?_⟩
  by_cases e : k = g
  · subst e
    refine ⟨_, set_block hc o u, fun j x hx => ?_⟩
    rw [Array.getElem?_setIfInBounds]
    by_cases ej : o = j
    · subst ej
      have hlt := (Array.getElem?_eq_some_iff.1 hx).1
      rw [if_pos rfl, if_pos hlt]
      have : x = v := by
        have h2 : w.cell? ⟨k, o, none⟩ = some x := by simp [World.cell?, hc, hx]
        rw [hv] at h2; exact (Option.some.inj h2).symm
      exact ⟨u, rfl, by rw [this]; exact hk⟩
    · rw [if_neg ej]
      exact ⟨x, hx, CellKin.refl x⟩
  · exact ⟨cs, (Below.heap_setCell _ _ _ k (by simpa using e)).trans hc, fun _ x hx => ⟨x, hx, CellKin.refl x⟩⟩
theorem Kin.below {m : Nat} (h : Kin F w w') (hm : m ≤ w.heap.size) (hF : ∀ k, F k → m ≤ k) : Below m w w' :=
  ⟨h.os, h.tape, h.output, h.size, fun k hk => h.low k (by omega) (fun hf => by have := hF k hf; omega)⟩
end

/-! ### What spoil reads -/
/-- n cells, s apart from each other, each with a text. -/
def StrQ (F : Nat → Prop) (w : World) (a : Option Addr) (n : Nat) : Prop := n ≤ 9223372036854775807 ∧ ∀ j, j < n → ∃ b o s, a = some ⟨b, o, none⟩ ∧ F b ∧ w.cell? ⟨b, o + j, none⟩ = some (.string s)
def NumQ (F : Nat → Prop) (w : World) (a : Option Addr) (n sz d : Nat) : Prop := n ≤ 9223372036854775807 ∧ ∀ j, j < n → ∃ b o k, a = some ⟨b, o, none⟩ ∧ F b ∧ w.cell? ⟨b, o + j * sz + d, none⟩ = some (.int .i64 k)
theorem StrQ.kin {F : Nat → Prop} {w w' : World} {a : Option Addr} {n : Nat} (h : StrQ F w a n) (hk : Kin F w w') : StrQ F w' a n := by
  refine ⟨h.1, fun j hj => ?_⟩
  obtain ⟨b, o, s, h1, h2, h3⟩ := h.2 j hj
  obtain ⟨u, h4, h5⟩ := hk.cell h2 h3
  obtain ⟨s', rfl⟩ := h5.str
  exact ⟨b, o, s', h1, h2, h4⟩
theorem NumQ.kin {F : Nat → Prop} {w w' : World} {a : Option Addr} {n sz d : Nat} (h : NumQ F w a n sz d) (hk : Kin F w w') : NumQ F w' a n sz d := by
  refine ⟨h.1, fun j hj => ?_⟩
  obtain ⟨b, o, s, h1, h2, h3⟩ := h.2 j hj
  obtain ⟨u, h4, h5⟩ := hk.cell h2 h3
  obtain ⟨s', rfl⟩ := h5.num
  exact ⟨b, o, s', h1, h2, h4⟩
theorem StrSl.q {F : Nat → Prop} {w : World} {a : Option Addr} {n c : Nat} {ls : List ByteArray} (h : StrSl F w (.slice a n c) ls) : StrQ F w a n := by
  obtain ⟨pa, len, c', e, hl, hm, hg⟩ := h.open
  injection e with e1 e2 e3
  subst e1 e2
  refine ⟨hm, fun j hj => ?_⟩
  obtain ⟨s, hs⟩ : ∃ s, ls[j]? = some s := ⟨_, List.getElem?_eq_getElem (by rw [← hl.out]; exact hj)⟩
  obtain ⟨_, b, o, h1, h2, h3⟩ := hg j s hs
  exact ⟨b, o, s, h1, h2, h3⟩
theorem VlSl.q {F : Nat → Prop} {w : World} {a : Option Addr} {n c : Nat} {ls : List Vl} (h : VlSl F w (.slice a n c) ls) : NumQ F w a n 3 2 := by
  obtain ⟨pa, len, c', e, hl, hm, hg⟩ := h.open
  injection e with e1 e2 e3
  subst e1 e2
  refine ⟨hm, fun j hj => ?_⟩
  obtain ⟨s, hs⟩ : ∃ s, ls[j]? = some s := ⟨_, List.getElem?_eq_getElem (by rw [← hl.out]; exact hj)⟩
  obtain ⟨_, b, o, h1, h2, _, _, h3⟩ := hg j s hs
  exact ⟨b, o, s.x, h1, h2, h3⟩
theorem TySl.q {F : Nat → Prop} {w : World} {a : Option Addr} {n c : Nat} {ls : List Ty} (h : TySl F w (.slice a n c) ls) : NumQ F w a n 6 0 := by
  obtain ⟨pa, len, c', e, hl, hm, hg⟩ := h.open
  injection e with e1 e2 e3
  subst e1 e2
  refine ⟨hm, fun j hj => ?_⟩
  obtain ⟨s, hs⟩ : ∃ s, ls[j]? = some s := ⟨_, List.getElem?_eq_getElem (by rw [← hl.out]; exact hj)⟩
  obtain ⟨b, o, h1, h2, h3⟩ := hg j s hs
  obtain ⟨_, _, ⟨h4, _⟩, _⟩ := TyAt.eq.1 h3
  exact ⟨b, o, s.k, h1, h2, h4⟩

/-- Twelve cells of a process, whatever texts and numbers stand there. -/
def HdAt (w : World) (b o : Nat) (la : Option Addr) (ln lc : Nat) (aa : Option Addr) (an ac : Nat) (tv : Value) (ua : Option Addr) (un uc : Nat) (ka : Option Addr) (kn kc : Nat) : Prop :=
  ∃ k0 c0 x0 k1 p1 n1 s1, w.cell? ⟨b, o, none⟩ = some (.int .i64 k0) ∧ w.cell? ⟨b, o + 1, none⟩ = some (.string c0) ∧ w.cell? ⟨b, o + 2, none⟩ = some (.string x0) ∧ w.cell? ⟨b, o + 3, none⟩ = some (.slice la ln lc) ∧ w.cell? ⟨b, o + 4, none⟩ = some (.slice aa an ac) ∧
    w.cell? ⟨b, o + 5, none⟩ = some (.int .i64 k1) ∧ w.cell? ⟨b, o + 6, none⟩ = some (.int .i64 p1) ∧ w.cell? ⟨b, o + 7, none⟩ = some (.string n1) ∧ w.cell? ⟨b, o + 8, none⟩ = some (.int .i64 s1) ∧ w.cell? ⟨b, o + 9, none⟩ = some tv ∧ w.cell? ⟨b, o + 10, none⟩ = some (.slice ua un uc) ∧ w.cell? ⟨b, o + 11, none⟩ = some (.slice ka kn kc) ∧ ∃ ta tn tc, tv = .slice ta tn tc
theorem HdAt.kin {F : Nat → Prop} {w w' : World} {b o : Nat} {la : Option Addr} {ln lc : Nat} {aa : Option Addr} {an ac : Nat} {tv : Value} {ua : Option Addr} {un uc : Nat} {ka : Option Addr} {kn kc : Nat} (h : HdAt w b o la ln lc aa an ac tv ua un uc ka kn kc) (hb : F b) (hk : Kin F w w') : HdAt w' b o la ln lc aa an ac tv ua un uc ka kn kc := by
  obtain ⟨k0, c0, x0, k1, p1, n1, s1, d0, d1, d2, d3, d4, d5, d6, d7, d8, d9, d10, d11, ta, tn, tc, rfl⟩ := h
  obtain ⟨_, e0, h0⟩ := hk.cell hb d0
  obtain ⟨_, e1, h1⟩ := hk.cell hb d1
  obtain ⟨_, e2, h2⟩ := hk.cell hb d2
  obtain ⟨_, e3, h3⟩ := hk.cell hb d3
  obtain ⟨_, e4, h4⟩ := hk.cell hb d4
  obtain ⟨_, e5, h5⟩ := hk.cell hb d5
  obtain ⟨_, e6, h6⟩ := hk.cell hb d6
  obtain ⟨_, e7, h7⟩ := hk.cell hb d7
  obtain ⟨_, e8, h8⟩ := hk.cell hb d8
  obtain ⟨_, e9, h9⟩ := hk.cell hb d9
  obtain ⟨_, e10, h10⟩ := hk.cell hb d10
  obtain ⟨_, e11, h11⟩ := hk.cell hb d11
  obtain ⟨_, rfl⟩ := h0.num
  obtain ⟨_, rfl⟩ := h1.str
  obtain ⟨_, rfl⟩ := h2.str
  obtain rfl := h3.slice
  obtain rfl := h4.slice
  obtain ⟨_, rfl⟩ := h5.num
  obtain ⟨_, rfl⟩ := h6.num
  obtain ⟨_, rfl⟩ := h7.str
  obtain ⟨_, rfl⟩ := h8.num
  obtain rfl := h9.slice
  obtain rfl := h10.slice
  obtain rfl := h11.slice
  exact ⟨_, _, _, _, _, _, _, e0, e1, e2, e3, e4, e5, e6, e7, e8, e9, e10, e11, _, _, _, rfl⟩

mutual
/-- A process at cell o of block b, as far as spoil reads it. -/
def ShAt (F : Nat → Prop) (w : World) : Pr → Nat → Nat → Prop
  | .mk _ _ _ _ _ _ ps, b, o => F b ∧ ∃ la ln lc aa an ac tv ua un uc ka kn kc, HdAt w b o la ln lc aa an ac tv ua un uc ka kn kc ∧ StrQ F w la ln ∧ NumQ F w aa an 3 2 ∧ NumQ F w ua un 6 0 ∧ kn = ps.length ∧ ps.length ≤ 9223372036854775807 ∧ (ps = [] ∨ ∃ kb ko, ka = some ⟨kb, ko, none⟩ ∧ F kb ∧ ShsAt F w ps kb ko)
def ShsAt (F : Nat → Prop) (w : World) : List Pr → Nat → Nat → Prop
  | [], _, _ => True
  | p :: r, b, o => ShAt F w p b o ∧ ShsAt F w r b (o + 12)
end
/-- What spoil reads of a process beside its own twelve cells. -/
def ShIn (F : Nat → Prop) (w : World) (ps : List Pr) (la : Option Addr) (ln : Nat) (aa : Option Addr) (an : Nat) (ua : Option Addr) (un : Nat) (ka : Option Addr) (kn : Nat) : Prop :=
  StrQ F w la ln ∧ NumQ F w aa an 3 2 ∧ NumQ F w ua un 6 0 ∧ kn = ps.length ∧ ps.length ≤ 9223372036854775807 ∧ (ps = [] ∨ ∃ kb ko, ka = some ⟨kb, ko, none⟩ ∧ F kb ∧ ShsAt F w ps kb ko)
theorem ShAt.eq {F : Nat → Prop} {w : World} {p : Pr} {b o : Nat} : ShAt F w p b o ↔ F b ∧ ∃ la ln lc aa an ac tv ua un uc ka kn kc, HdAt w b o la ln lc aa an ac tv ua un uc ka kn kc ∧ ShIn F w p.ps la ln aa an ua un ka kn := by
  cases p; simp only [ShAt, ShIn, Pr.ps]
mutual
theorem ShAt.kin {F : Nat → Prop} {w w' : World} (h : Kin F w w') : ∀ (p : Pr) (b o : Nat), ShAt F w p b o → ShAt F w' p b o
  | .mk k c x ls vs t ps, b, o, hp => by
    simp only [ShAt] at hp ⊢
    obtain ⟨hb, la, ln, lc, aa, an, ac, tv, ua, un, uc, ka, kn, kc, hd, h1, h2, h3, h4, h5, h6⟩ := hp
    refine ⟨hb, la, ln, lc, aa, an, ac, tv, ua, un, uc, ka, kn, kc, hd.kin hb h, h1.kin h, h2.kin h, h3.kin h, h4, h5, ?_⟩
    rcases h6 with h6 | ⟨kb, ko, h7, h8, h9⟩
    · exact .inl h6
    · exact .inr ⟨kb, ko, h7, h8, ShsAt.kin h ps kb ko h9⟩
theorem ShsAt.kin {F : Nat → Prop} {w w' : World} (h : Kin F w w') : ∀ (ps : List Pr) (b o : Nat), ShsAt F w ps b o → ShsAt F w' ps b o
  | [], _, _, _ => by simp [ShsAt]
  | p :: r, b, o, hp => by
    simp only [ShsAt] at hp ⊢
    exact ⟨ShAt.kin h p b o hp.1, ShsAt.kin h r b (o + 12) hp.2⟩
end
theorem ShIn.kin {F : Nat → Prop} {w w' : World} {ps : List Pr} {la : Option Addr} {ln : Nat} {aa : Option Addr} {an : Nat} {ua : Option Addr} {un : Nat} {ka : Option Addr} {kn : Nat} (hp : ShIn F w ps la ln aa an ua un ka kn) (h : Kin F w w') : ShIn F w' ps la ln aa an ua un ka kn := by
  obtain ⟨h1, h2, h3, h4, h5, h6⟩ := hp
  refine ⟨h1.kin h, h2.kin h, h3.kin h, h4, h5, ?_⟩
  rcases h6 with h6 | ⟨kb, ko, h7, h8, h9⟩
  · exact .inl h6
  · exact .inr ⟨kb, ko, h7, h8, ShsAt.kin h ps kb ko h9⟩
theorem ShsAt.get {F : Nat → Prop} {w : World} : ∀ {ps : List Pr} {b o : Nat}, ShsAt F w ps b o → ∀ {i : Nat} {p : Pr}, ps[i]? = some p → ShAt F w p b (o + i * 12)
  | [], _, _, _, i, p, hi => by simp at hi
  | u :: r, b, o, h, i, p, hi => by
    simp only [ShsAt] at h
    cases i with
    | zero => simp at hi; subst hi; simpa using h.1
    | succ i =>
      have := ShsAt.get h.2 (i := i) (p := p) (by simpa using hi)
      rw [show o + (i + 1) * 12 = o + 12 + i * 12 by omega]; exact this
mutual
theorem PrAt.sh {F : Nat → Prop} {w : World} : ∀ (p : Pr) (b o : Nat), PrAt F w p b o → ShAt F w p b o
  | .mk k c x ls vs t ps, b, o, hp => by
    have hl := PrAt.load' hp
    have hb := (PrAt.eq.1 hp).1
    simp only [PrAt] at hp
    obtain ⟨la, ln, lc, aa, an, ac, ta, tn, tc, ua, un, uc, ka, kn, kc, ⟨d0, d1, d2, d3, d4, d5, d6, d7, d8, d9, d10, d11⟩, hv⟩ := hl
    obtain ⟨_, _, _, _, lv, av, kv, _, _, hk, _, _, hrow, hmx⟩ := hp
    rw [d11] at hk
    obtain rfl := Option.some.inj hk
    obtain ⟨lv', av', tl', tk', kv', e, _, hl', ha', ht', hk'⟩ := hv
    simp only [prAgg, Value.agg.injEq, Array.mk.injEq, List.cons.injEq, and_true, true_and] at e
    obtain ⟨rfl, rfl, rfl, rfl, rfl⟩ := e
    obtain ⟨lv2, kv2, e, _, _, hu'⟩ := ht'
    simp only [Value.agg.injEq, Array.mk.injEq, List.cons.injEq, and_true, true_and] at e
    obtain ⟨rfl, rfl⟩ := e
    simp only [ShAt]
    have hmx' : ps.length ≤ 9223372036854775807 := by unfold maxLen at hmx; omega
    refine ⟨hb, la, ln, lc, aa, an, ac, _, ua, un, uc, ka, kn, kc, ⟨_, _, _, _, _, _, _, d0, d1, d2, d3, d4, d5, d6, d7, d8, d9, d10, d11, _, _, _, rfl⟩, hl'.q, ha'.q, hu'.q, ?_, hmx', ?_⟩
    · rcases hrow with ⟨⟨_, _, e⟩, rfl⟩ | ⟨kb, ko, c', e, _⟩
      · injection e with _ e _
      · injection e with _ e _
    · rcases hrow with ⟨⟨_, _, e⟩, rfl⟩ | ⟨kb, ko, c', e, hkb, hrow⟩
      · exact .inl rfl
      · injection e with e _ _
        exact .inr ⟨kb, ko, e, hkb, PrsAt.sh ps kb ko hrow⟩
theorem PrsAt.sh {F : Nat → Prop} {w : World} : ∀ (ps : List Pr) (b o : Nat), PrsAt F w ps b o → ShsAt F w ps b o
  | [], _, _, _ => by simp [ShsAt]
  | p :: r, b, o, hp => by
    simp only [PrsAt] at hp
    simp only [ShsAt]
    exact ⟨PrAt.sh p b o hp.1, PrsAt.sh r b (o + 12) hp.2⟩
end
theorem PrVal.sh {F : Nat → Prop} {w : World} {p q : Pr} {la : Option Addr} {ln lc : Nat} {aa : Option Addr} {an ac : Nat} {ta : Option Addr} {tn tc : Nat} {ua : Option Addr} {un uc : Nat} {ka : Option Addr} {kn kc : Nat} (h : PrVal F w (prAgg q (.slice la ln lc) (.slice aa an ac) (.slice ta tn tc) (.slice ua un uc) (.slice ka kn kc)) p) : ShIn F w p.ps la ln aa an ua un ka kn := by
  obtain ⟨lv', av', tl', tk', kv', e, _, hl', ha', ht', hk'⟩ := h
  simp only [prAgg, Value.agg.injEq, Array.mk.injEq, List.cons.injEq, and_true] at e
  obtain ⟨_, _, _, rfl, rfl, _, _, _, _, rfl, rfl, rfl⟩ := e
  obtain ⟨lv2, kv2, e, _, _, hu'⟩ := ht'
  simp only [Value.agg.injEq, Array.mk.injEq, List.cons.injEq, and_true, true_and] at e
  obtain ⟨rfl, rfl⟩ := e
  refine ⟨hl'.q, ha'.q, hu'.q, ?_, by have := hk'.2; unfold maxLen at this; omega, ?_⟩
  · rcases hk'.1 with ⟨⟨_, _, e⟩, h0⟩ | ⟨kb, ko, c', e, _⟩
    · injection e with _ e _
      rw [h0]; exact e
    · injection e with _ e _
  · rcases hk'.1 with ⟨_, h0⟩ | ⟨kb, ko, c', e, hkb, hrow⟩
    · exact .inl h0
    · injection e with e _ _
      exact .inr ⟨kb, ko, e, hkb, PrsAt.sh _ kb ko hrow⟩

end Go.Proofs.YtipjjhkgcbabnaaDoor

/- spoil changes texts and numbers alone. -/
namespace Go.Proofs.YtipjjhkgcbabnaaDoor
open Go.RowKit Go.Deep Go.Shelf

/-- What spoil does to a process in memory. -/
def SpoilAt (F : Nat → Prop) (p : Pr) : Prop := ∀ (k0 k1 p1 s1 : Int) (c0 x0 n1 : ByteArray) (la : Option Addr) (ln lc : Nat) (aa : Option Addr) (an ac : Nat) (ta : Option Addr) (tn tc : Nat) (ua : Option Addr) (un uc : Nat) (ka : Option Addr) (kn kc : Nat) (w : World),
  Low F w → (∀ k, F k → Uf w k) → ShIn F w p.ps la ln aa an ua un ka kn →
  Calls Tryd.prog 42 #[.agg #[.int .i64 k0, .string c0, .string x0, .slice la ln lc, .slice aa an ac, .int .i64 k1, .int .i64 p1, .string n1, .int .i64 s1, .slice ta tn tc, .slice ua un uc, .slice ka kn kc]] w fun e w' => (∃ v, e = .returned v) ∧ Kin F w w'

set_option maxHeartbeats 4000000 in
set_option maxRecDepth 100000 in
theorem spoil_step (F : Nat → Prop) (p : Pr) (ih : ∀ u ∈ p.ps, SpoilAt F u) : SpoilAt F p := by
  intro k0 k1 p1 s1 c0 x0 n1 la ln lc aa an ac ta tn tc ua un uc ka kn kc w hB hu hin
  obtain ⟨ps, hps⟩ : ∃ ps, p.ps = ps := ⟨_, rfl⟩
  rw [hps] at ih hin
  have t0 := Twelve.new w (.int .i64 k0) (.string c0) (.string x0) (.slice la ln lc) (.slice aa an ac) (.int .i64 k1) (.int .i64 p1) (.string n1) (.int .i64 s1) (.slice ta tn tc) (.slice ua un uc) (.slice ka kn kc)
  have hk0 : Kin F w (w.alloc (.cells #[.int .i64 k0, .string c0, .string x0, .slice la ln lc, .slice aa an ac, .int .i64 k1, .int .i64 p1, .string n1, .int .i64 s1, .slice ta tn tc, .slice ua un uc, .slice ka kn kc] 36)) := Kin.alloc hB _
  obtain ⟨W0, hW0⟩ : ∃ W0, w.alloc (.cells #[.int .i64 k0, .string c0, .string x0, .slice la ln lc, .slice aa an ac, .int .i64 k1, .int .i64 p1, .string n1, .int .i64 s1, .slice ta tn tc, .slice ua un uc, .slice ka kn kc] 36) = W0 := ⟨_, rfl⟩
  rw [hW0] at t0 hk0
  have hs0 : W0.heap.size = w.heap.size + 1 := by rw [← hW0]; simp
  have HT : Hid (∀ wr, Kin F W0 wr → Twelve wr w.heap.size (.int .i64 k0) (.string c0) (.string x0) (.slice la ln lc) (.slice aa an ac) (.int .i64 k1) (.int .i64 p1) (.string n1) (.int .i64 s1) (.slice ta tn tc) (.slice ua un uc) (.slice ka kn kc)) := Lib.hid (fun wr hk => (hk.low _ (by omega) (fun hf => by have := hB _ hf; omega)).trans t0)
  have HU : Hid (∀ wr, Kin F W0 wr → ∀ k, F k → Uf wr k) := Lib.hid (fun wr hk k hf => hk.uf hf (hk0.uf hf (hu k hf)))
  have HL : Hid (∀ wr, Kin F W0 wr → Low F wr) := Lib.hid (fun wr hk => (hB.le hk0.size).le hk.size)
  have HI : Hid (∀ wr, Kin F W0 wr → ShIn F wr ps la ln aa an ua un ka kn) := Lib.hid (fun wr hk => (hin.kin hk0).kin hk)
  have HIH := Lib.hid ih
  have HK0 := Lib.hid hk0
  have HW0 := Lib.hid hW0
  have hln := hin.1.1
  have han := hin.2.1.1
  have hun := hin.2.2.1.1
  have hknl := hin.2.2.2.1
  have hkn : kn ≤ 9223372036854775807 := by rw [hknl]; exact hin.2.2.2.2.1
  have HKN := Lib.hid hknl
  clear ih hin hk0 t0 hW0 hu hB hps hknl hs0
  go_enter Tryd.func42, Tryd.ntmps42
  go_wp2_with fail
  rw [HW0.out]
  clear HW0
  go_loopw [2] (fun i wr => ∃ k : Nat, i = .int .i64 (k : Int) ∧ k ≤ ln ∧ Hid (Kin F W0 wr)) (fun i _ => ln - (intOf i).toNat)
  case atStart => exact ⟨0, rfl, by omega, Lib.hid (Kin.refl F W0)⟩
  case round =>
    obtain ⟨k, rfl, hk, HK⟩ := hrel
    obtain ⟨⟨d0, d1, d2, d3, d4, d5, d6, d7, d8, d9, d10, d11⟩, hf⟩ := (HT.out wr HK.out).cells
    by_cases hlt : k < ln
    · obtain ⟨b, o, s, hla, hb, hc⟩ := (HI.out wr HK.out).1.2 k hlt
      subst hla
      have hfz : wr.frozen? ⟨b, o + k, none⟩ = false := (HU.out wr HK.out b hb).frozen
      have HB := Lib.hid hb
      have HC := Lib.hid hc
      go_wp2_with fail
      go_roundw
      case rel => exact ⟨k + 1, by go_num, by omega, Lib.hid (HK.out.trans (Kin.set HB.out HC.out (.inr (.inl ⟨_, _, rfl, rfl⟩))))⟩
      case measure => simp [intOf]; omega
    · obtain rfl : k = ln := by omega
      go_wp2_with fail
      clear d0 d1 d2 d3 d4 d5 d6 d7 d8 d9 d10 d11 hf
      obtain ⟨W1, hW1⟩ : ∃ W1, W1 = wr := ⟨_, rfl⟩
      rw [← hW1] at HK ⊢
      clear hW1 wr
      have HK1 := HK
      clear HK
      go_loopw [3] (fun i wr => ∃ k : Nat, i = .int .i64 (k : Int) ∧ k ≤ an ∧ Hid (Kin F W0 wr)) (fun i _ => an - (intOf i).toNat)
      case atStart => exact ⟨0, rfl, by omega, HK1⟩
      case round =>
        obtain ⟨k, rfl, hk, HK⟩ := hrel
        obtain ⟨⟨d0, d1, d2, d3, d4, d5, d6, d7, d8, d9, d10, d11⟩, hf⟩ := (HT.out wr HK.out).cells
        by_cases hlt : k < an
        · obtain ⟨b, o, s, hla, hb, hc⟩ := (HI.out wr HK.out).2.1.2 k hlt
          subst hla
          have hfz : wr.frozen? ⟨b, o + k * 3 + 2, none⟩ = false := (HU.out wr HK.out b hb).frozen
          have HB := Lib.hid hb
          have HC := Lib.hid hc
          go_wp2_with fail
          go_roundw
          case rel => exact ⟨k + 1, by go_num, by omega, Lib.hid (HK.out.trans (Kin.set HB.out HC.out (.inr (.inr ⟨_, _, _, rfl, rfl⟩))))⟩
          case measure => simp [intOf]; omega
        · obtain rfl : k = an := by omega
          go_wp2_with fail
          clear d0 d1 d2 d3 d4 d5 d6 d7 d8 d9 d10 d11 hf
          obtain ⟨W2, hW2⟩ : ∃ W2, W2 = wr := ⟨_, rfl⟩
          rw [← hW2] at HK ⊢
          clear hW2 wr HK1
          have HK2 := HK
          clear HK
          go_loopw [4] (fun i wr => ∃ k : Nat, i = .int .i64 (k : Int) ∧ k ≤ un ∧ Hid (Kin F W0 wr)) (fun i _ => un - (intOf i).toNat)
          case atStart => exact ⟨0, rfl, by omega, HK2⟩
          case round =>
            obtain ⟨k, rfl, hk, HK⟩ := hrel
            obtain ⟨⟨d0, d1, d2, d3, d4, d5, d6, d7, d8, d9, d10, d11⟩, hf⟩ := (HT.out wr HK.out).cells
            by_cases hlt : k < un
            · obtain ⟨b, o, s, hla, hb, hc⟩ := (HI.out wr HK.out).2.2.1.2 k hlt
              rw [Nat.add_zero] at hc
              subst hla
              have hfz : wr.frozen? ⟨b, o + k * 6, none⟩ = false := (HU.out wr HK.out b hb).frozen
              have HB := Lib.hid hb
              have HC := Lib.hid hc
              go_wp2_with fail
              go_roundw
              case rel => exact ⟨k + 1, by go_num, by omega, Lib.hid (HK.out.trans (Kin.set HB.out HC.out (.inr (.inr ⟨_, _, _, rfl, rfl⟩))))⟩
              case measure => simp [intOf]; omega
            · obtain rfl : k = un := by omega
              go_wp2_with fail
              clear d0 d1 d2 d3 d4 d5 d6 d7 d8 d9 d10 d11 hf
              obtain ⟨W3, hW3⟩ : ∃ W3, W3 = wr := ⟨_, rfl⟩
              rw [← hW3] at HK ⊢
              clear hW3 wr HK2
              have HK3 := HK
              clear HK
              go_loopw [5] (fun i wr => ∃ k : Nat, i = .int .i64 (k : Int) ∧ k ≤ kn ∧ Hid (Kin F W0 wr)) (fun i _ => kn - (intOf i).toNat)
              case atStart => exact ⟨0, rfl, by omega, HK3⟩
              case round =>
                obtain ⟨k, rfl, hk, HK⟩ := hrel
                obtain ⟨⟨d0, d1, d2, d3, d4, d5, d6, d7, d8, d9, d10, d11⟩, hf⟩ := (HT.out wr HK.out).cells
                by_cases hlt : k < kn
                · obtain ⟨u, hu⟩ : ∃ u, ps[k]? = some u := ⟨_, List.getElem?_eq_getElem (by rw [← HKN.out]; exact hlt)⟩
                  obtain ⟨kb, ko, hka, hkb, hrow⟩ : ∃ kb ko, ka = some ⟨kb, ko, none⟩ ∧ F kb ∧ ShsAt F wr ps kb ko := by
                    rcases (HI.out wr HK.out).2.2.2.2.2 with h | h
                    · rw [h] at hu; cases hu
                    · exact h
                  subst hka
                  have hsh := hrow.get hu
                  obtain ⟨_, la2, ln2, lc2, aa2, an2, ac2, tv2, ua2, un2, uc2, ka2, kn2, kc2, ⟨k2, c2, x2, k3, p2, n2, s2, e0, e1, e2, e3, e4, e5, e6, e7, e8, e9, e10, e11, ta2, tn2, tc2, rfl⟩, hin2⟩ := ShAt.eq.1 hsh
                  have IH := Lib.hid (HIH.out u (List.mem_of_getElem? hu) k2 k3 p2 s2 c2 x2 n2 la2 ln2 lc2 aa2 an2 ac2 ta2 tn2 tc2 ua2 un2 uc2 ka2 kn2 kc2 wr (HL.out wr HK.out) (HU.out wr HK.out) hin2)
                  have HSH := Lib.hid hsh
                  have HKB := Lib.hid hkb
                  clear hsh hrow hkb hin2 hu
                  go_wp2_with fail
                  refine IH.out.mono ?_
                  rintro e w2 ⟨⟨v, rfl⟩, hk2⟩
                  have HK4 := Lib.hid (HK.out.trans hk2)
                  have hsh2 := ShAt.kin hk2 _ _ _ HSH.out
                  obtain ⟨_, la3, ln3, lc3, aa3, an3, ac3, tv3, ua3, un3, uc3, ka3, kn3, kc3, ⟨k4, c4, x4, k5, p4, n4, s4, g0, _⟩, _⟩ := ShAt.eq.1 hsh2
                  clear d0 d1 d2 d3 d4 d5 d6 d7 d8 d9 d10 d11 hf e0 e1 e2 e3 e4 e5 e6 e7 e8 e9 e10 e11 hk2 hsh2
                  obtain ⟨⟨d0, d1, d2, d3, d4, d5, d6, d7, d8, d9, d10, d11⟩, hf⟩ := (HT.out w2 HK4.out).cells
                  have hfz : w2.frozen? ⟨kb, ko + k * 12, none⟩ = false := (HU.out w2 HK4.out kb HKB.out).frozen
                  have HG := Lib.hid g0
                  go_wp2_with fail
                  go_roundw
                  case rel => exact ⟨k + 1, by go_num, by omega, Lib.hid (HK4.out.trans (Kin.set HKB.out HG.out (.inr (.inr ⟨_, _, _, rfl, rfl⟩))))⟩
                  case measure => simp [intOf]; omega
                · obtain rfl : k = kn := by omega
                  go_wp2_with fail
                  go_end0
                  exact ⟨⟨_, rfl⟩, HK0.out.trans HK.out⟩

theorem spoil_any (F : Nat → Prop) : ∀ p : Pr, SpoilAt F p := by
  refine Pr.ind ?_
  intro k c x ls vs t ps ih
  exact spoil_step F _ ih

end Go.Proofs.YtipjjhkgcbabnaaDoor

/- Lists of texts that a call owns, and append to them; the names that the reference finds. -/
namespace Go.Proofs.YtipjjhkgcbabnaaDoor
open Go.RowKit Go.Deep Go.Shelf

/-- A list of texts that lies in a row of the call's own. -/
def Row (base : Nat) (W : World) (v : Value) (l : List ByteArray) : Prop := W.ownsRow base 9 1 v l.length (l.map .string) ∧ ∀ s ∈ l, s.size ≤ maxLen
theorem Row.nil (base : Nat) (W : World) : Row base W (.slice none 0 0) [] := ⟨World.ownsRow_nil _ _ _ _, fun s h => by cases h⟩
theorem Row.empty (base : Nat) (w0 : World) (b : Nat) (hb : b = w0.heap.size) (h : base ≤ w0.heap.size) : Row base (w0.alloc (.cells #[] 9)) (.slice (some ⟨b, 0, none⟩) 0 0) [] := ⟨fresh_row' w0 base b hb h, fun s h => by cases h⟩
theorem Row.alloc {base : Nat} {W : World} {v : Value} {l : List ByteArray} (h : Row base W v l) (o : Obj) : Row base (W.alloc o) v l := ⟨h.1.alloc o, h.2⟩
theorem Row.drew {base : Nat} {W : World} {v : Value} {l : List ByteArray} (h : Row base W v l) : Row base W.drew v l := h
theorem Row.lt {base : Nat} {W : World} {v : Value} {l : List ByteArray} (h : Row base W v l) : ∀ k, v.ownBlock = some k → base ≤ k ∧ k < W.heap.size := h.1.lt
theorem Row.kept {base : Nat} {W W' : World} {v : Value} {l : List ByteArray} (h : Row base W v l) (hb : ∀ k, v.ownBlock = some k → W'.heap[k]? = W.heap[k]?) : Row base W' v l := by
  refine ⟨⟨h.1.1, ?_⟩, h.2⟩
  rcases h.1.2 with h0 | ⟨g, cap, cur, rfl, hbg, hg, r⟩
  · exact .inl h0
  · exact .inr ⟨g, cap, cur, rfl, hbg, (hb g rfl).trans hg, r⟩
theorem Row.to {base : Nat} {W W' : World} {v : Value} {l : List ByteArray} (h : Row base W v l) (hb : Below W.heap.size W W') : Row base W' v l := h.kept fun k hk => hb.block k (h.lt k hk).2
theorem Row.strs {base : Nat} {W : World} {v : Value} {l : List ByteArray} (h : Row base W v l) (hl : l.length ≤ maxLen) : (∃ a n c, v = .slice a n c) ∧ StrSl (Fresh base W.heap.size) W v l := strSl_row2 h.1 h.2 hl

theorem run_nothing (base : Nat) (ty : TypeId) (v : Value) (n : Nat) (xs : List Value) (w : World) (hown : w.ownsRow base 9 1 v n xs) (a : Option Addr) (c : Nat) :
    (Builtin.append_ #[22, 22] ty #[v, .slice a 0 c]).run Tryd.prog w = .ok v w := by
  obtain ⟨i0, hi, hz0, hz1, hz2⟩ := info_parts strInfo'
  have ht := Tryd.underlying22
  rcases hown.2 with ⟨rfl, rfl⟩ | ⟨g, cap, cur, rfl, _, _, hnc, _⟩
  · cases a with
    | none => simp [Builtin.append_, run_underlying ht, sizeOf, typeInfo, hi, Builtin.lenOf, Builtin.firstCells]
    | some ad => simp [Builtin.append_, run_underlying ht, sizeOf, typeInfo, hi, Builtin.lenOf, Builtin.firstCells, loadCells, loadCellsFrom]
  · cases a with
    | none => simp [Builtin.append_, run_underlying ht, sizeOf, typeInfo, hi, Builtin.lenOf, Builtin.firstCells, hnc, storeCells]
    | some ad => simp [Builtin.append_, run_underlying ht, sizeOf, typeInfo, hi, Builtin.lenOf, Builtin.firstCells, hnc, storeCells, loadCells, loadCellsFrom]

theorem slice_of_row {base : Nat} {W : World} {v : Value} {n : Nat} {xs : List Value} (h : W.ownsRow base 9 1 v n xs) : ∃ a m c, v = .slice a m c := by
  rcases h.2 with ⟨rfl, _⟩ | ⟨g, cap, cur, rfl, _⟩
  · exact ⟨_, _, _, rfl⟩
  · exact ⟨_, _, _, rfl⟩

/-- append of a list of texts, which may be empty, to one of the call's own, which may be nil. -/
theorem run_app (base : Nat) (ty : TypeId) (v : Value) (l : List ByteArray) (w : World) (hown : Row base w v l) (B : Nat → Prop) (na : Option Addr) (nn nc : Nat) (names : List ByteArray) (hnv : StrSl B w (.slice na nn nc) names) (h63 : l.length + names.length ≤ 1000000000) (hbase : base ≤ w.heap.size) :
    ∃ ga gn gc w', (Builtin.append_ #[22, 22] ty #[v, .slice na nn nc]).run Tryd.prog w = .ok (.slice ga gn gc) w' ∧ Row base w' (.slice ga gn gc) (l ++ names) ∧ w.grownBy w' v.ownBlock ∧ ((Value.slice ga gn gc).ownBlock = v.ownBlock ∨ (Value.slice ga gn gc).ownBlock = some w.heap.size) := by
  obtain ⟨i0, hi, hz0, hz1, hz2⟩ := info_parts strInfo'
  have hall : ∀ s ∈ l ++ names, s.size ≤ maxLen := fun s hs => by
    rcases List.mem_append.1 hs with h | h
    · exact hown.2 s h
    · exact hnv.2.2 s h
  rcases hnv.1 with ⟨⟨a, c, e⟩, rfl⟩ | ⟨b, o, c, e, _, _, hrow⟩
  · cases e
    obtain ⟨ga, gn, gc, rfl⟩ := slice_of_row hown.1
    exact ⟨_, _, _, w, run_nothing base ty _ _ _ w hown.1 na nc, by rw [List.append_nil]; exact hown, ⟨rfl, rfl, rfl, Nat.le_refl _, fun _ _ _ => rfl⟩, .inl rfl⟩
  · cases e
    obtain ⟨v', w', hr, h2, h3, h4, h5⟩ := run_append_own_at (P := Tryd.prog) w base 22 ty 9 i0 _ 1 16 Tryd.underlying22 hi hz0 hz1 hz2 rfl (by decide) _ _ _ hown.1 ⟨b, o, none⟩ names.length nc (names.map .string) (by simp) (fun j u hj => by
      rw [List.getElem?_map] at hj
      cases hx : names[j]? with
      | none => simp [hx] at hj
      | some x => simp [hx] at hj; subst hj; have hc := hrow j x hx; cases j with | zero => simpa [Addr.add] using hc | succ j => simpa [Addr.add] using hc) (fun u hu => by
      obtain ⟨x, _, rfl⟩ := List.mem_map.1 hu; rfl) (by unfold maxLen; omega) (by omega) hbase
    obtain ⟨ga, gn, gc, rfl⟩ := slice_of_row h2
    exact ⟨_, _, _, w', hr, ⟨by rw [List.length_append, List.map_append]; exact h2, hall⟩, h3, h5⟩

/-- .. at an operation of a plain region. -/
theorem wpList_app {ops : Array Oper} {rest : List Oper} {o : Oper} {a : Act} {w : World} {Q : Exit → Act → World → Prop} (hgd : o.guard = none) (s x : Operand)
    (ho : o.op = .call { callee := .builtin .append, args := #[s, x], argTypes := #[22, 22] })
    (base : Nat) (l : List ByteArray) (v : Value) (hs : a.eval s = v) (hown : Row base w v l) (B : Nat → Prop) (na : Option Addr) (nn nc : Nat) (names : List ByteArray) (hx : a.eval x = .slice na nn nc) (hnv : StrSl B w (.slice na nn nc) names) (h63 : l.length + names.length ≤ 1000000000) (hbase : base ≤ w.heap.size)
    (h : ∀ ga gn gc w', Row base w' (.slice ga gn gc) (l ++ names) → w.grownBy w' v.ownBlock → ((Value.slice ga gn gc).ownBlock = v.ownBlock ∨ (Value.slice ga gn gc).ownBlock = some w.heap.size) → wpList Tryd.prog ops Q rest (a.put o.dst (.slice ga gn gc)) w') : wpList Tryd.prog ops Q (o :: rest) a w := by
  refine wpList_plain hgd fun K hK => ?_
  obtain ⟨ga, gn, gc, w', hr, h2, h3, h4⟩ := run_app base o.type v l w hown B na nn nc names hnv h63 hbase
  unfold Oper.wp execOp
  simp only [ho, resolve, invoke, builtin, Sem.run_bind, Sem.run_pure, Result.andThen_ok, List.map_toArray, List.map_cons, List.map_nil, hs, hx, hr]
  exact hK _ _ (h ga gn gc w' h2 h3 h4)
/-- .. at a step of a region that draws its order. -/
theorem step_app {ops : Array Oper} {o : Oper} {a : Act} {w : World} {K : Act → World → Prop} {Q : Exit → Act → World → Prop} {E : Prop} (hgd : o.guard = none) (s x : Operand)
    (ho : o.op = .call { callee := .builtin .append, args := #[s, x], argTypes := #[22, 22] })
    (base : Nat) (l : List ByteArray) (v : Value) (hs : a.eval s = v) (hown : Row base w v l) (B : Nat → Prop) (na : Option Addr) (nn nc : Nat) (names : List ByteArray) (hx : a.eval x = .slice na nn nc) (hnv : StrSl B w (.slice na nn nc) names) (h63 : l.length + names.length ≤ 1000000000) (hbase : base ≤ w.heap.size)
    (m : List ByteArray) (hm : l ++ names = m)
    (h : ∀ ga gn gc w', Row base w' (.slice ga gn gc) m → w.grownBy w' v.ownBlock → K (a.put o.dst (.slice ga gn gc)) w') :
    if Region.wanted o (yielded ops a.tmps) = true then Oper.wp Tryd.prog o a w K Q else E := by
  subst hm
  have hw : Region.wanted o (yielded ops a.tmps) = true := by simp [Region.wanted, hgd]
  rw [if_pos hw]
  obtain ⟨ga, gn, gc, w', hr, h2, h3, h4⟩ := run_app base o.type v l w hown B na nn nc names hnv h63 hbase
  unfold Oper.wp execOp
  simp only [ho, resolve, invoke, builtin, Sem.run_bind, Sem.run_pure, Result.andThen_ok, List.map_toArray, List.map_cons, List.map_nil, hs, hx, hr]
  exact h ga gn gc w' h2 h3

/-! ### The names -/
theorem prefixB_eq (k : Int) : prefixB k = (decide (2 ≤ k) && decide (k ≤ 5)) := by
  unfold prefixB
  rw [Bool.eq_iff_iff]; simp; omega
/-- The names of a node, as often as they occur. -/
def Pr.ownT (p : Pr) (j : Nat) : List ByteArray := (if prefixB p.k then [p.c] else []) ++ ((p.vs.take j).filter (fun a => a.k == 1)).map (fun a => a.n)
def Pr.own (p : Pr) : List ByteArray := (if prefixB p.k then [p.c] else []) ++ (p.vs.filter (fun a => a.k == 1)).map (fun a => a.n)
theorem Pr.ownT_all {p : Pr} {j : Nat} (h : p.vs.length ≤ j) : p.ownT j = p.own := by unfold Pr.ownT Pr.own; rw [List.take_of_length_le h]
theorem Pr.ownT_yes {p : Pr} {j : Nat} {a : Vl} (h : p.vs[j]? = some a) (hk : a.k = 1) : p.ownT (j + 1) = p.ownT j ++ [a.n] := by
  unfold Pr.ownT; rw [take_snoc_get h, List.filter_append, List.map_append, ← List.append_assoc]; simp [hk]
theorem Pr.ownT_no {p : Pr} {j : Nat} {a : Vl} (h : p.vs[j]? = some a) (hk : a.k ≠ 1) : p.ownT (j + 1) = p.ownT j := by
  unfold Pr.ownT; rw [take_snoc_get h, List.filter_append, List.map_append]; simp [hk]
theorem Pr.ownT_len (p : Pr) (j : Nat) : (p.ownT j).length ≤ 1 + p.vs.length := by
  unfold Pr.ownT
  have h1 : ((p.vs.take j).filter (fun a => a.k == 1)).length ≤ p.vs.length := Nat.le_trans (List.length_filter_le _ _) (by rw [List.length_take]; omega)
  rw [List.length_append, List.length_map]
  split <;> simp <;> omega
def keepF (bd : List ByteArray) (l : List ByteArray) : List ByteArray := l.filter (fun s => !memB s bd)
theorem keepF_yes {bd l : List ByteArray} {j : Nat} {s : ByteArray} (h : l[j]? = some s) (hm : memB s bd = false) : keepF bd (l.take (j + 1)) = keepF bd (l.take j) ++ [s] := by
  unfold keepF; rw [take_snoc_get h, List.filter_append]; simp [hm]
theorem keepF_no {bd l : List ByteArray} {j : Nat} {s : ByteArray} (h : l[j]? = some s) (hm : memB s bd = true) : keepF bd (l.take (j + 1)) = keepF bd (l.take j) := by
  unfold keepF; rw [take_snoc_get h, List.filter_append]; simp [hm]
theorem keepF_len (bd l : List ByteArray) (j : Nat) : (keepF bd (l.take j)).length ≤ l.length := Nat.le_trans (List.length_filter_le _ _) (by rw [List.length_take]; omega)
mutual
/-- The names that are not bound, as often as they occur. -/
def Pr.uses : Pr → List ByteArray → List ByteArray
  | .mk k c x ls vs t ps, bd => keepF bd (Pr.mk k c x ls vs t ps).own ++ Pr.usess ps (bd ++ (Pr.mk k c x ls vs t ps).bnd)
def Pr.usess : List Pr → List ByteArray → List ByteArray
  | [], _ => []
  | p :: r, bd => p.uses bd ++ Pr.usess r bd
end
theorem Pr.uses_eq (p : Pr) (bd : List ByteArray) : p.uses bd = keepF bd p.own ++ Pr.usess p.ps (bd ++ p.bnd) := by cases p; simp only [Pr.uses, Pr.ps]
theorem Pr.usess_append (l r : List Pr) (bd : List ByteArray) : Pr.usess (l ++ r) bd = Pr.usess l bd ++ Pr.usess r bd := by
  induction l with
  | nil => simp [Pr.usess]
  | cons p l ih => rw [List.cons_append, Pr.usess, ih, Pr.usess, List.append_assoc]
theorem Pr.usess_take {l : List Pr} {j : Nat} {u : Pr} (h : l[j]? = some u) (bd : List ByteArray) : Pr.usess (l.take (j + 1)) bd = Pr.usess (l.take j) bd ++ u.uses bd := by
  rw [take_snoc_get h, Pr.usess_append]; simp [Pr.usess]
theorem Pr.own_len (p : Pr) : p.own.length ≤ 1 + p.vs.length := by
  have := p.ownT_len p.vs.length; rw [Pr.ownT_all (Nat.le_refl _)] at this; exact this
mutual
theorem Pr.uses_len : ∀ (p : Pr) (bd : List ByteArray), (p.uses bd).length ≤ p.nms
  | .mk k c x ls vs t ps, bd => by
    have h1 := Pr.usess_len ps (bd ++ (Pr.mk k c x ls vs t ps).bnd)
    have h2 := (Pr.mk k c x ls vs t ps).own_len
    have h3 : (keepF bd (Pr.mk k c x ls vs t ps).own).length ≤ (Pr.mk k c x ls vs t ps).own.length := List.length_filter_le _ _
    have h4 : (Pr.mk k c x ls vs t ps).vs.length = vs.length := rfl
    simp only [Pr.uses, Pr.nms, List.length_append]; omega
theorem Pr.usess_len : ∀ (l : List Pr) (bd : List ByteArray), (Pr.usess l bd).length ≤ Pr.nmss l
  | [], _ => by simp [Pr.usess, Pr.nmss]
  | p :: r, bd => by
    have h1 := Pr.uses_len p bd
    have h2 := Pr.usess_len r bd
    simp only [Pr.usess, Pr.nmss, List.length_append]; omega
end
/-- A name, if it is not there yet. -/
def addN (out : List ByteArray) (s : ByteArray) : List ByteArray := if memB s out then out else out ++ [s]
theorem addN_len (out : List ByteArray) (s : ByteArray) : (addN out s).length ≤ out.length + 1 := by unfold addN; split <;> simp
theorem foldN_len (l : List ByteArray) : ∀ out, (l.foldl addN out).length ≤ out.length + l.length := by
  induction l with
  | nil => intro out; simp
  | cons s r ih => intro out; rw [List.foldl_cons, List.length_cons]; have := ih (addN out s); have := addN_len out s; omega

/-- The counts and the bound names tell the same. -/
def Agree (cnt : ByteArray → Int) (bd : List ByteArray) : Prop := ∀ y, 0 ≤ cnt y ∧ (cnt y = 0 ↔ y ∉ bd)
theorem Agree.add {cnt : ByteArray → Int} {bd : List ByteArray} (h : Agree cnt bd) (s : ByteArray) : Agree (add1 cnt s) (bd ++ [s]) := fun y => by
  have hy := h y
  have hs := h s
  unfold add1
  by_cases e : y = s
  · subst e; rw [if_pos rfl]; refine ⟨by omega, ?_⟩; simp; omega
  · rw [if_neg e]; refine ⟨hy.1, ?_⟩; simp [e, hy.2]
theorem Agree.adds (l : List ByteArray) : ∀ {cnt : ByteArray → Int} {bd : List ByteArray}, Agree cnt bd → Agree (l.foldl add1 cnt) (bd ++ l) := by
  induction l with
  | nil => intro cnt bd h; simpa using h
  | cons s r ih => intro cnt bd h; rw [List.foldl_cons]; have := ih (h.add s); rwa [List.append_assoc, List.singleton_append] at this
theorem occ_addN {cnt : ByteArray → Int} {bd : List ByteArray} (h : Agree cnt bd) (out : List ByteArray) (s : ByteArray) : occ cnt out s = (keepF bd [s]).foldl addN out := by
  unfold occ keepF
  by_cases hc : cnt s = 0
  · have hm : memB s bd = false := memB_false ((h s).2.1 hc)
    simp only [hc, hm, List.filter_cons, List.filter_nil, Bool.not_false, if_true, List.foldl_cons, List.foldl_nil, true_and]
    unfold addN
    cases memB s out <;> simp
  · have hm : memB s bd = true := memB_true.2 (by
      by_cases hb : s ∈ bd
      · exact hb
      · exact absurd ((h s).2.2 hb) hc)
    simp [hc, hm]
theorem here_addN {cnt : ByteArray → Int} {bd : List ByteArray} (h : Agree cnt bd) (p : Pr) (out : List ByteArray) : p.here cnt out = (keepF bd p.own).foldl addN out := by
  have hv : ∀ (l : List Vl) (out : List ByteArray), l.foldl (occV cnt) out = (keepF bd ((l.filter (fun a => a.k == 1)).map (fun a => a.n))).foldl addN out := by
    intro l
    induction l with
    | nil => intro out; rfl
    | cons a r ih =>
      intro out
      rw [List.foldl_cons, ih]
      unfold occV
      by_cases hk : a.k = 1
      · rw [if_pos hk, occ_addN h, ← List.foldl_append]
        unfold keepF
        rw [← List.filter_append]
        simp [hk]
      · rw [if_neg hk]; simp [hk]
  unfold Pr.here Pr.own keepF
  rw [hv, List.filter_append, List.foldl_append]
  unfold keepF
  congr 1
  by_cases hp : prefixB p.k = true
  · rw [if_pos hp, if_pos hp, occ_addN h]; rfl
  · rw [if_neg hp, if_neg hp]; rfl
mutual
theorem Pr.fw_addN : ∀ (p : Pr) (cnt : ByteArray → Int) (bd out : List ByteArray), Agree cnt bd → p.fw cnt out = (p.uses bd).foldl addN out
  | .mk k c x ls vs t ps, cnt, bd, out, h => by
    rw [Pr.fw, Pr.uses, List.foldl_append, ← here_addN h, Pr.fws_addN ps _ _ _ (Agree.adds _ h)]
theorem Pr.fws_addN : ∀ (l : List Pr) (cnt : ByteArray → Int) (bd out : List ByteArray), Agree cnt bd → Pr.fws l cnt out = (Pr.usess l bd).foldl addN out
  | [], cnt, bd, out, h => by simp [Pr.fws, Pr.usess]
  | p :: r, cnt, bd, out, h => by
    rw [Pr.fws, Pr.usess, List.foldl_append, ← Pr.fw_addN p cnt bd out h, Pr.fws_addN r cnt bd _ h]
end
theorem agree_zero : Agree (fun _ => 0) [] := fun y => ⟨Int.le_refl _, by simp⟩
/-- What the program finds is what the reference finds. -/
theorem Pr.free_uses (p : Pr) : p.free = (p.uses []).foldl addN [] := Pr.fw_addN p _ _ _ agree_zero

end Go.Proofs.YtipjjhkgcbabnaaDoor
