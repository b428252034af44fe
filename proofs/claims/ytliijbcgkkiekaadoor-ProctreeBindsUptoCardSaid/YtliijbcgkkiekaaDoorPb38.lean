/- Processes: the reference's Free. (and what follows from it) -/
import Derived.Test.YtliijbcgkkiekaaDoorPb37
import Derived.Test.YtliijbcgkkiekaaDoorPb32
import Derived.Test.YtliijbcgkkiekaaDoorPb19
import Derived.Test.YtliijbcgkkiekaaDoorRows
import Derived.Test.YtliijbcgkkiekaaDoorPb35
import Derived.Deep.RegionHeld3

/- Processes: the reference's Free. -/
namespace Go.Proofs.YtliijbcgkkiekaaDoor
open Go.RowKit Go.Deep Go.Shelf

def adds (l : List ByteArray) (j : Nat) : List ByteArray := (l.take j).foldl addN []
theorem adds_yes {l : List ByteArray} {j : Nat} {s : ByteArray} (h : l[j]? = some s) (hm : memB s (adds l j) = true) : adds l (j + 1) = adds l j := by
  unfold adds at *; rw [take_snoc_get h, List.foldl_append, List.foldl_cons, List.foldl_nil, addN, hm]; rfl
theorem adds_no {l : List ByteArray} {j : Nat} {s : ByteArray} (h : l[j]? = some s) (hm : memB s (adds l j) = false) : adds l (j + 1) = adds l j ++ [s] := by
  unfold adds at *; rw [take_snoc_get h, List.foldl_append, List.foldl_cons, List.foldl_nil, addN, hm]; rfl
theorem adds_len (l : List ByteArray) (j : Nat) : (adds l j).length ≤ l.length := by
  unfold adds; have := foldN_len (l.take j) []; rw [List.length_take] at this; simp at this; omega

set_option maxHeartbeats 4000000 in
set_option maxRecDepth 100000 in
theorem rfree_any (p : Pr) (v : Value) (w : World) (hv : PLies w v p) (hn : p.nms ≤ 900000000) (hd : 2 * p.depth ≤ 1000000) : Calls Tryd.prog 38 #[v] w (StrRet w p.free) := by
  have hv' := hv
  obtain ⟨lv, av, tl, tk, kv, rfl, _⟩ := hv'
  obtain ⟨⟨la, ln, lc, rfl⟩, ⟨aa, an, ac, rfl⟩, ⟨ta, tn, tc, rfl⟩, ⟨ua, un, uc, rfl⟩, ⟨ka, kn, kc, rfl⟩⟩ := pr_slices hv
  have hbx : Below w.heap.size w (w.alloc (cell12 p (.slice la ln lc) (.slice aa an ac) (.slice ta tn tc) (.slice ua un uc) (.slice ka kn kc))) := blkBelow w _ _
  have HU : Hid (Calls Tryd.prog 70 #[prAgg p (.slice la ln lc) (.slice aa an ac) (.slice ta tn tc) (.slice ua un uc) (.slice ka kn kc), .slice none 0 0] (w.alloc (cell12 p (.slice la ln lc) (.slice aa an ac) (.slice ta tn tc) (.slice ua un uc) (.slice ka kn kc))) (StrRet (w.alloc (cell12 p (.slice la ln lc) (.slice aa an ac) (.slice ta tn tc) (.slice ua un uc) (.slice ka kn kc))) (p.uses []))) :=
    Lib.hid (uses_any p _ _ [] _ (hv.to hbx) (nil_strs _ _) hn (by simp; omega))
  have HF : Hid (p.free = (p.uses []).foldl addN []) := Lib.hid p.free_uses
  have hul := p.uses_len []
  have HB0 := Lib.hid hbx
  rw [HF.out]
  obtain ⟨l, hl⟩ : ∃ l, p.uses [] = l := ⟨_, rfl⟩
  rw [hl] at HU hul ⊢
  have HLL : Hid (l.length ≤ 900000000) := Lib.hid (by omega)
  clear hv hn hd hbx hul hl
  unfold prAgg at HU
  go_enter Tryd.func38, Tryd.ntmps38
  go_wp2_with fail
  refine HU.out.mono ?_
  rintro e w1 ⟨ya, yn, yc, rfl, hsl, hb1⟩
  obtain ⟨pa1, len1, cap1, e1, hl1, hm1, hg1⟩ := StrSl.open hsl
  simp only [Value.slice.injEq] at e1
  obtain ⟨rfl, rfl, rfl⟩ := e1
  have HOG : Hid (∀ i s, l[i]? = some s → s.size ≤ maxLen ∧ ∃ kb ko, ya = some ⟨kb, ko, none⟩ ∧ kb < w1.heap.size ∧ ∀ W, Below w1.heap.size w1 W → W.cell? ⟨kb, ko + i, none⟩ = some (.string s)) := Lib.hid (fun i s hi => by
    obtain ⟨h1, kb, ko, e, hkb, hc⟩ := hg1 i s hi
    exact ⟨h1, kb, ko, e, hkb.2, fun W hW => (hW.cell (p := ⟨kb, _, none⟩) hkb.2).trans hc⟩)
  have HLN := Lib.hid hl1.out
  have HB1 := Lib.hid (below_seq HB0.out hb1)
  have HBw : Hid (Below w1.heap.size w1 w1) := Lib.hid (Below.refl _ _)
  clear hsl hl1 hg1 hb1 HU
  go_wp2_with fail
  go_loopw [4, 5] (fun v i wr => ∃ (m : Nat) (a : Option Addr) (n c : Nat), i = .int .i64 m ∧ m ≤ yn ∧ v = .slice a n c ∧ Hid (Row w1.heap.size wr (.slice a n c) (adds l m)) ∧ Hid (Below w1.heap.size w1 wr)) (fun _ i _ => yn - (intOf i).toNat)
  case atStart => exact ⟨0, _, _, _, rfl, by omega, rfl, Lib.hid (Row.nil _ _), HBw⟩
  case round =>
    obtain ⟨m, fa, fn, fc, rfl, hm, rfl, HR, HC⟩ := hrel
    have hz2 : w1.heap.size ≤ wr.heap.size := HC.out.size
    by_cases hlt : m < yn
    · obtain ⟨s, hs⟩ : ∃ s, l[m]? = some s := ⟨_, List.getElem?_eq_getElem (by rw [← HLN.out]; exact hlt)⟩
      obtain ⟨hsz, kb, ko, rfl, hkb, hcl⟩ := HOG.out m s hs
      have q1 := hcl wr HC.out
      obtain ⟨mb, hmb⟩ : ∃ mb, memB s (adds l m) = mb := ⟨_, rfl⟩
      have hal := adds_len l m
      have HIN : Hid (Calls Tryd.prog 39 #[.string s, .slice fa fn fc] wr fun e w' => e = .returned (.bool mb) ∧ wr = w') := Lib.hid (by rw [← hmb]; exact prin_any _ s _ (adds l m) wr (HR.out.strs (by have := HLL.out; unfold maxLen; omega)).2)
      cases mb
      · have HT := Lib.hid (adds_no hs hmb)
        have HSO : Hid (StrSl (Fresh wr.heap.size (wr.alloc (.cells #[.string s] 9)).heap.size) (wr.alloc (.cells #[.string s] 9)) (.slice (some ⟨wr.heap.size, 0, none⟩) 1 1) [s]) := Lib.hid (strSl_made [s] (Below.refl _ _) (fun x hx => by rw [List.mem_singleton.1 hx]; exact hsz) (by simp [maxLen]))
        have HLX : Hid ((adds l m).length + [s].length ≤ 1000000000) := Lib.hid (by have := HLL.out; simp; omega)
        have HBS : Hid (w1.heap.size ≤ (wr.alloc (.cells #[.string s] 9)).heap.size) := Lib.hid (by simp; omega)
        clear hs hsz hcl hmb hal
        go_wp2_with (first | (go_at_call 39; refine HIN.out.mono ?_; rintro e w' ⟨rfl, rfl⟩) | (at_builtin; refine wpList_app rfl _ _ rfl w1.heap.size (adds l m) (.slice fa fn fc) rfl (HR.out.alloc _) _ _ _ _ [s] rfl HSO.out HLX.out HBS.out ?_; intro fa' fn' fc' w2 hrow hgrow _; have HRW := Lib.hid hrow; have HGW := Lib.hid hgrow; clear hrow hgrow))
        go_roundw
        case rel => exact ⟨m + 1, _, _, _, by go_num, by omega, rfl, Lib.hid (by rw [HT.out]; exact HRW.out), Lib.hid ((HC.out.alloc (by omega) _).grown HGW.out (by simp; omega) (fun k e => ((HR.out.alloc (.cells #[.string s] 9)).lt k e).1))⟩
        case measure => simp [intOf]; omega
      · have HT := Lib.hid (adds_yes hs hmb)
        clear hs hsz hcl hmb hal
        go_wp2_with (go_at_call 39; refine HIN.out.mono ?_; rintro e w' ⟨rfl, rfl⟩)
        go_roundw
        case rel => exact ⟨m + 1, _, _, _, by go_num, by omega, rfl, Lib.hid (by rw [HT.out]; exact HR.out), HC⟩
        case measure => simp [intOf]; omega
    · obtain rfl : yn = m := by omega
      have HAL : Hid (adds l yn = l.foldl addN []) := Lib.hid (by unfold adds; rw [List.take_of_length_le (by rw [HLN.out]; exact Nat.le_refl _)])
      have hal := adds_len l yn
      have HA := Lib.hid hal
      clear hal
      go_wp2_with fail
      go_ret
      have h := HR.out
      have h2 := HB1.out.size
      rw [← HAL.out]
      exact ⟨_, _, _, rfl, (h.strs (by have := HA.out; have := HLL.out; unfold maxLen; omega)).2.mono (fun k hk => ⟨by have := hk.1; omega, hk.2⟩), below_seq HB1.out HC.out⟩

end Go.Proofs.YtliijbcgkkiekaaDoor

/- Processes: the law about free names, given that the fixed examples come out right. -/
namespace Go.Proofs.YtliijbcgkkiekaaDoor
open Go.RowKit Go.Deep Go.Shelf

theorem rfree_l {W : World} {v : Value} {p : Pr} {l : List ByteArray} (h : PLies W v p) (hn : p.nms ≤ 900000000) (hd : 2 * p.depth ≤ 1000000) (hl : p.free = l) : Calls Tryd.prog 38 #[v] W fun e w' => ∃ la ln lc, e = .returned (.slice la ln lc) ∧ SLies w' (.slice la ln lc) l ∧ Below W.heap.size W w' := by
  rw [← hl]
  exact (rfree_any p v W h hn hd).mono fun _ _ ⟨la, ln, lc, h1, h2, h3⟩ => ⟨la, ln, lc, h1, h2.mono (fun _ hk => hk.2), h3⟩
theorem Twelve.one (w : World) (a0 a1 a2 a3 a4 a5 a6 a7 a8 a9 a10 a11 : Value) : Twelve (w.alloc (.cells #[a0, a1, a2, a3, a4, a5, a6, a7, a8, a9, a10, a11] 36)) w.heap.size a0 a1 a2 a3 a4 a5 a6 a7 a8 a9 a10 a11 := Twelve.new w _ _ _ _ _ _ _ _ _ _ _ _
theorem self_dec (l : List ByteArray) : decide (l = l) = true := by simp

set_option maxHeartbeats 4000000 in
set_option maxRecDepth 100000 in
theorem ProctreeFree_of (haw : ∀ (E : Nat) (w : World), Env E w → Calls Tryd.prog 22 #[] w fun e w' => e = .returned (.bool true) ∧ Below w.heap.size w w')
    (p : Pr) (v : Value) (hn : p.nms ≤ 900000000) (E : Nat) (w : World) (he : Env E w) (h : PLies w v p) : Calls Tryd.prog 6 #[v] w fun e w' => e = .returned (.bool true) ∧ Below w.heap.size w w' := by
  have h0 := h
  obtain ⟨lv, av, tl, tk, kv, rfl, _⟩ := h0
  obtain ⟨⟨la, ln, lc, rfl⟩, ⟨aa, an, ac, rfl⟩, ⟨ta, tn, tc, rfl⟩, ⟨ua, un, uc, rfl⟩, ⟨ka, kn, kc, rfl⟩⟩ := pr_slices h
  have hb0 := blkBelow w #[.int .i64 p.k, .string p.c, .string p.x, .slice la ln lc, .slice aa an ac, .int .i64 p.t.k, .int .i64 p.t.p, .string p.t.n, .int .i64 p.t.s, .slice ta tn tc, .slice ua un uc, .slice ka kn kc] 36
  have H6 := Lib.hid (Twelve.one w (.int .i64 p.k) (.string p.c) (.string p.x) (.slice la ln lc) (.slice aa an ac) (.int .i64 p.t.k) (.int .i64 p.t.p) (.string p.t.n) (.int .i64 p.t.s) (.slice ta tn tc) (.slice ua un uc) (.slice ka kn kc))
  have L0 := Lib.hid (h.to hb0)
  have HB0 := Lib.hid hb0
  have HE := Lib.hid (he.to hb0)
  have HAW := Lib.hid haw
  have HN := Lib.hid hn
  clear h hb0 he hn haw
  cases hfew : p.few 1000 with
  | false =>
    have HF := Lib.hid hfew
    clear hfew
    go_enter Tryd.func6, Tryd.ntmps6
    go_wp2_with fail
    refine (HAW.out _ _ HE.out).mono ?_
    rintro e w1 ⟨rfl, hb1⟩
    obtain ⟨⟨c0, c1, c2, c3, c4, c5, c6, c7, c8, c9, c10, c11⟩, _⟩ := (H6.out.to hb1).cells
    go_wp2_with fail
    clear c0 c1 c2 c3 c4 c5 c6 c7 c8 c9 c10 c11
    refine (pfew_l (m := 1000) (L0.out.to hb1) (by omega) HF.out).mono ?_
    rintro e w2 ⟨rfl, hb2⟩
    go_wp2_with fail
    refine (HAW.out _ _ (HE.out.to (below_seq hb1 hb2))).mono ?_
    rintro e w3 ⟨rfl, hb3⟩
    go_wp2_with fail
    go_ret
    exact ⟨rfl, below_seq HB0.out (below_seq hb1 (below_seq hb2 hb3))⟩
  | true =>
    have HF := Lib.hid hfew
    have hfs := Pr.few_facts hfew
    have HS1 : Hid (p.size ≤ 1000000) := Lib.hid (by omega)
    have HD1 : Hid (p.depth ≤ 100000) := Lib.hid (by omega)
    have HD2 : Hid (2 * p.depth ≤ 1000000) := Lib.hid (by omega)
    have HN2 : Hid (p.nms ≤ 1000000000) := Lib.hid (by have := HN.out; omega)
    clear hfew hfs
    go_enter Tryd.func6, Tryd.ntmps6
    go_wp2_with fail
    refine (HAW.out _ _ HE.out).mono ?_
    rintro e w1 ⟨rfl, hb1⟩
    obtain ⟨⟨c0, c1, c2, c3, c4, c5, c6, c7, c8, c9, c10, c11⟩, _⟩ := (H6.out.to hb1).cells
    go_wp2_with fail
    clear c0 c1 c2 c3 c4 c5 c6 c7 c8 c9 c10 c11
    refine (pfew_l (m := 1000) (L0.out.to hb1) (by omega) HF.out).mono ?_
    rintro e w2 ⟨rfl, hb2⟩
    have hb12 := below_seq hb1 hb2
    have T0 : Hid (Twelve w2 w.heap.size (.int .i64 p.k) (.string p.c) (.string p.x) (.slice la ln lc) (.slice aa an ac) (.int .i64 p.t.k) (.int .i64 p.t.p) (.string p.t.n) (.int .i64 p.t.s) (.slice ta tn tc) (.slice ua un uc) (.slice ka kn kc)) := Lib.hid (H6.out.to hb12)
    have L2 : Hid (PLies w2 (.agg #[.int .i64 p.k, .string p.c, .string p.x, .slice la ln lc, .slice aa an ac, .int .i64 p.t.k, .int .i64 p.t.p, .string p.t.n, .int .i64 p.t.s, .slice ta tn tc, .slice ua un uc, .slice ka kn kc]) p) := Lib.hid (L0.out.to hb12)
    have HBB := Lib.hid (below_seq HB0.out hb12)
    have HB := Lib.hid (Below.refl w2.heap.size w2).drew
    clear hb1 hb2 hb12 L0 H6 HB0 HE HAW HF
    go_wp2_with fail
    go_region_held3 (fun w' => w'.cell? ⟨w.heap.size, 0, none⟩ = some (.int .i64 p.k) ∧ w'.cell? ⟨w.heap.size, 1, none⟩ = some (.string p.c) ∧ w'.cell? ⟨w.heap.size, 2, none⟩ = some (.string p.x) ∧ w'.cell? ⟨w.heap.size, 3, none⟩ = some (.slice la ln lc) ∧ w'.cell? ⟨w.heap.size, 4, none⟩ = some (.slice aa an ac) ∧ w'.cell? ⟨w.heap.size, 5, none⟩ = some (.int .i64 p.t.k) ∧ w'.cell? ⟨w.heap.size, 6, none⟩ = some (.int .i64 p.t.p) ∧ w'.cell? ⟨w.heap.size, 7, none⟩ = some (.string p.t.n) ∧ w'.cell? ⟨w.heap.size, 8, none⟩ = some (.int .i64 p.t.s) ∧ w'.cell? ⟨w.heap.size, 9, none⟩ = some (.slice ta tn tc) ∧ w'.cell? ⟨w.heap.size, 10, none⟩ = some (.slice ua un uc) ∧ w'.cell? ⟨w.heap.size, 11, none⟩ = some (.slice ka kn kc)) (exact (T0.out.to HB.out).cells.1) ((first
      | (go_at_call 37; with_reducible refine (pfree_l (L2.out.to HB.out) HS1.out HD1.out HN2.out rfl).mono ?_; rintro e y ⟨la1, ln1, lc1, rfl, hsl, hh⟩; have HX1 := Lib.hid hsl; replace HB := Lib.hid (below_seq HB.out hh); clear hsl hh)
      | (go_at_call 38; with_reducible refine (rfree_l (L2.out.to HB.out) HN.out HD2.out rfl).mono ?_; rintro e y ⟨la2, ln2, lc2, rfl, hsl, hh⟩; have HX2 := Lib.hid hsl; have HX3 := Lib.hid (SLies.to HX1.out hh); replace HB := Lib.hid (below_seq HB.out hh); clear hsl hh)
      | (go_at_call 36; with_reducible refine (ptexts_l HX3.out HX2.out (self_dec _)).mono ?_; rintro e y ⟨rfl, hh⟩; replace HB := Lib.hid (below_seq HB.out hh); clear hh)
      | fail))
    all_goals (go_wp2_with fail)
    all_goals go_ret
    all_goals exact ⟨rfl, below_seq HBB.out HB.out⟩

end Go.Proofs.YtliijbcgkkiekaaDoor

/- Processes that came in as arguments: how many names they have at most. -/
namespace Go.Proofs.YtliijbcgkkiekaaDoor
open Go.ChangeShapes Go.WideShapes Go.ChangeAt Go.RowKit Go.Deep

theorem bulk_pos {H : Type} (d : DataW H) : 1 ≤ Rows.uptoBulk d := by
  cases d <;> first | (simp [Rows.uptoBulk]; done) | (rename_i l; cases l <;> simp [Rows.uptoBulk])
theorem bulk_len {H : Type} (D : List (DataW H)) : D.length ≤ Rows.uptoBulkAll D := by
  induction D with
  | nil => simp
  | cons d r ih => have := bulk_pos d; simp only [List.length_cons, Rows.uptoBulkAll]; omega
def sumBy {α : Type} (g : α → Nat) : List α → Nat
  | [] => 0
  | x :: r => g x + sumBy g r
theorem sum_bulk {H α : Type} (g : α → Nat) : ∀ (xs : List α) (D : List (DataW H)), xs.length = D.length → (∀ (j : Nat) (x : α) (d : DataW H), xs[j]? = some x → D[j]? = some d → g x ≤ Rows.uptoBulk d) → sumBy g xs ≤ Rows.uptoBulkAll D
  | [], D, _, _ => by simp [sumBy]
  | x :: r, [], h, _ => by simp at h
  | x :: r, d :: D, h, hg => by
    have h1 := hg 0 x d rfl rfl
    have h2 := sum_bulk g r D (by simpa using h) (fun j x d hx hd => hg (j + 1) x d (by simpa using hx) (by simpa using hd))
    simp only [sumBy, Rows.uptoBulkAll]; omega

/-- A slice, with what its elements hold. -/
theorem slice_bulk {H : Type} {enc : TypeId × Value → H} {P : Program} {w : World} {base : Nat} {spare : Nat → Bool} {held : Bool} {t e : TypeId} {fuel : Nat} {v : Value} {x : DataW H × List MemPlace}
    (he : P.underlying t = some (.slice e)) (h : DataW.trod enc P w base spare held fuel t [v] = some x) :
    ∃ (a : Option Addr) (len cap : Nat) (D : List (DataW H)), v = .slice a len cap ∧ len ≤ cap ∧ cap ≤ maxLen ∧ D.length = len ∧ Rows.uptoBulkAll D + 1 ≤ Rows.uptoBulk x.1 ∧
      ∀ i, i < len → ∃ ad n cs y, a = some ad ∧ n < fuel ∧ w.cells? base (ad.add (i * P.cellsOf e)) (P.cellsOf e) = some cs ∧ DataW.trod enc P w base spare held n e cs = some y ∧ D[i]? = some y.1 := by
  rcases DataW.trod_slice he h with ⟨hc, hx⟩ | ⟨a, len, cap, elems, rest, n, hn, hcs, hx, hb, hl, hm, hlen, hel, _⟩
  · simp only [List.cons.injEq, and_true] at hc
    exact ⟨none, 0, 0, [], hc, by omega, by simp [maxLen], rfl, by rw [hx]; simp [Rows.uptoBulk, Rows.uptoBulkAll], fun i hi => by omega⟩
  · simp only [List.cons.injEq, and_true] at hcs
    refine ⟨some a, len, cap, elems.map (·.1), hcs, hl, hm, by simpa using hlen, by rw [hx]; simp only [Rows.uptoBulk]; omega, fun i hi => ?_⟩
    have h1 := hel i hi
    obtain ⟨y, hy⟩ : ∃ y, elems[i]? = some y := ⟨_, List.getElem?_eq_getElem (by omega)⟩
    rw [hy] at h1
    cases hq : w.cells? base (a.add (i * P.cellsOf e)) (P.cellsOf e) with
    | none => rw [hq] at h1; simp at h1
    | some cs => rw [hq] at h1; exact ⟨a, n, cs, y, rfl, by omega, hq, by simpa using h1, by rw [List.getElem?_map, hy]; rfl⟩
theorem len_bulk {H : Type} {enc : TypeId × Value → H} {P : Program} {w : World} {base : Nat} {spare : Nat → Bool} {held : Bool} {t e : TypeId} {fuel : Nat} {a : Option Addr} {len cap : Nat} {x : DataW H × List MemPlace}
    (he : P.underlying t = some (.slice e)) (h : DataW.trod enc P w base spare held fuel t [.slice a len cap] = some x) : len ≤ Rows.uptoBulk x.1 := by
  obtain ⟨a', len', cap', D, e', _, _, hD, hb, _⟩ := slice_bulk he h
  simp only [Value.slice.injEq] at e'
  have := bulk_len D; omega
theorem fld2 {H : Type} {enc : TypeId × Value → H} {P : Program} {w : World} {base : Nat} {spare : Nat → Bool} {held : Bool} {n : Nat} {cs : List Value} {fs : Array Field} {xs : List (DataW H × List MemPlace)} (hx : xs.length = fs.size)
    (hf : ∀ (i : Nat) (f : Field), fs[i]? = some f → DataW.trod enc P w base spare held n f.type ((cs.drop f.offset).take (P.cellsOf f.type)) = xs[i]?) (i : Nat) {f : Field} (hi : fs[i]? = some f) {c : Nat} (hc : P.cellsOf f.type = c) {ds : List Value} (hd : (cs.drop f.offset).take c = ds) {t : TypeId} (ht : f.type = t) :
    ∃ y, xs[i]? = some y ∧ DataW.trod enc P w base spare held n t ds = some y := by
  subst ht hd hc
  have hlt := (Array.getElem?_eq_some_iff.1 hi).1
  obtain ⟨y, hy⟩ : ∃ y, xs[i]? = some y := ⟨_, List.getElem?_eq_getElem (by omega)⟩
  exact ⟨y, hy, by rw [hf i f hi, hy]⟩
/-- The elements of a slice, each of which is told from its cells, with a number for each. -/
theorem rows_bulk {H : Type} {enc : TypeId × Value → H} {P : Program} {w : World} {base : Nat} {spare : Nat → Bool} {held : Bool} {e : TypeId} {fuel len c : Nat} {a : Option Addr} {α : Type} (Q : α → Nat → Nat → Prop) (g : α → Nat) (D : List (DataW H)) (hD : D.length = len) (hc : 0 < c)
    (hi : ∀ i, i < len → ∃ ad n cs y, a = some ad ∧ n < fuel ∧ w.cells? base (ad.add (i * c)) c = some cs ∧ DataW.trod enc P w base spare held n e cs = some y ∧ D[i]? = some y.1)
    (hel : ∀ n cs y, n < fuel → cs.length = c → DataW.trod enc P w base spare held n e cs = some y → ∃ x : α, g x ≤ Rows.uptoBulk y.1 ∧ ∀ b o, b < w.heap.size → (∀ j v, cs[j]? = some v → w.cell? ⟨b, o + j, none⟩ = some v) → Q x b o) :
    ∃ xs : List α, xs.length = len ∧ (xs = [] ∨ ∃ b o, a = some ⟨b, o, none⟩ ∧ b < w.heap.size ∧ ∀ j x, xs[j]? = some x → Q x b (o + j * c)) ∧ (∀ x ∈ xs, ∃ b o, Q x b o) ∧ sumBy g xs ≤ Rows.uptoBulkAll D := by
  have each : ∀ i, i < len → ∃ x : α, (∃ b o, a = some ⟨b, o, none⟩ ∧ b < w.heap.size ∧ Q x b (o + i * c)) ∧ ∀ d, D[i]? = some d → g x ≤ Rows.uptoBulk d := by
    intro i hin
    obtain ⟨ad, n, cs, y, rfl, hn, hcs, ht, hdi⟩ := hi i hin
    obtain ⟨ad0, n0, cs0, y0, e0, _, hcs0, ht0, _⟩ := hi 0 (by omega)
    obtain rfl := Option.some.inj e0
    obtain ⟨_, hl, hat⟩ := World.cells?_some hcs
    obtain ⟨_, hl0, hat0⟩ := World.cells?_some hcs0
    have h0 := hat0 0 hc
    rw [Nat.zero_mul, add_zero', add_zero', List.getElem?_eq_getElem (by omega)] at h0
    obtain ⟨e1, e2⟩ := addr_of_cell h0
    obtain ⟨x, hg, hx⟩ := hel n cs y hn hl ht
    rw [e1] at hat
    simp only [add_block] at hat
    refine ⟨x, ⟨ad.block, ad.off, by rw [← e1], e2, hx _ _ e2 (fun j v hj => by
      have hj' : j < c := by rw [← hl]; exact (List.getElem?_eq_some_iff.1 hj).1
      rw [hat j hj', hj])⟩, fun d hd => ?_⟩
    rw [hdi] at hd
    rw [← Option.some.inj hd]; exact hg
  obtain ⟨xs, hn, hxs⟩ := choose_list _ len each
  refine ⟨xs, hn, ?_, fun x hx => ?_, sum_bulk g xs D (by omega) (fun j x d hx hd => (hxs j x hx).2 d hd)⟩
  · cases xs with
    | nil => exact .inl rfl
    | cons x0 r =>
      obtain ⟨⟨b, o, rfl, hb, _⟩, _⟩ := hxs 0 x0 rfl
      refine .inr ⟨b, o, rfl, hb, fun j x hj => ?_⟩
      obtain ⟨⟨b', o', e, _, hq⟩, _⟩ := hxs j x hj
      simp only [Option.some.injEq, Addr.mk.injEq, and_true] at e
      obtain ⟨rfl, rfl⟩ := e
      exact hq
  · obtain ⟨i, hi'⟩ := List.mem_iff_getElem?.1 hx
    obtain ⟨⟨b, o, _, _, hq⟩, _⟩ := hxs i x hi'
    exact ⟨_, _, hq⟩

theorem vls_len {B : Nat → Prop} {w : World} {a : Option Addr} {n c : Nat} {vs : List Vl} (h : VlSl B w (.slice a n c) vs) : vs.length = n := by
  obtain ⟨pa, len, cap, e, hl, _⟩ := h.open
  simp only [Value.slice.injEq] at e
  rw [← hl.out]; exact e.2.1.symm
theorem nmss_sum (l : List Pr) : Pr.nmss l = sumBy Pr.nms l := by
  induction l with
  | nil => rfl
  | cons p r ih => rw [Pr.nmss, sumBy, ih]

set_option maxRecDepth 100000 in
theorem pr_open2 {H : Type} {enc : TypeId × Value → H} {W : World} {base : Nat} {spare : Nat → Bool} {held : Bool} : ∀ (fuel : Nat) (cs : List Value) (x : DataW H × List MemPlace), DataW.trod enc Tryd.prog W base spare held fuel 36 cs = some x →
    ∃ p lv av tl tk kv, cs = prCells p lv av tl tk kv ∧ p.fine ∧ PLies W (.agg (prCells p lv av tl tk kv).toArray) p ∧ p.nms ≤ Rows.uptoBulk x.1 := by
  intro fuel
  induction fuel using Nat.strongRecOn with
  | _ fuel ih =>
  intro cs x h
  obtain ⟨ys, n', hn', hD, hcl, hyl, hf⟩ := DataW.trod_struct Tryd.underlying36 h
  rw [procCellsOf] at hcl
  obtain ⟨a0, a1, a2, a3, a4, a5, a6, a7, a8, a9, a10, a11, rfl⟩ := list12 hcl
  obtain ⟨y0, z0, t0⟩ := fld2 hyl hf 0 rfl (c := 1) (by kernel_rfl) (ds := [a0]) rfl (t := 3) rfl
  obtain ⟨y1, z1, t1⟩ := fld2 hyl hf 1 rfl (c := 1) (by kernel_rfl) (ds := [a1]) rfl (t := 9) rfl
  obtain ⟨y2, z2, t2⟩ := fld2 hyl hf 2 rfl (c := 1) (by kernel_rfl) (ds := [a2]) rfl (t := 9) rfl
  obtain ⟨y3, z3, t3⟩ := fld2 hyl hf 3 rfl (c := 1) (by kernel_rfl) (ds := [a3]) rfl (t := 22) rfl
  obtain ⟨y4, z4, t4⟩ := fld2 hyl hf 4 rfl (c := 1) (by kernel_rfl) (ds := [a4]) rfl (t := 33) rfl
  obtain ⟨y5, z5, t5⟩ := fld2 hyl hf 5 rfl (c := 6) (by kernel_rfl) (ds := [a5, a6, a7, a8, a9, a10]) rfl (t := 25) rfl
  obtain ⟨y6, z6, t6⟩ := fld2 hyl hf 6 rfl (c := 1) (by kernel_rfl) (ds := [a11]) rfl (t := 34) rfl
  obtain ⟨k, hk, _, wk⟩ := DataW.trod_int Tryd.underlying3 t0
  obtain ⟨c, hc, _, hcz⟩ := DataW.trod_string Tryd.underlying9 t1
  obtain ⟨xv, hxv, _, hxz⟩ := DataW.trod_string Tryd.underlying9 t2
  simp only [List.cons.injEq, and_true] at hk hc hxv
  subst hk hc hxv
  obtain ⟨ls, hls⟩ := strs_open t3
  obtain ⟨vs, hvs⟩ := vls_open t4
  have hvl : vs.length ≤ Rows.uptoBulk y4.1 := by
    obtain ⟨pa, len, cap, e, hl, _⟩ := hvs.open
    subst e
    have := len_bulk Tryd.underlying33 t4
    rw [hl.out] at this; exact this
  obtain ⟨t, tl, tk, et, hft, hlt⟩ := ty_open _ _ _ t5
  simp only [tyCells, List.cons.injEq, and_true] at et
  obtain ⟨rfl, rfl, rfl, rfl, rfl, rfl⟩ := et
  obtain ⟨a, len, cap, D, rfl, hl, hm, hDl, hDb, hi⟩ := slice_bulk Tryd.underlying34 t6
  rw [procCellsOf] at hi
  obtain ⟨ps, hn, hrow, hall, hsum⟩ := rows_bulk (fun (p : Pr) b o => p.fine ∧ PrAt (fun k => k < W.heap.size) W p b o) Pr.nms D hDl (by omega) hi (fun n cs y hn _ ht => by
    obtain ⟨p, lv, av, tl, tk, kv, rfl, hfine, hlies, hbk⟩ := ih n (by omega) cs y ht
    exact ⟨p, hbk, fun b o hb hc => ⟨hfine, prAt_of hb (hc 0 _ rfl) (hc 1 _ rfl) (hc 2 _ rfl) (hc 3 _ rfl) (hc 4 _ rfl) (hc 5 _ rfl) (hc 6 _ rfl) (hc 7 _ rfl) (hc 8 _ rfl) (hc 9 _ rfl) (hc 10 _ rfl) (hc 11 _ rfl) hlies⟩⟩)
  refine ⟨.mk k c xv ls vs t ps, a3, a4, a9, a10, .slice a len cap, rfl, ⟨wf_in wk, hft, Pr.fines_of ps (fun u hu => ?_)⟩, ⟨_, _, _, _, _, rfl, ⟨hcz, hxz⟩, hls, hvs, hlt, ?_, by show ps.length ≤ _; omega⟩, ?_⟩
  · obtain ⟨b, o, hq⟩ := hall u hu
    exact hq.1
  · show _ ∨ _
    rcases hrow with rfl | ⟨b, o, rfl, hb, hrow⟩
    · exact .inl ⟨⟨a, cap, by rw [← hn]; rfl⟩, rfl⟩
    · exact .inr ⟨b, o, cap, by show Value.slice _ _ _ = Value.slice _ ps.length _; rw [hn], hb, prsAt_of (fun i p hi' => (hrow i p hi').2)⟩
  · have hys : ys.length = 7 := hyl
    obtain ⟨b0, b1, b2, b3, b4, b5, b6, rfl⟩ := list7 hys
    simp at z0 z1 z2 z3 z4 z5 z6
    subst z0 z1 z2 z3 z4 z5 z6
    rw [hD]
    rw [Pr.nms_eq]
    simp only [Pr.vs, Pr.ps, nmss_sum, List.map_cons, List.map_nil, Rows.uptoBulk, Rows.uptoBulkAll]
    have := bulk_pos b0.1
    omega

set_option maxRecDepth 100000 in
/-- A process that came in, and how many names it has. -/
theorem proc_open2 {H : Type} {enc : TypeId × Value → H} {W : World} {base : Nat} {spare : Nat → Bool} {held : Bool} {v : Value} {d : DataW H} {p : List MemPlace} {b0 : Nat} (hv : Value.okWide Tryd.prog W .any b0 36 v) (h : DataW.Trod enc Tryd.prog W base spare held 36 v d p) :
    ∃ t, t.fine ∧ PLies W v t ∧ t.nms ≤ Rows.uptoBulk d := by
  obtain ⟨fuel, hf⟩ := h
  unfold Value.okWide at hv
  rw [Tryd.underlying36] at hv
  obtain ⟨cs, rfl, _, _⟩ := hv
  obtain ⟨t, lv, av, tl, tk, kv, e, hfine, hl, hb⟩ := pr_open2 fuel _ _ hf
  have e' : cs.toList = prCells t lv av tl tk kv := e
  have : cs = (prCells t lv av tl tk kv).toArray := by rw [← e']
  rw [this]
  exact ⟨t, hfine, hl, hb⟩

end Go.Proofs.YtliijbcgkkiekaaDoor

/- Processes: what binding does to the free names. -/
namespace Go.Proofs.YtliijbcgkkiekaaDoor
open Go.RowKit Go.Deep Go.Shelf

theorem mem_addN {out : List ByteArray} {y s : ByteArray} : s ∈ addN out y ↔ s ∈ out ∨ s = y := by
  unfold addN
  cases h : memB y out with
  | true =>
    rw [if_pos rfl]
    exact ⟨.inl, fun h' => h'.elim id (fun e => by rw [e]; exact memB_true.1 h)⟩
  | false => rw [if_neg (by decide)]; simp
theorem mem_foldN {l : List ByteArray} {s : ByteArray} : ∀ {out : List ByteArray}, s ∈ l.foldl addN out ↔ s ∈ out ∨ s ∈ l := by
  induction l with
  | nil => intro out; simp
  | cons y r ih => intro out; rw [List.foldl_cons, ih, mem_addN, List.mem_cons, or_assoc]
theorem nodup_addN {out : List ByteArray} (h : out.Nodup) (y : ByteArray) : (addN out y).Nodup := by
  unfold addN
  cases hm : memB y out with
  | true => rw [if_pos rfl]; exact h
  | false =>
    rw [if_neg (by decide), List.nodup_append]
    refine ⟨h, by simp, fun a ha b hb e => ?_⟩
    rw [List.mem_singleton.1 hb] at e
    rw [e] at ha
    rw [memB_true.2 ha] at hm; cases hm
theorem nodup_foldN (l : List ByteArray) : ∀ {out : List ByteArray}, out.Nodup → (l.foldl addN out).Nodup := by
  induction l with
  | nil => intro out h; exact h
  | cons y r ih => intro out h; rw [List.foldl_cons]; exact ih (nodup_addN h y)
theorem le_of_sub : ∀ (l r : List ByteArray), l.Nodup → (∀ s ∈ l, s ∈ r) → l.length ≤ r.length
  | [], r, _, _ => Nat.zero_le _
  | a :: l, r, hn, h => by
    have ha := h a (by simp)
    have hn' := List.nodup_cons.1 hn
    have h1 := le_of_sub l (r.eraseP (fun y => decide (y = a))) hn'.2 (fun s hs => (List.mem_eraseP_of_neg (by simp; exact fun e => hn'.1 (by rw [← e]; exact hs))).2 (h s (by simp [hs])))
    have h2 := List.length_eraseP_of_mem (p := fun y => decide (y = a)) ha (by simp)
    have h3 := List.length_pos_of_mem ha
    simp only [List.length_cons]; omega
theorem len_same {l r : List ByteArray} (hl : l.Nodup) (hr : r.Nodup) (h : ∀ s, s ∈ l ↔ s ∈ r) : l.length = r.length :=
  Nat.le_antisymm (le_of_sub l r hl (fun s hs => (h s).1 hs)) (le_of_sub r l hr (fun s hs => (h s).2 hs))

theorem mem_keepF {bd l : List ByteArray} {s : ByteArray} : s ∈ keepF bd l ↔ s ∈ l ∧ s ∉ bd := by
  unfold keepF
  rw [List.mem_filter]
  by_cases h : s ∈ bd
  · simp [memB_true.2 h, h]
  · simp [memB_false h, h]
theorem keepF_nil (l : List ByteArray) : keepF [] l = l := by
  unfold keepF; rw [List.filter_eq_self]; intro s _; rw [memB_false (by simp)]; rfl
theorem keepF_append (a l r : List ByteArray) : keepF a (l ++ r) = keepF a l ++ keepF a r := by unfold keepF; rw [List.filter_append]
theorem keepF_two (a b l : List ByteArray) : keepF (a ++ b) l = keepF a (keepF b l) := by
  unfold keepF
  rw [List.filter_filter]
  congr 1
  funext s
  have : memB s (a ++ b) = (memB s a || memB s b) := by unfold memB; rw [List.any_append]
  rw [this]
  cases memB s a <;> cases memB s b <;> rfl
mutual
theorem Pr.uses_keep : ∀ (p : Pr) (bd : List ByteArray), p.uses bd = keepF bd (p.uses [])
  | .mk k c x ls vs t ps, bd => by
    rw [Pr.uses, Pr.uses, keepF_nil, keepF_append, List.nil_append, Pr.usess_keep ps (bd ++ _), keepF_two, ← Pr.usess_keep ps (Pr.bnd _)]
theorem Pr.usess_keep : ∀ (l : List Pr) (bd : List ByteArray), Pr.usess l bd = keepF bd (Pr.usess l [])
  | [], bd => by simp [Pr.usess, keepF]
  | p :: r, bd => by rw [Pr.usess, Pr.usess, keepF_append, ← Pr.uses_keep p bd, ← Pr.usess_keep r bd]
end
theorem Pr.mem_free {p : Pr} {s : ByteArray} : s ∈ p.free ↔ s ∈ p.uses [] := by rw [Pr.free_uses, mem_foldN]; simp
theorem Pr.nodup_free (p : Pr) : p.free.Nodup := by rw [Pr.free_uses]; exact nodup_foldN _ List.nodup_nil

def bRecv (c x : ByteArray) (p : Pr) : Pr := .mk 3 c x [] [] (leafT 0) [p]
def bNew (c x : ByteArray) (p : Pr) : Pr := .mk 6 c x [] [] (leafT 3) [p]
theorem uses_recv (c x : ByteArray) (p : Pr) : (bRecv c x p).uses [] = c :: p.uses [x] := by
  rw [Pr.uses_eq, keepF_nil]
  simp [bRecv, Pr.own, Pr.k, Pr.c, Pr.vs, Pr.ps, Pr.bnd, Pr.x, Pr.usess, prefixB]
theorem uses_new (c x : ByteArray) (p : Pr) : (bNew c x p).uses [] = p.uses [c, x] := by
  rw [Pr.uses_eq, keepF_nil]
  simp [bNew, Pr.own, Pr.k, Pr.c, Pr.vs, Pr.ps, Pr.bnd, Pr.x, Pr.usess, prefixB]
theorem uses_par (p q : Pr) : (parP p q).uses [] = p.uses [] ++ q.uses [] := by
  rw [Pr.uses_eq, keepF_nil]
  simp [parP, Pr.own, Pr.k, Pr.vs, Pr.ps, Pr.bnd, Pr.usess, prefixB]
theorem mem_recv {c x : ByteArray} {p : Pr} {s : ByteArray} : s ∈ (bRecv c x p).free ↔ s = c ∨ (s ∈ p.free ∧ s ≠ x) := by
  rw [Pr.mem_free, uses_recv, List.mem_cons, Pr.uses_keep, mem_keepF, Pr.mem_free]; simp
theorem mem_new {c x : ByteArray} {p : Pr} {s : ByteArray} : s ∈ (bNew c x p).free ↔ s ∈ p.free ∧ s ≠ c ∧ s ≠ x := by
  rw [Pr.mem_free, uses_new, Pr.uses_keep, mem_keepF, Pr.mem_free]; simp
theorem mem_par {p q : Pr} {s : ByteArray} : s ∈ (parP p q).free ↔ s ∈ p.free ∨ s ∈ q.free := by
  rw [Pr.mem_free, uses_par, List.mem_append, Pr.mem_free, Pr.mem_free]
/-- The names that are neither. -/
def restB (c x : ByteArray) (s : ByteArray) : Bool := !decide (s = x) && !decide (s = c)
theorem restB_iff {c x s : ByteArray} : restB c x s = true ↔ s ≠ x ∧ s ≠ c := by unfold restB; simp
def restN (c x : ByteArray) (l : List ByteArray) (j : Nat) : Nat := ((l.take j).filter (restB c x)).length
theorem restN_yes {c x s : ByteArray} {l : List ByteArray} {j : Nat} (h : l[j]? = some s) (h1 : s ≠ x) (h2 : s ≠ c) : restN c x l (j + 1) = restN c x l j + 1 := by
  unfold restN; rw [take_snoc_get h, List.filter_append, List.length_append]; simp [restB_iff.2 ⟨h1, h2⟩]
theorem restN_no {c x s : ByteArray} {l : List ByteArray} {j : Nat} (h : l[j]? = some s) (h1 : ¬ (s ≠ x ∧ s ≠ c)) : restN c x l (j + 1) = restN c x l j := by
  have : restB c x s = false := by
    cases e : restB c x s with
    | false => rfl
    | true => exact absurd (restB_iff.1 e) h1
  unfold restN; rw [take_snoc_get h, List.filter_append, List.length_append]; simp [this]
theorem restN_le (c x : ByteArray) (l : List ByteArray) (j : Nat) : restN c x l j ≤ j := by
  unfold restN; exact Nat.le_trans (List.length_filter_le _ _) (by rw [List.length_take]; omega)
theorem len_new (c x : ByteArray) (p : Pr) : (bNew c x p).free.length = restN c x p.free p.free.length := by
  unfold restN
  rw [List.take_length]
  exact len_same (Pr.nodup_free _) (List.Pairwise.filter _ (Pr.nodup_free _)) (fun s => by rw [mem_new, List.mem_filter, restB_iff, and_comm (a := s ≠ c)])
theorem len_recv (c x : ByteArray) (p : Pr) : (bRecv c x p).free.length = restN c x p.free p.free.length + 1 := by
  unfold restN
  rw [List.take_length, ← List.length_cons (a := c)]
  refine len_same (Pr.nodup_free _) (List.nodup_cons.2 ⟨fun h => ?_, List.Pairwise.filter _ (Pr.nodup_free _)⟩) (fun s => ?_)
  · exact (restB_iff.1 (List.mem_filter.1 h).2).2 rfl
  · rw [mem_recv, List.mem_cons, List.mem_filter, restB_iff]
    by_cases e : s = c
    · simp [e]
    · simp [e]

theorem bRecv_size (c x : ByteArray) (p : Pr) : (bRecv c x p).size = p.size + 1 := by rw [Pr.size_eq]; simp [bRecv, Pr.ps, Pr.sizes]
theorem bRecv_depth (c x : ByteArray) (p : Pr) : (bRecv c x p).depth = p.depth + 1 := by rw [Pr.depth_eq]; simp [bRecv, Pr.ps, Pr.depths]
theorem bRecv_nms (c x : ByteArray) (p : Pr) : (bRecv c x p).nms = p.nms + 1 := by rw [Pr.nms_eq]; simp [bRecv, Pr.ps, Pr.vs, Pr.nmss]; omega
theorem bNew_size (c x : ByteArray) (p : Pr) : (bNew c x p).size = p.size + 1 := by rw [Pr.size_eq]; simp [bNew, Pr.ps, Pr.sizes]
theorem bNew_depth (c x : ByteArray) (p : Pr) : (bNew c x p).depth = p.depth + 1 := by rw [Pr.depth_eq]; simp [bNew, Pr.ps, Pr.depths]
theorem bNew_nms (c x : ByteArray) (p : Pr) : (bNew c x p).nms = p.nms + 1 := by rw [Pr.nms_eq]; simp [bNew, Pr.ps, Pr.vs, Pr.nmss]; omega
theorem parP_nms (p q : Pr) : (parP p q).nms = p.nms + q.nms + 1 := by rw [Pr.nms_eq]; simp [parP, Pr.ps, Pr.vs, Pr.nmss]; omega

theorem lies_recv {W : World} {b : Nat} {p : Pr} {c x : ByteArray} {lv av tl tk kv : Value} (hc : c.size ≤ maxLen) (hx : x.size ≤ maxLen) (hh : W.heap[b]? = some (cell12 p lv av tl tk kv)) (h : PLies W (prAgg p lv av tl tk kv) p) :
    PLies W (.agg #[.int .i64 3, .string c, .string x, .slice none 0 0, .slice none 0 0, .int .i64 0, .int .i64 0, .string ⟨#[]⟩, .int .i64 0, .slice none 0 0, .slice none 0 0, .slice (some ⟨b, 0, none⟩) 1 1]) (bRecv c x p) :=
  ⟨sl0, sl0, sl0, sl0, _, rfl, ⟨hc, hx⟩, nil_strs _ _, nil_vls _ _, val_leaf _ _ 0 0 0 e0 (by decide), prs_one (Array.getElem?_eq_some_iff.1 hh).1 hh h⟩
theorem lies_new {W : World} {b : Nat} {p : Pr} {c x : ByteArray} {lv av tl tk kv : Value} (hc : c.size ≤ maxLen) (hx : x.size ≤ maxLen) (hh : W.heap[b]? = some (cell12 p lv av tl tk kv)) (h : PLies W (prAgg p lv av tl tk kv) p) :
    PLies W (.agg #[.int .i64 6, .string c, .string x, .slice none 0 0, .slice none 0 0, .int .i64 3, .int .i64 0, .string ⟨#[]⟩, .int .i64 0, .slice none 0 0, .slice none 0 0, .slice (some ⟨b, 0, none⟩) 1 1]) (bNew c x p) :=
  ⟨sl0, sl0, sl0, sl0, _, rfl, ⟨hc, hx⟩, nil_strs _ _, nil_vls _ _, val_leaf _ _ 3 0 0 e0 (by decide), prs_one (Array.getElem?_eq_some_iff.1 hh).1 hh h⟩
theorem lies_par {W : World} {b : Nat} {p q : Pr} {lv av tl tk kv lv' av' tl' tk' kv' : Value}
    (hh : W.heap[b]? = some (.cells #[.int .i64 p.k, .string p.c, .string p.x, lv, av, .int .i64 p.t.k, .int .i64 p.t.p, .string p.t.n, .int .i64 p.t.s, tl, tk, kv, .int .i64 q.k, .string q.c, .string q.x, lv', av', .int .i64 q.t.k, .int .i64 q.t.p, .string q.t.n, .int .i64 q.t.s, tl', tk', kv'] 36))
    (h : PLies W (prAgg p lv av tl tk kv) p) (h' : PLies W (prAgg q lv' av' tl' tk' kv') q) :
    PLies W (.agg #[.int .i64 7, .string ⟨#[]⟩, .string ⟨#[]⟩, .slice none 0 0, .slice none 0 0, .int .i64 0, .int .i64 0, .string ⟨#[]⟩, .int .i64 0, .slice none 0 0, .slice none 0 0, .slice (some ⟨b, 0, none⟩) 2 2]) (parP p q) :=
  ⟨sl0, sl0, sl0, sl0, _, rfl, ⟨(by show (⟨#[]⟩ : ByteArray).size ≤ maxLen; decide), (by show (⟨#[]⟩ : ByteArray).size ≤ maxLen; decide)⟩, nil_strs _ _, nil_vls _ _, val_leaf _ _ 0 0 0 e0 (by decide), prs_two (Array.getElem?_eq_some_iff.1 hh).1 hh h h'⟩

end Go.Proofs.YtliijbcgkkiekaaDoor
