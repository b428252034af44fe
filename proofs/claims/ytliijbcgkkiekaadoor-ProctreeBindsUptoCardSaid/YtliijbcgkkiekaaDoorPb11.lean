/- Types: the program's small checks. (and what follows from it) -/
import Derived.Test.YtliijbcgkkiekaaDoorPb10
import Derived.Maps.OwnSet
import Derived.Maps.OwnOps

/- Types: the program's small checks. -/
namespace Go.Proofs.YtliijbcgkkiekaaDoor
open Go.RowKit

def numB (n : Int) (has : Bool) : Bool := if has then prioB n else n == 0
set_option maxHeartbeats 400000 in
theorem numberFits_any (n : Int) (has : Bool) (w : World) : Calls Tryd.prog 105 #[.int .i64 n, .bool has] w fun e w' => e = .returned (.bool (numB n has)) ∧ w = w' := by
  cases has
  · go_enter Tryd.func105, Tryd.ntmps105
    go_wp2
    all_goals (go_ret; refine ⟨ret_bool ?_, rfl⟩; simp [numB])
  · go_enter Tryd.func105, Tryd.ntmps105
    go_wp2
    all_goals (go_ret; refine ⟨ret_bool ?_, rfl⟩; unfold numB prioB; rw [Bool.eq_iff_iff]; simp; try omega)

def namB (s : ByteArray) (has : Bool) : Bool := if has then nameB s else s.toList.isEmpty
set_option maxHeartbeats 400000 in
theorem nameFits_any (s : ByteArray) (has : Bool) (hs : s.size ≤ maxLen) (E : Nat) (w : World) (he : Env E w) : Calls Tryd.prog 106 #[.string s, .bool has] w fun e w' => e = .returned (.bool (namB s has)) ∧ w = w' := by
  cases has
  · go_enter Tryd.func106, Tryd.ntmps106
    go_wp2
    all_goals (go_ret; refine ⟨ret_bool ?_, rfl⟩; first | rfl | simp [namB])
  · go_enter Tryd.func106, Tryd.ntmps106
    go_wp2_with (go_at_call 124; refine (name_any s hs E _ he).mono ?_; rintro e w2 ⟨rfl, rfl⟩)
    go_ret
    exact ⟨rfl, rfl⟩

end Go.Proofs.YtliijbcgkkiekaaDoor

/- Types: the program's differentNames. -/
namespace Go.Proofs.YtliijbcgkkiekaaDoor
open Go.RowKit

theorem run_makeMap_hint (n : Int) (w : World) : (Instr.makeMap 95 (some (.int .i64 n))).run Tryd.prog w = .ok (.map (some w.heap.size)) (w.alloc (.map #[] 0)) := by
  have ht := Tryd.underlying95
  simp [Instr.makeMap, run_underlying ht, asInt, asIntOf]

theorem boolInfo' : (Tryd.prog.info? 4).map (fun i => (i.zero, i.size, i.bytes)) = some (some (.bool false), 1, 1) := by kernel_rfl
theorem zero_bool (w : World) : (zeroValue 4).run Tryd.prog w = .ok (.bool false) w := by
  obtain ⟨i0, hi, hz0, hz1, hz2⟩ := info_parts boolInfo'
  simp [zeroValue, typeInfo, hi, hz0]
set_option maxRecDepth 100000 in
theorem plainElem_bool_inv {v : Value} {b : Bool} {ps : List MemPlace} (h : plainElem (H := Unit) Tryd.prog 4 v = some (.lit (.bool b), ps)) : v = .bool b := by
  unfold plainElem at h
  rw [Tryd.underlying4] at h
  cases v <;> simp at h
  rw [h.1]

/-- A map that tells which texts have been seen. -/
def Seen (w : World) (b j : Nat) (l : List ByteArray) : Prop := ∃ D : DataW Unit, w.ownsMap Tryd.prog 9 (plainElem Tryd.prog 4) b j D ∧ ∀ s : ByteArray, D.atKey (.string s.data.toList) (.lit (.bool false)) = .lit (.bool (memB s l))
theorem Seen.look {w : World} {b j : Nat} {l : List ByteArray} (h : Seen w b j l) {s : ByteArray} (hs : s.size ≤ maxLen) : (Instr.lookup 95 (.map (some b)) (.string s) false).run Tryd.prog w = .ok (.bool (memB s l)) w := by
  obtain ⟨D, ho, hat⟩ := h
  obtain ⟨v, ps, hr, hv⟩ := ho.lookup (Maps.string_keyed Tryd.underlying9) Tryd.underlying95 (zero_bool w) (plainElem_bool Tryd.underlying4 false) (Go.WideMaps.keyOf_string_mk Tryd.underlying9 hs)
  rw [hat] at hv
  rw [hr, plainElem_bool_inv hv]
theorem Seen.put {w : World} {b j : Nat} {l : List ByteArray} (h : Seen w b j l) (hj : j < maxLen) {s : ByteArray} (hs : s.size ≤ maxLen) :
    ∃ w', (Instr.mapUpdate 95 (.map (some b)) (.string s) (.bool true)).run Tryd.prog w = .ok () w' ∧ Seen w' b (j + 1) (l ++ [s]) ∧ w.grownBy w' (some b) := by
  obtain ⟨D, ho, hat⟩ := h
  obtain ⟨w', hr, ho', ht⟩ := ho.store (Maps.string_keyed Tryd.underlying9) Tryd.underlying95 hj (Go.WideMaps.keyOf_string_mk Tryd.underlying9 hs) (plainElem_bool Tryd.underlying4 true)
  refine ⟨w', hr, ⟨_, ho', fun x => ?_⟩, ht.grown⟩
  by_cases e : x = s
  · subst e
    rw [Maps.atKey_put_same ho.isMap (by first | trivial | simp [WideAt.IsKeyLit])]
    have : memB x (l ++ [x]) = true := memB_true.2 (by simp)
    rw [this]
  · rw [Maps.atKey_put_other (fun h => e (by
      have := Lit.string.inj h
      cases x; cases s; simp at this; congr 1)), hat]
    unfold memB
    have e' : decide (s = x) = false := by simpa using fun h => e h.symm
    simp [e']

set_option maxHeartbeats 2000000 in
theorem differentNames_any (B : Nat → Prop) (v : Value) (ls : List ByteArray) (E : Nat) (w : World) (hB : Low B w) (he : Env E w) (h : StrSl B w v ls) :
    Calls Tryd.prog 125 #[v] w fun e w' => e = .returned (.bool (labelsB ls)) ∧ Below w.heap.size w w' := by
  have hsz := h.2
  obtain ⟨pa, len, c, rfl, hlen, hm, hget⟩ := h.open
  have HG := Lib.hid hget
  have HS := Lib.hid hsz
  clear hget h hsz
  have hmk := run_makeMap_hint
  go_enter Tryd.func125, Tryd.ntmps125
  go_wp2_with fail
  go_loopw [11] (fun i wr => ∃ (j : Nat), i = .int .i64 (j : Int) ∧ j ≤ len ∧ Hid (labelsB (ls.take j) = true) ∧ Hid (Seen wr w.heap.size j (ls.take j)) ∧ Below w.heap.size w wr) (fun i _ => len - (intOf i).toNat)
  case atStart => exact ⟨0, rfl, by omega, Lib.hid (by simp [labelsB]), Lib.hid ⟨_, World.ownsMap_made w _ _ _, fun s => rfl⟩, (Below.refl _ _).alloc (Nat.le_refl _) _⟩
  case round =>
    obtain ⟨j, rfl, hj, HT, HSE, hw⟩ := hrel
    by_cases hlt : j < len
    · obtain ⟨x, hx⟩ : ∃ x, ls[j]? = some x := ⟨_, List.getElem?_eq_getElem (by rw [← hlen.out]; exact hlt)⟩
      obtain ⟨hxs, kb, ko, rfl, hkb, hc⟩ := HG.out j x hx
      replace hc := (hw.cell (p := ⟨kb, ko + j, none⟩) (hB kb hkb)).trans hc
      have hj' : j < maxLen := by unfold maxLen; omega
      have hlk := HSE.out.look hxs
      have HE := Lib.hid (he.below (hw.mono he.size))
      have HX := Lib.hid hx
      cases hmb : memB x (ls.take j) with
      | true =>
        have hf : Hid (labelsB ls = false) := Lib.hid (labelsB_prefix (j := j + 1) (by rw [take_snoc_get HX.out, labelsB_snoc, hmb]; simp))
        rw [hmb] at hlk
        clear hx hmb
        go_wp2_with fail
        go_ret
        exact ⟨ret_bool hf.out.symm, hw⟩
      | false =>
        rw [hmb] at hlk
        have HNM := Lib.hid (name_any x hxs E wr HE.out)
        cases hn : nameB x with
        | false =>
          have hf : Hid (labelsB ls = false) := Lib.hid (labelsB_prefix (j := j + 1) (by rw [take_snoc_get HX.out, labelsB_snoc, hn]; simp))
          rw [hn] at HNM
          clear hx hmb hn
          go_wp2_with (go_at_call 124; refine HNM.out.mono ?_; rintro e w2 ⟨rfl, rfl⟩)
          go_ret
          exact ⟨ret_bool hf.out.symm, hw⟩
        | true =>
          have hf : Hid (labelsB (ls.take (j + 1)) = true) := Lib.hid (by rw [take_snoc_get HX.out, labelsB_snoc, hn, hmb, HT.out]; rfl)
          rw [hn] at HNM
          obtain ⟨w1, hup, hse1, hgr⟩ := HSE.out.put hj' hxs
          have hse2 : Hid (Seen w1 w.heap.size (j + 1) (ls.take (j + 1))) := Lib.hid (by rw [take_snoc_get HX.out]; exact hse1)
          have hw1 : Hid (Below w.heap.size w w1) := Lib.hid (hw.grown hgr hw.size (fun k e => by cases e; exact Nat.le_refl _))
          clear hx hmb hn hse1 hgr
          go_wp2_with (go_at_call 124; refine HNM.out.mono ?_; rintro e w2 ⟨rfl, rfl⟩)
          go_roundw
          case rel => exact ⟨j + 1, by go_num, by omega, hf, hse2, hw1.out⟩
          case measure => (simp [intOf]) <;> omega
    · obtain rfl : j = len := by omega
      have hn : labelsB ls = true := by have := HT.out; rwa [List.take_of_length_le (by rw [hlen.out]; exact Nat.le_refl _)] at this
      have HN := Lib.hid hn
      clear hn
      go_wp2_with fail
      go_ret
      exact ⟨ret_bool HN.out.symm, hw⟩

end Go.Proofs.YtliijbcgkkiekaaDoor

/- Types: the program's listsFit and fits. -/
namespace Go.Proofs.YtliijbcgkkiekaaDoor
open Go.RowKit

def listsB (labels : Bool) (kids : Int) (ls : List ByteArray) (m : Nat) : Bool :=
  if labels then (!ls.isEmpty && (decide (m = ls.length) && labelsB ls)) else (ls.isEmpty && decide ((m : Int) = kids))

set_option maxHeartbeats 2000000 in
theorem listsFit_any (B : Nat → Prop) (t : Ty) (bt o : Nat) (a1 a2 a3 a4 : Bool) (kids pay : Int) (E : Nat) (w : World) (hB : Low B w) (he : Env E w) (ht : TyAt B w t bt o) :
    Calls Tryd.prog 107 #[.agg #[.bool a1, .bool a2, .bool a3, .bool a4, .int .i64 kids, .int .i64 pay], .pointer (some ⟨bt, o, none⟩)] w fun e w' => e = .returned (.bool (listsB a4 kids t.ls t.ts.length)) ∧ Below w.heap.size w w' := by
  obtain ⟨hb, hn, ⟨c0, c1, c2, c3⟩, lv, kv, c4, c5, hl, hkv⟩ := TyAt.eq.1 ht
  have hbt := hB bt hb
  have HDf := Lib.hid (fun W (hW : Below w.heap.size w W) => differentNames_any B lv t.ls E W (hB.le hW.size) (he.below (hW.mono he.size)) (hl.keep (hW.keeps'.mono hB)))
  obtain ⟨pa, len, c, rfl, hlen, hm, hget⟩ := hkv.open
  obtain ⟨la, ln, lc, rfl, hlln, hlm, hlget⟩ := hl.open
  have hls : t.ls.isEmpty = decide (ln = 0) := by rw [hlln.out]; cases t.ls <;> simp
  have hs : listsB a4 kids t.ls t.ts.length = if a4 then (!decide (ln = 0) && (decide (len = ln) && labelsB t.ls)) else (decide (ln = 0) && decide ((len : Int) = kids)) := by
    unfold listsB; rw [hls, hlen.out, hlln.out]
  rw [hs]
  clear hs hls hget hlget hl hkv hlen hlln ht hn
  cases a4
  · rw [if_neg (by decide)]
    have q4 : ∀ q : Later (w.heap.size + 1) (w.alloc (.cells #[.bool a1, .bool a2, .bool a3, .bool false, .int .i64 kids, .int .i64 pay] 107)), q.1.cell? ⟨bt, o + 4, none⟩ = some (.slice la ln lc) := fun q => ((blk_below q.2).cell (p := ⟨bt, _, none⟩) hbt).trans c4
    have q5 : ∀ q : Later (w.heap.size + 1) (w.alloc (.cells #[.bool a1, .bool a2, .bool a3, .bool false, .int .i64 kids, .int .i64 pay] 107)), q.1.cell? ⟨bt, o + 5, none⟩ = some (.slice pa len c) := fun q => ((blk_below q.2).cell (p := ⟨bt, _, none⟩) hbt).trans c5
    have q6 : ∀ q : Later (w.heap.size + 1) (w.alloc (.cells #[.bool a1, .bool a2, .bool a3, .bool false, .int .i64 kids, .int .i64 pay] 107)), q.1.cell? ⟨w.heap.size, 4, none⟩ = some (.int .i64 kids) := fun q => blk_cell q.2 4 rfl
    have HR : Hid (Below (w.heap.size + 1) (w.alloc (.cells #[.bool a1, .bool a2, .bool a3, .bool false, .int .i64 kids, .int .i64 pay] 107)) (w.alloc (.cells #[.bool a1, .bool a2, .bool a3, .bool false, .int .i64 kids, .int .i64 pay] 107))) := Lib.hid (Below.refl _ _)
    have hsz0 : w.heap.size + 1 ≤ (w.alloc (.cells #[.bool a1, .bool a2, .bool a3, .bool false, .int .i64 kids, .int .i64 pay] 107)).heap.size := by simp
    have HSZ := Lib.hid hsz0
    clear hsz0 c0 c1 c2 c3 c4 c5
    by_cases h0 : ln = 0
    · subst h0
      by_cases h1 : (len : Int) = kids
      · have h2 : ((len : Int) == kids) = true := by simpa using h1
        rw [show decide ((len : Int) = kids) = true by simpa using h1]
        clear h1
        go_enter Tryd.func107, Tryd.ntmps107
        go_wp2_with fail
        refine wp_region_later (w.heap.size + 1) (w.alloc (.cells #[.bool a1, .bool a2, .bool a3, .bool false, .int .i64 kids, .int .i64 pay] 107)) (by kernel_rfl) (by kernel_rfl) HR.out ?_
        repeat (go_big_quiet_step (first | (go_at_call 125; exact later_call _ HSZ.out (HDf.out _ (blk_below (Subtype.property _))))))
        refine wpQuiet_nil ?_
        rintro _ ⟨⟨w5, hb5⟩, rfl⟩
        clear q4 q5 q6
        go_wp2_with fail
        go_ret
        exact ⟨ret_bool (by first | rfl | (simp; done) | (simp; omega) | (rw [Bool.eq_iff_iff]; simp; omega)), blk_below hb5⟩
      · have h2 : ((len : Int) == kids) = false := by simpa using h1
        rw [show decide ((len : Int) = kids) = false by simpa using h1]
        clear h1
        go_enter Tryd.func107, Tryd.ntmps107
        go_wp2_with fail
        refine wp_region_later (w.heap.size + 1) (w.alloc (.cells #[.bool a1, .bool a2, .bool a3, .bool false, .int .i64 kids, .int .i64 pay] 107)) (by kernel_rfl) (by kernel_rfl) HR.out ?_
        repeat (go_big_quiet_step (first | (go_at_call 125; exact later_call _ HSZ.out (HDf.out _ (blk_below (Subtype.property _))))))
        refine wpQuiet_nil ?_
        rintro _ ⟨⟨w5, hb5⟩, rfl⟩
        clear q4 q5 q6
        go_wp2_with fail
        go_ret
        exact ⟨ret_bool (by first | rfl | (simp; done) | (simp; omega) | (rw [Bool.eq_iff_iff]; simp; omega)), blk_below hb5⟩
    · have h0' : ((ln : Int) == 0) = false := by simp; omega
      rw [show decide (ln = 0) = false by simpa using h0, Bool.false_and]
      clear h0
      go_enter Tryd.func107, Tryd.ntmps107
      go_wp2_with fail
      refine wp_region_later (w.heap.size + 1) (w.alloc (.cells #[.bool a1, .bool a2, .bool a3, .bool false, .int .i64 kids, .int .i64 pay] 107)) (by kernel_rfl) (by kernel_rfl) HR.out ?_
      repeat (go_big_quiet_step (first | (go_at_call 125; exact later_call _ HSZ.out (HDf.out _ (blk_below (Subtype.property _))))))
      refine wpQuiet_nil ?_
      rintro _ ⟨⟨w5, hb5⟩, rfl⟩
      clear q4 q5 q6
      go_wp2_with fail
      go_ret
      exact ⟨ret_bool (by first | rfl | (simp; done) | (simp; omega) | (rw [Bool.eq_iff_iff]; simp; omega)), blk_below hb5⟩
  · rw [if_pos rfl]
    have q4 : ∀ q : Later (w.heap.size + 1) (w.alloc (.cells #[.bool a1, .bool a2, .bool a3, .bool true, .int .i64 kids, .int .i64 pay] 107)), q.1.cell? ⟨bt, o + 4, none⟩ = some (.slice la ln lc) := fun q => ((blk_below q.2).cell (p := ⟨bt, _, none⟩) hbt).trans c4
    have q5 : ∀ q : Later (w.heap.size + 1) (w.alloc (.cells #[.bool a1, .bool a2, .bool a3, .bool true, .int .i64 kids, .int .i64 pay] 107)), q.1.cell? ⟨bt, o + 5, none⟩ = some (.slice pa len c) := fun q => ((blk_below q.2).cell (p := ⟨bt, _, none⟩) hbt).trans c5
    have q6 : ∀ q : Later (w.heap.size + 1) (w.alloc (.cells #[.bool a1, .bool a2, .bool a3, .bool true, .int .i64 kids, .int .i64 pay] 107)), q.1.cell? ⟨w.heap.size, 4, none⟩ = some (.int .i64 kids) := fun q => blk_cell q.2 4 rfl
    have HR : Hid (Below (w.heap.size + 1) (w.alloc (.cells #[.bool a1, .bool a2, .bool a3, .bool true, .int .i64 kids, .int .i64 pay] 107)) (w.alloc (.cells #[.bool a1, .bool a2, .bool a3, .bool true, .int .i64 kids, .int .i64 pay] 107))) := Lib.hid (Below.refl _ _)
    have hsz0 : w.heap.size + 1 ≤ (w.alloc (.cells #[.bool a1, .bool a2, .bool a3, .bool true, .int .i64 kids, .int .i64 pay] 107)).heap.size := by simp
    have HSZ := Lib.hid hsz0
    clear hsz0 c0 c1 c2 c3 c4 c5
    by_cases h0 : ln = 0
    · subst h0
      go_enter Tryd.func107, Tryd.ntmps107
      go_wp2_with fail
      refine wp_region_later (w.heap.size + 1) (w.alloc (.cells #[.bool a1, .bool a2, .bool a3, .bool true, .int .i64 kids, .int .i64 pay] 107)) (by kernel_rfl) (by kernel_rfl) HR.out ?_
      repeat (go_big_quiet_step (first | (go_at_call 125; exact later_call _ HSZ.out (HDf.out _ (blk_below (Subtype.property _))))))
      refine wpQuiet_nil ?_
      rintro _ ⟨⟨w5, hb5⟩, rfl⟩
      clear q4 q5 q6
      go_wp2_with fail
      go_ret
      exact ⟨ret_bool (by first | rfl | (simp; done) | (simp; omega) | (rw [Bool.eq_iff_iff]; simp; omega)), blk_below hb5⟩
    · have h0' : decide ((0 : Int) < (ln : Int)) = true := by simp; omega
      have h0p : 0 < ln := by omega
      have h0q : decide (0 < ln) = true := by simpa using h0p
      rw [show decide (ln = 0) = false by simpa using h0, Bool.not_false, Bool.true_and]
      clear h0
      by_cases h1 : len = ln
      · subst h1
        rw [show decide (len = len) = true by simp, Bool.true_and]
        go_enter Tryd.func107, Tryd.ntmps107
        go_wp2_with fail
        refine wp_region_later (w.heap.size + 1) (w.alloc (.cells #[.bool a1, .bool a2, .bool a3, .bool true, .int .i64 kids, .int .i64 pay] 107)) (by kernel_rfl) (by kernel_rfl) HR.out ?_
        repeat (go_big_quiet_step (first | (go_at_call 125; exact later_call _ HSZ.out (HDf.out _ (blk_below (Subtype.property _))))))
        refine wpQuiet_nil ?_
        rintro _ ⟨⟨w5, hb5⟩, rfl⟩
        clear q4 q5 q6
        go_wp2_with fail
        go_ret
        exact ⟨ret_bool (by first | rfl | (simp; done) | (simp; omega) | (rw [Bool.eq_iff_iff]; simp; omega)), blk_below hb5⟩
      · have h2 : ((len : Int) == (ln : Int)) = false := by simp; omega
        rw [show decide (len = ln) = false by simpa using h1, Bool.false_and]
        clear h1
        go_enter Tryd.func107, Tryd.ntmps107
        go_wp2_with fail
        refine wp_region_later (w.heap.size + 1) (w.alloc (.cells #[.bool a1, .bool a2, .bool a3, .bool true, .int .i64 kids, .int .i64 pay] 107)) (by kernel_rfl) (by kernel_rfl) HR.out ?_
        repeat (go_big_quiet_step (first | (go_at_call 125; exact later_call _ HSZ.out (HDf.out _ (blk_below (Subtype.property _))))))
        refine wpQuiet_nil ?_
        rintro _ ⟨⟨w5, hb5⟩, rfl⟩
        clear q4 q5 q6
        go_wp2_with fail
        go_ret
        exact ⟨ret_bool (by first | rfl | (simp; done) | (simp; omega) | (rw [Bool.eq_iff_iff]; simp; omega)), blk_below hb5⟩

end Go.Proofs.YtliijbcgkkiekaaDoor

/- Types: the program's fits. -/
namespace Go.Proofs.YtliijbcgkkiekaaDoor
open Go.RowKit

theorem number_is (n : Int) (has b : Bool) (h : numB n has = b) (w : World) : Calls Tryd.prog 105 #[.int .i64 n, .bool has] w fun e w' => e = .returned (.bool b) ∧ w = w' := by
  rw [← h]; exact numberFits_any n has w
theorem nameFit_is (s : ByteArray) (has b : Bool) (h : namB s has = b) (hs : s.size ≤ maxLen) (E : Nat) (w : World) (he : Env E w) : Calls Tryd.prog 106 #[.string s, .bool has] w fun e w' => e = .returned (.bool b) ∧ w = w' := by
  rw [← h]; exact nameFits_any s has hs E w he

def fitsB (a1 a2 a3 a4 : Bool) (kids : Int) (t : Ty) : Bool := numB t.p a1 && (numB t.s a3 && (namB t.n a2 && listsB a4 kids t.ls t.ts.length))

set_option maxHeartbeats 1500000 in
theorem fits_any (B : Nat → Prop) (t : Ty) (bt o : Nat) (a1 a2 a3 a4 : Bool) (kids pay : Int) (E : Nat) (w : World) (hB : Low B w) (he : Env E w) (ht : TyAt B w t bt o) :
    Calls Tryd.prog 83 #[.agg #[.bool a1, .bool a2, .bool a3, .bool a4, .int .i64 kids, .int .i64 pay], .pointer (some ⟨bt, o, none⟩)] w fun e w' => e = .returned (.bool (fitsB a1 a2 a3 a4 kids t)) ∧ Below w.heap.size w w' := by
  obtain ⟨hb, hn, ⟨c0, c1, c2, c3⟩, lv, kv, c4, c5, hl, hkv⟩ := TyAt.eq.1 ht
  have hbt := hB bt hb
  obtain ⟨b1, h1⟩ : ∃ b, numB t.p a1 = b := ⟨_, rfl⟩
  obtain ⟨b2, h2⟩ : ∃ b, numB t.s a3 = b := ⟨_, rfl⟩
  obtain ⟨b3, h3⟩ : ∃ b, namB t.n a2 = b := ⟨_, rfl⟩
  obtain ⟨b4, h4⟩ : ∃ b, listsB a4 kids t.ls t.ts.length = b := ⟨_, rfl⟩
  have HL : Hid (∀ W, Below w.heap.size w W → Calls Tryd.prog 107 #[.agg #[.bool a1, .bool a2, .bool a3, .bool a4, .int .i64 kids, .int .i64 pay], .pointer (some ⟨bt, o, none⟩)] W fun e w' => e = .returned (.bool b4) ∧ Below W.heap.size W w') := Lib.hid (fun W hW => by
    rw [← h4]; exact listsFit_any B t bt o a1 a2 a3 a4 kids pay E W (hB.le hW.size) (he.below (hW.mono he.size)) (TyAt.keep (hW.keeps'.mono hB) _ _ _ ht))
  have H1 := Lib.hid (number_is t.p a1 b1 h1)
  have H2 := Lib.hid (number_is t.s a3 b2 h2)
  have H3 := Lib.hid (fun (W : World) (hW : Below w.heap.size w W) => nameFit_is t.n a2 b3 h3 hn E W (he.below (hW.mono he.size)))
  have HF : Hid (fitsB a1 a2 a3 a4 kids t = (b1 && (b2 && (b3 && b4)))) := Lib.hid (by unfold fitsB; rw [h1, h2, h3, h4])
  rw [HF.out]
  have HW0 : Hid (Below (w.heap.size + 1) (w.alloc (.cells #[.bool a1, .bool a2, .bool a3, .bool a4, .int .i64 kids, .int .i64 pay] 107)) (w.alloc (.cells #[.bool a1, .bool a2, .bool a3, .bool a4, .int .i64 kids, .int .i64 pay] 107))) := Lib.hid (Below.refl _ _)
  clear h1 h2 h3 h4 HF hl hkv ht c0 c4 c5 hn
  go_enter Tryd.func83, Tryd.ntmps83
  go_wp2_with fail
  have p1 : ∀ q : Later (w.heap.size + 1) (w.alloc (.cells #[.bool a1, .bool a2, .bool a3, .bool a4, .int .i64 kids, .int .i64 pay] 107)), q.1.cell? ⟨bt, o + 1, none⟩ = some (.int .i64 t.p) := fun q => ((blk_below q.2).cell (p := ⟨bt, _, none⟩) hbt).trans c1
  have p2 : ∀ q : Later (w.heap.size + 1) (w.alloc (.cells #[.bool a1, .bool a2, .bool a3, .bool a4, .int .i64 kids, .int .i64 pay] 107)), q.1.cell? ⟨bt, o + 2, none⟩ = some (.string t.n) := fun q => ((blk_below q.2).cell (p := ⟨bt, _, none⟩) hbt).trans c2
  have p3 : ∀ q : Later (w.heap.size + 1) (w.alloc (.cells #[.bool a1, .bool a2, .bool a3, .bool a4, .int .i64 kids, .int .i64 pay] 107)), q.1.cell? ⟨bt, o + 3, none⟩ = some (.int .i64 t.s) := fun q => ((blk_below q.2).cell (p := ⟨bt, _, none⟩) hbt).trans c3
  have r0 : ∀ q : Later (w.heap.size + 1) (w.alloc (.cells #[.bool a1, .bool a2, .bool a3, .bool a4, .int .i64 kids, .int .i64 pay] 107)), q.1.cell? ⟨w.heap.size, 0, none⟩ = some (.bool a1) := fun q => blk_cell q.2 0 rfl
  have r1 : ∀ q : Later (w.heap.size + 1) (w.alloc (.cells #[.bool a1, .bool a2, .bool a3, .bool a4, .int .i64 kids, .int .i64 pay] 107)), q.1.cell? ⟨w.heap.size, 1, none⟩ = some (.bool a2) := fun q => blk_cell q.2 1 rfl
  have r2 : ∀ q : Later (w.heap.size + 1) (w.alloc (.cells #[.bool a1, .bool a2, .bool a3, .bool a4, .int .i64 kids, .int .i64 pay] 107)), q.1.cell? ⟨w.heap.size, 2, none⟩ = some (.bool a3) := fun q => blk_cell q.2 2 rfl
  have r3 : ∀ q : Later (w.heap.size + 1) (w.alloc (.cells #[.bool a1, .bool a2, .bool a3, .bool a4, .int .i64 kids, .int .i64 pay] 107)), q.1.cell? ⟨w.heap.size, 3, none⟩ = some (.bool a4) := fun q => blk_cell q.2 3 rfl
  have r4 : ∀ q : Later (w.heap.size + 1) (w.alloc (.cells #[.bool a1, .bool a2, .bool a3, .bool a4, .int .i64 kids, .int .i64 pay] 107)), q.1.cell? ⟨w.heap.size, 4, none⟩ = some (.int .i64 kids) := fun q => blk_cell q.2 4 rfl
  have r5 : ∀ q : Later (w.heap.size + 1) (w.alloc (.cells #[.bool a1, .bool a2, .bool a3, .bool a4, .int .i64 kids, .int .i64 pay] 107)), q.1.cell? ⟨w.heap.size, 5, none⟩ = some (.int .i64 pay) := fun q => blk_cell q.2 5 rfl
  have HSZ : Hid (w.heap.size + 1 ≤ (w.alloc (.cells #[.bool a1, .bool a2, .bool a3, .bool a4, .int .i64 kids, .int .i64 pay] 107)).heap.size) := Lib.hid (by simp)
  clear c1 c2 c3
  cases b1 <;> cases b2 <;> cases b3 <;> cases b4
  all_goals
    refine wp_region_later (w.heap.size + 1) (w.alloc (.cells #[.bool a1, .bool a2, .bool a3, .bool a4, .int .i64 kids, .int .i64 pay] 107)) (by kernel_rfl) (by kernel_rfl) HW0.out ?_
    repeat (go_big_quiet_step (first | (go_at_call 105; first | with_reducible exact later_call_same _ (H1.out _) | with_reducible exact later_call_same _ (H2.out _)) | (go_at_call 106; exact later_call_same _ (H3.out _ (blk_below (Subtype.property _)))) | (go_at_call 107; exact later_call _ HSZ.out (HL.out _ (blk_below (Subtype.property _))))))
    refine wpQuiet_nil ?_
    rintro _ ⟨⟨w5, hb5⟩, rfl⟩
    go_wp2_with fail
    go_ret
    exact ⟨rfl, blk_below hb5⟩

end Go.Proofs.YtliijbcgkkiekaaDoor

/- A map of one's own, told by what its look-ups give; the program's rules. -/
namespace Go.Proofs.YtliijbcgkkiekaaDoor
open Go.RowKit

/-- An entry reads as it is. -/
def asIs (v : Value) : Option (DataW Value × List MemPlace) := some (.held v, [])
/-- Block b is a map, of at most n entries, in which the key l has the value f l. -/
def MapIs (w : World) (k : TypeId) (b n : Nat) (f : Lit → Option Value) : Prop :=
  ∃ D : DataW Value, w.ownsMap Tryd.prog k asIs b n D ∧ ∀ l, Maps.has D l = (f l).isSome ∧ ∀ v, f l = some v → ∀ z, D.atKey l z = .held v
theorem MapIs.made (w : World) (k : TypeId) : MapIs (w.alloc (.map #[] 0)) k w.heap.size 0 (fun _ => none) :=
  ⟨.map [], World.ownsMap_made w _ _ _, fun _ => ⟨rfl, fun _ h => by cases h⟩⟩
theorem MapIs.congr {w : World} {k : TypeId} {b n : Nat} {f g : Lit → Option Value} (h : MapIs w k b n f) (e : ∀ l, f l = g l) : MapIs w k b n g := by
  obtain ⟨D, ho, hf⟩ := h
  exact ⟨D, ho, fun l => by rw [← e l]; exact hf l⟩
theorem MapIs.lt {w : World} {k : TypeId} {b n : Nat} {f : Lit → Option Value} (h : MapIs w k b n f) : b < w.heap.size := by
  obtain ⟨D, ho, _⟩ := h; exact ho.lt
theorem MapIs.kept {w w' : World} {k : TypeId} {b n : Nat} {f : Lit → Option Value} (h : MapIs w k b n f) {row : Option Nat} (hg : w.grownBy w' row) (hne : some b ≠ row) : MapIs w' k b n f := by
  obtain ⟨D, ho, hf⟩ := h; exact ⟨D, ho.kept hg hne, hf⟩
theorem MapIs.below {w w' : World} {k : TypeId} {b n m : Nat} {f : Lit → Option Value} (h : MapIs w k b n f) (hb : Below m w w') (hm : b < m) : MapIs w' k b n f := by
  obtain ⟨D, ⟨es, clock, h1, r⟩, hf⟩ := h
  exact ⟨D, ⟨es, clock, (hb.block b hm).trans h1, r⟩, hf⟩
open Classical in
theorem MapIs.put {w : World} {k : TypeId} {b n : Nat} {f : Lit → Option Value} (h : MapIs w k b n f) (K : Maps.Keyed Tryd.prog k) {t e : TypeId} (ht : Tryd.prog.underlying t = some (.map k e)) (hn : n < maxLen) {key val : Value} {kl : Lit} (hkey : keyOf Tryd.prog k key = some kl) (hkl : WideAt.IsKeyLit kl) :
    ∃ w', (Instr.mapUpdate t (.map (some b)) key val).run Tryd.prog w = .ok () w' ∧ MapIs w' k b (n + 1) (fun l => if l = kl then some val else f l) ∧ w.grownBy w' (some b) := by
  obtain ⟨D, ho, hf⟩ := h
  obtain ⟨w', hr, ho', htn⟩ := ho.store K ht hn hkey (d := .held val) (ps := []) rfl
  refine ⟨w', hr, ⟨_, ho', fun l => ?_⟩, htn.grown⟩
  by_cases e : l = kl
  · subst e
    simp only [if_true]
    exact ⟨by rw [Maps.has_put_same ho.isMap hkl]; rfl, fun v hv z => by rw [Maps.atKey_put_same ho.isMap hkl]; cases hv; rfl⟩
  · simp only [if_neg e]
    rw [Maps.has_put_other e]
    exact ⟨(hf l).1, fun v hv z => by rw [Maps.atKey_put_other e]; exact (hf l).2 v hv z⟩
set_option maxRecDepth 100000 in
theorem MapIs.look {w : World} {k : TypeId} {b n : Nat} {f : Lit → Option Value} (h : MapIs w k b n f) (K : Maps.Keyed Tryd.prog k) {t e : TypeId} (ht : Tryd.prog.underlying t = some (.map k e)) {z : Value} (hz : (zeroValue e).run Tryd.prog w = .ok z w) {key : Value} {kl : Lit} (hkey : keyOf Tryd.prog k key = some kl) :
    (Instr.lookup t (.map (some b)) key false).run Tryd.prog w = .ok ((f kl).getD z) w := by
  obtain ⟨D, ho, hf⟩ := h
  obtain ⟨v, ps, hr, hv⟩ := ho.lookup K ht hz (zd := .held z) (zp := []) rfl hkey
  rw [hr]
  obtain ⟨h1, h2⟩ := hf kl
  have hv' : DataW.held v = D.atKey kl (.held z) := by
    simp only [asIs, Option.some.injEq, Prod.mk.injEq] at hv; exact hv.1
  refine congrArg (fun x => Result.ok x w) ?_
  cases hfk : f kl with
  | none =>
    rw [hfk] at h1
    rw [Maps.atKey_of_not_has h1] at hv'
    exact DataW.held.inj hv'
  | some u =>
    rw [h2 u hfk] at hv'
    exact DataW.held.inj hv'
set_option maxRecDepth 100000 in
theorem MapIs.look_ok {w : World} {k : TypeId} {b n : Nat} {f : Lit → Option Value} (h : MapIs w k b n f) (K : Maps.Keyed Tryd.prog k) {t e : TypeId} (ht : Tryd.prog.underlying t = some (.map k e)) {z : Value} (hz : (zeroValue e).run Tryd.prog w = .ok z w) {key : Value} {kl : Lit} (hkey : keyOf Tryd.prog k key = some kl) :
    (Instr.lookup t (.map (some b)) key true).run Tryd.prog w = .ok (.tuple #[(f kl).getD z, .bool (f kl).isSome]) w := by
  obtain ⟨D, ho, hf⟩ := h
  obtain ⟨v, ps, hr, hv⟩ := ho.look_ok K ht hz (zd := .held z) (zp := []) rfl hkey
  obtain ⟨h1, h2⟩ := hf kl
  rw [hr, h1]
  have hv' : DataW.held v = D.atKey kl (.held z) := by
    simp only [asIs, Option.some.injEq, Prod.mk.injEq] at hv; exact hv.1
  have : v = (f kl).getD z := by
    cases hfk : f kl with
    | none =>
      rw [hfk] at h1
      rw [Maps.atKey_of_not_has h1] at hv'
      exact DataW.held.inj hv'
    | some u =>
      rw [h2 u hfk] at hv'
      exact DataW.held.inj hv'
  rw [this]

/-! ### The rules -/
def knK (k : Int) : Bool := decide (1 ≤ k) && decide (k ≤ 9)
def r2K (k : Int) : Bool := k == 8 || k == 9
def r3K (k : Int) : Bool := k == 9
def r4K (k : Int) : Bool := k == 6 || k == 7
def kidsK (k : Int) : Int := if k = 4 ∨ k = 5 then 2 else if k = 8 then 1 else 0
abbrev ruleVal (k : Int) : Value := .agg #[.bool (actB k), .bool (r2K k), .bool (r3K k), .bool (r4K k), .int .i64 (kidsK k), .int .i64 (paysK k)]
def ruleF : Lit → Option Value
  | .int .i64 k => if knK k then some (ruleVal k) else none
  | _ => none
def RulesAt (w : World) (b : Nat) : Prop := MapIs w 3 b 9 ruleF
abbrev rule0 : Value := .agg #[.bool false, .bool false, .bool false, .bool false, .int .i64 0, .int .i64 0]
theorem ruleInfo : (Tryd.prog.info? 107).map (fun i => (i.zero, i.size, i.bytes)) = some (some rule0, 6, 24) := by kernel_rfl
theorem zero_rule (w : World) : (zeroValue 107).run Tryd.prog w = .ok rule0 w := by
  obtain ⟨i0, hi, hz0, hz1, hz2⟩ := info_parts ruleInfo
  simp [zeroValue, typeInfo, hi, hz0]
theorem intKeyed : Maps.Keyed Tryd.prog 3 := Maps.int_keyed Tryd.underlying3
theorem wf64 {a : Int} (h1 : -9223372036854775808 ≤ a) (h2 : a ≤ 9223372036854775807) : (Lit.int .i64 a).wf = true := by
  unfold Lit.wf
  rw [Bool.and_eq_true, decide_eq_true_eq, decide_eq_true_eq]
  exact ⟨h1, h2⟩
theorem key_int {a : Int} (h1 : -9223372036854775808 ≤ a) (h2 : a ≤ 9223372036854775807) : keyOf Tryd.prog 3 (.int .i64 a) = some (.int .i64 a) := Maps.keyOf_int_mk Tryd.underlying3 (wf64 h1 h2)
theorem rule_unknown {k : Int} (h : knK k = false) : ruleVal k = rule0 := by
  have h1 : ¬ (1 ≤ k ∧ k ≤ 9) := by simpa [knK] using h
  have a1 : actB k = false := by rw [Bool.eq_false_iff]; intro e; rw [actB_iff] at e; omega
  have a2 : r2K k = false := by simp [r2K]; omega
  have a3 : r3K k = false := by simp [r3K]; omega
  have a4 : r4K k = false := by simp [r4K]; omega
  have a5 : kidsK k = 0 := by unfold kidsK; rw [if_neg (by omega), if_neg (by omega)]
  have a6 : paysK k = 0 := by unfold paysK; rw [if_neg (by omega)]
  unfold ruleVal rule0
  rw [a1, a2, a3, a4, a5, a6]
theorem RulesAt.look {w : World} {b : Nat} (h : RulesAt w b) {k : Int} (h1 : -9223372036854775808 ≤ k) (h2 : k ≤ 9223372036854775807) : (Instr.lookup 61 (.map (some b)) (.int .i64 k) false).run Tryd.prog w = .ok (ruleVal k) w := by
  rw [MapIs.look h intKeyed Tryd.underlying61 (zero_rule w) (key_int h1 h2)]
  simp only [ruleF]
  cases hk : knK k with
  | true => rfl
  | false => rw [rule_unknown hk]; rfl
theorem RulesAt.look_ok {w : World} {b : Nat} (h : RulesAt w b) {k : Int} (h1 : -9223372036854775808 ≤ k) (h2 : k ≤ 9223372036854775807) : (Instr.lookup 61 (.map (some b)) (.int .i64 k) true).run Tryd.prog w = .ok (.tuple #[ruleVal k, .bool (knK k)]) w := by
  rw [MapIs.look_ok h intKeyed Tryd.underlying61 (zero_rule w) (key_int h1 h2)]
  simp only [ruleF]
  cases hk : knK k with
  | true => rfl
  | false => rw [rule_unknown hk]; rfl

/-- What the rule of a kind says of a node is its shape. -/
theorem fits_shape (t : Ty) (h : knK t.k = true) : fitsB (actB t.k) (r2K t.k) (r3K t.k) (r4K t.k) (kidsK t.k) t = t.shape := by
  have hk : 1 ≤ t.k ∧ t.k ≤ 9 := by simpa [knK] using h
  have hcase : t.k = 1 ∨ t.k = 2 ∨ t.k = 3 ∨ t.k = 4 ∨ t.k = 5 ∨ t.k = 6 ∨ t.k = 7 ∨ t.k = 8 ∨ t.k = 9 := by omega
  unfold fitsB Ty.shape shapeC numB namB listsB
  rcases hcase with e | e | e | e | e | e | e | e | e <;> rw [e] <;> simp [actB, r2K, r3K, r4K, kidsK] <;> (try rw [Bool.eq_iff_iff]) <;> (try simp) <;> (try omega) <;> (try grind)
theorem shape_unknown (t : Ty) (h : knK t.k = false) : t.shape = false := by
  have h1 : ¬ (1 ≤ t.k ∧ t.k ≤ 9) := by simpa [knK] using h
  unfold Ty.shape shapeC
  rw [if_neg (by omega), if_neg (by omega), if_neg (by omega), if_neg (by omega), if_neg (by omega)]

end Go.Proofs.YtliijbcgkkiekaaDoor

/- Types: the program's table of rules, made. -/
namespace Go.Proofs.YtliijbcgkkiekaaDoor
open Go.RowKit

theorem run_makeMap_rules (w : World) : (Instr.makeMap 61 none).run Tryd.prog w = .ok (.map (some w.heap.size)) (w.alloc (.map #[] 0)) := by
  simp [Instr.makeMap]

open Classical in
set_option maxHeartbeats 2000000 in
theorem rules_any (w : World) :
    Calls Tryd.prog 49 #[] w fun e w' => ∃ b, e = .returned (.map (some b)) ∧ RulesAt w' b ∧ Below w.heap.size w w' ∧ w.heap.size ≤ b := by
  have hmk := run_makeMap_rules w
  have m0 := MapIs.made w 3
  obtain ⟨w1, u1, m1, g1⟩ := m0.put intKeyed Tryd.underlying61 (by unfold maxLen; omega) (key_int (a := 1) (by omega) (by omega)) trivial (val := .agg #[.bool false, .bool false, .bool false, .bool false, .int .i64 0, .int .i64 0])
  obtain ⟨w2, u2, m2, g2⟩ := m1.put intKeyed Tryd.underlying61 (by unfold maxLen; omega) (key_int (a := 2) (by omega) (by omega)) trivial (val := .agg #[.bool false, .bool false, .bool false, .bool false, .int .i64 0, .int .i64 0])
  obtain ⟨w3, u3, m3, g3⟩ := m2.put intKeyed Tryd.underlying61 (by unfold maxLen; omega) (key_int (a := 3) (by omega) (by omega)) trivial (val := .agg #[.bool false, .bool false, .bool false, .bool false, .int .i64 0, .int .i64 0])
  obtain ⟨w4, u4, m4, g4⟩ := m3.put intKeyed Tryd.underlying61 (by unfold maxLen; omega) (key_int (a := 4) (by omega) (by omega)) trivial (val := .agg #[.bool true, .bool false, .bool false, .bool false, .int .i64 2, .int .i64 1])
  obtain ⟨w5, u5, m5, g5⟩ := m4.put intKeyed Tryd.underlying61 (by unfold maxLen; omega) (key_int (a := 5) (by omega) (by omega)) trivial (val := .agg #[.bool true, .bool false, .bool false, .bool false, .int .i64 2, .int .i64 1])
  obtain ⟨w6, u6, m6, g6⟩ := m5.put intKeyed Tryd.underlying61 (by unfold maxLen; omega) (key_int (a := 6) (by omega) (by omega)) trivial (val := .agg #[.bool true, .bool false, .bool false, .bool true, .int .i64 0, .int .i64 0])
  obtain ⟨w7, u7, m7, g7⟩ := m6.put intKeyed Tryd.underlying61 (by unfold maxLen; omega) (key_int (a := 7) (by omega) (by omega)) trivial (val := .agg #[.bool true, .bool false, .bool false, .bool true, .int .i64 0, .int .i64 0])
  obtain ⟨w8, u8, m8, g8⟩ := m7.put intKeyed Tryd.underlying61 (by unfold maxLen; omega) (key_int (a := 8) (by omega) (by omega)) trivial (val := .agg #[.bool false, .bool true, .bool false, .bool false, .int .i64 1, .int .i64 0])
  obtain ⟨w9, u9, m9, g9⟩ := m8.put intKeyed Tryd.underlying61 (by unfold maxLen; omega) (key_int (a := 9) (by omega) (by omega)) trivial (val := .agg #[.bool false, .bool true, .bool true, .bool false, .int .i64 0, .int .i64 0])
  have hb0 : Below w.heap.size w (w.alloc (.map #[] 0)) := (Below.refl _ _).alloc (Nat.le_refl _) _
  have hb1 := hb0.grown g1 hb0.size (fun k e => by cases e; exact Nat.le_refl _)
  have hb2 := hb1.grown g2 hb1.size (fun k e => by cases e; exact Nat.le_refl _)
  have hb3 := hb2.grown g3 hb2.size (fun k e => by cases e; exact Nat.le_refl _)
  have hb4 := hb3.grown g4 hb3.size (fun k e => by cases e; exact Nat.le_refl _)
  have hb5 := hb4.grown g5 hb4.size (fun k e => by cases e; exact Nat.le_refl _)
  have hb6 := hb5.grown g6 hb5.size (fun k e => by cases e; exact Nat.le_refl _)
  have hb7 := hb6.grown g7 hb6.size (fun k e => by cases e; exact Nat.le_refl _)
  have hb8 := hb7.grown g8 hb7.size (fun k e => by cases e; exact Nat.le_refl _)
  have hb9 := hb8.grown g9 hb8.size (fun k e => by cases e; exact Nat.le_refl _)
  have hr : RulesAt w9 w.heap.size := by
    refine m9.congr (fun l => ?_)
    by_cases hl : ∃ k, l = .int .i64 k
    · obtain ⟨k, rfl⟩ := hl
      simp only [Lit.int.injEq, true_and, ruleF]
      by_cases hk : knK k
      · rw [if_pos hk]
        have hk' : 1 ≤ k ∧ k ≤ 9 := by simpa [knK] using hk
        have hcase : k = 1 ∨ k = 2 ∨ k = 3 ∨ k = 4 ∨ k = 5 ∨ k = 6 ∨ k = 7 ∨ k = 8 ∨ k = 9 := by omega
        rcases hcase with rfl | rfl | rfl | rfl | rfl | rfl | rfl | rfl | rfl <;> simp [ruleVal, actB, r2K, r3K, r4K, kidsK, paysK]
      · rw [if_neg hk]
        have hk' : ¬ (1 ≤ k ∧ k ≤ 9) := by simpa [knK] using hk
        rw [if_neg (by omega), if_neg (by omega), if_neg (by omega), if_neg (by omega), if_neg (by omega), if_neg (by omega), if_neg (by omega), if_neg (by omega), if_neg (by omega)]
    · have hne : ∀ k, l ≠ .int .i64 k := fun k e => hl ⟨k, e⟩
      have hn : ruleF l = none := by
        unfold ruleF
        split
        · rename_i k; exact absurd rfl (hne k)
        · rfl
      rw [hn]
      simp only [hne, if_false]
  have HR := Lib.hid hr
  have HB := Lib.hid hb9
  clear m0 m1 m2 m3 m4 m5 m6 m7 m8 m9 g1 g2 g3 g4 g5 g6 g7 g8 g9 hb0 hb1 hb2 hb3 hb4 hb5 hb6 hb7 hb8 hb9 hr
  go_enter Tryd.func49, Tryd.ntmps49
  go_wp2_with fail
  go_ret
  exact ⟨_, rfl, HR.out, HB.out, Nat.le_refl _⟩

end Go.Proofs.YtliijbcgkkiekaaDoor
