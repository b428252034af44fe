/- Types: the program's listsFit and fits. (and what follows from it) -/
import Derived.Test.YtgmdmbmkljbgiaaGreatDoorPz1

/- Types: the program's listsFit and fits. -/
namespace Go.Proofs.YtgmdmbmkljbgiaaGreatDoor
open Go.RowKit

def listsB (labels : Bool) (kids : Int) (ls : List ByteArray) (m : Nat) : Bool :=
  if labels then (!ls.isEmpty && (decide (m = ls.length) && labelsB ls)) else (ls.isEmpty && decide ((m : Int) = kids))

set_option maxHeartbeats 2000000 in
theorem listsFit_any (B : Nat → Prop) (t : Ty) (bt o : Nat) (a1 a2 a3 a4 : Bool) (kids pay : Int) (E : Nat) (w : World) (hB : Low B w) (he : Env E w) (ht : TyAt B w t bt o) :
    Calls Tryz.prog 121 #[.agg #[.bool a1, .bool a2, .bool a3, .bool a4, .int .i64 kids, .int .i64 pay], .pointer (some ⟨bt, o, none⟩)] w fun e w' => e = .returned (.bool (listsB a4 kids t.ls t.ts.length)) ∧ Below w.heap.size w w' := by
  obtain ⟨hb, hn, ⟨c0, c1, c2, c3⟩, lv, kv, c4, c5, hl, hkv⟩ := TyAt.eq.1 ht
  have hbt := hB bt hb
  have HDf := Lib.hid (fun W (hW : Below w.heap.size w W) => differentNames_any B lv t.ls E W (hB.le hW.size) (he.below (hW.mono he.size)) (hl.keep (hW.keeps'.mono hB)))
  obtain ⟨pa, len, c, rfl, hlen, hm, hget⟩ := hkv.open
  obtain ⟨la, ln, lc, rfl, hlln, hlm, hlget⟩ := hl.open
  have hls : t.ls.isEmpty = decide (ln = 0) := by rw [hlln.out]; cases t.ls <;> simp
  have hs : listsB a4 kids t.ls t.ts.length = if a4 then (!decide (ln = 0) && (decide (len = ln) && labelsB t.ls)) else (decide (ln = 0) && decide ((len : Int) = kids)) := by
    unfold listsB; rw [hls, hlen.out, hlln.out]
  rw [hs]
  clear hs hls hget hlget hl hkv hlen hlln ht hn
  cases a4
  · rw [if_neg (by decide)]
    have q4 : ∀ q : Later (w.heap.size + 1) (w.alloc (.cells #[.bool a1, .bool a2, .bool a3, .bool false, .int .i64 kids, .int .i64 pay] 135)), q.1.cell? ⟨bt, o + 4, none⟩ = some (.slice la ln lc) := fun q => ((blk_below q.2).cell (p := ⟨bt, _, none⟩) hbt).trans c4
    have q5 : ∀ q : Later (w.heap.size + 1) (w.alloc (.cells #[.bool a1, .bool a2, .bool a3, .bool false, .int .i64 kids, .int .i64 pay] 135)), q.1.cell? ⟨bt, o + 5, none⟩ = some (.slice pa len c) := fun q => ((blk_below q.2).cell (p := ⟨bt, _, none⟩) hbt).trans c5
    have q6 : ∀ q : Later (w.heap.size + 1) (w.alloc (.cells #[.bool a1, .bool a2, .bool a3, .bool false, .int .i64 kids, .int .i64 pay] 135)), q.1.cell? ⟨w.heap.size, 4, none⟩ = some (.int .i64 kids) := fun q => blk_cell q.2 4 rfl
    have HR : Hid (Below (w.heap.size + 1) (w.alloc (.cells #[.bool a1, .bool a2, .bool a3, .bool false, .int .i64 kids, .int .i64 pay] 135)) (w.alloc (.cells #[.bool a1, .bool a2, .bool a3, .bool false, .int .i64 kids, .int .i64 pay] 135))) := Lib.hid (Below.refl _ _)
    have hsz0 : w.heap.size + 1 ≤ (w.alloc (.cells #[.bool a1, .bool a2, .bool a3, .bool false, .int .i64 kids, .int .i64 pay] 135)).heap.size := by simp
    have HSZ := Lib.hid hsz0
    clear hsz0 c0 c1 c2 c3 c4 c5
    by_cases h0 : ln = 0
    · subst h0
      by_cases h1 : (len : Int) = kids
      · have h2 : ((len : Int) == kids) = true := by simpa using h1
        rw [show decide ((len : Int) = kids) = true by simpa using h1]
        clear h1
        go_enter Tryz.func121, Tryz.ntmps121
        go_wp2_with fail
        refine wp_region_later (w.heap.size + 1) (w.alloc (.cells #[.bool a1, .bool a2, .bool a3, .bool false, .int .i64 kids, .int .i64 pay] 135)) (by kernel_rfl) (by kernel_rfl) HR.out ?_
        repeat (go_big_quiet_step (first | (go_at_call 125; exact later_call _ HSZ.out (HDf.out _ (blk_below (Subtype.property _))))))
        refine wpQuiet_nil ?_
        rintro _ ⟨⟨w5, hb5⟩, rfl⟩
        clear q4 q5 q6
        go_wp2_with fail
        go_ret
        exact ⟨ret_bool (by first | rfl | (simp; done) | (simp; omega) | (rw [Bool.eq_iff_iff]; simp; omega)), blk_below hb5⟩
      · have h2 : ((len : Int) == kids) = false := by simpa using h1
        rw [show decide ((len : Int) = kids) = false by simpa using h1]
        clear h1
        go_enter Tryz.func121, Tryz.ntmps121
        go_wp2_with fail
        refine wp_region_later (w.heap.size + 1) (w.alloc (.cells #[.bool a1, .bool a2, .bool a3, .bool false, .int .i64 kids, .int .i64 pay] 135)) (by kernel_rfl) (by kernel_rfl) HR.out ?_
        repeat (go_big_quiet_step (first | (go_at_call 125; exact later_call _ HSZ.out (HDf.out _ (blk_below (Subtype.property _))))))
        refine wpQuiet_nil ?_
        rintro _ ⟨⟨w5, hb5⟩, rfl⟩
        clear q4 q5 q6
        go_wp2_with fail
        go_ret
        exact ⟨ret_bool (by first | rfl | (simp; done) | (simp; omega) | (rw [Bool.eq_iff_iff]; simp; omega)), blk_below hb5⟩
    · have h0' : ((ln : Int) == 0) = false := by simp; omega
      rw [show decide (ln = 0) = false by simpa using h0, Bool.false_and]
      clear h0
      go_enter Tryz.func121, Tryz.ntmps121
      go_wp2_with fail
      refine wp_region_later (w.heap.size + 1) (w.alloc (.cells #[.bool a1, .bool a2, .bool a3, .bool false, .int .i64 kids, .int .i64 pay] 135)) (by kernel_rfl) (by kernel_rfl) HR.out ?_
      repeat (go_big_quiet_step (first | (go_at_call 125; exact later_call _ HSZ.out (HDf.out _ (blk_below (Subtype.property _))))))
      refine wpQuiet_nil ?_
      rintro _ ⟨⟨w5, hb5⟩, rfl⟩
      clear q4 q5 q6
      go_wp2_with fail
      go_ret
      exact ⟨ret_bool (by first | rfl | (simp; done) | (simp; omega) | (rw [Bool.eq_iff_iff]; simp; omega)), blk_below hb5⟩
  · rw [if_pos rfl]
    have q4 : ∀ q : Later (w.heap.size + 1) (w.alloc (.cells #[.bool a1, .bool a2, .bool a3, .bool true, .int .i64 kids, .int .i64 pay] 135)), q.1.cell? ⟨bt, o + 4, none⟩ = some (.slice la ln lc) := fun q => ((blk_below q.2).cell (p := ⟨bt, _, none⟩) hbt).trans c4
    have q5 : ∀ q : Later (w.heap.size + 1) (w.alloc (.cells #[.bool a1, .bool a2, .bool a3, .bool true, .int .i64 kids, .int .i64 pay] 135)), q.1.cell? ⟨bt, o + 5, none⟩ = some (.slice pa len c) := fun q => ((blk_below q.2).cell (p := ⟨bt, _, none⟩) hbt).trans c5
    have q6 : ∀ q : Later (w.heap.size + 1) (w.alloc (.cells #[.bool a1, .bool a2, .bool a3, .bool true, .int .i64 kids, .int .i64 pay] 135)), q.1.cell? ⟨w.heap.size, 4, none⟩ = some (.int .i64 kids) := fun q => blk_cell q.2 4 rfl
    have HR : Hid (Below (w.heap.size + 1) (w.alloc (.cells #[.bool a1, .bool a2, .bool a3, .bool true, .int .i64 kids, .int .i64 pay] 135)) (w.alloc (.cells #[.bool a1, .bool a2, .bool a3, .bool true, .int .i64 kids, .int .i64 pay] 135))) := Lib.hid (Below.refl _ _)
    have hsz0 : w.heap.size + 1 ≤ (w.alloc (.cells #[.bool a1, .bool a2, .bool a3, .bool true, .int .i64 kids, .int .i64 pay] 135)).heap.size := by simp
    have HSZ := Lib.hid hsz0
    clear hsz0 c0 c1 c2 c3 c4 c5
    by_cases h0 : ln = 0
    · subst h0
      go_enter Tryz.func121, Tryz.ntmps121
      go_wp2_with fail
      refine wp_region_later (w.heap.size + 1) (w.alloc (.cells #[.bool a1, .bool a2, .bool a3, .bool true, .int .i64 kids, .int .i64 pay] 135)) (by kernel_rfl) (by kernel_rfl) HR.out ?_
      repeat (go_big_quiet_step (first | (go_at_call 125; exact later_call _ HSZ.out (HDf.out _ (blk_below (Subtype.property _))))))
      refine wpQuiet_nil ?_
      rintro _ ⟨⟨w5, hb5⟩, rfl⟩
      clear q4 q5 q6
      go_wp2_with fail
      go_ret
      exact ⟨ret_bool (by first | rfl | (simp; done) | (simp; omega) | (rw [Bool.eq_iff_iff]; simp; omega)), blk_below hb5⟩
    · have h0' : decide ((0 : Int) < (ln : Int)) = true := by simp; omega
      have h0p : 0 < ln := by omega
      have h0q : decide (0 < ln) = true := by simpa using h0p
      rw [show decide (ln = 0) = false by simpa using h0, Bool.not_false, Bool.true_and]
      clear h0
      by_cases h1 : len = ln
      · subst h1
        rw [show decide (len = len) = true by simp, Bool.true_and]
        go_enter Tryz.func121, Tryz.ntmps121
        go_wp2_with fail
        refine wp_region_later (w.heap.size + 1) (w.alloc (.cells #[.bool a1, .bool a2, .bool a3, .bool true, .int .i64 kids, .int .i64 pay] 135)) (by kernel_rfl) (by kernel_rfl) HR.out ?_
        repeat (go_big_quiet_step (first | (go_at_call 125; exact later_call _ HSZ.out (HDf.out _ (blk_below (Subtype.property _))))))
        refine wpQuiet_nil ?_
        rintro _ ⟨⟨w5, hb5⟩, rfl⟩
        clear q4 q5 q6
        go_wp2_with fail
        go_ret
        exact ⟨ret_bool (by first | rfl | (simp; done) | (simp; omega) | (rw [Bool.eq_iff_iff]; simp; omega)), blk_below hb5⟩
      · have h2 : ((len : Int) == (ln : Int)) = false := by simp; omega
        rw [show decide (len = ln) = false by simpa using h1, Bool.false_and]
        clear h1
        go_enter Tryz.func121, Tryz.ntmps121
        go_wp2_with fail
        refine wp_region_later (w.heap.size + 1) (w.alloc (.cells #[.bool a1, .bool a2, .bool a3, .bool true, .int .i64 kids, .int .i64 pay] 135)) (by kernel_rfl) (by kernel_rfl) HR.out ?_
        repeat (go_big_quiet_step (first | (go_at_call 125; exact later_call _ HSZ.out (HDf.out _ (blk_below (Subtype.property _))))))
        refine wpQuiet_nil ?_
        rintro _ ⟨⟨w5, hb5⟩, rfl⟩
        clear q4 q5 q6
        go_wp2_with fail
        go_ret
        exact ⟨ret_bool (by first | rfl | (simp; done) | (simp; omega) | (rw [Bool.eq_iff_iff]; simp; omega)), blk_below hb5⟩

end Go.Proofs.YtgmdmbmkljbgiaaGreatDoor

/- Types: the program's fits. -/
namespace Go.Proofs.YtgmdmbmkljbgiaaGreatDoor
open Go.RowKit

theorem number_is (n : Int) (has b : Bool) (h : numB n has = b) (w : World) : Calls Tryz.prog 119 #[.int .i64 n, .bool has] w fun e w' => e = .returned (.bool b) ∧ w = w' := by
  rw [← h]; exact numberFits_any n has w
theorem nameFit_is (s : ByteArray) (has b : Bool) (h : namB s has = b) (hs : s.size ≤ maxLen) (E : Nat) (w : World) (he : Env E w) : Calls Tryz.prog 120 #[.string s, .bool has] w fun e w' => e = .returned (.bool b) ∧ w = w' := by
  rw [← h]; exact nameFits_any s has hs E w he

def fitsB (a1 a2 a3 a4 : Bool) (kids : Int) (t : Ty) : Bool := numB t.p a1 && (numB t.s a3 && (namB t.n a2 && listsB a4 kids t.ls t.ts.length))

set_option maxHeartbeats 1500000 in
theorem fits_any (B : Nat → Prop) (t : Ty) (bt o : Nat) (a1 a2 a3 a4 : Bool) (kids pay : Int) (E : Nat) (w : World) (hB : Low B w) (he : Env E w) (ht : TyAt B w t bt o) :
    Calls Tryz.prog 114 #[.agg #[.bool a1, .bool a2, .bool a3, .bool a4, .int .i64 kids, .int .i64 pay], .pointer (some ⟨bt, o, none⟩)] w fun e w' => e = .returned (.bool (fitsB a1 a2 a3 a4 kids t)) ∧ Below w.heap.size w w' := by
  obtain ⟨hb, hn, ⟨c0, c1, c2, c3⟩, lv, kv, c4, c5, hl, hkv⟩ := TyAt.eq.1 ht
  have hbt := hB bt hb
  obtain ⟨b1, h1⟩ : ∃ b, numB t.p a1 = b := ⟨_, rfl⟩
  obtain ⟨b2, h2⟩ : ∃ b, numB t.s a3 = b := ⟨_, rfl⟩
  obtain ⟨b3, h3⟩ : ∃ b, namB t.n a2 = b := ⟨_, rfl⟩
  obtain ⟨b4, h4⟩ : ∃ b, listsB a4 kids t.ls t.ts.length = b := ⟨_, rfl⟩
  have HL : Hid (∀ W, Below w.heap.size w W → Calls Tryz.prog 121 #[.agg #[.bool a1, .bool a2, .bool a3, .bool a4, .int .i64 kids, .int .i64 pay], .pointer (some ⟨bt, o, none⟩)] W fun e w' => e = .returned (.bool b4) ∧ Below W.heap.size W w') := Lib.hid (fun W hW => by
    rw [← h4]; exact listsFit_any B t bt o a1 a2 a3 a4 kids pay E W (hB.le hW.size) (he.below (hW.mono he.size)) (TyAt.keep (hW.keeps'.mono hB) _ _ _ ht))
  have H1 := Lib.hid (number_is t.p a1 b1 h1)
  have H2 := Lib.hid (number_is t.s a3 b2 h2)
  have H3 := Lib.hid (fun (W : World) (hW : Below w.heap.size w W) => nameFit_is t.n a2 b3 h3 hn E W (he.below (hW.mono he.size)))
  have HF : Hid (fitsB a1 a2 a3 a4 kids t = (b1 && (b2 && (b3 && b4)))) := Lib.hid (by unfold fitsB; rw [h1, h2, h3, h4])
  rw [HF.out]
  have HW0 : Hid (Below (w.heap.size + 1) (w.alloc (.cells #[.bool a1, .bool a2, .bool a3, .bool a4, .int .i64 kids, .int .i64 pay] 135)) (w.alloc (.cells #[.bool a1, .bool a2, .bool a3, .bool a4, .int .i64 kids, .int .i64 pay] 135))) := Lib.hid (Below.refl _ _)
  clear h1 h2 h3 h4 HF hl hkv ht c0 c4 c5 hn
  go_enter Tryz.func114, Tryz.ntmps114
  go_wp2_with fail
  have p1 : ∀ q : Later (w.heap.size + 1) (w.alloc (.cells #[.bool a1, .bool a2, .bool a3, .bool a4, .int .i64 kids, .int .i64 pay] 135)), q.1.cell? ⟨bt, o + 1, none⟩ = some (.int .i64 t.p) := fun q => ((blk_below q.2).cell (p := ⟨bt, _, none⟩) hbt).trans c1
  have p2 : ∀ q : Later (w.heap.size + 1) (w.alloc (.cells #[.bool a1, .bool a2, .bool a3, .bool a4, .int .i64 kids, .int .i64 pay] 135)), q.1.cell? ⟨bt, o + 2, none⟩ = some (.string t.n) := fun q => ((blk_below q.2).cell (p := ⟨bt, _, none⟩) hbt).trans c2
  have p3 : ∀ q : Later (w.heap.size + 1) (w.alloc (.cells #[.bool a1, .bool a2, .bool a3, .bool a4, .int .i64 kids, .int .i64 pay] 135)), q.1.cell? ⟨bt, o + 3, none⟩ = some (.int .i64 t.s) := fun q => ((blk_below q.2).cell (p := ⟨bt, _, none⟩) hbt).trans c3
  have r0 : ∀ q : Later (w.heap.size + 1) (w.alloc (.cells #[.bool a1, .bool a2, .bool a3, .bool a4, .int .i64 kids, .int .i64 pay] 135)), q.1.cell? ⟨w.heap.size, 0, none⟩ = some (.bool a1) := fun q => blk_cell q.2 0 rfl
  have r1 : ∀ q : Later (w.heap.size + 1) (w.alloc (.cells #[.bool a1, .bool a2, .bool a3, .bool a4, .int .i64 kids, .int .i64 pay] 135)), q.1.cell? ⟨w.heap.size, 1, none⟩ = some (.bool a2) := fun q => blk_cell q.2 1 rfl
  have r2 : ∀ q : Later (w.heap.size + 1) (w.alloc (.cells #[.bool a1, .bool a2, .bool a3, .bool a4, .int .i64 kids, .int .i64 pay] 135)), q.1.cell? ⟨w.heap.size, 2, none⟩ = some (.bool a3) := fun q => blk_cell q.2 2 rfl
  have r3 : ∀ q : Later (w.heap.size + 1) (w.alloc (.cells #[.bool a1, .bool a2, .bool a3, .bool a4, .int .i64 kids, .int .i64 pay] 135)), q.1.cell? ⟨w.heap.size, 3, none⟩ = some (.bool a4) := fun q => blk_cell q.2 3 rfl
  have r4 : ∀ q : Later (w.heap.size + 1) (w.alloc (.cells #[.bool a1, .bool a2, .bool a3, .bool a4, .int .i64 kids, .int .i64 pay] 135)), q.1.cell? ⟨w.heap.size, 4, none⟩ = some (.int .i64 kids) := fun q => blk_cell q.2 4 rfl
  have r5 : ∀ q : Later (w.heap.size + 1) (w.alloc (.cells #[.bool a1, .bool a2, .bool a3, .bool a4, .int .i64 kids, .int .i64 pay] 135)), q.1.cell? ⟨w.heap.size, 5, none⟩ = some (.int .i64 pay) := fun q => blk_cell q.2 5 rfl
  have HSZ : Hid (w.heap.size + 1 ≤ (w.alloc (.cells #[.bool a1, .bool a2, .bool a3, .bool a4, .int .i64 kids, .int .i64 pay] 135)).heap.size) := Lib.hid (by simp)
  clear c1 c2 c3
  cases b1 <;> cases b2 <;> cases b3 <;> cases b4
  all_goals
    refine wp_region_later (w.heap.size + 1) (w.alloc (.cells #[.bool a1, .bool a2, .bool a3, .bool a4, .int .i64 kids, .int .i64 pay] 135)) (by kernel_rfl) (by kernel_rfl) HW0.out ?_
    repeat (go_big_quiet_step (first | (go_at_call 119; first | with_reducible exact later_call_same _ (H1.out _) | with_reducible exact later_call_same _ (H2.out _)) | (go_at_call 120; exact later_call_same _ (H3.out _ (blk_below (Subtype.property _)))) | (go_at_call 121; exact later_call _ HSZ.out (HL.out _ (blk_below (Subtype.property _))))))
    refine wpQuiet_nil ?_
    rintro _ ⟨⟨w5, hb5⟩, rfl⟩
    go_wp2_with fail
    go_ret
    exact ⟨rfl, blk_below hb5⟩

end Go.Proofs.YtgmdmbmkljbgiaaGreatDoor

/- A map of one's own, told by what its look-ups give; the program's rules. -/
namespace Go.Proofs.YtgmdmbmkljbgiaaGreatDoor
open Go.RowKit

/-- An entry reads as it is. -/
def asIs (v : Value) : Option (DataW Value × List MemPlace) := some (.held v, [])
/-- Block b is a map, of at most n entries, in which the key l has the value f l. -/
def MapIs (w : World) (k : TypeId) (b n : Nat) (f : Lit → Option Value) : Prop :=
  ∃ D : DataW Value, w.ownsMap Tryz.prog k asIs b n D ∧ ∀ l, Maps.has D l = (f l).isSome ∧ ∀ v, f l = some v → ∀ z, D.atKey l z = .held v
theorem MapIs.made (w : World) (k : TypeId) : MapIs (w.alloc (.map #[] 0)) k w.heap.size 0 (fun _ => none) :=
  ⟨.map [], World.ownsMap_made w _ _ _, fun _ => ⟨rfl, fun _ h => by cases h⟩⟩
theorem MapIs.congr {w : World} {k : TypeId} {b n : Nat} {f g : Lit → Option Value} (h : MapIs w k b n f) (e : ∀ l, f l = g l) : MapIs w k b n g := by
  obtain ⟨D, ho, hf⟩ := h
  exact ⟨D, ho, fun l => by rw [← e l]; exact hf l⟩
theorem MapIs.lt {w : World} {k : TypeId} {b n : Nat} {f : Lit → Option Value} (h : MapIs w k b n f) : b < w.heap.size := by
  obtain ⟨D, ho, _⟩ := h; exact ho.lt
theorem MapIs.kept {w w' : World} {k : TypeId} {b n : Nat} {f : Lit → Option Value} (h : MapIs w k b n f) {row : Option Nat} (hg : w.grownBy w' row) (hne : some b ≠ row) : MapIs w' k b n f := by
  obtain ⟨D, ho, hf⟩ := h; exact ⟨D, ho.kept hg hne, hf⟩
theorem MapIs.below {w w' : World} {k : TypeId} {b n m : Nat} {f : Lit → Option Value} (h : MapIs w k b n f) (hb : Below m w w') (hm : b < m) : MapIs w' k b n f := by
  obtain ⟨D, ⟨es, clock, h1, r⟩, hf⟩ := h
  exact ⟨D, ⟨es, clock, (hb.block b hm).trans h1, r⟩, hf⟩
open Classical in
theorem MapIs.put {w : World} {k : TypeId} {b n : Nat} {f : Lit → Option Value} (h : MapIs w k b n f) (K : Maps.Keyed Tryz.prog k) {t e : TypeId} (ht : Tryz.prog.underlying t = some (.map k e)) (hn : n < maxLen) {key val : Value} {kl : Lit} (hkey : keyOf Tryz.prog k key = some kl) (hkl : WideAt.IsKeyLit kl) :
    ∃ w', (Instr.mapUpdate t (.map (some b)) key val).run Tryz.prog w = .ok () w' ∧ MapIs w' k b (n + 1) (fun l => if l = kl then some val else f l) ∧ w.grownBy w' (some b) := by
  obtain ⟨D, ho, hf⟩ := h
  obtain ⟨w', hr, ho', htn⟩ := ho.store K ht hn hkey (d := .held val) (ps := []) rfl
  refine ⟨w', hr, ⟨_, ho', fun l => ?_⟩, htn.grown⟩
  by_cases e : l = kl
  · subst e
    simp only [if_true]
    exact ⟨by rw [Maps.has_put_same ho.isMap hkl]; rfl, fun v hv z => by rw [Maps.atKey_put_same ho.isMap hkl]; cases hv; rfl⟩
  · simp only [if_neg e]
    rw [Maps.has_put_other e]
    exact ⟨(hf l).1, fun v hv z => by rw [Maps.atKey_put_other e]; exact (hf l).2 v hv z⟩
set_option maxRecDepth 100000 in
theorem MapIs.look {w : World} {k : TypeId} {b n : Nat} {f : Lit → Option Value} (h : MapIs w k b n f) (K : Maps.Keyed Tryz.prog k) {t e : TypeId} (ht : Tryz.prog.underlying t = some (.map k e)) {z : Value} (hz : (zeroValue e).run Tryz.prog w = .ok z w) {key : Value} {kl : Lit} (hkey : keyOf Tryz.prog k key = some kl) :
    (Instr.lookup t (.map (some b)) key false).run Tryz.prog w = .ok ((f kl).getD z) w := by
  obtain ⟨D, ho, hf⟩ := h
  obtain ⟨v, ps, hr, hv⟩ := ho.lookup K ht hz (zd := .held z) (zp := []) rfl hkey
  rw [hr]
  obtain ⟨h1, h2⟩ := hf kl
  have hv' : DataW.held v = D.atKey kl (.held z) := by
    simp only [asIs, Option.some.injEq, Prod.mk.injEq] at hv; exact hv.1
  refine congrArg (fun x => Result.ok x w) ?_
  cases hfk : f kl with
  | none =>
    rw [hfk] at h1
    rw [Maps.atKey_of_not_has h1] at hv'
    exact DataW.held.inj hv'
  | some u =>
    rw [h2 u hfk] at hv'
    exact DataW.held.inj hv'
set_option maxRecDepth 100000 in
theorem MapIs.look_ok {w : World} {k : TypeId} {b n : Nat} {f : Lit → Option Value} (h : MapIs w k b n f) (K : Maps.Keyed Tryz.prog k) {t e : TypeId} (ht : Tryz.prog.underlying t = some (.map k e)) {z : Value} (hz : (zeroValue e).run Tryz.prog w = .ok z w) {key : Value} {kl : Lit} (hkey : keyOf Tryz.prog k key = some kl) :
    (Instr.lookup t (.map (some b)) key true).run Tryz.prog w = .ok (.tuple #[(f kl).getD z, .bool (f kl).isSome]) w := by
  obtain ⟨D, ho, hf⟩ := h
  obtain ⟨v, ps, hr, hv⟩ := ho.look_ok K ht hz (zd := .held z) (zp := []) rfl hkey
  obtain ⟨h1, h2⟩ := hf kl
  rw [hr, h1]
  have hv' : DataW.held v = D.atKey kl (.held z) := by
    simp only [asIs, Option.some.injEq, Prod.mk.injEq] at hv; exact hv.1
  have : v = (f kl).getD z := by
    cases hfk : f kl with
    | none =>
      rw [hfk] at h1
      rw [Maps.atKey_of_not_has h1] at hv'
      exact DataW.held.inj hv'
    | some u =>
      rw [h2 u hfk] at hv'
      exact DataW.held.inj hv'
  rw [this]

/-! ### The rules -/
def knK (k : Int) : Bool := decide (1 ≤ k) && decide (k ≤ 9)
def r2K (k : Int) : Bool := k == 8 || k == 9
def r3K (k : Int) : Bool := k == 9
def r4K (k : Int) : Bool := k == 6 || k == 7
def kidsK (k : Int) : Int := if k = 4 ∨ k = 5 then 2 else if k = 8 then 1 else 0
abbrev ruleVal (k : Int) : Value := .agg #[.bool (actB k), .bool (r2K k), .bool (r3K k), .bool (r4K k), .int .i64 (kidsK k), .int .i64 (paysK k)]
def ruleF : Lit → Option Value
  | .int .i64 k => if knK k then some (ruleVal k) else none
  | _ => none
def RulesAt (w : World) (b : Nat) : Prop := MapIs w 3 b 9 ruleF
abbrev rule0 : Value := .agg #[.bool false, .bool false, .bool false, .bool false, .int .i64 0, .int .i64 0]
theorem ruleInfo : (Tryz.prog.info? 135).map (fun i => (i.zero, i.size, i.bytes)) = some (some rule0, 6, 24) := by kernel_rfl
theorem zero_rule (w : World) : (zeroValue 135).run Tryz.prog w = .ok rule0 w := by
  obtain ⟨i0, hi, hz0, hz1, hz2⟩ := info_parts ruleInfo
  simp [zeroValue, typeInfo, hi, hz0]
theorem intKeyed : Maps.Keyed Tryz.prog 3 := Maps.int_keyed Tryz.underlying3
theorem wf64 {a : Int} (h1 : -9223372036854775808 ≤ a) (h2 : a ≤ 9223372036854775807) : (Lit.int .i64 a).wf = true := by
  unfold Lit.wf
  rw [Bool.and_eq_true, decide_eq_true_eq, decide_eq_true_eq]
  exact ⟨h1, h2⟩
theorem key_int {a : Int} (h1 : -9223372036854775808 ≤ a) (h2 : a ≤ 9223372036854775807) : keyOf Tryz.prog 3 (.int .i64 a) = some (.int .i64 a) := Maps.keyOf_int_mk Tryz.underlying3 (wf64 h1 h2)
theorem rule_unknown {k : Int} (h : knK k = false) : ruleVal k = rule0 := by
  have h1 : ¬ (1 ≤ k ∧ k ≤ 9) := by simpa [knK] using h
  have a1 : actB k = false := by rw [Bool.eq_false_iff]; intro e; rw [actB_iff] at e; omega
  have a2 : r2K k = false := by simp [r2K]; omega
  have a3 : r3K k = false := by simp [r3K]; omega
  have a4 : r4K k = false := by simp [r4K]; omega
  have a5 : kidsK k = 0 := by unfold kidsK; rw [if_neg (by omega), if_neg (by omega)]
  have a6 : paysK k = 0 := by unfold paysK; rw [if_neg (by omega)]
  unfold ruleVal rule0
  rw [a1, a2, a3, a4, a5, a6]
theorem RulesAt.look {w : World} {b : Nat} (h : RulesAt w b) {k : Int} (h1 : -9223372036854775808 ≤ k) (h2 : k ≤ 9223372036854775807) : (Instr.lookup 116 (.map (some b)) (.int .i64 k) false).run Tryz.prog w = .ok (ruleVal k) w := by
  rw [MapIs.look h intKeyed Tryz.underlying116 (zero_rule w) (key_int h1 h2)]
  simp only [ruleF]
  cases hk : knK k with
  | true => rfl
  | false => rw [rule_unknown hk]; rfl
theorem RulesAt.look_ok {w : World} {b : Nat} (h : RulesAt w b) {k : Int} (h1 : -9223372036854775808 ≤ k) (h2 : k ≤ 9223372036854775807) : (Instr.lookup 116 (.map (some b)) (.int .i64 k) true).run Tryz.prog w = .ok (.tuple #[ruleVal k, .bool (knK k)]) w := by
  rw [MapIs.look_ok h intKeyed Tryz.underlying116 (zero_rule w) (key_int h1 h2)]
  simp only [ruleF]
  cases hk : knK k with
  | true => rfl
  | false => rw [rule_unknown hk]; rfl

/-- What the rule of a kind says of a node is its shape. -/
theorem fits_shape (t : Ty) (h : knK t.k = true) : fitsB (actB t.k) (r2K t.k) (r3K t.k) (r4K t.k) (kidsK t.k) t = t.shape := by
  have hk : 1 ≤ t.k ∧ t.k ≤ 9 := by simpa [knK] using h
  have hcase : t.k = 1 ∨ t.k = 2 ∨ t.k = 3 ∨ t.k = 4 ∨ t.k = 5 ∨ t.k = 6 ∨ t.k = 7 ∨ t.k = 8 ∨ t.k = 9 := by omega
  unfold fitsB Ty.shape shapeC numB namB listsB
  rcases hcase with e | e | e | e | e | e | e | e | e <;> rw [e] <;> simp [actB, r2K, r3K, r4K, kidsK] <;> (try rw [Bool.eq_iff_iff]) <;> (try simp) <;> (try omega) <;> (try grind)
theorem shape_unknown (t : Ty) (h : knK t.k = false) : t.shape = false := by
  have h1 : ¬ (1 ≤ t.k ∧ t.k ≤ 9) := by simpa [knK] using h
  unfold Ty.shape shapeC
  rw [if_neg (by omega), if_neg (by omega), if_neg (by omega), if_neg (by omega), if_neg (by omega)]

end Go.Proofs.YtgmdmbmkljbgiaaGreatDoor

/- Types: the program's table of rules, made. -/
namespace Go.Proofs.YtgmdmbmkljbgiaaGreatDoor
open Go.RowKit

theorem run_makeMap_rules (w : World) : (Instr.makeMap 116 none).run Tryz.prog w = .ok (.map (some w.heap.size)) (w.alloc (.map #[] 0)) := by
  simp [Instr.makeMap]

open Classical in
set_option maxHeartbeats 2000000 in
theorem rules_any (w : World) :
    Calls Tryz.prog 93 #[] w fun e w' => ∃ b, e = .returned (.map (some b)) ∧ RulesAt w' b ∧ Below w.heap.size w w' ∧ w.heap.size ≤ b := by
  have hmk := run_makeMap_rules w
  have m0 := MapIs.made w 3
  obtain ⟨w1, u1, m1, g1⟩ := m0.put intKeyed Tryz.underlying116 (by unfold maxLen; omega) (key_int (a := 1) (by omega) (by omega)) trivial (val := .agg #[.bool false, .bool false, .bool false, .bool false, .int .i64 0, .int .i64 0])
  obtain ⟨w2, u2, m2, g2⟩ := m1.put intKeyed Tryz.underlying116 (by unfold maxLen; omega) (key_int (a := 2) (by omega) (by omega)) trivial (val := .agg #[.bool false, .bool false, .bool false, .bool false, .int .i64 0, .int .i64 0])
  obtain ⟨w3, u3, m3, g3⟩ := m2.put intKeyed Tryz.underlying116 (by unfold maxLen; omega) (key_int (a := 3) (by omega) (by omega)) trivial (val := .agg #[.bool false, .bool false, .bool false, .bool false, .int .i64 0, .int .i64 0])
  obtain ⟨w4, u4, m4, g4⟩ := m3.put intKeyed Tryz.underlying116 (by unfold maxLen; omega) (key_int (a := 4) (by omega) (by omega)) trivial (val := .agg #[.bool true, .bool false, .bool false, .bool false, .int .i64 2, .int .i64 1])
  obtain ⟨w5, u5, m5, g5⟩ := m4.put intKeyed Tryz.underlying116 (by unfold maxLen; omega) (key_int (a := 5) (by omega) (by omega)) trivial (val := .agg #[.bool true, .bool false, .bool false, .bool false, .int .i64 2, .int .i64 1])
  obtain ⟨w6, u6, m6, g6⟩ := m5.put intKeyed Tryz.underlying116 (by unfold maxLen; omega) (key_int (a := 6) (by omega) (by omega)) trivial (val := .agg #[.bool true, .bool false, .bool false, .bool true, .int .i64 0, .int .i64 0])
  obtain ⟨w7, u7, m7, g7⟩ := m6.put intKeyed Tryz.underlying116 (by unfold maxLen; omega) (key_int (a := 7) (by omega) (by omega)) trivial (val := .agg #[.bool true, .bool false, .bool false, .bool true, .int .i64 0, .int .i64 0])
  obtain ⟨w8, u8, m8, g8⟩ := m7.put intKeyed Tryz.underlying116 (by unfold maxLen; omega) (key_int (a := 8) (by omega) (by omega)) trivial (val := .agg #[.bool false, .bool true, .bool false, .bool false, .int .i64 1, .int .i64 0])
  obtain ⟨w9, u9, m9, g9⟩ := m8.put intKeyed Tryz.underlying116 (by unfold maxLen; omega) (key_int (a := 9) (by omega) (by omega)) trivial (val := .agg #[.bool false, .bool true, .bool true, .bool false, .int .i64 0, .int .i64 0])
  have hb0 : Below w.heap.size w (w.alloc (.map #[] 0)) := (Below.refl _ _).alloc (Nat.le_refl _) _
  have hb1 := hb0.grown g1 hb0.size (fun k e => by cases e; exact Nat.le_refl _)
  have hb2 := hb1.grown g2 hb1.size (fun k e => by cases e; exact Nat.le_refl _)
  have hb3 := hb2.grown g3 hb2.size (fun k e => by cases e; exact Nat.le_refl _)
  have hb4 := hb3.grown g4 hb3.size (fun k e => by cases e; exact Nat.le_refl _)
  have hb5 := hb4.grown g5 hb4.size (fun k e => by cases e; exact Nat.le_refl _)
  have hb6 := hb5.grown g6 hb5.size (fun k e => by cases e; exact Nat.le_refl _)
  have hb7 := hb6.grown g7 hb6.size (fun k e => by cases e; exact Nat.le_refl _)
  have hb8 := hb7.grown g8 hb7.size (fun k e => by cases e; exact Nat.le_refl _)
  have hb9 := hb8.grown g9 hb8.size (fun k e => by cases e; exact Nat.le_refl _)
  have hr : RulesAt w9 w.heap.size := by
    refine m9.congr (fun l => ?_)
    by_cases hl : ∃ k, l = .int .i64 k
    · obtain ⟨k, rfl⟩ := hl
      simp only [Lit.int.injEq, true_and, ruleF]
      by_cases hk : knK k
      · rw [if_pos hk]
        have hk' : 1 ≤ k ∧ k ≤ 9 := by simpa [knK] using hk
        have hcase : k = 1 ∨ k = 2 ∨ k = 3 ∨ k = 4 ∨ k = 5 ∨ k = 6 ∨ k = 7 ∨ k = 8 ∨ k = 9 := by omega
        rcases hcase with rfl | rfl | rfl | rfl | rfl | rfl | rfl | rfl | rfl <;> simp [ruleVal, actB, r2K, r3K, r4K, kidsK, paysK]
      · rw [if_neg hk]
        have hk' : ¬ (1 ≤ k ∧ k ≤ 9) := by simpa [knK] using hk
        rw [if_neg (by omega), if_neg (by omega), if_neg (by omega), if_neg (by omega), if_neg (by omega), if_neg (by omega), if_neg (by omega), if_neg (by omega), if_neg (by omega)]
    · have hne : ∀ k, l ≠ .int .i64 k := fun k e => hl ⟨k, e⟩
      have hn : ruleF l = none := by
        unfold ruleF
        split
        · rename_i k; exact absurd rfl (hne k)
        · rfl
      rw [hn]
      simp only [hne, if_false]
  have HR := Lib.hid hr
  have HB := Lib.hid hb9
  clear m0 m1 m2 m3 m4 m5 m6 m7 m8 m9 g1 g2 g3 g4 g5 g6 g7 g8 g9 hb0 hb1 hb2 hb3 hb4 hb5 hb6 hb7 hb8 hb9 hr
  go_enter Tryz.func93, Tryz.ntmps93
  go_wp2_with fail
  go_ret
  exact ⟨_, rfl, HR.out, HB.out, Nat.le_refl _⟩

end Go.Proofs.YtgmdmbmkljbgiaaGreatDoor

/- Types: the program's mayStand. -/
namespace Go.Proofs.YtgmdmbmkljbgiaaGreatDoor
open Go.RowKit

theorem ARow.ptr {D : Nat} {S : Nat → Prop} {W : World} {ar : Value} {path : List Ty} (h : ARow D S W ar path) {i : Nat} {u : Ty} (hi : path[i]? = some u) :
    ∃ g c b o, ar = .slice (some ⟨g, 0, none⟩) path.length c ∧ W.cell? ⟨g, i, none⟩ = some (.pointer (some ⟨b, o, none⟩)) ∧ TyAt S W u b o ∧ g < W.heap.size := by
  obtain ⟨ads, hl, hown, hat⟩ := h
  have hlt := (List.getElem?_eq_some_iff.1 hi).1
  obtain ⟨a, ha⟩ : ∃ a, ads[i]? = some a := ⟨_, List.getElem?_eq_getElem (by omega)⟩
  rcases hown.2 with ⟨_, h0⟩ | ⟨g, cap, cur, rfl, hb, hg, hnc, hcm, hcs, htake⟩
  · omega
  · refine ⟨g, cap, a.1, a.2, rfl, ?_, hat i a u ha hi, (Array.getElem?_eq_some_iff.1 hg).1⟩
    have hj : (ptrs ads)[i]? = some (.pointer (some ⟨a.1, a.2, none⟩)) := by simp [ptrs, ha]
    rw [← htake, List.getElem?_take] at hj
    have hx : cur.toList[i]? = some (.pointer (some ⟨a.1, a.2, none⟩)) := by
      split at hj
      · exact hj
      · cases hj
    simpa [World.cell?, hg] using hx
theorem ARow.len {D : Nat} {S : Nat → Prop} {W : World} {pa : Option Addr} {an ac : Nat} {path : List Ty} (h : ARow D S W (.slice pa an ac) path) : an = path.length := by
  obtain ⟨_, _, h2, _⟩ := h
  rcases h2.2 with ⟨h, h0⟩ | ⟨g, cap, cur, h, _⟩
  · simp only [Value.slice.injEq] at h; omega
  · simp only [Value.slice.injEq] at h; omega
/-- A number that a word holds. -/
def In64 (k : Int) : Prop := -9223372036854775808 ≤ k ∧ k ≤ 9223372036854775807
theorem sess_is (k p s : Int) (n : ByteArray) (lv kv : Value) (b : Bool) (h : sessK k = b) (w : World) :
    Calls Tryz.prog 105 #[.agg #[.int .i64 k, .int .i64 p, .string n, .int .i64 s, lv, kv]] w fun e w' => e = .returned (.bool b) ∧ Below w.heap.size w w' := by
  rw [← h]; exact tsession_any k p s n lv kv w

set_option maxHeartbeats 2000000 in
theorem mayStand_any (D bm : Nat) (S : Nat → Prop) (path : List Ty) (t : Ty) (kid : Int) (pa : Option Addr) (an ac b o : Nat) (w : World) (hS : Low S w) (hr : RulesAt w bm) (har : ARow D S w (.slice pa an ac) path) (hf : ∀ u ∈ path, In64 u.k) (ht : TyAt S w t b o) (hlen : path.length ≤ 1000) :
    Calls Tryz.prog 115 #[.map (some bm), .agg #[.slice pa an ac, .int .i64 kid], .pointer (some ⟨b, o, none⟩)] w fun e w' => e = .returned (.bool (mayStandB path kid t.k)) ∧ Below w.heap.size w w' := by
  obtain rfl := har.len
  obtain ⟨la, ln, lc, ka, kn, kc, ⟨c0, c1, c2, c3, c4, c5⟩, hval⟩ := ht.load'
  have hb := hS b (TyAt.eq.1 ht).1
  cases hs : sessK t.k with
  | true =>
    have HM : Hid (mayStandB path kid t.k = true) := Lib.hid (by unfold mayStandB; rw [hs]; rfl)
    have HS := Lib.hid (sess_is t.k t.p t.s t.n (.slice la ln lc) (.slice ka kn kc) true hs)
    rw [HM.out]
    clear hs hval har hf ht hr
    go_enter Tryz.func115, Tryz.ntmps115
    go_wp2_with (go_at_call 105; refine (HS.out _).mono ?_; rintro e w2 ⟨rfl, hb2⟩; obtain ⟨hcl, hfz⟩ := bcell hb2)
    go_ret
    exact ⟨rfl, below_seq (blkBelow w _ _) hb2⟩
  | false =>
    have HS := Lib.hid (sess_is t.k t.p t.s t.n (.slice la ln lc) (.slice ka kn kc) false hs)
    rcases List.eq_nil_or_concat path with rfl | ⟨l, u, hl⟩
    · have HM : Hid (mayStandB [] kid t.k = true) := Lib.hid (by unfold mayStandB; rw [hs]; rfl)
      rw [HM.out]
      clear hs hval har hf ht hr
      go_enter Tryz.func115, Tryz.ntmps115
      go_wp2_with (go_at_call 105; refine (HS.out _).mono ?_; rintro e w2 ⟨rfl, hb2⟩; obtain ⟨hcl, hfz⟩ := bcell hb2; have hq := hb2.size; simp only [World.size_alloc] at hq)
      go_ret
      exact ⟨rfl, below_seq (blkBelow w _ _) hb2⟩
    · rw [List.concat_eq_append] at hl
      obtain ⟨n, hn⟩ : ∃ n, path.length = n := ⟨_, rfl⟩
      have hn1 : 1 ≤ n := by rw [← hn, hl]; simp
      have hi : path[n - 1]? = some u := by
        have : n - 1 = l.length := by rw [← hn, hl]; simp
        rw [this, hl]; simp
      have hu := hf u (by rw [hl]; simp)
      obtain ⟨g, c, ub, uo, hpa, hgc, hut, hgl⟩ := har.ptr hi
      obtain ⟨hub, _, ⟨k0, _, _, _⟩, _⟩ := TyAt.eq.1 hut
      have hubl := hS ub hub
      simp only [Value.slice.injEq] at hpa
      obtain ⟨rfl, _, rfl⟩ := hpa
      have HM : Hid (mayStandB path kid t.k = decide (kid < paysK u.k)) := Lib.hid (by unfold mayStandB; rw [hs, hl]; simp)
      rw [HM.out]
      have hbm := hr.lt
      obtain ⟨y, hy⟩ : ∃ y, paysK u.k = y := ⟨_, rfl⟩
      have HR : Hid (∀ W, Below w.heap.size w W → (Instr.lookup 116 (.map (some bm)) (.int .i64 u.k) false).run Tryz.prog W = .ok (.agg #[.bool (actB u.k), .bool (r2K u.k), .bool (r3K u.k), .bool (r4K u.k), .int .i64 (kidsK u.k), .int .i64 y]) W) := Lib.hid (fun W hW => by rw [← hy]; exact RulesAt.look (MapIs.below hr hW hbm) hu.1 hu.2)
      rw [hy]
      clear hy
      obtain ⟨bb, hbb⟩ : ∃ bb, decide (kid < y) = bb := ⟨_, rfl⟩
      rw [hbb]
      have HBB := Lib.hid hbb
      have hfd : ∀ W : World, (Instr.field 135 (.agg #[.bool (actB u.k), .bool (r2K u.k), .bool (r3K u.k), .bool (r4K u.k), .int .i64 (kidsK u.k), .int .i64 y]) 5).run Tryz.prog W = .ok (.int .i64 y) W := fun _ => by kernel_rfl
      have hn0 : ((n : Int) == 0) = false := by simp; omega
      have hlen' : n ≤ 1000 := by omega
      rw [hn]
      have hnn : ((n : Int) - 1).toNat = n - 1 := by omega
      have hnlt : (n : Int) - 1 < n := by omega
      have hnge : (0 : Int) ≤ (n : Int) - 1 := by omega
      clear hs hval har hf ht hr HM hi hl hn hlen hbb
      go_enter Tryz.func115, Tryz.ntmps115
      go_wp2_with (go_at_call 105; refine (HS.out _).mono ?_; rintro e w2 ⟨rfl, hb2⟩; obtain ⟨hcl, hfz⟩ := bcell hb2; have hq := hb2.size; simp only [World.size_alloc] at hq)
      have hlow : Below w.heap.size w w2 := below_seq (blkBelow w _ _) hb2
      have p1 : ∀ q : Later w2.heap.size w2, q.1.cell? ⟨w.heap.size, 1, none⟩ = some (.int .i64 kid) := fun q => (q.2.cell (p := ⟨w.heap.size, 1, none⟩) (by simp; omega)).trans (blk_cell (hb2.mono (by simp)) 1 rfl)
      have p2 : ∀ q : Later w2.heap.size w2, q.1.cell? ⟨ub, uo, none⟩ = some (.int .i64 u.k) := fun q => (q.2.cell (p := ⟨ub, uo, none⟩) (by simp; omega)).trans ((hlow.cell (p := ⟨ub, uo, none⟩) hubl).trans k0)
      have p3 : ∀ q : Later w2.heap.size w2, (Instr.lookup 116 (.map (some bm)) (.int .i64 u.k) false).run Tryz.prog q.1 = .ok (.agg #[.bool (actB u.k), .bool (r2K u.k), .bool (r3K u.k), .bool (r4K u.k), .int .i64 (kidsK u.k), .int .i64 y]) q.1 := fun q => HR.out q.1 (hlow.trans (q.2.mono (by omega)))
      clear hcl hfz
      have hbb := HBB.out
      refine wp_region_later w2.heap.size w2 (by kernel_rfl) (by kernel_rfl) (Below.refl _ _) ?_
      repeat (go_big_quiet_step (fail))
      refine wpQuiet_nil ?_
      rintro _ ⟨⟨w5, hb5⟩, rfl⟩
      clear p1 p2 p3 hbb
      go_wp2_with fail
      go_ret
      exact ⟨rfl, hlow.trans (hb5.mono (by omega))⟩

end Go.Proofs.YtgmdmbmkljbgiaaGreatDoor

/- Types: slices.Backward over the nodes around. -/
namespace Go.Proofs.YtgmdmbmkljbgiaaGreatDoor
open Go.RowKit Go.Deep Go.Shelf
attribute [local go_sem] Oper.semAt_some

set_option maxHeartbeats 1000000 in
theorem backward_any (pa : Option Addr) (an ac : Nat) (w : World) :
    Calls Tryz.prog 122 #[.slice pa an ac] w fun e w' => e = .returned (.func (.func 126) #[] #[.pointer (some ⟨w.heap.size, 0, none⟩)]) ∧ w' = w.alloc (.cells #[.slice pa an ac] 121) := by
  go_enter Tryz.func122, Tryz.ntmps122
  go_wp2
  go_ret
  exact ⟨rfl, rfl⟩

/-- What a round is handed: the index, the node. -/
structure Bk where
  i : Nat
  b : Nat
  o : Nat
  ty : Ty
abbrev bkArgs (x : Bk) : Array Value := #[.int .i64 x.i, .pointer (some ⟨x.b, x.o, none⟩)]
/-- The index at which r nodes are left. -/
def idxV : Nat → Value
  | 0 => .int .i64 (-1)
  | r + 1 => .int .i64 (r : Int)
theorem rev_take {α : Type} {l : List α} {r : Nat} {x : α} (h : l[r]? = some x) : l.reverse.take (l.length - r) = l.reverse.take (l.length - (r + 1)) ++ [x] := by
  have hlt := (List.getElem?_eq_some_iff.1 h).1
  have e : l.length - r = (l.length - (r + 1)) + 1 := by omega
  rw [e]
  refine take_snoc_get ?_
  rw [List.getElem?_reverse (by omega)]
  rw [show l.length - 1 - (l.length - (r + 1)) = r by omega, h]

set_option maxRecDepth 100000 in
set_option maxHeartbeats 2000000 in
/-- The iterator that slices.Backward returns tells the nodes around, from the innermost one outwards. -/
theorem backward_tells (n : Nat) (Bb D : Nat) (path : List Ty) (S X : Nat → Prop) (pa : Option Addr) (an ac : Nat) (w : World) (hX : ∀ k, X k → ¬ S k ∧ k ≠ Bb ∧ (Value.slice pa an ac).ownBlock ≠ some k) (hS : ∀ k, S k → k < w.heap.size) (hBb : Bb < w.heap.size)
    (hc : w.cell? ⟨Bb, 0, none⟩ = some (.slice pa an ac)) (har : ARow D S w (.slice pa an ac) path) (hlen : path.length ≤ 1000) :
    Tells Fence.wide n Tryz.prog 126 #[.pointer (some ⟨Bb, 0, none⟩)] bkArgs (fun x W => TyAt S W x.ty x.b x.o) (Kp X) (fun ys => ys.map Bk.ty = path.reverse) (fun pre => pre.map Bk.ty <+: path.reverse) w := by
  intro l J Jx W hW hJ _ hY h0
  have hY' : ∀ m pre x W1, J pre W1 → TyAt S W1 x.ty x.b x.o → YieldAt Fence.wide m Tryz.prog l (bkArgs x) W1 fun e W' => (e = .returned (.bool true) ∧ J (pre ++ [x]) W' ∧ Kp X W1 W') ∨ (e = .returned (.bool false) ∧ Jx (pre ++ [x]) W') :=
    fun m pre x W1 hj hpx => yield_any rfl m (hY pre x W1 hj hpx)
  have hc' := (hW.cell (p := ⟨Bb, 0, none⟩) hBb).trans hc
  obtain rfl := har.len
  have hat : ∀ i u, path[i]? = some u → ∃ g b o, pa = some ⟨g, 0, none⟩ ∧ W.cell? ⟨g, i, none⟩ = some (.pointer (some ⟨b, o, none⟩)) ∧ TyAt S W u b o ∧ ¬ X g := fun i u hi => by
    obtain ⟨g, c, b, o, e, h1, h2, h3⟩ := har.ptr hi
    simp only [Value.slice.injEq] at e
    obtain ⟨rfl, _, rfl⟩ := e
    exact ⟨g, b, o, rfl, (hW.cell (p := ⟨g, i, none⟩) h3).trans h1, h2.keep (hW.keeps'.mono hS), fun hx => (hX g hx).2.2 (by simp [Value.ownBlock])⟩
  obtain ⟨m, hm⟩ : ∃ m, path.length = m := ⟨_, rfl⟩
  rw [hm] at hc' hlen hX
  have HAT := Lib.hid hat
  have HY := Lib.hid hY'
  have H0 := Lib.hid h0
  have HM := Lib.hid hm
  clear hY hY' h0 hat hc har hW hJ hm
  refine callsIn_of_wp Tryz.func126 rfl trivial ?_ rfl
  simp only [Tryz.ntmps126, List.size_toArray, List.length_cons, List.length_nil, Nat.reduceAdd, Nat.reduceSub, Array.replicate_succ, Array.replicate_zero, List.push_toArray, List.append_toArray, List.nil_append, List.cons_append]
  gi_wp2_with fail
  gi_loopw [3] (fun i wr => ∃ (r : Nat) (ys : List Bk), i = idxV r ∧ r ≤ m ∧ Hid (ys.map Bk.ty = path.reverse.take (m - r)) ∧ Hid (J ys wr) ∧ Hid (Kp X W wr)) (fun i _ => (intOf i + 1).toNat)
  case atStart =>
    refine ⟨m, [], ?_, Nat.le_refl _, Lib.hid (by simp), Lib.hid H0.out, Lib.hid (KV.refl _ _ _)⟩
    cases m with
    | zero => rfl
    | succ m => simp [idxV]
  case round =>
    obtain ⟨r, ys, hi, hr, HYS, HJJ, HKV⟩ := hrel
    have hcw : wr.cell? ⟨Bb, 0, none⟩ = some (.slice pa m ac) := Keeps.cell (B := fun k => k = Bb) (HKV.out.keeps (fun k hk => ⟨fun hx => (hX k hx).2.1 hk, by simp [Value.ownBlock]⟩)) rfl hc'
    cases r with
    | zero =>
      change _ = Value.int .i64 (-1) at hi
      subst hi
      clear hcw hc'
      have hq : Hid (ys.map Bk.ty = path.reverse) := Lib.hid (by have := HYS.out; rwa [List.take_of_length_le (by simp; have := HM.out; omega)] at this)
      gi_wp2
      go_end0
      exact ⟨⟨_, rfl⟩, .inl ⟨ys, hq.out, HJJ.out⟩⟩
    | succ r =>
      change _ = Value.int .i64 (r : Int) at hi
      subst hi
      clear hc'
      obtain ⟨u, hu⟩ : ∃ u, path[r]? = some u := ⟨_, List.getElem?_eq_getElem (by have := HM.out; omega)⟩
      obtain ⟨g, b, o, rfl, hgc, hut, hgx⟩ := HAT.out r u hu
      have hgw : wr.cell? ⟨g, r, none⟩ = some (.pointer (some ⟨b, o, none⟩)) := Keeps.cell (B := fun k => k = g) (HKV.out.keeps (fun k hk => ⟨fun hx => hgx (hk ▸ hx), by simp [Value.ownBlock]⟩)) rfl hgc
      have hutw := hut.keep (HKV.out.keeps (fun k hk => ⟨fun hx => (hX k hx).1 hk, by simp [Value.ownBlock]⟩))
      obtain ⟨fn, tmps, assign, body, hy, hR⟩ := HY.out (n - 1) ys ⟨r, b, o, u⟩ wr HJJ.out hutw
      simp only [bkArgs] at hy
      have HR := Lib.hid hR
      have HT : Hid (path.reverse.take (m - r) = path.reverse.take (m - (r + 1)) ++ [u]) := Lib.hid (by have := rev_take hu; rwa [HM.out] at this)
      clear hu hgc hut hgx hutw hR
      gi_wp2_with fail
      refine ⟨fun h => (by cases h), HR.out.mono ?_⟩
      rintro e w2 (⟨rfl, hj2, hk2⟩ | ⟨rfl, hx2⟩)
      · have HJ2 := Lib.hid hj2
        have HK2 := Lib.hid (HKV.out.trans hk2)
        have HYS2 : Hid ((ys ++ [(⟨r, b, o, u⟩ : Bk)]).map Bk.ty = path.reverse.take (m - r)) := Lib.hid (by rw [HT.out, List.map_append, HYS.out]; rfl)
        clear hj2 hk2 hy
        gi_wp2_with fail
        refine ⟨⟨r, _, ?_, by omega, HYS2, HJ2, HK2⟩, ?_⟩
        · cases r <;> simp [idxV]
        · simp [intOf]
      · have HX2 := Lib.hid hx2
        have HP : Hid ((ys ++ [(⟨r, b, o, u⟩ : Bk)]).map Bk.ty <+: path.reverse) := Lib.hid (by
          rw [List.map_append, HYS.out]
          show _ ++ [u] <+: _
          rw [← HT.out]
          exact List.take_prefix _ _)
        clear hx2 hy
        gi_wp2_with fail
        exact bodyPost_ret (results_none rfl _ _ _) rfl ⟨⟨_, rfl⟩, .inr ⟨_, HP.out, HX2.out⟩⟩

end Go.Proofs.YtgmdmbmkljbgiaaGreatDoor

/- Types: the program's varError. -/
namespace Go.Proofs.YtgmdmbmkljbgiaaGreatDoor
open Go.RowKit Go.Deep Go.Shelf
attribute [local go_sem] Oper.semAt_some

def actP (l : List Ty) : Bool := l.any fun u => actB u.k
theorem actP_snoc (l : List Ty) (u : Ty) : actP (l ++ [u]) = (actP l || actB u.k) := by simp [actP]
/-- Nodes that are passed by: what is asked of the others. -/
def Past (n : ByteArray) (l : List Ty) : Prop := ∀ rest, vErr n (l ++ rest) false = vErr n rest (actP l)
theorem past_nil (n : ByteArray) : Past n [] := fun _ => rfl
theorem past_snoc {n : ByteArray} {l : List Ty} {u : Ty} (h : Past n l) (hu : ¬ (u.k = 8 ∧ u.n = n)) : Past n (l ++ [u]) := fun rest => by
  rw [List.append_assoc, h, actP_snoc]
  show vErr n (u :: rest) _ = _
  rw [vErr, if_neg hu]
theorem past_hit {n : ByteArray} {l : List Ty} {u : Ty} (h : Past n l) (hu : u.k = 8 ∧ u.n = n) (rest : List Ty) : vErr n (l ++ [u] ++ rest) false = if actP l then 0 else 3 := by
  rw [List.append_assoc, h]
  show vErr n (u :: rest) _ = _
  rw [vErr, if_pos hu]
theorem action_is (k : Int) (b : Bool) (h : actB k = b) (w : World) :
    Calls Tryz.prog 123 #[.int .i64 k] w fun e w' => e = .returned (.bool b) ∧ w = w' := by
  rw [← h]; exact action_any k w

theorem box4_heap (w : World) (o0 o1 o2 o3 : Obj) : ((((w.alloc o0).alloc o1).alloc o2).alloc o3).heap[w.heap.size]? = some o0 ∧ ((((w.alloc o0).alloc o1).alloc o2).alloc o3).heap[w.heap.size + 1]? = some o1 ∧
    ((((w.alloc o0).alloc o1).alloc o2).alloc o3).heap[w.heap.size + 2]? = some o2 ∧ ((((w.alloc o0).alloc o1).alloc o2).alloc o3).heap[w.heap.size + 3]? = some o3 := by
  have h0 := World.alloc_heap_new w o0
  have h1 := World.alloc_heap_new (w.alloc o0) o1
  have h2 := World.alloc_heap_new ((w.alloc o0).alloc o1) o2
  have h3 := World.alloc_heap_new (((w.alloc o0).alloc o1).alloc o2) o3
  simp only [World.size_alloc] at h1 h2 h3
  refine ⟨?_, ?_, ?_, h3⟩
  · exact (Below.heap_alloc _ _ _ (by simp only [World.size_alloc]; omega)).trans ((Below.heap_alloc _ _ _ (by simp only [World.size_alloc]; omega)).trans ((Below.heap_alloc _ _ _ (by simp only [World.size_alloc]; omega)).trans h0))
  · exact (Below.heap_alloc _ _ _ (by simp only [World.size_alloc]; omega)).trans ((Below.heap_alloc _ _ _ (by simp only [World.size_alloc]; omega)).trans h1)
  · exact (Below.heap_alloc _ _ _ (by simp only [World.size_alloc]; omega)).trans h2

set_option maxRecDepth 100000 in
set_option maxHeartbeats 20000000 in
theorem varError_in (n : Nat) (hn : 3 ≤ n) (D : Nat) (S : Nat → Prop) (path : List Ty) (nm : ByteArray) (pa : Option Addr) (an ac : Nat) (w : World) (hS : Low S w) (har : ARow D S w (.slice pa an ac) path) (hlen : path.length ≤ 1000) :
    CallsIn Fence.wide n Tryz.prog 116 #[.slice pa an ac, .string nm] w fun e w' => e = .returned (.int .i64 (vErr nm path.reverse false)) ∧ Below w.heap.size w w' := by
  have h1 : 1 ≤ n := by omega
  refine callsIn_of_wp_marks Tryz.func116 rfl trivial ?_ rfl
  simp only [Tryz.ntmps116, List.size_toArray, List.length_cons, List.length_nil, Nat.reduceAdd, Nat.reduceSub, Array.replicate_succ, Array.replicate_zero, List.push_toArray, List.append_toArray, List.nil_append, List.cons_append]
  gi_wp2_with (refine ⟨trivial, ?_⟩; gi_at_call 122; refine (callsIn_wide.2 (backward_any _ _ _ _)).mono ?_; rintro e w' ⟨rfl, rfl⟩)
  have hw4 := box4_heap w (.cells #[.string nm] 9) (.cells #[.int .i64 0] 37) (.cells #[.bool false] 4) (.cells #[.slice pa an ac] 121)
  have hbel := box4_below w (.cells #[.string nm] 9) (.cells #[.int .i64 0] 37) (.cells #[.bool false] 4) (.cells #[.slice pa an ac] 121)
  have hsz0 : ((((w.alloc (.cells #[.string nm] 9)).alloc (.cells #[.int .i64 0] 37)).alloc (.cells #[.bool false] 4)).alloc (.cells #[.slice pa an ac] 121)).heap.size = w.heap.size + 4 := by simp
  obtain ⟨W0, hW0⟩ : ∃ W0, ((((w.alloc (.cells #[.string nm] 9)).alloc (.cells #[.int .i64 0] 37)).alloc (.cells #[.bool false] 4)).alloc (.cells #[.slice pa an ac] 121)) = W0 := ⟨_, rfl⟩
  rw [hW0] at hw4 hbel hsz0 ⊢
  clear hW0
  obtain ⟨q0, q1, q2, q3⟩ := hw4
  have hcs : W0.cell? ⟨w.heap.size + 1 + 1 + 1, 0, none⟩ = some (.slice pa an ac) := by simp [World.cell?, q3]
  have hak : ∀ g, (Value.slice pa an ac).ownBlock = some g → g < w.heap.size := fun g hg => by
    obtain ⟨_, _, h2, _⟩ := har
    rcases h2.2 with ⟨h, _⟩ | ⟨g0, cap, cur, h, hb, hgg, _⟩
    · rw [h] at hg; simp [Value.ownBlock] at hg
    · rw [h] at hg
      obtain rfl : g0 = g := by simpa [Value.ownBlock] using hg
      exact (Array.getElem?_eq_some_iff.1 hgg).1
  have har0 : ARow D S W0 (.slice pa an ac) path := har.kept (hbel.keeps'.mono hS) (fun g o hg ho hc => (hbel.block g (hak g hg)).trans ho)
  have hX : ∀ k, k = w.heap.size + 1 + 1 → ¬ S k ∧ k ≠ w.heap.size + 1 + 1 + 1 ∧ (Value.slice pa an ac).ownBlock ≠ some k := fun k e => ⟨fun h => by have := hS k h; omega, by omega, fun h => by have := hak k h; omega⟩
  have hS0 : ∀ k, S k → k < W0.heap.size := fun k h => by have := hS k h; omega
  refine wpIn_range_told rfl h1 (gf := 126) (lb := #[.pointer (some ⟨w.heap.size + 1 + 1 + 1, 0, none⟩)]) rfl trivial (enters_of Tryz.func126 (by kernel_rfl) rfl)
    (backward_tells (n - 1) (w.heap.size + 1 + 1 + 1) D path S (fun k => k = w.heap.size + 1 + 1) pa an ac W0 hX hS0 (by omega) hcs har0 hlen) (fun h g => KV.trans h g) (fun W l o o' _ h ho _ => KV.of_cells (by simp) (cellsKept_put h ho)) (fun x A B h hp => hp.keep (h.keeps S)) (Below.refl _ _) (fun _ => rfl)
    (fun pre W => ((W.heap[w.heap.size + 1 + 1]? = some (.cells #[.bool (actP (pre.map Bk.ty))] 4 (0, 0)) ∧ W.heap[w.heap.size + 1]? = some (.cells #[.int .i64 0] 37 (0, 0))) ∧ (W.heap[w.heap.size]? = some (.cells #[.string nm] 9 (0, 0)) ∧ Past nm (pre.map Bk.ty))) ∧ Below w.heap.size w W)
    (fun c pre W => ((c = .ret ∧ ∀ rest, Hid (vErr nm (pre.map Bk.ty ++ rest) false = (if actP (pre.map Bk.ty) then 0 else 3))) ∧ W.heap[w.heap.size + 1]? = some (.cells #[.int .i64 (if actP (pre.map Bk.ty) then 0 else 3)] 37 (0, 0))) ∧ Below w.heap.size w W)
    ((((abides_boxed (by omega) _ (fun pre : List Bk => .bool (actP (pre.map Bk.ty)))).and (abides_boxed (by omega) _ (fun _ => .int .i64 0))).and ((abides_boxed (by omega) _ (fun _ => .string nm)).and (abidesAll_pure _ _))).and (abidesAll_below (by omega) (Nat.le_refl _)))
    (fun c => (((abidesAll_pure _ _).and (abides_boxed (by omega) _ (fun pre : List Bk => .int .i64 (if actP (pre.map Bk.ty) then 0 else 3)))).and (abidesAll_below (by omega) (Nat.le_refl _)))) ⟨⟨⟨q2, q1⟩, q0, past_nil nm⟩, hbel⟩
    (fun x a' W => a' = { tmps := #[.slice pa an ac, .string nm, undef, .pointer (some ⟨w.heap.size, 0, none⟩), .pointer (some ⟨w.heap.size + 1, 0, none⟩), .pointer (some ⟨w.heap.size + 1 + 1, 0, none⟩), undef, .pointer (some ⟨x.b, x.o, none⟩), .slice pa an ac,
      .func (.func 126) #[] #[.pointer (some ⟨w.heap.size + 1 + 1 + 1, 0, none⟩)], .int .i64 x.i, .pointer (some ⟨x.b, x.o, none⟩), undef, undef, undef, undef, undef, undef, undef, undef, undef, undef, undef, undef, undef, undef, undef, undef, undef, undef, undef, undef, undef, undef, undef], defers := [] })
    (fun _ _ _ _ _ h => h) ?assign ?body ?done ?stop
  case assign =>
    intro l pre x W K hi hp hK
    simp only [bkArgs]
    gi_wp2
    exact hK _ _ (KeepsFrom.refl _ _) (KV.refl _ _ _) hi hp (by simp)
  case body =>
    rintro l pre x a' W hl _ ⟨⟨⟨hg, hr⟩, hnb, hpast⟩, hbw⟩ hpx rfl
    obtain ⟨la, ln, lc, ka, kn, kc, ⟨e0, _, e2, _, _, _⟩, _⟩ := hpx.load'
    obtain ⟨gb, hgb⟩ : ∃ gb, actP (pre.map Bk.ty) = gb := ⟨_, rfl⟩
    rw [hgb] at hg
    have g0 : W.cell? ⟨w.heap.size + 1 + 1, 0, none⟩ = some (.bool gb) := by simp [World.cell?, hg]
    have g1 : W.frozen? ⟨w.heap.size + 1 + 1, 0, none⟩ = false := by simp [World.frozen?, hg]
    have r0 : W.cell? ⟨w.heap.size + 1, 0, none⟩ = some (.int .i64 0) := by simp [World.cell?, hr]
    have r1 : W.frozen? ⟨w.heap.size + 1, 0, none⟩ = false := by simp [World.frozen?, hr]
    have n0 : W.cell? ⟨w.heap.size, 0, none⟩ = some (.string nm) := by simp [World.cell?, hnb]
    have hnd : x.ty = x.ty := rfl
    have HMap : Hid ((pre ++ [x]).map Bk.ty = pre.map Bk.ty ++ [x.ty]) := Lib.hid (by simp)
    have HG := Lib.hid hg
    have HR := Lib.hid hr
    have HN := Lib.hid hnb
    have HP := Lib.hid hpast
    have HGB := Lib.hid hgb
    obtain ⟨k, hk⟩ : ∃ k, x.ty.k = k := ⟨_, rfl⟩
    obtain ⟨s, hs⟩ : ∃ s, x.ty.n = s := ⟨_, rfl⟩
    rw [hk] at e0
    rw [hs] at e2
    have HK := Lib.hid hk
    have HS := Lib.hid hs
    clear hg hr hnb hpast hgb hpx hnd hk hs
    by_cases h8 : k = 8
    · subst h8
      by_cases he : s = nm
      · subst he
        have HHit : Hid (∀ rest, Hid (vErr s (pre.map Bk.ty ++ [x.ty] ++ rest) false = if gb then 0 else 3)) := Lib.hid (fun rest => Lib.hid (by rw [past_hit HP.out ⟨HK.out, HS.out⟩, HGB.out]))
        have HAct : Hid (actP (pre.map Bk.ty ++ [x.ty]) = gb) := Lib.hid (by rw [actP_snoc, HGB.out, HK.out]; cases gb <;> rfl)
        cases gb <;> gi_wp2_with fail
        all_goals gi_region_with (fail)
        all_goals
          gi_wp2_with fail
          refine ⟨((KeepsOthers.drew _).trans (KeepsOthers.setCell _ _ _)).from _, ⟨⟨rfl, ?_⟩, ?_⟩, (hbw.drew).setCell (p := ⟨w.heap.size + 1, 0, none⟩) (by simp) _⟩
          · rw [HMap.out, HAct.out]; exact HHit.out
          · rw [HMap.out, HAct.out]; exact set_block (W := W.drew) HR.out 0 _
      · have he' : (s.toList == nm.toList) = false := by simpa [bne] using str_ne he
        have HA := Lib.hid (action_is 8 false rfl)
        have HPast : Hid (Past nm (pre.map Bk.ty ++ [x.ty])) := Lib.hid (past_snoc HP.out (fun h => he (HS.out.symm.trans h.2)))
        have HAct : Hid (actP (pre.map Bk.ty ++ [x.ty]) = gb) := Lib.hid (by rw [actP_snoc, HGB.out, HK.out]; cases gb <;> rfl)
        clear he
        cases gb <;> gi_wp2_with fail
        all_goals gi_region_with (fail)
        all_goals
          (gi_wp2_with fail)
          first
            | (refine ⟨trivial, ⟨fun h => (by cases h), ?_⟩⟩; refine (CallsIn.inRound l (callsIn_wide.2 (HA.out _))).mono ?_; rintro e w1 ⟨rfl, rfl⟩; gi_wp2_with fail)
            | (refine ⟨trivial, ?_⟩; gi_wp2_with fail)
          refine ⟨((KeepsOthers.drew _).trans (KeepsOthers.setCell _ _ _)).from _, ⟨by simp, fun k o hk hc hx _ => (Below.heap_setCell W.drew _ _ k (fun e => hx e)).trans hk⟩, ⟨⟨?_, ?_⟩, ?_, by rw [HMap.out]; exact HPast.out⟩, (hbw.drew).setCell (p := ⟨w.heap.size + 1 + 1, 0, none⟩) (by simp; omega) _⟩
          · rw [HMap.out, HAct.out]; exact set_block (W := W.drew) HG.out 0 _
          · exact (Below.heap_setCell W.drew _ _ _ (by simp)).trans HR.out
          · exact (Below.heap_setCell W.drew _ _ _ (by simp; omega)).trans HN.out
    · have h8' : (k == 8) = false := by simpa using h8
      have HPast : Hid (Past nm (pre.map Bk.ty ++ [x.ty])) := Lib.hid (past_snoc HP.out (fun h => h8 (HK.out.symm.trans h.1)))
      obtain ⟨ab, hab⟩ : ∃ ab, actB k = ab := ⟨_, rfl⟩
      have HAct : Hid (actP (pre.map Bk.ty ++ [x.ty]) = (gb || ab)) := Lib.hid (by rw [actP_snoc, HGB.out, HK.out, hab])
      have HA := Lib.hid (action_is k ab hab)
      clear hab h8
      cases gb <;> gi_wp2_with fail
      all_goals gi_region_with (fail)
      all_goals
        (gi_wp2_with fail)
        first
          | (refine ⟨trivial, ⟨fun h => (by cases h), ?_⟩⟩; refine (CallsIn.inRound l (callsIn_wide.2 (HA.out _))).mono ?_; rintro e w1 ⟨rfl, rfl⟩; gi_wp2_with fail)
          | (refine ⟨trivial, ?_⟩; gi_wp2_with fail)
        refine ⟨((KeepsOthers.drew _).trans (KeepsOthers.setCell _ _ _)).from _, ⟨by simp, fun k o hk hc hx _ => (Below.heap_setCell W.drew _ _ k (fun e => hx e)).trans hk⟩, ⟨⟨?_, ?_⟩, ?_, by rw [HMap.out]; exact HPast.out⟩, (hbw.drew).setCell (p := ⟨w.heap.size + 1 + 1, 0, none⟩) (by simp; omega) _⟩
        · rw [HMap.out, HAct.out]; exact set_block (W := W.drew) HG.out 0 _
        · exact (Below.heap_setCell W.drew _ _ _ (by simp)).trans HR.out
        · exact (Below.heap_setCell W.drew _ _ _ (by simp; omega)).trans HN.out
  case done =>
    rintro Dd ys W hD hys ⟨⟨⟨hg, hr⟩, hnb, hpast⟩, hbw⟩ hK
    have hv : vErr nm path.reverse false = 4 := by
      have := hpast []
      rw [List.append_nil, hys] at this
      exact this
    have r0 : W.cell? ⟨w.heap.size + 1, 0, none⟩ = some (.int .i64 0) := by simp [World.cell?, hr]
    have r1 : W.frozen? ⟨w.heap.size + 1, 0, none⟩ = false := by simp [World.frozen?, hr]
    have HK := Lib.hid hK
    have HR := Lib.hid hr
    have HV := Lib.hid hv
    clear hg hys hK hpast hr hv hnb
    gi_wp2
    have k3 : (W.setCell ⟨w.heap.size + 1, 0, none⟩ (.int .i64 4)).heap[Dd]? = some (.deferred (some [])) := (Below.heap_setCell _ _ _ Dd (by simp; omega)).trans HK.out
    refine ⟨by simp, .inl ⟨_, _, rfl, run_takeDeferred k3, ?_⟩⟩
    have k1 : ((W.setCell ⟨w.heap.size + 1, 0, none⟩ (.int .i64 4)).putObj Dd (.deferred none)).heap[w.heap.size + 1]? = some (.cells #[.int .i64 4] 37 (0, 0)) := (World.putObj_heap_other (by omega)).trans (set_block HR.out 0 _)
    have c1 : ((W.setCell ⟨w.heap.size + 1, 0, none⟩ (.int .i64 4)).putObj Dd (.deferred none)).cell? ⟨w.heap.size + 1, 0, none⟩ = some (.int .i64 4) := by simp [World.cell?, k1]
    have k7 := (hbw.setCell (p := ⟨w.heap.size + 1, 0, none⟩) (by simp) (.int .i64 4)).trans (belowK_b (w := w) (Nat.le_refl _) _ Dd _ (.deferred none) (by omega) k3 rfl rfl)
    generalize (W.setCell ⟨w.heap.size + 1, 0, none⟩ (.int .i64 4)).putObj Dd (.deferred none) = W4 at *
    exact ⟨.int .i64 4, by simp [results, Tryz.results116, go_sem, c1], by rw [HV.out], k7⟩
  case stop =>
    rintro Dd c pre W hD hpre ⟨⟨⟨rfl, hhit⟩, hr⟩, hbw⟩ hK
    obtain ⟨rest, hrest⟩ := hpre
    have hv : vErr nm path.reverse false = (if actP (pre.map Bk.ty) then 0 else 3) := by rw [← hrest]; exact (hhit rest).out
    obtain ⟨v, hvv⟩ : ∃ v : Int, (if actP (pre.map Bk.ty) then 0 else 3) = v := ⟨_, rfl⟩
    rw [hvv] at hv hr
    have HV := Lib.hid hv
    clear hrest hv hvv hhit
    gi_wp2
    refine ⟨by simp, .inl ⟨_, _, rfl, run_takeDeferred hK, ?_⟩⟩
    have k1 : (W.putObj Dd (.deferred none)).heap[w.heap.size + 1]? = some (.cells #[.int .i64 v] 37 (0, 0)) := (World.putObj_heap_other (by omega)).trans hr
    have c1 : (W.putObj Dd (.deferred none)).cell? ⟨w.heap.size + 1, 0, none⟩ = some (.int .i64 v) := by simp [World.cell?, k1]
    have k7 := hbw.trans (belowK_b (w := w) (Nat.le_refl _) W Dd _ (.deferred none) (by omega) hK rfl rfl)
    generalize W.putObj Dd (.deferred none) = W4 at *
    exact ⟨.int .i64 v, by simp [results, Tryz.results116, go_sem, c1], by rw [HV.out], k7⟩

theorem varError_any (D : Nat) (S : Nat → Prop) (path : List Ty) (nm : ByteArray) (pa : Option Addr) (an ac : Nat) (w : World) (hS : Low S w) (har : ARow D S w (.slice pa an ac) path) (hlen : path.length ≤ 1000) :
    Calls Tryz.prog 116 #[.slice pa an ac, .string nm] w fun e w' => e = .returned (.int .i64 (vErr nm path.reverse false)) ∧ Below w.heap.size w w' :=
  callsIn_wide.1 (varError_in 3 (by omega) D S path nm pa an ac w hS har hlen)

end Go.Proofs.YtgmdmbmkljbgiaaGreatDoor

/- Types: the program's nodeError. -/
namespace Go.Proofs.YtgmdmbmkljbgiaaGreatDoor
open Go.RowKit

theorem mayStand_is (D bm : Nat) (S : Nat → Prop) (path : List Ty) (t : Ty) (kid : Int) (pa : Option Addr) (an ac b o : Nat) (m : Bool) (hm : mayStandB path kid t.k = m) (w : World) (hS : Low S w) (hr : RulesAt w bm) (har : ARow D S w (.slice pa an ac) path) (hf : ∀ u ∈ path, In64 u.k) (ht : TyAt S w t b o) (hlen : path.length ≤ 1000) :
    Calls Tryz.prog 115 #[.map (some bm), .agg #[.slice pa an ac, .int .i64 kid], .pointer (some ⟨b, o, none⟩)] w fun e w' => e = .returned (.bool m) ∧ Below w.heap.size w w' := by
  rw [← hm]; exact mayStand_any D bm S path t kid pa an ac b o w hS hr har hf ht hlen
theorem ARow.later {D : Nat} {S : Nat → Prop} {w W : World} {ar : Value} {path : List Ty} (h : ARow D S w ar path) (hS : Low S w) (hW : Below w.heap.size w W) : ARow D S W ar path := by
  refine h.kept (hW.keeps'.mono hS) (fun g o hg ho _ => (hW.block g ?_).trans ho)
  exact (Array.getElem?_eq_some_iff.1 ho).1

set_option maxRecDepth 100000 in
set_option maxHeartbeats 4000000 in
theorem nodeError_any (D bm E : Nat) (S : Nat → Prop) (path : List Ty) (t : Ty) (kid : Int) (pa : Option Addr) (an ac b o : Nat) (w : World) (hS : Low S w) (he : Env E w) (hr : RulesAt w bm) (har : ARow D S w (.slice pa an ac) path) (hf : ∀ u ∈ path, In64 u.k) (hk : In64 t.k) (ht : TyAt S w t b o) (hlen : path.length ≤ 1000) :
    Calls Tryz.prog 95 #[.map (some bm), .agg #[.slice pa an ac, .int .i64 kid], .pointer (some ⟨b, o, none⟩)] w fun e w' => e = .returned (.int .i64 (nodeErr path kid t)) ∧ Below w.heap.size w w' := by
  obtain ⟨hb', hn, ⟨c0, _, c2, _⟩, _⟩ := TyAt.eq.1 ht
  have hb := hS b hb'
  obtain ⟨f, hfs⟩ : ∃ f, t.shape = f := ⟨_, rfl⟩
  obtain ⟨m, hm⟩ : ∃ m, mayStandB path kid t.k = m := ⟨_, rfl⟩
  obtain ⟨kn, hkn⟩ : ∃ kn, knK t.k = kn := ⟨_, rfl⟩
  obtain ⟨a1, ha1⟩ : ∃ x, actB t.k = x := ⟨_, rfl⟩
  obtain ⟨a2, ha2⟩ : ∃ x, r2K t.k = x := ⟨_, rfl⟩
  obtain ⟨a3, ha3⟩ : ∃ x, r3K t.k = x := ⟨_, rfl⟩
  obtain ⟨a4, ha4⟩ : ∃ x, r4K t.k = x := ⟨_, rfl⟩
  obtain ⟨y1, hy1⟩ : ∃ x, kidsK t.k = x := ⟨_, rfl⟩
  obtain ⟨y2, hy2⟩ : ∃ x, paysK t.k = x := ⟨_, rfl⟩
  have hlk := RulesAt.look_ok (MapIs.below hr (blkBelow w #[.slice pa an ac, .int .i64 kid] 123) hr.lt) hk.1 hk.2
  simp only [ruleVal, hkn, ha1, ha2, ha3, ha4, hy1, hy2] at hlk
  have HF : Hid (kn = true → ∀ W, Below w.heap.size w W → Calls Tryz.prog 114 #[.agg #[.bool a1, .bool a2, .bool a3, .bool a4, .int .i64 y1, .int .i64 y2], .pointer (some ⟨b, o, none⟩)] W fun e w' => e = .returned (.bool f) ∧ Below W.heap.size W w') := Lib.hid (fun h W hW => by
    have hsh := fits_shape t (hkn.trans h)
    rw [ha1, ha2, ha3, ha4, hy1, hfs] at hsh
    rw [← hsh]
    exact fits_any S t b o a1 a2 a3 a4 y1 y2 E W (hS.le hW.size) (he.below (hW.mono he.size)) (ht.keep (hW.keeps'.mono hS)))
  have HM : Hid (∀ W, Below w.heap.size w W → Calls Tryz.prog 115 #[.map (some bm), .agg #[.slice pa an ac, .int .i64 kid], .pointer (some ⟨b, o, none⟩)] W fun e w' => e = .returned (.bool m) ∧ Below W.heap.size W w') := Lib.hid (fun W hW =>
    mayStand_is D bm S path t kid pa an ac b o m hm W (hS.le hW.size) (MapIs.below hr hW hr.lt) (har.later hS hW) hf (ht.keep (hW.keeps'.mono hS)) hlen)
  have HV : Hid (∀ W, Below w.heap.size w W → Calls Tryz.prog 116 #[.slice pa an ac, .string t.n] W fun e w' => e = .returned (.int .i64 (vErr t.n path.reverse false)) ∧ Below W.heap.size W w') := Lib.hid (fun W hW =>
    varError_any D S path t.n pa an ac W (hS.le hW.size) (har.later hS hW) hlen)
  have HU : Hid (kn = false → f = false) := Lib.hid (fun h => by rw [← hfs]; exact shape_unknown t (hkn.trans h))
  have HN : Hid (nodeErr path kid t = if f = false ∨ m = false then 3 else if t.k = 9 then vErr t.n path.reverse false else 0) := Lib.hid (by unfold nodeErr; rw [hfs, hm])
  rw [HN.out]
  obtain ⟨v, hv⟩ : ∃ v, vErr t.n path.reverse false = v := ⟨_, rfl⟩
  rw [hv] at HV ⊢
  obtain ⟨k, hkk⟩ : ∃ k, t.k = k := ⟨_, rfl⟩
  rw [hkk] at hlk c0 ⊢
  obtain ⟨s, hss⟩ : ∃ s, t.n = s := ⟨_, rfl⟩
  rw [hss] at HV c2
  clear hfs hm hkn ha1 ha2 ha3 ha4 hy1 hy2 hr har hf hk ht hv hkk hss HN hn
  have hbel := blkBelow w #[.slice pa an ac, .int .i64 kid] 123
  have HB0 := Lib.hid hbel
  clear hbel
  cases kn
  · rw [HU.out rfl, if_pos (.inl rfl)]
    go_enter Tryz.func95, Tryz.ntmps95
    go_wp2_with fail
    go_ret
    exact ⟨rfl, below_seq HB0.out (blkBelow _ _ _)⟩
  · have HF1 := Lib.hid (HF.out rfl)
    clear HF HU
    have HB1 : Hid (∀ o', Below w.heap.size w ((w.alloc (.cells #[.slice pa an ac, .int .i64 kid] 123)).alloc o')) := Lib.hid (fun o' => HB0.out.alloc (by simp) _)
    cases f
    · rw [if_pos (.inl rfl)]
      go_enter Tryz.func95, Tryz.ntmps95
      go_wp2_with (go_at_call 114; refine (HF1.out _ (HB1.out _)).mono ?_; rintro e w2 ⟨rfl, hb2⟩; obtain ⟨hcl, hfz⟩ := bcell hb2)
      go_ret
      exact ⟨rfl, below_seq (HB1.out _) hb2⟩
    · cases m
      · rw [if_pos (.inr rfl)]
        go_enter Tryz.func95, Tryz.ntmps95
        go_wp2_with (first | (go_at_call 114; refine (HF1.out _ (HB1.out _)).mono ?_; rintro e w2 ⟨rfl, hb2⟩; obtain ⟨hcl, hfz⟩ := bcell hb2) | (go_at_call 115; refine (HM.out _ (below_seq (HB1.out _) hb2)).mono ?_; rintro e w3 ⟨rfl, hb3⟩; obtain ⟨hcl3, hfz3⟩ := bcell (below_seq hb2 hb3)))
        go_ret
        exact ⟨rfl, below_seq (HB1.out _) (below_seq hb2 hb3)⟩
      · rw [if_neg (by decide)]
        by_cases h9 : k = 9
        · subst h9
          rw [if_pos rfl]
          go_enter Tryz.func95, Tryz.ntmps95
          go_wp2_with (first | (go_at_call 114; refine (HF1.out _ (HB1.out _)).mono ?_; rintro e w2 ⟨rfl, hb2⟩; obtain ⟨hcl, hfz⟩ := bcell hb2) | (go_at_call 115; refine (HM.out _ (below_seq (HB1.out _) hb2)).mono ?_; rintro e w3 ⟨rfl, hb3⟩; clear hcl hfz; have c3 := ((below_seq (HB1.out _) (below_seq hb2 hb3)).cell (p := ⟨b, o, none⟩) hb).trans c0))
          have hw3 : Below w.heap.size w w3 := below_seq (HB1.out _) (below_seq hb2 hb3)
          have hw4 := below_seq (blkBelow _ _ _) (below_seq hb2 hb3)
          have p1 : ∀ q : Later w3.heap.size w3, q.1.cell? ⟨w.heap.size, 0, none⟩ = some (.slice pa an ac) := fun q => (q.2.cell (p := ⟨w.heap.size, 0, none⟩) (by have := hw4.size; simp at this; simp; omega)).trans ((hw4.cell (p := ⟨w.heap.size, 0, none⟩) (by simp)).trans (blk_cell (Below.refl _ _) 0 rfl))
          have p2 : ∀ q : Later w3.heap.size w3, q.1.cell? ⟨b, o + 2, none⟩ = some (.string s) := fun q => (q.2.cell (p := ⟨b, _, none⟩) (by have := hw3.size; simp; omega)).trans ((hw3.cell (p := ⟨b, _, none⟩) hb).trans c2)
          clear c3
          refine wp_region_later w3.heap.size w3 (by kernel_rfl) (by kernel_rfl) (Below.refl _ _) ?_
          repeat (go_big_quiet_step ((go_at_call 116; exact later_call _ (Nat.le_refl _) (HV.out _ (hw3.trans (Below.mono (Subtype.property _) hw3.size))))))
          refine wpQuiet_nil ?_
          rintro _ ⟨⟨w5, hb5⟩, rfl⟩
          clear p1 p2
          go_wp2_with fail
          go_ret
          exact ⟨rfl, hw3.trans (hb5.mono hw3.size)⟩
        · have h9' : (k == 9) = false := by simpa using h9
          rw [if_neg h9]
          clear h9
          go_enter Tryz.func95, Tryz.ntmps95
          go_wp2_with (first | (go_at_call 114; refine (HF1.out _ (HB1.out _)).mono ?_; rintro e w2 ⟨rfl, hb2⟩; obtain ⟨hcl, hfz⟩ := bcell hb2) | (go_at_call 115; refine (HM.out _ (below_seq (HB1.out _) hb2)).mono ?_; rintro e w3 ⟨rfl, hb3⟩; clear hcl hfz; have c3 := ((below_seq (HB1.out _) (below_seq hb2 hb3)).cell (p := ⟨b, o, none⟩) hb).trans c0))
          go_ret
          exact ⟨rfl, below_seq (HB1.out _) (below_seq hb2 hb3)⟩

end Go.Proofs.YtgmdmbmkljbgiaaGreatDoor

/- Types: the program's Right. -/
namespace Go.Proofs.YtgmdmbmkljbgiaaGreatDoor
open Go.RowKit Go.Deep Go.Shelf
attribute [local go_sem] Oper.semAt_some

mutual
/-- All kinds are numbers that a word holds. -/
def Ty.fine : Ty → Prop
  | .mk k _ _ _ _ ts => In64 k ∧ Ty.fines ts
def Ty.fines : List Ty → Prop
  | [] => True
  | t :: r => t.fine ∧ Ty.fines r
end
theorem Ty.fine_k {t : Ty} (h : t.fine) : In64 t.k := by cases t; exact h.1
theorem Ty.fines_mem : ∀ {l : List Ty}, Ty.fines l → ∀ u ∈ l, u.fine
  | [], _, _, hu => by cases hu
  | t :: r, h, u, hu => by
    rcases List.mem_cons.1 hu with rfl | hu
    · exact h.1
    · exact Ty.fines_mem h.2 u hu
theorem Ty.fine_ts {t : Ty} (h : t.fine) : ∀ u ∈ t.ts, u.fine := by cases t; exact Ty.fines_mem h.2
/-- The nodes around, and the node, are fine. -/
def FineAt (path : List Ty) (t : Ty) : Prop := (∀ u ∈ path, In64 u.k) ∧ t.fine
theorem fineAt_down (path : List Ty) (t : Ty) (h : FineAt path t) : ∀ u ∈ t.ts, FineAt (path ++ [t]) u := fun u hu =>
  ⟨fun v hv => by
    rcases List.mem_append.1 hv with hv | hv
    · exact h.1 v hv
    · simp at hv; rw [hv]; exact Ty.fine_k h.2, Ty.fine_ts h.2 u hu⟩

set_option maxRecDepth 100000 in
set_option maxHeartbeats 1000000 in
/-- The iterator that nodes returns tells each node, its place and the nodes around it, all of them fine. -/
theorem nodes_fine (n : Nat) (Bt b o : Nat) (t : Ty) (S X : Nat → Prop) (w : World) (hX : ∀ k, X k → ¬ S k ∧ k < w.heap.size) (hS : ∀ k, S k → k < w.heap.size) (hBt : Bt < w.heap.size) (hc : w.cell? ⟨Bt, 0, none⟩ = some (.pointer (some ⟨b, o, none⟩))) (hty : TyAt S w t b o) (hdep : t.depth ≤ 1000) (hf : t.fine) :
    Tells Fence.wide n Tryz.prog 112 #[.pointer (some ⟨Bt, 0, none⟩)] ndArgs (fun x W => Px w.heap.size S x W ∧ FineAt x.path x.ty) (Kp X) (fun ys => ys.map Nd.g = preT [] 0 t) (fun pre => pre.map Nd.g <+: preT [] 0 t) w := by
  intro l J Jx W hW hJ _ hY h0
  have hp := visit_g FineAt fineAt_down Fence.wide rfl (fun _ => trivial) rfl l W.heap.size S X (fun k hk => ⟨(hX k hk).1, Nat.lt_of_lt_of_le (hX k hk).2 hW.size⟩) (fun k hk => Nat.lt_of_lt_of_le (hS k hk) hW.size) J Jx hJ
    (fun m pre x W1 hj hpx hg _ => yield_any rfl m (hY pre x W1 hj ⟨⟨hpx.1.low hW.size, hpx.2⟩, hg⟩)) t (n - 1) [] 0 none 0 0 b o [] W (Nat.le_refl _) h0 (hty.keep (hW.keeps'.mono hS)) ⟨[], rfl, World.ownsRow_nil _ _ _ _, fun i a u ha _ => by simp at ha⟩ (by simpa using hdep) ⟨fun u hu => (by cases hu), hf⟩
  have hc' := (hW.cell (p := ⟨Bt, 0, none⟩) hBt).trans hc
  have HP := Lib.hid hp
  clear hp hY h0 hJ
  refine callsIn_of_wp Tryz.func112 rfl trivial ?_ rfl
  simp only [Tryz.ntmps112, List.size_toArray, List.length_cons, List.length_nil, Nat.reduceAdd, Nat.reduceSub, Array.replicate_succ, Array.replicate_zero, List.push_toArray, List.append_toArray, List.nil_append, List.cons_append]
  gi_wp2_with fail
  refine ⟨trivial, ⟨fun h => (by cases h), ?_⟩⟩
  refine HP.out.mono ?_
  rintro e W1 (⟨rfl, ⟨ys, h1, h2⟩, _, _⟩ | ⟨rfl, ys, h1, h2⟩)
  · have H1 := Lib.hid h1
    have H2 := Lib.hid h2
    clear h1 h2
    gi_wp2
    go_end0
    exact ⟨⟨_, rfl⟩, .inl ⟨ys, H1.out, by simpa using H2.out⟩⟩
  · have H1 := Lib.hid h1
    have H2 := Lib.hid h2
    clear h1 h2
    gi_wp2
    go_end0
    exact ⟨⟨_, rfl⟩, .inr ⟨ys, H1.out, by simpa using H2.out⟩⟩

theorem large_is (S : Nat → Prop) (t : Ty) (hdep : t.depth ≤ 1000) (bt o : Nat) (b : Bool) (h : t.large = b) (w : World) (hS : Low S w) (hty : TyAt S w t bt o) :
    Calls Tryz.prog 92 #[.pointer (some ⟨bt, o, none⟩)] w fun e w' => e = .returned (.bool b) ∧ Below w.heap.size w w' := by
  rw [← h]; exact tooLarge_any S t hdep bt o w hS hty

theorem firstE_prefix {l r : List (List Ty × Int × Ty)} (h : l <+: r) (hl : firstE l ≠ 0) : firstE r = firstE l := by
  obtain ⟨s, rfl⟩ := h
  rw [firstE_append, if_neg hl]

def RulesIn (W : World) (bm : Nat) : Prop := RulesAt W bm
theorem abides_rules {β : Type} {D bm : Nat} (hb : bm < D) : AbidesAll D (fun (_ : β) W => RulesIn W bm) :=
  fun _ _ _ _ hs hg hr => MapIs.kept hs hg (fun e => by have := hr bm e.symm; omega)
theorem abides_env {β : Type} {D E : Nat} (hb : E ≤ D) : AbidesAll D (fun (_ : β) W => Env E W) :=
  fun _ A _ _ hs hg hr => hs.below ((Below.refl E A).grown hg hs.size (fun k e => Nat.le_trans hb (hr k e)))

theorem keepsOthers_below {A B : World} (h : Below A.heap.size A B) : KeepsOthers A B := ⟨h.size, fun k _ hk _ => (h.block k (Array.getElem?_eq_some_iff.1 hk).1).trans hk⟩
theorem firstE_snoc (l : List (List Ty × Int × Ty)) (x : List Ty × Int × Ty) (h : firstE l = 0) : firstE (l ++ [x]) = nodeErr x.1 x.2.1 x.2.2 := by
  rw [firstE_append, if_pos h]
  simp only [firstE]
  split
  · rename_i h0; exact h0.symm
  · rfl
theorem nodeError_is (D bm E : Nat) (S : Nat → Prop) (path : List Ty) (t : Ty) (kid : Int) (pa : Option Addr) (an ac b o : Nat) (v : Int) (hv : nodeErr path kid t = v) (w : World) (hS : Low S w) (he : Env E w) (hr : RulesIn w bm) (har : ARow D S w (.slice pa an ac) path) (hf : FineAt path t) (ht : TyAt S w t b o) (hlen : path.length ≤ 1000) :
    Calls Tryz.prog 95 #[.map (some bm), .agg #[.slice pa an ac, .int .i64 kid], .pointer (some ⟨b, o, none⟩)] w fun e w' => e = .returned (.int .i64 v) ∧ Below w.heap.size w w' := by
  rw [← hv]; exact nodeError_any D bm E S path t kid pa an ac b o w hS he hr har hf.1 (Ty.fine_k hf.2) ht hlen

set_option maxRecDepth 100000 in
set_option maxHeartbeats 4000000 in
theorem tright_in (n : Nat) (hn : 3 ≤ n) (E : Nat) (B : Nat → Prop) (t : Ty) (hf : t.fine) (hdep : t.depth ≤ 1000) (lv kv : Value) (w : World) (hB : Low B w) (he : Env E w) (hv : TyVal B w (.agg #[.int .i64 t.k, .int .i64 t.p, .string t.n, .int .i64 t.s, lv, kv]) t) :
    CallsIn Fence.wide n Tryz.prog 62 #[.agg #[.int .i64 t.k, .int .i64 t.p, .string t.n, .int .i64 t.s, lv, kv]] w fun e w' => e = .returned (.int .i64 (rightE t)) ∧ Below w.heap.size w w' := by
  have h1 : 1 ≤ n := by omega
  have h6 := (Six.new w (.int .i64 t.k) (.int .i64 t.p) (.string t.n) (.int .i64 t.s) lv kv)
  have hbx : Below w.heap.size w ((w.alloc (cell6 t.k t.p t.n t.s lv kv)).alloc (.cells #[.int .i64 0] 37)) := box2_below w _ _
  have hty := boxed_tyAt (S := fun k => B k ∨ k = w.heap.size) (h6.to ((Below.refl _ _).alloc (by simp) (.cells #[.int .i64 0] 37))) (hv.to hB hbx) (fun _ h => .inl h) (.inr rfl)
  have hS : Low (fun k => B k ∨ k = w.heap.size) ((w.alloc (cell6 t.k t.p t.n t.s lv kv)).alloc (.cells #[.int .i64 0] 37)) := fun k h => h.elim (fun h => by have := hB k h; simp; omega) (fun h => by simp; omega)
  cases hlg : t.large with
  | true =>
    have HL := Lib.hid (large_is _ t hdep w.heap.size 0 true hlg _ hS hty)
    have HE : Hid (rightE t = 2) := Lib.hid (by unfold rightE; rw [hlg]; rfl)
    rw [HE.out]
    clear hlg h6 hty hv hS
    refine callsIn_of_wp_marks Tryz.func62 rfl trivial ?_ rfl
    simp only [Tryz.ntmps62, List.size_toArray, List.length_cons, List.length_nil, Nat.reduceAdd, Nat.reduceSub, Array.replicate_succ, Array.replicate_zero, List.push_toArray, List.append_toArray, List.nil_append, List.cons_append]
    gi_wp2_with (refine ⟨trivial, ?_⟩; gi_at_call 92; refine (callsIn_wide.2 HL.out).mono ?_; rintro e w' ⟨rfl, hb2⟩; obtain ⟨hcl, hfz⟩ := bcell hb2)
    have k0 : w'.heap[w.heap.size + 1]? = some (.cells #[.int .i64 0] 37 (0, 0)) := (hb2.block (w.heap.size + 1) (by simp)).trans (by have h := World.alloc_heap_new (w.alloc (cell6 t.k t.p t.n t.s lv kv)) (.cells #[.int .i64 0] 37); rw [World.size_alloc] at h; exact h)
    have k1 := set_block k0 0 (.int .i64 2)
    have c1 : (w'.setCell ⟨w.heap.size + 1, 0, none⟩ (.int .i64 2)).cell? ⟨w.heap.size + 1, 0, none⟩ = some (.int .i64 2) := by simp [World.cell?, k1]
    have k7 := (below_seq hbx hb2).setCell (p := ⟨w.heap.size + 1, 0, none⟩) (by simp) (.int .i64 2)
    generalize w'.setCell ⟨w.heap.size + 1, 0, none⟩ (.int .i64 2) = W4 at *
    exact ⟨.int .i64 2, by simp [results, Tryz.results62, go_sem, c1], rfl, k7⟩
  | false =>
    have HL := Lib.hid (large_is _ t hdep w.heap.size 0 false hlg _ hS hty)
    have HE : Hid (rightE t = firstE (preT [] 0 t)) := Lib.hid (by unfold rightE; rw [hlg]; rfl)
    rw [HE.out]
    clear hlg
    refine callsIn_of_wp_marks Tryz.func62 rfl trivial ?_ rfl
    simp only [Tryz.ntmps62, List.size_toArray, List.length_cons, List.length_nil, Nat.reduceAdd, Nat.reduceSub, Array.replicate_succ, Array.replicate_zero, List.push_toArray, List.append_toArray, List.nil_append, List.cons_append]
    gi_wp2_with (first | (refine ⟨trivial, ?_⟩; gi_at_call 92; refine (callsIn_wide.2 HL.out).mono ?_; rintro e w2 ⟨rfl, hb2⟩; obtain ⟨hcl, hfz⟩ := bcell hb2) | (refine ⟨trivial, ?_⟩; gi_at_call 93; refine (callsIn_wide.2 (rules_any _)).mono ?_; rintro e w3 ⟨bm, rfl, hru, hb3, hbm⟩) | (refine ⟨trivial, ?_⟩; gi_at_call 94; refine (callsIn_wide.2 (nodes_any _ _)).mono ?_; rintro e w' ⟨rfl, rfl⟩))
    have hsw : w.heap.size + 2 ≤ w2.heap.size := by have := hb2.size; simp at this; omega
    have hb02 : Below w.heap.size w w2 := below_seq hbx hb2
    have hb03 : Below w.heap.size w w3 := below_seq hb02 hb3
    have hs3 := hb3.size
    have hbel : Below w.heap.size w ((w3.alloc (.cells #[.map (some bm)] 116)).alloc (.cells #[.pointer (some ⟨w.heap.size, 0, none⟩)] 115)) := below_seq hb03 (box2_below w3 _ _)
    have hbel2 : Below (w.heap.size + 2) ((w.alloc (cell6 t.k t.p t.n t.s lv kv)).alloc (.cells #[.int .i64 0] 37)) ((w3.alloc (.cells #[.map (some bm)] 116)).alloc (.cells #[.pointer (some ⟨w.heap.size, 0, none⟩)] 115)) :=
      (hb2.mono (by simp)).trans ((hb3.mono hsw).trans ((box2_below w3 _ _).mono (by omega)))
    have hr0 : ((w3.alloc (.cells #[.map (some bm)] 116)).alloc (.cells #[.pointer (some ⟨w.heap.size, 0, none⟩)] 115)).heap[w.heap.size + 1]? = some (.cells #[.int .i64 0] 37 (0, 0)) :=
      (hbel2.block (w.heap.size + 1) (by omega)).trans (by have h := World.alloc_heap_new (w.alloc (cell6 t.k t.p t.n t.s lv kv)) (.cells #[.int .i64 0] 37); rw [World.size_alloc] at h; exact h)
    have hm0 : ((w3.alloc (.cells #[.map (some bm)] 116)).alloc (.cells #[.pointer (some ⟨w.heap.size, 0, none⟩)] 115)).heap[w3.heap.size]? = some (.cells #[.map (some bm)] 116 (0, 0)) :=
      (Below.heap_alloc _ _ _ (by simp)).trans (World.alloc_heap_new w3 _)
    have hp0 : ((w3.alloc (.cells #[.map (some bm)] 116)).alloc (.cells #[.pointer (some ⟨w.heap.size, 0, none⟩)] 115)).cell? ⟨w3.heap.size + 1, 0, none⟩ = some (.pointer (some ⟨w.heap.size, 0, none⟩)) := by
      have h := blk_cell (w := w3.alloc (.cells #[.map (some bm)] 116)) (cs := #[.pointer (some ⟨w.heap.size, 0, none⟩)]) (t := 115) (Below.refl _ _) 0 rfl
      rw [World.size_alloc] at h; exact h
    have hty0 := hty.keep ((hbel2.keeps'.mono (fun k h => h.elim (fun h => by have := hB k h; omega) (fun h => by omega) : ∀ k, (B k ∨ k = w.heap.size) → k < w.heap.size + 2)))
    have hru0 : RulesIn ((w3.alloc (.cells #[.map (some bm)] 116)).alloc (.cells #[.pointer (some ⟨w.heap.size, 0, none⟩)] 115)) bm := MapIs.below hru (box2_below w3 _ _) (MapIs.lt hru)
    have hen0 : Env E ((w3.alloc (.cells #[.map (some bm)] 116)).alloc (.cells #[.pointer (some ⟨w.heap.size, 0, none⟩)] 115)) := he.to hbel
    have hbml := MapIs.lt hru
    have hsz0 : ((w3.alloc (.cells #[.map (some bm)] 116)).alloc (.cells #[.pointer (some ⟨w.heap.size, 0, none⟩)] 115)).heap.size = w3.heap.size + 2 := by simp
    obtain ⟨W0, hW0⟩ : ∃ W0, ((w3.alloc (.cells #[.map (some bm)] 116)).alloc (.cells #[.pointer (some ⟨w.heap.size, 0, none⟩)] 115)) = W0 := ⟨_, rfl⟩
    rw [hW0] at hbel hr0 hm0 hp0 hty0 hru0 hen0 hsz0 ⊢
    obtain ⟨m3, hm3⟩ : ∃ m3, w3.heap.size = m3 := ⟨_, rfl⟩
    rw [hm3] at hm0 hp0 hsz0 hs3 hbml ⊢
    clear hW0 hbel2 hru hb3 hb03 hb02 hb2 hty hS hcl hfz h6 hbx hm3
    have hX : ∀ k, (fun _ : Nat => False) k → ¬ (B k ∨ k = w.heap.size) ∧ k < W0.heap.size := fun k e => e.elim
    have hS0 : ∀ k, (B k ∨ k = w.heap.size) → k < W0.heap.size := fun k h => h.elim (fun h => by have := hB k h; omega) (fun h => by omega)
    have hEs := he.size
    refine wpIn_range_told rfl h1 (gf := 112) (lb := #[.pointer (some ⟨m3 + 1, 0, none⟩)]) rfl trivial (enters_of Tryz.func112 (by kernel_rfl) rfl)
      (nodes_fine (n - 1) (m3 + 1) w.heap.size 0 t (fun k => B k ∨ k = w.heap.size) (fun _ => False) W0 hX hS0 (by omega) hp0 hty0 hdep hf) (fun h g => KV.trans h g) (fun W l o o' _ h ho _ => KV.of_cells (by simp) (cellsKept_put h ho)) (fun x A B h hp => ⟨Px.kept h hp.1, hp.2⟩) (Below.refl _ _) (fun _ => rfl)
      (fun pre W => ((W.heap[w.heap.size + 1]? = some (.cells #[.int .i64 0] 37 (0, 0)) ∧ W.heap[m3]? = some (.cells #[.map (some bm)] 116 (0, 0))) ∧ (RulesIn W bm ∧ Env E W)) ∧ (firstE (pre.map Nd.g) = 0 ∧ Below w.heap.size w W))
      (fun c pre W => ((c = .ret ∧ firstE (pre.map Nd.g) ≠ 0) ∧ W.heap[w.heap.size + 1]? = some (.cells #[.int .i64 (firstE (pre.map Nd.g))] 37 (0, 0))) ∧ Below w.heap.size w W)
      ((((abides_boxed (by omega) _ (fun _ => .int .i64 0)).and (abides_boxed (by omega) _ (fun _ => .map (some bm)))).and ((abides_rules (by omega)).and (abides_env (by omega)))).and ((abidesAll_pure _ _).and (abidesAll_below (by omega) (Nat.le_refl _))))
      (fun c => (((abidesAll_pure _ _).and (abides_boxed (by omega) _ (fun pre : List Nd => .int .i64 (firstE (pre.map Nd.g))))).and (abidesAll_below (by omega) (Nat.le_refl _)))) ⟨⟨⟨hr0, hm0⟩, hru0, hen0⟩, rfl, hbel⟩
      (fun x a' W => ∃ b4, PlaceBox 0 x b4 W ∧ a' = { tmps := #[.agg #[.int .i64 t.k, .int .i64 t.p, .string t.n, .int .i64 t.s, lv, kv], .pointer (some ⟨w.heap.size, 0, none⟩), .pointer (some ⟨w.heap.size + 1, 0, none⟩), .pointer (some ⟨m3, 0, none⟩), .pointer (some ⟨b4, 0, none⟩), .pointer (some ⟨x.b, x.o, none⟩), undef, .bool false, .map (some bm),
        .func (.func 112) #[] #[.pointer (some ⟨m3 + 1, 0, none⟩)], .agg #[x.ar, .int .i64 x.kid], .pointer (some ⟨x.b, x.o, none⟩), undef, undef, undef, undef, undef, undef, undef], defers := [] }) (fun x a' A B hk ⟨b3, hb, e⟩ => ⟨b3, hb.kept hk, e⟩) ?assign ?body ?done ?stop
    case assign =>
      intro l pre x W K hi hp hK
      simp only [ndArgs]
      obtain ⟨pa, ac, har⟩ := hp.1.ar_eq
      have HI := Lib.hid hi
      have HP := Lib.hid hp
      clear hi hp
      gi_wp2
      have hck := cellsKept_alloc W (.cells #[.slice pa x.path.length ac, .int .i64 x.kid] 123)
      have hbl := blkBelow W #[.slice pa x.path.length ac, .int .i64 x.kid] 123
      exact hK _ _ ((KeepsOthers.alloc _ _).from _) (KV.of_cells (by simp) hck) ⟨⟨⟨hck _ _ HI.out.1.1.1 rfl, hck _ _ HI.out.1.1.2 rfl⟩, MapIs.below HI.out.1.2.1 hbl (MapIs.lt HI.out.1.2.1), HI.out.1.2.2.to hbl⟩, HI.out.2.1, below_seq' HI.out.2.2 hbl⟩ ⟨Px.kept hck HP.out.1, HP.out.2⟩ ⟨W.heap.size, ⟨Nat.zero_le _, by rw [har]; exact World.alloc_heap_new W _⟩, by rw [har]⟩
    case body =>
      rintro l pre x a' W hl _ ⟨⟨⟨hr, hm⟩, hru, hen⟩, hfe, hbw⟩ ⟨hpx, hfx⟩ ⟨b3, ⟨_, hpb⟩, rfl⟩
      obtain ⟨pa, ac, har⟩ := hpx.ar_eq
      have hlW := (Array.getElem?_eq_some_iff.1 hm).1
      have hSW : Low (fun k => B k ∨ k = w.heap.size) W := fun k h => h.elim (fun h => by have := hB k h; omega) (fun h => by omega)
      obtain ⟨v, hv⟩ : ∃ v, nodeErr x.path x.kid x.ty = v := ⟨_, rfl⟩
      have hrow := hpx.1
      rw [har] at hpb hrow ⊢
      have HN := Lib.hid (nodeError_is W0.heap.size bm E _ x.path x.ty x.kid pa x.path.length ac x.b x.o v hv W hSW hen hru hrow hfx hpx.2.1 hpx.2.2)
      have HF : Hid (firstE ((pre ++ [x]).map Nd.g) = v) := Lib.hid (by rw [List.map_append, List.map_cons, List.map_nil, firstE_snoc _ _ hfe]; exact hv)
      have c0 : W.cell? ⟨m3, 0, none⟩ = some (.map (some bm)) := by simp [World.cell?, hm]
      have r0 : W.cell? ⟨w.heap.size + 1, 0, none⟩ = some (.int .i64 0) := by simp [World.cell?, hr]
      have r1 : W.frozen? ⟨w.heap.size + 1, 0, none⟩ = false := by simp [World.frozen?, hr]
      have d0 : W.cell? ⟨b3, 0, none⟩ = some (.slice pa x.path.length ac) := by simp [World.cell?, hpb]
      have d1 : W.cell? ⟨b3, 1, none⟩ = some (.int .i64 x.kid) := by simp [World.cell?, hpb]
      have hrl := (Array.getElem?_eq_some_iff.1 hr).1
      have HR := Lib.hid hr
      have HM := Lib.hid hm
      have HRU := Lib.hid hru
      have HEN := Lib.hid hen
      clear hr hm hru hen hpx hfx har hv hfe hpb hrow
      by_cases h0 : v = 0
      · subst h0
        gi_wp2_with (refine ⟨trivial, ⟨fun h => (by cases h), ?_⟩⟩; refine (CallsIn.inRound l (callsIn_wide.2 HN.out)).mono ?_; rintro e w5 ⟨rfl, hb5⟩)
        refine ⟨(keepsOthers_below hb5).from _, KV.of_below hb5, ⟨⟨⟨(hb5.block _ hrl).trans HR.out, (hb5.block _ hlW).trans HM.out⟩, MapIs.below HRU.out hb5 (MapIs.lt HRU.out), HEN.out.to hb5⟩, HF.out, below_seq hbw hb5⟩⟩
      · have h0' : (v != 0) = true := by simpa using h0
        gi_wp2_with (refine ⟨trivial, ⟨fun h => (by cases h), ?_⟩⟩; refine (CallsIn.inRound l (callsIn_wide.2 HN.out)).mono ?_; rintro e w5 ⟨rfl, hb5⟩; obtain ⟨hcl, hfz⟩ := bcell hb5)
        refine ⟨((keepsOthers_below hb5).trans (KeepsOthers.setCell _ _ _)).from _, ⟨⟨rfl, by rw [HF.out]; exact h0⟩, ?_⟩, (below_seq hbw hb5).setCell (p := ⟨w.heap.size + 1, 0, none⟩) (by simp) _⟩
        rw [HF.out]
        exact set_block ((hb5.block _ hrl).trans HR.out) 0 _
    case done =>
      rintro D ys W hD hys ⟨⟨⟨hr, _⟩, _⟩, hfe, hbw⟩ hK
      have hv : firstE (preT [] 0 t) = 0 := by rw [← hys]; exact hfe
      have r0 : W.cell? ⟨w.heap.size + 1, 0, none⟩ = some (.int .i64 0) := by simp [World.cell?, hr]
      have r1 : W.frozen? ⟨w.heap.size + 1, 0, none⟩ = false := by simp [World.frozen?, hr]
      have HK := Lib.hid hK
      have HR := Lib.hid hr
      have HV := Lib.hid hv
      clear hys hK hr hv hfe
      gi_wp2
      have k3 : (W.setCell ⟨w.heap.size + 1, 0, none⟩ (.int .i64 0)).heap[D]? = some (.deferred (some [])) := (Below.heap_setCell _ _ _ D (by simp; omega)).trans HK.out
      refine ⟨by simp, .inl ⟨_, _, rfl, run_takeDeferred k3, ?_⟩⟩
      have k1 : ((W.setCell ⟨w.heap.size + 1, 0, none⟩ (.int .i64 0)).putObj D (.deferred none)).heap[w.heap.size + 1]? = some (.cells #[.int .i64 0] 37 (0, 0)) := (World.putObj_heap_other (by omega)).trans (set_block HR.out 0 _)
      have c1 : ((W.setCell ⟨w.heap.size + 1, 0, none⟩ (.int .i64 0)).putObj D (.deferred none)).cell? ⟨w.heap.size + 1, 0, none⟩ = some (.int .i64 0) := by simp [World.cell?, k1]
      have k7 := (hbw.setCell (p := ⟨w.heap.size + 1, 0, none⟩) (by simp) (.int .i64 0)).trans (belowK_b (w := w) (Nat.le_refl _) _ D _ (.deferred none) (by omega) k3 rfl rfl)
      generalize (W.setCell ⟨w.heap.size + 1, 0, none⟩ (.int .i64 0)).putObj D (.deferred none) = W4 at *
      exact ⟨.int .i64 0, by simp [results, Tryz.results62, go_sem, c1], by rw [HV.out], k7⟩
    case stop =>
      rintro D c pre W hD hpre ⟨⟨⟨rfl, hne⟩, hr⟩, hbw⟩ hK
      have hv : firstE (preT [] 0 t) = firstE (pre.map Nd.g) := firstE_prefix hpre hne
      obtain ⟨v, hvv⟩ : ∃ v, firstE (pre.map Nd.g) = v := ⟨_, rfl⟩
      rw [hvv] at hv hr
      have HV := Lib.hid hv
      clear hv hvv hpre hne
      gi_wp2
      refine ⟨by simp, .inl ⟨_, _, rfl, run_takeDeferred hK, ?_⟩⟩
      have k1 : (W.putObj D (.deferred none)).heap[w.heap.size + 1]? = some (.cells #[.int .i64 v] 37 (0, 0)) := (World.putObj_heap_other (by omega)).trans hr
      have c1 : (W.putObj D (.deferred none)).cell? ⟨w.heap.size + 1, 0, none⟩ = some (.int .i64 v) := by simp [World.cell?, k1]
      have k7 := hbw.trans (belowK_b (w := w) (Nat.le_refl _) W D _ (.deferred none) (by omega) hK rfl rfl)
      generalize W.putObj D (.deferred none) = W4 at *
      exact ⟨.int .i64 v, by simp [results, Tryz.results62, go_sem, c1], by rw [HV.out], k7⟩

theorem tright_any (E : Nat) (B : Nat → Prop) (t : Ty) (hf : t.fine) (hdep : t.depth ≤ 1000) (v : Value) (w : World) (hB : Low B w) (he : Env E w) (hv : TyVal B w v t) :
    Calls Tryz.prog 62 #[v] w fun e w' => e = .returned (.int .i64 (rightE t)) ∧ Below w.heap.size w w' := by
  have hv' := hv
  obtain ⟨lv, kv, rfl, _⟩ := hv'
  exact callsIn_wide.1 (tright_in 3 (by omega) E B t hf hdep lv kv w hB he hv)

end Go.Proofs.YtgmdmbmkljbgiaaGreatDoor
