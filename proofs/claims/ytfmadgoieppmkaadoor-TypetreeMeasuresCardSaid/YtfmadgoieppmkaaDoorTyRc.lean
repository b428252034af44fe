/- Types: the program's listsFit and fits. -/
import Derived.Test.YtfmadgoieppmkaaDoorTyRb
namespace Go.Proofs.YtfmadgoieppmkaaDoor
open Go.RowKit

def listsB (labels : Bool) (kids : Int) (ls : List ByteArray) (m : Nat) : Bool :=
  if labels then (!ls.isEmpty && (decide (m = ls.length) && labelsB ls)) else (ls.isEmpty && decide ((m : Int) = kids))

set_option maxHeartbeats 2000000 in
theorem listsFit_any (B : Nat → Prop) (t : Ty) (bt o : Nat) (a1 a2 a3 a4 : Bool) (kids pay : Int) (E : Nat) (w : World) (hB : Low B w) (he : Env E w) (ht : TyAt B w t bt o) :
    Calls Tryd.prog 107 #[.agg #[.bool a1, .bool a2, .bool a3, .bool a4, .int .i64 kids, .int .i64 pay], .pointer (some ⟨bt, o, none⟩)] w fun e w' => e = .returned (.bool (listsB a4 kids t.ls t.ts.length)) ∧ Below w.heap.size w w' := by
  obtain ⟨hb, hn, ⟨c0, c1, c2, c3⟩, lv, kv, c4, c5, hl, hkv⟩ := TyAt.eq.1 ht
  have hbt := hB bt hb
  have HDf := Lib.hid (fun W (hW : Below w.heap.size w W) => differentNames_any B lv t.ls E W (hB.le hW.size) (he.below (hW.mono he.size)) (hl.keep (hW.keeps'.mono hB)))
  obtain ⟨pa, len, c, rfl, hlen, hm, hget⟩ := hkv.open
  obtain ⟨la, ln, lc, rfl, hlln, hlm, hlget⟩ := hl.open
  have hls : t.ls.isEmpty = decide (ln = 0) := by rw [hlln.out]; cases t.ls <;> simp
  have hs : listsB a4 kids t.ls t.ts.length = if a4 then (!decide (ln = 0) && (decide (len = ln) && labelsB t.ls)) else (decide (ln = 0) && decide ((len : Int) = kids)) := by
    unfold listsB; rw [hls, hlen.out, hlln.out]
  rw [hs]
  clear hs hls hget hlget hl hkv hlen hlln ht hn
  cases a4
  · rw [if_neg (by decide)]
    have q4 : ∀ q : Later (w.heap.size + 1) (w.alloc (.cells #[.bool a1, .bool a2, .bool a3, .bool false, .int .i64 kids, .int .i64 pay] 107)), q.1.cell? ⟨bt, o + 4, none⟩ = some (.slice la ln lc) := fun q => ((blk_below q.2).cell (p := ⟨bt, _, none⟩) hbt).trans c4
    have q5 : ∀ q : Later (w.heap.size + 1) (w.alloc (.cells #[.bool a1, .bool a2, .bool a3, .bool false, .int .i64 kids, .int .i64 pay] 107)), q.1.cell? ⟨bt, o + 5, none⟩ = some (.slice pa len c) := fun q => ((blk_below q.2).cell (p := ⟨bt, _, none⟩) hbt).trans c5
    have q6 : ∀ q : Later (w.heap.size + 1) (w.alloc (.cells #[.bool a1, .bool a2, .bool a3, .bool false, .int .i64 kids, .int .i64 pay] 107)), q.1.cell? ⟨w.heap.size, 4, none⟩ = some (.int .i64 kids) := fun q => blk_cell q.2 4 rfl
    have HR : Hid (Below (w.heap.size + 1) (w.alloc (.cells #[.bool a1, .bool a2, .bool a3, .bool false, .int .i64 kids, .int .i64 pay] 107)) (w.alloc (.cells #[.bool a1, .bool a2, .bool a3, .bool false, .int .i64 kids, .int .i64 pay] 107))) := Lib.hid (Below.refl _ _)
    have hsz0 : w.heap.size + 1 ≤ (w.alloc (.cells #[.bool a1, .bool a2, .bool a3, .bool false, .int .i64 kids, .int .i64 pay] 107)).heap.size := by simp
    have HSZ := Lib.hid hsz0
    clear hsz0 c0 c1 c2 c3 c4 c5
    by_cases h0 : ln = 0
    · subst h0
      by_cases h1 : (len : Int) = kids
      · have h2 : ((len : Int) == kids) = true := by simpa using h1
        rw [show decide ((len : Int) = kids) = true by simpa using h1]
        clear h1
        go_enter Tryd.func107, Tryd.ntmps107
        go_wp2_with fail
        refine wp_region_later (w.heap.size + 1) (w.alloc (.cells #[.bool a1, .bool a2, .bool a3, .bool false, .int .i64 kids, .int .i64 pay] 107)) (by kernel_rfl) (by kernel_rfl) HR.out ?_
        repeat (go_big_quiet_step (first | (go_at_call 125; exact later_call _ HSZ.out (HDf.out _ (blk_below (Subtype.property _))))))
        refine wpQuiet_nil ?_
        rintro _ ⟨⟨w5, hb5⟩, rfl⟩
        clear q4 q5 q6
        go_wp2_with fail
        go_ret
        exact ⟨ret_bool (by first | rfl | (simp; done) | (simp; omega) | (rw [Bool.eq_iff_iff]; simp; omega)), blk_below hb5⟩
      · have h2 : ((len : Int) == kids) = false := by simpa using h1
        rw [show decide ((len : Int) = kids) = false by simpa using h1]
        clear h1
        go_enter Tryd.func107, Tryd.ntmps107
        go_wp2_with fail
        refine wp_region_later (w.heap.size + 1) (w.alloc (.cells #[.bool a1, .bool a2, .bool a3, .bool false, .int .i64 kids, .int .i64 pay] 107)) (by kernel_rfl) (by kernel_rfl) HR.out ?_
        repeat (go_big_quiet_step (first | (go_at_call 125; exact later_call _ HSZ.out (HDf.out _ (blk_below (Subtype.property _))))))
        refine wpQuiet_nil ?_
        rintro _ ⟨⟨w5, hb5⟩, rfl⟩
        clear q4 q5 q6
        go_wp2_with fail
        go_ret
        exact ⟨ret_bool (by first | rfl | (simp; done) | (simp; omega) | (rw [Bool.eq_iff_iff]; simp; omega)), blk_below hb5⟩
    · have h0' : ((ln : Int) == 0) = false := by simp; omega
      rw [show decide (ln = 0) = false by simpa using h0, Bool.false_and]
      clear h0
      go_enter Tryd.func107, Tryd.ntmps107
      go_wp2_with fail
      refine wp_region_later (w.heap.size + 1) (w.alloc (.cells #[.bool a1, .bool a2, .bool a3, .bool false, .int .i64 kids, .int .i64 pay] 107)) (by kernel_rfl) (by kernel_rfl) HR.out ?_
      repeat (go_big_quiet_step (first | (go_at_call 125; exact later_call _ HSZ.out (HDf.out _ (blk_below (Subtype.property _))))))
      refine wpQuiet_nil ?_
      rintro _ ⟨⟨w5, hb5⟩, rfl⟩
      clear q4 q5 q6
      go_wp2_with fail
      go_ret
      exact ⟨ret_bool (by first | rfl | (simp; done) | (simp; omega) | (rw [Bool.eq_iff_iff]; simp; omega)), blk_below hb5⟩
  · rw [if_pos rfl]
    have q4 : ∀ q : Later (w.heap.size + 1) (w.alloc (.cells #[.bool a1, .bool a2, .bool a3, .bool true, .int .i64 kids, .int .i64 pay] 107)), q.1.cell? ⟨bt, o + 4, none⟩ = some (.slice la ln lc) := fun q => ((blk_below q.2).cell (p := ⟨bt, _, none⟩) hbt).trans c4
    have q5 : ∀ q : Later (w.heap.size + 1) (w.alloc (.cells #[.bool a1, .bool a2, .bool a3, .bool true, .int .i64 kids, .int .i64 pay] 107)), q.1.cell? ⟨bt, o + 5, none⟩ = some (.slice pa len c) := fun q => ((blk_below q.2).cell (p := ⟨bt, _, none⟩) hbt).trans c5
    have q6 : ∀ q : Later (w.heap.size + 1) (w.alloc (.cells #[.bool a1, .bool a2, .bool a3, .bool true, .int .i64 kids, .int .i64 pay] 107)), q.1.cell? ⟨w.heap.size, 4, none⟩ = some (.int .i64 kids) := fun q => blk_cell q.2 4 rfl
    have HR : Hid (Below (w.heap.size + 1) (w.alloc (.cells #[.bool a1, .bool a2, .bool a3, .bool true, .int .i64 kids, .int .i64 pay] 107)) (w.alloc (.cells #[.bool a1, .bool a2, .bool a3, .bool true, .int .i64 kids, .int .i64 pay] 107))) := Lib.hid (Below.refl _ _)
    have hsz0 : w.heap.size + 1 ≤ (w.alloc (.cells #[.bool a1, .bool a2, .bool a3, .bool true, .int .i64 kids, .int .i64 pay] 107)).heap.size := by simp
    have HSZ := Lib.hid hsz0
    clear hsz0 c0 c1 c2 c3 c4 c5
    by_cases h0 : ln = 0
    · subst h0
      go_enter Tryd.func107, Tryd.ntmps107
      go_wp2_with fail
      refine wp_region_later (w.heap.size + 1) (w.alloc (.cells #[.bool a1, .bool a2, .bool a3, .bool true, .int .i64 kids, .int .i64 pay] 107)) (by kernel_rfl) (by kernel_rfl) HR.out ?_
      repeat (go_big_quiet_step (first | (go_at_call 125; exact later_call _ HSZ.out (HDf.out _ (blk_below (Subtype.property _))))))
      refine wpQuiet_nil ?_
      rintro _ ⟨⟨w5, hb5⟩, rfl⟩
      clear q4 q5 q6
      go_wp2_with fail
      go_ret
      exact ⟨ret_bool (by first | rfl | (simp; done) | (simp; omega) | (rw [Bool.eq_iff_iff]; simp; omega)), blk_below hb5⟩
    · have h0' : decide ((0 : Int) < (ln : Int)) = true := by simp; omega
      have h0p : 0 < ln := by omega
      have h0q : decide (0 < ln) = true := by simpa using h0p
      rw [show decide (ln = 0) = false by simpa using h0, Bool.not_false, Bool.true_and]
      clear h0
      by_cases h1 : len = ln
      · subst h1
        rw [show decide (len = len) = true by simp, Bool.true_and]
        go_enter Tryd.func107, Tryd.ntmps107
        go_wp2_with fail
        refine wp_region_later (w.heap.size + 1) (w.alloc (.cells #[.bool a1, .bool a2, .bool a3, .bool true, .int .i64 kids, .int .i64 pay] 107)) (by kernel_rfl) (by kernel_rfl) HR.out ?_
        repeat (go_big_quiet_step (first | (go_at_call 125; exact later_call _ HSZ.out (HDf.out _ (blk_below (Subtype.property _))))))
        refine wpQuiet_nil ?_
        rintro _ ⟨⟨w5, hb5⟩, rfl⟩
        clear q4 q5 q6
        go_wp2_with fail
        go_ret
        exact ⟨ret_bool (by first | rfl | (simp; done) | (simp; omega) | (rw [Bool.eq_iff_iff]; simp; omega)), blk_below hb5⟩
      · have h2 : ((len : Int) == (ln : Int)) = false := by simp; omega
        rw [show decide (len = ln) = false by simpa using h1, Bool.false_and]
        clear h1
        go_enter Tryd.func107, Tryd.ntmps107
        go_wp2_with fail
        refine wp_region_later (w.heap.size + 1) (w.alloc (.cells #[.bool a1, .bool a2, .bool a3, .bool true, .int .i64 kids, .int .i64 pay] 107)) (by kernel_rfl) (by kernel_rfl) HR.out ?_
        repeat (go_big_quiet_step (first | (go_at_call 125; exact later_call _ HSZ.out (HDf.out _ (blk_below (Subtype.property _))))))
        refine wpQuiet_nil ?_
        rintro _ ⟨⟨w5, hb5⟩, rfl⟩
        clear q4 q5 q6
        go_wp2_with fail
        go_ret
        exact ⟨ret_bool (by first | rfl | (simp; done) | (simp; omega) | (rw [Bool.eq_iff_iff]; simp; omega)), blk_below hb5⟩

end Go.Proofs.YtfmadgoieppmkaaDoor
