/- Types: the program's fits. -/
import Derived.Test.YtfmadgoieppmkaaDoorTyRc
namespace Go.Proofs.YtfmadgoieppmkaaDoor
open Go.RowKit

theorem number_is (n : Int) (has b : Bool) (h : numB n has = b) (w : World) : Calls Tryd.prog 105 #[.int .i64 n, .bool has] w fun e w' => e = .returned (.bool b) ∧ w = w' := by
  rw [← h]; exact numberFits_any n has w
theorem nameFit_is (s : ByteArray) (has b : Bool) (h : namB s has = b) (hs : s.size ≤ maxLen) (E : Nat) (w : World) (he : Env E w) : Calls Tryd.prog 106 #[.string s, .bool has] w fun e w' => e = .returned (.bool b) ∧ w = w' := by
  rw [← h]; exact nameFits_any s has hs E w he

def fitsB (a1 a2 a3 a4 : Bool) (kids : Int) (t : Ty) : Bool := numB t.p a1 && (numB t.s a3 && (namB t.n a2 && listsB a4 kids t.ls t.ts.length))

set_option maxHeartbeats 1500000 in
theorem fits_any (B : Nat → Prop) (t : Ty) (bt o : Nat) (a1 a2 a3 a4 : Bool) (kids pay : Int) (E : Nat) (w : World) (hB : Low B w) (he : Env E w) (ht : TyAt B w t bt o) :
    Calls Tryd.prog 83 #[.agg #[.bool a1, .bool a2, .bool a3, .bool a4, .int .i64 kids, .int .i64 pay], .pointer (some ⟨bt, o, none⟩)] w fun e w' => e = .returned (.bool (fitsB a1 a2 a3 a4 kids t)) ∧ Below w.heap.size w w' := by
  obtain ⟨hb, hn, ⟨c0, c1, c2, c3⟩, lv, kv, c4, c5, hl, hkv⟩ := TyAt.eq.1 ht
  have hbt := hB bt hb
  obtain ⟨b1, h1⟩ : ∃ b, numB t.p a1 = b := ⟨_, rfl⟩
  obtain ⟨b2, h2⟩ : ∃ b, numB t.s a3 = b := ⟨_, rfl⟩
  obtain ⟨b3, h3⟩ : ∃ b, namB t.n a2 = b := ⟨_, rfl⟩
  obtain ⟨b4, h4⟩ : ∃ b, listsB a4 kids t.ls t.ts.length = b := ⟨_, rfl⟩
  have HL : Hid (∀ W, Below w.heap.size w W → Calls Tryd.prog 107 #[.agg #[.bool a1, .bool a2, .bool a3, .bool a4, .int .i64 kids, .int .i64 pay], .pointer (some ⟨bt, o, none⟩)] W fun e w' => e = .returned (.bool b4) ∧ Below W.heap.size W w') := Lib.hid (fun W hW => by
    rw [← h4]; exact listsFit_any B t bt o a1 a2 a3 a4 kids pay E W (hB.le hW.size) (he.below (hW.mono he.size)) (TyAt.keep (hW.keeps'.mono hB) _ _ _ ht))
  have H1 := Lib.hid (number_is t.p a1 b1 h1)
  have H2 := Lib.hid (number_is t.s a3 b2 h2)
  have H3 := Lib.hid (fun (W : World) (hW : Below w.heap.size w W) => nameFit_is t.n a2 b3 h3 hn E W (he.below (hW.mono he.size)))
  have HF : Hid (fitsB a1 a2 a3 a4 kids t = (b1 && (b2 && (b3 && b4)))) := Lib.hid (by unfold fitsB; rw [h1, h2, h3, h4])
  rw [HF.out]
  have HW0 : Hid (Below (w.heap.size + 1) (w.alloc (.cells #[.bool a1, .bool a2, .bool a3, .bool a4, .int .i64 kids, .int .i64 pay] 107)) (w.alloc (.cells #[.bool a1, .bool a2, .bool a3, .bool a4, .int .i64 kids, .int .i64 pay] 107))) := Lib.hid (Below.refl _ _)
  clear h1 h2 h3 h4 HF hl hkv ht c0 c4 c5 hn
  go_enter Tryd.func83, Tryd.ntmps83
  go_wp2_with fail
  have p1 : ∀ q : Later (w.heap.size + 1) (w.alloc (.cells #[.bool a1, .bool a2, .bool a3, .bool a4, .int .i64 kids, .int .i64 pay] 107)), q.1.cell? ⟨bt, o + 1, none⟩ = some (.int .i64 t.p) := fun q => ((blk_below q.2).cell (p := ⟨bt, _, none⟩) hbt).trans c1
  have p2 : ∀ q : Later (w.heap.size + 1) (w.alloc (.cells #[.bool a1, .bool a2, .bool a3, .bool a4, .int .i64 kids, .int .i64 pay] 107)), q.1.cell? ⟨bt, o + 2, none⟩ = some (.string t.n) := fun q => ((blk_below q.2).cell (p := ⟨bt, _, none⟩) hbt).trans c2
  have p3 : ∀ q : Later (w.heap.size + 1) (w.alloc (.cells #[.bool a1, .bool a2, .bool a3, .bool a4, .int .i64 kids, .int .i64 pay] 107)), q.1.cell? ⟨bt, o + 3, none⟩ = some (.int .i64 t.s) := fun q => ((blk_below q.2).cell (p := ⟨bt, _, none⟩) hbt).trans c3
  have r0 : ∀ q : Later (w.heap.size + 1) (w.alloc (.cells #[.bool a1, .bool a2, .bool a3, .bool a4, .int .i64 kids, .int .i64 pay] 107)), q.1.cell? ⟨w.heap.size, 0, none⟩ = some (.bool a1) := fun q => blk_cell q.2 0 rfl
  have r1 : ∀ q : Later (w.heap.size + 1) (w.alloc (.cells #[.bool a1, .bool a2, .bool a3, .bool a4, .int .i64 kids, .int .i64 pay] 107)), q.1.cell? ⟨w.heap.size, 1, none⟩ = some (.bool a2) := fun q => blk_cell q.2 1 rfl
  have r2 : ∀ q : Later (w.heap.size + 1) (w.alloc (.cells #[.bool a1, .bool a2, .bool a3, .bool a4, .int .i64 kids, .int .i64 pay] 107)), q.1.cell? ⟨w.heap.size, 2, none⟩ = some (.bool a3) := fun q => blk_cell q.2 2 rfl
  have r3 : ∀ q : Later (w.heap.size + 1) (w.alloc (.cells #[.bool a1, .bool a2, .bool a3, .bool a4, .int .i64 kids, .int .i64 pay] 107)), q.1.cell? ⟨w.heap.size, 3, none⟩ = some (.bool a4) := fun q => blk_cell q.2 3 rfl
  have r4 : ∀ q : Later (w.heap.size + 1) (w.alloc (.cells #[.bool a1, .bool a2, .bool a3, .bool a4, .int .i64 kids, .int .i64 pay] 107)), q.1.cell? ⟨w.heap.size, 4, none⟩ = some (.int .i64 kids) := fun q => blk_cell q.2 4 rfl
  have r5 : ∀ q : Later (w.heap.size + 1) (w.alloc (.cells #[.bool a1, .bool a2, .bool a3, .bool a4, .int .i64 kids, .int .i64 pay] 107)), q.1.cell? ⟨w.heap.size, 5, none⟩ = some (.int .i64 pay) := fun q => blk_cell q.2 5 rfl
  have HSZ : Hid (w.heap.size + 1 ≤ (w.alloc (.cells #[.bool a1, .bool a2, .bool a3, .bool a4, .int .i64 kids, .int .i64 pay] 107)).heap.size) := Lib.hid (by simp)
  clear c1 c2 c3
  cases b1 <;> cases b2 <;> cases b3 <;> cases b4
  all_goals
    refine wp_region_later (w.heap.size + 1) (w.alloc (.cells #[.bool a1, .bool a2, .bool a3, .bool a4, .int .i64 kids, .int .i64 pay] 107)) (by kernel_rfl) (by kernel_rfl) HW0.out ?_
    repeat (go_big_quiet_step (first | (go_at_call 105; first | with_reducible exact later_call_same _ (H1.out _) | with_reducible exact later_call_same _ (H2.out _)) | (go_at_call 106; exact later_call_same _ (H3.out _ (blk_below (Subtype.property _)))) | (go_at_call 107; exact later_call _ HSZ.out (HL.out _ (blk_below (Subtype.property _))))))
    refine wpQuiet_nil ?_
    rintro _ ⟨⟨w5, hb5⟩, rfl⟩
    go_wp2_with fail
    go_ret
    exact ⟨rfl, blk_below hb5⟩

end Go.Proofs.YtfmadgoieppmkaaDoor
