/- Types: recsInFront and Unfold, where one TRec stands in front. -/
import Derived.Test.YtipjjhkgcbabnaaDoorTyL
namespace Go.Proofs.YtipjjhkgcbabnaaDoor
open Go.RowKit Go.Deep Go.Shelf

/-- Between two rounds of recsInFront. -/
def RecI (w : World) (o : Obj) (b : Ty) (la : Option Addr) (ln lc : Nat) (ka : Option Addr) (kn kc : Nat) (m : Nat) (wr : World) : Prop :=
  (m = 0 ∧ wr = w.alloc o) ∨ (m = 1 ∧ Six wr w.heap.size (.int .i64 b.k) (.int .i64 b.p) (.string b.n) (.int .i64 b.s) (.slice la ln lc) (.slice ka kn kc) ∧ Below w.heap.size w wr)

set_option maxHeartbeats 1000000 in
set_option maxRecDepth 100000 in
theorem recs_one (B : Nat → Prop) (p s : Int) (n : ByteArray) (ls : List ByteArray) (b : Ty) (hb8 : b.k ≠ 8) (v : Value) (w : World) (hB : Low B w) (hv : TyVal B w v (.mk 8 p n s ls [b])) :
    Calls Tryd.prog 76 #[v] w fun e w' => e = .returned (.int .i64 1) ∧ Below w.heap.size w w' := by
  obtain ⟨lv, kv, rfl, _, hl, hk⟩ := hv
  dsimp only [Ty.k, Ty.p, Ty.n, Ty.s, Ty.ls, Ty.ts] at hl hk ⊢
  obtain ⟨l1, l2, l3, rfl, _⟩ := hl.open
  obtain ⟨pa, len, c, rfl, hlen, _, hget⟩ := hk.open
  have hl1 : len = 1 := by rw [hlen.out]; rfl
  subst hl1
  obtain ⟨kb, ko, rfl, hkb, hty⟩ := hget 0 b rfl
  have h6 := Six.new w (.int .i64 8) (.int .i64 p) (.string n) (.int .i64 s) (.slice l1 l2 l3) (.slice (some ⟨kb, ko, none⟩) 1 c)
  obtain ⟨la, ln, lc, ka, kn, kc, ⟨a0, a1, a2, a3, a4, a5⟩, hval⟩ := (hty.keep ((blkBelow w #[.int .i64 8, .int .i64 p, .string n, .int .i64 s, .slice l1 l2 l3, .slice (some ⟨kb, ko, none⟩) 1 c] 25).keeps'.mono hB)).load'
  simp only [Nat.zero_mul, Nat.add_zero] at a0 a1 a2 a3 a4 a5
  have h8 : (b.k == 8) = false := by simpa using hb8
  have H6 := Lib.hid h6
  clear h6 hget hlen hl hk hb8
  go_enter Tryd.func76, Tryd.ntmps76
  go_wp2_with fail
  go_loopw [3] (fun i wr => ∃ m : Nat, i = .int .i64 m ∧ RecI w (cell6 8 p n s (.slice l1 l2 l3) (.slice (some ⟨kb, ko, none⟩) 1 c)) b la ln lc ka kn kc m wr) (fun i _ => 2 - (intOf i).toNat)
  case atStart => exact ⟨0, rfl, .inl ⟨rfl, rfl⟩⟩
  case round =>
    obtain ⟨m, rfl, hm⟩ := hrel
    rcases hm with ⟨rfl, rfl⟩ | ⟨rfl, h6, hb⟩
    · obtain ⟨⟨c0, c1, c2, c3, c4, c5⟩, hf⟩ := H6.out.cells
      go_wp2_with fail
      go_roundw
      case rel => exact ⟨1, rfl, .inr ⟨rfl, Six.new w _ _ _ _ _ _, blkBelow w _ _⟩⟩
      case measure => simp [intOf]
    · obtain ⟨⟨c0, c1, c2, c3, c4, c5⟩, hf⟩ := h6.cells
      clear a0 a1 a2 a3 a4 a5
      go_wp2_with fail
      go_ret
      exact ⟨rfl, hb⟩

theorem TyVal.drew {B : Nat → Prop} {w : World} {v : Value} {t : Ty} (h : TyVal B w v t) : TyVal B w.drew v t := TyVal.keep (w := w) (w' := w.drew) (fun _ _ _ h _ => h) h
/-- Between two rounds of Unfold. -/
def UnfI (w w5 : World) (lo : Nat) (g : Ty) (m : Nat) (wr : World) : Prop :=
  (m = 0 ∧ wr = w5) ∨ (m = 1 ∧ ∃ la ln lc ka kn kc, Six wr lo (.int .i64 g.k) (.int .i64 g.p) (.string g.n) (.int .i64 g.s) (.slice la ln lc) (.slice ka kn kc) ∧
    TyVal (Fresh (lo + 1) wr.heap.size) wr (.agg #[.int .i64 g.k, .int .i64 g.p, .string g.n, .int .i64 g.s, .slice la ln lc, .slice ka kn kc]) g ∧
    Six wr (w.heap.size + 1) (.int .i64 0) (.int .i64 0) (.string ⟨#[]⟩) (.int .i64 0) (.slice none 0 0) (.slice none 0 0) ∧ Below w.heap.size w wr)

set_option maxHeartbeats 1000000 in
set_option maxRecDepth 100000 in
theorem unfold_one (B : Nat → Prop) (p s : Int) (n : ByteArray) (ls : List ByteArray) (b : Ty) (hb8 : b.k ≠ 8) (hm : (Ty.mk 8 p n s ls [b]).mod) (v : Value) (w : World) (hB : Low B w) (hv : TyVal B w v (.mk 8 p n s ls [b])) :
    Calls Tryd.prog 45 #[v] w (TyRet w (Ty.put n (.mk 8 p n s ls [b]) b)) := by
  have hv' := hv
  obtain ⟨lv, kv, rfl, _⟩ := hv'
  dsimp only [Ty.k, Ty.p, Ty.n, Ty.s] at hv ⊢
  have hb0 := box2_below w (cell6 8 p n s lv kv) (cell6 0 0 ⟨#[]⟩ 0 (.slice none 0 0) (.slice none 0 0))
  obtain ⟨s0, s1⟩ := Six.two w (.int .i64 8) (.int .i64 p) (.string n) (.int .i64 s) lv kv (.int .i64 0) (.int .i64 0) (.string ⟨#[]⟩) (.int .i64 0) (.slice none 0 0) (.slice none 0 0)
  have HC := Lib.hid (copy_any B _ hm _ _ (hB.le hb0.size) (hv.to hB hb0))
  have S0 := Lib.hid s0
  have S1 := Lib.hid s1
  have HB0 := Lib.hid hb0
  have HV := Lib.hid hv
  clear s0 s1 hb0 hv
  go_enter Tryd.func45, Tryd.ntmps45
  go_wp2_with fail
  refine HC.out.mono ?_
  rintro e w3 ⟨la, ln, lc, ka, kn, kc, rfl, hv3, hb3⟩
  dsimp only [Ty.k, Ty.p, Ty.n, Ty.s] at hv3 ⊢
  have hz3 : w.heap.size + 2 ≤ w3.heap.size := by have := hb3.size; simp at this; omega
  have hbx := blkBelow w3 #[.int .i64 8, .int .i64 p, .string n, .int .i64 s, .slice la ln lc, .slice ka kn kc] 25
  have h6 := Six.new w3 (.int .i64 8) (.int .i64 p) (.string n) (.int .i64 s) (.slice la ln lc) (.slice ka kn kc)
  have hsz4 : (w3.alloc (.cells #[.int .i64 8, .int .i64 p, .string n, .int .i64 s, .slice la ln lc, .slice ka kn kc] 25)).heap.size = w3.heap.size + 1 := by simp
  obtain ⟨w4, hw4⟩ : ∃ w4, w3.alloc (.cells #[.int .i64 8, .int .i64 p, .string n, .int .i64 s, .slice la ln lc, .slice ka kn kc] 25) = w4 := ⟨_, rfl⟩
  rw [hw4] at hbx h6 hsz4
  obtain ⟨⟨c0, c1, c2, c3, c4, c5⟩, hf0⟩ := ((S0.out.to hb3).to hbx).cells
  have HS1 := Lib.hid ((S1.out.to hb3).to hbx)
  have HV3 := Lib.hid (hv3.to (fun k hk => hk.2) hbx)
  have HB4 := Lib.hid (below_seq (below_seq HB0.out hb3) hbx)
  have HR := Lib.hid (recs_one B p s n ls b hb8 _ w4 (hB.le HB4.out.size) (HV.out.to hB HB4.out))
  have H6 := Lib.hid h6
  have HZ := Lib.hid hsz4
  clear hv3 hb3 hbx h6 hsz4
  go_wp2_with (go_at_call 76; refine HR.out.mono ?_; rintro e w5 ⟨rfl, hb5⟩)
  clear hw4 c0 c1 c2 c3 c4 c5 hf0
  have S15 := Lib.hid (HS1.out.to hb5)
  have H65 := Lib.hid (H6.out.to hb5)
  have HW5 := Lib.hid (below_seq HB4.out hb5)
  have hlo : w3.heap.size + 1 ≤ w5.heap.size := by have := hb5.size; have := HZ.out; omega
  have ht5 := HV3.out.to (fun k hk => by have := hk.2; have := HZ.out; omega) hb5
  obtain ⟨lv', kv', he, _, _, hks⟩ := ht5
  simp only [Value.agg.injEq, Array.mk.injEq, List.cons.injEq, and_true, Ty.k, Ty.p, Ty.n, Ty.s, true_and] at he
  obtain ⟨rfl, rfl⟩ := he
  obtain ⟨pa, len, c, he, hlen, _, hget⟩ := hks.open
  simp only [Value.slice.injEq] at he
  obtain ⟨rfl, rfl, rfl⟩ := he
  have hl1 : kn = 1 := by rw [hlen.out]; rfl
  subst hl1
  obtain ⟨kb, ko, rfl, hkb, hty⟩ := hget 0 b rfl
  obtain ⟨la', ln', lc', ka', kn', kc', ⟨a0, a1, a2, a3, a4, a5⟩, hval⟩ := hty.load'
  simp only [Nat.zero_mul, Nat.add_zero] at a0 a1 a2 a3 a4 a5
  have hlow : Low (Fresh ((w.alloc (cell6 8 p n s lv kv)).alloc (cell6 0 0 ⟨#[]⟩ 0 (.slice none 0 0) (.slice none 0 0))).heap.size w3.heap.size) w5.drew := fun k hk => by have := hk.2; show k < w5.heap.size; omega
  have HP := Lib.hid (replace_any _ n (.mk 8 p n s ls [b]) hm b (by simp only [Ty.mod, Ty.mods] at hm; exact hm.2.2.2.2.1) _ _ w5.drew hlow hval.drew ((HV3.out.to (fun k hk => by have := hk.2; have := HZ.out; omega) hb5).drew))
  dsimp only [Ty.k, Ty.p, Ty.n, Ty.s] at HP
  obtain ⟨g, hg⟩ : ∃ g, Ty.put n (.mk 8 p n s ls [b]) b = g := ⟨_, rfl⟩
  rw [hg] at HP
  have HG := Lib.hid hg
  clear hg hty hval hget hlen hks hlow hm hb8 hb5
  go_loopw [8] (fun i wr => ∃ m : Nat, i = .int .i64 m ∧ UnfI w w5 w3.heap.size g m wr) (fun i _ => 2 - (intOf i).toNat)
  case atStart => exact ⟨0, rfl, .inl ⟨rfl, rfl⟩⟩
  case round =>
    obtain ⟨m, rfl, hm⟩ := hrel
    rcases hm with ⟨rfl, hw⟩ | ⟨rfl, la2, ln2, lc2, ka2, kn2, kc2, h6, hvg, h1, hb⟩
    · rw [hw]
      clear hw
      obtain ⟨⟨c0, c1, c2, c3, c4, c5⟩, hf⟩ := H65.out.cells
      go_wp2_with fail
      go_still_tail 7, (by kernel_rfl)
      change wpList _ _ _ _ _ w5.drew
      clear c0 c1 c2 c3 c4 c5 hf a0 a1 a2 a3 a4 a5
      have h65 : Six w5.drew w3.heap.size (.int .i64 8) (.int .i64 p) (.string n) (.int .i64 s) (.slice la ln lc) (.slice (some ⟨kb, ko, none⟩) 1 kc) := H65.out
      have h15 : Six w5.drew (w.heap.size + 1) (.int .i64 0) (.int .i64 0) (.string ⟨#[]⟩) (.int .i64 0) (.slice none 0 0) (.slice none 0 0) := S15.out
      have hw5 : Below w.heap.size w w5.drew := HW5.out.drew
      have hlo' : w3.heap.size + 1 ≤ w5.drew.heap.size := hlo
      generalize w5.drew = w6 at *
      have H66 := Lib.hid h65
      have H16 := Lib.hid h15
      have HW6 := Lib.hid hw5
      clear h65 h15 hw5
      go_wp2_with fail
      refine HP.out.mono ?_
      rintro e w7 ⟨la2, ln2, lc2, ka2, kn2, kc2, rfl, hv7, hb7⟩
      obtain ⟨⟨c0, c1, c2, c3, c4, c5⟩, hf⟩ := (H66.out.to hb7).cells
      have HF := Lib.hid ((H66.out.to hb7).fill (.int .i64 g.k) (.int .i64 g.p) (.string g.n) (.int .i64 g.s) (.slice la2 ln2 lc2) (.slice ka2 kn2 kc2))
      have hab := (Above.refl w6.heap.size w7).fill (c := w3.heap.size) (by omega) (.int .i64 g.k) (.int .i64 g.p) (.string g.n) (.int .i64 g.s) (.slice la2 ln2 lc2) (.slice ka2 kn2 kc2)
      have HV7 := Lib.hid ((hv7.keep hab.keeps).mono (Fresh.mono (c := w3.heap.size + 1) hlo' hab.size))
      have HB7 := Lib.hid (below_fill (c := w3.heap.size) (below_seq HW6.out hb7) (by omega) (.int .i64 g.k) (.int .i64 g.p) (.string g.n) (.int .i64 g.s) (.slice la2 ln2 lc2) (.slice ka2 kn2 kc2))
      have HS7 := Lib.hid (((((((H16.out.to hb7).other (c := w3.heap.size) (o := 0) (by omega) (.int .i64 g.k)).other (c := w3.heap.size) (o := 1) (by omega) (.int .i64 g.p)).other (c := w3.heap.size) (o := 2) (by omega) (.string g.n)).other (c := w3.heap.size) (o := 3) (by omega) (.int .i64 g.s)).other (c := w3.heap.size) (o := 4) (by omega) (.slice la2 ln2 lc2)).other (c := w3.heap.size) (o := 5) (by omega) (.slice ka2 kn2 kc2))
      clear hv7 hb7 hab
      go_wp2_with fail
      go_roundw
      case rel => exact ⟨1, rfl, .inr ⟨rfl, la2, ln2, lc2, ka2, kn2, kc2, HF.out, HV7.out, HS7.out, HB7.out⟩⟩
      case measure => simp [intOf]
    · obtain ⟨⟨c0, c1, c2, c3, c4, c5⟩, hf⟩ := h6.cells
      obtain ⟨⟨d0, d1, d2, d3, d4, d5⟩, hf1⟩ := h1.cells
      have HVG := Lib.hid hvg
      have HB := Lib.hid hb
      clear a0 a1 a2 a3 a4 a5 hvg h6 h1 hb
      go_wp2_with fail
      have hab := (Above.refl (w3.heap.size + 1) wr).fill (c := w.heap.size + 1) (by omega) (.int .i64 g.k) (.int .i64 g.p) (.string g.n) (.int .i64 g.s) (.slice la2 ln2 lc2) (.slice ka2 kn2 kc2)
      rw [HG.out]
      exact bodyPost_ret (v := .agg #[.int .i64 g.k, .int .i64 g.p, .string g.n, .int .i64 g.s, .slice la2 ln2 lc2, .slice ka2 kn2 kc2]) (by simp [results, Tryd.results45, go_sem, d0, d1, d2, d3, d4, d5]) rfl
        ⟨la2, ln2, lc2, ka2, kn2, kc2, rfl, (HVG.out.keep hab.keeps).mono (Fresh.mono (c := w.heap.size) (by omega) hab.size), below_fill (c := w.heap.size + 1) HB.out (by omega) _ _ _ _ _ _⟩

end Go.Proofs.YtipjjhkgcbabnaaDoor
