/- Scopes: the fixed examples of the law all come out right. (and what follows from it) -/
import Derived.Test.YtgmdmbmkljbgiaaGreatDoorPz10

/- Scopes: the fixed examples of the law all come out right. -/
namespace Go.Proofs.YtgmdmbmkljbgiaaGreatDoor
open Go.RowKit Go.Deep Go.Shelf

theorem strs_one' {w W : World} {s : ByteArray} (hs : s.size ≤ maxLen) (hb : Below (w.alloc (.cells #[.string s] 9)).heap.size (w.alloc (.cells #[.string s] 9)) W) : SLies W (.slice (some ⟨w.heap.size, 0, none⟩) 1 1) [s] := by
  rw [World.size_alloc] at hb
  exact (strSl_made (w := w) (W := W) [s] hb (fun x hx => by rw [List.mem_singleton.1 hx]; exact hs) (by simp [maxLen])).mono (fun _ hk => hk.2)
theorem scalls_l {W : World} {v : Value} {p : Pr} {l : List ByteArray} (h : PLies W v p) (hs : p.size ≤ 1000000) (hl : p.gath selC = l) : Calls Tryz.prog 19 #[v] W fun e w' => ∃ la ln lc, e = .returned (.slice la ln lc) ∧ SLies w' (.slice la ln lc) l ∧ Below W.heap.size W w' := by
  rw [← hl]
  exact (calls_any _ p hs v W (plow W) h).mono fun _ _ ⟨la, ln, lc, h1, h2, h3⟩ => ⟨la, ln, lc, h1, h2.mono (fun _ hk => hk.2), h3⟩
theorem sbinders_l {W : World} {v : Value} {p : Pr} {l : List ByteArray} (h : PLies W v p) (hs : p.size ≤ 1000000) (hl : p.gath Pr.bnd = l) : Calls Tryz.prog 20 #[v] W fun e w' => ∃ la ln lc, e = .returned (.slice la ln lc) ∧ SLies w' (.slice la ln lc) l ∧ Below W.heap.size W w' := by
  rw [← hl]
  exact (sbinders_any _ p hs v W (plow W) h).mono fun _ _ ⟨la, ln, lc, h1, h2, h3⟩ => ⟨la, ln, lc, h1, h2.mono (fun _ hk => hk.2), h3⟩
theorem check_l {E : Nat} {W : World} {v : Value} {g : Pg} {ce : Int} {ca : Nat} (he : Env E W) (h : GLies W v g) (hg : GGood g) (hc : g.chk = (ce, ca)) : Calls Tryz.prog 9 #[v] W fun e w' => e = .returned (.agg #[.int .i64 ce, .int .i64 (ca : Int)]) ∧ Below W.heap.size W w' :=
  check_any E _ g hg v W (plow W) he h ce ca hc
theorem find_l {W : World} {v : Value} {g : Pg} {s : ByteArray} {r : Option Nat} (h : GLies W v g) (hr : fdI g.ds s = r) : Calls Tryz.prog 17 #[v, .string s] W fun e w' => e = .returned (.tuple #[.int .i64 ((r.getD 0 : Nat) : Int), .bool r.isSome]) ∧ Below W.heap.size W w' :=
  find_any _ g s v W (plow W) h r hr
theorem one_dec (s : ByteArray) : decide ([s] = [s]) = true := by simp

set_option maxHeartbeats 16000000 in
set_option maxRecDepth 100000 in
theorem sawake_any (E : Nat) (w : World) (he : Env E w) : Calls Tryz.prog 6 #[] w fun e w' => e = .returned (.bool true) ∧ Below w.heap.size w w' := by
  go_enter Tryz.func6, Tryz.ntmps6
  go_wp2_with fail
  obtain ⟨W0, hW0⟩ : ∃ W0, _ = W0 := ⟨_, rfl⟩
  obtain ⟨t6, t7, t10, t9, g6, g7, g10, p8, hb0⟩ := made_sc w W0 hW0
  refine scalls_at hW0 ?_
  clear hW0
  have T6 := Lib.hid t6
  have T7 := Lib.hid t7
  have T10 := Lib.hid t10
  have T9 := Lib.hid t9
  have HF : Hid (∀ W, Below W0.heap.size W0 W → Calls Tryz.prog 17 #[.agg #[sl1 (w.heap.size + 1 + 1 + 1 + 1 + 1 + 1 + 1 + 1 + 1), .int .i64 1, .string ⟨#[]⟩, .string ⟨#[]⟩, sl0, sl0, .int .i64 0, .int .i64 0, .string ⟨#[]⟩, .int .i64 0, sl0, sl0, sl0], .string ⟨#[88]⟩] W fun e w' => e = .returned (.tuple #[.int .i64 0, .bool true]) ∧ Below W.heap.size W w') := Lib.hid (fun W hW => find_l (g10.to hW) find_sR)
  have HC6 : Hid (∀ W, Below W0.heap.size W0 W → Calls Tryz.prog 9 #[.agg #[sl1 (w.heap.size + 1 + 1 + 1 + 1 + 1), .int .i64 1, .string ⟨#[]⟩, .string ⟨#[]⟩, sl0, sl0, .int .i64 0, .int .i64 0, .string ⟨#[]⟩, .int .i64 0, sl0, sl0, sl0]] W fun e w' => e = .returned (.agg #[.int .i64 7, .int .i64 0]) ∧ Below W.heap.size W w') := Lib.hid (fun W hW => check_l ((he.to hb0).to hW) (g6.to hW) ggood_sP chk_sP)
  have HC7 : Hid (∀ W, Below W0.heap.size W0 W → Calls Tryz.prog 9 #[.agg #[sl0, .int .i64 8, .string ⟨#[88]⟩, .string ⟨#[]⟩, sl0, sl0, .int .i64 0, .int .i64 0, .string ⟨#[]⟩, .int .i64 0, sl0, sl0, sl0]] W fun e w' => e = .returned (.agg #[.int .i64 4, .int .i64 0]) ∧ Below W.heap.size W w') := Lib.hid (fun W hW => check_l ((he.to hb0).to hW) (g7.to hW) ggood_sQ chk_sQ)
  have HC10 : Hid (∀ W, Below W0.heap.size W0 W → Calls Tryz.prog 9 #[.agg #[sl1 (w.heap.size + 1 + 1 + 1 + 1 + 1 + 1 + 1 + 1 + 1), .int .i64 1, .string ⟨#[]⟩, .string ⟨#[]⟩, sl0, sl0, .int .i64 0, .int .i64 0, .string ⟨#[]⟩, .int .i64 0, sl0, sl0, sl0]] W fun e w' => e = .returned (.agg #[.int .i64 0, .int .i64 0]) ∧ Below W.heap.size W w') := Lib.hid (fun W hW => check_l ((he.to hb0).to hW) (g10.to hW) ggood_sR chk_sR)
  have HCA : Hid (∀ W, Below W0.heap.size W0 W → Calls Tryz.prog 19 #[.agg #[.int .i64 3, .string ⟨#[97]⟩, .string ⟨#[120]⟩, sl0, sl0, .int .i64 0, .int .i64 0, .string ⟨#[]⟩, .int .i64 0, sl0, sl0, sl1 (w.heap.size + 1 + 1 + 1 + 1 + 1 + 1 + 1 + 1)]] W fun e w' => ∃ la ln lc, e = .returned (.slice la ln lc) ∧ SLies w' (.slice la ln lc) [bX88] ∧ Below W.heap.size W w') := Lib.hid (fun W hW => scalls_l (p8.to hW) (by decide) calls_sR)
  have HBI : Hid (∀ W, Below W0.heap.size W0 W → Calls Tryz.prog 20 #[.agg #[.int .i64 3, .string ⟨#[97]⟩, .string ⟨#[120]⟩, sl0, sl0, .int .i64 0, .int .i64 0, .string ⟨#[]⟩, .int .i64 0, sl0, sl0, sl1 (w.heap.size + 1 + 1 + 1 + 1 + 1 + 1 + 1 + 1)]] W fun e w' => ∃ la ln lc, e = .returned (.slice la ln lc) ∧ SLies w' (.slice la ln lc) [bx120] ∧ Below W.heap.size W w') := Lib.hid (fun W hW => sbinders_l (p8.to hW) (by decide) binders_sR)
  have HB0 := Lib.hid hb0
  have HB : Hid (Below W0.heap.size W0 W0) := Lib.hid (Below.refl _ _)
  clear t6 t7 t10 t9 g6 g7 g10 p8 hb0 he
  refine (HF.out W0 HB.out).mono ?_
  rintro e w1 ⟨rfl, hh⟩
  replace HB := Lib.hid (below_seq HB.out hh)
  obtain ⟨a0, a1, a2, a3, a4, a5, a6, a7, a8, a9, a10, a11, a12⟩ := (T6.out.to HB.out).cells
  clear hh
  go_wp2_with fail
  refine (HC6.out w1 HB.out).mono ?_
  rintro e w2 ⟨rfl, hh⟩
  replace HB := Lib.hid (below_seq HB.out hh)
  obtain ⟨b0, b1, b2, b3, b4, b5, b6, b7, b8, b9, b10, b11, b12⟩ := (T7.out.to HB.out).cells
  clear hh a0 a1 a2 a3 a4 a5 a6 a7 a8 a9 a10 a11 a12
  go_wp2_with fail
  refine (HC7.out w2 HB.out).mono ?_
  rintro e w3 ⟨rfl, hh⟩
  replace HB := Lib.hid (below_seq HB.out hh)
  obtain ⟨a0, a1, a2, a3, a4, a5, a6, a7, a8, a9, a10, a11, a12⟩ := (T10.out.to HB.out).cells
  clear hh b0 b1 b2 b3 b4 b5 b6 b7 b8 b9 b10 b11 b12
  go_wp2_with fail
  refine (HC10.out w3 HB.out).mono ?_
  rintro e w4 ⟨rfl, hh⟩
  replace HB := Lib.hid (below_seq HB.out hh)
  clear hh a0 a1 a2 a3 a4 a5 a6 a7 a8 a9 a10 a11 a12
  have a0 := (T10.out.to HB.out).cells.1
  obtain ⟨b2, b3, b4, b5, b6, b7, b8, b9, b10, b11, b12, b13⟩ := (T9.out.to HB.out).cells14
  go_wp2_with fail
  refine (HCA.out w4 HB.out).mono ?_
  rintro e w5 ⟨la, ln, lc, rfl, hsl, hh⟩
  replace HB := Lib.hid (below_seq HB.out hh)
  have HTX := Lib.hid (ptexts_l (hsl.to ((Below.refl _ _).alloc (Nat.le_refl _) _)) (strs_one' (w := w5) (s := bX88) (by decide) (Below.refl _ _)) (one_dec _))
  clear hh hsl a0 b2 b3 b4 b5 b6 b7 b8 b9 b10 b11 b12 b13
  go_wp2_with fail
  refine HTX.out.mono ?_
  rintro e w6 ⟨rfl, hh⟩
  replace HB := Lib.hid (below_seq (HB.out.alloc HB.out.size _) hh)
  have a0 := (T10.out.to HB.out).cells.1
  obtain ⟨b2, b3, b4, b5, b6, b7, b8, b9, b10, b11, b12, b13⟩ := (T9.out.to HB.out).cells14
  clear hh HTX
  go_wp2_with fail
  refine (HBI.out w6 HB.out).mono ?_
  rintro e w7 ⟨la2, ln2, lc2, rfl, hsl, hh⟩
  replace HB := Lib.hid (below_seq HB.out hh)
  have HTX := Lib.hid (ptexts_l (hsl.to ((Below.refl _ _).alloc (Nat.le_refl _) _)) (strs_one' (w := w7) (s := bx120) (by decide) (Below.refl _ _)) (one_dec _))
  clear hh hsl a0 b2 b3 b4 b5 b6 b7 b8 b9 b10 b11 b12 b13
  go_wp2_with fail
  refine HTX.out.mono ?_
  rintro e w8 ⟨rfl, hh⟩
  replace HB := Lib.hid (below_seq (HB.out.alloc HB.out.size _) hh)
  clear hh HTX
  go_wp2_with fail
  go_ret
  exact ⟨rfl, below_seq HB0.out HB.out⟩

end Go.Proofs.YtgmdmbmkljbgiaaGreatDoor
