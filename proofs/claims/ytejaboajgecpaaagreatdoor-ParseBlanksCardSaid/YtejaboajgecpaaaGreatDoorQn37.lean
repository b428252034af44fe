/- Parsing: lemmas. -/
import Derived.Test.YtejaboajgecpaaaGreatDoorQn36
set_option maxHeartbeats 16000000
set_option maxRecDepth 100000
namespace Go.Proofs.YtejaboajgecpaaaGreatDoor
open Go.Lib (hid)
open Go.RowKit Go.Deep Go.Shelf
def wholeE {α : Type} (F : List Tk -> PR α) (big : α -> Bool) (s : ByteArray) : List Tok.Item ⊕ (Int × Int) -> α ⊕ (Int × Int)
 | .inr z => .inr z
 | .inl I => pfin F big (s.size : Int) (I.map tkOf)
def fType (ts : List Tk) : PR Ty := panyS (psess nameB (ts.length + 2)) ts
def fProc (ts : List Tk) : PR Pr := pproc nameB (2 * ts.length + 8) ts
def fProg (ts : List Tk) : PR Pg := pprog nameB (2 * ts.length + 8) ts
def bigP (p : Pr) : Bool := (⟨[], p⟩ : Pg).tooBig
theorem enters_pT : ∀ args w, (callFunc 36 args).run Tryz.prog w = .ok (.enter 36 args) w := enters_of Tryz.func36 (by kernel_rfl) rfl
theorem enters_bT : ∀ args w, (callFunc 37 args).run Tryz.prog w = .ok (.enter 37 args) w := enters_of Tryz.func37 (by kernel_rfl) rfl
theorem wholeT_any (s : ByteArray) (r : List Tok.Item ⊕ (Int × Int)) (hr : Scans s r) (B : Nat) (w : World) (he : Tok.Env B w) :
 Calls Tryz.prog 35 #[.string s, .func (.func 36) #[] #[], .func (.func 37) #[] #[]] w (WRes w (wholeE fType Ty.tooBig s r) GTy (.agg #[.int .i64 0, .int .i64 0, .string ⟨#[]⟩, .int .i64 0, .slice none 0 0, .slice none 0 0])) := by
 match r with
 | .inr (e, p) => exact wholeT_bad s e p hr.ne w (hr.tokBad he) _ _ GTy
 | .inl I =>
  refine wholeT_ok s I B w ⟨he.words, he.above.2, he.size⟩ (hr.tokOK he) hr.txt (Nat.le_trans hr.len (by omega)) _ _ enters_pT enters_bT fType Ty.tooBig ?_ ?_
  ·exact fun P tb W hBP hE hPa => pany_any P tb _ (I.map tkOf) B W hE hBP hPa (psess nameB ((I.map tkOf).length + 2)) ((I.map tkOf).length + 2) (by omega) (psess_ok P tb _ B hBP _)
  ·exact fun x r h b v W hg => ttoo_any (fun k => b <= k /\ k < W.heap.size) x (by have h1 := (pany_meas (psess_meas _) _ _ _ h).2; have h2 := hr.len; rw [List.length_map] at h1; omega) v W (fun k hk => hk.2) hg
theorem enters_pP : ∀ args w, (callFunc 31 args).run Tryz.prog w = .ok (.enter 31 args) w := enters_of Tryz.func31 (by kernel_rfl) rfl
theorem enters_bP : ∀ args w, (callFunc 32 args).run Tryz.prog w = .ok (.enter 32 args) w := enters_of Tryz.func32 (by kernel_rfl) rfl
theorem wholeP_any (s : ByteArray) (r : List Tok.Item ⊕ (Int × Int)) (hr : Scans s r) (B : Nat) (w : World) (he : Tok.Env B w) :
 Calls Tryz.prog 30 #[.string s, .func (.func 31) #[] #[], .func (.func 32) #[] #[]] w (WRes w (wholeE fProc bigP s r) GPr (.agg #[.int .i64 0, .string ⟨#[]⟩, .string ⟨#[]⟩, .slice none 0 0, .slice none 0 0, .int .i64 0, .int .i64 0, .string ⟨#[]⟩, .int .i64 0, .slice none 0 0, .slice none 0 0, .slice none 0 0])) := by
 match r with
 | .inr (e, p) => exact wholeP_bad s e p hr.ne w (hr.tokBad he) _ _ GPr
 | .inl I =>
  refine wholeP_ok s I B w ⟨he.words, he.above.2, he.size⟩ (hr.tokOK he) hr.txt (Nat.le_trans hr.len (by omega)) _ _ enters_pP enters_bP fProc bigP ?_ ?_
  ·exact fun P tb W hBP hE hPa => pproc_ok P tb _ B hBP (2 * (I.map tkOf).length + 8) ((I.map tkOf).length + 1) (by omega) (I.map tkOf) W (Nat.lt_succ_self _) hE hPa
  ·exact fun x r h b v W hg => prtoo_any (fun k => b <= k /\ k < W.heap.size) x (fun hd => good_pr (n := 100000) (Nat.le_refl _) (pproc_meas _ _ _ _ h).1 (by have h1 := (pproc_meas _ _ _ _ h).2; have h2 := hr.len; rw [List.length_map] at h1; omega) hd) v W (fun k hk => hk.2) hg
theorem enters_pG : ∀ args w, (callFunc 24 args).run Tryz.prog w = .ok (.enter 24 args) w := enters_of Tryz.func24 (by kernel_rfl) rfl
theorem enters_bG : ∀ args w, (callFunc 25 args).run Tryz.prog w = .ok (.enter 25 args) w := enters_of Tryz.func25 (by kernel_rfl) rfl
theorem wholeG_any (s : ByteArray) (r : List Tok.Item ⊕ (Int × Int)) (hr : Scans s r) (B : Nat) (w : World) (he : Tok.Env B w) :
 Calls Tryz.prog 23 #[.string s, .func (.func 24) #[] #[], .func (.func 25) #[] #[]] w (WRes w (wholeE fProg Pg.tooBig s r) GPg (.agg #[.slice none 0 0, .int .i64 0, .string ⟨#[]⟩, .string ⟨#[]⟩, .slice none 0 0, .slice none 0 0, .int .i64 0, .int .i64 0, .string ⟨#[]⟩, .int .i64 0, .slice none 0 0, .slice none 0 0, .slice none 0 0])) := by
 match r with
 | .inr (e, p) => exact wholeG_bad s e p hr.ne w (hr.tokBad he) _ _ GPg
 | .inl I =>
  refine wholeG_ok s I B w ⟨he.words, he.above.2, he.size⟩ (hr.tokOK he) hr.txt (Nat.le_trans hr.len (by omega)) _ _ enters_pG enters_bG fProg Pg.tooBig ?_ ?_
  ·exact fun P tb W hBP hE hPa => pprog_any P tb _ (I.map tkOf) B W hE hBP hPa (2 * (I.map tkOf).length + 8) (by omega)
  ·exact fun x r h b v W hg => gtoo_any (fun k => b <= k /\ k < W.heap.size) x (fun h1 h2 => good_of (n := 100000) (Nat.le_refl _) (pprog_meas _ _ _ _ h).1 (pprog_meas _ _ _ _ h).2.1 (by have h1 := (pprog_meas _ _ _ _ h).2.2.1; have h2 := hr.len; rw [List.length_map] at h1; omega) (by have h1 := (pprog_meas _ _ _ _ h).2.2.2; have h2 := hr.len; rw [List.length_map] at h1; omega) h1 h2) v W (fun k hk => hk.2) hg
theorem wresT_open {w w' : World} {r : Ty ⊕ (Int × Int)} {e : Ending} (h : WRes w r GTy (.agg #[.int .i64 0, .int .i64 0, .string ⟨#[]⟩, .int .i64 0, .slice none 0 0, .slice none 0 0]) e w') : ∃ (i0 : Int) (i1 : Int) (s2 : ByteArray) (i3 : Int) (a4 : Option Addr) (n4 c4 : Nat) (a5 : Option Addr) (n5 c5 : Nat) (fe fp : Int), e = .returned (.tuple #[.agg #[.int .i64 i0, .int .i64 i1, .string s2, .int .i64 i3, .slice a4 n4 c4, .slice a5 n5 c5], .agg #[.int .i64 fe, .int .i64 fp]]) /\ Below w.heap.size w w' /\
 ∀ (w0 W' : World), Below w0.heap.size w0 W' -> (∀ x, GTy w.heap.size w' x (.agg #[.int .i64 i0, .int .i64 i1, .string s2, .int .i64 i3, .slice a4 n4 c4, .slice a5 n5 c5]) -> GTy w0.heap.size W' x (.agg #[.int .i64 i0, .int .i64 i1, .string s2, .int .i64 i3, .slice a4 n4 c4, .slice a5 n5 c5])) -> WRes w0 r GTy (.agg #[.int .i64 0, .int .i64 0, .string ⟨#[]⟩, .int .i64 0, .slice none 0 0, .slice none 0 0]) (.returned (.tuple #[.agg #[.int .i64 i0, .int .i64 i1, .string s2, .int .i64 i3, .slice a4 n4 c4, .slice a5 n5 c5], .agg #[.int .i64 fe, .int .i64 fp]])) W' := by
 match r with
 | .inr (er, p) =>
  obtain ⟨rfl, hb⟩ := h
  exact ⟨_, _, _, _, _, _, _, _, _, _, _, _, rfl, hb, fun w0 W' hb' _ => ⟨rfl, hb'⟩⟩
 | .inl x =>
  obtain ⟨⟨v, rfl, hg⟩, hb⟩ := h
  have hg0 := hg
  obtain ⟨la, ln, lc, ka, kn, kc, hv⟩ := TyVal.open6 hg
  subst hv
  exact ⟨_, _, _, _, _, _, _, _, _, _, _, _, rfl, hb, fun w0 W' hb' hk => ⟨⟨_, rfl, hk x hg0⟩, hb'⟩⟩
theorem pType_any (s : ByteArray) (r : List Tok.Item ⊕ (Int × Int)) (hr : Scans s r) (B : Nat) (w : World) (he : Tok.Env B w) :
 Calls Tryz.prog 16 #[.string s] w (WRes w (wholeE fType Ty.tooBig s r) GTy (.agg #[.int .i64 0, .int .i64 0, .string ⟨#[]⟩, .int .i64 0, .slice none 0 0, .slice none 0 0])) := by
 obtain ⟨W2, hW2⟩ := ex1 ((w.alloc (.cells z6 28)).alloc (.cells #[.int .i64 0, .int .i64 0] 36))
 have hb2 : Below w.heap.size w W2 := by rw [<- hW2]; exact ((Below.refl _ _).alloc (Nat.le_refl _) _).alloc (by simp) _
 have hz2 : W2.heap.size = w.heap.size + 2 := by rw [<- hW2]; simp
 have x1 : W2.heap[w.heap.size]? = some (.cells z6 28 (0, 0)) := by rw [<- hW2, Below.heap_alloc _ _ _ (by simp)]; exact World.alloc_heap_new _ _
 have x2 : W2.heap[w.heap.size + 1]? = some (.cells #[.int .i64 0, .int .i64 0] 36 (0, 0)) := by
  rw [<- hW2]
  have := World.alloc_heap_new (w.alloc (.cells z6 28)) (.cells #[.int .i64 0, .int .i64 0] 36)
  rwa [World.size_alloc] at this
 have HW2 := hid hW2
 have HB2 := hid hb2
 have HX1 := hid x1
 have HX2 := hid x2
 have HZ2 := hid hz2
 have HT := hid (wholeT_any s r hr B W2 (tok_env he hb2))
 obtain ⟨R, hR⟩ := ex1 (wholeE fType Ty.tooBig s r)
 rw [hR] at HT |-
 clear hW2 hb2 x1 x2 he hr hR hz2
 go_enter Tryz.func16, Tryz.ntmps16
 go_upto_region 1 with fail
 rw [HW2.out]
 go_wp2_with (go_at_call 35; refine HT.out.mono ?_; rintro e w3 hres; obtain ⟨i0, i1, s2, i3, a4, n4, c4, a5, n5, c5, fe, fp, rfl, hb3, hfin⟩ := wresT_open hres; have x31 := (hb3.block _ (gl HX1.out)).trans HX1.out; have x32 := (hb3.block _ (gl HX2.out)).trans HX2.out; have HX31 := hid x31; have HX32 := hid x32; have HB23 := hid hb3; have HB3 := hid (HB2.out.trans (hb3.mono HB2.out.size)); have HFIN := hid hfin; obtain ⟨⟨q0, q1, q2, q3, q4, q5⟩, z0, z1, z2, z3, z4, z5⟩ := c6 x31; have g0 : w3.cell? ⟨w.heap.size + 1, 0, none⟩ = some (.int .i64 0) := (by simp [World.cell?, x32]); have g1 : w3.cell? ⟨w.heap.size + 1, 1, none⟩ = some (.int .i64 0) := (by simp [World.cell?, x32]); have f0 := frozen_of_block x32 0; have f1 := frozen_of_block x32 1; clear hb3 hfin hres x31 x32)
 obtain ⟨W6, hW6⟩ := ex1 (((((((((w3.setCell ⟨w.heap.size, 0, none⟩ (.int .i64 i0)).setCell ⟨w.heap.size, 1, none⟩ (.int .i64 i1)).setCell ⟨w.heap.size, 2, none⟩ (.string s2)).setCell ⟨w.heap.size, 3, none⟩ (.int .i64 i3)).setCell ⟨w.heap.size, 4, none⟩ (.slice a4 n4 c4)).setCell ⟨w.heap.size, 5, none⟩ (.slice a5 n5 c5)).setCell ⟨w.heap.size + 1, 0, none⟩ (.int .i64 fe)).setCell ⟨w.heap.size + 1, 1, none⟩ (.int .i64 fp)))
 have x61 : W6.heap[w.heap.size]? = some (.cells #[.int .i64 i0, .int .i64 i1, .string s2, .int .i64 i3, .slice a4 n4 c4, .slice a5 n5 c5] 28 (0, 0)) := by rw [<- hW6]; exact (oth1 ((put6 w3 w.heap.size (.int .i64 i0) (.int .i64 i1) (.string s2) (.int .i64 i3) (.slice a4 n4 c4) (.slice a5 n5 c5)).setCell ⟨w.heap.size + 1, 0, none⟩ (.int .i64 fe)) 1 (.int .i64 fp) (by omega)).trans ((oth1 (put6 w3 w.heap.size (.int .i64 i0) (.int .i64 i1) (.string s2) (.int .i64 i3) (.slice a4 n4 c4) (.slice a5 n5 c5)) 0 (.int .i64 fe) (by omega)).trans (fill6 HX31.out (.int .i64 i0) (.int .i64 i1) (.string s2) (.int .i64 i3) (.slice a4 n4 c4) (.slice a5 n5 c5)))
 have x62 : W6.heap[w.heap.size + 1]? = some (.cells #[.int .i64 fe, .int .i64 fp] 36 (0, 0)) := by rw [<- hW6]; exact set_block (set_block ((put6_oth (w := w3) (show w.heap.size + 1 ≠ w.heap.size by omega) (.int .i64 i0) (.int .i64 i1) (.string s2) (.int .i64 i3) (.slice a4 n4 c4) (.slice a5 n5 c5)).trans HX32.out) 0 (.int .i64 fe)) 1 (.int .i64 fp)
 have hb6 : Below w.heap.size w W6 := by rw [<- hW6]; exact ((((((((HB3.out.setCell (p := ⟨w.heap.size, 0, none⟩) (Nat.le_refl _) _).setCell (p := ⟨w.heap.size, 1, none⟩) (Nat.le_refl _) _).setCell (p := ⟨w.heap.size, 2, none⟩) (Nat.le_refl _) _).setCell (p := ⟨w.heap.size, 3, none⟩) (Nat.le_refl _) _).setCell (p := ⟨w.heap.size, 4, none⟩) (Nat.le_refl _) _).setCell (p := ⟨w.heap.size, 5, none⟩) (Nat.le_refl _) _).setCell (p := ⟨w.heap.size + 1, 0, none⟩) (by simp) _).setCell (p := ⟨w.heap.size + 1, 1, none⟩) (by simp) _)
 have hk6 : ∀ j, W2.heap.size <= j -> W6.heap[j]? = w3.heap[j]? := fun j hj => by have := HZ2.out; rw [<- hW6]; exact (oth1 ((put6 w3 w.heap.size (.int .i64 i0) (.int .i64 i1) (.string s2) (.int .i64 i3) (.slice a4 n4 c4) (.slice a5 n5 c5)).setCell ⟨w.heap.size + 1, 0, none⟩ (.int .i64 fe)) 1 (.int .i64 fp) (by omega)).trans ((oth1 (put6 w3 w.heap.size (.int .i64 i0) (.int .i64 i1) (.string s2) (.int .i64 i3) (.slice a4 n4 c4) (.slice a5 n5 c5)) 0 (.int .i64 fe) (by omega)).trans (put6_oth (show j ≠ w.heap.size by omega) (.int .i64 i0) (.int .i64 i1) (.string s2) (.int .i64 i3) (.slice a4 n4 c4) (.slice a5 n5 c5)))
 have hz6 : W6.heap.size = w3.heap.size := by rw [<- hW6]; exact (by simp [World.setCell] : (((put6 w3 w.heap.size (.int .i64 i0) (.int .i64 i1) (.string s2) (.int .i64 i3) (.slice a4 n4 c4) (.slice a5 n5 c5)).setCell ⟨w.heap.size + 1, 0, none⟩ (.int .i64 fe)).setCell ⟨w.heap.size + 1, 1, none⟩ (.int .i64 fp)).heap.size = (put6 w3 w.heap.size (.int .i64 i0) (.int .i64 i1) (.string s2) (.int .i64 i3) (.slice a4 n4 c4) (.slice a5 n5 c5)).heap.size).trans (put6_size _ _ (.int .i64 i0) (.int .i64 i1) (.string s2) (.int .i64 i3) (.slice a4 n4 c4) (.slice a5 n5 c5))
 rw [hW6]
 obtain ⟨⟨y0, y1, y2, y3, y4, y5⟩, -⟩ := c6 x61
 have h0 : W6.cell? ⟨w.heap.size + 1, 0, none⟩ = some (.int .i64 fe) := by simp [World.cell?, x62]
 have h1 : W6.cell? ⟨w.heap.size + 1, 1, none⟩ = some (.int .i64 fp) := by simp [World.cell?, x62]
 refine bodyPost_ret (v := .tuple #[.agg #[.int .i64 i0, .int .i64 i1, .string s2, .int .i64 i3, .slice a4 n4 c4, .slice a5 n5 c5], .agg #[.int .i64 fe, .int .i64 fp]]) (by simp [results, Tryz.results16, go_sem, y0, y1, y2, y3, y4, y5, h0, h1]) rfl ?_
 exact HFIN.out w W6 hb6 (fun x hg => lyTy.mono (fun j hj => ⟨Nat.le_trans HB2.out.size hj.1, by rw [hz6]; exact hj.2⟩) (lyTy.keep (w' := W6) (fun j ob hj ho _ => (hk6 j hj.1).trans ho) hg))
theorem wresP_open {w w' : World} {r : Pr ⊕ (Int × Int)} {e : Ending} (h : WRes w r GPr (.agg #[.int .i64 0, .string ⟨#[]⟩, .string ⟨#[]⟩, .slice none 0 0, .slice none 0 0, .int .i64 0, .int .i64 0, .string ⟨#[]⟩, .int .i64 0, .slice none 0 0, .slice none 0 0, .slice none 0 0]) e w') : ∃ (i0 : Int) (s1 : ByteArray) (s2 : ByteArray) (a3 : Option Addr) (n3 c3 : Nat) (a4 : Option Addr) (n4 c4 : Nat) (i5 : Int) (i6 : Int) (s7 : ByteArray) (i8 : Int) (a9 : Option Addr) (n9 c9 : Nat) (a10 : Option Addr) (n10 c10 : Nat) (a11 : Option Addr) (n11 c11 : Nat) (fe fp : Int), e = .returned (.tuple #[.agg #[.int .i64 i0, .string s1, .string s2, .slice a3 n3 c3, .slice a4 n4 c4, .int .i64 i5, .int .i64 i6, .string s7, .int .i64 i8, .slice a9 n9 c9, .slice a10 n10 c10, .slice a11 n11 c11], .agg #[.int .i64 fe, .int .i64 fp]]) /\ Below w.heap.size w w' /\
 ∀ (w0 W' : World), Below w0.heap.size w0 W' -> (∀ x, GPr w.heap.size w' x (.agg #[.int .i64 i0, .string s1, .string s2, .slice a3 n3 c3, .slice a4 n4 c4, .int .i64 i5, .int .i64 i6, .string s7, .int .i64 i8, .slice a9 n9 c9, .slice a10 n10 c10, .slice a11 n11 c11]) -> GPr w0.heap.size W' x (.agg #[.int .i64 i0, .string s1, .string s2, .slice a3 n3 c3, .slice a4 n4 c4, .int .i64 i5, .int .i64 i6, .string s7, .int .i64 i8, .slice a9 n9 c9, .slice a10 n10 c10, .slice a11 n11 c11])) -> WRes w0 r GPr (.agg #[.int .i64 0, .string ⟨#[]⟩, .string ⟨#[]⟩, .slice none 0 0, .slice none 0 0, .int .i64 0, .int .i64 0, .string ⟨#[]⟩, .int .i64 0, .slice none 0 0, .slice none 0 0, .slice none 0 0]) (.returned (.tuple #[.agg #[.int .i64 i0, .string s1, .string s2, .slice a3 n3 c3, .slice a4 n4 c4, .int .i64 i5, .int .i64 i6, .string s7, .int .i64 i8, .slice a9 n9 c9, .slice a10 n10 c10, .slice a11 n11 c11], .agg #[.int .i64 fe, .int .i64 fp]])) W' := by
 match r with
 | .inr (er, p) =>
  obtain ⟨rfl, hb⟩ := h
  exact ⟨_, _, _, _, _, _, _, _, _, _, _, _, _, _, _, _, _, _, _, _, _, _, _, _, rfl, hb, fun w0 W' hb' _ => ⟨rfl, hb'⟩⟩
 | .inl x =>
  obtain ⟨⟨v, rfl, hg⟩, hb⟩ := h
  have hg0 := hg
  obtain ⟨la, ln, lc, aa, an, ac, ta, tn, tc, ua, un, uc, ka, kn, kc, hv⟩ := PrVal.open hg
  subst hv
  exact ⟨_, _, _, _, _, _, _, _, _, _, _, _, _, _, _, _, _, _, _, _, _, _, _, _, rfl, hb, fun w0 W' hb' hk => ⟨⟨_, rfl, hk x hg0⟩, hb'⟩⟩
theorem pProcess_any (s : ByteArray) (r : List Tok.Item ⊕ (Int × Int)) (hr : Scans s r) (B : Nat) (w : World) (he : Tok.Env B w) :
 Calls Tryz.prog 13 #[.string s] w (WRes w (wholeE fProc bigP s r) GPr (.agg #[.int .i64 0, .string ⟨#[]⟩, .string ⟨#[]⟩, .slice none 0 0, .slice none 0 0, .int .i64 0, .int .i64 0, .string ⟨#[]⟩, .int .i64 0, .slice none 0 0, .slice none 0 0, .slice none 0 0])) := by
 obtain ⟨W2, hW2⟩ := ex1 ((w.alloc (.cells z12 31)).alloc (.cells #[.int .i64 0, .int .i64 0] 36))
 have hb2 : Below w.heap.size w W2 := by rw [<- hW2]; exact ((Below.refl _ _).alloc (Nat.le_refl _) _).alloc (by simp) _
 have hz2 : W2.heap.size = w.heap.size + 2 := by rw [<- hW2]; simp
 have x1 : W2.heap[w.heap.size]? = some (.cells z12 31 (0, 0)) := by rw [<- hW2, Below.heap_alloc _ _ _ (by simp)]; exact World.alloc_heap_new _ _
 have x2 : W2.heap[w.heap.size + 1]? = some (.cells #[.int .i64 0, .int .i64 0] 36 (0, 0)) := by
  rw [<- hW2]
  have := World.alloc_heap_new (w.alloc (.cells z12 31)) (.cells #[.int .i64 0, .int .i64 0] 36)
  rwa [World.size_alloc] at this
 have HW2 := hid hW2
 have HB2 := hid hb2
 have HX1 := hid x1
 have HX2 := hid x2
 have HZ2 := hid hz2
 have HT := hid (wholeP_any s r hr B W2 (tok_env he hb2))
 obtain ⟨R, hR⟩ := ex1 (wholeE fProc bigP s r)
 rw [hR] at HT |-
 clear hW2 hb2 x1 x2 he hr hR hz2
 go_enter Tryz.func13, Tryz.ntmps13
 go_upto_region 1 with fail
 rw [HW2.out]
 go_wp2_with (go_at_call 30; refine HT.out.mono ?_; rintro e w3 hres; obtain ⟨i0, s1, s2, a3, n3, c3, a4, n4, c4, i5, i6, s7, i8, a9, n9, c9, a10, n10, c10, a11, n11, c11, fe, fp, rfl, hb3, hfin⟩ := wresP_open hres; have x31 := (hb3.block _ (gl HX1.out)).trans HX1.out; have x32 := (hb3.block _ (gl HX2.out)).trans HX2.out; have HX31 := hid x31; have HX32 := hid x32; have HB23 := hid hb3; have HB3 := hid (HB2.out.trans (hb3.mono HB2.out.size)); have HFIN := hid hfin; obtain ⟨⟨q0, q1, q2, q3, q4, q5, q6, q7, q8, q9, q10, q11⟩, z0, z1, z2, z3, z4, z5, z6, z7, z8, z9, z10, z11⟩ := c12p x31; have g0 : w3.cell? ⟨w.heap.size + 1, 0, none⟩ = some (.int .i64 0) := (by simp [World.cell?, x32]); have g1 : w3.cell? ⟨w.heap.size + 1, 1, none⟩ = some (.int .i64 0) := (by simp [World.cell?, x32]); have f0 := frozen_of_block x32 0; have f1 := frozen_of_block x32 1; clear hb3 hfin hres x31 x32)
 obtain ⟨W6, hW6⟩ := ex1 (((((((((((((((w3.setCell ⟨w.heap.size, 0, none⟩ (.int .i64 i0)).setCell ⟨w.heap.size, 1, none⟩ (.string s1)).setCell ⟨w.heap.size, 2, none⟩ (.string s2)).setCell ⟨w.heap.size, 3, none⟩ (.slice a3 n3 c3)).setCell ⟨w.heap.size, 4, none⟩ (.slice a4 n4 c4)).setCell ⟨w.heap.size, 5, none⟩ (.int .i64 i5)).setCell ⟨w.heap.size, 6, none⟩ (.int .i64 i6)).setCell ⟨w.heap.size, 7, none⟩ (.string s7)).setCell ⟨w.heap.size, 8, none⟩ (.int .i64 i8)).setCell ⟨w.heap.size, 9, none⟩ (.slice a9 n9 c9)).setCell ⟨w.heap.size, 10, none⟩ (.slice a10 n10 c10)).setCell ⟨w.heap.size, 11, none⟩ (.slice a11 n11 c11)).setCell ⟨w.heap.size + 1, 0, none⟩ (.int .i64 fe)).setCell ⟨w.heap.size + 1, 1, none⟩ (.int .i64 fp)))
 have x61 : W6.heap[w.heap.size]? = some (.cells #[.int .i64 i0, .string s1, .string s2, .slice a3 n3 c3, .slice a4 n4 c4, .int .i64 i5, .int .i64 i6, .string s7, .int .i64 i8, .slice a9 n9 c9, .slice a10 n10 c10, .slice a11 n11 c11] 31 (0, 0)) := by rw [<- hW6]; exact (oth1 ((put12 w3 w.heap.size (.int .i64 i0) (.string s1) (.string s2) (.slice a3 n3 c3) (.slice a4 n4 c4) (.int .i64 i5) (.int .i64 i6) (.string s7) (.int .i64 i8) (.slice a9 n9 c9) (.slice a10 n10 c10) (.slice a11 n11 c11)).setCell ⟨w.heap.size + 1, 0, none⟩ (.int .i64 fe)) 1 (.int .i64 fp) (by omega)).trans ((oth1 (put12 w3 w.heap.size (.int .i64 i0) (.string s1) (.string s2) (.slice a3 n3 c3) (.slice a4 n4 c4) (.int .i64 i5) (.int .i64 i6) (.string s7) (.int .i64 i8) (.slice a9 n9 c9) (.slice a10 n10 c10) (.slice a11 n11 c11)) 0 (.int .i64 fe) (by omega)).trans (fill12 HX31.out (.int .i64 i0) (.string s1) (.string s2) (.slice a3 n3 c3) (.slice a4 n4 c4) (.int .i64 i5) (.int .i64 i6) (.string s7) (.int .i64 i8) (.slice a9 n9 c9) (.slice a10 n10 c10) (.slice a11 n11 c11)))
 have x62 : W6.heap[w.heap.size + 1]? = some (.cells #[.int .i64 fe, .int .i64 fp] 36 (0, 0)) := by rw [<- hW6]; exact set_block (set_block ((put12_oth (w := w3) (show w.heap.size + 1 ≠ w.heap.size by omega) (.int .i64 i0) (.string s1) (.string s2) (.slice a3 n3 c3) (.slice a4 n4 c4) (.int .i64 i5) (.int .i64 i6) (.string s7) (.int .i64 i8) (.slice a9 n9 c9) (.slice a10 n10 c10) (.slice a11 n11 c11)).trans HX32.out) 0 (.int .i64 fe)) 1 (.int .i64 fp)
 have hb6 : Below w.heap.size w W6 := by rw [<- hW6]; exact ((((((((((((((HB3.out.setCell (p := ⟨w.heap.size, 0, none⟩) (Nat.le_refl _) _).setCell (p := ⟨w.heap.size, 1, none⟩) (Nat.le_refl _) _).setCell (p := ⟨w.heap.size, 2, none⟩) (Nat.le_refl _) _).setCell (p := ⟨w.heap.size, 3, none⟩) (Nat.le_refl _) _).setCell (p := ⟨w.heap.size, 4, none⟩) (Nat.le_refl _) _).setCell (p := ⟨w.heap.size, 5, none⟩) (Nat.le_refl _) _).setCell (p := ⟨w.heap.size, 6, none⟩) (Nat.le_refl _) _).setCell (p := ⟨w.heap.size, 7, none⟩) (Nat.le_refl _) _).setCell (p := ⟨w.heap.size, 8, none⟩) (Nat.le_refl _) _).setCell (p := ⟨w.heap.size, 9, none⟩) (Nat.le_refl _) _).setCell (p := ⟨w.heap.size, 10, none⟩) (Nat.le_refl _) _).setCell (p := ⟨w.heap.size, 11, none⟩) (Nat.le_refl _) _).setCell (p := ⟨w.heap.size + 1, 0, none⟩) (by simp) _).setCell (p := ⟨w.heap.size + 1, 1, none⟩) (by simp) _)
 have hk6 : ∀ j, W2.heap.size <= j -> W6.heap[j]? = w3.heap[j]? := fun j hj => by have := HZ2.out; rw [<- hW6]; exact (oth1 ((put12 w3 w.heap.size (.int .i64 i0) (.string s1) (.string s2) (.slice a3 n3 c3) (.slice a4 n4 c4) (.int .i64 i5) (.int .i64 i6) (.string s7) (.int .i64 i8) (.slice a9 n9 c9) (.slice a10 n10 c10) (.slice a11 n11 c11)).setCell ⟨w.heap.size + 1, 0, none⟩ (.int .i64 fe)) 1 (.int .i64 fp) (by omega)).trans ((oth1 (put12 w3 w.heap.size (.int .i64 i0) (.string s1) (.string s2) (.slice a3 n3 c3) (.slice a4 n4 c4) (.int .i64 i5) (.int .i64 i6) (.string s7) (.int .i64 i8) (.slice a9 n9 c9) (.slice a10 n10 c10) (.slice a11 n11 c11)) 0 (.int .i64 fe) (by omega)).trans (put12_oth (show j ≠ w.heap.size by omega) (.int .i64 i0) (.string s1) (.string s2) (.slice a3 n3 c3) (.slice a4 n4 c4) (.int .i64 i5) (.int .i64 i6) (.string s7) (.int .i64 i8) (.slice a9 n9 c9) (.slice a10 n10 c10) (.slice a11 n11 c11)))
 have hz6 : W6.heap.size = w3.heap.size := by rw [<- hW6]; exact (by simp [World.setCell] : (((put12 w3 w.heap.size (.int .i64 i0) (.string s1) (.string s2) (.slice a3 n3 c3) (.slice a4 n4 c4) (.int .i64 i5) (.int .i64 i6) (.string s7) (.int .i64 i8) (.slice a9 n9 c9) (.slice a10 n10 c10) (.slice a11 n11 c11)).setCell ⟨w.heap.size + 1, 0, none⟩ (.int .i64 fe)).setCell ⟨w.heap.size + 1, 1, none⟩ (.int .i64 fp)).heap.size = (put12 w3 w.heap.size (.int .i64 i0) (.string s1) (.string s2) (.slice a3 n3 c3) (.slice a4 n4 c4) (.int .i64 i5) (.int .i64 i6) (.string s7) (.int .i64 i8) (.slice a9 n9 c9) (.slice a10 n10 c10) (.slice a11 n11 c11)).heap.size).trans (put12_size _ _ (.int .i64 i0) (.string s1) (.string s2) (.slice a3 n3 c3) (.slice a4 n4 c4) (.int .i64 i5) (.int .i64 i6) (.string s7) (.int .i64 i8) (.slice a9 n9 c9) (.slice a10 n10 c10) (.slice a11 n11 c11))
 rw [hW6]
 obtain ⟨⟨y0, y1, y2, y3, y4, y5, y6, y7, y8, y9, y10, y11⟩, -⟩ := c12p x61
 have h0 : W6.cell? ⟨w.heap.size + 1, 0, none⟩ = some (.int .i64 fe) := by simp [World.cell?, x62]
 have h1 : W6.cell? ⟨w.heap.size + 1, 1, none⟩ = some (.int .i64 fp) := by simp [World.cell?, x62]
 refine bodyPost_ret (v := .tuple #[.agg #[.int .i64 i0, .string s1, .string s2, .slice a3 n3 c3, .slice a4 n4 c4, .int .i64 i5, .int .i64 i6, .string s7, .int .i64 i8, .slice a9 n9 c9, .slice a10 n10 c10, .slice a11 n11 c11], .agg #[.int .i64 fe, .int .i64 fp]]) (by simp [results, Tryz.results13, go_sem, y0, y1, y2, y3, y4, y5, y6, y7, y8, y9, y10, y11, h0, h1]) rfl ?_
 exact HFIN.out w W6 hb6 (fun x hg => lyPr.mono (fun j hj => ⟨Nat.le_trans HB2.out.size hj.1, by rw [hz6]; exact hj.2⟩) (lyPr.keep (w' := W6) (fun j ob hj ho _ => (hk6 j hj.1).trans ho) hg))
theorem wresG_open {w w' : World} {r : Pg ⊕ (Int × Int)} {e : Ending} (h : WRes w r GPg (.agg #[.slice none 0 0, .int .i64 0, .string ⟨#[]⟩, .string ⟨#[]⟩, .slice none 0 0, .slice none 0 0, .int .i64 0, .int .i64 0, .string ⟨#[]⟩, .int .i64 0, .slice none 0 0, .slice none 0 0, .slice none 0 0]) e w') : ∃ (a0 : Option Addr) (n0 c0 : Nat) (i1 : Int) (s2 : ByteArray) (s3 : ByteArray) (a4 : Option Addr) (n4 c4 : Nat) (a5 : Option Addr) (n5 c5 : Nat) (i6 : Int) (i7 : Int) (s8 : ByteArray) (i9 : Int) (a10 : Option Addr) (n10 c10 : Nat) (a11 : Option Addr) (n11 c11 : Nat) (a12 : Option Addr) (n12 c12 : Nat) (fe fp : Int), e = .returned (.tuple #[.agg #[.slice a0 n0 c0, .int .i64 i1, .string s2, .string s3, .slice a4 n4 c4, .slice a5 n5 c5, .int .i64 i6, .int .i64 i7, .string s8, .int .i64 i9, .slice a10 n10 c10, .slice a11 n11 c11, .slice a12 n12 c12], .agg #[.int .i64 fe, .int .i64 fp]]) /\ Below w.heap.size w w' /\
 ∀ (w0 W' : World), Below w0.heap.size w0 W' -> (∀ x, GPg w.heap.size w' x (.agg #[.slice a0 n0 c0, .int .i64 i1, .string s2, .string s3, .slice a4 n4 c4, .slice a5 n5 c5, .int .i64 i6, .int .i64 i7, .string s8, .int .i64 i9, .slice a10 n10 c10, .slice a11 n11 c11, .slice a12 n12 c12]) -> GPg w0.heap.size W' x (.agg #[.slice a0 n0 c0, .int .i64 i1, .string s2, .string s3, .slice a4 n4 c4, .slice a5 n5 c5, .int .i64 i6, .int .i64 i7, .string s8, .int .i64 i9, .slice a10 n10 c10, .slice a11 n11 c11, .slice a12 n12 c12])) -> WRes w0 r GPg (.agg #[.slice none 0 0, .int .i64 0, .string ⟨#[]⟩, .string ⟨#[]⟩, .slice none 0 0, .slice none 0 0, .int .i64 0, .int .i64 0, .string ⟨#[]⟩, .int .i64 0, .slice none 0 0, .slice none 0 0, .slice none 0 0]) (.returned (.tuple #[.agg #[.slice a0 n0 c0, .int .i64 i1, .string s2, .string s3, .slice a4 n4 c4, .slice a5 n5 c5, .int .i64 i6, .int .i64 i7, .string s8, .int .i64 i9, .slice a10 n10 c10, .slice a11 n11 c11, .slice a12 n12 c12], .agg #[.int .i64 fe, .int .i64 fp]])) W' := by
 match r with
 | .inr (er, p) =>
  obtain ⟨rfl, hb⟩ := h
  exact ⟨_, _, _, _, _, _, _, _, _, _, _, _, _, _, _, _, _, _, _, _, _, _, _, _, _, _, _, rfl, hb, fun w0 W' hb' _ => ⟨rfl, hb'⟩⟩
 | .inl x =>
  obtain ⟨⟨v, rfl, hg⟩, hb⟩ := h
  have hg0 := hg
  obtain ⟨da, dn, dc, la, ln, lc, aa, an, ac, ta, tn, tc, ua, un, uc, ka, kn, kc, hv⟩ := PgVal.open13 hg
  subst hv
  exact ⟨_, _, _, _, _, _, _, _, _, _, _, _, _, _, _, _, _, _, _, _, _, _, _, _, _, _, _, rfl, hb, fun w0 W' hb' hk => ⟨⟨_, rfl, hk x hg0⟩, hb'⟩⟩
theorem pProgram_any (s : ByteArray) (r : List Tok.Item ⊕ (Int × Int)) (hr : Scans s r) (B : Nat) (w : World) (he : Tok.Env B w) :
 Calls Tryz.prog 9 #[.string s] w (WRes w (wholeE fProg Pg.tooBig s r) GPg (.agg #[.slice none 0 0, .int .i64 0, .string ⟨#[]⟩, .string ⟨#[]⟩, .slice none 0 0, .slice none 0 0, .int .i64 0, .int .i64 0, .string ⟨#[]⟩, .int .i64 0, .slice none 0 0, .slice none 0 0, .slice none 0 0])) := by
 obtain ⟨W2, hW2⟩ := ex1 ((w.alloc (.cells z13 33)).alloc (.cells #[.int .i64 0, .int .i64 0] 36))
 have hb2 : Below w.heap.size w W2 := by rw [<- hW2]; exact ((Below.refl _ _).alloc (Nat.le_refl _) _).alloc (by simp) _
 have hz2 : W2.heap.size = w.heap.size + 2 := by rw [<- hW2]; simp
 have x1 : W2.heap[w.heap.size]? = some (.cells z13 33 (0, 0)) := by rw [<- hW2, Below.heap_alloc _ _ _ (by simp)]; exact World.alloc_heap_new _ _
 have x2 : W2.heap[w.heap.size + 1]? = some (.cells #[.int .i64 0, .int .i64 0] 36 (0, 0)) := by
  rw [<- hW2]
  have := World.alloc_heap_new (w.alloc (.cells z13 33)) (.cells #[.int .i64 0, .int .i64 0] 36)
  rwa [World.size_alloc] at this
 have HW2 := hid hW2
 have HB2 := hid hb2
 have HX1 := hid x1
 have HX2 := hid x2
 have HZ2 := hid hz2
 have HT := hid (wholeG_any s r hr B W2 (tok_env he hb2))
 obtain ⟨R, hR⟩ := ex1 (wholeE fProg Pg.tooBig s r)
 rw [hR] at HT |-
 clear hW2 hb2 x1 x2 he hr hR hz2
 go_enter Tryz.func9, Tryz.ntmps9
 go_upto_region 1 with fail
 rw [HW2.out]
 go_wp2_with (go_at_call 23; refine HT.out.mono ?_; rintro e w3 hres; obtain ⟨a0, n0, c0, i1, s2, s3, a4, n4, c4, a5, n5, c5, i6, i7, s8, i9, a10, n10, c10, a11, n11, c11, a12, n12, c12, fe, fp, rfl, hb3, hfin⟩ := wresG_open hres; have x31 := (hb3.block _ (gl HX1.out)).trans HX1.out; have x32 := (hb3.block _ (gl HX2.out)).trans HX2.out; have HX31 := hid x31; have HX32 := hid x32; have HB23 := hid hb3; have HB3 := hid (HB2.out.trans (hb3.mono HB2.out.size)); have HFIN := hid hfin; obtain ⟨⟨q0, q1, q2, q3, q4, q5, q6, q7, q8, q9, q10, q11, q12⟩, z0, z1, z2, z3, z4, z5, z6, z7, z8, z9, z10, z11, z12⟩ := c13p x31; have g0 : w3.cell? ⟨w.heap.size + 1, 0, none⟩ = some (.int .i64 0) := (by simp [World.cell?, x32]); have g1 : w3.cell? ⟨w.heap.size + 1, 1, none⟩ = some (.int .i64 0) := (by simp [World.cell?, x32]); have f0 := frozen_of_block x32 0; have f1 := frozen_of_block x32 1; clear hb3 hfin hres x31 x32)
 obtain ⟨W6, hW6⟩ := ex1 ((((((((((((((((w3.setCell ⟨w.heap.size, 0, none⟩ (.slice a0 n0 c0)).setCell ⟨w.heap.size, 1, none⟩ (.int .i64 i1)).setCell ⟨w.heap.size, 2, none⟩ (.string s2)).setCell ⟨w.heap.size, 3, none⟩ (.string s3)).setCell ⟨w.heap.size, 4, none⟩ (.slice a4 n4 c4)).setCell ⟨w.heap.size, 5, none⟩ (.slice a5 n5 c5)).setCell ⟨w.heap.size, 6, none⟩ (.int .i64 i6)).setCell ⟨w.heap.size, 7, none⟩ (.int .i64 i7)).setCell ⟨w.heap.size, 8, none⟩ (.string s8)).setCell ⟨w.heap.size, 9, none⟩ (.int .i64 i9)).setCell ⟨w.heap.size, 10, none⟩ (.slice a10 n10 c10)).setCell ⟨w.heap.size, 11, none⟩ (.slice a11 n11 c11)).setCell ⟨w.heap.size, 12, none⟩ (.slice a12 n12 c12)).setCell ⟨w.heap.size + 1, 0, none⟩ (.int .i64 fe)).setCell ⟨w.heap.size + 1, 1, none⟩ (.int .i64 fp)))
 have x61 : W6.heap[w.heap.size]? = some (.cells #[.slice a0 n0 c0, .int .i64 i1, .string s2, .string s3, .slice a4 n4 c4, .slice a5 n5 c5, .int .i64 i6, .int .i64 i7, .string s8, .int .i64 i9, .slice a10 n10 c10, .slice a11 n11 c11, .slice a12 n12 c12] 33 (0, 0)) := by rw [<- hW6]; exact (oth1 ((put13 w3 w.heap.size (.slice a0 n0 c0) (.int .i64 i1) (.string s2) (.string s3) (.slice a4 n4 c4) (.slice a5 n5 c5) (.int .i64 i6) (.int .i64 i7) (.string s8) (.int .i64 i9) (.slice a10 n10 c10) (.slice a11 n11 c11) (.slice a12 n12 c12)).setCell ⟨w.heap.size + 1, 0, none⟩ (.int .i64 fe)) 1 (.int .i64 fp) (by omega)).trans ((oth1 (put13 w3 w.heap.size (.slice a0 n0 c0) (.int .i64 i1) (.string s2) (.string s3) (.slice a4 n4 c4) (.slice a5 n5 c5) (.int .i64 i6) (.int .i64 i7) (.string s8) (.int .i64 i9) (.slice a10 n10 c10) (.slice a11 n11 c11) (.slice a12 n12 c12)) 0 (.int .i64 fe) (by omega)).trans (fill13 HX31.out (.slice a0 n0 c0) (.int .i64 i1) (.string s2) (.string s3) (.slice a4 n4 c4) (.slice a5 n5 c5) (.int .i64 i6) (.int .i64 i7) (.string s8) (.int .i64 i9) (.slice a10 n10 c10) (.slice a11 n11 c11) (.slice a12 n12 c12)))
 have x62 : W6.heap[w.heap.size + 1]? = some (.cells #[.int .i64 fe, .int .i64 fp] 36 (0, 0)) := by rw [<- hW6]; exact set_block (set_block ((put13_oth (w := w3) (show w.heap.size + 1 ≠ w.heap.size by omega) (.slice a0 n0 c0) (.int .i64 i1) (.string s2) (.string s3) (.slice a4 n4 c4) (.slice a5 n5 c5) (.int .i64 i6) (.int .i64 i7) (.string s8) (.int .i64 i9) (.slice a10 n10 c10) (.slice a11 n11 c11) (.slice a12 n12 c12)).trans HX32.out) 0 (.int .i64 fe)) 1 (.int .i64 fp)
 have hb6 : Below w.heap.size w W6 := by rw [<- hW6]; exact (((((((((((((((HB3.out.setCell (p := ⟨w.heap.size, 0, none⟩) (Nat.le_refl _) _).setCell (p := ⟨w.heap.size, 1, none⟩) (Nat.le_refl _) _).setCell (p := ⟨w.heap.size, 2, none⟩) (Nat.le_refl _) _).setCell (p := ⟨w.heap.size, 3, none⟩) (Nat.le_refl _) _).setCell (p := ⟨w.heap.size, 4, none⟩) (Nat.le_refl _) _).setCell (p := ⟨w.heap.size, 5, none⟩) (Nat.le_refl _) _).setCell (p := ⟨w.heap.size, 6, none⟩) (Nat.le_refl _) _).setCell (p := ⟨w.heap.size, 7, none⟩) (Nat.le_refl _) _).setCell (p := ⟨w.heap.size, 8, none⟩) (Nat.le_refl _) _).setCell (p := ⟨w.heap.size, 9, none⟩) (Nat.le_refl _) _).setCell (p := ⟨w.heap.size, 10, none⟩) (Nat.le_refl _) _).setCell (p := ⟨w.heap.size, 11, none⟩) (Nat.le_refl _) _).setCell (p := ⟨w.heap.size, 12, none⟩) (Nat.le_refl _) _).setCell (p := ⟨w.heap.size + 1, 0, none⟩) (by simp) _).setCell (p := ⟨w.heap.size + 1, 1, none⟩) (by simp) _)
 have hk6 : ∀ j, W2.heap.size <= j -> W6.heap[j]? = w3.heap[j]? := fun j hj => by have := HZ2.out; rw [<- hW6]; exact (oth1 ((put13 w3 w.heap.size (.slice a0 n0 c0) (.int .i64 i1) (.string s2) (.string s3) (.slice a4 n4 c4) (.slice a5 n5 c5) (.int .i64 i6) (.int .i64 i7) (.string s8) (.int .i64 i9) (.slice a10 n10 c10) (.slice a11 n11 c11) (.slice a12 n12 c12)).setCell ⟨w.heap.size + 1, 0, none⟩ (.int .i64 fe)) 1 (.int .i64 fp) (by omega)).trans ((oth1 (put13 w3 w.heap.size (.slice a0 n0 c0) (.int .i64 i1) (.string s2) (.string s3) (.slice a4 n4 c4) (.slice a5 n5 c5) (.int .i64 i6) (.int .i64 i7) (.string s8) (.int .i64 i9) (.slice a10 n10 c10) (.slice a11 n11 c11) (.slice a12 n12 c12)) 0 (.int .i64 fe) (by omega)).trans (put13_oth (show j ≠ w.heap.size by omega) (.slice a0 n0 c0) (.int .i64 i1) (.string s2) (.string s3) (.slice a4 n4 c4) (.slice a5 n5 c5) (.int .i64 i6) (.int .i64 i7) (.string s8) (.int .i64 i9) (.slice a10 n10 c10) (.slice a11 n11 c11) (.slice a12 n12 c12)))
 have hz6 : W6.heap.size = w3.heap.size := by rw [<- hW6]; exact (by simp [World.setCell] : (((put13 w3 w.heap.size (.slice a0 n0 c0) (.int .i64 i1) (.string s2) (.string s3) (.slice a4 n4 c4) (.slice a5 n5 c5) (.int .i64 i6) (.int .i64 i7) (.string s8) (.int .i64 i9) (.slice a10 n10 c10) (.slice a11 n11 c11) (.slice a12 n12 c12)).setCell ⟨w.heap.size + 1, 0, none⟩ (.int .i64 fe)).setCell ⟨w.heap.size + 1, 1, none⟩ (.int .i64 fp)).heap.size = (put13 w3 w.heap.size (.slice a0 n0 c0) (.int .i64 i1) (.string s2) (.string s3) (.slice a4 n4 c4) (.slice a5 n5 c5) (.int .i64 i6) (.int .i64 i7) (.string s8) (.int .i64 i9) (.slice a10 n10 c10) (.slice a11 n11 c11) (.slice a12 n12 c12)).heap.size).trans (put13_size _ _ (.slice a0 n0 c0) (.int .i64 i1) (.string s2) (.string s3) (.slice a4 n4 c4) (.slice a5 n5 c5) (.int .i64 i6) (.int .i64 i7) (.string s8) (.int .i64 i9) (.slice a10 n10 c10) (.slice a11 n11 c11) (.slice a12 n12 c12))
 rw [hW6]
 obtain ⟨⟨y0, y1, y2, y3, y4, y5, y6, y7, y8, y9, y10, y11, y12⟩, -⟩ := c13p x61
 have h0 : W6.cell? ⟨w.heap.size + 1, 0, none⟩ = some (.int .i64 fe) := by simp [World.cell?, x62]
 have h1 : W6.cell? ⟨w.heap.size + 1, 1, none⟩ = some (.int .i64 fp) := by simp [World.cell?, x62]
 refine bodyPost_ret (v := .tuple #[.agg #[.slice a0 n0 c0, .int .i64 i1, .string s2, .string s3, .slice a4 n4 c4, .slice a5 n5 c5, .int .i64 i6, .int .i64 i7, .string s8, .int .i64 i9, .slice a10 n10 c10, .slice a11 n11 c11, .slice a12 n12 c12], .agg #[.int .i64 fe, .int .i64 fp]]) (by simp [results, Tryz.results9, go_sem, y0, y1, y2, y3, y4, y5, y6, y7, y8, y9, y10, y11, y12, h0, h1]) rfl ?_
 exact HFIN.out w W6 hb6 (fun x hg => lyPg.mono (fun j hj => ⟨Nat.le_trans HB2.out.size hj.1, by rw [hz6]; exact hj.2⟩) (lyPg.keep (w' := W6) (fun j ob hj ho _ => (hk6 j hj.1).trans ho) hg))
end Go.Proofs.YtejaboajgecpaaaGreatDoor
namespace Go.Proofs.YtejaboajgecpaaaGreatDoor
open Go.RowKit Go.Deep Go.Shelf
abbrev xs1 : ByteArray := ⟨#[97, 33, 60, 49, 62, 46, 98, 46, 103, 111, 46, 115, 116, 111, 112, 32, 124, 32, 88, 60, 62]⟩
theorem xsc1 : Scans xs1 (.inl (its xs1)) := ⟨by decide, rfl, by decide +kernel⟩
abbrev xs2 : ByteArray := ⟨#[97, 33, 60, 49, 62]⟩
theorem xsc2 : Scans xs2 (.inl (its xs2)) := ⟨by decide, rfl, by decide +kernel⟩
abbrev xs3 : ByteArray := ⟨#[100, 101, 102, 32, 88, 40, 97, 58, 32, 33, 51, 32, 105, 110, 116, 46, 114, 101, 99, 32, 116, 46, 63, 116, 43, 50, 46, 116, 41, 32, 61, 32, 115, 116, 111, 112, 59, 32, 109, 97, 105, 110, 32, 61, 32, 88, 60, 62, 59]⟩
theorem xsc3 : Scans xs3 (.inl (its xs3)) := ⟨by decide, rfl, by decide +kernel⟩
abbrev xs4 : ByteArray := ⟨#[43, 55, 123, 108, 58, 32, 101, 110, 100, 125]⟩
theorem xsc4 : Scans xs4 (.inl (its xs4)) := ⟨by decide, rfl, by decide +kernel⟩
abbrev xp1 : Pr := (Pr.mk 7 ⟨#[]⟩ ⟨#[]⟩ [] [] (.mk 0 0 ⟨#[]⟩ 0 [] []) [Pr.mk 2 ⟨#[97]⟩ ⟨#[]⟩ [] [⟨2, ⟨#[]⟩, 1⟩] (.mk 0 0 ⟨#[]⟩ 0 [] []) [Pr.mk 4 ⟨#[98]⟩ ⟨#[]⟩ [⟨#[103, 111]⟩] [] (.mk 0 0 ⟨#[]⟩ 0 [] []) [(Pr.mk 1 ⟨#[]⟩ ⟨#[]⟩ [] [] (.mk 0 0 ⟨#[]⟩ 0 [] []) [])]], (Pr.mk 8 ⟨#[88]⟩ ⟨#[]⟩ [] [] (.mk 0 0 ⟨#[]⟩ 0 [] []) [])])
abbrev xp3 : Pg := (Pg.mk [⟨⟨#[88]⟩, [⟨⟨#[97]⟩, (Ty.mk 4 3 ⟨#[]⟩ 0 [] [.mk 1 0 ⟨#[]⟩ 0 [] [], .mk 8 0 ⟨#[116]⟩ 0 [] [.mk 5 0 ⟨#[]⟩ 0 [] [.mk 9 0 ⟨#[116]⟩ 2 [] [], .mk 9 0 ⟨#[116]⟩ 0 [] []]]])⟩], (Pr.mk 1 ⟨#[]⟩ ⟨#[]⟩ [] [] (.mk 0 0 ⟨#[]⟩ 0 [] []) [])⟩] (Pr.mk 8 ⟨#[88]⟩ ⟨#[]⟩ [] [] (.mk 0 0 ⟨#[]⟩ 0 [] []) []))
abbrev xp4 : Ty := (Ty.mk 6 7 ⟨#[]⟩ 0 [⟨#[108]⟩] [.mk 3 0 ⟨#[]⟩ 0 [] []])
theorem xw1 : wholeE fProc bigP xs1 (.inl (its xs1)) = .inl xp1 := by kernel_rfl
theorem xw2 : wholeE fProc bigP xs2 (.inl (its xs2)) = .inr (1, 5) := by kernel_rfl
theorem xw3 : wholeE fProg Pg.tooBig xs3 (.inl (its xs3)) = .inl xp3 := by kernel_rfl
theorem xw4 : wholeE fType Ty.tooBig xs4 (.inl (its xs4)) = .inl xp4 := by kernel_rfl
end Go.Proofs.YtejaboajgecpaaaGreatDoor
