/- Scopes: the reference's Binders. (and what follows from it) -/
import Derived.Test.YtmedijheidbmhaaDoorPz6
import Derived.Test.YtmedijheidbmhaaDoorPz3
import Derived.Test.YtmedijheidbmhaaDoorTyQ
import Derived.Deep.Cut
import Derived.Shelf.SlMaps.Clone
import Derived.Ground.SlmcProg
import Derived.RangeFuncBox
import Derived.Deep.RegionWith
import Derived.Deep.RegionHeld3

/- Scopes: the reference's Binders. -/
namespace Go.Proofs.YtmedijheidbmhaaDoor
open Go.RowKit Go.Deep Go.Shelf

def b3 (p : Pr) : List ByteArray := if p.k = 3 then [p.x] else []
abbrev sbox12b (w : World) (p : Pr) (lv av tl tk kv : Value) : World := w.alloc (cell12 p lv av tl tk kv)
def RBindP (p : Pr) : Prop := ∀ (v : Value) (w : World), PLies w v p → p.size ≤ 1000000 → Calls Tryd.prog 14 #[v] w (StrRet w (p.gath Pr.bnd))

set_option maxHeartbeats 4000000 in
set_option maxRecDepth 100000 in
theorem rbinders_step (p : Pr) (ih : ∀ u ∈ p.ps, RBindP u) : RBindP p := by
  intro v w hv hsz
  obtain ⟨lv, av, tl, tk, kv, rfl, ⟨hcz, hxz⟩, hl, ha, hty, hk⟩ := hv
  obtain ⟨ka, kn, kc, rfl, hkl, hkm, hkg⟩ := hk.open
  have CE : Hid (∀ W, Below (w.heap.size + 1) (sbox12b w p lv av tl tk (.slice ka kn kc)) W → W.cell? ⟨w.heap.size, 0, none⟩ = some (.int .i64 p.k) ∧ W.cell? ⟨w.heap.size, 1, none⟩ = some (.string p.c) ∧ W.cell? ⟨w.heap.size, 2, none⟩ = some (.string p.x) ∧ W.cell? ⟨w.heap.size, 11, none⟩ = some (.slice ka kn kc)) :=
    Lib.hid (fun W hW => ⟨blk_cell hW 0 rfl, blk_cell hW 1 rfl, blk_cell hW 2 rfl, blk_cell hW 11 rfl⟩)
  have HLow : Hid (∀ W, Below (w.heap.size + 1) (sbox12b w p lv av tl tk (.slice ka kn kc)) W → Below w.heap.size w W) := Lib.hid (fun W hW => blk_below hW)
  have HKG : Hid (∀ (i : Nat) (u : Pr), p.ps[i]? = some u → ∃ gb go, ka = some ⟨gb, go, none⟩ ∧ gb < w.heap.size ∧ ∀ W, Below w.heap.size w W → PrAt (fun k => k < w.heap.size) W u gb (go + i * 12)) := Lib.hid (fun i u hi => by
    obtain ⟨gb, go, e, hgb, hu⟩ := hkg i u hi
    exact ⟨gb, go, e, hgb, fun W hW => PrAt.keep (hW.keeps'.mono (fun _ h => h)) _ _ _ hu⟩)
  have HIH := Lib.hid ih
  have hsize := p.size_eq
  have HN := Lib.hid (And.intro hsize hsz)
  have HCX := Lib.hid (And.intro hcz hxz)
  have HKL := Lib.hid hkl.out
  have HB0 : Hid (Below (w.heap.size + 1) (sbox12b w p lv av tl tk (.slice ka kn kc)) (sbox12b w p lv av tl tk (.slice ka kn kc))) := Lib.hid (Below.refl _ _)
  clear hk hkg hkl ha hty hl ih hsize hsz hcz hxz
  go_enter Tryd.func14, Tryd.ntmps14
  go_upto_if 7 with fail
  go_cut [3] from 5 (fun v wc => ∃ sa sn sc, v = .slice sa sn sc ∧ Hid (Row (w.heap.size + 1) wc (.slice sa sn sc) (b3 p)) ∧ Hid (Below (w.heap.size + 1) (sbox12b w p lv av tl tk (.slice ka kn kc)) wc))
  case first =>
    obtain ⟨c0, _, c2, _⟩ := CE.out _ HB0.out
    by_cases h3 : p.k = 3
    · have HSEL : Hid (b3 p = [p.x]) := Lib.hid (by unfold b3; rw [if_pos h3])
      have h3' : (p.k == 3) = true := by simpa using h3
      have HSO : Hid (StrSl (Fresh (sbox12b w p lv av tl tk (.slice ka kn kc)).heap.size ((sbox12b w p lv av tl tk (.slice ka kn kc)).alloc (.cells #[.string p.x] 9)).heap.size) ((sbox12b w p lv av tl tk (.slice ka kn kc)).alloc (.cells #[.string p.x] 9)) (.slice (some ⟨(sbox12b w p lv av tl tk (.slice ka kn kc)).heap.size, 0, none⟩) 1 1) [p.x]) := Lib.hid (strSl_made [p.x] (Below.refl _ _) (fun s hs => by rw [List.mem_singleton.1 hs]; exact HCX.out.2) (by simp [maxLen]))
      rw [World.size_alloc] at HSO
      clear h3
      go_wp2_with (at_builtin; refine wpList_app rfl _ _ rfl (w.heap.size + 1) [] (.slice none 0 0) rfl (Row.nil _ _) _ _ _ _ [p.x] rfl HSO.out (by simp) (by simp) ?_; intro ga gn gc w2 hrow hgrow _)
      go_meet
      case rel => exact ⟨_, _, _, rfl, Lib.hid (by rw [HSEL.out]; exact hrow), Lib.hid ((HB0.out.alloc (by simp) _).grown hgrow (by simp) (fun k e => by cases e))⟩
    · have HSEL : Hid (b3 p = []) := Lib.hid (by unfold b3; rw [if_neg h3])
      have h3' : (p.k == 3) = false := by simpa using h3
      clear h3
      go_wp2_with fail
      go_meet
      case rel => exact ⟨_, _, _, rfl, Lib.hid (by rw [HSEL.out]; exact Row.nil _ _), HB0⟩
  case rest =>
   obtain ⟨sa0, sn0, sc0, rfl, HR3, HB3⟩ := hcut
   obtain ⟨w3, hw3⟩ : ∃ w3, w3 = wc := ⟨_, rfl⟩
   subst hw3
   have hz3 : w.heap.size + 1 ≤ w3.heap.size := by have := HB3.out.size; simpa using this
   obtain ⟨c0, c1, c2, _⟩ := CE.out _ HB3.out
   go_upto_if 15 with fail
   go_cut [3] from 5 (fun v wc => ∃ sa sn sc, v = .slice sa sn sc ∧ Hid (Row (w.heap.size + 1) wc (.slice sa sn sc) p.bnd) ∧ Hid (Below (w.heap.size + 1) (sbox12b w p lv av tl tk (.slice ka kn kc)) wc))
   case first =>
    by_cases h6 : p.k = 6
    · have HB6 : Hid (p.bnd = b3 p ++ [p.c, p.x]) := Lib.hid (by unfold Pr.bnd b3; rw [h6]; simp)
      have h6' : (p.k == 6) = true := by simpa using h6
      have HSO : Hid (StrSl (Fresh w3.heap.size (w3.alloc (.cells #[.string p.c, .string p.x] 9)).heap.size) (w3.alloc (.cells #[.string p.c, .string p.x] 9)) (.slice (some ⟨w3.heap.size, 0, none⟩) 2 2) [p.c, p.x]) := Lib.hid (strSl_made [p.c, p.x] (Below.refl _ _) (fun s hs => by
        rcases List.mem_cons.1 hs with e | hs
        · rw [e]; exact HCX.out.1
        · rw [List.mem_singleton.1 hs]; exact HCX.out.2) (by simp [maxLen]))
      have HLN : Hid ((b3 p).length + [p.c, p.x].length ≤ 1000000000) := Lib.hid (by unfold b3; split <;> simp)
      have HRA : Hid (Row (w.heap.size + 1) (w3.alloc (.cells #[.string p.c, .string p.x] 9)) (.slice sa0 sn0 sc0) (b3 p)) := Lib.hid (HR3.out.alloc _)
      clear h6
      go_wp2_with (at_builtin; refine wpList_app rfl _ _ rfl (w.heap.size + 1) (b3 p) (.slice sa0 sn0 sc0) rfl HRA.out _ _ _ _ [p.c, p.x] rfl HSO.out HLN.out (by simp only [World.size_alloc]; omega) ?_; intro ga gn gc w5 hrow hgrow _)
      go_meet
      case rel => exact ⟨_, _, _, rfl, Lib.hid (by rw [HB6.out]; exact hrow), Lib.hid ((HB3.out.alloc hz3 _).grown hgrow (by simp only [World.size_alloc]; omega) (fun k e => (HRA.out.lt k e).1))⟩
    · have HB6 : Hid (p.bnd = b3 p) := Lib.hid (by
        unfold Pr.bnd b3
        by_cases h3 : p.k = 3
        · rw [if_pos h3, if_pos h3]
        · rw [if_neg h3, if_neg h3, if_neg h6])
      have h6' : (p.k == 6) = false := by simpa using h6
      clear h6
      go_wp2_with fail
      go_meet
      case rel => exact ⟨_, _, _, rfl, Lib.hid (by rw [HB6.out]; exact HR3.out), HB3⟩
   case rest =>
    obtain ⟨sa, sn, sc, rfl, HR0, HB1⟩ := hcut
    go_wp2_with fail
    go_loopw [3, 4] (fun v i wr => ∃ (j : Nat) (a : Option Addr) (n c : Nat), i = .int .i64 j ∧ j ≤ kn ∧ v = .slice a n c ∧ Hid (Row (w.heap.size + 1) wr (.slice a n c) (p.bnd ++ Pr.gaths Pr.bnd (p.ps.take j))) ∧ Hid (Below (w.heap.size + 1) (sbox12b w p lv av tl tk (.slice ka kn kc)) wr)) (fun _ i _ => kn - (intOf i).toNat)
    case atStart => exact ⟨0, _, _, _, rfl, by omega, rfl, Lib.hid (by simpa [Pr.gaths] using HR0.out), HB1⟩
    case round =>
      obtain ⟨j, ga, gn, gc, rfl, hj, rfl, HR, HB⟩ := hrel
      obtain ⟨_, _, _, c11⟩ := CE.out _ HB.out
      have hlw := HLow.out _ HB.out
      have hz1 : w.heap.size + 1 ≤ wr.heap.size := by have := HB.out.size; simpa using this
      have hgl := Pr.gaths_len bnd_len2 (p.ps.take j)
      have hsl0 := bnd_len2 p
      by_cases hlt : j < kn
      · obtain ⟨u, hu⟩ : ∃ u, p.ps[j]? = some u := ⟨_, List.getElem?_eq_getElem (by rw [← HKL.out]; exact hlt)⟩
        obtain ⟨kb, ko, rfl, hkb, hpa⟩ := HKG.out j u hu
        obtain ⟨la1, ln1, lc1, aa1, an1, ac1, ta1, tn1, tc1, ua1, un1, uc1, ka1, kn1, kc1, ⟨d0, d1, d2, d3, d4, d5, d6, d7, d8, d9, d10, d11⟩, hval⟩ := (hpa wr hlw).load'
        have hum := List.mem_of_getElem? hu
        have hus := Pr.sizes_take hu
        have husl := Pr.sizes_take_le p.ps (j + 1)
        have hul := Pr.gath_len bnd_len2 u
        have HNN := HN.out
        have HC : Hid (Calls Tryd.prog 14 #[prAgg u (.slice la1 ln1 lc1) (.slice aa1 an1 ac1) (.slice ta1 tn1 tc1) (.slice ua1 un1 uc1) (.slice ka1 kn1 kc1)] wr (StrRet wr (u.gath Pr.bnd))) := Lib.hid (HIH.out u hum _ wr (hval.mono (fun k hk => Nat.lt_of_lt_of_le hk hlw.size)) (by omega))
        have HT : Hid (p.bnd ++ Pr.gaths Pr.bnd (p.ps.take (j + 1)) = (p.bnd ++ Pr.gaths Pr.bnd (p.ps.take j)) ++ u.gath Pr.bnd) := Lib.hid (by rw [Pr.gaths_take hu, List.append_assoc])
        have HLN : Hid ((p.bnd ++ Pr.gaths Pr.bnd (p.ps.take j)).length + (u.gath Pr.bnd).length ≤ 1000000000) := Lib.hid (by rw [List.length_append]; omega)
        unfold prAgg at HC
        clear hu hpa hval hum hus husl hul HNN hgl hsl0
        go_wp2_with (first | (go_at_call 14; refine HC.out.mono ?_; rintro e w5 ⟨ya, yn, yc, rfl, hsl, hb5⟩; have HSL := Lib.hid hsl; have HB6 := Lib.hid hb5; have HR5 := Lib.hid (HR.out.to hb5); have hz6 := hb5.size; clear hsl hb5) | (at_builtin; refine wpList_app rfl _ _ rfl (w.heap.size + 1) (p.bnd ++ Pr.gaths Pr.bnd (p.ps.take j)) (.slice ga gn gc) rfl HR5.out _ _ _ _ (u.gath Pr.bnd) rfl HSL.out HLN.out (Nat.le_trans hz1 hz6) ?_; intro fa' fn' fc' w6 hrow hgrow hat; have HRW := Lib.hid hrow; have HGW := Lib.hid hgrow; clear hrow hgrow hat))
        go_roundw
        case rel => exact ⟨j + 1, _, _, _, by go_num, by omega, rfl, Lib.hid (by rw [HT.out]; exact HRW.out), Lib.hid ((HB.out.trans (HB6.out.mono hz1)).grown HGW.out (Nat.le_trans hz1 hz6) (fun k e => (HR5.out.lt k e).1))⟩
        case measure => simp [intOf]; omega
      · obtain rfl : kn = j := by omega
        have HLE : Hid (p.bnd ++ Pr.gaths Pr.bnd (p.ps.take kn) = p.gath Pr.bnd) := Lib.hid (by rw [List.take_of_length_le (by rw [HKL.out]; exact Nat.le_refl _), Pr.gath_eq])
        have HLL : Hid ((p.gath Pr.bnd).length ≤ maxLen) := Lib.hid (by have := Pr.gath_len bnd_len2 p; have := HN.out; unfold maxLen; omega)
        clear hgl hsl0
        go_wp2_with fail
        go_ret
        refine ⟨_, _, _, rfl, ?_, hlw⟩
        have h := HR.out
        rw [HLE.out] at h
        exact (h.strs HLL.out).2.mono (fun k hk => ⟨by have := hk.1; omega, hk.2⟩)

theorem rbinders_any : ∀ p : Pr, RBindP p := by
  refine Pr.ind ?_
  intro k c x ls vs t ps ih
  exact rbinders_step (.mk k c x ls vs t ps) ih

end Go.Proofs.YtmedijheidbmhaaDoor

/- Scopes: the reference's Calls. -/
namespace Go.Proofs.YtmedijheidbmhaaDoor
open Go.RowKit Go.Deep Go.Shelf

abbrev sbox12 (w : World) (p : Pr) (lv av tl tk kv : Value) : World := w.alloc (cell12 p lv av tl tk kv)
def RCallsP (p : Pr) : Prop := ∀ (v : Value) (w : World), PLies w v p → p.size ≤ 1000000 → Calls Tryd.prog 12 #[v] w (StrRet w (p.gath selC))

set_option maxHeartbeats 4000000 in
set_option maxRecDepth 100000 in
theorem rcalls_step (p : Pr) (ih : ∀ u ∈ p.ps, RCallsP u) : RCallsP p := by
  intro v w hv hsz
  obtain ⟨lv, av, tl, tk, kv, rfl, ⟨hcz, hxz⟩, hl, ha, hty, hk⟩ := hv
  obtain ⟨ka, kn, kc, rfl, hkl, hkm, hkg⟩ := hk.open
  have CE : Hid (∀ W, Below (w.heap.size + 1) (sbox12 w p lv av tl tk (.slice ka kn kc)) W → W.cell? ⟨w.heap.size, 0, none⟩ = some (.int .i64 p.k) ∧ W.cell? ⟨w.heap.size, 1, none⟩ = some (.string p.c) ∧ W.cell? ⟨w.heap.size, 11, none⟩ = some (.slice ka kn kc)) :=
    Lib.hid (fun W hW => ⟨blk_cell hW 0 rfl, blk_cell hW 1 rfl, blk_cell hW 11 rfl⟩)
  have HLow : Hid (∀ W, Below (w.heap.size + 1) (sbox12 w p lv av tl tk (.slice ka kn kc)) W → Below w.heap.size w W) := Lib.hid (fun W hW => blk_below hW)
  have HKG : Hid (∀ (i : Nat) (u : Pr), p.ps[i]? = some u → ∃ gb go, ka = some ⟨gb, go, none⟩ ∧ gb < w.heap.size ∧ ∀ W, Below w.heap.size w W → PrAt (fun k => k < w.heap.size) W u gb (go + i * 12)) := Lib.hid (fun i u hi => by
    obtain ⟨gb, go, e, hgb, hu⟩ := hkg i u hi
    exact ⟨gb, go, e, hgb, fun W hW => PrAt.keep (hW.keeps'.mono (fun _ h => h)) _ _ _ hu⟩)
  have HIH := Lib.hid ih
  have hsize := p.size_eq
  have HN := Lib.hid (And.intro hsize hsz)
  have HCX := Lib.hid hcz
  have HKL := Lib.hid hkl.out
  have HB0 : Hid (Below (w.heap.size + 1) (sbox12 w p lv av tl tk (.slice ka kn kc)) (sbox12 w p lv av tl tk (.slice ka kn kc))) := Lib.hid (Below.refl _ _)
  clear hk hkg hkl ha hty hl ih hsize hsz hcz hxz
  go_enter Tryd.func12, Tryd.ntmps12
  go_upto_if 7 with fail
  go_cut [3] from 5 (fun v wc => ∃ sa sn sc, v = .slice sa sn sc ∧ Hid (Row (w.heap.size + 1) wc (.slice sa sn sc) (selC p)) ∧ Hid (Below (w.heap.size + 1) (sbox12 w p lv av tl tk (.slice ka kn kc)) wc))
  case first =>
    obtain ⟨c0, c1, _⟩ := CE.out _ HB0.out
    by_cases h8 : p.k = 8
    · have HSEL : Hid (selC p = [p.c]) := Lib.hid (by unfold selC; rw [if_pos h8])
      have h8' : (p.k == 8) = true := by simpa using h8
      have HSO : Hid (StrSl (Fresh (sbox12 w p lv av tl tk (.slice ka kn kc)).heap.size ((sbox12 w p lv av tl tk (.slice ka kn kc)).alloc (.cells #[.string p.c] 9)).heap.size) ((sbox12 w p lv av tl tk (.slice ka kn kc)).alloc (.cells #[.string p.c] 9)) (.slice (some ⟨(sbox12 w p lv av tl tk (.slice ka kn kc)).heap.size, 0, none⟩) 1 1) [p.c]) := Lib.hid (strSl_made [p.c] (Below.refl _ _) (fun s hs => by rw [List.mem_singleton.1 hs]; exact HCX.out) (by simp [maxLen]))
      rw [World.size_alloc] at HSO
      clear h8
      go_wp2_with (at_builtin; refine wpList_app rfl _ _ rfl (w.heap.size + 1) [] (.slice none 0 0) rfl (Row.nil _ _) _ _ _ _ [p.c] rfl HSO.out (by simp) (by simp) ?_; intro ga gn gc w2 hrow hgrow _)
      go_meet
      case rel => exact ⟨_, _, _, rfl, Lib.hid (by rw [HSEL.out]; exact hrow), Lib.hid ((HB0.out.alloc (by simp) _).grown hgrow (by simp) (fun k e => by cases e))⟩
    · have HSEL : Hid (selC p = []) := Lib.hid (by unfold selC; rw [if_neg h8])
      have h8' : (p.k == 8) = false := by simpa using h8
      clear h8
      go_wp2_with fail
      go_meet
      case rel => exact ⟨_, _, _, rfl, Lib.hid (by rw [HSEL.out]; exact Row.nil _ _), HB0⟩
  case rest =>
    obtain ⟨sa, sn, sc, rfl, HR0, HB1⟩ := hcut
    go_wp2_with fail
    go_loopw [3, 4] (fun v i wr => ∃ (j : Nat) (a : Option Addr) (n c : Nat), i = .int .i64 j ∧ j ≤ kn ∧ v = .slice a n c ∧ Hid (Row (w.heap.size + 1) wr (.slice a n c) (selC p ++ Pr.gaths selC (p.ps.take j))) ∧ Hid (Below (w.heap.size + 1) (sbox12 w p lv av tl tk (.slice ka kn kc)) wr)) (fun _ i _ => kn - (intOf i).toNat)
    case atStart => exact ⟨0, _, _, _, rfl, by omega, rfl, Lib.hid (by simpa [Pr.gaths] using HR0.out), HB1⟩
    case round =>
      obtain ⟨j, ga, gn, gc, rfl, hj, rfl, HR, HB⟩ := hrel
      obtain ⟨_, _, c11⟩ := CE.out _ HB.out
      have hlw := HLow.out _ HB.out
      have hz1 : w.heap.size + 1 ≤ wr.heap.size := by have := HB.out.size; simpa using this
      have hgl := Pr.gaths_len selC_len (p.ps.take j)
      have hsl0 := selC_len p
      by_cases hlt : j < kn
      · obtain ⟨u, hu⟩ : ∃ u, p.ps[j]? = some u := ⟨_, List.getElem?_eq_getElem (by rw [← HKL.out]; exact hlt)⟩
        obtain ⟨kb, ko, rfl, hkb, hpa⟩ := HKG.out j u hu
        obtain ⟨la1, ln1, lc1, aa1, an1, ac1, ta1, tn1, tc1, ua1, un1, uc1, ka1, kn1, kc1, ⟨d0, d1, d2, d3, d4, d5, d6, d7, d8, d9, d10, d11⟩, hval⟩ := (hpa wr hlw).load'
        have hum := List.mem_of_getElem? hu
        have hus := Pr.sizes_take hu
        have husl := Pr.sizes_take_le p.ps (j + 1)
        have hul := Pr.gath_len selC_len u
        have HNN := HN.out
        have HC : Hid (Calls Tryd.prog 12 #[prAgg u (.slice la1 ln1 lc1) (.slice aa1 an1 ac1) (.slice ta1 tn1 tc1) (.slice ua1 un1 uc1) (.slice ka1 kn1 kc1)] wr (StrRet wr (u.gath selC))) := Lib.hid (HIH.out u hum _ wr (hval.mono (fun k hk => Nat.lt_of_lt_of_le hk hlw.size)) (by omega))
        have HT : Hid (selC p ++ Pr.gaths selC (p.ps.take (j + 1)) = (selC p ++ Pr.gaths selC (p.ps.take j)) ++ u.gath selC) := Lib.hid (by rw [Pr.gaths_take hu, List.append_assoc])
        have HLN : Hid ((selC p ++ Pr.gaths selC (p.ps.take j)).length + (u.gath selC).length ≤ 1000000000) := Lib.hid (by rw [List.length_append]; omega)
        unfold prAgg at HC
        clear hu hpa hval hum hus husl hul HNN hgl hsl0
        go_wp2_with (first | (go_at_call 12; refine HC.out.mono ?_; rintro e w5 ⟨ya, yn, yc, rfl, hsl, hb5⟩; have HSL := Lib.hid hsl; have HB6 := Lib.hid hb5; have HR5 := Lib.hid (HR.out.to hb5); have hz6 := hb5.size; clear hsl hb5) | (at_builtin; refine wpList_app rfl _ _ rfl (w.heap.size + 1) (selC p ++ Pr.gaths selC (p.ps.take j)) (.slice ga gn gc) rfl HR5.out _ _ _ _ (u.gath selC) rfl HSL.out HLN.out (Nat.le_trans hz1 hz6) ?_; intro fa' fn' fc' w6 hrow hgrow hat; have HRW := Lib.hid hrow; have HGW := Lib.hid hgrow; clear hrow hgrow hat))
        go_roundw
        case rel => exact ⟨j + 1, _, _, _, by go_num, by omega, rfl, Lib.hid (by rw [HT.out]; exact HRW.out), Lib.hid ((HB.out.trans (HB6.out.mono hz1)).grown HGW.out (Nat.le_trans hz1 hz6) (fun k e => (HR5.out.lt k e).1))⟩
        case measure => simp [intOf]; omega
      · obtain rfl : kn = j := by omega
        have HLE : Hid (selC p ++ Pr.gaths selC (p.ps.take kn) = p.gath selC) := Lib.hid (by rw [List.take_of_length_le (by rw [HKL.out]; exact Nat.le_refl _), Pr.gath_eq])
        have HLL : Hid ((p.gath selC).length ≤ maxLen) := Lib.hid (by have := Pr.gath_len selC_len p; have := HN.out; unfold maxLen; omega)
        clear hgl hsl0
        go_wp2_with fail
        go_ret
        refine ⟨_, _, _, rfl, ?_, hlw⟩
        have h := HR.out
        rw [HLE.out] at h
        exact (h.strs HLL.out).2.mono (fun k hk => ⟨by have := hk.1; omega, hk.2⟩)

theorem rcalls_any : ∀ p : Pr, RCallsP p := by
  refine Pr.ind ?_
  intro k c x ls vs t ps ih
  exact rcalls_step (.mk k c x ls vs t ps) ih

end Go.Proofs.YtmedijheidbmhaaDoor

/- Scopes: nodeError. -/
namespace Go.Proofs.YtmedijheidbmhaaDoor
open Go.RowKit Go.Deep Go.Shelf

theorem any_take {α : Type} {l : List α} {j : Nat} {x : α} (f : α → Bool) (h : l[j]? = some x) (ht : (l.take j).any f = false) : (l.take (j + 1)).any f = f x ∧ (f x = true → l.any f = true) := by
  refine ⟨?_, fun hx => ?_⟩
  · rw [take_snoc_get h, List.any_append, ht]; simp
  · rw [List.any_eq_true]; exact ⟨x, List.mem_of_getElem? h, hx⟩
theorem Pr.nodeE_4a {ar : ByteArray → Option Nat} {sc : List ByteArray} {g : Bool} {p : Pr} (h : (prefixB p.k && !memB p.c sc) = true) : p.nodeE ar sc g = 4 := by unfold Pr.nodeE; rw [if_pos h]
theorem Pr.nodeE_4b {ar : ByteArray → Option Nat} {sc : List ByteArray} {g : Bool} {p : Pr} (h : (prefixB p.k && !memB p.c sc) = false) (h2 : p.vs.any (badArg sc) = true) : p.nodeE ar sc g = 4 := by unfold Pr.nodeE; rw [if_neg (by rw [h]; simp), if_pos h2]
theorem Pr.nodeE_5 {ar : ByteArray → Option Nat} {sc : List ByteArray} {g : Bool} {p : Pr} (h : (prefixB p.k && !memB p.c sc) = false) (h2 : p.vs.any (badArg sc) = false) (h3 : p.bnd.any (fun s => memB s sc) = true) : p.nodeE ar sc g = 5 := by unfold Pr.nodeE; rw [if_neg (by rw [h]; simp), if_neg (by rw [h2]; simp), if_pos h3]
theorem Pr.nodeE_8 {ar : ByteArray → Option Nat} {sc : List ByteArray} {g : Bool} {p : Pr} (h : (prefixB p.k && !memB p.c sc) = false) (h2 : p.vs.any (badArg sc) = false) (h3 : p.bnd.any (fun s => memB s sc) = false) (h8 : p.k = 8) : p.nodeE ar sc g = callE (ar p.c) p.vs.length g := by unfold Pr.nodeE; rw [if_neg (by rw [h]; simp), if_neg (by rw [h2]; simp), if_neg (by rw [h3]; simp), if_pos h8]
theorem Pr.nodeE_0 {ar : ByteArray → Option Nat} {sc : List ByteArray} {g : Bool} {p : Pr} (h : (prefixB p.k && !memB p.c sc) = false) (h2 : p.vs.any (badArg sc) = false) (h3 : p.bnd.any (fun s => memB s sc) = false) (h8 : p.k ≠ 8) : p.nodeE ar sc g = 0 := by unfold Pr.nodeE; rw [if_neg (by rw [h]; simp), if_neg (by rw [h2]; simp), if_neg (by rw [h3]; simp), if_neg h8]

set_option maxHeartbeats 8000000 in
set_option maxRecDepth 100000 in
theorem snodeError_any (S : Nat → Prop) (p : Pr) (b o : Nat) (pq aq : Option Nat) (g : Bool) (sc : List ByteArray) (n ab nn : Nat) (ar : ByteArray → Option Nat) (w : World) (hS : Low S w) (hp : PrAt S w p b o) (hpl : Plc w pq aq sc n) (ha : ArIs w ab nn ar) (r : Int) (hr : p.nodeE ar sc g = r) :
    Calls Tryd.prog 37 #[.pointer (some ⟨b, o, none⟩), .agg #[.map pq, .map aq, .bool g], .map (some ab)] w fun e w' => e = .returned (.int .i64 r) ∧ Below w.heap.size w w' := by
  have hb0 : Below w.heap.size w (w.alloc (cell3 pq aq g)) := blkBelow w _ _
  have hlow : ∀ W, Below (w.heap.size + 1) (w.alloc (cell3 pq aq g)) W → Below w.heap.size w W := fun W hW => blk_below hW
  have CZ : Hid (∀ W, Below (w.heap.size + 1) (w.alloc (cell3 pq aq g)) W → W.cell? ⟨w.heap.size, 0, none⟩ = some (.map pq) ∧ W.cell? ⟨w.heap.size, 1, none⟩ = some (.map aq) ∧ W.cell? ⟨w.heap.size, 2, none⟩ = some (.bool g)) := Lib.hid (fun W hW => ⟨blk_cell hW 0 rfl, blk_cell hW 1 rfl, blk_cell hW 2 rfl⟩)
  have hp0 := hp
  obtain ⟨hSb, ⟨hcz, hxz⟩, ⟨d0, d1, d2⟩, hty, lv, av, kv, d3, d4, d11, hl, hv, hk⟩ := PrAt.eq.1 hp
  obtain ⟨aa, an, ac, rfl, hal, ham, hag⟩ := hv.open
  obtain ⟨la1, ln1, lc1, aa1, an1, ac1, ta1, tn1, tc1, ua1, un1, uc1, ka1, kn1, kc1, ⟨c0, c1, c2, c3, c4, c5, c6, c7, c8, c9, c10, c11⟩, hval⟩ := hp.load'
  have hbl := hS b hSb
  have e4 := c4.symm.trans d4
  simp only [Option.some.injEq, Value.slice.injEq] at e4
  obtain ⟨rfl, rfl, rfl⟩ := e4
  have HP : Hid (∀ W, Below (w.heap.size + 1) (w.alloc (cell3 pq aq g)) W → PrAt S W p b o ∧ Low S W ∧ Plc W pq aq sc n ∧ ArIs W ab nn ar) := Lib.hid (fun W hW => ⟨PrAt.keep ((hlow W hW).keeps'.mono hS) _ _ _ hp0, hS.le (hlow W hW).size, hpl.to (hlow W hW), ha.to (hlow W hW)⟩)
  have HC : Hid (∀ W, Below (w.heap.size + 1) (w.alloc (cell3 pq aq g)) W → W.cell? ⟨b, o, none⟩ = some (.int .i64 p.k) ∧ W.cell? ⟨b, o + 4, none⟩ = some (.slice aa1 an1 ac1)) := Lib.hid (fun W hW => ⟨((hlow W hW).cell (p := ⟨b, _, none⟩) hbl).trans c0, ((hlow W hW).cell (p := ⟨b, _, none⟩) hbl).trans c4⟩)
  have HAG : Hid (∀ (i : Nat) (a : Vl), p.vs[i]? = some a → a.n.size ≤ maxLen ∧ ∃ gb go, aa1 = some ⟨gb, go, none⟩ ∧ gb < w.heap.size ∧ ∀ W, Below w.heap.size w W → W.cell? ⟨gb, go + i * 3, none⟩ = some (.int .i64 a.k) ∧ W.cell? ⟨gb, go + i * 3 + 1, none⟩ = some (.string a.n) ∧ W.cell? ⟨gb, go + i * 3 + 2, none⟩ = some (.int .i64 a.x)) := Lib.hid (fun i a hi => by
    obtain ⟨h1, gb, go, e, hgb, q0, q1, q2⟩ := hag i a hi
    have hgb' := hS gb hgb
    exact ⟨h1, gb, go, e, hgb', fun W hW => ⟨(hW.cell (p := ⟨gb, _, none⟩) hgb').trans q0, (hW.cell (p := ⟨gb, _, none⟩) hgb').trans q1, (hW.cell (p := ⟨gb, _, none⟩) hgb').trans q2⟩⟩)
  have HLow := Lib.hid hlow
  have HAL := Lib.hid hal.out
  obtain ⟨pb, hpb⟩ : ∃ x, prefixB p.k = x := ⟨_, rfl⟩
  obtain ⟨mc, hmc⟩ : ∃ x, memB p.c sc = x := ⟨_, rfl⟩
  have HPX : Hid (∀ W, Below (w.heap.size + 1) (w.alloc (cell3 pq aq g)) W → Calls Tryd.prog 46 #[prAgg p (.slice la1 ln1 lc1) (.slice aa1 an1 ac1) (.slice ta1 tn1 tc1) (.slice ua1 un1 uc1) (.slice ka1 kn1 kc1)] W fun e w' => e = .returned (.bool pb) ∧ Below W.heap.size W w') := Lib.hid (fun W hW => by
    rw [← hpb]
    exact pprefix_any S p _ W (hval.keep ((hlow W hW).keeps'.mono hS)))
  have HHC : Hid (∀ W, Below (w.heap.size + 1) (w.alloc (cell3 pq aq g)) W → Calls Tryd.prog 47 #[.agg #[.map pq, .map aq, .bool g], .string p.c] W fun e w' => e = .returned (.bool mc) ∧ Below W.heap.size W w') := Lib.hid (fun W hW => has_any pq aq g sc n p.c hcz mc hmc W (hpl.to (hlow W hW)))
  have HHS : Hid (∀ (s : ByteArray) (m : Bool) W, s.size ≤ maxLen → memB s sc = m → Below (w.heap.size + 1) (w.alloc (cell3 pq aq g)) W → Calls Tryd.prog 47 #[.agg #[.map pq, .map aq, .bool g], .string s] W fun e w' => e = .returned (.bool m) ∧ Below W.heap.size W w') := Lib.hid (fun s m W hs hm hW => has_any pq aq g sc n s hs m hm W (hpl.to (hlow W hW)))
  have HPB := Lib.hid hpb
  have HMC := Lib.hid hmc
  have HR := Lib.hid hr
  have HB0 : Hid (Below (w.heap.size + 1) (w.alloc (cell3 pq aq g)) (w.alloc (cell3 pq aq g))) := Lib.hid (Below.refl _ _)
  have hbl1 : b < w.heap.size + 1 := by omega
  have kz := fun Q : Later (w.heap.size + 1) (w.alloc (cell3 pq aq g)) => CZ.out Q.1 Q.2
  have kc : ∀ Q : Later (w.heap.size + 1) (w.alloc (cell3 pq aq g)), Q.1.cell? ⟨b, o, none⟩ = some (.int .i64 p.k) ∧ Q.1.cell? ⟨b, o + 1, none⟩ = some (.string p.c) ∧ Q.1.cell? ⟨b, o + 2, none⟩ = some (.string p.x) ∧ Q.1.cell? ⟨b, o + 3, none⟩ = some (.slice la1 ln1 lc1) ∧ Q.1.cell? ⟨b, o + 4, none⟩ = some (.slice aa1 an1 ac1) ∧ Q.1.cell? ⟨b, o + 5, none⟩ = some (.int .i64 p.t.k) ∧ Q.1.cell? ⟨b, o + 6, none⟩ = some (.int .i64 p.t.p) ∧ Q.1.cell? ⟨b, o + 7, none⟩ = some (.string p.t.n) ∧ Q.1.cell? ⟨b, o + 8, none⟩ = some (.int .i64 p.t.s) ∧ Q.1.cell? ⟨b, o + 9, none⟩ = some (.slice ta1 tn1 tc1) ∧ Q.1.cell? ⟨b, o + 10, none⟩ = some (.slice ua1 un1 uc1) ∧ Q.1.cell? ⟨b, o + 11, none⟩ = some (.slice ka1 kn1 kc1) := fun Q => by
    have h : ∀ i v, w.cell? ⟨b, i, none⟩ = some v → Q.1.cell? ⟨b, i, none⟩ = some v := fun i v hv => ((hlow Q.1 Q.2).cell (p := ⟨b, _, none⟩) hbl).trans hv
    exact ⟨h _ _ c0, h _ _ c1, h _ _ c2, h _ _ c3, h _ _ c4, h _ _ c5, h _ _ c6, h _ _ c7, h _ _ c8, h _ _ c9, h _ _ c10, h _ _ c11⟩
  simp only [forall_and] at kz kc
  obtain ⟨z0, z1, z2⟩ := kz
  obtain ⟨y0, y1, y2, y3, y4, y5, y6, y7, y8, y9, y10, y11⟩ := kc
  unfold prAgg at HPX
  clear hp hp0 hpl ha hr hpb hmc hb0 hlow hcz hxz d0 d1 d2 hty d3 d4 d11 hl hv hk hal hag c0 c1 c2 c3 c4 c5 c6 c7 c8 c9 c10 c11 hval hS hSb
  go_enter Tryd.func37, Tryd.ntmps37
  go_upto_region 1 with fail
  go_cut [23] from 11 (fun t wc => t = .bool (pb && !mc) ∧ Hid (Below (w.heap.size + 1) (w.alloc (cell3 pq aq g)) wc))
  case first =>
    cases pb
    · refine wp_region_later (w.heap.size + 1) (w.alloc (cell3 pq aq g)) (by kernel_rfl) (by kernel_rfl) HB0.out ?_
      repeat (go_big_quiet_step (first | (go_at_call 46; exact later_call _ (by simp) (HPX.out _ (Subtype.property _))) | (go_at_call 47; exact later_call _ (by simp) (HHC.out _ (Subtype.property _)))))
      refine wpQuiet_nil ?_
      rintro _ ⟨⟨w5, hb5⟩, rfl⟩
      go_wp2_with fail
      go_meet
      case rel => exact ⟨rfl, Lib.hid hb5⟩
    · cases mc
      · refine wp_region_later (w.heap.size + 1) (w.alloc (cell3 pq aq g)) (by kernel_rfl) (by kernel_rfl) HB0.out ?_
        repeat (go_big_quiet_step (first | (go_at_call 46; exact later_call _ (by simp) (HPX.out _ (Subtype.property _))) | (go_at_call 47; exact later_call _ (by simp) (HHC.out _ (Subtype.property _)))))
        refine wpQuiet_nil ?_
        rintro _ ⟨⟨w5, hb5⟩, rfl⟩
        go_wp2_with fail
        go_meet
        case rel => exact ⟨rfl, Lib.hid hb5⟩
      · refine wp_region_later (w.heap.size + 1) (w.alloc (cell3 pq aq g)) (by kernel_rfl) (by kernel_rfl) HB0.out ?_
        repeat (go_big_quiet_step (first | (go_at_call 46; exact later_call _ (by simp) (HPX.out _ (Subtype.property _))) | (go_at_call 47; exact later_call _ (by simp) (HHC.out _ (Subtype.property _)))))
        refine wpQuiet_nil ?_
        rintro _ ⟨⟨w5, hb5⟩, rfl⟩
        go_wp2_with fail
        go_meet
        case rel => exact ⟨rfl, Lib.hid hb5⟩
  case rest =>
    obtain ⟨rfl, HB1⟩ := hcut
    clear z0 z1 z2 y0 y1 y2 y3 y4 y5 y6 y7 y8 y9 y10 y11 HPX HHC
    obtain ⟨bad, hbad⟩ : ∃ x, (pb && !mc) = x := ⟨_, rfl⟩
    have HBD : Hid ((prefixB p.k && !memB p.c sc) = bad) := Lib.hid (by rw [HPB.out, HMC.out, hbad])
    rw [hbad]
    clear hbad
    cases bad
    · obtain ⟨_, c4⟩ := HC.out wc HB1.out
      go_wp2_with fail
      clear c4
      go_loopw [29] (fun i wr => ∃ (j : Nat), i = .int .i64 (j : Int) ∧ j ≤ an1 ∧ Hid ((p.vs.take j).any (badArg sc) = false) ∧ Hid (Below (w.heap.size + 1) (w.alloc (cell3 pq aq g)) wr)) (fun i _ => an1 - (intOf i).toNat)
      case atStart => exact ⟨0, rfl, by omega, Lib.hid (by simp), HB1⟩
      case round =>
        obtain ⟨j, rfl, hj, HT, HBj⟩ := hrel
        obtain ⟨wo, hwo⟩ : ∃ wo, wo = wr := ⟨_, rfl⟩
        subst hwo
        have hzs : w.heap.size + 1 ≤ wo.heap.size := by have := HBj.out.size; simpa using this
        by_cases hlt : j < an1
        · obtain ⟨a, haj⟩ : ∃ a, p.vs[j]? = some a := ⟨_, List.getElem?_eq_getElem (by rw [← HAL.out]; exact hlt)⟩
          obtain ⟨has, gb, go, rfl, hgz, hcells⟩ := HAG.out j a haj
          obtain ⟨q0, q1, q2⟩ := hcells wo (HLow.out wo HBj.out)
          obtain ⟨z0, z1, z2⟩ := CZ.out wo HBj.out
          have hzz : w.heap.size < wo.heap.size := by omega
          have hgs : gb < wo.heap.size := by omega
          obtain ⟨hA1, hA2⟩ := any_take (badArg sc) haj HT.out
          have HBX : Hid (Below (w.heap.size + 1) (w.alloc (cell3 pq aq g)) (wo.alloc (.cells #[.int .i64 a.k, .string a.n, .int .i64 a.x] 51))) := Lib.hid (HBj.out.alloc (by simpa using hzs) _)
          obtain ⟨ak, hak⟩ : ∃ ak, a.k = ak := ⟨_, rfl⟩
          obtain ⟨m, hm⟩ : ∃ m, memB a.n sc = m := ⟨_, rfl⟩
          rw [hak] at q0 HBX
          have HBA : Hid (badArg sc a = (decide (ak = 1) && !m)) := Lib.hid (by unfold badArg; rw [hak, hm])
          have HHX := Lib.hid (HHS.out a.n m _ has hm HBX.out)
          have HA1 := Lib.hid hA1
          have HA2 := Lib.hid hA2
          clear haj has hcells hA1 hA2 hak hm
          by_cases h1 : ak = 1
          · subst h1
            cases m
            · have HF : Hid (r = 4) := Lib.hid (by rw [← HR.out]; exact Pr.nodeE_4b HBD.out (HA2.out (by rw [HBA.out]; rfl)))
              go_wp2_with (go_at_call 47; refine HHX.out.mono ?_; rintro e w3 ⟨rfl, hb3⟩; replace hb3 := Lib.hid hb3)
              go_ret
              exact ⟨by rw [HF.out]; rfl, HLow.out _ (HBX.out.trans (hb3.out.mono (by simp; omega)))⟩
            · have HN : Hid ((p.vs.take (j + 1)).any (badArg sc) = false) := Lib.hid (by rw [HA1.out, HBA.out]; rfl)
              go_wp2_with (go_at_call 47; refine HHX.out.mono ?_; rintro e w3 ⟨rfl, hb3⟩; replace hb3 := Lib.hid hb3)
              go_roundw
              case rel => exact ⟨j + 1, by go_num, by omega, HN, Lib.hid (HBX.out.trans (hb3.out.mono (by simp; omega)))⟩
              case measure => simp [intOf]; omega
          · have h1' : (ak == 1) = false := by simpa using h1
            have HN : Hid ((p.vs.take (j + 1)).any (badArg sc) = false) := Lib.hid (by rw [HA1.out, HBA.out]; simp [h1])
            clear h1
            go_wp2_with fail
            go_roundw
            case rel => exact ⟨j + 1, by go_num, by omega, HN, HBX⟩
            case measure => simp [intOf]; omega
        · obtain rfl : j = an1 := by omega
          have HA : Hid (p.vs.any (badArg sc) = false) := Lib.hid (by
            have h := HT.out
            rwa [List.take_of_length_le (by rw [HAL.out]; exact Nat.le_refl _)] at h)
          obtain ⟨hpw, hSw, _, _⟩ := HP.out wo HBj.out
          have HBI := Lib.hid (bound_any S p b o wo hSw hpw)
          clear hpw hSw HT
          go_wp2_with (go_at_call 22; refine HBI.out.mono ?_; rintro e w4 ⟨la, ln, lc, rfl, hsl, hb4⟩; replace hsl := Lib.hid hsl; replace hb4 := Lib.hid hb4)
          obtain ⟨pa', len', c', e', hln, hlm, hlg⟩ := hsl.out.open
          simp only [Value.slice.injEq] at e'
          obtain ⟨rfl, rfl, rfl⟩ := e'
          have HB4 : Hid (Below (w.heap.size + 1) (w.alloc (cell3 pq aq g)) w4) := Lib.hid (HBj.out.trans (hb4.out.mono (by simpa using hzs)))
          have hzs4 : w.heap.size + 1 ≤ w4.heap.size := by have := HB4.out.size; simpa using this
          have HLG : Hid (∀ i s, p.bnd[i]? = some s → s.size ≤ maxLen ∧ ∃ kb ko, la = some ⟨kb, ko, none⟩ ∧ ∀ W, Below w4.heap.size w4 W → W.cell? ⟨kb, ko + i, none⟩ = some (.string s)) := Lib.hid (fun i s hi => by
            obtain ⟨h1, kb, ko, e, hkb, hc⟩ := hlg i s hi
            exact ⟨h1, kb, ko, e, fun W hW => (hW.cell (p := ⟨kb, _, none⟩) hkb.2).trans hc⟩)
          clear hlg hsl hb4
          go_loopw [47] (fun i wr => ∃ (j : Nat), i = .int .i64 (j : Int) ∧ j ≤ ln ∧ Hid ((p.bnd.take j).any (fun s => memB s sc) = false) ∧ Hid (Below w4.heap.size w4 wr)) (fun i _ => ln - (intOf i).toNat)
          case atStart => exact ⟨0, rfl, by omega, Lib.hid (by simp), Lib.hid (Below.refl _ _)⟩
          case round =>
            obtain ⟨m2, rfl, hm2, HT2, HBm⟩ := hrel
            have HBw : Hid (Below (w.heap.size + 1) (w.alloc (cell3 pq aq g)) wr) := Lib.hid (HB4.out.trans (HBm.out.mono hzs4))
            obtain ⟨z0, z1, z2⟩ := CZ.out wr HBw.out
            have hzw : w4.heap.size ≤ wr.heap.size := HBm.out.size
            by_cases hlt2 : m2 < ln
            · obtain ⟨s, hsj⟩ : ∃ s, p.bnd[m2]? = some s := ⟨_, List.getElem?_eq_getElem (by rw [← hln.out]; exact hlt2)⟩
              obtain ⟨hss, gb, go, rfl, hcs⟩ := HLG.out m2 s hsj
              have q0 := hcs wr HBm.out
              obtain ⟨hA1, hA2⟩ := any_take (fun s => memB s sc) hsj HT2.out
              obtain ⟨m, hm⟩ : ∃ m, memB s sc = m := ⟨_, rfl⟩
              simp only [hm] at hA1 hA2
              have HHX := Lib.hid (HHS.out s m _ hss hm HBw.out)
              have HA1 := Lib.hid hA1
              have HA2 := Lib.hid hA2
              clear hsj hss hcs hA1 hA2 hm
              cases m
              · go_wp2_with (go_at_call 47; refine HHX.out.mono ?_; rintro e w3 ⟨rfl, hb3⟩; replace hb3 := Lib.hid hb3)
                go_roundw
                case rel => exact ⟨m2 + 1, by go_num, by omega, HA1, Lib.hid (HBm.out.trans (hb3.out.mono hzw))⟩
                case measure => simp [intOf]; omega
              · have HF : Hid (r = 5) := Lib.hid (by rw [← HR.out]; exact Pr.nodeE_5 HBD.out HA.out (HA2.out rfl))
                go_wp2_with (go_at_call 47; refine HHX.out.mono ?_; rintro e w3 ⟨rfl, hb3⟩; replace hb3 := Lib.hid hb3)
                go_ret
                exact ⟨by rw [HF.out]; rfl, HLow.out _ (HBw.out.trans (hb3.out.mono (by omega)))⟩
            · obtain rfl : m2 = ln := by omega
              have HA3 : Hid (p.bnd.any (fun s => memB s sc) = false) := Lib.hid (by
                have h := HT2.out
                rwa [List.take_of_length_le (by rw [hln.out]; exact Nat.le_refl _)] at h)
              obtain ⟨c0, _⟩ := HC.out wr HBw.out
              obtain ⟨hpw, hSw, _, haw⟩ := HP.out wr HBw.out
              by_cases h8 : p.k = 8
              · have HCE := Lib.hid (callError_any S p b o g ab nn ar wr hSw hpw haw r (by rw [← HR.out]; exact (Pr.nodeE_8 HBD.out HA.out HA3.out h8).symm))
                rw [h8] at c0
                clear hpw hSw haw h8
                go_wp2_with (go_at_call 48; refine HCE.out.mono ?_; rintro e w3 ⟨rfl, hb3⟩; replace hb3 := Lib.hid hb3)
                go_ret
                exact ⟨rfl, HLow.out _ (HBw.out.trans (hb3.out.mono (by omega)))⟩
              · have h8' : (p.k == 8) = false := by simpa using h8
                have HF : Hid (r = 0) := Lib.hid (by rw [← HR.out]; exact Pr.nodeE_0 HBD.out HA.out HA3.out h8)
                clear hpw hSw haw h8
                go_wp2_with fail
                go_ret
                exact ⟨by rw [HF.out]; rfl, HLow.out _ HBw.out⟩
    · have HF : Hid (r = 4) := Lib.hid (by rw [← HR.out]; exact Pr.nodeE_4a HBD.out)
      go_wp2_with fail
      go_ret
      exact ⟨by rw [HF.out]; rfl, HLow.out _ HB1.out⟩

end Go.Proofs.YtmedijheidbmhaaDoor

/- Scopes: below, placeOfBody. -/
namespace Go.Proofs.YtmedijheidbmhaaDoor
open Go.Shelf
/-- The library's maps.Clone at this program: a table of numbers, and a field a fact of the program's own. -/
def scopeCloneL_ren : Go.Shelf.Ren := ⟨fun | 5 => 49 | 7 => 75 | n => n, fun | 23 => 67 | 25 => 9 | 3 => 4 | 4 => 4 | 20 => 20 | n => n, fun | n => n⟩
theorem scopeCloneL : Go.Proofs.SlLaysW.n5 Tryd.prog scopeCloneL_ren := {
  mixed := by kernel_rfl
  f5 := ⟨Tryd.f49.name, by decide, Tryd.func49.trans (congrArg some (by kernel_rfl))⟩
  f7 := Tryd.func75.trans (congrArg some (by kernel_rfl))
  t4 := Tryd.underlying4
  a4 := Tryd.isAgg4
  z4 := Tryd.sizeOf4
  v4 := Tryd.zeroValue4
  t20 := Tryd.underlying20
  a20 := Tryd.isAgg20
  z20 := Tryd.sizeOf20
  v20 := Tryd.zeroValue20
  t23 := Tryd.underlying67
  a23 := Tryd.isAgg67
  z23 := Tryd.sizeOf67
  v23 := Tryd.zeroValue67 }
end Go.Proofs.YtmedijheidbmhaaDoor

namespace Go.Proofs.YtmedijheidbmhaaDoor
open Go.RowKit Go.Deep Go.Shelf

theorem Pr.bnd_len' (p : Pr) : p.bnd.length ≤ 2 := by unfold Pr.bnd; split <;> (try split) <;> simp
theorem cell_same {W W' : World} {k i : Nat} (h : W'.heap[k]? = W.heap[k]?) : W'.cell? ⟨k, i, none⟩ = W.cell? ⟨k, i, none⟩ := by unfold World.cell?; rw [h]
theorem SetIs.same {w w' : World} {b n : Nat} {l : List ByteArray} (h : SetIs w b n l) (e : w'.heap[b]? = w.heap[b]?) : SetIs w' b n l := by
  obtain ⟨D, ⟨es, clock, h1, r⟩, hf⟩ := h
  exact ⟨D, ⟨es, clock, e.trans h1, r⟩, hf⟩
theorem scalls_at {P : Program} {f : FuncId} {vs : Array Value} {Q : Ending → World → Prop} {W W0 : World} (h : W = W0) (k : Calls P f vs W0 Q) : Calls P f vs W Q := by rw [h]; exact k
theorem set_other' (W : World) {b c i : Nat} (v : Value) (h : c ≠ b) : (W.setCell ⟨b, i, none⟩ v).heap[c]? = W.heap[c]? := by
  show (W.heap.modify b _)[c]? = _
  rw [Array.getElem?_modify]
  rw [if_neg (fun e => h e.symm)]
theorem mapsClone_any (b n : Nat) (l : List ByteArray) (w : World) (h : SetIs w b n l) :
    Calls Tryd.prog 49 #[.map (some b)] w fun e w' => ∃ c, e = .returned (.map (some c)) ∧ w.heap.size ≤ c ∧ SetIs w' c n l ∧ Below w.heap.size w w' := by
  obtain ⟨D, ho, hf⟩ := h
  have hcon := AnyW.maps_Clone_owns scopeCloneL 9 (plainElem Tryd.prog 4) b n D w ho
  change Calls Tryd.prog 49 _ _ _ at hcon
  exact hcon.mono fun e w' ⟨he, h1, _, hB⟩ => ⟨_, he, Nat.le_refl _, ⟨D, h1, hf⟩, hB⟩

/-- A block with the three cells of a place. -/
def Three (W : World) (b : Nat) (a0 a1 a2 : Value) : Prop := W.heap[b]? = some (.cells #[a0, a1, a2] 69 (0, 0))
section
variable {W W' : World} {b : Nat} {a0 a1 a2 : Value}
theorem Three.cells (h : Three W b a0 a1 a2) : (W.cell? ⟨b, 0, none⟩ = some a0 ∧ W.cell? ⟨b, 1, none⟩ = some a1 ∧ W.cell? ⟨b, 2, none⟩ = some a2) ∧ W.frozen? ⟨b, 0, none⟩ = false ∧ W.frozen? ⟨b, 1, none⟩ = false ∧ W.frozen? ⟨b, 2, none⟩ = false := by
  unfold Three at h
  refine ⟨⟨?_, ?_, ?_⟩, ?_, ?_, ?_⟩ <;> simp [World.cell?, World.frozen?, h]
theorem Three.lt (h : Three W b a0 a1 a2) : b < W.heap.size := (Array.getElem?_eq_some_iff.1 h).1
theorem Three.to (h : Three W b a0 a1 a2) (hb : Below W.heap.size W W') : Three W' b a0 a1 a2 := (hb.block b h.lt).trans h
theorem Three.grown {row : Option Nat} (h : Three W b a0 a1 a2) (hg : W.grownBy W' row) (hne : some b ≠ row) : Three W' b a0 a1 a2 := (hg.block b h.lt hne).trans h
theorem Three.set0 (h : Three W b a0 a1 a2) (v : Value) : Three (W.setCell ⟨b, 0, none⟩ v) b v a1 a2 := set_block h 0 v
theorem Three.set1 (h : Three W b a0 a1 a2) (v : Value) : Three (W.setCell ⟨b, 1, none⟩ v) b a0 v a2 := set_block h 1 v
theorem Three.set2 (h : Three W b a0 a1 a2) (v : Value) : Three (W.setCell ⟨b, 2, none⟩ v) b a0 a1 v := set_block h 2 v
end
theorem three_new (w : World) (a0 a1 a2 : Value) : Three (w.alloc (.cells #[a0, a1, a2] 69)) w.heap.size a0 a1 a2 := World.alloc_heap_new _ _
abbrev zero3 : Obj := .cells #[.map none, .map none, .bool false] 69

set_option maxHeartbeats 8000000 in
set_option maxRecDepth 100000 in
theorem below_any (S : Nat → Prop) (p : Pr) (b o : Nat) (pq aq : Option Nat) (g : Bool) (sc : List ByteArray) (n : Nat) (hn : n ≤ 100000000) (w : World) (hS : Low S w) (hp : PrAt S w p b o) (hpl : Plc w pq aq sc n) :
    Calls Tryd.prog 38 #[.agg #[.map pq, .map aq, .bool g], .pointer (some ⟨b, o, none⟩)] w fun e w' => ∃ cq, e = .returned (.agg #[.map pq, .map cq, .bool (g || prefixB p.k)]) ∧ Plc w' pq cq (sc ++ p.bnd) (n + 2) ∧ Below w.heap.size w w' := by
  have hb0 : Below w.heap.size w ((w.alloc (cell3 pq aq g)).alloc zero3) := (blkBelow w _ _).alloc (by simp) _
  obtain ⟨W0, hW0⟩ : ∃ W0, (w.alloc (cell3 pq aq g)).alloc zero3 = W0 := ⟨_, rfl⟩
  have t0 : Three W0 w.heap.size (.map pq) (.map aq) (.bool g) := by rw [← hW0]; exact (three_new w _ _ _).to ((Below.refl _ _).alloc (Nat.le_refl _) _)
  have t1 : Three W0 (w.heap.size + 1) (.map none) (.map none) (.bool false) := by rw [← hW0]; have h := three_new (w.alloc (cell3 pq aq g)) (.map none) (.map none) (.bool false); rwa [World.size_alloc] at h
  have hs0 : W0.heap.size = w.heap.size + 2 := by rw [← hW0]; simp
  rw [hW0] at hb0
  obtain ⟨la1, ln1, lc1, aa1, an1, ac1, ta1, tn1, tc1, ua1, un1, uc1, ka1, kn1, kc1, ⟨c0, c1, c2, c3, c4, c5, c6, c7, c8, c9, c10, c11⟩, hval⟩ := hp.load'
  obtain ⟨hSb, ⟨hcz, hxz⟩, _⟩ := PrAt.eq.1 hp
  have hbl := hS b hSb
  obtain ⟨pb, hpb⟩ : ∃ x, prefixB p.k = x := ⟨_, rfl⟩
  have HPX : Hid (∀ W, Below w.heap.size w W → Calls Tryd.prog 46 #[prAgg p (.slice la1 ln1 lc1) (.slice aa1 an1 ac1) (.slice ta1 tn1 tc1) (.slice ua1 un1 uc1) (.slice ka1 kn1 kc1)] W fun e w' => e = .returned (.bool pb) ∧ Below W.heap.size W w') := Lib.hid (fun W hW => by
    rw [← hpb]
    exact pprefix_any S p _ W (hval.keep (hW.keeps'.mono hS)))
  have HP : Hid (∀ W, Below w.heap.size w W → PrAt S W p b o ∧ Low S W ∧ Plc W pq aq sc n) := Lib.hid (fun W hW => ⟨PrAt.keep (hW.keeps'.mono hS) _ _ _ hp, hS.le hW.size, hpl.to hW⟩)
  obtain ⟨ps, us, hps, hus, hsm, hul, hmem⟩ := hpl.sets
  have HN : Hid (∀ W, Below w.heap.size w W → NSet W pq ps ∧ NSet W aq us) := Lib.hid (fun W hW => ⟨hps.to hW, hus.to hW⟩)
  have HHM := Lib.hid (And.intro hul hmem)
  have HPB := Lib.hid hpb
  clear hps hus hul hmem
  have HT0 := Lib.hid t0
  have HT1 := Lib.hid t1
  have HW0 := Lib.hid hW0
  have HB0 := Lib.hid hb0
  have HS0 := Lib.hid hs0
  unfold prAgg at HPX
  clear hp hpl hpb t0 t1 hW0 hb0 hcz hxz hval hS hSb hs0
  have gc : g = true ∨ g = false := by cases g <;> simp
  have hgb : ∀ W1 : World, (w.alloc (cell3 pq aq true)).alloc zero3 = W0 → W0.setCell ⟨w.heap.size, 2, none⟩ (.bool true) = W1 → ((w.alloc (cell3 pq aq true)).alloc zero3).setCell ⟨w.heap.size, 2, none⟩ (.bool true) = W1 := fun W1 h1 h2 => by rw [h1]; exact h2
  rcases gc with rfl | rfl
  · obtain ⟨W1, hW1⟩ : ∃ W1, W0.setCell ⟨w.heap.size, 2, none⟩ (.bool true) = W1 := ⟨_, rfl⟩
    have k0 : Hid (Three W1 w.heap.size (.map pq) (.map aq) (.bool (true || pb))) := Lib.hid (by rw [← hW1]; exact HT0.out.set2 _)
    have k1 : Hid (Three W1 (w.heap.size + 1) (.map none) (.map none) (.bool false)) := Lib.hid (by rw [← hW1]; exact (set_other' W0 _ (by omega)).trans HT1.out)
    have k2 : Hid (Below w.heap.size w W1) := Lib.hid (by rw [← hW1]; exact HB0.out.setCell (p := ⟨w.heap.size, 2, none⟩) (by simp) _)
    have k3 : w.heap.size + 2 ≤ W1.heap.size := by rw [← hW1]; simp; have := HS0.out; omega
    have hWW := hgb W1 HW0.out hW1
    clear c0 c1 c2 c3 c4 c5 c6 c7 c8 c9 c10 c11 hgb hW1
    go_enter Tryd.func38, Tryd.ntmps38
    go_wp2_with fail
    clear hWW
    obtain ⟨gg, hgg⟩ : ∃ x, (true || pb) = x := ⟨_, rfl⟩
    have HGG : Hid (gg = (true || prefixB p.k)) := Lib.hid (by rw [HPB.out, hgg])
    rw [hgg] at k0
    have hus := (HN.out W1 k2.out).2
    obtain ⟨ab, rfl, hset⟩ : ∃ ab, aq = some ab ∧ SetIs W1 ab us.length us := by
      rcases hus with ⟨rfl, _⟩ | ⟨ab, e, h⟩
      · cases hsm
      · exact ⟨ab, e, h⟩
    clear hus hsm hgg
    refine (bound_any S p b o W1 (HP.out W1 k2.out).2.1 (HP.out W1 k2.out).1).mono ?_
    rintro e w4 ⟨la, ln, lc, rfl, hsl, hb4⟩
    obtain ⟨_, _, _, e', hln, hlm, hlg⟩ := hsl.open
    simp only [Value.slice.injEq] at e'
    obtain ⟨rfl, rfl, rfl⟩ := e'
    have HT4 : Hid (Three w4 w.heap.size (.map pq) (.map (some ab)) (.bool gg)) := Lib.hid (k0.out.to hb4)
    have HU4 : Hid (Three w4 (w.heap.size + 1) (.map none) (.map none) (.bool false)) := Lib.hid (k1.out.to hb4)
    have HB4 : Hid (Below w.heap.size w w4) := Lib.hid (k2.out.trans (hb4.mono (by omega)))
    have HSET4 : Hid (SetIs w4 ab us.length us) := Lib.hid (hset.below hb4 hset.lt)
    have HLG : Hid (∀ i s, p.bnd[i]? = some s → s.size ≤ maxLen ∧ ∃ kb ko, la = some ⟨kb, ko, none⟩ ∧ W1.heap.size ≤ kb ∧ kb < w4.heap.size ∧ w4.cell? ⟨kb, ko + i, none⟩ = some (.string s)) := Lib.hid (fun i s hi => by
      obtain ⟨h1, kb, ko, e, hkb, hc⟩ := hlg i s hi
      exact ⟨h1, kb, ko, e, hkb.1, hkb.2, hc⟩)
    have hln2 : ln ≤ 2 := by have := hln.out; have := p.bnd_len'; omega
    have hz4 : w.heap.size + 2 ≤ w4.heap.size := Nat.le_trans k3 hb4.size
    clear hsl hlg hset hb4 k0 k1 k2
    obtain ⟨⟨y0, y1, y2⟩, g0, g1, g2⟩ := HT4.out.cells
    obtain ⟨⟨v0, v1, v2⟩, h0, h1, h2⟩ := HU4.out.cells
    by_cases hz : ln = 0
    · subst hz
      have hbe : p.bnd = [] := List.length_eq_zero_iff.1 hln.out.symm
      have HBE := Lib.hid hbe
      clear hbe
      go_wp2_with fail
      obtain ⟨W9, h9⟩ : ∃ W9, (((w4.setCell ⟨w.heap.size + 1, 0, none⟩ (.map pq)).setCell ⟨w.heap.size + 1, 1, none⟩ (.map (some ab))).setCell ⟨w.heap.size + 1, 2, none⟩ (.bool gg)) = W9 := ⟨_, rfl⟩
      have t9 : Three W9 (w.heap.size + 1) (.map pq) (.map (some ab)) (.bool gg) := by rw [← h9]; exact ((HU4.out.set0 _).set1 _).set2 _
      have b9 : Below w.heap.size w W9 := by rw [← h9]; exact ((HB4.out.setCell (p := ⟨w.heap.size + 1, 0, none⟩) (by simp) _).setCell (p := ⟨w.heap.size + 1, 1, none⟩) (by simp) _).setCell (p := ⟨w.heap.size + 1, 2, none⟩) (by simp) _
      rw [h9]
      obtain ⟨⟨q0, q1, q2⟩, _⟩ := t9.cells
      clear v0 v1 v2 h0 h1 h2 y0 y1 y2 g0 g1 g2
      refine bodyPost_ret (v := .agg #[.map pq, .map (some ab), .bool gg]) (by simp [results, Tryd.results38, go_sem, q0, q1, q2]) rfl ⟨some ab, by rw [HGG.out], ?_, b9⟩
      rw [HBE.out, List.append_nil]
      obtain ⟨ps', us', a1, a2, a3, a4, a5⟩ := (HP.out W9 b9).2.2.sets
      exact ⟨⟨ps', us', a1, a2, a3, by omega, a5⟩⟩
    · have hz1 : decide ((0 : Int) < (ln : Int)) = true := by simp; omega
      have hz2 : decide (0 < ln) = true := by simp; omega
      have hz3 : 0 < ln := by omega
      clear v0 v1 v2 h0 h1 h2
      go_wp2_with (go_at_call 49; refine (mapsClone_any ab us.length us w4 HSET4.out).mono ?_; rintro e w5 ⟨cb, rfl, hcb, hset5, hb5⟩; have t5 := HT4.out.to hb5; obtain ⟨⟨y0, y1, y2⟩, g0, g1, g2⟩ := t5.cells; have HT5 := Lib.hid t5; replace hset5 := Lib.hid hset5; replace hb5 := Lib.hid hb5; clear t5)
      go_loopw [28] (fun i wr => ∃ (j : Nat), i = .int .i64 (j : Int) ∧ j ≤ ln ∧ Hid (SetIs wr cb (us.length + j) (us ++ p.bnd.take j)) ∧ Hid (Three wr w.heap.size (.map pq) (.map (some cb)) (.bool gg)) ∧ Hid (Three wr (w.heap.size + 1) (.map none) (.map none) (.bool false)) ∧ Hid (∀ k, W1.heap.size ≤ k → k < w4.heap.size → wr.heap[k]? = w4.heap[k]?) ∧ Hid (Below w.heap.size w wr)) (fun i _ => ln - (intOf i).toNat)
      case atStart =>
        have e4 : ∀ k, k ≠ w.heap.size → (w5.setCell ⟨w.heap.size, 1, none⟩ (.map (some cb))).heap[k]? = w5.heap[k]? := fun k hk => set_other' _ _ hk
        refine ⟨0, rfl, by omega, Lib.hid ?_, Lib.hid ((HT5.out.set1 _)), Lib.hid ?_, Lib.hid (fun k hk1 hk2 => ?_), Lib.hid ?_⟩
        · rw [List.take_zero, List.append_nil, Nat.add_zero]; exact hset5.out.same (e4 cb (by omega))
        · exact (e4 _ (by omega)).trans (HU4.out.to hb5.out)
        · rw [e4 k (by omega)]; exact hb5.out.block k hk2
        · exact (HB4.out.trans (hb5.out.mono (by omega))).setCell (p := ⟨w.heap.size, 1, none⟩) (by simp) _
      case round =>
        obtain ⟨j, rfl, hj, HSE, HTr, HUr, HK, HBr⟩ := hrel
        obtain ⟨wo, hwo⟩ : ∃ wo, wo = wr := ⟨_, rfl⟩
        subst hwo
        obtain ⟨⟨y0, y1, y2⟩, g0, g1, g2⟩ := HTr.out.cells
        have hcbz : w.heap.size + 2 ≤ cb := by omega
        by_cases hlt : j < ln
        · obtain ⟨s, hs⟩ : ∃ s, p.bnd[j]? = some s := ⟨_, List.getElem?_eq_getElem (by rw [← hln.out]; exact hlt)⟩
          obtain ⟨hss, kb, ko, rfl, hk1, hk2, hc⟩ := HLG.out j s hs
          have q0 := (cell_same (i := ko + j) (HK.out kb hk1 hk2)).trans hc
          have hkw : kb < wo.heap.size := World.block_lt_of_cell? wo _ q0
          obtain ⟨w6, hup, hse6, hgr⟩ := HSE.out.put (by have := HHM.out.1; unfold maxLen; omega) hss
          have HS6 : Hid (SetIs w6 cb (us.length + (j + 1)) (us ++ p.bnd.take (j + 1))) := Lib.hid (by rw [take_snoc_get hs, ← List.append_assoc]; exact hse6)
          have HT6 : Hid (Three w6 w.heap.size (.map pq) (.map (some cb)) (.bool gg)) := Lib.hid (HTr.out.grown hgr (by simp; omega))
          have HU6 : Hid (Three w6 (w.heap.size + 1) (.map none) (.map none) (.bool false)) := Lib.hid (HUr.out.grown hgr (by simp; omega))
          have HK6 : Hid (∀ k, W1.heap.size ≤ k → k < w4.heap.size → w6.heap[k]? = w4.heap[k]?) := Lib.hid (fun k h1 h2 => (hgr.block k (by have := HSE.out.lt; omega) (by simp; omega)).trans (HK.out k h1 h2))
          have HB6 : Hid (Below w.heap.size w w6) := Lib.hid (HBr.out.grown hgr HBr.out.size (fun k e => by cases e; omega))
          clear hs hss hk1 hk2 hc hse6 hgr
          go_wp2_with fail
          go_roundw
          case rel => exact ⟨j + 1, by go_num, by omega, HS6, HT6, HU6, HK6, HB6⟩
          case measure => simp [intOf]; omega
        · obtain rfl : j = ln := by omega
          have HSF : Hid (SetIs wo cb (us ++ p.bnd).length (us ++ p.bnd)) := Lib.hid (by
            have h := HSE.out
            rw [List.take_of_length_le (by rw [hln.out]; exact Nat.le_refl _), hln.out] at h
            rw [List.length_append]; exact h)
          obtain ⟨⟨v0, v1, v2⟩, h0, h1, h2⟩ := HUr.out.cells
          clear HSE HK
          go_wp2_with fail
          obtain ⟨W9, h9⟩ : ∃ W9, (((wo.setCell ⟨w.heap.size + 1, 0, none⟩ (.map pq)).setCell ⟨w.heap.size + 1, 1, none⟩ (.map (some cb))).setCell ⟨w.heap.size + 1, 2, none⟩ (.bool gg)) = W9 := ⟨_, rfl⟩
          have t9 : Three W9 (w.heap.size + 1) (.map pq) (.map (some cb)) (.bool gg) := by rw [← h9]; exact ((HUr.out.set0 _).set1 _).set2 _
          have b9 : Below w.heap.size w W9 := by rw [← h9]; exact ((HBr.out.setCell (p := ⟨w.heap.size + 1, 0, none⟩) (by simp) _).setCell (p := ⟨w.heap.size + 1, 1, none⟩) (by simp) _).setCell (p := ⟨w.heap.size + 1, 2, none⟩) (by simp) _
          have s9 : SetIs W9 cb (us ++ p.bnd).length (us ++ p.bnd) := by rw [← h9]; exact HSF.out.same (by rw [set_other' _ _ (by omega), set_other' _ _ (by omega), set_other' _ _ (by omega)])
          rw [h9]
          obtain ⟨⟨q0, q1, q2⟩, _⟩ := t9.cells
          clear v0 v1 v2 h0 h1 h2 y0 y1 y2 g0 g1 g2
          refine bodyPost_ret (v := .agg #[.map pq, .map (some cb), .bool gg]) (by simp [results, Tryd.results38, go_sem, q0, q1, q2]) rfl ⟨some cb, by rw [HGG.out], ?_, b9⟩
          obtain ⟨ps', us', a1, a2, a3, a4, a5⟩ := (HP.out W9 b9).2.2.sets
          refine ⟨⟨ps, us ++ p.bnd, (HN.out W9 b9).1, .inr ⟨cb, rfl, s9⟩, rfl, by rw [List.length_append, ← hln.out]; have := HHM.out.1; omega, fun s => ?_⟩⟩
          rw [memB_append, memB_append, HHM.out.2 s, Bool.or_assoc]
  · obtain ⟨⟨x0, x1, x2⟩, f0, f1, f2⟩ := HT0.out.cells
    go_enter Tryd.func38, Tryd.ntmps38
    go_wp2_with fail
    refine scalls_at HW0.out ?_
    refine (HPX.out W0 HB0.out).mono ?_
    rintro e w2 ⟨rfl, hb2⟩
    have t0 := HT0.out.to hb2
    obtain ⟨⟨y0, y1, y2⟩, g0, g1, g2⟩ := t0.cells
    obtain ⟨W1, hWW⟩ : ∃ W1, w2.setCell ⟨w.heap.size, 2, none⟩ (.bool pb) = W1 := ⟨_, rfl⟩
    have k0 : Hid (Three W1 w.heap.size (.map pq) (.map aq) (.bool (false || pb))) := Lib.hid (by rw [← hWW, Bool.false_or]; exact t0.set2 _)
    have k1 : Hid (Three W1 (w.heap.size + 1) (.map none) (.map none) (.bool false)) := Lib.hid (by rw [← hWW]; exact (set_other' w2 _ (by omega)).trans (HT1.out.to hb2))
    have k2 : Hid (Below w.heap.size w W1) := Lib.hid (by rw [← hWW]; exact (HB0.out.trans (hb2.mono (by have := HS0.out; omega))).setCell (p := ⟨w.heap.size, 2, none⟩) (by simp) _)
    have k3 : w.heap.size + 2 ≤ W1.heap.size := by rw [← hWW]; simp; have := HS0.out; have := hb2.size; omega
    clear c0 c1 c2 c3 c4 c5 c6 c7 c8 c9 c10 c11 hgb t0 x0 x1 x2 f0 f1 f2
    go_wp2_with fail
    clear hWW y0 y1 y2 g0 g1 g2 hb2
    obtain ⟨gg, hgg⟩ : ∃ x, (false || pb) = x := ⟨_, rfl⟩
    have HGG : Hid (gg = (false || prefixB p.k)) := Lib.hid (by rw [HPB.out, hgg])
    rw [hgg] at k0
    have hus := (HN.out W1 k2.out).2
    obtain ⟨ab, rfl, hset⟩ : ∃ ab, aq = some ab ∧ SetIs W1 ab us.length us := by
      rcases hus with ⟨rfl, _⟩ | ⟨ab, e, h⟩
      · cases hsm
      · exact ⟨ab, e, h⟩
    clear hus hsm hgg
    refine (bound_any S p b o W1 (HP.out W1 k2.out).2.1 (HP.out W1 k2.out).1).mono ?_
    rintro e w4 ⟨la, ln, lc, rfl, hsl, hb4⟩
    obtain ⟨_, _, _, e', hln, hlm, hlg⟩ := hsl.open
    simp only [Value.slice.injEq] at e'
    obtain ⟨rfl, rfl, rfl⟩ := e'
    have HT4 : Hid (Three w4 w.heap.size (.map pq) (.map (some ab)) (.bool gg)) := Lib.hid (k0.out.to hb4)
    have HU4 : Hid (Three w4 (w.heap.size + 1) (.map none) (.map none) (.bool false)) := Lib.hid (k1.out.to hb4)
    have HB4 : Hid (Below w.heap.size w w4) := Lib.hid (k2.out.trans (hb4.mono (by omega)))
    have HSET4 : Hid (SetIs w4 ab us.length us) := Lib.hid (hset.below hb4 hset.lt)
    have HLG : Hid (∀ i s, p.bnd[i]? = some s → s.size ≤ maxLen ∧ ∃ kb ko, la = some ⟨kb, ko, none⟩ ∧ W1.heap.size ≤ kb ∧ kb < w4.heap.size ∧ w4.cell? ⟨kb, ko + i, none⟩ = some (.string s)) := Lib.hid (fun i s hi => by
      obtain ⟨h1, kb, ko, e, hkb, hc⟩ := hlg i s hi
      exact ⟨h1, kb, ko, e, hkb.1, hkb.2, hc⟩)
    have hln2 : ln ≤ 2 := by have := hln.out; have := p.bnd_len'; omega
    have hz4 : w.heap.size + 2 ≤ w4.heap.size := Nat.le_trans k3 hb4.size
    clear hsl hlg hset hb4 k0 k1 k2
    obtain ⟨⟨y0, y1, y2⟩, g0, g1, g2⟩ := HT4.out.cells
    obtain ⟨⟨v0, v1, v2⟩, h0, h1, h2⟩ := HU4.out.cells
    by_cases hz : ln = 0
    · subst hz
      have hbe : p.bnd = [] := List.length_eq_zero_iff.1 hln.out.symm
      have HBE := Lib.hid hbe
      clear hbe
      go_wp2_with fail
      obtain ⟨W9, h9⟩ : ∃ W9, (((w4.setCell ⟨w.heap.size + 1, 0, none⟩ (.map pq)).setCell ⟨w.heap.size + 1, 1, none⟩ (.map (some ab))).setCell ⟨w.heap.size + 1, 2, none⟩ (.bool gg)) = W9 := ⟨_, rfl⟩
      have t9 : Three W9 (w.heap.size + 1) (.map pq) (.map (some ab)) (.bool gg) := by rw [← h9]; exact ((HU4.out.set0 _).set1 _).set2 _
      have b9 : Below w.heap.size w W9 := by rw [← h9]; exact ((HB4.out.setCell (p := ⟨w.heap.size + 1, 0, none⟩) (by simp) _).setCell (p := ⟨w.heap.size + 1, 1, none⟩) (by simp) _).setCell (p := ⟨w.heap.size + 1, 2, none⟩) (by simp) _
      rw [h9]
      obtain ⟨⟨q0, q1, q2⟩, _⟩ := t9.cells
      clear v0 v1 v2 h0 h1 h2 y0 y1 y2 g0 g1 g2
      refine bodyPost_ret (v := .agg #[.map pq, .map (some ab), .bool gg]) (by simp [results, Tryd.results38, go_sem, q0, q1, q2]) rfl ⟨some ab, by rw [HGG.out], ?_, b9⟩
      rw [HBE.out, List.append_nil]
      obtain ⟨ps', us', a1, a2, a3, a4, a5⟩ := (HP.out W9 b9).2.2.sets
      exact ⟨⟨ps', us', a1, a2, a3, by omega, a5⟩⟩
    · have hz1 : decide ((0 : Int) < (ln : Int)) = true := by simp; omega
      have hz2 : decide (0 < ln) = true := by simp; omega
      have hz3 : 0 < ln := by omega
      clear v0 v1 v2 h0 h1 h2
      go_wp2_with (go_at_call 49; refine (mapsClone_any ab us.length us w4 HSET4.out).mono ?_; rintro e w5 ⟨cb, rfl, hcb, hset5, hb5⟩; have t5 := HT4.out.to hb5; obtain ⟨⟨y0, y1, y2⟩, g0, g1, g2⟩ := t5.cells; have HT5 := Lib.hid t5; replace hset5 := Lib.hid hset5; replace hb5 := Lib.hid hb5; clear t5)
      go_loopw [28] (fun i wr => ∃ (j : Nat), i = .int .i64 (j : Int) ∧ j ≤ ln ∧ Hid (SetIs wr cb (us.length + j) (us ++ p.bnd.take j)) ∧ Hid (Three wr w.heap.size (.map pq) (.map (some cb)) (.bool gg)) ∧ Hid (Three wr (w.heap.size + 1) (.map none) (.map none) (.bool false)) ∧ Hid (∀ k, W1.heap.size ≤ k → k < w4.heap.size → wr.heap[k]? = w4.heap[k]?) ∧ Hid (Below w.heap.size w wr)) (fun i _ => ln - (intOf i).toNat)
      case atStart =>
        have e4 : ∀ k, k ≠ w.heap.size → (w5.setCell ⟨w.heap.size, 1, none⟩ (.map (some cb))).heap[k]? = w5.heap[k]? := fun k hk => set_other' _ _ hk
        refine ⟨0, rfl, by omega, Lib.hid ?_, Lib.hid ((HT5.out.set1 _)), Lib.hid ?_, Lib.hid (fun k hk1 hk2 => ?_), Lib.hid ?_⟩
        · rw [List.take_zero, List.append_nil, Nat.add_zero]; exact hset5.out.same (e4 cb (by omega))
        · exact (e4 _ (by omega)).trans (HU4.out.to hb5.out)
        · rw [e4 k (by omega)]; exact hb5.out.block k hk2
        · exact (HB4.out.trans (hb5.out.mono (by omega))).setCell (p := ⟨w.heap.size, 1, none⟩) (by simp) _
      case round =>
        obtain ⟨j, rfl, hj, HSE, HTr, HUr, HK, HBr⟩ := hrel
        obtain ⟨wo, hwo⟩ : ∃ wo, wo = wr := ⟨_, rfl⟩
        subst hwo
        obtain ⟨⟨y0, y1, y2⟩, g0, g1, g2⟩ := HTr.out.cells
        have hcbz : w.heap.size + 2 ≤ cb := by omega
        by_cases hlt : j < ln
        · obtain ⟨s, hs⟩ : ∃ s, p.bnd[j]? = some s := ⟨_, List.getElem?_eq_getElem (by rw [← hln.out]; exact hlt)⟩
          obtain ⟨hss, kb, ko, rfl, hk1, hk2, hc⟩ := HLG.out j s hs
          have q0 := (cell_same (i := ko + j) (HK.out kb hk1 hk2)).trans hc
          have hkw : kb < wo.heap.size := World.block_lt_of_cell? wo _ q0
          obtain ⟨w6, hup, hse6, hgr⟩ := HSE.out.put (by have := HHM.out.1; unfold maxLen; omega) hss
          have HS6 : Hid (SetIs w6 cb (us.length + (j + 1)) (us ++ p.bnd.take (j + 1))) := Lib.hid (by rw [take_snoc_get hs, ← List.append_assoc]; exact hse6)
          have HT6 : Hid (Three w6 w.heap.size (.map pq) (.map (some cb)) (.bool gg)) := Lib.hid (HTr.out.grown hgr (by simp; omega))
          have HU6 : Hid (Three w6 (w.heap.size + 1) (.map none) (.map none) (.bool false)) := Lib.hid (HUr.out.grown hgr (by simp; omega))
          have HK6 : Hid (∀ k, W1.heap.size ≤ k → k < w4.heap.size → w6.heap[k]? = w4.heap[k]?) := Lib.hid (fun k h1 h2 => (hgr.block k (by have := HSE.out.lt; omega) (by simp; omega)).trans (HK.out k h1 h2))
          have HB6 : Hid (Below w.heap.size w w6) := Lib.hid (HBr.out.grown hgr HBr.out.size (fun k e => by cases e; omega))
          clear hs hss hk1 hk2 hc hse6 hgr
          go_wp2_with fail
          go_roundw
          case rel => exact ⟨j + 1, by go_num, by omega, HS6, HT6, HU6, HK6, HB6⟩
          case measure => simp [intOf]; omega
        · obtain rfl : j = ln := by omega
          have HSF : Hid (SetIs wo cb (us ++ p.bnd).length (us ++ p.bnd)) := Lib.hid (by
            have h := HSE.out
            rw [List.take_of_length_le (by rw [hln.out]; exact Nat.le_refl _), hln.out] at h
            rw [List.length_append]; exact h)
          obtain ⟨⟨v0, v1, v2⟩, h0, h1, h2⟩ := HUr.out.cells
          clear HSE HK
          go_wp2_with fail
          obtain ⟨W9, h9⟩ : ∃ W9, (((wo.setCell ⟨w.heap.size + 1, 0, none⟩ (.map pq)).setCell ⟨w.heap.size + 1, 1, none⟩ (.map (some cb))).setCell ⟨w.heap.size + 1, 2, none⟩ (.bool gg)) = W9 := ⟨_, rfl⟩
          have t9 : Three W9 (w.heap.size + 1) (.map pq) (.map (some cb)) (.bool gg) := by rw [← h9]; exact ((HUr.out.set0 _).set1 _).set2 _
          have b9 : Below w.heap.size w W9 := by rw [← h9]; exact ((HBr.out.setCell (p := ⟨w.heap.size + 1, 0, none⟩) (by simp) _).setCell (p := ⟨w.heap.size + 1, 1, none⟩) (by simp) _).setCell (p := ⟨w.heap.size + 1, 2, none⟩) (by simp) _
          have s9 : SetIs W9 cb (us ++ p.bnd).length (us ++ p.bnd) := by rw [← h9]; exact HSF.out.same (by rw [set_other' _ _ (by omega), set_other' _ _ (by omega), set_other' _ _ (by omega)])
          rw [h9]
          obtain ⟨⟨q0, q1, q2⟩, _⟩ := t9.cells
          clear v0 v1 v2 h0 h1 h2 y0 y1 y2 g0 g1 g2
          refine bodyPost_ret (v := .agg #[.map pq, .map (some cb), .bool gg]) (by simp [results, Tryd.results38, go_sem, q0, q1, q2]) rfl ⟨some cb, by rw [HGG.out], ?_, b9⟩
          obtain ⟨ps', us', a1, a2, a3, a4, a5⟩ := (HP.out W9 b9).2.2.sets
          refine ⟨⟨ps, us ++ p.bnd, (HN.out W9 b9).1, .inr ⟨cb, rfl, s9⟩, rfl, by rw [List.length_append, ← hln.out]; have := HHM.out.1; omega, fun s => ?_⟩⟩
          rw [memB_append, memB_append, HHM.out.2 s, Bool.or_assoc]

end Go.Proofs.YtmedijheidbmhaaDoor

/- Scopes: the walk over a body, bodyError, placeOfBody. -/
namespace Go.Proofs.YtmedijheidbmhaaDoor
open Go.RowKit Go.Deep Go.Shelf

/-- What lies in the blocks of a call of bodyError, from block z on. -/
structure BSt (z ab nn : Nat) (ar : ByteArray → Option Nat) (W : World) : Prop where
  abox : W.heap[z + 1]? = some (.cells #[.map (some ab)] 63 (0, 0))
  wbox : W.heap[z + 2]? = some (.cells #[.func (.func 36) #[] #[ptr (z + 1), ptr (z + 2)]] 80 (0, 0))
  ars : ArIs W ab nn ar
theorem BSt.size {z ab nn : Nat} {ar : ByteArray → Option Nat} {W : World} (h : BSt z ab nn ar W) : z + 3 ≤ W.heap.size := (Array.getElem?_eq_some_iff.1 h.wbox).1
theorem BSt.to {z ab nn : Nat} {ar : ByteArray → Option Nat} {W W' : World} (h : BSt z ab nn ar W) (hb : Below W.heap.size W W') : BSt z ab nn ar W' :=
  ⟨(hb.block _ (Array.getElem?_eq_some_iff.1 h.abox).1).trans h.abox, (hb.block _ (Array.getElem?_eq_some_iff.1 h.wbox).1).trans h.wbox, h.ars.to hb⟩
theorem BSt.cells {z ab nn : Nat} {ar : ByteArray → Option Nat} {W : World} (h : BSt z ab nn ar W) : W.cell? ⟨z + 1, 0, none⟩ = some (.map (some ab)) ∧ W.cell? ⟨z + 2, 0, none⟩ = some (.func (.func 36) #[] #[ptr (z + 1), ptr (z + 2)]) := by
  refine ⟨?_, ?_⟩
  · simp [World.cell?, h.abox]
  · simp [World.cell?, h.wbox]
theorem enters_swalk : ∀ args w, (callFunc 36 args).run Tryd.prog w = .ok (.enter 36 args) w := enters_of Tryd.func36 (by kernel_rfl) rfl

/-- What is asked of the walk at a node. -/
def SWalk (z ab nn : Nat) (ar : ByteArray → Option Nat) (p : Pr) : Prop := ∀ (S : Nat → Prop) (pq aq : Option Nat) (g : Bool) (sc : List ByteArray) (n b o : Nat) (W : World) (r : Int), BSt z ab nn ar W → PrAt S W p b o → Low S W → Plc W pq aq sc n → n + 2 * p.depth ≤ 100000000 → p.scE ar sc g = r →
  Calls Tryd.prog 36 #[.pointer (some ⟨b, o, none⟩), .agg #[.map pq, .map aq, .bool g], ptr (z + 1), ptr (z + 2)] W fun e W' => e = .returned (.int .i64 r) ∧ Below W.heap.size W W'

set_option maxHeartbeats 8000000 in
set_option maxRecDepth 100000 in
theorem swalk_step (z ab nn : Nat) (ar : ByteArray → Option Nat) (p : Pr) (ih : ∀ u ∈ p.ps, SWalk z ab nn ar u) : SWalk z ab nn ar p := by
  intro S pq aq g sc n b o w r hst hp hS hpl hn hr
  have hb0 : Below w.heap.size w (w.alloc (cell3 pq aq g)) := blkBelow w _ _
  obtain ⟨hSb, _, _, _, lv, av, kv, _, _, c11, _, _, hk⟩ := PrAt.eq.1 hp
  obtain ⟨ka, kn, kc, rfl, hkl, hkm, hkg⟩ := hk.open
  have hbl := hS b hSb
  have hzs := hst.size
  have hz1 : z + 1 < w.heap.size := by omega
  have hz2 : z + 2 < w.heap.size := by omega
  obtain ⟨x1, _⟩ := hst.cells
  have HP : Hid (∀ W, Below w.heap.size w W → PrAt S W p b o ∧ Low S W ∧ Plc W pq aq sc n ∧ BSt z ab nn ar W ∧ W.cell? ⟨b, o + 11, none⟩ = some (.slice ka kn kc)) := Lib.hid (fun W hW => ⟨PrAt.keep (hW.keeps'.mono hS) _ _ _ hp, hS.le hW.size, hpl.to hW, hst.to hW, (hW.cell (p := ⟨b, _, none⟩) hbl).trans c11⟩)
  have CZ : Hid (∀ W, Below (w.heap.size + 1) (w.alloc (cell3 pq aq g)) W → W.cell? ⟨w.heap.size, 0, none⟩ = some (.map pq) ∧ W.cell? ⟨w.heap.size, 1, none⟩ = some (.map aq) ∧ W.cell? ⟨w.heap.size, 2, none⟩ = some (.bool g)) := Lib.hid (fun W hW => ⟨blk_cell hW 0 rfl, blk_cell hW 1 rfl, blk_cell hW 2 rfl⟩)
  have HKG : Hid (∀ (i : Nat) (u : Pr), p.ps[i]? = some u → ∃ gb go, ka = some ⟨gb, go, none⟩ ∧ gb < w.heap.size ∧ ∀ W, Below w.heap.size w W → PrAt S W u gb (go + i * 12)) := Lib.hid (fun i u hi => by
    obtain ⟨gb, go, e, hgb, hu⟩ := hkg i u hi
    exact ⟨gb, go, e, hS gb hgb, fun W hW => PrAt.keep (hW.keeps'.mono hS) _ _ _ hu⟩)
  obtain ⟨ne, hne⟩ : ∃ x, p.nodeE ar sc g = x := ⟨_, rfl⟩
  obtain ⟨gb, hgb⟩ : ∃ x, (g || prefixB p.k) = x := ⟨_, rfl⟩
  have HR : Hid (r = if ne = 0 then Pr.scEs ar p.ps (sc ++ p.bnd) gb else ne) := Lib.hid (by rw [← hr, Pr.scE_eq, hne, hgb])
  have HNE : Hid (∀ W, Below w.heap.size w W → Calls Tryd.prog 37 #[.pointer (some ⟨b, o, none⟩), .agg #[.map pq, .map aq, .bool g], .map (some ab)] W fun e w' => e = .returned (.int .i64 ne) ∧ Below W.heap.size W w') := Lib.hid (fun W hW => by
    obtain ⟨q1, q2, q3, q4, _⟩ := HP.out W hW
    exact snodeError_any S p b o pq aq g sc n ab nn ar W q2 q1 q3 q4.ars ne hne)
  have HBL : Hid (∀ W, Below w.heap.size w W → Calls Tryd.prog 38 #[.agg #[.map pq, .map aq, .bool g], .pointer (some ⟨b, o, none⟩)] W fun e w' => ∃ cq, e = .returned (.agg #[.map pq, .map cq, .bool gb]) ∧ Plc w' pq cq (sc ++ p.bnd) (n + 2) ∧ Below W.heap.size W w') := Lib.hid (fun W hW => by
    obtain ⟨q1, q2, q3, _, _⟩ := HP.out W hW
    rw [← hgb]
    exact below_any S p b o pq aq g sc n (by omega) W q2 q1 q3)
  have hdep := p.depth_eq
  have HN := Lib.hid (And.intro hdep hn)
  have HIH := Lib.hid ih
  have HB0 := Lib.hid hb0
  have eg2 := enters_swalk
  clear ih hst hp hS hpl hn hr hb0 hSb c11 hk hkg hne hgb hdep
  go_enter Tryd.func36, Tryd.ntmps36
  by_cases h0 : ne = 0
  · subst h0
    have HR2 : Hid (r = Pr.scEs ar p.ps (sc ++ p.bnd) gb) := Lib.hid (by rw [HR.out, if_pos rfl])
    clear HR
    go_wp2_with fail
    refine (HNE.out _ HB0.out).mono ?_
    rintro e w2 ⟨rfl, hb2⟩
    have HB2 : Hid (Below w.heap.size w w2) := Lib.hid (HB0.out.trans (hb2.mono (by simp)))
    have hb2' : Below (w.heap.size + 1) (w.alloc (cell3 pq aq g)) w2 := hb2.mono (by simp)
    obtain ⟨z0, z1, z2⟩ := CZ.out w2 hb2'
    clear hb2 hb2' x1
    go_wp2_with fail
    refine (HBL.out w2 HB2.out).mono ?_
    rintro e w3 ⟨cq, rfl, hpl3, hb3⟩
    have HB3 : Hid (Below w.heap.size w w3) := Lib.hid (HB2.out.trans (hb3.mono HB2.out.size))
    have HB4 : Hid (Below w.heap.size w (w3.alloc (cell3 pq cq gb))) := Lib.hid (HB3.out.alloc HB3.out.size _)
    have HPL : Hid (∀ W, Below w3.heap.size w3 W → Plc W pq cq (sc ++ p.bnd) (n + 2)) := Lib.hid (fun W hW => hpl3.to hW)
    have hws : w.heap.size ≤ w3.heap.size := HB3.out.size
    obtain ⟨_, _, _, _, d11⟩ := HP.out w3 HB3.out
    have hbl3 : b < w3.heap.size := by omega
    clear hb3 hpl3 z0 z1 z2
    go_wp2_with fail
    clear d11
    go_loopw [26] (fun i wr => ∃ j : Nat, i = .int .i64 (j : Int) ∧ j ≤ kn ∧ Hid (Pr.scEs ar (p.ps.take j) (sc ++ p.bnd) gb = 0) ∧ Hid (Below (w3.heap.size + 1) (w3.alloc (cell3 pq cq gb)) wr)) (fun i _ => kn - (intOf i).toNat)
    case atStart => exact ⟨0, rfl, by omega, Lib.hid rfl, Lib.hid (Below.refl _ _)⟩
    case round =>
      obtain ⟨j, rfl, hj, HT, HBj⟩ := hrel
      obtain ⟨wo, hwo⟩ : ∃ wo, wo = wr := ⟨_, rfl⟩
      subst hwo
      have HL3 : Hid (Below w3.heap.size w3 wo) := Lib.hid (blk_below HBj.out)
      have HLW : Hid (Below w.heap.size w wo) := Lib.hid (HB3.out.trans (HL3.out.mono hws))
      have hso : w3.heap.size + 1 ≤ wo.heap.size := by have := HBj.out.size; simpa using this
      obtain ⟨_, _, _, st4, d11⟩ := HP.out wo HLW.out
      by_cases hlt : j < kn
      · obtain ⟨u, huj⟩ : ∃ u, p.ps[j]? = some u := ⟨_, List.getElem?_eq_getElem (by rw [← hkl.out]; exact hlt)⟩
        obtain ⟨kb, ko, rfl, hkb, hpa⟩ := HKG.out j u huj
        have hum := List.mem_of_getElem? huj
        have hud := Pr.depth_mem hum
        obtain ⟨x, hx⟩ : ∃ x, u.scE ar (sc ++ p.bnd) gb = x := ⟨_, rfl⟩
        obtain ⟨hn1, hn2⟩ := Pr.scEs_next huj HT.out hx
        obtain ⟨_, x2⟩ := st4.cells
        obtain ⟨y0, y1, y2⟩ : wo.cell? ⟨w3.heap.size, 0, none⟩ = some (.map pq) ∧ wo.cell? ⟨w3.heap.size, 1, none⟩ = some (.map cq) ∧ wo.cell? ⟨w3.heap.size, 2, none⟩ = some (.bool gb) := ⟨blk_cell HBj.out 0 rfl, blk_cell HBj.out 1 rfl, blk_cell HBj.out 2 rfl⟩
        have hlw : Below w.heap.size w wo.drew := HLW.out.drew
        obtain ⟨_, q2, _, q4, _⟩ := HP.out wo.drew hlw
        have hnn := HN.out
        have HIU := Lib.hid (HIH.out u hum S pq cq gb (sc ++ p.bnd) (n + 2) kb (ko + j * 12) wo.drew x q4 (hpa _ hlw) q2 (HPL.out _ HL3.out.drew) (by omega) hx)
        have HN1 := Lib.hid hn1
        have HN2 := Lib.hid hn2
        have hbo : b < wo.heap.size := by omega
        have hz3 : z + 2 < wo.heap.size := by omega
        have hz4 : w3.heap.size < wo.heap.size := by omega
        have hkw : kb < wo.heap.size := by omega
        clear huj hpa hum hud hx hn1 hn2 st4 hlw q2 q4 hnn
        by_cases h0 : x = 0
        · subst h0
          go_wp2_with fail
          go_region_with (go_at_call 36; refine HIU.out.mono ?_; rintro e w9 ⟨rfl, hb9⟩; replace hb9 := Lib.hid hb9)
          all_goals
            go_wp2_with fail
            go_roundw
            case rel => exact ⟨j + 1, by go_num, by omega, HN1, Lib.hid (HBj.out.drew.trans (hb9.out.mono (by simpa using hso)))⟩
            case measure => simp [intOf]; omega
        · have h0' : (x != 0) = true := by simpa using h0
          have HF : Hid (r = x) := Lib.hid (by rw [HR2.out]; exact HN2.out h0)
          clear h0
          go_wp2_with fail
          go_region_with (go_at_call 36; refine HIU.out.mono ?_; rintro e w9 ⟨rfl, hb9⟩; replace hb9 := Lib.hid hb9)
          all_goals
            go_wp2_with fail
            go_ret
            exact ⟨by rw [HF.out]; rfl, HLW.out.drew.trans (hb9.out.mono (by have := HLW.out.size; simpa using this))⟩
      · obtain rfl : kn = j := by omega
        have HF : Hid (r = 0) := Lib.hid (by
          have h := HT.out
          rw [List.take_of_length_le (by rw [hkl.out]; exact Nat.le_refl _)] at h
          rw [HR2.out, h])
        clear st4 d11
        go_wp2_with fail
        go_ret
        exact ⟨by rw [HF.out]; rfl, HLW.out⟩
  · have h0' : (ne != 0) = true := by simpa using h0
    have HF : Hid (r = ne) := Lib.hid (by rw [HR.out, if_neg h0])
    clear h0
    go_wp2_with fail
    refine (HNE.out _ HB0.out).mono ?_
    rintro e w2 ⟨rfl, hb2⟩
    go_wp2_with fail
    go_ret
    exact ⟨by rw [HF.out]; rfl, HB0.out.trans (hb2.mono (by simp))⟩

theorem swalk_any (z ab nn : Nat) (ar : ByteArray → Option Nat) : ∀ p : Pr, SWalk z ab nn ar p := by
  refine Pr.ind ?_
  intro k c x ls vs t ps ih
  exact swalk_step z ab nn ar (.mk k c x ls vs t ps) ih

end Go.Proofs.YtmedijheidbmhaaDoor

/- Scopes: bodyError, placeOfBody. -/
namespace Go.Proofs.YtmedijheidbmhaaDoor
open Go.RowKit Go.Deep Go.Shelf

set_option maxHeartbeats 4000000 in
set_option maxRecDepth 100000 in
theorem bodyError_any (S : Nat → Prop) (p : Pr) (b o : Nat) (pq aq : Option Nat) (g : Bool) (sc : List ByteArray) (n ab nn : Nat) (ar : ByteArray → Option Nat) (w : World) (hS : Low S w) (hp : PrAt S w p b o) (hpl : Plc w pq aq sc n) (ha : ArIs w ab nn ar) (hn : n + 2 * p.depth ≤ 100000000) (r : Int) (hr : p.scE ar sc g = r) :
    Calls Tryd.prog 26 #[.pointer (some ⟨b, o, none⟩), .agg #[.map pq, .map aq, .bool g], .map (some ab)] w fun e w' => e = .returned (.int .i64 r) ∧ Below w.heap.size w w' := by
  obtain ⟨W0, hW0⟩ : ∃ W0, ((w.alloc (cell3 pq aq g)).alloc (.cells #[.map (some ab)] 63)).alloc (.cells #[.func (.func 36) #[] #[.pointer (some ⟨w.heap.size + 1, 0, none⟩), .pointer (some ⟨w.heap.size + 1 + 1, 0, none⟩)]] 80) = W0 := ⟨_, rfl⟩
  have hb0 : Below w.heap.size w W0 := by rw [← hW0]; exact (((Below.refl _ _).alloc (by simp) _).alloc (by simp) _).alloc (by simp; omega) _
  have k1 : W0.heap[w.heap.size + 1]? = some (.cells #[.map (some ab)] 63 (0, 0)) := by rw [← hW0]; simp only [World.alloc, Array.getElem?_push, Array.size_push]; simp
  have k2 : W0.heap[w.heap.size + 2]? = some (.cells #[.func (.func 36) #[] #[ptr (w.heap.size + 1), ptr (w.heap.size + 2)]] 80 (0, 0)) := by rw [← hW0]; simp only [World.alloc, Array.getElem?_push, Array.size_push]; simp
  have HSW := Lib.hid (swalk_any w.heap.size ab nn ar p S pq aq g sc n b o W0 r ⟨k1, k2, ha.to hb0⟩ (PrAt.keep (hb0.keeps'.mono hS) _ _ _ hp) (hS.le hb0.size) (hpl.to hb0) hn hr)
  have HW0 := Lib.hid hW0
  have HB0 := Lib.hid hb0
  have eg2 := enters_swalk
  have hsf : ∀ (w : World) (a : Addr) (m : Mode) (f : Fn) (t : Array Value) (b : Array Value), (store a (.func f t b) m).run Tryd.prog w = stored Tryd.prog w a (.func f t b) m := fun w a m f t b => run_store _ w a _ m rfl
  clear hS hp hpl ha hn hr hW0 hb0 k1 k2
  go_enter Tryd.func26, Tryd.ntmps26
  go_wp2_with fail
  refine scalls_at HW0.out ?_
  refine HSW.out.mono ?_
  rintro e w2 ⟨rfl, hb2⟩
  go_wp2_with fail
  go_ret
  exact ⟨rfl, HB0.out.trans (hb2.mono HB0.out.size)⟩

theorem run_makeMap_bS (w : World) : (Instr.makeMap 67 none).run Tryd.prog w = .ok (.map (some w.heap.size)) (w.alloc (.map #[] 0)) := by simp [Instr.makeMap]

set_option maxHeartbeats 2000000 in
theorem placeOfBody_any (q : Option Nat) (ps : List ByteArray) (g : Bool) (w : World) (h : NSet w q ps) :
    Calls Tryd.prog 27 #[.map q, .bool g] w fun e w' => ∃ aq, e = .returned (.agg #[.map q, .map aq, .bool g]) ∧ Plc w' q aq ps 0 ∧ Below w.heap.size w w' := by
  have t0 := three_new w (.map none) (.map none) (.bool false)
  have hmk := run_makeMap_bS
  have HQ := Lib.hid h
  have HT := Lib.hid t0
  clear h t0
  go_enter Tryd.func27, Tryd.ntmps27
  go_wp2_with fail
  obtain ⟨W9, h9⟩ : ∃ W9, (w.alloc (.cells #[.map q, .map (some (w.heap.size + 1)), .bool g] 69)).alloc (.map #[] 0) = W9 := ⟨_, rfl⟩
  have b9 : Below w.heap.size w W9 := by rw [← h9]; exact (blkBelow w _ _).alloc (by simp) _
  have t9 : Three W9 w.heap.size (.map q) (.map (some (w.heap.size + 1))) (.bool g) := by rw [← h9]; exact (three_new w _ _ _).to ((Below.refl _ _).alloc (Nat.le_refl _) _)
  have s9 : SetIs W9 (w.heap.size + 1) 0 [] := by rw [← h9]; have h := SetIs.made (w.alloc (.cells #[.map q, .map (some (w.heap.size + 1)), .bool g] 69)); rwa [World.size_alloc] at h
  rw [h9]
  obtain ⟨⟨q0, q1, q2⟩, _⟩ := t9.cells
  refine bodyPost_ret (v := .agg #[.map q, .map (some (w.heap.size + 1)), .bool g]) (by simp [results, Tryd.results27, go_sem, q0, q1, q2]) rfl ⟨some (w.heap.size + 1), rfl, ⟨⟨ps, [], HQ.out.to b9, .inr ⟨_, rfl, s9⟩, rfl, Nat.le_refl _, fun s => by rw [memB_nil, Bool.or_false]⟩⟩, b9⟩

end Go.Proofs.YtmedijheidbmhaaDoor

/- Scopes: paramNames, firstTwice, aritiesOf. -/
namespace Go.Proofs.YtmedijheidbmhaaDoor
open Go.RowKit Go.Deep Go.Shelf

theorem run_makeMap_hintI (n : Int) (w : World) : (Instr.makeMap 63 (some (.int .i64 n))).run Tryd.prog w = .ok (.map (some w.heap.size)) (w.alloc (.map #[] 0)) := by
  have ht := Tryd.underlying63
  simp [Instr.makeMap, run_underlying ht, asInt, asIntOf]
theorem SetIs.len' {w : World} {b n : Nat} {l : List ByteArray} (h : SetIs w b n l) :
    ∃ q : Nat, (∀ ty, (Builtin.len_ #[67] ty #[.map (some b)]).run Tryd.prog w = .ok (.int .i64 q) w) ∧ q ≤ l.length ∧ (q < l.length ↔ dups l = true) := by
  obtain ⟨D, ho, hf, h1, h2⟩ := h
  exact ⟨_, fun ty => ho.len Tryd.underlying67 ty, h1, h2⟩
theorem names_take {ms : List Pm} {j : Nat} {a : Pm} (h : ms[j]? = some a) : (ms.take (j + 1)).map Pm.n = (ms.take j).map Pm.n ++ [a.n] := by rw [take_snoc_get h, List.map_append]; rfl
theorem dnames_take {ds : List Df} {j : Nat} {d : Df} (h : ds[j]? = some d) : (ds.take (j + 1)).map Df.n = (ds.take j).map Df.n ++ [d.n] := by rw [take_snoc_get h, List.map_append]; rfl

set_option maxHeartbeats 2000000 in
theorem paramNames_any (S : Nat → Prop) (d : Df) (b o : Nat) (w : World) (hS : Low S w) (hSb : S b) (hd : DfAt S w d b o) :
    Calls Tryd.prog 28 #[.pointer (some ⟨b, o, none⟩)] w fun e w' => ∃ mb, e = .returned (.map (some mb)) ∧ w.heap.size ≤ mb ∧ SetIs w' mb d.ms.length (d.ms.map Pm.n) ∧ Below w.heap.size w w' := by
  obtain ⟨_, _, ⟨mv, c1, hm⟩, _⟩ := hd
  have hbl := hS b hSb
  obtain ⟨pa, len, c, rfl, hlen, hmx, hget⟩ := hm.open
  have HC1 : Hid (∀ W, Below w.heap.size w W → W.cell? ⟨b, o + 1, none⟩ = some (.slice pa len c)) := Lib.hid (fun W hW => (hW.cell (p := ⟨b, _, none⟩) hbl).trans c1)
  have HG : Hid (∀ (j : Nat) (a : Pm), d.ms[j]? = some a → a.n.size ≤ maxLen ∧ ∃ kb ko, pa = some ⟨kb, ko, none⟩ ∧ ∀ W, Below w.heap.size w W → W.cell? ⟨kb, ko + j * 7, none⟩ = some (.string a.n)) := Lib.hid (fun j a hj => by
    obtain ⟨kb, ko, e, hkb, ha⟩ := hget j a hj
    exact ⟨ha.1, kb, ko, e, fun W hW => (hW.cell (p := ⟨kb, _, none⟩) (hS kb hkb)).trans ha.2.1⟩)
  have hmk := run_makeMap_hint
  clear hm hget hSb
  go_enter Tryd.func28, Tryd.ntmps28
  go_wp2_with fail
  clear c1
  go_loopw [16] (fun i wr => ∃ (j : Nat), i = .int .i64 (j : Int) ∧ j ≤ len ∧ Hid (SetIs wr w.heap.size j ((d.ms.take j).map Pm.n)) ∧ Below w.heap.size w wr) (fun i _ => len - (intOf i).toNat)
  case atStart => exact ⟨0, rfl, by omega, Lib.hid (SetIs.made w), (Below.refl _ _).alloc (Nat.le_refl _) _⟩
  case round =>
    obtain ⟨j, rfl, hj, HSE, hw⟩ := hrel
    have c1 := HC1.out wr hw
    by_cases hlt : j < len
    · obtain ⟨a, ha⟩ : ∃ a, d.ms[j]? = some a := ⟨_, List.getElem?_eq_getElem (by rw [← hlen.out]; exact hlt)⟩
      obtain ⟨has, kb, ko, rfl, hc⟩ := HG.out j a ha
      replace hc := hc wr hw
      obtain ⟨w1, hup, hse1, hgr⟩ := HSE.out.put (by unfold maxLen; omega) has
      have HS2 : Hid (SetIs w1 w.heap.size (j + 1) ((d.ms.take (j + 1)).map Pm.n)) := Lib.hid (by rw [names_take ha]; exact hse1)
      have HW1 : Hid (Below w.heap.size w w1) := Lib.hid (hw.grown hgr hw.size (fun k e => by cases e; exact Nat.le_refl _))
      clear ha has hse1 hgr
      go_wp2_with fail
      go_roundw
      case rel => exact ⟨j + 1, by go_num, by omega, HS2, HW1.out⟩
      case measure => simp [intOf]; omega
    · obtain rfl : j = len := by omega
      have HF : Hid (SetIs wr w.heap.size d.ms.length (d.ms.map Pm.n)) := Lib.hid (by
        have h := HSE.out
        rw [List.take_of_length_le (by rw [hlen.out]; exact Nat.le_refl _)] at h
        rw [← hlen.out]; exact h)
      go_wp2_with fail
      go_ret
      exact ⟨_, rfl, Nat.le_refl _, HF.out, hw⟩

set_option maxHeartbeats 4000000 in
set_option maxRecDepth 100000 in
theorem firstTwice_any (S : Nat → Prop) (v : Value) (ds : List Df) (w : World) (hS : Low S w) (hv : DfSl S w v ds) (r : Option Nat) (hr : twF ds = r) :
    Calls Tryd.prog 24 #[v] w fun e w' => e = .returned (.tuple #[.int .i64 ((r.getD 0 : Nat) : Int), .bool r.isSome]) ∧ Below w.heap.size w w' := by
  obtain ⟨pa, len, c, rfl, hlen, hmx, hget⟩ := hv.open
  have HS := Lib.hid hS
  have HG : Hid (∀ (j : Nat) (d : Df), ds[j]? = some d → d.n.size ≤ maxLen ∧ ∃ kb ko, pa = some ⟨kb, ko, none⟩ ∧ S kb ∧ kb < w.heap.size ∧ ∀ W, Below w.heap.size w W → DfAt S W d kb (ko + j * 14)) := Lib.hid (fun j d hj => by
    obtain ⟨kb, ko, e, hkb, ha⟩ := hget j d hj
    exact ⟨ha.1, kb, ko, e, hkb, hS kb hkb, fun W hW => DfAt.keep (hW.keeps'.mono hS) hkb ha⟩)
  have hmk := run_makeMap_hint
  have HR := Lib.hid hr
  clear hv hget hr hS
  go_enter Tryd.func24, Tryd.ntmps24
  go_wp2_with fail
  go_loopw [12] (fun i wr => ∃ (j : Nat), i = .int .i64 (j : Int) ∧ j ≤ len ∧ Hid (∀ i, i < j → twiceAt ds i = false) ∧ Hid (SetIs wr w.heap.size j ((ds.take j).map Df.n)) ∧ Below w.heap.size w wr) (fun i _ => len - (intOf i).toNat)
  case atStart => exact ⟨0, rfl, by omega, Lib.hid (fun i hi => by omega), Lib.hid (SetIs.made w), (Below.refl _ _).alloc (Nat.le_refl _) _⟩
  case round =>
    obtain ⟨j, rfl, hj, HT, HSE, hw⟩ := hrel
    by_cases hlt : j < len
    · obtain ⟨d, hd⟩ : ∃ d, ds[j]? = some d := ⟨_, List.getElem?_eq_getElem (by rw [← hlen.out]; exact hlt)⟩
      obtain ⟨hdn, kb, ko, rfl, hkS, hkl, hda⟩ := HG.out j d hd
      have c0 := (hda wr hw).2.1
      obtain ⟨mv, c1, hmv⟩ := (hda wr hw).2.2.1
      obtain ⟨ma, ml, mc, rfl, hml, _⟩ := hmv.open
      have hkw : kb < wr.heap.size := Nat.lt_of_lt_of_le hkl hw.size
      have hwd : Below w.heap.size w wr.drew := hw.drew
      obtain ⟨m, hm⟩ : ∃ m, memB d.n ((ds.take j).map Df.n) = m := ⟨_, rfl⟩
      have hsd : SetIs wr.drew w.heap.size j ((ds.take j).map Df.n) := HSE.out.below (Below.refl (w.heap.size + 1) wr).drew (Nat.lt_succ_self _)
      have hlk := hsd.look hdn
      rw [hm] at hlk
      have HTA : Hid (twiceAt ds j = (m || dups (d.ms.map Pm.n))) := Lib.hid (by unfold twiceAt; rw [hd]; simp only; rw [hm])
      have HJL : Hid (j < ds.length) := Lib.hid (List.getElem?_eq_some_iff.1 hd).1
      cases m
      · have HML := Lib.hid hml.out
        have HD : Hid (ds[j]? = some d) := Lib.hid hd
        have HDN := Lib.hid hdn
        have HKS := Lib.hid hkS
        have HSL : Hid (∀ W, Below wr.heap.size wr W → Low S W) := Lib.hid (fun W hW k hk => Nat.lt_of_lt_of_le (HS.out k hk) (Nat.le_trans hw.size hW.size))
        have HDA : Hid (∀ W, Below wr.heap.size wr W → DfAt S W d kb (ko + j * 14)) := Lib.hid (fun W hW => hda W (hw.trans (hW.mono hw.size)))
        have HSF : Hid (∀ W, Below wr.heap.size wr W → W.cell? ⟨kb, ko + j * 14, none⟩ = some (.string d.n) ∧ W.cell? ⟨kb, ko + j * 14 + 1, none⟩ = some (.slice ma ml mc) ∧ (Instr.lookup 67 (.map (some w.heap.size)) (.string d.n) false).run Tryd.prog W = .ok (.bool false) W) := Lib.hid (fun W hW => ⟨(hW.cell (p := ⟨kb, _, none⟩) hkw).trans c0, (hW.cell (p := ⟨kb, _, none⟩) hkw).trans c1, by have h := (HSE.out.below hW HSE.out.lt).look HDN.out; rwa [hm] at h⟩)
        have HB := Lib.hid (Below.refl wr.heap.size wr).drew
        clear hd hda hmv hml hm hsd hdn hkS hlk
        go_wp2_with fail
        have hlk := (HSF.out _ HB.out).2.2
        have hkw' := hkw
        go_region_with (go_at_call 28; with_reducible refine (paramNames_any S d kb (ko + j * 14) _ (HSL.out _ HB.out) HKS.out (HDA.out _ HB.out)).mono ?_; rintro e y ⟨mb, rfl, hmb, hset, hh⟩; obtain ⟨q, hq, hq1, hq2⟩ := hset.len'; rw [List.length_map, ← HML.out] at hq1 hq2; have HQ := Lib.hid (And.intro hq1 hq2); replace HB := Lib.hid (below_seq HB.out hh); obtain ⟨x0, x1, _⟩ := HSF.out _ HB.out; clear hset hh hq1 hq2 hmb)
        all_goals
          by_cases hql : q < ml
          · have hqd : decide ((q : Int) < (ml : Int)) = true := by simp; omega
            have HDU : Hid (dups (d.ms.map Pm.n) = true) := Lib.hid (HQ.out.2.1 hql)
            have HRR : Hid (r = some j) := Lib.hid (by rw [← HR.out]; exact range_find HJL.out HT.out (by rw [HTA.out, HDU.out]; rfl))
            have hqn : decide (q < ml) = true := by simpa using hql
            go_wp2_with fail
            go_ret2
            exact ⟨by rw [HRR.out]; rfl, hw.trans (HB.out.mono hw.size)⟩
          · have hqd : decide ((q : Int) < (ml : Int)) = false := by simp; omega
            have HDU : Hid (dups (d.ms.map Pm.n) = false) := Lib.hid (by
              cases h : dups (d.ms.map Pm.n) with
              | false => rfl
              | true => exact absurd (HQ.out.2.2 h) hql)
            have hst := HSE.out.below HB.out HSE.out.lt
            obtain ⟨x0, x1, _⟩ := HSF.out _ HB.out
            obtain ⟨w3, hup, hse3, hgr3⟩ := hst.put (by unfold maxLen; omega) HDN.out
            have HS3 : Hid (SetIs w3 w.heap.size (j + 1) ((ds.take (j + 1)).map Df.n)) := Lib.hid (by rw [dnames_take HD.out]; exact hse3)
            have HW3 : Hid (Below w.heap.size w w3) := Lib.hid ((hw.trans (HB.out.mono hw.size)).grown hgr3 (Nat.le_trans hw.size HB.out.size) (fun k e => by cases e; exact Nat.le_refl _))
            have HT' : Hid (∀ i, i < j + 1 → twiceAt ds i = false) := Lib.hid (fun i hi => by
              rcases Nat.lt_succ_iff_lt_or_eq.1 hi with h | rfl
              · exact HT.out i h
              · rw [HTA.out, HDU.out]; rfl)
            have hqn : decide (q < ml) = false := by simpa using hql
            clear hst hse3 hgr3
            go_wp2_with fail
            exact ⟨⟨j + 1, by go_num, by omega, HT', HS3, HW3.out⟩, by simp [intOf]; omega⟩
      · have HRR : Hid (r = some j) := Lib.hid (by rw [← HR.out]; exact range_find HJL.out HT.out (by rw [HTA.out]; rfl))
        have p0 : ∀ q : Later wr.heap.size wr, q.1.cell? ⟨kb, ko + j * 14, none⟩ = some (.string d.n) := fun q => (q.2.cell (p := ⟨kb, _, none⟩) hkw).trans c0
        have p1 : ∀ q : Later wr.heap.size wr, (Instr.lookup 67 (.map (some w.heap.size)) (.string d.n) false).run Tryd.prog q.1 = .ok (.bool true) q.1 := fun q => by have h := (HSE.out.below q.2 HSE.out.lt).look hdn; rwa [hm] at h
        clear hd hda hmv hml hm hsd hdn hlk c0 c1
        go_wp2_with fail
        refine wp_region_later wr.heap.size wr (by kernel_rfl) (by kernel_rfl) (Below.refl _ _) ?_
        repeat (go_big_quiet_step (fail))
        refine wpQuiet_nil ?_
        rintro _ ⟨⟨w5, hb5⟩, rfl⟩
        go_wp2_with fail
        go_ret2
        exact ⟨by rw [HRR.out]; rfl, hw.trans (hb5.mono hw.size)⟩
    · obtain rfl : j = len := by omega
      have HRR : Hid (r = none) := Lib.hid (by rw [← HR.out]; exact range_find_none (fun i hi => HT.out i (by rw [hlen.out]; exact hi)))
      go_wp2_with fail
      go_ret2
      exact ⟨by rw [HRR.out]; rfl, hw⟩

set_option maxHeartbeats 4000000 in
set_option maxRecDepth 100000 in
theorem aritiesOf_any (S : Nat → Prop) (v : Value) (ds : List Df) (w : World) (hS : Low S w) (hv : DfSl S w v ds) :
    Calls Tryd.prog 25 #[v] w fun e w' => ∃ mb, e = .returned (.map (some mb)) ∧ w.heap.size ≤ mb ∧ ArIs w' mb ds.length (arOf ds) ∧ Below w.heap.size w w' := by
  obtain ⟨pa, len, c, rfl, hlen, hmx, hget⟩ := hv.open
  have HG : Hid (∀ (j : Nat) (d : Df), ds[j]? = some d → d.n.size ≤ maxLen ∧ ∃ kb ko, pa = some ⟨kb, ko, none⟩ ∧ kb < w.heap.size ∧ ∀ W, Below w.heap.size w W → DfAt S W d kb (ko + j * 14)) := Lib.hid (fun j d hj => by
    obtain ⟨kb, ko, e, hkb, ha⟩ := hget j d hj
    exact ⟨ha.1, kb, ko, e, hS kb hkb, fun W hW => DfAt.keep (hW.keeps'.mono hS) hkb ha⟩)
  have hmk := run_makeMap_hintI
  clear hv hget hS
  go_enter Tryd.func25, Tryd.ntmps25
  go_wp2_with fail
  go_loopw [10] (fun i wr => ∃ (j : Nat), i = .int .i64 (j : Int) ∧ j ≤ len ∧ Hid (ArIs wr w.heap.size j (arOf (ds.take j))) ∧ Below w.heap.size w wr) (fun i _ => len - (intOf i).toNat)
  case atStart => exact ⟨0, rfl, by omega, Lib.hid (ArIs.made w), (Below.refl _ _).alloc (Nat.le_refl _) _⟩
  case round =>
    obtain ⟨j, rfl, hj, HSE, hw⟩ := hrel
    by_cases hlt : j < len
    · obtain ⟨d, hd⟩ : ∃ d, ds[j]? = some d := ⟨_, List.getElem?_eq_getElem (by rw [← hlen.out]; exact hlt)⟩
      obtain ⟨hdn, kb, ko, rfl, hkl, hda⟩ := HG.out j d hd
      have c0 := (hda wr hw).2.1
      obtain ⟨mv, c1, hmv⟩ := (hda wr hw).2.2.1
      obtain ⟨ma, ml, mc, rfl, hml, _⟩ := hmv.open
      have hkw : kb < wr.heap.size := Nat.lt_of_lt_of_le hkl hw.size
      have hsd : ArIs wr.drew w.heap.size j (arOf (ds.take j)) := HSE.out.below (Below.refl (w.heap.size + 1) wr).drew (Nat.lt_succ_self _)
      obtain ⟨w1, hup, hse1, hgr⟩ := hsd.put (by unfold maxLen; omega) hdn ml
      have HS2 : Hid (ArIs w1 w.heap.size (j + 1) (arOf (ds.take (j + 1)))) := Lib.hid (by
        obtain ⟨f, h1, h2⟩ := hse1
        exact ⟨f, h1, fun s => by rw [h2, take_snoc_get hd, arOf_snoc, hml.out]⟩)
      have HW1 : Hid (Below w.heap.size w w1) := Lib.hid (hw.drew.grown hgr (by simpa using hw.size) (fun k e => by cases e; exact Nat.le_refl _))
      clear hd hda hmv hml hsd hdn hse1 hgr
      go_wp2_with fail
      go_region_with fail
      all_goals
        go_wp2_with fail
        go_roundw
        case rel => exact ⟨j + 1, by go_num, by omega, HS2, HW1.out⟩
        case measure => simp [intOf]; omega
    · obtain rfl : j = len := by omega
      have HF : Hid (ArIs wr w.heap.size ds.length (arOf ds)) := Lib.hid (by
        have h := HSE.out
        rw [List.take_of_length_le (by rw [hlen.out]; exact Nat.le_refl _)] at h
        rw [← hlen.out]; exact h)
      go_wp2_with fail
      go_ret
      exact ⟨_, rfl, Nat.le_refl _, HF.out, hw⟩

end Go.Proofs.YtmedijheidbmhaaDoor

/- Scopes: the fault of a program. -/
namespace Go.Proofs.YtmedijheidbmhaaDoor
open Go.RowKit Go.Deep Go.Shelf

/-- The fault of a program: its error and its place. -/
noncomputable def Pg.chk (g : Pg) : Int × Nat :=
  if pprogE g ≠ 0 then (pprogE g, 0) else match twF g.ds with
    | some i => (5, i)
    | none => match g.bF with
      | some i => (g.bE (arOf g.ds) i, i)
      | none => (0, 0)
theorem Pg.chk_1 {g : Pg} (h : pprogE g ≠ 0) : g.chk = (pprogE g, 0) := by unfold Pg.chk; rw [if_pos h]
theorem Pg.chk_2 {g : Pg} {i : Nat} (h : pprogE g = 0) (h2 : twF g.ds = some i) : g.chk = (5, i) := by unfold Pg.chk; rw [if_neg (by simpa using h), h2]
theorem Pg.chk_3 {g : Pg} {i : Nat} (h : pprogE g = 0) (h2 : twF g.ds = none) (hi : i ≤ g.ds.length) (hl : ∀ j, j < i → g.bE (arOf g.ds) j = 0) {x : Int} (hx : g.bE (arOf g.ds) i = x) (h0 : x ≠ 0) : g.chk = (x, i) := by
  have hf : g.bF = some i := range_find (by omega) (fun j hj => by simp [hl j hj]) (by rw [hx]; simpa using h0)
  unfold Pg.chk; rw [if_neg (by simpa using h), h2]; simp only; rw [hf]; simp only; rw [hx]
theorem Pg.chk_4 {g : Pg} (h : pprogE g = 0) (h2 : twF g.ds = none) (hl : ∀ j, j ≤ g.ds.length → g.bE (arOf g.ds) j = 0) : g.chk = (0, 0) := by
  have hf : g.bF = none := range_find_none (fun j hj => by simp [hl j (by omega)])
  unfold Pg.chk; rw [if_neg (by simpa using h), h2]; simp only; rw [hf]
theorem Pg.bE_def {g : Pg} {ar : ByteArray → Option Nat} {i : Nat} {d : Df} (h : g.ds[i]? = some d) : g.bE ar i = d.b.scE ar (d.ms.map Pm.n) false := by unfold Pg.bE; rw [h]
theorem Pg.bE_main {g : Pg} {ar : ByteArray → Option Nat} : g.bE ar g.ds.length = g.m.scE ar [] true := by unfold Pg.bE; rw [List.getElem?_eq_none (Nat.le_refl _)]

end Go.Proofs.YtmedijheidbmhaaDoor
