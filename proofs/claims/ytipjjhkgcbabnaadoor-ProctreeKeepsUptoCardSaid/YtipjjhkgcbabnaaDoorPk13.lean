/- Processes: the reference's uses. (and what follows from it) -/
import Derived.Test.YtipjjhkgcbabnaaDoorPk11
import Derived.Test.YtipjjhkgcbabnaaDoorPk8
import Derived.Test.YtipjjhkgcbabnaaDoorPk3
import Derived.Test.YtipjjhkgcbabnaaDoorRows
import Derived.Test.YtipjjhkgcbabnaaDoorPk12
import Derived.Deep.Cut
import Derived.Deep.RegionHeld3

/- Processes: the reference's uses. -/
namespace Go.Proofs.YtipjjhkgcbabnaaDoor
open Go.RowKit Go.Deep Go.Shelf

abbrev box12 (w : World) (p : Pr) (lv av tl tk kv : Value) : World := w.alloc (cell12 p lv av tl tk kv)
/-- What is asked of the reference's walk at a node. -/
def UsesP (p : Pr) : Prop := ∀ (v bv : Value) (bd : List ByteArray) (w : World), PLies w v p → SLies w bv bd → p.nms ≤ 900000000 → bd.length + 2 * p.depth ≤ 1000000 →
  Calls Tryd.prog 70 #[v, bv] w (StrRet w (p.uses bd))
def bnd3 (p : Pr) (bd : List ByteArray) : List ByteArray := if p.k = 3 then bd ++ [p.x] else bd
theorem bnd3_yes {p : Pr} {bd : List ByteArray} (h : p.k = 3) : bnd3 p bd = bd ++ [p.x] := if_pos h
theorem bnd3_no {p : Pr} {bd : List ByteArray} (h : p.k ≠ 3) : bnd3 p bd = bd := if_neg h
theorem bnd_6 {p : Pr} {bd : List ByteArray} (h : p.k = 6) : bd ++ p.bnd = bnd3 p bd ++ [p.c, p.x] := by unfold Pr.bnd bnd3; rw [h]; simp
theorem bnd_not6 {p : Pr} {bd : List ByteArray} (h : p.k ≠ 6) : bd ++ p.bnd = bnd3 p bd := by
  unfold Pr.bnd bnd3
  by_cases h3 : p.k = 3
  · rw [if_pos h3, if_pos h3]
  · rw [if_neg h3, if_neg h, if_neg h3, List.append_nil]
theorem StrSl.low {B : Nat → Prop} {w : World} {v : Value} {ls : List ByteArray} (h : StrSl B w v ls) : StrSl (fun k => B k ∧ k < w.heap.size) w v ls := by
  refine ⟨?_, h.2⟩
  rcases h.1 with h1 | ⟨b, o, c, rfl, hb, hc, hrow⟩
  · exact .inl h1
  · cases ls with
    | nil => exact .inl ⟨⟨_, _, rfl⟩, rfl⟩
    | cons s r => exact .inr ⟨b, o, c, rfl, ⟨hb, World.block_lt_of_cell? w _ (hrow 0 s rfl)⟩, hc, hrow⟩
theorem keeps_grown {B : Nat → Prop} {w w' : World} {row : Option Nat} (hg : w.grownBy w' row) (h : ∀ k, B k → k < w.heap.size ∧ some k ≠ row) : Keeps B w w' := fun k _ hk ho _ => (hg.block k (h k hk).1 (h k hk).2).trans ho
theorem strSl_two {W : World} {b : Nat} {n m : ByteArray} (h : W.cell? ⟨b, 0, none⟩ = some (.string n)) (h' : W.cell? ⟨b, 1, none⟩ = some (.string m)) (hn : n.size ≤ maxLen) (hm : m.size ≤ maxLen) : StrSl (fun _ => True) W (.slice (some ⟨b, 0, none⟩) 2 2) [n, m] :=
  ⟨.inr ⟨b, 0, 2, rfl, trivial, Nat.le_refl _, fun j s hj => by
    match j, hj with
    | 0, hj => simp at hj; subst hj; exact h
    | 1, hj => simp at hj; subst hj; exact h'
    | j + 2, hj => simp at hj⟩, by simp [maxLen], fun s hs => by simp at hs; rcases hs with rfl | rfl <;> assumption⟩
theorem bnd3_len (p : Pr) (bd : List ByteArray) : (bnd3 p bd).length ≤ bd.length + 1 := by unfold bnd3; split <;> simp

set_option maxHeartbeats 8000000 in
set_option maxRecDepth 100000 in
theorem uses_step (p : Pr) (ih : ∀ u ∈ p.ps, UsesP u) : UsesP p := by
  intro v bv bd w hv hb hn hd
  obtain ⟨lv, av, tl, tk, kv, rfl, ⟨hcz, hxz⟩, hl, ha, hty, hk⟩ := hv
  obtain ⟨ka, kn, kc, rfl, hkl, hkm, hkg⟩ := hk.open
  obtain ⟨aa, an, ac, rfl, hal, ham, hag⟩ := ha.open
  have hb' := hb
  obtain ⟨ba, bn, bc, rfl, hbl, hbm, hbg⟩ := StrSl.open hb'
  have hbx : Below w.heap.size w (box12 w p lv (.slice aa an ac) tl tk (.slice ka kn kc)) := blkBelow w _ _
  have CE : Hid (∀ W, Below (w.heap.size + 1) (box12 w p lv (.slice aa an ac) tl tk (.slice ka kn kc)) W → W.cell? ⟨w.heap.size, 0, none⟩ = some (.int .i64 p.k) ∧ W.cell? ⟨w.heap.size, 1, none⟩ = some (.string p.c) ∧ W.cell? ⟨w.heap.size, 2, none⟩ = some (.string p.x) ∧ W.cell? ⟨w.heap.size, 4, none⟩ = some (.slice aa an ac) ∧ W.cell? ⟨w.heap.size, 11, none⟩ = some (.slice ka kn kc)) :=
    Lib.hid (fun W hW => ⟨blk_cell hW 0 rfl, blk_cell hW 1 rfl, blk_cell hW 2 rfl, blk_cell hW 4 rfl, blk_cell hW 11 rfl⟩)
  have HLow : Hid (∀ W, Below (w.heap.size + 1) (box12 w p lv (.slice aa an ac) tl tk (.slice ka kn kc)) W → Below w.heap.size w W) := Lib.hid (fun W hW => blk_below hW)
  have HAG : Hid (∀ (i : Nat) (a : Vl), p.vs[i]? = some a → a.n.size ≤ maxLen ∧ ∃ gb go, aa = some ⟨gb, go, none⟩ ∧ gb < w.heap.size ∧ ∀ W, Below w.heap.size w W → W.cell? ⟨gb, go + i * 3, none⟩ = some (.int .i64 a.k) ∧ W.cell? ⟨gb, go + i * 3 + 1, none⟩ = some (.string a.n)) := Lib.hid (fun i a hi => by
    obtain ⟨h1, gb, go, e, hgb, q0, q1, q2⟩ := hag i a hi
    exact ⟨h1, gb, go, e, hgb, fun W hW => ⟨(hW.cell (p := ⟨gb, _, none⟩) hgb).trans q0, (hW.cell (p := ⟨gb, _, none⟩) hgb).trans q1⟩⟩)
  have HKG : Hid (∀ (i : Nat) (u : Pr), p.ps[i]? = some u → ∃ gb go, ka = some ⟨gb, go, none⟩ ∧ gb < w.heap.size ∧ ∀ W, Below w.heap.size w W → PrAt (fun k => k < w.heap.size) W u gb (go + i * 12)) := Lib.hid (fun i u hi => by
    obtain ⟨gb, go, e, hgb, hu⟩ := hkg i u hi
    exact ⟨gb, go, e, hgb, fun W hW => PrAt.keep (hW.keeps'.mono (fun _ h => h)) _ _ _ hu⟩)
  have HBD : Hid (∀ W, Below w.heap.size w W → StrSl (fun k => k < w.heap.size) W (.slice ba bn bc) bd) := Lib.hid (fun W hW => StrSl.keep (hW.keeps'.mono (fun _ h => h)) hb)
  have HIH := Lib.hid ih
  have hnms := p.nms_eq
  have hdep := p.depth_eq
  have hown := p.ownT_len
  have hownl := p.own_len
  have HU : Hid (p.uses bd = keepF bd p.own ++ Pr.usess p.ps (bd ++ p.bnd)) := Lib.hid (p.uses_eq bd)
  have HN := Lib.hid (And.intro hnms (And.intro hdep (And.intro hn hd)))
  have HCX := Lib.hid (And.intro hcz hxz)
  have HAL := Lib.hid hal.out
  have HKL := Lib.hid hkl.out
  have HO := Lib.hid (And.intro hown hownl)
  have HBX := Lib.hid hbx
  have HB0 : Hid (Below (w.heap.size + 1) (box12 w p lv (.slice aa an ac) tl tk (.slice ka kn kc)) (box12 w p lv (.slice aa an ac) tl tk (.slice ka kn kc))) := Lib.hid (Below.refl _ _)
  obtain ⟨pb, hpb⟩ : ∃ b, prefixB p.k = b := ⟨_, rfl⟩
  have HPB := Lib.hid hpb
  have hpe := prefixB_eq p.k
  rw [hpb] at hpe
  have HPE := Lib.hid hpe
  have hO0 : Hid (p.ownT 0 = if pb then [p.c] else []) := Lib.hid (by unfold Pr.ownT; rw [hpb]; simp)
  clear hbx hb hb' hbg hbl hk hkg hkl ha hag hal hty hl ih hnms hdep hn hd hown hownl hcz hxz hpb hpe
  go_enter Tryd.func70, Tryd.ntmps70
  go_upto_region 2 with fail
  go_cut [17] from 10 (fun t wc => t = .bool pb ∧ wc = box12 w p lv (.slice aa an ac) tl tk (.slice ka kn kc))
  case first =>
    obtain ⟨c0, _, _, _, _⟩ := CE.out _ HB0.out
    by_cases k2 : 2 ≤ p.k
    · have k2' : decide (2 ≤ p.k) = true := by simpa using k2
      by_cases k5 : p.k ≤ 5
      · have k5' : decide (p.k ≤ 5) = true := by simpa using k5
        have hq : pb = true := by rw [HPE.out, k2', k5']; rfl
        subst hq
        go_wp2_with fail
        go_meet
        case rel => exact ⟨rfl, rfl⟩
      · have k5' : decide (p.k ≤ 5) = false := by simpa using k5
        have hq : pb = false := by rw [HPE.out, k2', k5']; rfl
        subst hq
        go_wp2_with fail
        go_meet
        case rel => exact ⟨rfl, rfl⟩
    · have k2' : decide (2 ≤ p.k) = false := by simpa using k2
      have hq : pb = false := by rw [HPE.out, k2']; rfl
      subst hq
      go_wp2_with fail
      go_meet
      case rel => exact ⟨rfl, rfl⟩
  case rest =>
    obtain ⟨rfl, rfl⟩ := hcut
    go_upto_if 17 with fail
    go_cut [5] from 10 (fun v wc => ∃ sa sn sc, v = .slice sa sn sc ∧ Hid (Row (w.heap.size + 1) wc (.slice sa sn sc) (p.ownT 0)) ∧ Hid (Below (w.heap.size + 1) (box12 w p lv (.slice aa an ac) tl tk (.slice ka kn kc)) wc))
    case first =>
      obtain ⟨_, c1, _, _, _⟩ := CE.out _ HB0.out
      cases pb
      · go_wp2_with fail
        go_meet
        case rel => exact ⟨_, _, _, rfl, Lib.hid (by rw [hO0.out]; exact Row.nil _ _), HB0⟩
      · have HSO : Hid (StrSl (Fresh (box12 w p lv (.slice aa an ac) tl tk (.slice ka kn kc)).heap.size ((box12 w p lv (.slice aa an ac) tl tk (.slice ka kn kc)).alloc (.cells #[.string p.c] 9)).heap.size) ((box12 w p lv (.slice aa an ac) tl tk (.slice ka kn kc)).alloc (.cells #[.string p.c] 9)) (.slice (some ⟨(box12 w p lv (.slice aa an ac) tl tk (.slice ka kn kc)).heap.size, 0, none⟩) 1 1) [p.c]) := Lib.hid (strSl_made [p.c] (Below.refl _ _) (fun s hs => by rw [List.mem_singleton.1 hs]; exact HCX.out.1) (by simp [maxLen]))
        rw [World.size_alloc] at HSO
        go_wp2_with (at_builtin; refine wpList_app rfl _ _ rfl (w.heap.size + 1) [] (.slice none 0 0) rfl (Row.nil _ _) _ _ _ _ [p.c] rfl HSO.out (by simp) (by simp) ?_; intro ga gn gc w2 hrow hgrow _)
        go_meet
        case rel => exact ⟨_, _, _, rfl, Lib.hid (by rw [hO0.out]; exact hrow), Lib.hid ((HB0.out.alloc (by simp) _).grown hgrow (by simp) (fun k e => by cases e))⟩
    case rest =>
      obtain ⟨sa, sn, sc, rfl, HR0, HB1⟩ := hcut
      go_wp2_with fail
      go_loopw [5, 6] (fun v i wr => ∃ (j : Nat) (a : Option Addr) (n c : Nat), i = .int .i64 j ∧ j ≤ an ∧ v = .slice a n c ∧ Hid (Row (w.heap.size + 1) wr (.slice a n c) (p.ownT j)) ∧ Hid (Below (w.heap.size + 1) (box12 w p lv (.slice aa an ac) tl tk (.slice ka kn kc)) wr)) (fun _ i _ => an - (intOf i).toNat)
      case atStart => exact ⟨0, _, _, _, rfl, by omega, rfl, HR0, HB1⟩
      case round =>
        obtain ⟨j, ga, gn, gc, rfl, hj, rfl, HR, HB⟩ := hrel
        obtain ⟨_, _, _, c4, _⟩ := CE.out _ HB.out
        have hz1 : w.heap.size + 1 ≤ wr.heap.size := by have := HB.out.size; simpa using this
        by_cases hlt : j < an
        · obtain ⟨a, hja⟩ : ∃ a, p.vs[j]? = some a := ⟨_, List.getElem?_eq_getElem (by rw [← HAL.out]; exact hlt)⟩
          obtain ⟨haz, gb, go', rfl, hgb, hcells⟩ := HAG.out j a hja
          obtain ⟨q0, q1⟩ := hcells wr (HLow.out _ HB.out)
          by_cases hk1 : a.k = 1
          · have HT := Lib.hid (Pr.ownT_yes hja hk1)
            rw [hk1] at q0
            have HSO : Hid (StrSl (Fresh wr.heap.size (wr.alloc (.cells #[.string a.n] 9)).heap.size) (wr.alloc (.cells #[.string a.n] 9)) (.slice (some ⟨wr.heap.size, 0, none⟩) 1 1) [a.n]) := Lib.hid (strSl_made [a.n] (Below.refl _ _) (fun s hs => by rw [List.mem_singleton.1 hs]; exact haz) (by simp [maxLen]))
            have HLN : Hid ((p.ownT j).length + [a.n].length ≤ 1000000000) := Lib.hid (by have := HO.out.1 j; have := HN.out; simp; omega)
            have HBS : Hid (w.heap.size + 1 ≤ (wr.alloc (.cells #[.string a.n] 9)).heap.size) := Lib.hid (by simp; omega)
            clear hja hk1 hcells haz
            go_wp2_with (at_builtin; refine wpList_app rfl _ _ rfl (w.heap.size + 1) (p.ownT j) (.slice ga gn gc) rfl (HR.out.alloc _) _ _ _ _ [a.n] rfl HSO.out HLN.out HBS.out ?_; intro ga' gn' gc' w2 hrow hgrow _; have HRW := Lib.hid hrow; have HGW := Lib.hid hgrow; clear hrow hgrow)
            go_roundw
            case rel => exact ⟨j + 1, _, _, _, by go_num, by omega, rfl, Lib.hid (by rw [HT.out]; exact HRW.out), Lib.hid ((HB.out.alloc (by omega) _).grown HGW.out (by simp; omega) (fun k e => ((HR.out.alloc (.cells #[.string a.n] 9)).lt k e).1))⟩
            case measure => simp [intOf]; omega
          · have HT := Lib.hid (Pr.ownT_no hja hk1)
            have hk1' : (a.k == 1) = false := by simpa using hk1
            clear hja hk1 hcells haz
            go_wp2_with fail
            go_roundw
            case rel => exact ⟨j + 1, _, _, _, by go_num, by omega, rfl, Lib.hid (by rw [HT.out]; exact HR.out), HB⟩
            case measure => simp [intOf]; omega
        · obtain rfl : an = j := by omega
          obtain ⟨w1, hw1⟩ : ∃ w1, w1 = wr := ⟨_, rfl⟩
          subst hw1
          have hall : p.ownT an = p.own := Pr.ownT_all (by rw [HAL.out]; exact Nat.le_refl _)
          have HRA : Hid (Row (w.heap.size + 1) w1 (.slice ga gn gc) p.own) := Lib.hid (by rw [← hall]; exact HR.out)
          obtain ⟨_, hS⟩ := HRA.out.strs (by have := HO.out.2; have := HN.out; unfold maxLen; omega)
          obtain ⟨pa1, len1, cap1, e1, hl1, hm1, hg1⟩ := StrSl.open hS
          simp only [Value.slice.injEq] at e1
          obtain ⟨rfl, rfl, rfl⟩ := e1
          have HOG : Hid (∀ i s, p.own[i]? = some s → s.size ≤ maxLen ∧ ∃ kb ko, ga = some ⟨kb, ko, none⟩ ∧ kb < w1.heap.size ∧ ∀ W, Below w1.heap.size w1 W → W.cell? ⟨kb, ko + i, none⟩ = some (.string s)) := Lib.hid (fun i s hi => by
            obtain ⟨h1, kb, ko, e, hkb, hc⟩ := hg1 i s hi
            exact ⟨h1, kb, ko, e, hkb.2, fun W hW => (hW.cell (p := ⟨kb, _, none⟩) hkb.2).trans hc⟩)
          have HGN := Lib.hid hl1.out
          have HBw1 : Hid (Below w1.heap.size w1 w1) := Lib.hid (Below.refl _ _)
          have hwb : ∀ W, Below w1.heap.size w1 W → Below (w.heap.size + 1) (box12 w p lv (.slice aa an ac) tl tk (.slice ka kn kc)) W := fun W hW => HB.out.trans (hW.mono hz1)
          have HWB := Lib.hid hwb
          clear hall hS hl1 hg1 hwb HR HAG HAL
          go_wp2_with fail
          clear c4
          go_loopw [7, 8] (fun v i wr => ∃ (m : Nat) (a : Option Addr) (n c : Nat), i = .int .i64 m ∧ m ≤ gn ∧ v = .slice a n c ∧ Hid (Row w1.heap.size wr (.slice a n c) (keepF bd (p.own.take m))) ∧ Hid (Below w1.heap.size w1 wr)) (fun _ i _ => gn - (intOf i).toNat)
          case atStart => exact ⟨0, _, _, _, rfl, by omega, rfl, Lib.hid (by simpa [keepF] using Row.nil w1.heap.size w1), HBw1⟩
          case round =>
            obtain ⟨m, fa, fn, fc, rfl, hm, rfl, HF, HC⟩ := hrel
            have hz2 : w1.heap.size ≤ wr.heap.size := HC.out.size
            by_cases hlt : m < gn
            · obtain ⟨s, hs⟩ : ∃ s, p.own[m]? = some s := ⟨_, List.getElem?_eq_getElem (by rw [← HGN.out]; exact hlt)⟩
              obtain ⟨hsz, kb, ko, rfl, hkb, hcl⟩ := HOG.out m s hs
              have q1 := hcl wr HC.out
              obtain ⟨mb, hmb⟩ : ∃ mb, memB s bd = mb := ⟨_, rfl⟩
              have HIN : Hid (Calls Tryd.prog 39 #[.string s, .slice ba bn bc] wr fun e w' => e = .returned (.bool mb) ∧ wr = w') := Lib.hid (by rw [← hmb]; exact prin_any _ s _ bd wr (HBD.out wr (HLow.out _ (HWB.out _ HC.out))))
              cases mb
              · have HT := Lib.hid (keepF_yes hs hmb)
                have HSO : Hid (StrSl (Fresh wr.heap.size (wr.alloc (.cells #[.string s] 9)).heap.size) (wr.alloc (.cells #[.string s] 9)) (.slice (some ⟨wr.heap.size, 0, none⟩) 1 1) [s]) := Lib.hid (strSl_made [s] (Below.refl _ _) (fun x hx => by rw [List.mem_singleton.1 hx]; exact hsz) (by simp [maxLen]))
                have HLN : Hid ((keepF bd (p.own.take m)).length + [s].length ≤ 1000000000) := Lib.hid (by have := keepF_len bd p.own m; have := HO.out.2; have := HN.out; simp; omega)
                have HBS : Hid (w1.heap.size ≤ (wr.alloc (.cells #[.string s] 9)).heap.size) := Lib.hid (by simp; omega)
                clear hs hsz hcl hmb
                go_wp2_with (first | (go_at_call 39; refine HIN.out.mono ?_; rintro e w' ⟨rfl, rfl⟩) | (at_builtin; refine wpList_app rfl _ _ rfl w1.heap.size (keepF bd (p.own.take m)) (.slice fa fn fc) rfl (HF.out.alloc _) _ _ _ _ [s] rfl HSO.out HLN.out HBS.out ?_; intro fa' fn' fc' w2 hrow hgrow _; have HRW := Lib.hid hrow; have HGW := Lib.hid hgrow; clear hrow hgrow))
                go_roundw
                case rel => exact ⟨m + 1, _, _, _, by go_num, by omega, rfl, Lib.hid (by rw [HT.out]; exact HRW.out), Lib.hid ((HC.out.alloc (by omega) _).grown HGW.out (by simp; omega) (fun k e => ((HF.out.alloc (.cells #[.string s] 9)).lt k e).1))⟩
                case measure => simp [intOf]; omega
              · have HT := Lib.hid (keepF_no hs hmb)
                clear hs hsz hcl hmb
                go_wp2_with (go_at_call 39; refine HIN.out.mono ?_; rintro e w' ⟨rfl, rfl⟩)
                go_roundw
                case rel => exact ⟨m + 1, _, _, _, by go_num, by omega, rfl, Lib.hid (by rw [HT.out]; exact HF.out), HC⟩
                case measure => simp [intOf]; omega
            · obtain rfl : gn = m := by omega
              obtain ⟨w2, hw2⟩ : ∃ w2, w2 = wr := ⟨_, rfl⟩
              subst hw2
              have HFA : Hid (Row w1.heap.size w2 (.slice fa fn fc) (keepF bd p.own)) := Lib.hid (by
                have h := HF.out
                rwa [List.take_of_length_le (by rw [HGN.out]; exact Nat.le_refl _)] at h)
              have hcl2 : ∀ W, Below w2.heap.size w2 W → Below w1.heap.size w1 W := fun W hW => HC.out.trans (hW.mono hz2)
              have HQa : Hid (Below w2.heap.size w2 w2) := Lib.hid (Below.refl _ _)
              have HL2 := Lib.hid hcl2
              have HBD2 : Hid (∀ W, Below w2.heap.size w2 W → StrSl (fun k => k < w.heap.size) W (.slice ba bn bc) bd) := Lib.hid (fun W hW => HBD.out W (HLow.out _ (HWB.out _ (HL2.out W hW))))
              have CE3 : Hid (∀ W, Below w2.heap.size w2 W → W.cell? ⟨w.heap.size, 2, none⟩ = some (.string p.x)) := Lib.hid (fun W hW => (CE.out _ (HWB.out _ (HL2.out W hW))).2.2.1)
              have hl0a : ([] : List ByteArray).length + bd.length ≤ 1000000000 := by have := HN.out; simp; omega
              have hl1a : bd.length + [p.x].length ≤ 1000000000 := by have := HN.out; simp; omega
              have hww : w.heap.size + 1 ≤ w2.heap.size := by omega
              have c0 := (CE.out _ (HWB.out _ (HL2.out w2 HQa.out))).1
              clear hcl2 HF HOG HGN HRA
              go_upto_if 68 with fail
              go_cut [1] from 10 (fun v wc => ∃ a n c, v = .slice a n c ∧ Hid (StrSl (fun k => k < w.heap.size ∨ w2.heap.size ≤ k) wc (.slice a n c) (bnd3 p bd)) ∧ Hid (Below w2.heap.size w2 wc))
              case first =>
                by_cases h3 : p.k = 3
                · have HB3 := Lib.hid (bnd3_yes (bd := bd) h3)
                  have h3' : (p.k == 3) = true := by simp [h3]
                  clear h3
                  have c2 := CE3.out w2 HQa.out
                  go_wp2_with fail
                  go_region_held3 (fun W => W.cell? ⟨w.heap.size, 2, none⟩ = some (.string p.x)) (first | go_keep | exact (CE3.out _ HBb.out) | exact (CE3.out _ HBa.out) | fail)
                    (first
                      | (refine step_app (by rfl) _ _ (by rfl) w2.heap.size [] (.slice (some ⟨w2.heap.size, 0, none⟩) 0 0) ?_ ?_ (fun k => k < w.heap.size) ba bn bc bd ?_ ?_ hl0a ?_ bd (List.nil_append _) ?_
                         · rfl
                         · (repeat (first | (with_reducible refine Row.empty _ _ _ ?_ ?_ <;> first | omega | rfl | (simp; omega) | (simp; done)) | with_reducible refine Row.alloc ?_ _ | with_reducible refine Row.drew ?_))
                         · rfl
                         · exact HBD2.out _ (by (repeat (first | with_reducible exact HQa.out | with_reducible exact box2_below _ _ _ | with_reducible apply Below.drew | (with_reducible refine Below.alloc ?_ ?_ _; rotate_left; (first | omega | (simp; omega) | (simp; done))))))
                         · (first | (simp; done) | (simp; omega))
                         intro ga1 gn1 gc1 w5 hrow1 hgrow1
                         have HBa := Lib.hid (Below.grown (B := w2.heap.size) (a := w2) (by (repeat (first | with_reducible exact HQa.out | with_reducible exact box2_below _ _ _ | with_reducible apply Below.drew | (with_reducible refine Below.alloc ?_ ?_ _; rotate_left; (first | omega | (simp; omega) | (simp; done)))))) hgrow1 (by first | (simp; done) | (simp; omega)) (fun k e => by simp [Value.ownBlock] at e; omega))
                         have hz5 : w2.heap.size ≤ w5.heap.size := Nat.le_trans (by first | (simp; done) | (simp; omega)) hgrow1.size)
                      | (refine step_app (by rfl) _ _ (by rfl) w2.heap.size [] (.slice (some ⟨w2.heap.size + 1, 0, none⟩) 0 0) ?_ ?_ (fun k => k < w.heap.size) ba bn bc bd ?_ ?_ hl0a ?_ bd (List.nil_append _) ?_
                         · rfl
                         · (repeat (first | (with_reducible refine Row.empty _ _ _ ?_ ?_ <;> first | omega | rfl | (simp; omega) | (simp; done)) | with_reducible refine Row.alloc ?_ _ | with_reducible refine Row.drew ?_))
                         · rfl
                         · exact HBD2.out _ (by (repeat (first | with_reducible exact HQa.out | with_reducible exact box2_below _ _ _ | with_reducible apply Below.drew | (with_reducible refine Below.alloc ?_ ?_ _; rotate_left; (first | omega | (simp; omega) | (simp; done))))))
                         · (first | (simp; done) | (simp; omega))
                         intro ga1 gn1 gc1 w5 hrow1 hgrow1
                         have HBa := Lib.hid (Below.grown (B := w2.heap.size) (a := w2) (by (repeat (first | with_reducible exact HQa.out | with_reducible exact box2_below _ _ _ | with_reducible apply Below.drew | (with_reducible refine Below.alloc ?_ ?_ _; rotate_left; (first | omega | (simp; omega) | (simp; done)))))) hgrow1 (by first | (simp; done) | (simp; omega)) (fun k e => by simp [Value.ownBlock] at e; omega))
                         have hz5 : w2.heap.size ≤ w5.heap.size := Nat.le_trans (by first | (simp; done) | (simp; omega)) hgrow1.size)
                      | (refine step_app (by rfl) _ _ (by rfl) w2.heap.size bd (.slice ga1 gn1 gc1) ?_ ?_ (fun _ => True) (some ⟨w5.heap.size, 0, none⟩) 1 1 [p.x] ?_ ?_ hl1a ?_ (bd ++ [p.x]) rfl ?_
                         · rfl
                         · (first | exact hrow1 | exact hrow1.drew | exact (hrow1.alloc _).drew | exact (hrow1.alloc _))
                         · rfl
                         · (refine strSl_one ?_ HCX.out.2; first | (simp; done) | (exact hgrow1.cell (by simp) (by simp [Value.ownBlock])) | (simp; exact hgrow1.cell (by simp) (by simp [Value.ownBlock])))
                         · (first | omega | (simp; omega))
                         intro ga2 gn2 gc2 w6 hrow2 hgrow2
                         have HBb := Lib.hid (Below.grown (B := w2.heap.size) (a := w2) (by (repeat (first | with_reducible exact HBa.out | with_reducible exact box2_below _ _ _ | with_reducible apply Below.drew | (with_reducible refine Below.alloc ?_ ?_ _; rotate_left; (first | omega | (simp; omega) | (simp; done)))))) hgrow2 (by first | omega | (simp; omega)) (fun k e => (hrow1.lt k e).1)))
                      | (refine step_app (by rfl) _ _ (by rfl) w2.heap.size bd (.slice ga1 gn1 gc1) ?_ ?_ (fun _ => True) (some ⟨w2.heap.size, 0, none⟩) 1 1 [p.x] ?_ ?_ hl1a ?_ (bd ++ [p.x]) rfl ?_
                         · rfl
                         · (first | exact hrow1 | exact hrow1.drew | exact (hrow1.alloc _).drew | exact (hrow1.alloc _))
                         · rfl
                         · (refine strSl_one ?_ HCX.out.2; first | (simp; done) | (exact hgrow1.cell (by simp) (by simp [Value.ownBlock])) | (simp; exact hgrow1.cell (by simp) (by simp [Value.ownBlock])))
                         · (first | omega | (simp; omega))
                         intro ga2 gn2 gc2 w6 hrow2 hgrow2
                         have HBb := Lib.hid (Below.grown (B := w2.heap.size) (a := w2) (by (repeat (first | with_reducible exact HBa.out | with_reducible exact box2_below _ _ _ | with_reducible apply Below.drew | (with_reducible refine Below.alloc ?_ ?_ _; rotate_left; (first | omega | (simp; omega) | (simp; done)))))) hgrow2 (by first | omega | (simp; omega)) (fun k e => (hrow1.lt k e).1)))
                      | (refine step_app (by rfl) _ _ (by rfl) w2.heap.size bd (.slice ga1 gn1 gc1) ?_ ?_ (fun _ => True) (some ⟨(w2.heap.size + 1), 0, none⟩) 1 1 [p.x] ?_ ?_ hl1a ?_ (bd ++ [p.x]) rfl ?_
                         · rfl
                         · (first | exact hrow1 | exact hrow1.drew | exact (hrow1.alloc _).drew | exact (hrow1.alloc _))
                         · rfl
                         · (refine strSl_one ?_ HCX.out.2; first | (simp; done) | (exact hgrow1.cell (by simp) (by simp [Value.ownBlock])) | (simp; exact hgrow1.cell (by simp) (by simp [Value.ownBlock])))
                         · (first | omega | (simp; omega))
                         intro ga2 gn2 gc2 w6 hrow2 hgrow2
                         have HBb := Lib.hid (Below.grown (B := w2.heap.size) (a := w2) (by (repeat (first | with_reducible exact HBa.out | with_reducible exact box2_below _ _ _ | with_reducible apply Below.drew | (with_reducible refine Below.alloc ?_ ?_ _; rotate_left; (first | omega | (simp; omega) | (simp; done)))))) hgrow2 (by first | omega | (simp; omega)) (fun k e => (hrow1.lt k e).1)))
                      | fail)
                  all_goals (go_wp2_with fail)
                  all_goals go_meet
                  all_goals (case rel => exact ⟨_, _, _, rfl, Lib.hid (by rw [HB3.out]; exact (hrow2.strs (by simp; unfold maxLen; omega)).2.mono (fun k hk => .inr hk.1)), HBb⟩)
                · have HB3 := Lib.hid (bnd3_no (bd := bd) h3)
                  have h3' : (p.k == 3) = false := by simpa using h3
                  clear h3
                  go_wp2_with fail
                  go_meet
                  case rel => exact ⟨_, _, _, rfl, Lib.hid (by rw [HB3.out]; exact (HBD2.out w2 HQa.out).mono (fun k hk => .inl hk)), HQa⟩
              case rest =>
                obtain ⟨ea, en, ec, rfl, HE, HC3⟩ := hcut
                obtain ⟨w3, hw3⟩ : ∃ w3, w3 = wc := ⟨_, rfl⟩
                subst hw3
                have hz3 : w2.heap.size ≤ w3.heap.size := HC3.out.size
                have hcl3 : ∀ W, Below w3.heap.size w3 W → Below w2.heap.size w2 W := fun W hW => HC3.out.trans (hW.mono hz3)
                have HL3 := Lib.hid hcl3
                have HQb : Hid (Below w3.heap.size w3 w3) := Lib.hid (Below.refl _ _)
                have HE3 : Hid (∀ W, Below w3.heap.size w3 W → StrSl (fun k => k < w.heap.size ∨ w2.heap.size ≤ k) W (.slice ea en ec) (bnd3 p bd)) := Lib.hid (fun W hW => (StrSl.keep (hW.keeps'.mono (fun _ h => h.2)) HE.out.low).mono (fun _ h => h.1))
                have CE6 : Hid (∀ W, Below w3.heap.size w3 W → W.cell? ⟨w.heap.size, 1, none⟩ = some (.string p.c) ∧ W.cell? ⟨w.heap.size, 2, none⟩ = some (.string p.x)) := Lib.hid (fun W hW => by
                  obtain ⟨_, h1, h2, _⟩ := CE.out _ (HWB.out _ (HL2.out W (HL3.out W hW)))
                  exact ⟨h1, h2⟩)
                have hl0b : ([] : List ByteArray).length + (bnd3 p bd).length ≤ 1000000000 := by have := HN.out; have := bnd3_len p bd; simp; omega
                have hl1b : (bnd3 p bd).length + [p.c, p.x].length ≤ 1000000000 := by have := HN.out; have := bnd3_len p bd; simp; omega
                have c0' := (CE.out _ (HWB.out _ (HL2.out w3 (HL3.out w3 HQb.out)))).1
                clear hcl3 c0
                go_upto_if 78 with fail
                go_cut [1] from 10 (fun v wc => ∃ a n c, v = .slice a n c ∧ Hid (StrSl (fun k => k < w.heap.size ∨ w2.heap.size ≤ k) wc (.slice a n c) (bd ++ p.bnd)) ∧ Hid (Below w3.heap.size w3 wc))
                case first =>
                  by_cases h6 : p.k = 6
                  · have HB6 := Lib.hid (bnd_6 (bd := bd) h6)
                    have h6' : (p.k == 6) = true := by simp [h6]
                    clear h6
                    obtain ⟨c1, c2⟩ := CE6.out w3 HQb.out
                    go_wp2_with fail
                    go_region_held3 (fun W => W.cell? ⟨w.heap.size, 1, none⟩ = some (.string p.c) ∧ W.cell? ⟨w.heap.size, 2, none⟩ = some (.string p.x)) (first | go_keep | exact (CE6.out _ HBb.out) | exact (CE6.out _ HBa.out) | fail)
                      (first
                        | (refine step_app (by rfl) _ _ (by rfl) w3.heap.size [] (.slice (some ⟨w3.heap.size, 0, none⟩) 0 0) ?_ ?_ (fun k => k < w.heap.size ∨ w2.heap.size ≤ k) ea en ec (bnd3 p bd) ?_ ?_ hl0b ?_ (bnd3 p bd) (List.nil_append _) ?_
                           · rfl
                           · (repeat (first | (with_reducible refine Row.empty _ _ _ ?_ ?_ <;> first | omega | rfl | (simp; omega) | (simp; done)) | with_reducible refine Row.alloc ?_ _ | with_reducible refine Row.drew ?_))
                           · rfl
                           · exact HE3.out _ (by (repeat (first | with_reducible exact HQb.out | with_reducible exact box2_below _ _ _ | with_reducible apply Below.drew | (with_reducible refine Below.alloc ?_ ?_ _; rotate_left; (first | omega | (simp; omega) | (simp; done))))))
                           · (first | (simp; done) | (simp; omega))
                           intro ga1 gn1 gc1 w5 hrow1 hgrow1
                           have HBa := Lib.hid (Below.grown (B := w3.heap.size) (a := w3) (by (repeat (first | with_reducible exact HQb.out | with_reducible exact box2_below _ _ _ | with_reducible apply Below.drew | (with_reducible refine Below.alloc ?_ ?_ _; rotate_left; (first | omega | (simp; omega) | (simp; done)))))) hgrow1 (by first | (simp; done) | (simp; omega)) (fun k e => by simp [Value.ownBlock] at e; omega))
                           have hz5 : w3.heap.size ≤ w5.heap.size := Nat.le_trans (by first | (simp; done) | (simp; omega)) hgrow1.size)
                        | (refine step_app (by rfl) _ _ (by rfl) w3.heap.size [] (.slice (some ⟨w3.heap.size + 1, 0, none⟩) 0 0) ?_ ?_ (fun k => k < w.heap.size ∨ w2.heap.size ≤ k) ea en ec (bnd3 p bd) ?_ ?_ hl0b ?_ (bnd3 p bd) (List.nil_append _) ?_
                           · rfl
                           · (repeat (first | (with_reducible refine Row.empty _ _ _ ?_ ?_ <;> first | omega | rfl | (simp; omega) | (simp; done)) | with_reducible refine Row.alloc ?_ _ | with_reducible refine Row.drew ?_))
                           · rfl
                           · exact HE3.out _ (by (repeat (first | with_reducible exact HQb.out | with_reducible exact box2_below _ _ _ | with_reducible apply Below.drew | (with_reducible refine Below.alloc ?_ ?_ _; rotate_left; (first | omega | (simp; omega) | (simp; done))))))
                           · (first | (simp; done) | (simp; omega))
                           intro ga1 gn1 gc1 w5 hrow1 hgrow1
                           have HBa := Lib.hid (Below.grown (B := w3.heap.size) (a := w3) (by (repeat (first | with_reducible exact HQb.out | with_reducible exact box2_below _ _ _ | with_reducible apply Below.drew | (with_reducible refine Below.alloc ?_ ?_ _; rotate_left; (first | omega | (simp; omega) | (simp; done)))))) hgrow1 (by first | (simp; done) | (simp; omega)) (fun k e => by simp [Value.ownBlock] at e; omega))
                           have hz5 : w3.heap.size ≤ w5.heap.size := Nat.le_trans (by first | (simp; done) | (simp; omega)) hgrow1.size)
                        | (refine step_app (by rfl) _ _ (by rfl) w3.heap.size (bnd3 p bd) (.slice ga1 gn1 gc1) ?_ ?_ (fun _ => True) (some ⟨w5.heap.size, 0, none⟩) 2 2 [p.c, p.x] ?_ ?_ hl1b ?_ ((bnd3 p bd) ++ [p.c, p.x]) rfl ?_
                           · rfl
                           · (first | exact hrow1 | exact hrow1.drew | exact (hrow1.alloc _).drew | exact (hrow1.alloc _))
                           · rfl
                           · (refine strSl_two ?_ ?_ HCX.out.1 HCX.out.2 <;> first | (simp; done) | (exact hgrow1.cell (by simp) (by simp [Value.ownBlock])) | (simp; exact hgrow1.cell (by simp) (by simp [Value.ownBlock])))
                           · (first | omega | (simp; omega))
                           intro ga2 gn2 gc2 w6 hrow2 hgrow2
                           have HBb := Lib.hid (Below.grown (B := w3.heap.size) (a := w3) (by (repeat (first | with_reducible exact HBa.out | with_reducible exact box2_below _ _ _ | with_reducible apply Below.drew | (with_reducible refine Below.alloc ?_ ?_ _; rotate_left; (first | omega | (simp; omega) | (simp; done)))))) hgrow2 (by first | omega | (simp; omega)) (fun k e => (hrow1.lt k e).1)))
                        | (refine step_app (by rfl) _ _ (by rfl) w3.heap.size (bnd3 p bd) (.slice ga1 gn1 gc1) ?_ ?_ (fun _ => True) (some ⟨w3.heap.size, 0, none⟩) 2 2 [p.c, p.x] ?_ ?_ hl1b ?_ ((bnd3 p bd) ++ [p.c, p.x]) rfl ?_
                           · rfl
                           · (first | exact hrow1 | exact hrow1.drew | exact (hrow1.alloc _).drew | exact (hrow1.alloc _))
                           · rfl
                           · (refine strSl_two ?_ ?_ HCX.out.1 HCX.out.2 <;> first | (simp; done) | (exact hgrow1.cell (by simp) (by simp [Value.ownBlock])) | (simp; exact hgrow1.cell (by simp) (by simp [Value.ownBlock])))
                           · (first | omega | (simp; omega))
                           intro ga2 gn2 gc2 w6 hrow2 hgrow2
                           have HBb := Lib.hid (Below.grown (B := w3.heap.size) (a := w3) (by (repeat (first | with_reducible exact HBa.out | with_reducible exact box2_below _ _ _ | with_reducible apply Below.drew | (with_reducible refine Below.alloc ?_ ?_ _; rotate_left; (first | omega | (simp; omega) | (simp; done)))))) hgrow2 (by first | omega | (simp; omega)) (fun k e => (hrow1.lt k e).1)))
                        | (refine step_app (by rfl) _ _ (by rfl) w3.heap.size (bnd3 p bd) (.slice ga1 gn1 gc1) ?_ ?_ (fun _ => True) (some ⟨(w3.heap.size + 1), 0, none⟩) 2 2 [p.c, p.x] ?_ ?_ hl1b ?_ ((bnd3 p bd) ++ [p.c, p.x]) rfl ?_
                           · rfl
                           · (first | exact hrow1 | exact hrow1.drew | exact (hrow1.alloc _).drew | exact (hrow1.alloc _))
                           · rfl
                           · (refine strSl_two ?_ ?_ HCX.out.1 HCX.out.2 <;> first | (simp; done) | (exact hgrow1.cell (by simp) (by simp [Value.ownBlock])) | (simp; exact hgrow1.cell (by simp) (by simp [Value.ownBlock])))
                           · (first | omega | (simp; omega))
                           intro ga2 gn2 gc2 w6 hrow2 hgrow2
                           have HBb := Lib.hid (Below.grown (B := w3.heap.size) (a := w3) (by (repeat (first | with_reducible exact HBa.out | with_reducible exact box2_below _ _ _ | with_reducible apply Below.drew | (with_reducible refine Below.alloc ?_ ?_ _; rotate_left; (first | omega | (simp; omega) | (simp; done)))))) hgrow2 (by first | omega | (simp; omega)) (fun k e => (hrow1.lt k e).1)))
                        | fail)
                    all_goals (go_wp2_with fail)
                    all_goals go_meet
                    all_goals (case rel => exact ⟨_, _, _, rfl, Lib.hid (by rw [HB6.out]; exact (hrow2.strs (by have := hl1b; simp at this ⊢; unfold maxLen; omega)).2.mono (fun k hk => .inr (Nat.le_trans hz3 hk.1))), HBb⟩)
                  · have HB6 := Lib.hid (bnd_not6 (bd := bd) h6)
                    have h6' : (p.k == 6) = false := by simpa using h6
                    clear h6
                    go_wp2_with fail
                    go_meet
                    case rel => exact ⟨_, _, _, rfl, Lib.hid (by rw [HB6.out]; exact HE3.out w3 HQb.out), HQb⟩
                case rest =>
                  obtain ⟨ra, rn, rc, rfl, HE4, HC4⟩ := hcut
                  obtain ⟨w4, hw4⟩ : ∃ w4, w4 = wc := ⟨_, rfl⟩
                  subst hw4
                  have hz4 : w3.heap.size ≤ w4.heap.size := HC4.out.size
                  have hb24 : Below w2.heap.size w2 w4 := HC3.out.trans (HC4.out.mono hz3)
                  have HE5 : Hid (StrSl (fun k => k < w.heap.size ∨ (w2.heap.size ≤ k ∧ k < w4.heap.size)) w4 (.slice ra rn rc) (bd ++ p.bnd)) := Lib.hid (HE4.out.low.mono (fun k hk => hk.1.elim .inl (fun h => .inr ⟨h, hk.2⟩)))
                  have HF5 : Hid (Row w1.heap.size w4 (.slice fa fn fc) (keepF bd p.own)) := Lib.hid (HFA.out.to hb24)
                  have HOB : Hid (∀ g, (Value.slice fa fn fc).ownBlock = some g → g < w2.heap.size ∨ w4.heap.size ≤ g) := Lib.hid (fun g e => .inl (HFA.out.lt g e).2)
                  have HB4 : Hid (Below w1.heap.size w1 w4) := Lib.hid (HL2.out _ hb24)
                  clear hb24 HE3 HE HE4 HFA HBD HBD2 CE3 CE6 c0' HL2 HL3 HQa HQb HC HC3 HC4 hl0a hl1a hl0b hl1b
                  go_wp2_with fail
                  go_loopw [7, 9] (fun v i wr => ∃ (j : Nat) (a : Option Addr) (n c : Nat), i = .int .i64 j ∧ j ≤ kn ∧ v = .slice a n c ∧ Hid (Row w1.heap.size wr (.slice a n c) (keepF bd p.own ++ Pr.usess (p.ps.take j) (bd ++ p.bnd))) ∧ Hid (∀ g, (Value.slice a n c).ownBlock = some g → g < w2.heap.size ∨ w4.heap.size ≤ g) ∧ Hid (Below w1.heap.size w1 wr) ∧ w4.heap.size ≤ wr.heap.size ∧ Hid (StrSl (fun k => k < w.heap.size ∨ (w2.heap.size ≤ k ∧ k < w4.heap.size)) wr (.slice ra rn rc) (bd ++ p.bnd))) (fun _ i _ => kn - (intOf i).toNat)
                  case atStart => exact ⟨0, _, _, _, rfl, by omega, rfl, Lib.hid (by simpa [Pr.usess] using HF5.out), HOB, HB4, Nat.le_refl _, HE5⟩
                  case round =>
                    obtain ⟨j, xa, xn, xc, rfl, hj, rfl, HR, HX, HB5, hz5, HS⟩ := hrel
                    obtain ⟨_, _, _, _, c11⟩ := CE.out _ (HWB.out _ HB5.out)
                    have hlw := HLow.out _ (HWB.out _ HB5.out)
                    have hz7 : w1.heap.size ≤ wr.heap.size := HB5.out.size
                    by_cases hlt : j < kn
                    · obtain ⟨u, hu⟩ : ∃ u, p.ps[j]? = some u := ⟨_, List.getElem?_eq_getElem (by rw [← HKL.out]; exact hlt)⟩
                      obtain ⟨kb, ko, rfl, hkb, hpa⟩ := HKG.out j u hu
                      obtain ⟨la1, ln1, lc1, aa1, an1, ac1, ta1, tn1, tc1, ua1, un1, uc1, ka1, kn1, kc1, ⟨d0, d1, d2, d3, d4, d5, d6, d7, d8, d9, d10, d11⟩, hval⟩ := (hpa wr hlw).load'
                      have hum := List.mem_of_getElem? hu
                      have hnt := Pr.nmss_take hu
                      have hnl := Pr.nmss_take_le p.ps (j + 1)
                      have hdu := Pr.depth_mem hum
                      have hbl := p.bnd_len
                      have hul := u.uses_len (bd ++ p.bnd)
                      have hsl := Pr.usess_len (p.ps.take j) (bd ++ p.bnd)
                      have hkl : (keepF bd p.own).length ≤ p.own.length := List.length_filter_le _ _
                      have HNN := HN.out
                      have HOO := HO.out.2
                      have HC : Hid (Calls Tryd.prog 70 #[prAgg u (.slice la1 ln1 lc1) (.slice aa1 an1 ac1) (.slice ta1 tn1 tc1) (.slice ua1 un1 uc1) (.slice ka1 kn1 kc1), .slice ra rn rc] wr (StrRet wr (u.uses (bd ++ p.bnd)))) :=
                        Lib.hid (HIH.out u hum _ _ _ wr (hval.mono (fun k hk => Nat.lt_of_lt_of_le hk hlw.size)) (HS.out.mono (fun k hk => hk.elim (fun h => Nat.lt_of_lt_of_le h hlw.size) (fun h => Nat.lt_of_lt_of_le h.2 hz5))) (by omega) (by rw [List.length_append]; omega))
                      have HT : Hid (keepF bd p.own ++ Pr.usess (p.ps.take (j + 1)) (bd ++ p.bnd) = (keepF bd p.own ++ Pr.usess (p.ps.take j) (bd ++ p.bnd)) ++ u.uses (bd ++ p.bnd)) := Lib.hid (by rw [Pr.usess_take hu, List.append_assoc])
                      have HLN : Hid ((keepF bd p.own ++ Pr.usess (p.ps.take j) (bd ++ p.bnd)).length + (u.uses (bd ++ p.bnd)).length ≤ 1000000000) := Lib.hid (by rw [List.length_append]; omega)
                      unfold prAgg at HC
                      clear hu hpa hval hum hnt hnl hdu hbl hul hsl hkl HNN HOO
                      go_wp2_with (first | (go_at_call 70; refine HC.out.mono ?_; rintro e w5 ⟨ya, yn, yc, rfl, hsl, hb5⟩; have HSL := Lib.hid hsl; have HB6 := Lib.hid hb5; have HR5 := Lib.hid (HR.out.to hb5); have hz6 := hb5.size; clear hsl hb5) | (at_builtin; refine wpList_app rfl _ _ rfl w1.heap.size (keepF bd p.own ++ Pr.usess (p.ps.take j) (bd ++ p.bnd)) (.slice xa xn xc) rfl HR5.out _ _ _ _ (u.uses (bd ++ p.bnd)) rfl HSL.out HLN.out (Nat.le_trans hz7 hz6) ?_; intro fa' fn' fc' w6 hrow hgrow hat; have HRW := Lib.hid hrow; have HGW := Lib.hid hgrow; have HAT := Lib.hid hat; clear hrow hgrow hat))
                      go_roundw
                      case rel =>
                        refine ⟨j + 1, _, _, _, by go_num, by omega, rfl, Lib.hid (by rw [HT.out]; exact HRW.out), Lib.hid (fun g e => ?_), Lib.hid ((HB5.out.trans (HB6.out.mono hz7)).grown HGW.out (Nat.le_trans hz7 hz6) (fun k e => (HR5.out.lt k e).1)), Nat.le_trans hz5 (Nat.le_trans hz6 HGW.out.size), Lib.hid (StrSl.keep (keeps_grown HGW.out (fun k hk => ?_)) (StrSl.keep (HB6.out.keeps'.mono (fun k hk => ?_)) HS.out))⟩
                        · rcases HAT.out with h | h
                          · exact HX.out g (h ▸ e)
                          · rw [h] at e; exact .inr (by have := Option.some.inj e; omega)
                        · have hw1 : w.heap.size + 1 ≤ w1.heap.size := by omega
                          refine ⟨hk.elim (fun h => by omega) (fun h => by omega), fun e => ?_⟩
                          have h1 := (HR5.out.lt k e.symm).1
                          have h2 := HX.out k e.symm
                          rcases hk with h | h <;> omega
                        · exact hk.elim (fun h => by have := hlw.size; omega) (fun h => by omega)
                      case measure => simp [intOf]; omega
                    · obtain rfl : kn = j := by omega
                      have HLE : Hid (keepF bd p.own ++ Pr.usess (p.ps.take kn) (bd ++ p.bnd) = p.uses bd) := Lib.hid (by rw [List.take_of_length_le (by rw [HKL.out]; exact Nat.le_refl _), HU.out])
                      have HLU := Lib.hid (p.uses_len bd)
                      go_wp2_with fail
                      go_ret
                      refine ⟨_, _, _, rfl, ?_, hlw⟩
                      have h := HR.out
                      rw [HLE.out] at h
                      exact (h.strs (by have := HLU.out; have := HN.out; unfold maxLen; omega)).2.mono (fun k hk => ⟨by have := hk.1; omega, hk.2⟩)


theorem uses_any : ∀ p : Pr, UsesP p := by
  refine Pr.ind ?_
  intro k c x ls vs t ps ih
  exact uses_step (.mk k c x ls vs t ps) ih

end Go.Proofs.YtipjjhkgcbabnaaDoor

/- Processes: the reference's Free. -/
namespace Go.Proofs.YtipjjhkgcbabnaaDoor
open Go.RowKit Go.Deep Go.Shelf

def adds (l : List ByteArray) (j : Nat) : List ByteArray := (l.take j).foldl addN []
theorem adds_yes {l : List ByteArray} {j : Nat} {s : ByteArray} (h : l[j]? = some s) (hm : memB s (adds l j) = true) : adds l (j + 1) = adds l j := by
  unfold adds at *; rw [take_snoc_get h, List.foldl_append, List.foldl_cons, List.foldl_nil, addN, hm]; rfl
theorem adds_no {l : List ByteArray} {j : Nat} {s : ByteArray} (h : l[j]? = some s) (hm : memB s (adds l j) = false) : adds l (j + 1) = adds l j ++ [s] := by
  unfold adds at *; rw [take_snoc_get h, List.foldl_append, List.foldl_cons, List.foldl_nil, addN, hm]; rfl
theorem adds_len (l : List ByteArray) (j : Nat) : (adds l j).length ≤ l.length := by
  unfold adds; have := foldN_len (l.take j) []; rw [List.length_take] at this; simp at this; omega

set_option maxHeartbeats 4000000 in
set_option maxRecDepth 100000 in
theorem rfree_any (p : Pr) (v : Value) (w : World) (hv : PLies w v p) (hn : p.nms ≤ 900000000) (hd : 2 * p.depth ≤ 1000000) : Calls Tryd.prog 38 #[v] w (StrRet w p.free) := by
  have hv' := hv
  obtain ⟨lv, av, tl, tk, kv, rfl, _⟩ := hv'
  obtain ⟨⟨la, ln, lc, rfl⟩, ⟨aa, an, ac, rfl⟩, ⟨ta, tn, tc, rfl⟩, ⟨ua, un, uc, rfl⟩, ⟨ka, kn, kc, rfl⟩⟩ := pr_slices hv
  have hbx : Below w.heap.size w (w.alloc (cell12 p (.slice la ln lc) (.slice aa an ac) (.slice ta tn tc) (.slice ua un uc) (.slice ka kn kc))) := blkBelow w _ _
  have HU : Hid (Calls Tryd.prog 70 #[prAgg p (.slice la ln lc) (.slice aa an ac) (.slice ta tn tc) (.slice ua un uc) (.slice ka kn kc), .slice none 0 0] (w.alloc (cell12 p (.slice la ln lc) (.slice aa an ac) (.slice ta tn tc) (.slice ua un uc) (.slice ka kn kc))) (StrRet (w.alloc (cell12 p (.slice la ln lc) (.slice aa an ac) (.slice ta tn tc) (.slice ua un uc) (.slice ka kn kc))) (p.uses []))) :=
    Lib.hid (uses_any p _ _ [] _ (hv.to hbx) (nil_strs _ _) hn (by simp; omega))
  have HF : Hid (p.free = (p.uses []).foldl addN []) := Lib.hid p.free_uses
  have hul := p.uses_len []
  have HB0 := Lib.hid hbx
  rw [HF.out]
  obtain ⟨l, hl⟩ : ∃ l, p.uses [] = l := ⟨_, rfl⟩
  rw [hl] at HU hul ⊢
  have HLL : Hid (l.length ≤ 900000000) := Lib.hid (by omega)
  clear hv hn hd hbx hul hl
  unfold prAgg at HU
  go_enter Tryd.func38, Tryd.ntmps38
  go_wp2_with fail
  refine HU.out.mono ?_
  rintro e w1 ⟨ya, yn, yc, rfl, hsl, hb1⟩
  obtain ⟨pa1, len1, cap1, e1, hl1, hm1, hg1⟩ := StrSl.open hsl
  simp only [Value.slice.injEq] at e1
  obtain ⟨rfl, rfl, rfl⟩ := e1
  have HOG : Hid (∀ i s, l[i]? = some s → s.size ≤ maxLen ∧ ∃ kb ko, ya = some ⟨kb, ko, none⟩ ∧ kb < w1.heap.size ∧ ∀ W, Below w1.heap.size w1 W → W.cell? ⟨kb, ko + i, none⟩ = some (.string s)) := Lib.hid (fun i s hi => by
    obtain ⟨h1, kb, ko, e, hkb, hc⟩ := hg1 i s hi
    exact ⟨h1, kb, ko, e, hkb.2, fun W hW => (hW.cell (p := ⟨kb, _, none⟩) hkb.2).trans hc⟩)
  have HLN := Lib.hid hl1.out
  have HB1 := Lib.hid (below_seq HB0.out hb1)
  have HBw : Hid (Below w1.heap.size w1 w1) := Lib.hid (Below.refl _ _)
  clear hsl hl1 hg1 hb1 HU
  go_wp2_with fail
  go_loopw [4, 5] (fun v i wr => ∃ (m : Nat) (a : Option Addr) (n c : Nat), i = .int .i64 m ∧ m ≤ yn ∧ v = .slice a n c ∧ Hid (Row w1.heap.size wr (.slice a n c) (adds l m)) ∧ Hid (Below w1.heap.size w1 wr)) (fun _ i _ => yn - (intOf i).toNat)
  case atStart => exact ⟨0, _, _, _, rfl, by omega, rfl, Lib.hid (Row.nil _ _), HBw⟩
  case round =>
    obtain ⟨m, fa, fn, fc, rfl, hm, rfl, HR, HC⟩ := hrel
    have hz2 : w1.heap.size ≤ wr.heap.size := HC.out.size
    by_cases hlt : m < yn
    · obtain ⟨s, hs⟩ : ∃ s, l[m]? = some s := ⟨_, List.getElem?_eq_getElem (by rw [← HLN.out]; exact hlt)⟩
      obtain ⟨hsz, kb, ko, rfl, hkb, hcl⟩ := HOG.out m s hs
      have q1 := hcl wr HC.out
      obtain ⟨mb, hmb⟩ : ∃ mb, memB s (adds l m) = mb := ⟨_, rfl⟩
      have hal := adds_len l m
      have HIN : Hid (Calls Tryd.prog 39 #[.string s, .slice fa fn fc] wr fun e w' => e = .returned (.bool mb) ∧ wr = w') := Lib.hid (by rw [← hmb]; exact prin_any _ s _ (adds l m) wr (HR.out.strs (by have := HLL.out; unfold maxLen; omega)).2)
      cases mb
      · have HT := Lib.hid (adds_no hs hmb)
        have HSO : Hid (StrSl (Fresh wr.heap.size (wr.alloc (.cells #[.string s] 9)).heap.size) (wr.alloc (.cells #[.string s] 9)) (.slice (some ⟨wr.heap.size, 0, none⟩) 1 1) [s]) := Lib.hid (strSl_made [s] (Below.refl _ _) (fun x hx => by rw [List.mem_singleton.1 hx]; exact hsz) (by simp [maxLen]))
        have HLX : Hid ((adds l m).length + [s].length ≤ 1000000000) := Lib.hid (by have := HLL.out; simp; omega)
        have HBS : Hid (w1.heap.size ≤ (wr.alloc (.cells #[.string s] 9)).heap.size) := Lib.hid (by simp; omega)
        clear hs hsz hcl hmb hal
        go_wp2_with (first | (go_at_call 39; refine HIN.out.mono ?_; rintro e w' ⟨rfl, rfl⟩) | (at_builtin; refine wpList_app rfl _ _ rfl w1.heap.size (adds l m) (.slice fa fn fc) rfl (HR.out.alloc _) _ _ _ _ [s] rfl HSO.out HLX.out HBS.out ?_; intro fa' fn' fc' w2 hrow hgrow _; have HRW := Lib.hid hrow; have HGW := Lib.hid hgrow; clear hrow hgrow))
        go_roundw
        case rel => exact ⟨m + 1, _, _, _, by go_num, by omega, rfl, Lib.hid (by rw [HT.out]; exact HRW.out), Lib.hid ((HC.out.alloc (by omega) _).grown HGW.out (by simp; omega) (fun k e => ((HR.out.alloc (.cells #[.string s] 9)).lt k e).1))⟩
        case measure => simp [intOf]; omega
      · have HT := Lib.hid (adds_yes hs hmb)
        clear hs hsz hcl hmb hal
        go_wp2_with (go_at_call 39; refine HIN.out.mono ?_; rintro e w' ⟨rfl, rfl⟩)
        go_roundw
        case rel => exact ⟨m + 1, _, _, _, by go_num, by omega, rfl, Lib.hid (by rw [HT.out]; exact HR.out), HC⟩
        case measure => simp [intOf]; omega
    · obtain rfl : yn = m := by omega
      have HAL : Hid (adds l yn = l.foldl addN []) := Lib.hid (by unfold adds; rw [List.take_of_length_le (by rw [HLN.out]; exact Nat.le_refl _)])
      have hal := adds_len l yn
      have HA := Lib.hid hal
      clear hal
      go_wp2_with fail
      go_ret
      have h := HR.out
      have h2 := HB1.out.size
      rw [← HAL.out]
      exact ⟨_, _, _, rfl, (h.strs (by have := HA.out; have := HLL.out; unfold maxLen; omega)).2.mono (fun k hk => ⟨by have := hk.1; omega, hk.2⟩), below_seq HB1.out HC.out⟩

end Go.Proofs.YtipjjhkgcbabnaaDoor

/- Processes that came in as arguments: how many names they have at most. -/
namespace Go.Proofs.YtipjjhkgcbabnaaDoor
open Go.ChangeShapes Go.WideShapes Go.ChangeAt Go.RowKit Go.Deep

theorem bulk_pos {H : Type} (d : DataW H) : 1 ≤ Rows.uptoBulk d := by
  cases d <;> first | (simp [Rows.uptoBulk]; done) | (rename_i l; cases l <;> simp [Rows.uptoBulk])
theorem bulk_len {H : Type} (D : List (DataW H)) : D.length ≤ Rows.uptoBulkAll D := by
  induction D with
  | nil => simp
  | cons d r ih => have := bulk_pos d; simp only [List.length_cons, Rows.uptoBulkAll]; omega
def sumBy {α : Type} (g : α → Nat) : List α → Nat
  | [] => 0
  | x :: r => g x + sumBy g r
theorem sum_bulk {H α : Type} (g : α → Nat) : ∀ (xs : List α) (D : List (DataW H)), xs.length = D.length → (∀ (j : Nat) (x : α) (d : DataW H), xs[j]? = some x → D[j]? = some d → g x ≤ Rows.uptoBulk d) → sumBy g xs ≤ Rows.uptoBulkAll D
  | [], D, _, _ => by simp [sumBy]
  | x :: r, [], h, _ => by simp at h
  | x :: r, d :: D, h, hg => by
    have h1 := hg 0 x d rfl rfl
    have h2 := sum_bulk g r D (by simpa using h) (fun j x d hx hd => hg (j + 1) x d (by simpa using hx) (by simpa using hd))
    simp only [sumBy, Rows.uptoBulkAll]; omega

/-- A slice, with what its elements hold. -/
theorem slice_bulk {H : Type} {enc : TypeId × Value → H} {P : Program} {w : World} {base : Nat} {spare : Nat → Bool} {held : Bool} {t e : TypeId} {fuel : Nat} {v : Value} {x : DataW H × List MemPlace}
    (he : P.underlying t = some (.slice e)) (h : DataW.trod enc P w base spare held fuel t [v] = some x) :
    ∃ (a : Option Addr) (len cap : Nat) (D : List (DataW H)), v = .slice a len cap ∧ len ≤ cap ∧ cap ≤ maxLen ∧ D.length = len ∧ Rows.uptoBulkAll D + 1 ≤ Rows.uptoBulk x.1 ∧
      ∀ i, i < len → ∃ ad n cs y, a = some ad ∧ n < fuel ∧ w.cells? base (ad.add (i * P.cellsOf e)) (P.cellsOf e) = some cs ∧ DataW.trod enc P w base spare held n e cs = some y ∧ D[i]? = some y.1 := by
  rcases DataW.trod_slice he h with ⟨hc, hx⟩ | ⟨a, len, cap, elems, rest, n, hn, hcs, hx, hb, hl, hm, hlen, hel, _⟩
  · simp only [List.cons.injEq, and_true] at hc
    exact ⟨none, 0, 0, [], hc, by omega, by simp [maxLen], rfl, by rw [hx]; simp [Rows.uptoBulk, Rows.uptoBulkAll], fun i hi => by omega⟩
  · simp only [List.cons.injEq, and_true] at hcs
    refine ⟨some a, len, cap, elems.map (·.1), hcs, hl, hm, by simpa using hlen, by rw [hx]; simp only [Rows.uptoBulk]; omega, fun i hi => ?_⟩
    have h1 := hel i hi
    obtain ⟨y, hy⟩ : ∃ y, elems[i]? = some y := ⟨_, List.getElem?_eq_getElem (by omega)⟩
    rw [hy] at h1
    cases hq : w.cells? base (a.add (i * P.cellsOf e)) (P.cellsOf e) with
    | none => rw [hq] at h1; simp at h1
    | some cs => rw [hq] at h1; exact ⟨a, n, cs, y, rfl, by omega, hq, by simpa using h1, by rw [List.getElem?_map, hy]; rfl⟩
theorem len_bulk {H : Type} {enc : TypeId × Value → H} {P : Program} {w : World} {base : Nat} {spare : Nat → Bool} {held : Bool} {t e : TypeId} {fuel : Nat} {a : Option Addr} {len cap : Nat} {x : DataW H × List MemPlace}
    (he : P.underlying t = some (.slice e)) (h : DataW.trod enc P w base spare held fuel t [.slice a len cap] = some x) : len ≤ Rows.uptoBulk x.1 := by
  obtain ⟨a', len', cap', D, e', _, _, hD, hb, _⟩ := slice_bulk he h
  simp only [Value.slice.injEq] at e'
  have := bulk_len D; omega
theorem fld2 {H : Type} {enc : TypeId × Value → H} {P : Program} {w : World} {base : Nat} {spare : Nat → Bool} {held : Bool} {n : Nat} {cs : List Value} {fs : Array Field} {xs : List (DataW H × List MemPlace)} (hx : xs.length = fs.size)
    (hf : ∀ (i : Nat) (f : Field), fs[i]? = some f → DataW.trod enc P w base spare held n f.type ((cs.drop f.offset).take (P.cellsOf f.type)) = xs[i]?) (i : Nat) {f : Field} (hi : fs[i]? = some f) {c : Nat} (hc : P.cellsOf f.type = c) {ds : List Value} (hd : (cs.drop f.offset).take c = ds) {t : TypeId} (ht : f.type = t) :
    ∃ y, xs[i]? = some y ∧ DataW.trod enc P w base spare held n t ds = some y := by
  subst ht hd hc
  have hlt := (Array.getElem?_eq_some_iff.1 hi).1
  obtain ⟨y, hy⟩ : ∃ y, xs[i]? = some y := ⟨_, List.getElem?_eq_getElem (by omega)⟩
  exact ⟨y, hy, by rw [hf i f hi, hy]⟩
/-- The elements of a slice, each of which is told from its cells, with a number for each. -/
theorem rows_bulk {H : Type} {enc : TypeId × Value → H} {P : Program} {w : World} {base : Nat} {spare : Nat → Bool} {held : Bool} {e : TypeId} {fuel len c : Nat} {a : Option Addr} {α : Type} (Q : α → Nat → Nat → Prop) (g : α → Nat) (D : List (DataW H)) (hD : D.length = len) (hc : 0 < c)
    (hi : ∀ i, i < len → ∃ ad n cs y, a = some ad ∧ n < fuel ∧ w.cells? base (ad.add (i * c)) c = some cs ∧ DataW.trod enc P w base spare held n e cs = some y ∧ D[i]? = some y.1)
    (hel : ∀ n cs y, n < fuel → cs.length = c → DataW.trod enc P w base spare held n e cs = some y → ∃ x : α, g x ≤ Rows.uptoBulk y.1 ∧ ∀ b o, b < w.heap.size → (∀ j v, cs[j]? = some v → w.cell? ⟨b, o + j, none⟩ = some v) → Q x b o) :
    ∃ xs : List α, xs.length = len ∧ (xs = [] ∨ ∃ b o, a = some ⟨b, o, none⟩ ∧ b < w.heap.size ∧ ∀ j x, xs[j]? = some x → Q x b (o + j * c)) ∧ (∀ x ∈ xs, ∃ b o, Q x b o) ∧ sumBy g xs ≤ Rows.uptoBulkAll D := by
  have each : ∀ i, i < len → ∃ x : α, (∃ b o, a = some ⟨b, o, none⟩ ∧ b < w.heap.size ∧ Q x b (o + i * c)) ∧ ∀ d, D[i]? = some d → g x ≤ Rows.uptoBulk d := by
    intro i hin
    obtain ⟨ad, n, cs, y, rfl, hn, hcs, ht, hdi⟩ := hi i hin
    obtain ⟨ad0, n0, cs0, y0, e0, _, hcs0, ht0, _⟩ := hi 0 (by omega)
    obtain rfl := Option.some.inj e0
    obtain ⟨_, hl, hat⟩ := World.cells?_some hcs
    obtain ⟨_, hl0, hat0⟩ := World.cells?_some hcs0
    have h0 := hat0 0 hc
    rw [Nat.zero_mul, add_zero', add_zero', List.getElem?_eq_getElem (by omega)] at h0
    obtain ⟨e1, e2⟩ := addr_of_cell h0
    obtain ⟨x, hg, hx⟩ := hel n cs y hn hl ht
    rw [e1] at hat
    simp only [add_block] at hat
    refine ⟨x, ⟨ad.block, ad.off, by rw [← e1], e2, hx _ _ e2 (fun j v hj => by
      have hj' : j < c := by rw [← hl]; exact (List.getElem?_eq_some_iff.1 hj).1
      rw [hat j hj', hj])⟩, fun d hd => ?_⟩
    rw [hdi] at hd
    rw [← Option.some.inj hd]; exact hg
  obtain ⟨xs, hn, hxs⟩ := choose_list _ len each
  refine ⟨xs, hn, ?_, fun x hx => ?_, sum_bulk g xs D (by omega) (fun j x d hx hd => (hxs j x hx).2 d hd)⟩
  · cases xs with
    | nil => exact .inl rfl
    | cons x0 r =>
      obtain ⟨⟨b, o, rfl, hb, _⟩, _⟩ := hxs 0 x0 rfl
      refine .inr ⟨b, o, rfl, hb, fun j x hj => ?_⟩
      obtain ⟨⟨b', o', e, _, hq⟩, _⟩ := hxs j x hj
      simp only [Option.some.injEq, Addr.mk.injEq, and_true] at e
      obtain ⟨rfl, rfl⟩ := e
      exact hq
  · obtain ⟨i, hi'⟩ := List.mem_iff_getElem?.1 hx
    obtain ⟨⟨b, o, _, _, hq⟩, _⟩ := hxs i x hi'
    exact ⟨_, _, hq⟩

theorem vls_len {B : Nat → Prop} {w : World} {a : Option Addr} {n c : Nat} {vs : List Vl} (h : VlSl B w (.slice a n c) vs) : vs.length = n := by
  obtain ⟨pa, len, cap, e, hl, _⟩ := h.open
  simp only [Value.slice.injEq] at e
  rw [← hl.out]; exact e.2.1.symm
theorem nmss_sum (l : List Pr) : Pr.nmss l = sumBy Pr.nms l := by
  induction l with
  | nil => rfl
  | cons p r ih => rw [Pr.nmss, sumBy, ih]

set_option maxRecDepth 100000 in
theorem pr_open2 {H : Type} {enc : TypeId × Value → H} {W : World} {base : Nat} {spare : Nat → Bool} {held : Bool} : ∀ (fuel : Nat) (cs : List Value) (x : DataW H × List MemPlace), DataW.trod enc Tryd.prog W base spare held fuel 36 cs = some x →
    ∃ p lv av tl tk kv, cs = prCells p lv av tl tk kv ∧ p.fine ∧ PLies W (.agg (prCells p lv av tl tk kv).toArray) p ∧ p.nms ≤ Rows.uptoBulk x.1 := by
  intro fuel
  induction fuel using Nat.strongRecOn with
  | _ fuel ih =>
  intro cs x h
  obtain ⟨ys, n', hn', hD, hcl, hyl, hf⟩ := DataW.trod_struct Tryd.underlying36 h
  rw [procCellsOf] at hcl
  obtain ⟨a0, a1, a2, a3, a4, a5, a6, a7, a8, a9, a10, a11, rfl⟩ := list12 hcl
  obtain ⟨y0, z0, t0⟩ := fld2 hyl hf 0 rfl (c := 1) (by kernel_rfl) (ds := [a0]) rfl (t := 3) rfl
  obtain ⟨y1, z1, t1⟩ := fld2 hyl hf 1 rfl (c := 1) (by kernel_rfl) (ds := [a1]) rfl (t := 9) rfl
  obtain ⟨y2, z2, t2⟩ := fld2 hyl hf 2 rfl (c := 1) (by kernel_rfl) (ds := [a2]) rfl (t := 9) rfl
  obtain ⟨y3, z3, t3⟩ := fld2 hyl hf 3 rfl (c := 1) (by kernel_rfl) (ds := [a3]) rfl (t := 22) rfl
  obtain ⟨y4, z4, t4⟩ := fld2 hyl hf 4 rfl (c := 1) (by kernel_rfl) (ds := [a4]) rfl (t := 33) rfl
  obtain ⟨y5, z5, t5⟩ := fld2 hyl hf 5 rfl (c := 6) (by kernel_rfl) (ds := [a5, a6, a7, a8, a9, a10]) rfl (t := 25) rfl
  obtain ⟨y6, z6, t6⟩ := fld2 hyl hf 6 rfl (c := 1) (by kernel_rfl) (ds := [a11]) rfl (t := 34) rfl
  obtain ⟨k, hk, _, wk⟩ := DataW.trod_int Tryd.underlying3 t0
  obtain ⟨c, hc, _, hcz⟩ := DataW.trod_string Tryd.underlying9 t1
  obtain ⟨xv, hxv, _, hxz⟩ := DataW.trod_string Tryd.underlying9 t2
  simp only [List.cons.injEq, and_true] at hk hc hxv
  subst hk hc hxv
  obtain ⟨ls, hls⟩ := strs_open t3
  obtain ⟨vs, hvs⟩ := vls_open t4
  have hvl : vs.length ≤ Rows.uptoBulk y4.1 := by
    obtain ⟨pa, len, cap, e, hl, _⟩ := hvs.open
    subst e
    have := len_bulk Tryd.underlying33 t4
    rw [hl.out] at this; exact this
  obtain ⟨t, tl, tk, et, hft, hlt⟩ := ty_open _ _ _ t5
  simp only [tyCells, List.cons.injEq, and_true] at et
  obtain ⟨rfl, rfl, rfl, rfl, rfl, rfl⟩ := et
  obtain ⟨a, len, cap, D, rfl, hl, hm, hDl, hDb, hi⟩ := slice_bulk Tryd.underlying34 t6
  rw [procCellsOf] at hi
  obtain ⟨ps, hn, hrow, hall, hsum⟩ := rows_bulk (fun (p : Pr) b o => p.fine ∧ PrAt (fun k => k < W.heap.size) W p b o) Pr.nms D hDl (by omega) hi (fun n cs y hn _ ht => by
    obtain ⟨p, lv, av, tl, tk, kv, rfl, hfine, hlies, hbk⟩ := ih n (by omega) cs y ht
    exact ⟨p, hbk, fun b o hb hc => ⟨hfine, prAt_of hb (hc 0 _ rfl) (hc 1 _ rfl) (hc 2 _ rfl) (hc 3 _ rfl) (hc 4 _ rfl) (hc 5 _ rfl) (hc 6 _ rfl) (hc 7 _ rfl) (hc 8 _ rfl) (hc 9 _ rfl) (hc 10 _ rfl) (hc 11 _ rfl) hlies⟩⟩)
  refine ⟨.mk k c xv ls vs t ps, a3, a4, a9, a10, .slice a len cap, rfl, ⟨wf_in wk, hft, Pr.fines_of ps (fun u hu => ?_)⟩, ⟨_, _, _, _, _, rfl, ⟨hcz, hxz⟩, hls, hvs, hlt, ?_, by show ps.length ≤ _; omega⟩, ?_⟩
  · obtain ⟨b, o, hq⟩ := hall u hu
    exact hq.1
  · show _ ∨ _
    rcases hrow with rfl | ⟨b, o, rfl, hb, hrow⟩
    · exact .inl ⟨⟨a, cap, by rw [← hn]; rfl⟩, rfl⟩
    · exact .inr ⟨b, o, cap, by show Value.slice _ _ _ = Value.slice _ ps.length _; rw [hn], hb, prsAt_of (fun i p hi' => (hrow i p hi').2)⟩
  · have hys : ys.length = 7 := hyl
    obtain ⟨b0, b1, b2, b3, b4, b5, b6, rfl⟩ := list7 hys
    simp at z0 z1 z2 z3 z4 z5 z6
    subst z0 z1 z2 z3 z4 z5 z6
    rw [hD]
    rw [Pr.nms_eq]
    simp only [Pr.vs, Pr.ps, nmss_sum, List.map_cons, List.map_nil, Rows.uptoBulk, Rows.uptoBulkAll]
    have := bulk_pos b0.1
    omega

set_option maxRecDepth 100000 in
/-- A process that came in, and how many names it has. -/
theorem proc_open2 {H : Type} {enc : TypeId × Value → H} {W : World} {base : Nat} {spare : Nat → Bool} {held : Bool} {v : Value} {d : DataW H} {p : List MemPlace} {b0 : Nat} (hv : Value.okWide Tryd.prog W .any b0 36 v) (h : DataW.Trod enc Tryd.prog W base spare held 36 v d p) :
    ∃ t, t.fine ∧ PLies W v t ∧ t.nms ≤ Rows.uptoBulk d := by
  obtain ⟨fuel, hf⟩ := h
  unfold Value.okWide at hv
  rw [Tryd.underlying36] at hv
  obtain ⟨cs, rfl, _, _⟩ := hv
  obtain ⟨t, lv, av, tl, tk, kv, e, hfine, hl, hb⟩ := pr_open2 fuel _ _ hf
  have e' : cs.toList = prCells t lv av tl tk kv := e
  have : cs = (prCells t lv av tl tk kv).toArray := by rw [← e']
  rw [this]
  exact ⟨t, hfine, hl, hb⟩

end Go.Proofs.YtipjjhkgcbabnaaDoor

/- Processes that came in as arguments: how long their lists are at most. -/
namespace Go.Proofs.YtipjjhkgcbabnaaDoor
open Go.ChangeShapes Go.WideShapes Go.ChangeAt Go.RowKit Go.Deep

theorem tylens_sum (l : List Ty) : Ty.lenss l = sumBy Ty.lens l := by
  induction l with
  | nil => rfl
  | cons p r ih => rw [Ty.lenss, sumBy, ih]
theorem prlens_sum (l : List Pr) : Pr.lenss l = sumBy Pr.lens l := by
  induction l with
  | nil => rfl
  | cons p r ih => rw [Pr.lenss, sumBy, ih]
theorem list6 {α : Type} {l : List α} (h : l.length = 6) : ∃ a0 a1 a2 a3 a4 a5, l = [a0, a1, a2, a3, a4, a5] := by
  match l, h with
  | [a0, a1, a2, a3, a4, a5], _ => exact ⟨_, _, _, _, _, _, rfl⟩

set_option maxRecDepth 100000 in
theorem ty_open2 {H : Type} {enc : TypeId × Value → H} {W : World} {base : Nat} {spare : Nat → Bool} {held : Bool} : ∀ (fuel : Nat) (cs : List Value) (x : DataW H × List MemPlace), DataW.trod enc Tryd.prog W base spare held fuel 25 cs = some x →
    ∃ t lv kv, cs = tyCells t lv kv ∧ (t.fine ∧ t.pin) ∧ Lies W (.agg (tyCells t lv kv).toArray) t ∧ t.lens ≤ Rows.uptoBulk x.1 := by
  intro fuel
  induction fuel using Nat.strongRecOn with
  | _ fuel ih =>
  intro cs x h
  obtain ⟨ys, n', hn', hD, hcl, hyl, hf⟩ := DataW.trod_struct Tryd.underlying25 h
  rw [tyCellsOf] at hcl
  obtain ⟨a0, a1, a2, a3, a4, a5, rfl⟩ := list6 hcl
  obtain ⟨y0, z0, t0⟩ := fld2 hyl hf 0 rfl (c := 1) (by kernel_rfl) (ds := [a0]) rfl (t := 3) rfl
  obtain ⟨y1, z1, t1⟩ := fld2 hyl hf 1 rfl (c := 1) (by kernel_rfl) (ds := [a1]) rfl (t := 3) rfl
  obtain ⟨y2, z2, t2⟩ := fld2 hyl hf 2 rfl (c := 1) (by kernel_rfl) (ds := [a2]) rfl (t := 9) rfl
  obtain ⟨y3, z3, t3⟩ := fld2 hyl hf 3 rfl (c := 1) (by kernel_rfl) (ds := [a3]) rfl (t := 3) rfl
  obtain ⟨y4, z4, t4⟩ := fld2 hyl hf 4 rfl (c := 1) (by kernel_rfl) (ds := [a4]) rfl (t := 22) rfl
  obtain ⟨y5, z5, t5⟩ := fld2 hyl hf 5 rfl (c := 1) (by kernel_rfl) (ds := [a5]) rfl (t := 23) rfl
  obtain ⟨k, hk, _, wk⟩ := DataW.trod_int Tryd.underlying3 t0
  obtain ⟨p, hp, _, wp⟩ := DataW.trod_int Tryd.underlying3 t1
  obtain ⟨nm, hnm, _, hnz⟩ := DataW.trod_string Tryd.underlying9 t2
  obtain ⟨s, hs, _, _⟩ := DataW.trod_int Tryd.underlying3 t3
  simp only [List.cons.injEq, and_true] at hk hp hnm hs
  subst hk hp hnm hs
  obtain ⟨ls, hls⟩ := strs_open t4
  have hll : ls.length ≤ Rows.uptoBulk y4.1 := by
    obtain ⟨pa, len, cap, e, hl, _⟩ := hls.open
    subst e
    have := len_bulk Tryd.underlying22 t4
    rw [hl.out] at this; exact this
  obtain ⟨a, len, cap, D, rfl, hl, hm, hDl, hDb, hi⟩ := slice_bulk Tryd.underlying23 t5
  rw [tyCellsOf] at hi
  obtain ⟨ts, hn, hrow, hall, hsum⟩ := rows_bulk (fun (t : Ty) b o => (t.fine ∧ t.pin) ∧ TyAt (fun k => k < W.heap.size) W t b o) Ty.lens D hDl (by omega) hi (fun n cs y hn _ ht => by
    obtain ⟨t, lv, kv, rfl, hfine, hlies, hbk⟩ := ih n (by omega) cs y ht
    exact ⟨t, hbk, fun b o hb hc => ⟨hfine, tyAt_of hb (hc 0 _ rfl) (hc 1 _ rfl) (hc 2 _ rfl) (hc 3 _ rfl) (hc 4 _ rfl) (hc 5 _ rfl) hlies⟩⟩)
  refine ⟨.mk k p nm s ls ts, a4, .slice a len cap, rfl, ⟨⟨wf_in wk, ?_⟩, wf_in wp, Ty.pins_of ts (fun u hu => by obtain ⟨b, o, hq⟩ := hall u hu; exact hq.1.2)⟩, ⟨_, _, rfl, hnz, hls, ?_, by show ts.length ≤ _; omega⟩, ?_⟩
  · have : ∀ l : List Ty, (∀ u ∈ l, u.fine) → Ty.fines l := by
      intro l
      induction l with
      | nil => intro _; simp only [Ty.fines]
      | cons u r ihl => intro hu; simp only [Ty.fines]; exact ⟨hu u (by simp), ihl (fun y hy => hu y (by simp [hy]))⟩
    exact this ts (fun u hu => by obtain ⟨b, o, hq⟩ := hall u hu; exact hq.1.1)
  · show _ ∨ _
    rcases hrow with rfl | ⟨b, o, rfl, hb, hrow⟩
    · exact .inl ⟨⟨a, cap, by rw [← hn]; rfl⟩, rfl⟩
    · exact .inr ⟨b, o, cap, by show Value.slice _ _ _ = Value.slice _ ts.length _; rw [hn], hb, tysAt_of (fun i p hi' => (hrow i p hi').2)⟩
  · have hys : ys.length = 6 := hyl
    obtain ⟨b0, b1, b2, b3, b4, b5, rfl⟩ := list6 hys
    simp at z0 z1 z2 z3 z4 z5
    subst z0 z1 z2 z3 z4 z5
    rw [hD]
    simp only [Ty.lens, tylens_sum, List.map_cons, List.map_nil, Rows.uptoBulk, Rows.uptoBulkAll]
    omega

set_option maxRecDepth 100000 in
theorem pr_open3 {H : Type} {enc : TypeId × Value → H} {W : World} {base : Nat} {spare : Nat → Bool} {held : Bool} : ∀ (fuel : Nat) (cs : List Value) (x : DataW H × List MemPlace), DataW.trod enc Tryd.prog W base spare held fuel 36 cs = some x →
    ∃ p lv av tl tk kv, cs = prCells p lv av tl tk kv ∧ (p.fine ∧ p.pin) ∧ PLies W (.agg (prCells p lv av tl tk kv).toArray) p ∧ p.lens ≤ Rows.uptoBulk x.1 := by
  intro fuel
  induction fuel using Nat.strongRecOn with
  | _ fuel ih =>
  intro cs x h
  obtain ⟨ys, n', hn', hD, hcl, hyl, hf⟩ := DataW.trod_struct Tryd.underlying36 h
  rw [procCellsOf] at hcl
  obtain ⟨a0, a1, a2, a3, a4, a5, a6, a7, a8, a9, a10, a11, rfl⟩ := list12 hcl
  obtain ⟨y0, z0, t0⟩ := fld2 hyl hf 0 rfl (c := 1) (by kernel_rfl) (ds := [a0]) rfl (t := 3) rfl
  obtain ⟨y1, z1, t1⟩ := fld2 hyl hf 1 rfl (c := 1) (by kernel_rfl) (ds := [a1]) rfl (t := 9) rfl
  obtain ⟨y2, z2, t2⟩ := fld2 hyl hf 2 rfl (c := 1) (by kernel_rfl) (ds := [a2]) rfl (t := 9) rfl
  obtain ⟨y3, z3, t3⟩ := fld2 hyl hf 3 rfl (c := 1) (by kernel_rfl) (ds := [a3]) rfl (t := 22) rfl
  obtain ⟨y4, z4, t4⟩ := fld2 hyl hf 4 rfl (c := 1) (by kernel_rfl) (ds := [a4]) rfl (t := 33) rfl
  obtain ⟨y5, z5, t5⟩ := fld2 hyl hf 5 rfl (c := 6) (by kernel_rfl) (ds := [a5, a6, a7, a8, a9, a10]) rfl (t := 25) rfl
  obtain ⟨y6, z6, t6⟩ := fld2 hyl hf 6 rfl (c := 1) (by kernel_rfl) (ds := [a11]) rfl (t := 34) rfl
  obtain ⟨k, hk, _, wk⟩ := DataW.trod_int Tryd.underlying3 t0
  obtain ⟨c, hc, _, hcz⟩ := DataW.trod_string Tryd.underlying9 t1
  obtain ⟨xv, hxv, _, hxz⟩ := DataW.trod_string Tryd.underlying9 t2
  simp only [List.cons.injEq, and_true] at hk hc hxv
  subst hk hc hxv
  obtain ⟨ls, hls⟩ := strs_open t3
  obtain ⟨vs, hvs⟩ := vls_open t4
  have hvl : vs.length ≤ Rows.uptoBulk y4.1 := by
    obtain ⟨pa, len, cap, e, hl, _⟩ := hvs.open
    subst e
    have := len_bulk Tryd.underlying33 t4
    rw [hl.out] at this; exact this
  have hll : ls.length ≤ Rows.uptoBulk y3.1 := by
    obtain ⟨pa, len, cap, e, hl, _⟩ := hls.open
    subst e
    have := len_bulk Tryd.underlying22 t3
    rw [hl.out] at this; exact this
  obtain ⟨t, tl, tk, et, hft, hlt, htb⟩ := ty_open2 _ _ _ t5
  simp only [tyCells, List.cons.injEq, and_true] at et
  obtain ⟨rfl, rfl, rfl, rfl, rfl, rfl⟩ := et
  obtain ⟨a, len, cap, D, rfl, hl, hm, hDl, hDb, hi⟩ := slice_bulk Tryd.underlying34 t6
  rw [procCellsOf] at hi
  obtain ⟨ps, hn, hrow, hall, hsum⟩ := rows_bulk (fun (p : Pr) b o => (p.fine ∧ p.pin) ∧ PrAt (fun k => k < W.heap.size) W p b o) Pr.lens D hDl (by omega) hi (fun n cs y hn _ ht => by
    obtain ⟨p, lv, av, tl, tk, kv, rfl, hfine, hlies, hbk⟩ := ih n (by omega) cs y ht
    exact ⟨p, hbk, fun b o hb hc => ⟨hfine, prAt_of hb (hc 0 _ rfl) (hc 1 _ rfl) (hc 2 _ rfl) (hc 3 _ rfl) (hc 4 _ rfl) (hc 5 _ rfl) (hc 6 _ rfl) (hc 7 _ rfl) (hc 8 _ rfl) (hc 9 _ rfl) (hc 10 _ rfl) (hc 11 _ rfl) hlies⟩⟩)
  refine ⟨.mk k c xv ls vs t ps, a3, a4, a9, a10, .slice a len cap, rfl, ⟨⟨wf_in wk, hft.1, Pr.fines_of ps (fun u hu => ?_)⟩, hft.2, Pr.pins_of ps (fun u hu => by obtain ⟨b, o, hq⟩ := hall u hu; exact hq.1.2)⟩, ⟨_, _, _, _, _, rfl, ⟨hcz, hxz⟩, hls, hvs, hlt, ?_, by show ps.length ≤ _; omega⟩, ?_⟩
  · obtain ⟨b, o, hq⟩ := hall u hu
    exact hq.1.1
  · show _ ∨ _
    rcases hrow with rfl | ⟨b, o, rfl, hb, hrow⟩
    · exact .inl ⟨⟨a, cap, by rw [← hn]; rfl⟩, rfl⟩
    · exact .inr ⟨b, o, cap, by show Value.slice _ _ _ = Value.slice _ ps.length _; rw [hn], hb, prsAt_of (fun i p hi' => (hrow i p hi').2)⟩
  · have hys : ys.length = 7 := hyl
    obtain ⟨b0, b1, b2, b3, b4, b5, b6, rfl⟩ := list7 hys
    simp at z0 z1 z2 z3 z4 z5 z6
    subst z0 z1 z2 z3 z4 z5 z6
    rw [hD]
    simp only [Pr.lens, prlens_sum, List.map_cons, List.map_nil, Rows.uptoBulk, Rows.uptoBulkAll]
    omega

set_option maxRecDepth 100000 in
/-- A process that came in, and how long its lists are. -/
theorem proc_open3 {H : Type} {enc : TypeId × Value → H} {W : World} {base : Nat} {spare : Nat → Bool} {held : Bool} {v : Value} {d : DataW H} {p : List MemPlace} {b0 : Nat} (hv : Value.okWide Tryd.prog W .any b0 36 v) (h : DataW.Trod enc Tryd.prog W base spare held 36 v d p) :
    ∃ t, (t.fine ∧ t.pin) ∧ PLies W v t ∧ t.lens ≤ Rows.uptoBulk d := by
  obtain ⟨fuel, hf⟩ := h
  unfold Value.okWide at hv
  rw [Tryd.underlying36] at hv
  obtain ⟨cs, rfl, _, _⟩ := hv
  obtain ⟨t, lv, av, tl, tk, kv, e, hfine, hl, hb⟩ := pr_open3 fuel _ _ hf
  have e' : cs.toList = prCells t lv av tl tk kv := e
  have : cs = (prCells t lv av tl tk kv).toArray := by rw [← e']
  rw [this]
  exact ⟨t, hfine, hl, hb⟩

end Go.Proofs.YtipjjhkgcbabnaaDoor
