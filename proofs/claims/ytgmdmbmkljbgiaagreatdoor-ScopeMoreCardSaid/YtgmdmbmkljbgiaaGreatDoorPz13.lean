/- Processes: the reference's uses. (and what follows from it) -/
import Derived.Test.YtgmdmbmkljbgiaaGreatDoorPz9
import Derived.Test.YtgmdmbmkljbgiaaGreatDoorPz4
import Derived.Test.YtgmdmbmkljbgiaaGreatDoorPz3
import Derived.Test.YtgmdmbmkljbgiaaGreatDoorPz5
import Derived.Test.YtgmdmbmkljbgiaaGreatDoorPz7
import Derived.Deep.Cut
import Derived.Deep.RegionHeld3

/- Processes: the reference's uses. -/
namespace Go.Proofs.YtgmdmbmkljbgiaaGreatDoor
open Go.RowKit Go.Deep Go.Shelf

abbrev box12 (w : World) (p : Pr) (lv av tl tk kv : Value) : World := w.alloc (cell12 p lv av tl tk kv)
/-- What is asked of the reference's walk at a node. -/
def UsesP (p : Pr) : Prop := ∀ (v bv : Value) (bd : List ByteArray) (w : World), PLies w v p → SLies w bv bd → p.nms ≤ 900000000 → bd.length + 2 * p.depth ≤ 1000000 →
  Calls Tryz.prog 30 #[v, bv] w (StrRet w (p.uses bd))
def bnd3 (p : Pr) (bd : List ByteArray) : List ByteArray := if p.k = 3 then bd ++ [p.x] else bd
theorem bnd3_yes {p : Pr} {bd : List ByteArray} (h : p.k = 3) : bnd3 p bd = bd ++ [p.x] := if_pos h
theorem bnd3_no {p : Pr} {bd : List ByteArray} (h : p.k ≠ 3) : bnd3 p bd = bd := if_neg h
theorem bnd_6 {p : Pr} {bd : List ByteArray} (h : p.k = 6) : bd ++ p.bnd = bnd3 p bd ++ [p.c, p.x] := by unfold Pr.bnd bnd3; rw [h]; simp
theorem bnd_not6 {p : Pr} {bd : List ByteArray} (h : p.k ≠ 6) : bd ++ p.bnd = bnd3 p bd := by
  unfold Pr.bnd bnd3
  by_cases h3 : p.k = 3
  · rw [if_pos h3, if_pos h3]
  · rw [if_neg h3, if_neg h, if_neg h3, List.append_nil]
theorem StrSl.low {B : Nat → Prop} {w : World} {v : Value} {ls : List ByteArray} (h : StrSl B w v ls) : StrSl (fun k => B k ∧ k < w.heap.size) w v ls := by
  refine ⟨?_, h.2⟩
  rcases h.1 with h1 | ⟨b, o, c, rfl, hb, hc, hrow⟩
  · exact .inl h1
  · cases ls with
    | nil => exact .inl ⟨⟨_, _, rfl⟩, rfl⟩
    | cons s r => exact .inr ⟨b, o, c, rfl, ⟨hb, World.block_lt_of_cell? w _ (hrow 0 s rfl)⟩, hc, hrow⟩
theorem keeps_grown {B : Nat → Prop} {w w' : World} {row : Option Nat} (hg : w.grownBy w' row) (h : ∀ k, B k → k < w.heap.size ∧ some k ≠ row) : Keeps B w w' := fun k _ hk ho _ => (hg.block k (h k hk).1 (h k hk).2).trans ho
theorem strSl_two {W : World} {b : Nat} {n m : ByteArray} (h : W.cell? ⟨b, 0, none⟩ = some (.string n)) (h' : W.cell? ⟨b, 1, none⟩ = some (.string m)) (hn : n.size ≤ maxLen) (hm : m.size ≤ maxLen) : StrSl (fun _ => True) W (.slice (some ⟨b, 0, none⟩) 2 2) [n, m] :=
  ⟨.inr ⟨b, 0, 2, rfl, trivial, Nat.le_refl _, fun j s hj => by
    match j, hj with
    | 0, hj => simp at hj; subst hj; exact h
    | 1, hj => simp at hj; subst hj; exact h'
    | j + 2, hj => simp at hj⟩, by simp [maxLen], fun s hs => by simp at hs; rcases hs with rfl | rfl <;> assumption⟩
theorem bnd3_len (p : Pr) (bd : List ByteArray) : (bnd3 p bd).length ≤ bd.length + 1 := by unfold bnd3; split <;> simp

set_option maxHeartbeats 8000000 in
set_option maxRecDepth 100000 in
theorem uses_step (p : Pr) (ih : ∀ u ∈ p.ps, UsesP u) : UsesP p := by
  intro v bv bd w hv hb hn hd
  obtain ⟨lv, av, tl, tk, kv, rfl, ⟨hcz, hxz⟩, hl, ha, hty, hk⟩ := hv
  obtain ⟨ka, kn, kc, rfl, hkl, hkm, hkg⟩ := hk.open
  obtain ⟨aa, an, ac, rfl, hal, ham, hag⟩ := ha.open
  have hb' := hb
  obtain ⟨ba, bn, bc, rfl, hbl, hbm, hbg⟩ := StrSl.open hb'
  have hbx : Below w.heap.size w (box12 w p lv (.slice aa an ac) tl tk (.slice ka kn kc)) := blkBelow w _ _
  have CE : Hid (∀ W, Below (w.heap.size + 1) (box12 w p lv (.slice aa an ac) tl tk (.slice ka kn kc)) W → W.cell? ⟨w.heap.size, 0, none⟩ = some (.int .i64 p.k) ∧ W.cell? ⟨w.heap.size, 1, none⟩ = some (.string p.c) ∧ W.cell? ⟨w.heap.size, 2, none⟩ = some (.string p.x) ∧ W.cell? ⟨w.heap.size, 4, none⟩ = some (.slice aa an ac) ∧ W.cell? ⟨w.heap.size, 11, none⟩ = some (.slice ka kn kc)) :=
    Lib.hid (fun W hW => ⟨blk_cell hW 0 rfl, blk_cell hW 1 rfl, blk_cell hW 2 rfl, blk_cell hW 4 rfl, blk_cell hW 11 rfl⟩)
  have HLow : Hid (∀ W, Below (w.heap.size + 1) (box12 w p lv (.slice aa an ac) tl tk (.slice ka kn kc)) W → Below w.heap.size w W) := Lib.hid (fun W hW => blk_below hW)
  have HAG : Hid (∀ (i : Nat) (a : Vl), p.vs[i]? = some a → a.n.size ≤ maxLen ∧ ∃ gb go, aa = some ⟨gb, go, none⟩ ∧ gb < w.heap.size ∧ ∀ W, Below w.heap.size w W → W.cell? ⟨gb, go + i * 3, none⟩ = some (.int .i64 a.k) ∧ W.cell? ⟨gb, go + i * 3 + 1, none⟩ = some (.string a.n)) := Lib.hid (fun i a hi => by
    obtain ⟨h1, gb, go, e, hgb, q0, q1, q2⟩ := hag i a hi
    exact ⟨h1, gb, go, e, hgb, fun W hW => ⟨(hW.cell (p := ⟨gb, _, none⟩) hgb).trans q0, (hW.cell (p := ⟨gb, _, none⟩) hgb).trans q1⟩⟩)
  have HKG : Hid (∀ (i : Nat) (u : Pr), p.ps[i]? = some u → ∃ gb go, ka = some ⟨gb, go, none⟩ ∧ gb < w.heap.size ∧ ∀ W, Below w.heap.size w W → PrAt (fun k => k < w.heap.size) W u gb (go + i * 12)) := Lib.hid (fun i u hi => by
    obtain ⟨gb, go, e, hgb, hu⟩ := hkg i u hi
    exact ⟨gb, go, e, hgb, fun W hW => PrAt.keep (hW.keeps'.mono (fun _ h => h)) _ _ _ hu⟩)
  have HBD : Hid (∀ W, Below w.heap.size w W → StrSl (fun k => k < w.heap.size) W (.slice ba bn bc) bd) := Lib.hid (fun W hW => StrSl.keep (hW.keeps'.mono (fun _ h => h)) hb)
  have HIH := Lib.hid ih
  have hnms := p.nms_eq
  have hdep := p.depth_eq
  have hown := p.ownT_len
  have hownl := p.own_len
  have HU : Hid (p.uses bd = keepF bd p.own ++ Pr.usess p.ps (bd ++ p.bnd)) := Lib.hid (p.uses_eq bd)
  have HN := Lib.hid (And.intro hnms (And.intro hdep (And.intro hn hd)))
  have HCX := Lib.hid (And.intro hcz hxz)
  have HAL := Lib.hid hal.out
  have HKL := Lib.hid hkl.out
  have HO := Lib.hid (And.intro hown hownl)
  have HBX := Lib.hid hbx
  have HB0 : Hid (Below (w.heap.size + 1) (box12 w p lv (.slice aa an ac) tl tk (.slice ka kn kc)) (box12 w p lv (.slice aa an ac) tl tk (.slice ka kn kc))) := Lib.hid (Below.refl _ _)
  obtain ⟨pb, hpb⟩ : ∃ b, prefixB p.k = b := ⟨_, rfl⟩
  have HPB := Lib.hid hpb
  have hpe := prefixB_eq p.k
  rw [hpb] at hpe
  have HPE := Lib.hid hpe
  have hO0 : Hid (p.ownT 0 = if pb then [p.c] else []) := Lib.hid (by unfold Pr.ownT; rw [hpb]; simp)
  clear hbx hb hb' hbg hbl hk hkg hkl ha hag hal hty hl ih hnms hdep hn hd hown hownl hcz hxz hpb hpe
  go_enter Tryz.func30, Tryz.ntmps30
  go_upto_region 2 with fail
  go_cut [17] from 10 (fun t wc => t = .bool pb ∧ wc = box12 w p lv (.slice aa an ac) tl tk (.slice ka kn kc))
  case first =>
    obtain ⟨c0, _, _, _, _⟩ := CE.out _ HB0.out
    by_cases k2 : 2 ≤ p.k
    · have k2' : decide (2 ≤ p.k) = true := by simpa using k2
      by_cases k5 : p.k ≤ 5
      · have k5' : decide (p.k ≤ 5) = true := by simpa using k5
        have hq : pb = true := by rw [HPE.out, k2', k5']; rfl
        subst hq
        go_wp2_with fail
        go_meet
        case rel => exact ⟨rfl, rfl⟩
      · have k5' : decide (p.k ≤ 5) = false := by simpa using k5
        have hq : pb = false := by rw [HPE.out, k2', k5']; rfl
        subst hq
        go_wp2_with fail
        go_meet
        case rel => exact ⟨rfl, rfl⟩
    · have k2' : decide (2 ≤ p.k) = false := by simpa using k2
      have hq : pb = false := by rw [HPE.out, k2']; rfl
      subst hq
      go_wp2_with fail
      go_meet
      case rel => exact ⟨rfl, rfl⟩
  case rest =>
    obtain ⟨rfl, rfl⟩ := hcut
    go_upto_if 17 with fail
    go_cut [5] from 10 (fun v wc => ∃ sa sn sc, v = .slice sa sn sc ∧ Hid (Row (w.heap.size + 1) wc (.slice sa sn sc) (p.ownT 0)) ∧ Hid (Below (w.heap.size + 1) (box12 w p lv (.slice aa an ac) tl tk (.slice ka kn kc)) wc))
    case first =>
      obtain ⟨_, c1, _, _, _⟩ := CE.out _ HB0.out
      cases pb
      · go_wp2_with fail
        go_meet
        case rel => exact ⟨_, _, _, rfl, Lib.hid (by rw [hO0.out]; exact Row.nil _ _), HB0⟩
      · have HSO : Hid (StrSl (Fresh (box12 w p lv (.slice aa an ac) tl tk (.slice ka kn kc)).heap.size ((box12 w p lv (.slice aa an ac) tl tk (.slice ka kn kc)).alloc (.cells #[.string p.c] 9)).heap.size) ((box12 w p lv (.slice aa an ac) tl tk (.slice ka kn kc)).alloc (.cells #[.string p.c] 9)) (.slice (some ⟨(box12 w p lv (.slice aa an ac) tl tk (.slice ka kn kc)).heap.size, 0, none⟩) 1 1) [p.c]) := Lib.hid (strSl_made [p.c] (Below.refl _ _) (fun s hs => by rw [List.mem_singleton.1 hs]; exact HCX.out.1) (by simp [maxLen]))
        rw [World.size_alloc] at HSO
        go_wp2_with (at_builtin; refine wpList_app rfl _ _ rfl (w.heap.size + 1) [] (.slice none 0 0) rfl (Row.nil _ _) _ _ _ _ [p.c] rfl HSO.out (by simp) (by simp) ?_; intro ga gn gc w2 hrow hgrow _)
        go_meet
        case rel => exact ⟨_, _, _, rfl, Lib.hid (by rw [hO0.out]; exact hrow), Lib.hid ((HB0.out.alloc (by simp) _).grown hgrow (by simp) (fun k e => by cases e))⟩
    case rest =>
      obtain ⟨sa, sn, sc, rfl, HR0, HB1⟩ := hcut
      go_wp2_with fail
      go_loopw [5, 6] (fun v i wr => ∃ (j : Nat) (a : Option Addr) (n c : Nat), i = .int .i64 j ∧ j ≤ an ∧ v = .slice a n c ∧ Hid (Row (w.heap.size + 1) wr (.slice a n c) (p.ownT j)) ∧ Hid (Below (w.heap.size + 1) (box12 w p lv (.slice aa an ac) tl tk (.slice ka kn kc)) wr)) (fun _ i _ => an - (intOf i).toNat)
      case atStart => exact ⟨0, _, _, _, rfl, by omega, rfl, HR0, HB1⟩
      case round =>
        obtain ⟨j, ga, gn, gc, rfl, hj, rfl, HR, HB⟩ := hrel
        obtain ⟨_, _, _, c4, _⟩ := CE.out _ HB.out
        have hz1 : w.heap.size + 1 ≤ wr.heap.size := by have := HB.out.size; simpa using this
        by_cases hlt : j < an
        · obtain ⟨a, hja⟩ : ∃ a, p.vs[j]? = some a := ⟨_, List.getElem?_eq_getElem (by rw [← HAL.out]; exact hlt)⟩
          obtain ⟨haz, gb, go', rfl, hgb, hcells⟩ := HAG.out j a hja
          obtain ⟨q0, q1⟩ := hcells wr (HLow.out _ HB.out)
          by_cases hk1 : a.k = 1
          · have HT := Lib.hid (Pr.ownT_yes hja hk1)
            rw [hk1] at q0
            have HSO : Hid (StrSl (Fresh wr.heap.size (wr.alloc (.cells #[.string a.n] 9)).heap.size) (wr.alloc (.cells #[.string a.n] 9)) (.slice (some ⟨wr.heap.size, 0, none⟩) 1 1) [a.n]) := Lib.hid (strSl_made [a.n] (Below.refl _ _) (fun s hs => by rw [List.mem_singleton.1 hs]; exact haz) (by simp [maxLen]))
            have HLN : Hid ((p.ownT j).length + [a.n].length ≤ 1000000000) := Lib.hid (by have := HO.out.1 j; have := HN.out; simp; omega)
            have HBS : Hid (w.heap.size + 1 ≤ (wr.alloc (.cells #[.string a.n] 9)).heap.size) := Lib.hid (by simp; omega)
            clear hja hk1 hcells haz
            go_wp2_with (at_builtin; refine wpList_app rfl _ _ rfl (w.heap.size + 1) (p.ownT j) (.slice ga gn gc) rfl (HR.out.alloc _) _ _ _ _ [a.n] rfl HSO.out HLN.out HBS.out ?_; intro ga' gn' gc' w2 hrow hgrow _; have HRW := Lib.hid hrow; have HGW := Lib.hid hgrow; clear hrow hgrow)
            go_roundw
            case rel => exact ⟨j + 1, _, _, _, by go_num, by omega, rfl, Lib.hid (by rw [HT.out]; exact HRW.out), Lib.hid ((HB.out.alloc (by omega) _).grown HGW.out (by simp; omega) (fun k e => ((HR.out.alloc (.cells #[.string a.n] 9)).lt k e).1))⟩
            case measure => simp [intOf]; omega
          · have HT := Lib.hid (Pr.ownT_no hja hk1)
            have hk1' : (a.k == 1) = false := by simpa using hk1
            clear hja hk1 hcells haz
            go_wp2_with fail
            go_roundw
            case rel => exact ⟨j + 1, _, _, _, by go_num, by omega, rfl, Lib.hid (by rw [HT.out]; exact HR.out), HB⟩
            case measure => simp [intOf]; omega
        · obtain rfl : an = j := by omega
          obtain ⟨w1, hw1⟩ : ∃ w1, w1 = wr := ⟨_, rfl⟩
          subst hw1
          have hall : p.ownT an = p.own := Pr.ownT_all (by rw [HAL.out]; exact Nat.le_refl _)
          have HRA : Hid (Row (w.heap.size + 1) w1 (.slice ga gn gc) p.own) := Lib.hid (by rw [← hall]; exact HR.out)
          obtain ⟨_, hS⟩ := HRA.out.strs (by have := HO.out.2; have := HN.out; unfold maxLen; omega)
          obtain ⟨pa1, len1, cap1, e1, hl1, hm1, hg1⟩ := StrSl.open hS
          simp only [Value.slice.injEq] at e1
          obtain ⟨rfl, rfl, rfl⟩ := e1
          have HOG : Hid (∀ i s, p.own[i]? = some s → s.size ≤ maxLen ∧ ∃ kb ko, ga = some ⟨kb, ko, none⟩ ∧ kb < w1.heap.size ∧ ∀ W, Below w1.heap.size w1 W → W.cell? ⟨kb, ko + i, none⟩ = some (.string s)) := Lib.hid (fun i s hi => by
            obtain ⟨h1, kb, ko, e, hkb, hc⟩ := hg1 i s hi
            exact ⟨h1, kb, ko, e, hkb.2, fun W hW => (hW.cell (p := ⟨kb, _, none⟩) hkb.2).trans hc⟩)
          have HGN := Lib.hid hl1.out
          have HBw1 : Hid (Below w1.heap.size w1 w1) := Lib.hid (Below.refl _ _)
          have hwb : ∀ W, Below w1.heap.size w1 W → Below (w.heap.size + 1) (box12 w p lv (.slice aa an ac) tl tk (.slice ka kn kc)) W := fun W hW => HB.out.trans (hW.mono hz1)
          have HWB := Lib.hid hwb
          clear hall hS hl1 hg1 hwb HR HAG HAL
          go_wp2_with fail
          clear c4
          go_loopw [7, 8] (fun v i wr => ∃ (m : Nat) (a : Option Addr) (n c : Nat), i = .int .i64 m ∧ m ≤ gn ∧ v = .slice a n c ∧ Hid (Row w1.heap.size wr (.slice a n c) (keepF bd (p.own.take m))) ∧ Hid (Below w1.heap.size w1 wr)) (fun _ i _ => gn - (intOf i).toNat)
          case atStart => exact ⟨0, _, _, _, rfl, by omega, rfl, Lib.hid (by simpa [keepF] using Row.nil w1.heap.size w1), HBw1⟩
          case round =>
            obtain ⟨m, fa, fn, fc, rfl, hm, rfl, HF, HC⟩ := hrel
            have hz2 : w1.heap.size ≤ wr.heap.size := HC.out.size
            by_cases hlt : m < gn
            · obtain ⟨s, hs⟩ : ∃ s, p.own[m]? = some s := ⟨_, List.getElem?_eq_getElem (by rw [← HGN.out]; exact hlt)⟩
              obtain ⟨hsz, kb, ko, rfl, hkb, hcl⟩ := HOG.out m s hs
              have q1 := hcl wr HC.out
              obtain ⟨mb, hmb⟩ : ∃ mb, memB s bd = mb := ⟨_, rfl⟩
              have HIN : Hid (Calls Tryz.prog 16 #[.string s, .slice ba bn bc] wr fun e w' => e = .returned (.bool mb) ∧ wr = w') := Lib.hid (by rw [← hmb]; exact prin_any _ s _ bd wr (HBD.out wr (HLow.out _ (HWB.out _ HC.out))))
              cases mb
              · have HT := Lib.hid (keepF_yes hs hmb)
                have HSO : Hid (StrSl (Fresh wr.heap.size (wr.alloc (.cells #[.string s] 9)).heap.size) (wr.alloc (.cells #[.string s] 9)) (.slice (some ⟨wr.heap.size, 0, none⟩) 1 1) [s]) := Lib.hid (strSl_made [s] (Below.refl _ _) (fun x hx => by rw [List.mem_singleton.1 hx]; exact hsz) (by simp [maxLen]))
                have HLN : Hid ((keepF bd (p.own.take m)).length + [s].length ≤ 1000000000) := Lib.hid (by have := keepF_len bd p.own m; have := HO.out.2; have := HN.out; simp; omega)
                have HBS : Hid (w1.heap.size ≤ (wr.alloc (.cells #[.string s] 9)).heap.size) := Lib.hid (by simp; omega)
                clear hs hsz hcl hmb
                go_wp2_with (first | (go_at_call 16; refine HIN.out.mono ?_; rintro e w' ⟨rfl, rfl⟩) | (at_builtin; refine wpList_app rfl _ _ rfl w1.heap.size (keepF bd (p.own.take m)) (.slice fa fn fc) rfl (HF.out.alloc _) _ _ _ _ [s] rfl HSO.out HLN.out HBS.out ?_; intro fa' fn' fc' w2 hrow hgrow _; have HRW := Lib.hid hrow; have HGW := Lib.hid hgrow; clear hrow hgrow))
                go_roundw
                case rel => exact ⟨m + 1, _, _, _, by go_num, by omega, rfl, Lib.hid (by rw [HT.out]; exact HRW.out), Lib.hid ((HC.out.alloc (by omega) _).grown HGW.out (by simp; omega) (fun k e => ((HF.out.alloc (.cells #[.string s] 9)).lt k e).1))⟩
                case measure => simp [intOf]; omega
              · have HT := Lib.hid (keepF_no hs hmb)
                clear hs hsz hcl hmb
                go_wp2_with (go_at_call 16; refine HIN.out.mono ?_; rintro e w' ⟨rfl, rfl⟩)
                go_roundw
                case rel => exact ⟨m + 1, _, _, _, by go_num, by omega, rfl, Lib.hid (by rw [HT.out]; exact HF.out), HC⟩
                case measure => simp [intOf]; omega
            · obtain rfl : gn = m := by omega
              obtain ⟨w2, hw2⟩ : ∃ w2, w2 = wr := ⟨_, rfl⟩
              subst hw2
              have HFA : Hid (Row w1.heap.size w2 (.slice fa fn fc) (keepF bd p.own)) := Lib.hid (by
                have h := HF.out
                rwa [List.take_of_length_le (by rw [HGN.out]; exact Nat.le_refl _)] at h)
              have hcl2 : ∀ W, Below w2.heap.size w2 W → Below w1.heap.size w1 W := fun W hW => HC.out.trans (hW.mono hz2)
              have HQa : Hid (Below w2.heap.size w2 w2) := Lib.hid (Below.refl _ _)
              have HL2 := Lib.hid hcl2
              have HBD2 : Hid (∀ W, Below w2.heap.size w2 W → StrSl (fun k => k < w.heap.size) W (.slice ba bn bc) bd) := Lib.hid (fun W hW => HBD.out W (HLow.out _ (HWB.out _ (HL2.out W hW))))
              have CE3 : Hid (∀ W, Below w2.heap.size w2 W → W.cell? ⟨w.heap.size, 2, none⟩ = some (.string p.x)) := Lib.hid (fun W hW => (CE.out _ (HWB.out _ (HL2.out W hW))).2.2.1)
              have hl0a : ([] : List ByteArray).length + bd.length ≤ 1000000000 := by have := HN.out; simp; omega
              have hl1a : bd.length + [p.x].length ≤ 1000000000 := by have := HN.out; simp; omega
              have hww : w.heap.size + 1 ≤ w2.heap.size := by omega
              have c0 := (CE.out _ (HWB.out _ (HL2.out w2 HQa.out))).1
              clear hcl2 HF HOG HGN HRA
              go_upto_if 68 with fail
              go_cut [1] from 10 (fun v wc => ∃ a n c, v = .slice a n c ∧ Hid (StrSl (fun k => k < w.heap.size ∨ w2.heap.size ≤ k) wc (.slice a n c) (bnd3 p bd)) ∧ Hid (Below w2.heap.size w2 wc))
              case first =>
                by_cases h3 : p.k = 3
                · have HB3 := Lib.hid (bnd3_yes (bd := bd) h3)
                  have h3' : (p.k == 3) = true := by simp [h3]
                  clear h3
                  have c2 := CE3.out w2 HQa.out
                  go_wp2_with fail
                  go_region_held3 (fun W => W.cell? ⟨w.heap.size, 2, none⟩ = some (.string p.x)) (first | go_keep | exact (CE3.out _ HBb.out) | exact (CE3.out _ HBa.out) | fail)
                    (first
                      | (refine step_app (by rfl) _ _ (by rfl) w2.heap.size [] (.slice (some ⟨w2.heap.size, 0, none⟩) 0 0) ?_ ?_ (fun k => k < w.heap.size) ba bn bc bd ?_ ?_ hl0a ?_ bd (List.nil_append _) ?_
                         · rfl
                         · (repeat (first | (with_reducible refine Row.empty _ _ _ ?_ ?_ <;> first | omega | rfl | (simp; omega) | (simp; done)) | with_reducible refine Row.alloc ?_ _ | with_reducible refine Row.drew ?_))
                         · rfl
                         · exact HBD2.out _ (by (repeat (first | with_reducible exact HQa.out | with_reducible exact box2_below _ _ _ | with_reducible apply Below.drew | (with_reducible refine Below.alloc ?_ ?_ _; rotate_left; (first | omega | (simp; omega) | (simp; done))))))
                         · (first | (simp; done) | (simp; omega))
                         intro ga1 gn1 gc1 w5 hrow1 hgrow1
                         have HBa := Lib.hid (Below.grown (B := w2.heap.size) (a := w2) (by (repeat (first | with_reducible exact HQa.out | with_reducible exact box2_below _ _ _ | with_reducible apply Below.drew | (with_reducible refine Below.alloc ?_ ?_ _; rotate_left; (first | omega | (simp; omega) | (simp; done)))))) hgrow1 (by first | (simp; done) | (simp; omega)) (fun k e => by simp [Value.ownBlock] at e; omega))
                         have hz5 : w2.heap.size ≤ w5.heap.size := Nat.le_trans (by first | (simp; done) | (simp; omega)) hgrow1.size)
                      | (refine step_app (by rfl) _ _ (by rfl) w2.heap.size [] (.slice (some ⟨w2.heap.size + 1, 0, none⟩) 0 0) ?_ ?_ (fun k => k < w.heap.size) ba bn bc bd ?_ ?_ hl0a ?_ bd (List.nil_append _) ?_
                         · rfl
                         · (repeat (first | (with_reducible refine Row.empty _ _ _ ?_ ?_ <;> first | omega | rfl | (simp; omega) | (simp; done)) | with_reducible refine Row.alloc ?_ _ | with_reducible refine Row.drew ?_))
                         · rfl
                         · exact HBD2.out _ (by (repeat (first | with_reducible exact HQa.out | with_reducible exact box2_below _ _ _ | with_reducible apply Below.drew | (with_reducible refine Below.alloc ?_ ?_ _; rotate_left; (first | omega | (simp; omega) | (simp; done))))))
                         · (first | (simp; done) | (simp; omega))
                         intro ga1 gn1 gc1 w5 hrow1 hgrow1
                         have HBa := Lib.hid (Below.grown (B := w2.heap.size) (a := w2) (by (repeat (first | with_reducible exact HQa.out | with_reducible exact box2_below _ _ _ | with_reducible apply Below.drew | (with_reducible refine Below.alloc ?_ ?_ _; rotate_left; (first | omega | (simp; omega) | (simp; done)))))) hgrow1 (by first | (simp; done) | (simp; omega)) (fun k e => by simp [Value.ownBlock] at e; omega))
                         have hz5 : w2.heap.size ≤ w5.heap.size := Nat.le_trans (by first | (simp; done) | (simp; omega)) hgrow1.size)
                      | (refine step_app (by rfl) _ _ (by rfl) w2.heap.size bd (.slice ga1 gn1 gc1) ?_ ?_ (fun _ => True) (some ⟨w5.heap.size, 0, none⟩) 1 1 [p.x] ?_ ?_ hl1a ?_ (bd ++ [p.x]) rfl ?_
                         · rfl
                         · (first | exact hrow1 | exact hrow1.drew | exact (hrow1.alloc _).drew | exact (hrow1.alloc _))
                         · rfl
                         · (refine strSl_one ?_ HCX.out.2; first | (simp; done) | (exact hgrow1.cell (by simp) (by simp [Value.ownBlock])) | (simp; exact hgrow1.cell (by simp) (by simp [Value.ownBlock])))
                         · (first | omega | (simp; omega))
                         intro ga2 gn2 gc2 w6 hrow2 hgrow2
                         have HBb := Lib.hid (Below.grown (B := w2.heap.size) (a := w2) (by (repeat (first | with_reducible exact HBa.out | with_reducible exact box2_below _ _ _ | with_reducible apply Below.drew | (with_reducible refine Below.alloc ?_ ?_ _; rotate_left; (first | omega | (simp; omega) | (simp; done)))))) hgrow2 (by first | omega | (simp; omega)) (fun k e => (hrow1.lt k e).1)))
                      | (refine step_app (by rfl) _ _ (by rfl) w2.heap.size bd (.slice ga1 gn1 gc1) ?_ ?_ (fun _ => True) (some ⟨w2.heap.size, 0, none⟩) 1 1 [p.x] ?_ ?_ hl1a ?_ (bd ++ [p.x]) rfl ?_
                         · rfl
                         · (first | exact hrow1 | exact hrow1.drew | exact (hrow1.alloc _).drew | exact (hrow1.alloc _))
                         · rfl
                         · (refine strSl_one ?_ HCX.out.2; first | (simp; done) | (exact hgrow1.cell (by simp) (by simp [Value.ownBlock])) | (simp; exact hgrow1.cell (by simp) (by simp [Value.ownBlock])))
                         · (first | omega | (simp; omega))
                         intro ga2 gn2 gc2 w6 hrow2 hgrow2
                         have HBb := Lib.hid (Below.grown (B := w2.heap.size) (a := w2) (by (repeat (first | with_reducible exact HBa.out | with_reducible exact box2_below _ _ _ | with_reducible apply Below.drew | (with_reducible refine Below.alloc ?_ ?_ _; rotate_left; (first | omega | (simp; omega) | (simp; done)))))) hgrow2 (by first | omega | (simp; omega)) (fun k e => (hrow1.lt k e).1)))
                      | (refine step_app (by rfl) _ _ (by rfl) w2.heap.size bd (.slice ga1 gn1 gc1) ?_ ?_ (fun _ => True) (some ⟨(w2.heap.size + 1), 0, none⟩) 1 1 [p.x] ?_ ?_ hl1a ?_ (bd ++ [p.x]) rfl ?_
                         · rfl
                         · (first | exact hrow1 | exact hrow1.drew | exact (hrow1.alloc _).drew | exact (hrow1.alloc _))
                         · rfl
                         · (refine strSl_one ?_ HCX.out.2; first | (simp; done) | (exact hgrow1.cell (by simp) (by simp [Value.ownBlock])) | (simp; exact hgrow1.cell (by simp) (by simp [Value.ownBlock])))
                         · (first | omega | (simp; omega))
                         intro ga2 gn2 gc2 w6 hrow2 hgrow2
                         have HBb := Lib.hid (Below.grown (B := w2.heap.size) (a := w2) (by (repeat (first | with_reducible exact HBa.out | with_reducible exact box2_below _ _ _ | with_reducible apply Below.drew | (with_reducible refine Below.alloc ?_ ?_ _; rotate_left; (first | omega | (simp; omega) | (simp; done)))))) hgrow2 (by first | omega | (simp; omega)) (fun k e => (hrow1.lt k e).1)))
                      | fail)
                  all_goals (go_wp2_with fail)
                  all_goals go_meet
                  all_goals (case rel => exact ⟨_, _, _, rfl, Lib.hid (by rw [HB3.out]; exact (hrow2.strs (by simp; unfold maxLen; omega)).2.mono (fun k hk => .inr hk.1)), HBb⟩)
                · have HB3 := Lib.hid (bnd3_no (bd := bd) h3)
                  have h3' : (p.k == 3) = false := by simpa using h3
                  clear h3
                  go_wp2_with fail
                  go_meet
                  case rel => exact ⟨_, _, _, rfl, Lib.hid (by rw [HB3.out]; exact (HBD2.out w2 HQa.out).mono (fun k hk => .inl hk)), HQa⟩
              case rest =>
                obtain ⟨ea, en, ec, rfl, HE, HC3⟩ := hcut
                obtain ⟨w3, hw3⟩ : ∃ w3, w3 = wc := ⟨_, rfl⟩
                subst hw3
                have hz3 : w2.heap.size ≤ w3.heap.size := HC3.out.size
                have hcl3 : ∀ W, Below w3.heap.size w3 W → Below w2.heap.size w2 W := fun W hW => HC3.out.trans (hW.mono hz3)
                have HL3 := Lib.hid hcl3
                have HQb : Hid (Below w3.heap.size w3 w3) := Lib.hid (Below.refl _ _)
                have HE3 : Hid (∀ W, Below w3.heap.size w3 W → StrSl (fun k => k < w.heap.size ∨ w2.heap.size ≤ k) W (.slice ea en ec) (bnd3 p bd)) := Lib.hid (fun W hW => (StrSl.keep (hW.keeps'.mono (fun _ h => h.2)) HE.out.low).mono (fun _ h => h.1))
                have CE6 : Hid (∀ W, Below w3.heap.size w3 W → W.cell? ⟨w.heap.size, 1, none⟩ = some (.string p.c) ∧ W.cell? ⟨w.heap.size, 2, none⟩ = some (.string p.x)) := Lib.hid (fun W hW => by
                  obtain ⟨_, h1, h2, _⟩ := CE.out _ (HWB.out _ (HL2.out W (HL3.out W hW)))
                  exact ⟨h1, h2⟩)
                have hl0b : ([] : List ByteArray).length + (bnd3 p bd).length ≤ 1000000000 := by have := HN.out; have := bnd3_len p bd; simp; omega
                have hl1b : (bnd3 p bd).length + [p.c, p.x].length ≤ 1000000000 := by have := HN.out; have := bnd3_len p bd; simp; omega
                have c0' := (CE.out _ (HWB.out _ (HL2.out w3 (HL3.out w3 HQb.out)))).1
                clear hcl3 c0
                go_upto_if 78 with fail
                go_cut [1] from 10 (fun v wc => ∃ a n c, v = .slice a n c ∧ Hid (StrSl (fun k => k < w.heap.size ∨ w2.heap.size ≤ k) wc (.slice a n c) (bd ++ p.bnd)) ∧ Hid (Below w3.heap.size w3 wc))
                case first =>
                  by_cases h6 : p.k = 6
                  · have HB6 := Lib.hid (bnd_6 (bd := bd) h6)
                    have h6' : (p.k == 6) = true := by simp [h6]
                    clear h6
                    obtain ⟨c1, c2⟩ := CE6.out w3 HQb.out
                    go_wp2_with fail
                    go_region_held3 (fun W => W.cell? ⟨w.heap.size, 1, none⟩ = some (.string p.c) ∧ W.cell? ⟨w.heap.size, 2, none⟩ = some (.string p.x)) (first | go_keep | exact (CE6.out _ HBb.out) | exact (CE6.out _ HBa.out) | fail)
                      (first
                        | (refine step_app (by rfl) _ _ (by rfl) w3.heap.size [] (.slice (some ⟨w3.heap.size, 0, none⟩) 0 0) ?_ ?_ (fun k => k < w.heap.size ∨ w2.heap.size ≤ k) ea en ec (bnd3 p bd) ?_ ?_ hl0b ?_ (bnd3 p bd) (List.nil_append _) ?_
                           · rfl
                           · (repeat (first | (with_reducible refine Row.empty _ _ _ ?_ ?_ <;> first | omega | rfl | (simp; omega) | (simp; done)) | with_reducible refine Row.alloc ?_ _ | with_reducible refine Row.drew ?_))
                           · rfl
                           · exact HE3.out _ (by (repeat (first | with_reducible exact HQb.out | with_reducible exact box2_below _ _ _ | with_reducible apply Below.drew | (with_reducible refine Below.alloc ?_ ?_ _; rotate_left; (first | omega | (simp; omega) | (simp; done))))))
                           · (first | (simp; done) | (simp; omega))
                           intro ga1 gn1 gc1 w5 hrow1 hgrow1
                           have HBa := Lib.hid (Below.grown (B := w3.heap.size) (a := w3) (by (repeat (first | with_reducible exact HQb.out | with_reducible exact box2_below _ _ _ | with_reducible apply Below.drew | (with_reducible refine Below.alloc ?_ ?_ _; rotate_left; (first | omega | (simp; omega) | (simp; done)))))) hgrow1 (by first | (simp; done) | (simp; omega)) (fun k e => by simp [Value.ownBlock] at e; omega))
                           have hz5 : w3.heap.size ≤ w5.heap.size := Nat.le_trans (by first | (simp; done) | (simp; omega)) hgrow1.size)
                        | (refine step_app (by rfl) _ _ (by rfl) w3.heap.size [] (.slice (some ⟨w3.heap.size + 1, 0, none⟩) 0 0) ?_ ?_ (fun k => k < w.heap.size ∨ w2.heap.size ≤ k) ea en ec (bnd3 p bd) ?_ ?_ hl0b ?_ (bnd3 p bd) (List.nil_append _) ?_
                           · rfl
                           · (repeat (first | (with_reducible refine Row.empty _ _ _ ?_ ?_ <;> first | omega | rfl | (simp; omega) | (simp; done)) | with_reducible refine Row.alloc ?_ _ | with_reducible refine Row.drew ?_))
                           · rfl
                           · exact HE3.out _ (by (repeat (first | with_reducible exact HQb.out | with_reducible exact box2_below _ _ _ | with_reducible apply Below.drew | (with_reducible refine Below.alloc ?_ ?_ _; rotate_left; (first | omega | (simp; omega) | (simp; done))))))
                           · (first | (simp; done) | (simp; omega))
                           intro ga1 gn1 gc1 w5 hrow1 hgrow1
                           have HBa := Lib.hid (Below.grown (B := w3.heap.size) (a := w3) (by (repeat (first | with_reducible exact HQb.out | with_reducible exact box2_below _ _ _ | with_reducible apply Below.drew | (with_reducible refine Below.alloc ?_ ?_ _; rotate_left; (first | omega | (simp; omega) | (simp; done)))))) hgrow1 (by first | (simp; done) | (simp; omega)) (fun k e => by simp [Value.ownBlock] at e; omega))
                           have hz5 : w3.heap.size ≤ w5.heap.size := Nat.le_trans (by first | (simp; done) | (simp; omega)) hgrow1.size)
                        | (refine step_app (by rfl) _ _ (by rfl) w3.heap.size (bnd3 p bd) (.slice ga1 gn1 gc1) ?_ ?_ (fun _ => True) (some ⟨w5.heap.size, 0, none⟩) 2 2 [p.c, p.x] ?_ ?_ hl1b ?_ ((bnd3 p bd) ++ [p.c, p.x]) rfl ?_
                           · rfl
                           · (first | exact hrow1 | exact hrow1.drew | exact (hrow1.alloc _).drew | exact (hrow1.alloc _))
                           · rfl
                           · (refine strSl_two ?_ ?_ HCX.out.1 HCX.out.2 <;> first | (simp; done) | (exact hgrow1.cell (by simp) (by simp [Value.ownBlock])) | (simp; exact hgrow1.cell (by simp) (by simp [Value.ownBlock])))
                           · (first | omega | (simp; omega))
                           intro ga2 gn2 gc2 w6 hrow2 hgrow2
                           have HBb := Lib.hid (Below.grown (B := w3.heap.size) (a := w3) (by (repeat (first | with_reducible exact HBa.out | with_reducible exact box2_below _ _ _ | with_reducible apply Below.drew | (with_reducible refine Below.alloc ?_ ?_ _; rotate_left; (first | omega | (simp; omega) | (simp; done)))))) hgrow2 (by first | omega | (simp; omega)) (fun k e => (hrow1.lt k e).1)))
                        | (refine step_app (by rfl) _ _ (by rfl) w3.heap.size (bnd3 p bd) (.slice ga1 gn1 gc1) ?_ ?_ (fun _ => True) (some ⟨w3.heap.size, 0, none⟩) 2 2 [p.c, p.x] ?_ ?_ hl1b ?_ ((bnd3 p bd) ++ [p.c, p.x]) rfl ?_
                           · rfl
                           · (first | exact hrow1 | exact hrow1.drew | exact (hrow1.alloc _).drew | exact (hrow1.alloc _))
                           · rfl
                           · (refine strSl_two ?_ ?_ HCX.out.1 HCX.out.2 <;> first | (simp; done) | (exact hgrow1.cell (by simp) (by simp [Value.ownBlock])) | (simp; exact hgrow1.cell (by simp) (by simp [Value.ownBlock])))
                           · (first | omega | (simp; omega))
                           intro ga2 gn2 gc2 w6 hrow2 hgrow2
                           have HBb := Lib.hid (Below.grown (B := w3.heap.size) (a := w3) (by (repeat (first | with_reducible exact HBa.out | with_reducible exact box2_below _ _ _ | with_reducible apply Below.drew | (with_reducible refine Below.alloc ?_ ?_ _; rotate_left; (first | omega | (simp; omega) | (simp; done)))))) hgrow2 (by first | omega | (simp; omega)) (fun k e => (hrow1.lt k e).1)))
                        | (refine step_app (by rfl) _ _ (by rfl) w3.heap.size (bnd3 p bd) (.slice ga1 gn1 gc1) ?_ ?_ (fun _ => True) (some ⟨(w3.heap.size + 1), 0, none⟩) 2 2 [p.c, p.x] ?_ ?_ hl1b ?_ ((bnd3 p bd) ++ [p.c, p.x]) rfl ?_
                           · rfl
                           · (first | exact hrow1 | exact hrow1.drew | exact (hrow1.alloc _).drew | exact (hrow1.alloc _))
                           · rfl
                           · (refine strSl_two ?_ ?_ HCX.out.1 HCX.out.2 <;> first | (simp; done) | (exact hgrow1.cell (by simp) (by simp [Value.ownBlock])) | (simp; exact hgrow1.cell (by simp) (by simp [Value.ownBlock])))
                           · (first | omega | (simp; omega))
                           intro ga2 gn2 gc2 w6 hrow2 hgrow2
                           have HBb := Lib.hid (Below.grown (B := w3.heap.size) (a := w3) (by (repeat (first | with_reducible exact HBa.out | with_reducible exact box2_below _ _ _ | with_reducible apply Below.drew | (with_reducible refine Below.alloc ?_ ?_ _; rotate_left; (first | omega | (simp; omega) | (simp; done)))))) hgrow2 (by first | omega | (simp; omega)) (fun k e => (hrow1.lt k e).1)))
                        | fail)
                    all_goals (go_wp2_with fail)
                    all_goals go_meet
                    all_goals (case rel => exact ⟨_, _, _, rfl, Lib.hid (by rw [HB6.out]; exact (hrow2.strs (by have := hl1b; simp at this ⊢; unfold maxLen; omega)).2.mono (fun k hk => .inr (Nat.le_trans hz3 hk.1))), HBb⟩)
                  · have HB6 := Lib.hid (bnd_not6 (bd := bd) h6)
                    have h6' : (p.k == 6) = false := by simpa using h6
                    clear h6
                    go_wp2_with fail
                    go_meet
                    case rel => exact ⟨_, _, _, rfl, Lib.hid (by rw [HB6.out]; exact HE3.out w3 HQb.out), HQb⟩
                case rest =>
                  obtain ⟨ra, rn, rc, rfl, HE4, HC4⟩ := hcut
                  obtain ⟨w4, hw4⟩ : ∃ w4, w4 = wc := ⟨_, rfl⟩
                  subst hw4
                  have hz4 : w3.heap.size ≤ w4.heap.size := HC4.out.size
                  have hb24 : Below w2.heap.size w2 w4 := HC3.out.trans (HC4.out.mono hz3)
                  have HE5 : Hid (StrSl (fun k => k < w.heap.size ∨ (w2.heap.size ≤ k ∧ k < w4.heap.size)) w4 (.slice ra rn rc) (bd ++ p.bnd)) := Lib.hid (HE4.out.low.mono (fun k hk => hk.1.elim .inl (fun h => .inr ⟨h, hk.2⟩)))
                  have HF5 : Hid (Row w1.heap.size w4 (.slice fa fn fc) (keepF bd p.own)) := Lib.hid (HFA.out.to hb24)
                  have HOB : Hid (∀ g, (Value.slice fa fn fc).ownBlock = some g → g < w2.heap.size ∨ w4.heap.size ≤ g) := Lib.hid (fun g e => .inl (HFA.out.lt g e).2)
                  have HB4 : Hid (Below w1.heap.size w1 w4) := Lib.hid (HL2.out _ hb24)
                  clear hb24 HE3 HE HE4 HFA HBD HBD2 CE3 CE6 c0' HL2 HL3 HQa HQb HC HC3 HC4 hl0a hl1a hl0b hl1b
                  go_wp2_with fail
                  go_loopw [7, 9] (fun v i wr => ∃ (j : Nat) (a : Option Addr) (n c : Nat), i = .int .i64 j ∧ j ≤ kn ∧ v = .slice a n c ∧ Hid (Row w1.heap.size wr (.slice a n c) (keepF bd p.own ++ Pr.usess (p.ps.take j) (bd ++ p.bnd))) ∧ Hid (∀ g, (Value.slice a n c).ownBlock = some g → g < w2.heap.size ∨ w4.heap.size ≤ g) ∧ Hid (Below w1.heap.size w1 wr) ∧ w4.heap.size ≤ wr.heap.size ∧ Hid (StrSl (fun k => k < w.heap.size ∨ (w2.heap.size ≤ k ∧ k < w4.heap.size)) wr (.slice ra rn rc) (bd ++ p.bnd))) (fun _ i _ => kn - (intOf i).toNat)
                  case atStart => exact ⟨0, _, _, _, rfl, by omega, rfl, Lib.hid (by simpa [Pr.usess] using HF5.out), HOB, HB4, Nat.le_refl _, HE5⟩
                  case round =>
                    obtain ⟨j, xa, xn, xc, rfl, hj, rfl, HR, HX, HB5, hz5, HS⟩ := hrel
                    obtain ⟨_, _, _, _, c11⟩ := CE.out _ (HWB.out _ HB5.out)
                    have hlw := HLow.out _ (HWB.out _ HB5.out)
                    have hz7 : w1.heap.size ≤ wr.heap.size := HB5.out.size
                    by_cases hlt : j < kn
                    · obtain ⟨u, hu⟩ : ∃ u, p.ps[j]? = some u := ⟨_, List.getElem?_eq_getElem (by rw [← HKL.out]; exact hlt)⟩
                      obtain ⟨kb, ko, rfl, hkb, hpa⟩ := HKG.out j u hu
                      obtain ⟨la1, ln1, lc1, aa1, an1, ac1, ta1, tn1, tc1, ua1, un1, uc1, ka1, kn1, kc1, ⟨d0, d1, d2, d3, d4, d5, d6, d7, d8, d9, d10, d11⟩, hval⟩ := (hpa wr hlw).load'
                      have hum := List.mem_of_getElem? hu
                      have hnt := Pr.nmss_take hu
                      have hnl := Pr.nmss_take_le p.ps (j + 1)
                      have hdu := Pr.depth_mem hum
                      have hbl := p.bnd_len
                      have hul := u.uses_len (bd ++ p.bnd)
                      have hsl := Pr.usess_len (p.ps.take j) (bd ++ p.bnd)
                      have hkl : (keepF bd p.own).length ≤ p.own.length := List.length_filter_le _ _
                      have HNN := HN.out
                      have HOO := HO.out.2
                      have HC : Hid (Calls Tryz.prog 30 #[prAgg u (.slice la1 ln1 lc1) (.slice aa1 an1 ac1) (.slice ta1 tn1 tc1) (.slice ua1 un1 uc1) (.slice ka1 kn1 kc1), .slice ra rn rc] wr (StrRet wr (u.uses (bd ++ p.bnd)))) :=
                        Lib.hid (HIH.out u hum _ _ _ wr (hval.mono (fun k hk => Nat.lt_of_lt_of_le hk hlw.size)) (HS.out.mono (fun k hk => hk.elim (fun h => Nat.lt_of_lt_of_le h hlw.size) (fun h => Nat.lt_of_lt_of_le h.2 hz5))) (by omega) (by rw [List.length_append]; omega))
                      have HT : Hid (keepF bd p.own ++ Pr.usess (p.ps.take (j + 1)) (bd ++ p.bnd) = (keepF bd p.own ++ Pr.usess (p.ps.take j) (bd ++ p.bnd)) ++ u.uses (bd ++ p.bnd)) := Lib.hid (by rw [Pr.usess_take hu, List.append_assoc])
                      have HLN : Hid ((keepF bd p.own ++ Pr.usess (p.ps.take j) (bd ++ p.bnd)).length + (u.uses (bd ++ p.bnd)).length ≤ 1000000000) := Lib.hid (by rw [List.length_append]; omega)
                      unfold prAgg at HC
                      clear hu hpa hval hum hnt hnl hdu hbl hul hsl hkl HNN HOO
                      go_wp2_with (first | (go_at_call 30; refine HC.out.mono ?_; rintro e w5 ⟨ya, yn, yc, rfl, hsl, hb5⟩; have HSL := Lib.hid hsl; have HB6 := Lib.hid hb5; have HR5 := Lib.hid (HR.out.to hb5); have hz6 := hb5.size; clear hsl hb5) | (at_builtin; refine wpList_app rfl _ _ rfl w1.heap.size (keepF bd p.own ++ Pr.usess (p.ps.take j) (bd ++ p.bnd)) (.slice xa xn xc) rfl HR5.out _ _ _ _ (u.uses (bd ++ p.bnd)) rfl HSL.out HLN.out (Nat.le_trans hz7 hz6) ?_; intro fa' fn' fc' w6 hrow hgrow hat; have HRW := Lib.hid hrow; have HGW := Lib.hid hgrow; have HAT := Lib.hid hat; clear hrow hgrow hat))
                      go_roundw
                      case rel =>
                        refine ⟨j + 1, _, _, _, by go_num, by omega, rfl, Lib.hid (by rw [HT.out]; exact HRW.out), Lib.hid (fun g e => ?_), Lib.hid ((HB5.out.trans (HB6.out.mono hz7)).grown HGW.out (Nat.le_trans hz7 hz6) (fun k e => (HR5.out.lt k e).1)), Nat.le_trans hz5 (Nat.le_trans hz6 HGW.out.size), Lib.hid (StrSl.keep (keeps_grown HGW.out (fun k hk => ?_)) (StrSl.keep (HB6.out.keeps'.mono (fun k hk => ?_)) HS.out))⟩
                        · rcases HAT.out with h | h
                          · exact HX.out g (h ▸ e)
                          · rw [h] at e; exact .inr (by have := Option.some.inj e; omega)
                        · have hw1 : w.heap.size + 1 ≤ w1.heap.size := by omega
                          refine ⟨hk.elim (fun h => by omega) (fun h => by omega), fun e => ?_⟩
                          have h1 := (HR5.out.lt k e.symm).1
                          have h2 := HX.out k e.symm
                          rcases hk with h | h <;> omega
                        · exact hk.elim (fun h => by have := hlw.size; omega) (fun h => by omega)
                      case measure => simp [intOf]; omega
                    · obtain rfl : kn = j := by omega
                      have HLE : Hid (keepF bd p.own ++ Pr.usess (p.ps.take kn) (bd ++ p.bnd) = p.uses bd) := Lib.hid (by rw [List.take_of_length_le (by rw [HKL.out]; exact Nat.le_refl _), HU.out])
                      have HLU := Lib.hid (p.uses_len bd)
                      go_wp2_with fail
                      go_ret
                      refine ⟨_, _, _, rfl, ?_, hlw⟩
                      have h := HR.out
                      rw [HLE.out] at h
                      exact (h.strs (by have := HLU.out; have := HN.out; unfold maxLen; omega)).2.mono (fun k hk => ⟨by have := hk.1; omega, hk.2⟩)


theorem uses_any : ∀ p : Pr, UsesP p := by
  refine Pr.ind ?_
  intro k c x ls vs t ps ih
  exact uses_step (.mk k c x ls vs t ps) ih

end Go.Proofs.YtgmdmbmkljbgiaaGreatDoor

/- Scopes: the reference's walk over a body. -/
namespace Go.Proofs.YtgmdmbmkljbgiaaGreatDoor
open Go.RowKit Go.Deep Go.Shelf

theorem arFst_find {ds : List Df} {s : ByteArray} : (fdI ds s = none → arFst ds s = none) ∧ ∀ i d, fdI ds s = some i → ds[i]? = some d → arFst ds s = some d.ms.length := by
  refine ⟨fun h => ?_, fun i d h hd => ?_⟩
  · refine arFst_none (memB_false fun hm => ?_)
    obtain ⟨d, hd, e⟩ := List.mem_map.1 hm
    obtain ⟨i, hi, hdi⟩ := List.getElem_of_mem hd
    have := List.find?_eq_none.1 h i (List.mem_range.2 hi)
    rw [nameAt_some (List.getElem?_eq_some_iff.2 ⟨hi, hdi⟩)] at this
    simp [e] at this
  · unfold fdI at h
    rw [List.find?_range_eq_some] at h
    obtain ⟨h1, h2, h3⟩ := h
    have hall : ∀ (l : List Df) (m : Nat), (∀ j, j < m → ∀ x, l[j]? = some x → x.n ≠ s) → ∀ y, l[m]? = some y → y.n = s → arFst l s = some y.ms.length := by
      intro l
      induction l with
      | nil => intro m _ y hy; simp at hy
      | cons x r ihl =>
        intro m hm y hy hys
        cases m with
        | zero => simp at hy; subst hy; rw [arFst, if_pos hys.symm]
        | succ m =>
          rw [arFst, if_neg (fun e => hm 0 (by omega) x rfl e.symm)]
          exact ihl m (fun j hj z hz => hm (j + 1) (by omega) z (by simpa using hz)) y (by simpa using hy) hys
    refine hall ds i (fun j hj x hx e => ?_) d hd ?_
    · have := h3 j hj
      rw [nameAt_some hx] at this; simp [e] at this
    · rw [nameAt_some hd] at h1; simpa using h1
theorem fdI_lt {ds : List Df} {s : ByteArray} {i : Nat} (h : fdI ds s = some i) : i < ds.length := by
  unfold fdI at h; exact List.mem_range.1 (List.mem_of_find?_eq_some h)

def Thirt (w : World) (b : Nat) (a0 a1 a2 a3 a4 a5 a6 a7 a8 a9 a10 a11 a12 : Value) : Prop := w.heap[b]? = some (.cells #[a0, a1, a2, a3, a4, a5, a6, a7, a8, a9, a10, a11, a12] 32 (0, 0))
theorem Thirt.cells {w : World} {b : Nat} {a0 a1 a2 a3 a4 a5 a6 a7 a8 a9 a10 a11 a12 : Value} (h : Thirt w b a0 a1 a2 a3 a4 a5 a6 a7 a8 a9 a10 a11 a12) :
    w.cell? ⟨b, 0, none⟩ = some a0 ∧ w.cell? ⟨b, 1, none⟩ = some a1 ∧ w.cell? ⟨b, 2, none⟩ = some a2 ∧ w.cell? ⟨b, 3, none⟩ = some a3 ∧ w.cell? ⟨b, 4, none⟩ = some a4 ∧ w.cell? ⟨b, 5, none⟩ = some a5 ∧ w.cell? ⟨b, 6, none⟩ = some a6 ∧ w.cell? ⟨b, 7, none⟩ = some a7 ∧ w.cell? ⟨b, 8, none⟩ = some a8 ∧ w.cell? ⟨b, 9, none⟩ = some a9 ∧ w.cell? ⟨b, 10, none⟩ = some a10 ∧ w.cell? ⟨b, 11, none⟩ = some a11 ∧ w.cell? ⟨b, 12, none⟩ = some a12 := by
  unfold Thirt at h
  refine ⟨?_, ?_, ?_, ?_, ?_, ?_, ?_, ?_, ?_, ?_, ?_, ?_, ?_⟩ <;> simp [World.cell?, h]

theorem Pr.scE_ne {ar : ByteArray → Option Nat} {p : Pr} {sc : List ByteArray} {g : Bool} {x : Int} (h : p.nodeE ar sc g = x) (h0 : x ≠ 0) : p.scE ar sc g = x := by rw [Pr.scE_eq, h, if_neg h0]
theorem Pr.scE_0 {ar : ByteArray → Option Nat} {p : Pr} {sc : List ByteArray} {g : Bool} (h : p.nodeE ar sc g = 0) : p.scE ar sc g = Pr.scEs ar p.ps (sc ++ p.bnd) (g || prefixB p.k) := by rw [Pr.scE_eq, h, if_pos rfl]
/-- What is asked of the reference's walk at a node. -/
def RNodeS (g : Pg) (p : Pr) : Prop := ∀ (wv v sv : Value) (sc : List ByteArray) (gd : Bool) (w : World) (r : Int), GLies w wv g → PLies w v p → SLies w sv sc → sc.length + 2 * p.depth ≤ 1000000 → p.scE (arFst g.ds) sc gd = r →
  Calls Tryz.prog 23 #[wv, v, sv, .bool gd] w fun e w' => e = .returned (.int .i64 r) ∧ Below w.heap.size w w'

set_option maxHeartbeats 16000000 in
set_option maxRecDepth 100000 in
theorem rnodeS_step (g : Pg) (p : Pr) (ih : ∀ u ∈ p.ps, RNodeS g u) : RNodeS g p := by
  intro wv v sv sc gd w r hg hv hs hd hr
  have hg0 := hg
  obtain ⟨dv, glv, gav, gtl, gtk, gkv, rfl, hgd, hgp⟩ := hg
  obtain ⟨⟨gla, gln, glc, rfl⟩, ⟨gaa, gan, gac, rfl⟩, ⟨gta, gtn, gtc, rfl⟩, ⟨gua, gun, guc, rfl⟩, gka, gkn, gkc, rfl⟩ := pr_slices hgp
  obtain ⟨pa, len, c, rfl, hlen, hmx, hget⟩ := hgd.open
  have hv0 := hv
  obtain ⟨lv, av, tl, tk, kv, rfl, ⟨hcz, hxz⟩, hl, ha, hty, hk⟩ := hv
  obtain ⟨⟨la, ln, lc, rfl⟩, ⟨aa', an', ac', rfl⟩, ⟨ta, tn, tc, rfl⟩, ⟨ua, un, uc, rfl⟩, ka', kn', kc', rfl⟩ := pr_slices hv0
  obtain ⟨ka, kn, kc, ek, hkl, hkm, hkg⟩ := hk.open
  simp only [Value.slice.injEq] at ek
  obtain ⟨rfl, rfl, rfl⟩ := ek
  obtain ⟨aa, an, ac, ea, hal, ham, hag⟩ := ha.open
  simp only [Value.slice.injEq] at ea
  obtain ⟨rfl, rfl, rfl⟩ := ea
  have hs' := hs
  obtain ⟨ba, bn, bc, rfl, hbl, hbm, hbg⟩ := StrSl.open hs'
  obtain ⟨W0, hW0⟩ : ∃ W0, (w.alloc (cell13 g (.slice pa len c) (.slice gla gln glc) (.slice gaa gan gac) (.slice gta gtn gtc) (.slice gua gun guc) (.slice gka gkn gkc))).alloc (cell12 p (.slice la ln lc) (.slice aa' an' ac') (.slice ta tn tc) (.slice ua un uc) (.slice ka' kn' kc')) = W0 := ⟨_, rfl⟩
  have hb0 : Below w.heap.size w W0 := by rw [← hW0]; exact (blkBelow w _ _).alloc (by simp) _
  have hsz0 : W0.heap.size = w.heap.size + 2 := by rw [← hW0]; simp
  have hT : Hid (∀ W, Below W0.heap.size W0 W → Thirt W w.heap.size (.slice pa len c) (.int .i64 g.m.k) (.string g.m.c) (.string g.m.x) (.slice gla gln glc) (.slice gaa gan gac) (.int .i64 g.m.t.k) (.int .i64 g.m.t.p) (.string g.m.t.n) (.int .i64 g.m.t.s) (.slice gta gtn gtc) (.slice gua gun guc) (.slice gka gkn gkc)) := Lib.hid (fun W hW => by
    refine (hW.block _ (by omega)).trans ?_
    rw [← hW0]; simp only [heap_push, Array.getElem?_push, Array.size_push]; simp)
  have hU : Hid (∀ W, Below W0.heap.size W0 W → W.cell? ⟨w.heap.size + 1, 0, none⟩ = some (.int .i64 p.k) ∧ W.cell? ⟨w.heap.size + 1, 1, none⟩ = some (.string p.c) ∧ W.cell? ⟨w.heap.size + 1, 2, none⟩ = some (.string p.x) ∧ W.cell? ⟨w.heap.size + 1, 4, none⟩ = some (.slice aa' an' ac') ∧ W.cell? ⟨w.heap.size + 1, 11, none⟩ = some (.slice ka' kn' kc')) := Lib.hid (fun W hW => by
    have h : W.heap[w.heap.size + 1]? = some (cell12 p (.slice la ln lc) (.slice aa' an' ac') (.slice ta tn tc) (.slice ua un uc) (.slice ka' kn' kc')) := by
      refine (hW.block _ (by omega)).trans ?_
      rw [← hW0]; simp only [heap_push, Array.getElem?_push, Array.size_push]; simp
    exact ⟨cell_of h 0, cell_of h 1, cell_of h 2, cell_of h 4, cell_of h 11⟩)
  have HL : Hid (∀ W, Below W0.heap.size W0 W → Below w.heap.size w W ∧ GLies W (pgAgg g (.slice pa len c) (.slice gla gln glc) (.slice gaa gan gac) (.slice gta gtn gtc) (.slice gua gun guc) (.slice gka gkn gkc)) g ∧ SLies W (.slice ba bn bc) sc) := Lib.hid (fun W hW => ⟨below_seq hb0 hW, hg0.to (below_seq hb0 hW), hs.to (below_seq hb0 hW)⟩)
  have HAG : Hid (∀ (i : Nat) (a : Vl), p.vs[i]? = some a → a.n.size ≤ maxLen ∧ ∃ gb go, aa' = some ⟨gb, go, none⟩ ∧ gb < w.heap.size ∧ ∀ W, Below w.heap.size w W → W.cell? ⟨gb, go + i * 3, none⟩ = some (.int .i64 a.k) ∧ W.cell? ⟨gb, go + i * 3 + 1, none⟩ = some (.string a.n)) := Lib.hid (fun i a hi => by
    obtain ⟨h1, gb, go, e, hgb, q0, q1, q2⟩ := hag i a hi
    exact ⟨h1, gb, go, e, hgb, fun W hW => ⟨(hW.cell (p := ⟨gb, _, none⟩) hgb).trans q0, (hW.cell (p := ⟨gb, _, none⟩) hgb).trans q1⟩⟩)
  have HKG : Hid (∀ (i : Nat) (u : Pr), p.ps[i]? = some u → ∃ gb go, ka' = some ⟨gb, go, none⟩ ∧ gb < w.heap.size ∧ ∀ W, Below w.heap.size w W → PrAt (fun k => k < w.heap.size) W u gb (go + i * 12)) := Lib.hid (fun i u hi => by
    obtain ⟨gb, go, e, hgb, hu⟩ := hkg i u hi
    exact ⟨gb, go, e, hgb, fun W hW => PrAt.keep (hW.keeps'.mono (fun _ h => h)) _ _ _ hu⟩)
  have HDG : Hid (∀ (j : Nat) (d : Df), g.ds[j]? = some d → ∃ kb ko, pa = some ⟨kb, ko, none⟩ ∧ kb < w.heap.size ∧ ∃ ma mc, ∀ W, Below w.heap.size w W → W.cell? ⟨kb, ko + j * 14 + 1, none⟩ = some (.slice ma d.ms.length mc)) := Lib.hid (fun j d hj => by
    obtain ⟨kb, ko, e, hkb, ha⟩ := hget j d hj
    obtain ⟨_, _, ⟨mv, h1, h2⟩, _⟩ := ha
    obtain ⟨ma, ml, mc, rfl, hml, _⟩ := h2.open
    exact ⟨kb, ko, e, hkb, ma, mc, fun W hW => (hW.cell (p := ⟨kb, _, none⟩) hkb).trans (by rw [h1, hml.out])⟩)
  have HIN : Hid (∀ (s : ByteArray) (m : Bool) W, memB s sc = m → Below W0.heap.size W0 W → Calls Tryz.prog 16 #[.string s, .slice ba bn bc] W fun e w' => e = .returned (.bool m) ∧ W = w') := Lib.hid (fun s m W hm hW => by
    rw [← hm]; exact prin_any _ s _ sc W (HL.out W hW).2.2)
  have hlen' : g.ds.length = len := hlen.out.symm
  have HAL := Lib.hid hal.out
  have HKL := Lib.hid hkl.out
  have HBN := Lib.hid hbl.out
  have HCX := Lib.hid (And.intro hcz hxz)
  have HIH := Lib.hid ih
  have HR := Lib.hid hr
  have hdep := p.depth_eq
  have HN := Lib.hid (And.intro hdep hd)
  have HSZ := Lib.hid hsz0
  have HW0 := Lib.hid hW0
  have HB0 := Lib.hid (Below.refl W0.heap.size W0)
  have HBW := Lib.hid hb0
  have hwz : w.heap.size + 2 ≤ W0.heap.size := by omega
  obtain ⟨pb, hpb⟩ : ∃ b, prefixB p.k = b := ⟨_, rfl⟩
  obtain ⟨mc, hmc⟩ : ∃ b, memB p.c sc = b := ⟨_, rfl⟩
  have HPB := Lib.hid hpb
  have HMC := Lib.hid hmc
  have hpe := prefixB_eq p.k
  rw [hpb] at hpe
  have HPE := Lib.hid hpe
  clear hg0 hgd hgp hget hlen hv0 hl ha hty hk hkg hag hal hkl hs hs' hbg hbl hW0 hb0 hsz0 hcz hxz ih hr hdep hd hpb hmc hpe
  go_enter Tryz.func23, Tryz.ntmps23
  go_upto_region 1 with fail
  refine wp_at HW0.out ?_
  go_cut [29] from 15 (fun t wc => t = .bool (pb && !mc) ∧ Hid (Below W0.heap.size W0 wc))
  case first =>
    obtain ⟨c0, c1, _⟩ := hU.out _ HB0.out
    have HC := Lib.hid (HIN.out p.c mc W0 HMC.out HB0.out)
    by_cases k2 : 2 ≤ p.k
    · have k2' : decide (2 ≤ p.k) = true := by simpa using k2
      by_cases k5 : p.k ≤ 5
      · have k5' : decide (p.k ≤ 5) = true := by simpa using k5
        have hq : pb = true := by rw [HPE.out, k2', k5']; rfl
        subst hq
        go_wp2_with (go_at_call 16; refine HC.out.mono ?_; rintro e w3 ⟨rfl, rfl⟩)
        go_meet
        case rel => exact ⟨by simp, HB0⟩
      · have k5' : decide (p.k ≤ 5) = false := by simpa using k5
        have hq : pb = false := by rw [HPE.out, k2', k5']; rfl
        subst hq
        go_wp2_with fail
        go_meet
        case rel => exact ⟨rfl, HB0⟩
    · have k2' : decide (2 ≤ p.k) = false := by simpa using k2
      have hq : pb = false := by rw [HPE.out, k2']; rfl
      subst hq
      go_wp2_with fail
      go_meet
      case rel => exact ⟨rfl, HB0⟩
  case rest =>
    obtain ⟨rfl, HB1⟩ := hcut
    obtain ⟨bad, hbad⟩ : ∃ x, (pb && !mc) = x := ⟨_, rfl⟩
    have HBD : Hid ((prefixB p.k && !memB p.c sc) = bad) := Lib.hid (by rw [HPB.out, HMC.out, hbad])
    rw [hbad]
    clear hbad
    cases bad
    · go_wp2_with fail
      go_loopw [9] (fun i wr => ∃ j : Nat, i = .int .i64 (j : Int) ∧ j ≤ an' ∧ Hid ((p.vs.take j).any (badArg sc) = false) ∧ Hid (Below W0.heap.size W0 wr)) (fun i _ => an' - (intOf i).toNat)
      case atStart => exact ⟨0, rfl, by omega, Lib.hid (by simp), HB1⟩
      case round =>
        obtain ⟨j, rfl, hj, HT, HBj⟩ := hrel
        obtain ⟨wo, hwo⟩ : ∃ wo, wo = wr := ⟨_, rfl⟩
        subst hwo
        obtain ⟨_, _, _, c4, _⟩ := hU.out wo HBj.out
        by_cases hlt : j < an'
        · obtain ⟨a, haj⟩ : ∃ a, p.vs[j]? = some a := ⟨_, List.getElem?_eq_getElem (by rw [← HAL.out]; exact hlt)⟩
          obtain ⟨has, gb, go, rfl, hgz, hcells⟩ := HAG.out j a haj
          obtain ⟨q0, q1⟩ := hcells wo (HL.out wo HBj.out).1
          obtain ⟨hA1, hA2⟩ := any_take (badArg sc) haj HT.out
          obtain ⟨ak, hak⟩ : ∃ ak, a.k = ak := ⟨_, rfl⟩
          obtain ⟨m, hm⟩ : ∃ m, memB a.n sc = m := ⟨_, rfl⟩
          rw [hak] at q0
          have HBA : Hid (badArg sc a = (decide (ak = 1) && !m)) := Lib.hid (by unfold badArg; rw [hak, hm])
          have HHX := Lib.hid (HIN.out a.n m wo hm HBj.out)
          have HA1 := Lib.hid hA1
          have HA2 := Lib.hid hA2
          clear haj has hcells hA1 hA2 hak hm
          by_cases h1 : ak = 1
          · subst h1
            cases m
            · have HF : Hid (r = 4) := Lib.hid (by rw [← HR.out]; exact Pr.scE_ne (Pr.nodeE_4b HBD.out (HA2.out (by rw [HBA.out]; rfl))) (by omega))
              go_wp2_with (go_at_call 16; refine HHX.out.mono ?_; rintro e w3 ⟨rfl, rfl⟩)
              go_ret
              exact ⟨by rw [HF.out]; rfl, (HL.out _ HBj.out).1⟩
            · have HN1 : Hid ((p.vs.take (j + 1)).any (badArg sc) = false) := Lib.hid (by rw [HA1.out, HBA.out]; rfl)
              go_wp2_with (go_at_call 16; refine HHX.out.mono ?_; rintro e w3 ⟨rfl, rfl⟩)
              go_roundw
              case rel => exact ⟨j + 1, by go_num, by omega, HN1, HBj⟩
              case measure => simp [intOf]; omega
          · have h1' : (ak == 1) = false := by simpa using h1
            have HN1 : Hid ((p.vs.take (j + 1)).any (badArg sc) = false) := Lib.hid (by rw [HA1.out, HBA.out]; simp [h1])
            clear h1
            go_wp2_with fail
            go_roundw
            case rel => exact ⟨j + 1, by go_num, by omega, HN1, HBj⟩
            case measure => simp [intOf]; omega
        · obtain rfl : an' = j := by omega
          have HA : Hid (p.vs.any (badArg sc) = false) := Lib.hid (by
            have h := HT.out
            rwa [List.take_of_length_le (by rw [HAL.out]; exact Nat.le_refl _)] at h)
          have hzo : W0.heap.size ≤ wo.heap.size := HBj.out.size
          have HSA : Hid (StrSl (fun k => k < (wo.alloc (.cells #[] 9)).heap.size) (wo.alloc (.cells #[] 9)) (.slice ba bn bc) sc) := Lib.hid ((HL.out wo HBj.out).2.2.to ((Below.refl _ _).alloc (Nat.le_refl _) _))
          have HLN0 : Hid (([] : List ByteArray).length + sc.length ≤ 1000000000) := Lib.hid (by have := HN.out; simp; omega)
          have HBE : Hid (Below W0.heap.size W0 (wo.alloc (.cells #[] 9))) := Lib.hid (HBj.out.alloc hzo _)
          clear HT
          go_upto_if 60 with (at_builtin; refine wpList_app rfl _ _ rfl W0.heap.size [] (.slice (some ⟨wo.heap.size, 0, none⟩) 0 0) rfl (Row.empty _ wo _ rfl hzo) _ _ _ _ sc rfl HSA.out HLN0.out (by simp only [World.size_alloc]; omega) ?_; intro ga gn gc w2 hrow hgrow _; have HR2 := Lib.hid hrow; have HB2 : Hid (Below W0.heap.size W0 w2) := Lib.hid (HBE.out.grown hgrow (by simp only [World.size_alloc]; omega) (fun k e => by simp [Value.ownBlock] at e; omega)); obtain ⟨c0, c1, c2, _, _⟩ := hU.out w2 HB2.out; clear hrow hgrow c4)
          go_cut [10] from 15 (fun v wc => ∃ a n c, v = .slice a n c ∧ Hid (Row W0.heap.size wc (.slice a n c) (bnd3 p sc)) ∧ Hid (Below W0.heap.size W0 wc))
          case first =>
            have hz2 : W0.heap.size ≤ w2.heap.size := HB2.out.size
            by_cases h3 : p.k = 3
            · have HB3 := Lib.hid (bnd3_yes (bd := sc) h3)
              have h3' : (p.k == 3) = true := by simpa using h3
              have HSO : Hid (StrSl (Fresh w2.heap.size (w2.alloc (.cells #[.string p.x] 9)).heap.size) (w2.alloc (.cells #[.string p.x] 9)) (.slice (some ⟨w2.heap.size, 0, none⟩) 1 1) [p.x]) := Lib.hid (strSl_made [p.x] (Below.refl _ _) (fun s hs => by rw [List.mem_singleton.1 hs]; exact HCX.out.2) (by simp [maxLen]))
              have HLN : Hid (([] ++ sc).length + [p.x].length ≤ 1000000000) := Lib.hid (by have := HN.out; simp; omega)
              have HRA : Hid (Row W0.heap.size (w2.alloc (.cells #[.string p.x] 9)) (.slice ga gn gc) ([] ++ sc)) := Lib.hid (HR2.out.alloc _)
              clear h3
              go_wp2_with (at_builtin; refine wpList_app rfl _ _ rfl W0.heap.size ([] ++ sc) (.slice ga gn gc) rfl HRA.out _ _ _ _ [p.x] rfl HSO.out HLN.out (by simp only [World.size_alloc]; omega) ?_; intro ga' gn' gc' w3 hrow hgrow _)
              go_meet
              case rel => exact ⟨_, _, _, rfl, Lib.hid (by rw [HB3.out]; simpa using hrow), Lib.hid ((HB2.out.alloc hz2 _).grown hgrow (by simp only [World.size_alloc]; omega) (fun k e => (HRA.out.lt k e).1))⟩
            · have HB3 := Lib.hid (bnd3_no (bd := sc) h3)
              have h3' : (p.k == 3) = false := by simpa using h3
              clear h3
              go_wp2_with fail
              go_meet
              case rel => exact ⟨_, _, _, rfl, Lib.hid (by rw [HB3.out]; simpa using HR2.out), HB2⟩
          case rest =>
            obtain ⟨ga, gn, gc, rfl, HR3, HB3⟩ := hcut
            obtain ⟨w3, hw3⟩ : ∃ w3, w3 = wc := ⟨_, rfl⟩
            subst hw3
            have hz3 : W0.heap.size ≤ w3.heap.size := HB3.out.size
            obtain ⟨c0, c1, c2, _, _⟩ := hU.out w3 HB3.out
            clear HR2 HB2 HSA HLN0 HBE
            go_upto_if 68 with fail
            go_cut [10] from 15 (fun v wc => ∃ a n c, v = .slice a n c ∧ Hid (Row W0.heap.size wc (.slice a n c) (sc ++ p.bnd)) ∧ Hid (Below W0.heap.size W0 wc))
            case first =>
              by_cases h6 : p.k = 6
              · have HB6 := Lib.hid (bnd_6 (bd := sc) h6)
                have h6' : (p.k == 6) = true := by simpa using h6
                have HSO : Hid (StrSl (Fresh w3.heap.size (w3.alloc (.cells #[.string p.c, .string p.x] 9)).heap.size) (w3.alloc (.cells #[.string p.c, .string p.x] 9)) (.slice (some ⟨w3.heap.size, 0, none⟩) 2 2) [p.c, p.x]) := Lib.hid (strSl_made [p.c, p.x] (Below.refl _ _) (fun s hs => by
                  rcases List.mem_cons.1 hs with e | hs
                  · rw [e]; exact HCX.out.1
                  · rw [List.mem_singleton.1 hs]; exact HCX.out.2) (by simp [maxLen]))
                have HLN : Hid ((bnd3 p sc).length + [p.c, p.x].length ≤ 1000000000) := Lib.hid (by have := HN.out; have := bnd3_len p sc; simp; omega)
                have HRA : Hid (Row W0.heap.size (w3.alloc (.cells #[.string p.c, .string p.x] 9)) (.slice ga gn gc) (bnd3 p sc)) := Lib.hid (HR3.out.alloc _)
                clear h6
                go_wp2_with (at_builtin; refine wpList_app rfl _ _ rfl W0.heap.size (bnd3 p sc) (.slice ga gn gc) rfl HRA.out _ _ _ _ [p.c, p.x] rfl HSO.out HLN.out (by simp only [World.size_alloc]; omega) ?_; intro ga' gn' gc' w5 hrow hgrow _)
                go_meet
                case rel => exact ⟨_, _, _, rfl, Lib.hid (by rw [HB6.out]; exact hrow), Lib.hid ((HB3.out.alloc hz3 _).grown hgrow (by simp only [World.size_alloc]; omega) (fun k e => (HRA.out.lt k e).1))⟩
              · have HB6 := Lib.hid (bnd_not6 (bd := sc) h6)
                have h6' : (p.k == 6) = false := by simpa using h6
                clear h6
                go_wp2_with fail
                go_meet
                case rel => exact ⟨_, _, _, rfl, Lib.hid (by rw [HB6.out]; exact HR3.out), HB3⟩
            case rest =>
              obtain ⟨ra, rn, rc, rfl, HR4, HB4⟩ := hcut
              obtain ⟨w4, hw4⟩ : ∃ w4, w4 = wc := ⟨_, rfl⟩
              subst hw4
              have hz4 : W0.heap.size ≤ w4.heap.size := HB4.out.size
              have hbnl := p.bnd_len
              obtain ⟨_, hS4⟩ := HR4.out.strs (by have := HN.out; rw [List.length_append]; unfold maxLen; omega)
              obtain ⟨pa1, len1, cap1, e1, hl1, hm1, hg1⟩ := StrSl.open hS4
              simp only [Value.slice.injEq] at e1
              obtain ⟨rfl, rfl, rfl⟩ := e1
              have HE4 : Hid (∀ W, Below w4.heap.size w4 W → SLies W (.slice ra rn rc) (sc ++ p.bnd)) := Lib.hid (fun W hW => SLies.to (w := w4) (StrSl.mono (fun k hk => hk.2) hS4) hW)
              have HRG : Hid (∀ m s, p.bnd[m]? = some s → ∃ kb ko, ra = some ⟨kb, ko, none⟩ ∧ ∀ W, Below w4.heap.size w4 W → W.cell? ⟨kb, ko + (bn + m), none⟩ = some (.string s)) := Lib.hid (fun m s hm => by
                obtain ⟨h1, kb, ko, e, hkb, hc⟩ := hg1 (bn + m) s (by rw [List.getElem?_append_right (by rw [HBN.out]; omega), HBN.out, Nat.add_sub_cancel_left]; exact hm)
                exact ⟨kb, ko, e, fun W hW => (hW.cell (p := ⟨kb, _, none⟩) hkb.2).trans hc⟩)
              have hrn : rn = bn + p.bnd.length := by rw [hl1.out, List.length_append, HBN.out]
              obtain ⟨bl, hbl⟩ : ∃ x, p.bnd.length = x := ⟨_, rfl⟩
              rw [hbl] at hrn hbnl
              have HBL := Lib.hid hbl
              have hbn6 : bn ≤ 1000000 := by have := HN.out; have := HBN.out; omega
              clear hS4 hl1 hg1 HR4 HR3 HB3 hbl c0 c1 c2
              subst hrn
              go_wp2_with fail
              go_loopw [11] (fun i wr => ∃ m : Nat, i = .int .i64 ((bn + m : Nat) : Int) ∧ m ≤ bl ∧ Hid ((p.bnd.take m).any (fun s => memB s sc) = false) ∧ Hid (Below w4.heap.size w4 wr)) (fun i _ => bn + bl - (intOf i).toNat)
              case atStart => exact ⟨0, by simp, by omega, Lib.hid (by simp), Lib.hid (Below.refl _ _)⟩
              case round =>
                obtain ⟨m, rfl, hm, HT2, HBm⟩ := hrel
                obtain ⟨wo2, hwo2⟩ : ∃ wo2, wo2 = wr := ⟨_, rfl⟩
                subst hwo2
                have HBw : Hid (Below W0.heap.size W0 wo2) := Lib.hid (HB4.out.trans (HBm.out.mono hz4))
                by_cases hlt2 : m < bl
                · obtain ⟨s, hsj⟩ : ∃ s, p.bnd[m]? = some s := ⟨_, List.getElem?_eq_getElem (by rw [HBL.out]; exact hlt2)⟩
                  obtain ⟨gb, go, rfl, hcs⟩ := HRG.out m s hsj
                  have q0 := hcs wo2 HBm.out
                  obtain ⟨hA1, hA2⟩ := any_take (fun s => memB s sc) hsj HT2.out
                  obtain ⟨mm, hmm⟩ : ∃ mm, memB s sc = mm := ⟨_, rfl⟩
                  simp only [hmm] at hA1 hA2
                  have HHX := Lib.hid (HIN.out s mm wo2 hmm HBw.out)
                  have HA1 := Lib.hid hA1
                  have HA2 := Lib.hid hA2
                  have hlt3 : bn + m < bn + bl := by omega
                  have hlt4 : decide (((bn + m : Nat) : Int) < ((bn + bl : Nat) : Int)) = true := by simp; omega
                  clear hsj hcs hA1 hA2 hmm
                  cases mm
                  · go_wp2_with (go_at_call 16; refine HHX.out.mono ?_; rintro e w3 ⟨rfl, rfl⟩)
                    go_roundw
                    case rel => exact ⟨m + 1, by go_num, by omega, HA1, HBm⟩
                    case measure => simp [intOf]; omega
                  · have HF : Hid (r = 5) := Lib.hid (by rw [← HR.out]; exact Pr.scE_ne (Pr.nodeE_5 HBD.out HA.out (HA2.out rfl)) (by omega))
                    go_wp2_with (go_at_call 16; refine HHX.out.mono ?_; rintro e w3 ⟨rfl, rfl⟩)
                    go_ret
                    exact ⟨by rw [HF.out]; rfl, (HL.out _ HBw.out).1⟩
                · obtain rfl : m = bl := by omega
                  have HA3 : Hid (p.bnd.any (fun s => memB s sc) = false) := Lib.hid (by
                    have h := HT2.out
                    rwa [List.take_of_length_le (by rw [HBL.out]; exact Nat.le_refl _)] at h)
                  obtain ⟨c0, c1, _, c4, _⟩ := hU.out wo2 HBw.out
                  go_upto_if 92 with fail
                  go_cut [12] from 15 (fun _ wc => Hid (p.nodeE (arFst g.ds) sc gd = 0) ∧ Hid (Below w4.heap.size w4 wc))
                  case first =>
                    by_cases h8 : p.k = 8
                    · have h8' : (p.k == 8) = true := by simpa using h8
                      obtain ⟨fi, hfi⟩ : ∃ x, fdI g.ds p.c = x := ⟨_, rfl⟩
                      obtain ⟨t0, t1, t2, t3, t4, t5, t6, t7, t8, t9, t10, t11, t12⟩ := (hT.out wo2 HBw.out).cells
                      have HFD := Lib.hid (rfind_any _ g p.c _ wo2 (plow wo2) (HL.out wo2 HBw.out).2.1 (fdZ fi) (by rw [hfi]))
                      have HNE : Hid (p.nodeE (arFst g.ds) sc gd = callE (arFst g.ds p.c) an' gd) := Lib.hid (by rw [Pr.nodeE_8 HBD.out HA.out HA3.out h8, HAL.out])
                      have HFI := Lib.hid hfi
                      unfold pgAgg at HFD
                      clear h8 hfi
                      cases fi with
                      | none =>
                        have HF : Hid (r = 4) := Lib.hid (by rw [← HR.out]; exact Pr.scE_ne (by rw [HNE.out, arFst_find.1 HFI.out]; rfl) (by omega))
                        simp only [fdZ] at HFD
                        go_wp2_with (go_at_call 13; refine HFD.out.mono ?_; rintro e w5 ⟨rfl, hb5⟩; replace hb5 := Lib.hid hb5)
                        go_ret
                        exact ⟨by rw [HF.out]; rfl, (HL.out _ (HBw.out.trans (hb5.out.mono HBw.out.size))).1⟩
                      | some i =>
                        have hil := fdI_lt HFI.out
                        obtain ⟨d, hd⟩ : ∃ d, g.ds[i]? = some d := ⟨_, List.getElem?_eq_getElem hil⟩
                        obtain ⟨kb, ko, rfl, hkl, ma, mc2, hdc⟩ := HDG.out i d hd
                        have har := arFst_find.2 i d HFI.out hd
                        rw [hlen'] at hil
                        obtain ⟨ml, hml⟩ : ∃ x, d.ms.length = x := ⟨_, rfl⟩
                        rw [hml] at har hdc
                        have HNE2 : Hid (p.nodeE (arFst g.ds) sc gd = if ml = an' then (if gd then 0 else 7) else 6) := Lib.hid (by rw [HNE.out, har]; rfl)
                        have HDC := Lib.hid hdc
                        simp only [fdZ] at HFD
                        clear hd har hdc hml HNE
                        go_wp2_with (go_at_call 13; refine HFD.out.mono ?_; rintro e w5 ⟨rfl, hb5⟩; replace hb5 := Lib.hid hb5)
                        have HB5 : Hid (Below W0.heap.size W0 w5) := Lib.hid (HBw.out.trans (hb5.out.mono HBw.out.size))
                        have HB45 : Hid (Below w4.heap.size w4 w5) := Lib.hid (HBm.out.trans (hb5.out.mono HBm.out.size))
                        have hz5 : W0.heap.size ≤ w5.heap.size := HB5.out.size
                        have u0 := fun Q : Later w5.heap.size w5 => (hT.out Q.1 (HB5.out.trans (Below.mono Q.2 hz5))).cells.1
                        have u1 := fun Q : Later w5.heap.size w5 => (hU.out Q.1 (HB5.out.trans (Below.mono Q.2 hz5))).2.2.2.1
                        have u2 := fun Q : Later w5.heap.size w5 => HDC.out Q.1 (HL.out Q.1 (HB5.out.trans (Below.mono Q.2 hz5))).1
                        clear t0 t1 t2 t3 t4 t5 t6 t7 t8 t9 t10 t11 t12 c0 c1 c4
                        have hni : ¬ ((i : Int) < 0) := by omega
                        by_cases he : ml = an'
                        · subst he
                          have HNE3 : Hid (p.nodeE (arFst g.ds) sc gd = if gd then 0 else 7) := Lib.hid (by rw [HNE2.out, if_pos rfl])
                          refine wp_region_later w5.heap.size w5 (by kernel_rfl) (by kernel_rfl) (Below.refl _ _) ?_
                          repeat (go_big_quiet_step (fail))
                          refine wpQuiet_nil ?_
                          rintro _ ⟨⟨w6, hb6⟩, rfl⟩
                          have HB6 := Lib.hid hb6
                          clear u0 u1 u2 hb6
                          cases gd
                          · have HF : Hid (r = 7) := Lib.hid (by rw [← HR.out]; exact Pr.scE_ne (by rw [HNE3.out]; rfl) (by omega))
                            go_wp2_with fail
                            go_ret
                            exact ⟨by rw [HF.out]; rfl, (HL.out _ (HB5.out.trans (HB6.out.mono hz5))).1⟩
                          · go_wp2_with fail
                            go_meet
                            case rel => exact ⟨Lib.hid (by rw [HNE3.out]; rfl), Lib.hid (HB45.out.trans (HB6.out.mono HB45.out.size))⟩
                        · have he1 : ((ml : Int) != (an' : Int)) = true := by simp; omega
                          have he2 : ((ml : Int) == (an' : Int)) = false := by simp; omega
                          have HF : Hid (r = 6) := Lib.hid (by rw [← HR.out]; exact Pr.scE_ne (by rw [HNE2.out, if_neg he]) (by omega))
                          refine wp_region_later w5.heap.size w5 (by kernel_rfl) (by kernel_rfl) (Below.refl _ _) ?_
                          repeat (go_big_quiet_step (fail))
                          refine wpQuiet_nil ?_
                          rintro _ ⟨⟨w6, hb6⟩, rfl⟩
                          have HB6 := Lib.hid hb6
                          clear u0 u1 u2 hb6 he
                          go_wp2_with fail
                          go_ret
                          exact ⟨by rw [HF.out]; rfl, (HL.out _ (HB5.out.trans (HB6.out.mono hz5))).1⟩
                    · have h8' : (p.k == 8) = false := by simpa using h8
                      have HNE : Hid (p.nodeE (arFst g.ds) sc gd = 0) := Lib.hid (Pr.nodeE_0 HBD.out HA.out HA3.out h8)
                      clear h8
                      go_wp2_with fail
                      go_meet
                      case rel => exact ⟨HNE, HBm⟩
                  case rest =>
                    obtain ⟨HNE, HB5⟩ := hcut
                    obtain ⟨w5, hw5⟩ : ∃ w5, w5 = wc := ⟨_, rfl⟩
                    subst hw5
                    obtain ⟨gb, hgb⟩ : ∃ x, (gd || pb) = x := ⟨_, rfl⟩
                    have HRS : Hid (r = Pr.scEs (arFst g.ds) p.ps (sc ++ p.bnd) gb) := Lib.hid (by rw [← HR.out, Pr.scE_0 HNE.out, HPB.out, hgb])
                    have HGB := Lib.hid hgb
                    clear c0 c1 c4 hgb
                    go_wp2_with fail
                    go_loopw [13] (fun i wr => ∃ j : Nat, i = .int .i64 (j : Int) ∧ j ≤ kn' ∧ Hid (Pr.scEs (arFst g.ds) (p.ps.take j) (sc ++ p.bnd) gb = 0) ∧ Hid (Below w4.heap.size w4 wr)) (fun i _ => kn' - (intOf i).toNat)
                    case atStart => exact ⟨0, rfl, by omega, Lib.hid rfl, HB5⟩
                    case round =>
                      obtain ⟨j, rfl, hj, HT3, HBj⟩ := hrel
                      obtain ⟨wo3, hwo3⟩ : ∃ wo3, wo3 = wr := ⟨_, rfl⟩
                      subst hwo3
                      have HBw3 : Hid (Below W0.heap.size W0 wo3) := Lib.hid (HB4.out.trans (HBj.out.mono hz4))
                      obtain ⟨_, _, _, _, c11⟩ := hU.out wo3 HBw3.out
                      by_cases hlt : j < kn'
                      · obtain ⟨u, huj⟩ : ∃ u, p.ps[j]? = some u := ⟨_, List.getElem?_eq_getElem (by rw [← HKL.out]; exact hlt)⟩
                        obtain ⟨kb, ko, rfl, hkb, hpa⟩ := HKG.out j u huj
                        have hum := List.mem_of_getElem? huj
                        have hud := Pr.depth_mem hum
                        obtain ⟨x, hx⟩ : ∃ x, u.scE (arFst g.ds) (sc ++ p.bnd) gb = x := ⟨_, rfl⟩
                        obtain ⟨hn1, hn2⟩ := Pr.scEs_next huj HT3.out hx
                        have hlw := (HL.out wo3 HBw3.out).1
                        obtain ⟨la1, ln1, lc1, aa1, an1, ac1, ta1, tn1, tc1, ua1, un1, uc1, ka1, kn1, kc1, ⟨d0, d1, d2, d3, d4, d5, d6, d7, d8, d9, d10, d11⟩, hval⟩ := (hpa wo3 hlw).load'
                        have hplies : PLies wo3 (prAgg u (.slice la1 ln1 lc1) (.slice aa1 an1 ac1) (.slice ta1 tn1 tc1) (.slice ua1 un1 uc1) (.slice ka1 kn1 kc1)) u := hval.mono (fun k hk => Nat.lt_of_lt_of_le hk hlw.size)
                        have hnn := HN.out
                        have hzw : W0.heap.size ≤ wo3.heap.size := HBw3.out.size
                        have HXA : Hid (∀ W, Below wo3.heap.size wo3 W → Calls Tryz.prog 23 #[pgAgg g (.slice pa len c) (.slice gla gln glc) (.slice gaa gan gac) (.slice gta gtn gtc) (.slice gua gun guc) (.slice gka gkn gkc), prAgg u (.slice la1 ln1 lc1) (.slice aa1 an1 ac1) (.slice ta1 tn1 tc1) (.slice ua1 un1 uc1) (.slice ka1 kn1 kc1), .slice ra (bn + m) rc, .bool gb] W fun e w' => e = .returned (.int .i64 x) ∧ Below W.heap.size W w') := Lib.hid (fun W hW =>
                          HIH.out u hum _ _ _ (sc ++ p.bnd) gb W x (HL.out W (HBw3.out.trans (hW.mono hzw))).2.1 (hplies.to hW) (HE4.out W (HBj.out.trans (hW.mono HBj.out.size))) (by rw [List.length_append]; have := p.bnd_len; omega) hx)
                        have HN1 := Lib.hid hn1
                        have HN2 := Lib.hid hn2
                        have kt := fun Q : Later wo3.heap.size wo3 => (hT.out Q.1 (HBw3.out.trans (Below.mono Q.2 hzw))).cells
                        have y0 := fun Q : Later wo3.heap.size wo3 => (hU.out Q.1 (HBw3.out.trans (Below.mono Q.2 hzw))).1
                        have y11 := fun Q : Later wo3.heap.size wo3 => (hU.out Q.1 (HBw3.out.trans (Below.mono Q.2 hzw))).2.2.2.2
                        have hkw : kb < wo3.heap.size := Nat.lt_of_lt_of_le hkb hlw.size
                        have lift : ∀ {i : Nat} {v : Value}, wo3.cell? ⟨kb, i, none⟩ = some v → ∀ Q : Later wo3.heap.size wo3, Q.1.cell? ⟨kb, i, none⟩ = some v := fun h Q => (Below.cell Q.2 (p := ⟨kb, _, none⟩) hkw).trans h
                        have v0 := lift d0; have v1 := lift d1; have v2 := lift d2; have v3 := lift d3; have v4 := lift d4; have v5 := lift d5; have v6 := lift d6; have v7 := lift d7; have v8 := lift d8; have v9 := lift d9; have v10 := lift d10; have v11 := lift d11
                        simp only [forall_and] at kt
                        obtain ⟨t0, t1, t2, t3, t4, t5, t6, t7, t8, t9, t10, t11, t12⟩ := kt
                        unfold pgAgg prAgg at HXA
                        clear huj hpa hum hud hx hn1 hn2 hlw hval hplies hnn lift d0 d1 d2 d3 d4 d5 d6 d7 d8 d9 d10 d11
                        go_wp2_with fail
                        clear c11
                        have gc : gd = true ∨ gd = false := by cases gd <;> simp
                        rcases gc with rfl | rfl
                        · obtain rfl : gb = true := by rw [← HGB.out]; rfl
                          refine wp_region_later wo3.heap.size wo3 (by kernel_rfl) (by kernel_rfl) (Below.refl _ _) ?_
                          repeat (go_big_quiet_step ((go_at_call 23; exact later_call _ (Nat.le_refl _) (HXA.out _ (Subtype.property _)))))
                          refine wpQuiet_nil ?_
                          rintro _ ⟨⟨w9, hb9⟩, rfl⟩
                          have HB9 := Lib.hid hb9
                          clear hb9 t0 t1 t2 t3 t4 t5 t6 t7 t8 t9 t10 t11 t12 y0 y11 v0 v1 v2 v3 v4 v5 v6 v7 v8 v9 v10 v11
                          by_cases hx0 : x = 0
                          · subst hx0
                            go_wp2_with fail
                            go_roundw
                            case rel => exact ⟨j + 1, by go_num, by omega, HN1, Lib.hid (HBj.out.trans (HB9.out.mono HBj.out.size))⟩
                            case measure => simp [intOf]; omega
                          · have hx1 : (x != 0) = true := by simpa using hx0
                            have HF : Hid (r = x) := Lib.hid (by rw [HRS.out]; exact HN2.out hx0)
                            clear hx0
                            go_wp2_with fail
                            go_ret
                            exact ⟨by rw [HF.out]; rfl, (HL.out _ (HBw3.out.trans (HB9.out.mono (Nat.le_trans hz4 HBj.out.size)))).1⟩
                        · obtain rfl : gb = pb := by rw [← HGB.out]; rfl
                          by_cases k2 : 2 ≤ p.k
                          · have k2' : decide (2 ≤ p.k) = true := by simpa using k2
                            by_cases k5 : p.k ≤ 5
                            · have k5' : decide (p.k ≤ 5) = true := by simpa using k5
                              obtain rfl : gb = true := by rw [HPE.out, k2', k5']; rfl
                              refine wp_region_later wo3.heap.size wo3 (by kernel_rfl) (by kernel_rfl) (Below.refl _ _) ?_
                              repeat (go_big_quiet_step ((go_at_call 23; exact later_call _ (Nat.le_refl _) (HXA.out _ (Subtype.property _)))))
                              refine wpQuiet_nil ?_
                              rintro _ ⟨⟨w9, hb9⟩, rfl⟩
                              have HB9 := Lib.hid hb9
                              clear hb9 t0 t1 t2 t3 t4 t5 t6 t7 t8 t9 t10 t11 t12 y0 y11 v0 v1 v2 v3 v4 v5 v6 v7 v8 v9 v10 v11
                              by_cases hx0 : x = 0
                              · subst hx0
                                go_wp2_with fail
                                go_roundw
                                case rel => exact ⟨j + 1, by go_num, by omega, HN1, Lib.hid (HBj.out.trans (HB9.out.mono HBj.out.size))⟩
                                case measure => simp [intOf]; omega
                              · have hx1 : (x != 0) = true := by simpa using hx0
                                have HF : Hid (r = x) := Lib.hid (by rw [HRS.out]; exact HN2.out hx0)
                                clear hx0
                                go_wp2_with fail
                                go_ret
                                exact ⟨by rw [HF.out]; rfl, (HL.out _ (HBw3.out.trans (HB9.out.mono (Nat.le_trans hz4 HBj.out.size)))).1⟩
                            · have k5' : decide (p.k ≤ 5) = false := by simpa using k5
                              obtain rfl : gb = false := by rw [HPE.out, k2', k5']; rfl
                              refine wp_region_later wo3.heap.size wo3 (by kernel_rfl) (by kernel_rfl) (Below.refl _ _) ?_
                              repeat (go_big_quiet_step ((go_at_call 23; exact later_call _ (Nat.le_refl _) (HXA.out _ (Subtype.property _)))))
                              refine wpQuiet_nil ?_
                              rintro _ ⟨⟨w9, hb9⟩, rfl⟩
                              have HB9 := Lib.hid hb9
                              clear hb9 t0 t1 t2 t3 t4 t5 t6 t7 t8 t9 t10 t11 t12 y0 y11 v0 v1 v2 v3 v4 v5 v6 v7 v8 v9 v10 v11
                              by_cases hx0 : x = 0
                              · subst hx0
                                go_wp2_with fail
                                go_roundw
                                case rel => exact ⟨j + 1, by go_num, by omega, HN1, Lib.hid (HBj.out.trans (HB9.out.mono HBj.out.size))⟩
                                case measure => simp [intOf]; omega
                              · have hx1 : (x != 0) = true := by simpa using hx0
                                have HF : Hid (r = x) := Lib.hid (by rw [HRS.out]; exact HN2.out hx0)
                                clear hx0
                                go_wp2_with fail
                                go_ret
                                exact ⟨by rw [HF.out]; rfl, (HL.out _ (HBw3.out.trans (HB9.out.mono (Nat.le_trans hz4 HBj.out.size)))).1⟩
                          · have k2' : decide (2 ≤ p.k) = false := by simpa using k2
                            obtain rfl : gb = false := by rw [HPE.out, k2']; rfl
                            refine wp_region_later wo3.heap.size wo3 (by kernel_rfl) (by kernel_rfl) (Below.refl _ _) ?_
                            repeat (go_big_quiet_step ((go_at_call 23; exact later_call _ (Nat.le_refl _) (HXA.out _ (Subtype.property _)))))
                            refine wpQuiet_nil ?_
                            rintro _ ⟨⟨w9, hb9⟩, rfl⟩
                            have HB9 := Lib.hid hb9
                            clear hb9 t0 t1 t2 t3 t4 t5 t6 t7 t8 t9 t10 t11 t12 y0 y11 v0 v1 v2 v3 v4 v5 v6 v7 v8 v9 v10 v11
                            by_cases hx0 : x = 0
                            · subst hx0
                              go_wp2_with fail
                              go_roundw
                              case rel => exact ⟨j + 1, by go_num, by omega, HN1, Lib.hid (HBj.out.trans (HB9.out.mono HBj.out.size))⟩
                              case measure => simp [intOf]; omega
                            · have hx1 : (x != 0) = true := by simpa using hx0
                              have HF : Hid (r = x) := Lib.hid (by rw [HRS.out]; exact HN2.out hx0)
                              clear hx0
                              go_wp2_with fail
                              go_ret
                              exact ⟨by rw [HF.out]; rfl, (HL.out _ (HBw3.out.trans (HB9.out.mono (Nat.le_trans hz4 HBj.out.size)))).1⟩
                      · obtain rfl : kn' = j := by omega
                        have HF : Hid (r = 0) := Lib.hid (by
                          have h := HT3.out
                          rw [List.take_of_length_le (by rw [HKL.out]; exact Nat.le_refl _)] at h
                          rw [HRS.out, h])
                        go_wp2_with fail
                        go_ret
                        exact ⟨by rw [HF.out]; rfl, (HL.out _ HBw3.out).1⟩
    · have HF : Hid (r = 4) := Lib.hid (by rw [← HR.out]; exact Pr.scE_ne (Pr.nodeE_4a HBD.out) (by omega))
      go_wp2_with fail
      go_ret
      exact ⟨by rw [HF.out]; rfl, (HL.out _ HB1.out).1⟩

end Go.Proofs.YtgmdmbmkljbgiaaGreatDoor

/- Processes: the reference's name, value, plain. -/
namespace Go.Proofs.YtgmdmbmkljbgiaaGreatDoor
open Go.RowKit Go.Deep Go.Shelf

set_option maxHeartbeats 400000 in
theorem rpname_any (x : ByteArray) (b : Bool) (hb : nameB x = b) (hx : x.size ≤ maxLen) (w : World) : Calls Tryz.prog 35 #[.string x] w fun e w' => e = .returned (.bool b) ∧ Below w.heap.size w w' := by
  have HN := Lib.hid (fun W => name_is x b hb (by unfold maxLen at hx; omega) W)
  clear hb hx
  go_enter Tryz.func35, Tryz.ntmps35
  go_wp2_with (go_at_call 53; refine (HN.out _).mono ?_; rintro e w2 ⟨rfl, hb2⟩)
  go_ret
  exact ⟨rfl, hb2⟩

set_option maxHeartbeats 2000000 in
set_option maxRecDepth 100000 in
theorem rvalue_any (k y : Int) (n : ByteArray) (b : Bool) (hb : vlB ⟨k, n, y⟩ = b) (hn : n.size ≤ maxLen) (w : World) : Calls Tryz.prog 98 #[.agg #[.int .i64 k, .string n, .int .i64 y]] w fun e w' => e = .returned (.bool b) ∧ Below w.heap.size w w' := by
  obtain ⟨nb, hnb⟩ : ∃ b, nameB n = b := ⟨_, rfl⟩
  have HN := Lib.hid (fun W => rpname_any n nb hnb hn W)
  have hv : vlB ⟨k, n, y⟩ = if k = 1 then nb && y == 0 else if k = 2 then n.toList.isEmpty else if k = 3 then n.toList.isEmpty && (y == 0 || y == 1) else false := by unfold vlB; simp only [hnb]
  rw [← hb, hv]
  clear hv hnb hb hn
  by_cases h1 : k = 1
  · subst h1
    rw [if_pos rfl]
    go_enter Tryz.func98, Tryz.ntmps98
    go_wp2_with (go_at_call 35; refine (HN.out _).mono ?_; rintro e w2 ⟨rfl, hb2⟩; obtain ⟨hcl, hfz⟩ := bcell hb2)
    all_goals (go_ret; refine ⟨ret_bool ?_, ?_⟩; rotate_left; (first | exact blkBelow w _ _ | exact below_seq (blkBelow w _ _) (by assumption)); clear HN; (try simp_all); (try (rw [Bool.eq_iff_iff]; simp)); (try omega))
  · by_cases h2 : k = 2
    · subst h2
      rw [if_neg h1, if_pos rfl]
      go_enter Tryz.func98, Tryz.ntmps98
      go_wp2_with fail
      all_goals (go_ret; refine ⟨ret_bool ?_, ?_⟩; rotate_left; (first | exact blkBelow w _ _ | exact below_seq (blkBelow w _ _) (by assumption)); clear HN; (try simp_all); (try (rw [Bool.eq_iff_iff]; simp)); (try omega))
    · by_cases h3 : k = 3
      · subst h3
        rw [if_neg h1, if_neg h2, if_pos rfl]
        go_enter Tryz.func98, Tryz.ntmps98
        go_wp2_with fail
        all_goals (go_ret; refine ⟨ret_bool ?_, ?_⟩; rotate_left; (first | exact blkBelow w _ _ | exact below_seq (blkBelow w _ _) (by assumption)); clear HN; (try simp_all); (try (rw [Bool.eq_iff_iff]; simp)); (try omega))
      · rw [if_neg h1, if_neg h2, if_neg h3]
        have e1 : (k == 1) = false := by simpa using h1
        have e2 : (k == 2) = false := by simpa using h2
        have e3 : (k == 3) = false := by simpa using h3
        clear h1 h2 h3
        go_enter Tryz.func98, Tryz.ntmps98
        go_wp2_with fail
        all_goals (go_ret; refine ⟨ret_bool ?_, ?_⟩; rotate_left; (first | exact blkBelow w _ _ | exact below_seq (blkBelow w _ _) (by assumption)); clear HN; (try simp_all); (try (rw [Bool.eq_iff_iff]; simp)); (try omega))

set_option maxHeartbeats 1000000 in
set_option maxRecDepth 100000 in
theorem rplain_any (B : Nat → Prop) (p : Pr) (b : Bool) (hb : eqB p.t default = b) (v : Value) (w : World) (hB : Low B w) (hv : PrVal B w v p) : Calls Tryz.prog 99 #[v] w fun e w' => e = .returned (.bool b) ∧ Below w.heap.size w w' := by
  obtain ⟨lv, av, tl, tk, kv, rfl, _, hl, ha, ht, hk⟩ := hv
  obtain ⟨⟨ta, tn, tc, rfl⟩, ua, un, uc, rfl⟩ := slices_of ht
  have HY : Hid (∀ W, Below w.heap.size w W → Calls Tryz.prog 117 #[.agg #[.int .i64 p.t.k, .int .i64 p.t.p, .string p.t.n, .int .i64 p.t.s, .slice ta tn tc, .slice ua un uc], .agg #[.int .i64 0, .int .i64 0, .string ⟨#[]⟩, .int .i64 0, .slice none 0 0, .slice none 0 0]] W fun e w' => e = .returned (.bool b) ∧ Below W.heap.size W w') := Lib.hid (fun W hW => by
    rw [← hb]; exact rsame_any B p.t default _ _ W (hB.le hW.size) (ht.keep (hW.keeps'.mono hB)) (tyVal_zero B W))
  obtain ⟨la, ln, lc, rfl, _⟩ := hl.open
  obtain ⟨aa, an, ac, rfl, _⟩ := ha.open
  obtain ⟨ka, kn, kc, rfl, _⟩ := hk.open
  clear hb ht hl ha hk
  unfold prAgg
  go_enter Tryz.func99, Tryz.ntmps99
  go_wp2_with (go_at_call 117; refine (HY.out _ (blkBelow w _ _)).mono ?_; rintro e w2 ⟨rfl, hb2⟩)
  go_ret
  exact ⟨rfl, below_seq (blkBelow w _ _) hb2⟩

theorem gnext {w wr w2 : World} {cs : Array Value} {t : TypeId} (h : Below (w.heap.size + 1) (w.alloc (.cells cs t)) wr) (g : Below wr.heap.size wr w2) : Below (w.heap.size + 1) (w.alloc (.cells cs t)) w2 :=
  h.trans (g.mono (by have := h.size; simpa using this))

end Go.Proofs.YtgmdmbmkljbgiaaGreatDoor

/- Processes: what a node of each kind has to be, in the reference's order. -/
namespace Go.Proofs.YtgmdmbmkljbgiaaGreatDoor
open Go.RowKit Go.Deep Go.Shelf

theorem vlsB_nil {vs : List Vl} (h : decide (vs.length = 0) = true) : vlsB vs = true := by
  obtain rfl : vs = [] := List.eq_nil_of_length_eq_zero (of_decide_eq_true h)
  simp [vlsB]
theorem labelsB_one {ls : List ByteArray} {s : ByteArray} (h : ls = [s]) : labelsB ls = nameB s := by subst h; simp [labelsB]

theorem okN_1 (c x : ByteArray) (ls : List ByteArray) (vs : List Vl) (t : Ty) (ps : List Pr) :
    (Pr.mk 1 c x ls vs t ps).okN = (vlsB vs && (c.toList.isEmpty && (x.toList.isEmpty && (decide (vs.length = 0) && (decide (ls.length = 0) && (decide (ps.length = 0) && eqB t default)))))) := by
  have e : (Pr.mk 1 c x ls vs t ps).okN = (true && (c.toList.isEmpty && ((x.toList.isEmpty) && ((decide (ls.length = 0)) && ((decide (vs.length = 0)) && ((eqB t default) && (decide (ps.length = 0)))))))) := rfl
  have h0 := @vlsB_nil vs
  rw [e]
  clear e
  generalize c.toList.isEmpty = a3 at *
  generalize x.toList.isEmpty = a4 at *
  generalize (decide (vs.length = 0)) = a5 at *
  generalize (decide (ls.length = 0)) = a7 at *
  generalize (decide (ps.length = 0)) = b3 at *
  generalize (eqB t default) = b8 at *
  generalize (vlsB vs) = c1 at *
  revert h0 a3 a4 a5 a7 b3 b8 c1
  decide
theorem okN_2 (c x : ByteArray) (ls : List ByteArray) (vs : List Vl) (t : Ty) (ps : List Pr) :
    (Pr.mk 2 c x ls vs t ps).okN = (vlsB vs && (nameB c && (x.toList.isEmpty && (decide (vs.length = 1) && (decide (ls.length = 0) && (decide (ps.length = 1) && eqB t default)))))) := by
  have e : (Pr.mk 2 c x ls vs t ps).okN = (true && (nameB c && ((x.toList.isEmpty) && ((decide (ls.length = 0)) && ((decide (vs.length = 1) && vlsB vs) && ((eqB t default) && (decide (ps.length = 1)))))))) := rfl
  have h0 := @vlsB_nil vs
  rw [e]
  clear e
  generalize (nameB c) = a1 at *
  generalize x.toList.isEmpty = a4 at *
  generalize (decide (vs.length = 0)) = a5 at *
  generalize (decide (vs.length = 1)) = a6 at *
  generalize (decide (ls.length = 0)) = a7 at *
  generalize (decide (ps.length = 1)) = b4 at *
  generalize (eqB t default) = b8 at *
  generalize (vlsB vs) = c1 at *
  revert h0 a1 a4 a5 a6 a7 b4 b8 c1
  decide
theorem okN_3 (c x : ByteArray) (ls : List ByteArray) (vs : List Vl) (t : Ty) (ps : List Pr) :
    (Pr.mk 3 c x ls vs t ps).okN = (vlsB vs && (nameB c && (nameB x && (decide (vs.length = 0) && (decide (ls.length = 0) && (decide (ps.length = 1) && eqB t default)))))) := by
  have e : (Pr.mk 3 c x ls vs t ps).okN = (true && (nameB c && ((nameB x) && ((decide (ls.length = 0)) && ((decide (vs.length = 0)) && ((eqB t default) && (decide (ps.length = 1)))))))) := rfl
  have h0 := @vlsB_nil vs
  rw [e]
  clear e
  generalize (nameB c) = a1 at *
  generalize (nameB x) = a2 at *
  generalize (decide (vs.length = 0)) = a5 at *
  generalize (decide (ls.length = 0)) = a7 at *
  generalize (decide (ps.length = 1)) = b4 at *
  generalize (eqB t default) = b8 at *
  generalize (vlsB vs) = c1 at *
  revert h0 a1 a2 a5 a7 b4 b8 c1
  decide
theorem okN_4 (c x : ByteArray) (ls : List ByteArray) (vs : List Vl) (t : Ty) (ps : List Pr) :
    (Pr.mk 4 c x ls vs t ps).okN = (vlsB vs && (nameB c && (x.toList.isEmpty && (decide (vs.length = 0) && (decide (ls.length = 1) && (labelsB ls && (decide (ps.length = 1) && eqB t default))))))) := by
  have e : (Pr.mk 4 c x ls vs t ps).okN = (true && (nameB c && ((x.toList.isEmpty) && ((decide (ls.length = 1) && labelsB ls) && ((decide (vs.length = 0)) && ((eqB t default) && (decide (ps.length = 1)))))))) := rfl
  have h0 := @vlsB_nil vs
  rw [e]
  clear e
  generalize (nameB c) = a1 at *
  generalize x.toList.isEmpty = a4 at *
  generalize (decide (vs.length = 0)) = a5 at *
  generalize (decide (ls.length = 1)) = a8 at *
  generalize (labelsB ls) = b1 at *
  generalize (decide (ps.length = 1)) = b4 at *
  generalize (eqB t default) = b8 at *
  generalize (vlsB vs) = c1 at *
  revert h0 a1 a4 a5 a8 b1 b4 b8 c1
  decide
theorem okN_5 (c x : ByteArray) (ls : List ByteArray) (vs : List Vl) (t : Ty) (ps : List Pr) :
    (Pr.mk 5 c x ls vs t ps).okN = (vlsB vs && (nameB c && (x.toList.isEmpty && (decide (vs.length = 0) && (decide (0 < ls.length) && (labelsB ls && (decide (ps.length = ls.length) && eqB t default))))))) := by
  have e : (Pr.mk 5 c x ls vs t ps).okN = (true && (nameB c && ((x.toList.isEmpty) && ((labelsB ls && decide (0 < ls.length)) && ((decide (vs.length = 0)) && ((eqB t default) && (decide (ps.length = ls.length)))))))) := rfl
  have h0 := @vlsB_nil vs
  rw [e]
  clear e
  generalize (nameB c) = a1 at *
  generalize x.toList.isEmpty = a4 at *
  generalize (decide (vs.length = 0)) = a5 at *
  generalize (labelsB ls) = b1 at *
  generalize (decide (0 < ls.length)) = b2 at *
  generalize (decide (ps.length = ls.length)) = b5 at *
  generalize (eqB t default) = b8 at *
  generalize (vlsB vs) = c1 at *
  revert h0 a1 a4 a5 b1 b2 b5 b8 c1
  decide
theorem okN_6 (c x : ByteArray) (ls : List ByteArray) (vs : List Vl) (t : Ty) (ps : List Pr) :
    (Pr.mk 6 c x ls vs t ps).okN = (vlsB vs && (nameB c && (nameB x && (!decide (x = c) && (decide (vs.length = 0) && (decide (ls.length = 0) && (decide (ps.length = 1) && (rightE t == 0 && (t.k != 1 && t.k != 2))))))))) := by
  have e : (Pr.mk 6 c x ls vs t ps).okN = (true && (nameB c && ((nameB x && !decide (x = c)) && ((decide (ls.length = 0)) && ((decide (vs.length = 0)) && (((t.k != 1 && t.k != 2) && rightE t == 0) && (decide (ps.length = 1)))))))) := rfl
  have h0 := @vlsB_nil vs
  rw [e]
  clear e
  generalize (nameB c) = a1 at *
  generalize (nameB x) = a2 at *
  generalize (decide (vs.length = 0)) = a5 at *
  generalize (decide (ls.length = 0)) = a7 at *
  generalize (decide (ps.length = 1)) = b4 at *
  generalize (vlsB vs) = c1 at *
  generalize (decide (x = c)) = c2 at *
  generalize (rightE t == 0) = c3 at *
  generalize (t.k != 1 && t.k != 2) = c4 at *
  revert h0 a1 a2 a5 a7 b4 c1 c2 c3 c4
  decide
theorem okN_7 (c x : ByteArray) (ls : List ByteArray) (vs : List Vl) (t : Ty) (ps : List Pr) :
    (Pr.mk 7 c x ls vs t ps).okN = (vlsB vs && (decide (∀ p ∈ ps, p.k ≠ 7) && (c.toList.isEmpty && (x.toList.isEmpty && (decide (vs.length = 0) && (decide (ls.length = 0) && (decide (1 < ps.length) && eqB t default))))))) := by
  have e : (Pr.mk 7 c x ls vs t ps).okN = (true && (c.toList.isEmpty && ((x.toList.isEmpty) && ((decide (ls.length = 0)) && ((decide (vs.length = 0)) && ((eqB t default) && (decide (∀ p ∈ ps, p.k ≠ 7) && decide (1 < ps.length)))))))) := rfl
  have h0 := @vlsB_nil vs
  rw [e]
  clear e
  generalize c.toList.isEmpty = a3 at *
  generalize x.toList.isEmpty = a4 at *
  generalize (decide (vs.length = 0)) = a5 at *
  generalize (decide (ls.length = 0)) = a7 at *
  generalize (decide (∀ p ∈ ps, p.k ≠ 7)) = b6 at *
  generalize (decide (1 < ps.length)) = b7 at *
  generalize (eqB t default) = b8 at *
  generalize (vlsB vs) = c1 at *
  revert h0 a3 a4 a5 a7 b6 b7 b8 c1
  decide
theorem okN_8 (c x : ByteArray) (ls : List ByteArray) (vs : List Vl) (t : Ty) (ps : List Pr) :
    (Pr.mk 8 c x ls vs t ps).okN = (vlsB vs && (nameB c && (x.toList.isEmpty && (decide (ls.length = 0) && (decide (ps.length = 0) && eqB t default))))) := by
  have e : (Pr.mk 8 c x ls vs t ps).okN = (true && (nameB c && ((x.toList.isEmpty) && ((decide (ls.length = 0)) && ((vlsB vs) && ((eqB t default) && (decide (ps.length = 0)))))))) := rfl
  have h0 := @vlsB_nil vs
  rw [e]
  clear e
  generalize (nameB c) = a1 at *
  generalize x.toList.isEmpty = a4 at *
  generalize (decide (vs.length = 0)) = a5 at *
  generalize (decide (ls.length = 0)) = a7 at *
  generalize (decide (ps.length = 0)) = b3 at *
  generalize (eqB t default) = b8 at *
  generalize (vlsB vs) = c1 at *
  revert h0 a1 a4 a5 a7 b3 b8 c1
  decide
theorem okN_0 (k : Int) (c x : ByteArray) (ls : List ByteArray) (vs : List Vl) (t : Ty) (ps : List Pr) (hk : k < 1 ∨ 8 < k) : (Pr.mk k c x ls vs t ps).okN = false := by
  have e : pknK k = false := by unfold pknK; rw [Bool.eq_false_iff]; simp; omega
  have : (Pr.mk k c x ls vs t ps).okN = (pknK k && (Pr.mk k c x ls vs t ps).shp) := rfl
  rw [this, e, Bool.false_and]

end Go.Proofs.YtgmdmbmkljbgiaaGreatDoor
