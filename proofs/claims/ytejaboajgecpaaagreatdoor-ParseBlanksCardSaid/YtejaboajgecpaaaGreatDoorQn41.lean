/- Programs: lemmas. -/
import Derived.Test.YtejaboajgecpaaaGreatDoorQn40
set_option maxHeartbeats 16000000
set_option maxRecDepth 100000
namespace Go.Proofs.YtejaboajgecpaaaGreatDoor
open Go.RowKit Go.Deep Go.Shelf
theorem pr_slices {B : Nat -> Prop} {w : World} {p : Pr} {lv av tl tk kv : Value} (h : PrVal B w (prAgg p lv av tl tk kv) p) :
 (∃ (a : Option Addr) (n c : Nat), lv = .slice a n c) /\ (∃ (a : Option Addr) (n c : Nat), av = .slice a n c) /\ (∃ (a : Option Addr) (n c : Nat), tl = .slice a n c) /\ (∃ (a : Option Addr) (n c : Nat), tk = .slice a n c) /\ ∃ (a : Option Addr) (n c : Nat), kv = .slice a n c := by
 obtain ⟨lv', av', tl', tk', kv', e, _, hl, ha, ht, hk⟩ := h
 simp only [prAgg, Value.agg.injEq, Array.mk.injEq, List.cons.injEq, and_true, true_and] at e
 obtain ⟨rfl, rfl, rfl, rfl, rfl⟩ := e
 obtain ⟨a1, n1, c1, e1, _⟩ := hl.open
 obtain ⟨a2, n2, c2, e2, _⟩ := ha.open
 obtain ⟨a3, n3, c3, e3, _⟩ := hk.open
 obtain ⟨s1, s2⟩ := slices_of ht
 exact ⟨⟨_, _, _, e1⟩, ⟨_, _, _, e2⟩, s1, s2, ⟨_, _, _, e3⟩⟩
end Go.Proofs.YtejaboajgecpaaaGreatDoor
namespace Go.Proofs.YtejaboajgecpaaaGreatDoor
open Go.Lib (hid)
open Go.RowKit Go.Deep Go.Shelf
abbrev cell14 (d : Df) (mv lv av tl tk kv : Value) : Obj := .cells #[.string d.n, mv, .int .i64 d.b.k, .string d.b.c, .string d.b.x, lv, av, .int .i64 d.b.t.k, .int .i64 d.b.t.p, .string d.b.t.n, .int .i64 d.b.t.s, tl, tk, kv] 61
theorem df_ext {d d' : Df} (h1 : d.n = d'.n) (h2 : d.ms = d'.ms) (h3 : d.b = d'.b) : d = d' := by cases d; cases d'; simp_all
theorem pm_ext {a a' : Pm} (h1 : a.n = a'.n) (h2 : a.t = a'.t) : a = a' := by cases a; cases a'; simp_all
theorem cell_past {w : World} {b x : Nat} {v : Value} (hb : b < w.heap.size) (h : w.cell? ⟨b, x, none⟩ = some v) : ∀ o, (w.alloc o).cell? ⟨b, x, none⟩ = some v := fun o => (((Below.refl w.heap.size w).alloc (Nat.le_refl _) o).cell (p := ⟨b, x, none⟩) hb).trans h
theorem rsameProgram_any (B : Nat -> Prop) (p q : Pg) (v v' : Value) (w : World) (hB : Low B w) (hv : PgVal B w v p) (hv' : PgVal B w v' q) :
 Calls Tryz.prog 11 #[v, v'] w fun e w' => e = .returned (.bool (eqG p q)) /\ Below w.heap.size w w' := by
 obtain ⟨dv, lv, av, tl, tk, kv, rfl, hd, hp⟩ := hv
 obtain ⟨dv', lv', av', tl', tk', kv', rfl, hd', hp'⟩ := hv'
 obtain ⟨⟨la, ln, lc, rfl⟩, ⟨aa, an, ac, rfl⟩, ⟨ta, tn, tc, rfl⟩, ⟨ua, un, uc, rfl⟩, ka, kn, kc, rfl⟩ := pr_slices hp
 obtain ⟨⟨la', ln', lc', rfl⟩, ⟨aa', an', ac', rfl⟩, ⟨ta', tn', tc', rfl⟩, ⟨ua', un', uc', rfl⟩, ka', kn', kc', rfl⟩ := pr_slices hp'
 obtain ⟨pa, len, c, rfl, hlen, hmx, hget⟩ := hd.open
 obtain ⟨pa', len', c', rfl, hlen', hmx', hget'⟩ := hd'.open
 have hb0 : Below w.heap.size w ((w.alloc (cell13 p (.slice pa len c) (.slice la ln lc) (.slice aa an ac) (.slice ta tn tc) (.slice ua un uc) (.slice ka kn kc))).alloc (cell13 q (.slice pa' len' c') (.slice la' ln' lc') (.slice aa' an' ac') (.slice ta' tn' tc') (.slice ua' un' uc') (.slice ka' kn' kc'))) := box2_below w _ _
 obtain ⟨r, hr⟩ := ex1 (eqG p q)
 obtain ⟨b1, hb1⟩ : ∃ b, eqP p.m q.m = b := ⟨_, rfl⟩
 have HM : Hid (Calls Tryz.prog 15 #[prAgg p.m (.slice la ln lc) (.slice aa an ac) (.slice ta tn tc) (.slice ua un uc) (.slice ka kn kc), prAgg q.m (.slice la' ln' lc') (.slice aa' an' ac') (.slice ta' tn' tc') (.slice ua' un' uc') (.slice ka' kn' kc')] ((w.alloc (cell13 p (.slice pa len c) (.slice la ln lc) (.slice aa an ac) (.slice ta tn tc) (.slice ua un uc) (.slice ka kn kc))).alloc (cell13 q (.slice pa' len' c') (.slice la' ln' lc') (.slice aa' an' ac') (.slice ta' tn' tc') (.slice ua' un' uc') (.slice ka' kn' kc'))) fun e w' => e = .returned (.bool b1) /\ Below ((w.alloc (cell13 p (.slice pa len c) (.slice la ln lc) (.slice aa an ac) (.slice ta tn tc) (.slice ua un uc) (.slice ka kn kc))).alloc (cell13 q (.slice pa' len' c') (.slice la' ln' lc') (.slice aa' an' ac') (.slice ta' tn' tc') (.slice ua' un' uc') (.slice ka' kn' kc'))).heap.size ((w.alloc (cell13 p (.slice pa len c) (.slice la ln lc) (.slice aa an ac) (.slice ta tn tc) (.slice ua un uc) (.slice ka kn kc))).alloc (cell13 q (.slice pa' len' c') (.slice la' ln' lc') (.slice aa' an' ac') (.slice ta' tn' tc') (.slice ua' un' uc') (.slice ka' kn' kc'))) w') := hid (by rw [<- hb1]; exact rpsame_any B p.m q.m _ _ _ (hB.le hb0.size) (hp.to hB hb0) (hp'.to hB hb0))
 have ff : (p ≠ q) -> r = false := fun h => by
  rw [<- hr]
  cases e : eqG p q with
  | false => rfl
  | true => exact absurd (eqG_true.1 e) h
 have R1 : Hid (len ≠ len' -> r = false) := hid (fun h => ff (fun e => h (by rw [hlen.out, hlen'.out, e])))
 have R2 : Hid (b1 = false -> r = false) := hid (fun h => ff (fun e => by rw [h] at hb1; rw [e, eqP_true.2 rfl] at hb1; cases hb1))
 have R3 : Hid (∀ (j : Nat) (d d' : Df), p.ds[j]? = some d -> q.ds[j]? = some d' -> d ≠ d' -> r = false) := hid (fun j d d' h h' hn => ff (fun e => hn (by rw [e, h'] at h; exact (Option.some.inj h).symm)))
 have R4 : Hid (len = len' -> b1 = true -> p.ds.take len = q.ds.take len -> r = true) := hid (fun h h1 h2 => by
  rw [<- hr, eqG_true]
  have e1 := lists_eq hlen.out (h.trans hlen'.out) h2
  rw [h1, eqP_true] at hb1
  cases p; cases q; simp only at e1 hb1; rw [e1, hb1])
 have HD : Hid (∀ (j : Nat) (d : Df), p.ds[j]? = some d -> ∃ kb ko, pa = some ⟨kb, ko, none⟩ /\ kb < w.heap.size /\ ∀ W, Below w.heap.size w W -> DfAt B W d kb (ko + j * 14)) := hid (fun j d hj => by
  obtain ⟨kb, ko, e, hkb, hda⟩ := hget j d hj
  exact ⟨kb, ko, e, hB kb hkb, fun W hW => hda.keep (hW.keeps'.mono hB) hkb⟩)
 have HD' : Hid (∀ (j : Nat) (d : Df), q.ds[j]? = some d -> ∃ kb ko, pa' = some ⟨kb, ko, none⟩ /\ kb < w.heap.size /\ ∀ W, Below w.heap.size w W -> DfAt B W d kb (ko + j * 14)) := hid (fun j d hj => by
  obtain ⟨kb, ko, e, hkb, hda⟩ := hget' j d hj
  exact ⟨kb, ko, e, hB kb hkb, fun W hW => hda.keep (hW.keeps'.mono hB) hkb⟩)
 have HB0 := hid hb0
 obtain ⟨ds, hds⟩ := ex1 (p.ds)
 obtain ⟨ds', hds'⟩ : ∃ ds, q.ds = ds := ⟨_, rfl⟩
 rw [hds] at hlen R3 R4 HD
 rw [hds'] at hlen' R3 R4 HD'
 rw [hr]
 clear hget hd hp hget' hd' hp' hds hds' hr hb1 hb0 ff
 unfold prAgg at HM
 by_cases hl : len = len'
 ·subst hl
  cases b1
  ·rw [R2.out (by first | trivial | rfl)]
   go_enter Tryz.func11, Tryz.ntmps11
   go_wp2_with fail
   refine HM.out.mono ?_
   rintro e w2 ⟨rfl, hb2⟩
   go_wp2_with fail
   go_ret
   exact ⟨rfl, below_seq HB0.out hb2⟩
  ·go_enter Tryz.func11, Tryz.ntmps11
   go_wp2_with fail
   refine HM.out.mono ?_
   rintro e w2 ⟨rfl, hb2⟩
   have hbx : Below (w.heap.size + 2) ((w.alloc (cell13 p (.slice pa len c) (.slice la ln lc) (.slice aa an ac) (.slice ta tn tc) (.slice ua un uc) (.slice ka kn kc))).alloc (cell13 q (.slice pa' len c') (.slice la' ln' lc') (.slice aa' an' ac') (.slice ta' tn' tc') (.slice ua' un' uc') (.slice ka' kn' kc'))) w2 := hb2.mono (by simp)
   have HBX := hid hbx
   clear hb2 hbx HM
   go_wp2_with fail
   go_loopw [5] (fun i wr => ∃ j : Nat, i = .int .i64 j /\ j <= len /\ Hid (ds.take j = ds'.take j) /\ Below (w.heap.size + 2) ((w.alloc (cell13 p (.slice pa len c) (.slice la ln lc) (.slice aa an ac) (.slice ta tn tc) (.slice ua un uc) (.slice ka kn kc))).alloc (cell13 q (.slice pa' len c') (.slice la' ln' lc') (.slice aa' an' ac') (.slice ta' tn' tc') (.slice ua' un' uc') (.slice ka' kn' kc'))) wr) (fun i _ => len - (intOf i).toNat)
   case atStart => exact ⟨0, rfl, by omega, hid (by simp), HBX.out⟩
   case round =>
    obtain ⟨j, rfl, hj, HL, hb⟩ := hrel
    obtain ⟨wo, hwo⟩ : ∃ wo, wo = wr := ⟨_, rfl⟩
    subst hwo
    have c0 : wo.cell? ⟨w.heap.size, 0, none⟩ = some (.slice pa len c) := box2_fst hb 0 rfl
    have c0' : wo.cell? ⟨w.heap.size + 1, 0, none⟩ = some (.slice pa' len c') := box2_snd hb 0 rfl
    have hw := box2_low hb
    have hsz : w.heap.size + 2 <= wo.heap.size := by have := hb.size; simpa using this
    by_cases hlt : j < len
    ·obtain ⟨d, hdj⟩ : ∃ d, ds[j]? = some d := ⟨_, List.getElem?_eq_getElem (by rw [<- hlen.out]; exact hlt)⟩
     obtain ⟨d', hdj'⟩ : ∃ d, ds'[j]? = some d := ⟨_, List.getElem?_eq_getElem (by rw [<- hlen'.out]; exact hlt)⟩
     obtain ⟨kb, ko, rfl, hkb, hda⟩ := HD.out j d hdj
     obtain ⟨kb', ko', rfl, hkb', hda'⟩ := HD'.out j d' hdj'
     obtain ⟨ma, mn, mc, la1, ln1, lc1, aa1, an1, ac1, ta1, tn1, tc1, ua1, un1, uc1, ka1, kn1, kc1, ⟨d0, d1, d2, d3, d4, d5, d6, d7, d8, d9, d10, d11, d12, d13⟩, hms, hval⟩ := (hda wo hw).load'
     obtain ⟨ma', mn', mc', la2, ln2, lc2, aa2, an2, ac2, ta2, tn2, tc2, ua2, un2, uc2, ka2, kn2, kc2, ⟨f0, f1, f2, f3, f4, f5, f6, f7, f8, f9, f10, f11, f12, f13⟩, hms', hval'⟩ := (hda' wo hw).load'
     have hBr : Low B wo := hB.le hw.size
     have hbox : Below wo.heap.size wo ((wo.alloc (cell14 d (.slice ma mn mc) (.slice la1 ln1 lc1) (.slice aa1 an1 ac1) (.slice ta1 tn1 tc1) (.slice ua1 un1 uc1) (.slice ka1 kn1 kc1))).alloc (cell14 d' (.slice ma' mn' mc') (.slice la2 ln2 lc2) (.slice aa2 an2 ac2) (.slice ta2 tn2 tc2) (.slice ua2 un2 uc2) (.slice ka2 kn2 kc2))) := box2_below wo _ _
     obtain ⟨x, hx⟩ := ex1 (eqP d.b d'.b)
     have HP : Hid (Calls Tryz.prog 15 #[prAgg d.b (.slice la1 ln1 lc1) (.slice aa1 an1 ac1) (.slice ta1 tn1 tc1) (.slice ua1 un1 uc1) (.slice ka1 kn1 kc1), prAgg d'.b (.slice la2 ln2 lc2) (.slice aa2 an2 ac2) (.slice ta2 tn2 tc2) (.slice ua2 un2 uc2) (.slice ka2 kn2 kc2)] ((wo.alloc (cell14 d (.slice ma mn mc) (.slice la1 ln1 lc1) (.slice aa1 an1 ac1) (.slice ta1 tn1 tc1) (.slice ua1 un1 uc1) (.slice ka1 kn1 kc1))).alloc (cell14 d' (.slice ma' mn' mc') (.slice la2 ln2 lc2) (.slice aa2 an2 ac2) (.slice ta2 tn2 tc2) (.slice ua2 un2 uc2) (.slice ka2 kn2 kc2))) fun e w' => e = .returned (.bool x) /\ Below ((wo.alloc (cell14 d (.slice ma mn mc) (.slice la1 ln1 lc1) (.slice aa1 an1 ac1) (.slice ta1 tn1 tc1) (.slice ua1 un1 uc1) (.slice ka1 kn1 kc1))).alloc (cell14 d' (.slice ma' mn' mc') (.slice la2 ln2 lc2) (.slice aa2 an2 ac2) (.slice ta2 tn2 tc2) (.slice ua2 un2 uc2) (.slice ka2 kn2 kc2))).heap.size ((wo.alloc (cell14 d (.slice ma mn mc) (.slice la1 ln1 lc1) (.slice aa1 an1 ac1) (.slice ta1 tn1 tc1) (.slice ua1 un1 uc1) (.slice ka1 kn1 kc1))).alloc (cell14 d' (.slice ma' mn' mc') (.slice la2 ln2 lc2) (.slice aa2 an2 ac2) (.slice ta2 tn2 tc2) (.slice ua2 un2 uc2) (.slice ka2 kn2 kc2))) w') := hid (by rw [<- hx]; exact rpsame_any B d.b d'.b _ _ _ (hBr.le hbox.size) (hval.to hBr hbox) (hval'.to hBr hbox))
     obtain ⟨pma, pmn, pmc, hpe, hmlen, hmmx, hmget⟩ := hms.open
     simp only [Value.slice.injEq] at hpe
     obtain ⟨rfl, rfl, rfl⟩ := hpe
     obtain ⟨pma, pmn, pmc, hpe, hmlen', hmmx', hmget'⟩ := hms'.open
     simp only [Value.slice.injEq] at hpe
     obtain ⟨rfl, rfl, rfl⟩ := hpe
     have HMG : Hid (∀ (k : Nat) (a : Pm), d.ms[k]? = some a -> ∃ pb po, ma = some ⟨pb, po, none⟩ /\ pb < wo.heap.size /\ ∀ W, Below wo.heap.size wo W -> PmAt B W a pb (po + k * 7)) := hid (fun k a hk => by
      obtain ⟨pb, po, e, hpb, hpa⟩ := hmget k a hk
      exact ⟨pb, po, e, hBr pb hpb, fun W hW => hpa.keep (hW.keeps'.mono hBr) hpb⟩)
     have HMG' : Hid (∀ (k : Nat) (a : Pm), d'.ms[k]? = some a -> ∃ pb po, ma' = some ⟨pb, po, none⟩ /\ pb < wo.heap.size /\ ∀ W, Below wo.heap.size wo W -> PmAt B W a pb (po + k * 7)) := hid (fun k a hk => by
      obtain ⟨pb, po, e, hpb, hpa⟩ := hmget' k a hk
      exact ⟨pb, po, e, hBr pb hpb, fun W hW => hpa.keep (hW.keeps'.mono hBr) hpb⟩)
     have HML := hid hmlen.out
     have HML' := hid hmlen'.out
     have ff : d ≠ d' -> r = false := R3.out j d d' hdj hdj'
     have N1 : Hid (d.n ≠ d'.n -> r = false) := hid (fun h => ff (fun e => h (by rw [e])))
     have N2 : Hid (mn ≠ mn' -> r = false) := hid (fun h => ff (fun e => h (by rw [HML.out, HML'.out, e])))
     have N3 : Hid (x = false -> r = false) := hid (fun h => ff (fun e => by rw [e, eqP_true.2 rfl, h] at hx; cases hx))
     have N4 : Hid (∀ (k : Nat) (a a' : Pm), d.ms[k]? = some a -> d'.ms[k]? = some a' -> a ≠ a' -> r = false) := hid (fun k a a' h h' hn => ff (fun e => hn (by rw [e, h'] at h; exact (Option.some.inj h).symm)))
     have N5 : Hid (d.n = d'.n -> mn = mn' -> x = true -> d.ms.take mn = d'.ms.take mn -> ds.take (j + 1) = ds'.take (j + 1)) := hid (fun h1 h2 h3 h4 => by
      have e : d = d' := df_ext h1 (lists_eq HML.out (h2.trans HML'.out) h4) (eqP_true.1 (hx.trans h3))
      rw [take_snoc_get hdj, take_snoc_get hdj', HL.out, e])
     have hkw : kb < wo.heap.size := by omega
     have hkw' : kb' < wo.heap.size := by omega
     have g0' := cell_past (by omega) c0'
     have g_0 := cell_past hkw' f0
     have g_1 := cell_past hkw' f1
     have g_2 := cell_past hkw' f2
     have g_3 := cell_past hkw' f3
     have g_4 := cell_past hkw' f4
     have g_5 := cell_past hkw' f5
     have g_6 := cell_past hkw' f6
     have g_7 := cell_past hkw' f7
     have g_8 := cell_past hkw' f8
     have g_9 := cell_past hkw' f9
     have g_10 := cell_past hkw' f10
     have g_11 := cell_past hkw' f11
     have g_12 := cell_past hkw' f12
     have g_13 := cell_past hkw' f13
     unfold prAgg at HP
     clear hda hval hms hmget hmlen hda' hval' hms' hmget' hmlen' hx hdj hdj' ff hbox f0 f1 f2 f3 f4 f5 f6 f7 f8 f9 f10 f11 f12 f13 c0'
     by_cases h1 : d.n = d'.n
     ·have h1' : (d.n.toList != d'.n.toList) = false := by simp [h1]
      have h1e : (d.n.toList == d'.n.toList) = true := by simp [h1]
      have H1 := hid h1
      clear h1
      by_cases h2 : mn = mn'
      ·subst h2
       cases x
       ·have HX := hid (N3.out (by first | trivial | rfl))
        go_wp2_with fail
        refine HP.out.mono ?_
        rintro e w3 ⟨rfl, hb3⟩
        go_wp2_with fail
        go_ret
        exact ⟨ret_bool HX.out.symm, below_seq hw (below_seq (box2_below _ _ _) hb3)⟩
       ·go_wp2_with fail
        refine HP.out.mono ?_
        rintro e w3 ⟨rfl, hb3⟩
        have hby : Below (wo.heap.size + 2) ((wo.alloc (cell14 d (.slice ma mn mc) (.slice la1 ln1 lc1) (.slice aa1 an1 ac1) (.slice ta1 tn1 tc1) (.slice ua1 un1 uc1) (.slice ka1 kn1 kc1))).alloc (cell14 d' (.slice ma' mn mc') (.slice la2 ln2 lc2) (.slice aa2 an2 ac2) (.slice ta2 tn2 tc2) (.slice ua2 un2 uc2) (.slice ka2 kn2 kc2))) w3 := hb3.mono (by simp)
        have HBY := hid hby
        clear hb3 hby HP d0 d1 d2 d3 d4 d5 d6 d7 d8 d9 d10 d11 d12 d13 g_0 g_1 g_2 g_3 g_4 g_5 g_6 g_7 g_8 g_9 g_10 g_11 g_12 g_13 g0'
        go_wp2_with fail
        go_loopw [8] (fun i wr => ∃ k : Nat, i = .int .i64 k /\ k <= mn /\ Hid (d.ms.take k = d'.ms.take k) /\ Below (wo.heap.size + 2) ((wo.alloc (cell14 d (.slice ma mn mc) (.slice la1 ln1 lc1) (.slice aa1 an1 ac1) (.slice ta1 tn1 tc1) (.slice ua1 un1 uc1) (.slice ka1 kn1 kc1))).alloc (cell14 d' (.slice ma' mn mc') (.slice la2 ln2 lc2) (.slice aa2 an2 ac2) (.slice ta2 tn2 tc2) (.slice ua2 un2 uc2) (.slice ka2 kn2 kc2))) wr) (fun i _ => mn - (intOf i).toNat)
        case atStart => exact ⟨0, rfl, by omega, hid (by simp), HBY.out⟩
        case round =>
         obtain ⟨k, rfl, hk, HK, hb7⟩ := hrel
         have p1 := box2_fst hb7 1 rfl
         have p1' := box2_snd hb7 1 rfl
         have hw7 := box2_low hb7
         have hs7 : wo.heap.size + 2 <= wr.heap.size := by have := hb7.size; simpa using this
         by_cases hlt2 : k < mn
         ·obtain ⟨a, hak⟩ : ∃ a, d.ms[k]? = some a := ⟨_, List.getElem?_eq_getElem (by rw [<- HML.out]; exact hlt2)⟩
          obtain ⟨a', hak'⟩ : ∃ a, d'.ms[k]? = some a := ⟨_, List.getElem?_eq_getElem (by rw [<- HML'.out]; exact hlt2)⟩
          obtain ⟨pb, po, rfl, hpb, hpa⟩ := HMG.out k a hak
          obtain ⟨pb', po', rfl, hpb', hpa'⟩ := HMG'.out k a' hak'
          obtain ⟨la3, ln3, lc3, ka3, kn3, kc3, ⟨q0, q1, q2, q3, q4, q5, q6⟩, htv⟩ := (hpa wr hw7).load'
          obtain ⟨la4, ln4, lc4, ka4, kn4, kc4, ⟨r0, r1, r2, r3, r4, r5, r6⟩, htv'⟩ := (hpa' wr hw7).load'
          obtain ⟨y, hy⟩ := ex1 (eqB a.t a'.t)
          have hB7 : Low B wr := hBr.le hw7.size
          have hpw : pb < wr.heap.size := by omega
          have hpw' : pb' < wr.heap.size := by omega
          have HT : Hid (∀ q : Later wr.heap.size wr, Calls Tryz.prog 18 #[.agg #[.int .i64 a.t.k, .int .i64 a.t.p, .string a.t.n, .int .i64 a.t.s, .slice la3 ln3 lc3, .slice ka3 kn3 kc3], .agg #[.int .i64 a'.t.k, .int .i64 a'.t.p, .string a'.t.n, .int .i64 a'.t.s, .slice la4 ln4 lc4, .slice ka4 kn4 kc4]] q.1 fun e w' => e = .returned (.bool y) /\ Below q.1.heap.size q.1 w') := hid (fun q => by
           rw [<- hy]; exact rsame_any B a.t a'.t _ _ q.1 (hB7.le q.2.size) (htv.keep (q.2.keeps'.mono hB7)) (htv'.keep (q.2.keeps'.mono hB7)))
          have N6 : Hid (a.n ≠ a'.n -> r = false) := hid (fun h => N4.out k a a' hak hak' (fun e => h (by rw [e])))
          have N7 : Hid (y = false -> r = false) := hid (fun h => N4.out k a a' hak hak' (fun e => by rw [e, eqB_true.2 rfl, h] at hy; cases hy))
          have N8 : Hid (a.n = a'.n -> y = true -> d.ms.take (k + 1) = d'.ms.take (k + 1)) := hid (fun h1 h2 => by
           rw [take_snoc_get hak, take_snoc_get hak', HK.out, pm_ext h1 (eqB_true.1 (hy.trans h2))])
          have lift : ∀ {b x : Nat} {v : Value}, b < wr.heap.size -> wr.cell? ⟨b, x, none⟩ = some v -> ∀ q : Later wr.heap.size wr, q.1.cell? ⟨b, x, none⟩ = some v := fun hb h q => (q.2.cell (p := ⟨_, _, none⟩) hb).trans h
          have x1 := lift (by omega) p1
          have x1' := lift (by omega) p1'
          have X0 := lift hpw q0
          have Y0 := lift hpw' r0
          have X1 := lift hpw q1
          have Y1 := lift hpw' r1
          have X2 := lift hpw q2
          have Y2 := lift hpw' r2
          have X3 := lift hpw q3
          have Y3 := lift hpw' r3
          have X4 := lift hpw q4
          have Y4 := lift hpw' r4
          have X5 := lift hpw q5
          have Y5 := lift hpw' r5
          have X6 := lift hpw q6
          have Y6 := lift hpw' r6
          clear hy hak hak' htv htv' hpa hpa' lift q0 r0 q1 r1 q2 r2 q3 r3 q4 r4 q5 r5 q6 r6
          by_cases h3 : a.n = a'.n
          ·have h3' : (a.n.toList != a'.n.toList) = false := by simp [h3]
           have h3e : (a.n.toList == a'.n.toList) = true := by simp [h3]
           have N9 := hid (N8.out h3)
           clear h3 N8 N6
           cases y
           ·have HX := hid (N7.out (by first | trivial | rfl))
            go_wp2_with fail
            clear p1 p1'
            refine wp_region_later wr.heap.size wr (by kernel_rfl) (by kernel_rfl) (Below.refl _ _) ?_
            repeat (go_big_quiet_step ((go_at_call 18; exact later_call _ (Nat.le_refl _) (HT.out _))))
            refine wpQuiet_nil ?_
            rintro _ ⟨⟨w5, hb5⟩, rfl⟩
            clear x1 x1' X0 Y0 X1 Y1 X2 Y2 X3 Y3 X4 Y4 X5 Y5 X6 Y6
            go_wp2_with fail
            go_ret
            exact ⟨ret_bool HX.out.symm, below_seq (below_seq hw hw7) hb5⟩
           ·go_wp2_with fail
            clear p1 p1'
            refine wp_region_later wr.heap.size wr (by kernel_rfl) (by kernel_rfl) (Below.refl _ _) ?_
            repeat (go_big_quiet_step ((go_at_call 18; exact later_call _ (Nat.le_refl _) (HT.out _))))
            refine wpQuiet_nil ?_
            rintro _ ⟨⟨w5, hb5⟩, rfl⟩
            clear x1 x1' X0 Y0 X1 Y1 X2 Y2 X3 Y3 X4 Y4 X5 Y5 X6 Y6
            go_wp2_with fail
            go_roundw
            case rel => exact ⟨k + 1, by go_num, by omega, hid (N9.out (by first | trivial | rfl)), hb7.trans (hb5.mono hs7)⟩
            case measure => simp [intOf]; omega
          ·have h3' := str_ne h3
           have h3e : (a.n.toList == a'.n.toList) = false := by simpa using h3'
           have HX := hid (N6.out h3)
           clear h3 N8 N6 N7
           go_wp2_with fail
           clear p1 p1'
           refine wp_region_later wr.heap.size wr (by kernel_rfl) (by kernel_rfl) (Below.refl _ _) ?_
           repeat (go_big_quiet_step ((go_at_call 18; exact later_call _ (Nat.le_refl _) (HT.out _))))
           refine wpQuiet_nil ?_
           rintro _ ⟨⟨w5, hb5⟩, rfl⟩
           clear x1 x1' X0 Y0 X1 Y1 X2 Y2 X3 Y3 X4 Y4 X5 Y5 X6 Y6
           go_wp2_with fail
           go_ret
           exact ⟨ret_bool HX.out.symm, below_seq (below_seq hw hw7) hb5⟩
         ·obtain rfl : k = mn := by omega
          have HX := hid (N5.out H1.out (by first | trivial | rfl) (by first | trivial | rfl) HK.out)
          go_wp2_with fail
          go_roundw
          case rel => exact ⟨j + 1, by go_num, by omega, HX, hb.trans ((box2_low hb7).mono hsz)⟩
          case measure => simp [intOf]; omega
      ·have h2' : (mn != mn') = true := by simpa using h2
       have h2f : (mn == mn') = false := by simpa using h2
       have h2i : ((mn : Int) == (mn' : Int)) = false := by simp; omega
       have h2j : ((mn : Int) != (mn' : Int)) = true := by simp; omega
       have HX := hid (N2.out h2)
       clear h2
       go_wp2_with fail
       go_ret
       exact ⟨ret_bool HX.out.symm, below_seq hw (box2_below _ _ _)⟩
     ·have h1' := str_ne h1
      have h1e : (d.n.toList == d'.n.toList) = false := by simpa using h1'
      have HX := hid (N1.out h1)
      clear h1
      go_wp2_with fail
      go_ret
      exact ⟨ret_bool HX.out.symm, below_seq hw (box2_below _ _ _)⟩
    ·obtain rfl : j = len := by omega
     have HX := hid (R4.out (by first | trivial | rfl) (by first | trivial | rfl) HL.out)
     go_wp2_with fail
     go_ret
     exact ⟨ret_bool HX.out.symm, hw⟩
 ·have hl' : (len != len') = true := by simpa using hl
  have hlf : (len == len') = false := by simpa using hl
  have hli : ((len : Int) == (len' : Int)) = false := by simp; omega
  have hlj : ((len : Int) != (len' : Int)) = true := by simp; omega
  rw [R1.out hl]
  clear hl
  go_enter Tryz.func11, Tryz.ntmps11
  go_wp2_with fail
  go_ret
  exact ⟨rfl, HB0.out⟩
end Go.Proofs.YtejaboajgecpaaaGreatDoor
