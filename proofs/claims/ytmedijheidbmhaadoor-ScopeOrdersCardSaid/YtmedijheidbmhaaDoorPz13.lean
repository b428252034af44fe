/- Scopes: the law about the order of definitions. (and what follows from it) -/
import Derived.Test.YtmedijheidbmhaaDoorPz12
import Derived.Test.YtmedijheidbmhaaDoorPz11

/- Scopes: the law about the order of definitions. -/
namespace Go.Proofs.YtmedijheidbmhaaDoor
open Go.RowKit Go.Deep Go.Shelf

theorem T13.fro {w : World} {b : Nat} {cs : Array Value} {t : TypeId} (h : T13 w b (.cells cs t)) (i : Nat) : w.frozen? ⟨b, i, none⟩ = false := by
  unfold T13 at h; simp [World.frozen?, h]
/-- Between two rounds: the box of the new program, and its definitions. -/
def OSt (z bq : Nat) (w2 : World) (mc : List Value) (l : List Df) (W : World) : Prop :=
  ∃ a n c es, T13 W bq (.cells (Value.slice a n c :: mc).toArray 32) ∧ DRow (bq + 1) W (.slice a n c) es ∧ es.map DV.d = l ∧ (∀ e ∈ es, e.Ok (fun k => k < z) W) ∧ Below bq w2 W
theorem orders_step {z bq : Nat} {w2 wo W5 : World} {mc : List Value} {ds : List Df} {j : Nat} {a : Option Addr} {n c : Nat} {ga : Option Addr} {gn gc : Nat} {es : List DV} {e : DV}
    (h51 : T13 W5 bq (.cells (Value.slice a n c :: mc).toArray 32)) (hk5 : ∀ k, k < bq + 1 → W5.heap[k]? = wo.heap[k]?) (hr : DRow (bq + 1) W5 (.slice ga gn gc) (es ++ [e])) (ht : ds.take (j + 1) = ds.take j ++ [e.d]) (he : es.map DV.d = ds.take j) (hok : ∀ e ∈ es, e.Ok (fun k => k < z) wo) (heo : e.Ok (fun k => k < z) wo) (hbo : Below bq w2 wo) (hs5 : wo.heap.size ≤ W5.heap.size) (hzb : z ≤ bq) (_ : bq < wo.heap.size) (hp : W5.os = wo.os ∧ W5.tape = wo.tape ∧ W5.output = wo.output) :
    OSt z bq w2 mc (ds.take (j + 1)) (W5.setCell ⟨bq, 0, none⟩ (.slice ga gn gc)) := by
  have hne : ∀ k, k ≠ bq → (W5.setCell ⟨bq, 0, none⟩ (.slice ga gn gc)).heap[k]? = W5.heap[k]? := fun k hk => by
    show (W5.heap.modify bq _)[k]? = _
    rw [Array.getElem?_modify, if_neg (fun e => hk e.symm)]
  have hkp : Keeps (fun k => k < z) wo (W5.setCell ⟨bq, 0, none⟩ (.slice ga gn gc)) := fun k o hk ho _ => by
    have hk' : k < z := hk
    rw [hne k (by omega), hk5 k (by omega)]; exact ho
  refine ⟨ga, gn, gc, es ++ [e], set_block h51 0 _, hr.kept (fun k hk => hne k (by have := (hr.lt k hk).1; omega)), by rw [List.map_append, he, ht]; rfl, fun x hx => ?_, ?_⟩
  · rcases List.mem_append.1 hx with hx | hx
    · exact (hok x hx).to hkp
    · rw [List.mem_singleton.1 hx]; exact heo.to hkp
  · have hb5 : Below bq wo W5 := ⟨hp.1, hp.2.1, hp.2.2, hs5, fun k hk => hk5 k (by omega)⟩
    exact (hbo.trans hb5).setCell (p := ⟨bq, 0, none⟩) (Nat.le_refl _) _
theorem orders_q {z bq : Nat} {w2 wo : World} {len : Nat} {t0 : Pg} {a : Option Addr} {n c : Nat} {lv av tl tk kv : Value} {es : List DV}
    (hr : DRow (bq + 1) wo (.slice a n c) es) (he : es.map DV.d = t0.ds.reverse.take len) (hok : ∀ e ∈ es, e.Ok (fun k => k < z) wo) (_ : Below bq w2 wo) (hm : PrVal (fun k => k < z) wo (prAgg t0.m lv av tl tk kv) t0.m) (hz : z < wo.heap.size) (hl : t0.ds.reverse.length ≤ 20) (hd : len = t0.ds.length) :
    GLies wo (.agg #[.slice a n c, .int .i64 t0.m.k, .string t0.m.c, .string t0.m.x, lv, av, .int .i64 t0.m.t.k, .int .i64 t0.m.t.p, .string t0.m.t.n, .int .i64 t0.m.t.s, tl, tk, kv]) t0.rev := by
  have he' : es.map DV.d = t0.ds.reverse := by rw [he, hd, ← List.length_reverse, List.take_length]
  have hle : es.length ≤ 20 := by rw [← List.length_map (f := DV.d), he']; exact hl
  have hq := hr.dfs hok (by simp [maxLen]; omega)
  rw [he'] at hq
  exact ⟨_, _, _, _, _, _, rfl, hq.mono (fun k hk => by rcases hk with h | h <;> omega), hm.mono (fun k hk => by have : k < z := hk; show k < _; omega)⟩
theorem OSt.size {z bq : Nat} {w2 : World} {mc : List Value} {l : List Df} {W : World} (h : OSt z bq w2 mc l W) : bq + 1 ≤ W.heap.size := by
  obtain ⟨_, _, _, _, h, _⟩ := h; exact h.lt

set_option maxHeartbeats 16000000 in
set_option maxRecDepth 100000 in
theorem ScopeOrders_any (t0 : Pg) (hf0 : Pg.fine t0) (v0 : Value) (E : Nat) (w : World) (he : Env E w) (h0 : GLies w v0 t0) :
    Calls Tryd.prog 4 #[v0] w fun e w' => e = .returned (.bool true) ∧ Below w.heap.size w w' := by
  have g0 := h0
  obtain ⟨dv, lv, av, tl, tk, kv, rfl, hd, hp⟩ := g0
  have hp0 := hp
  obtain ⟨⟨la, ln, lc, rfl⟩, ⟨aa, an, ac, rfl⟩, ⟨ta, tn, tc, rfl⟩, ⟨ua, un, uc, rfl⟩, ka, kn, kc, rfl⟩ := pr_slices hp
  obtain ⟨pa, len, c, rfl, hlen, hmx, hget⟩ := hd.open
  obtain ⟨W0, hW0⟩ : ∃ W0, w.alloc (cell13 t0 (.slice pa len c) (.slice la ln lc) (.slice aa an ac) (.slice ta tn tc) (.slice ua un uc) (.slice ka kn kc)) = W0 := ⟨_, rfl⟩
  have hb0 : Below w.heap.size w W0 := by rw [← hW0]; exact blkBelow w _ _
  have hs0 : W0.heap.size = w.heap.size + 1 := by rw [← hW0]; simp
  have t1 : T13 W0 w.heap.size (cell13 t0 (.slice pa len c) (.slice la ln lc) (.slice aa an ac) (.slice ta tn tc) (.slice ua un uc) (.slice ka kn kc)) := by rw [← hW0]; exact World.alloc_heap_new _ _
  have HT := Lib.hid t1
  have HG : Hid (GLies W0 (.agg #[.slice pa len c, .int .i64 t0.m.k, .string t0.m.c, .string t0.m.x, .slice la ln lc, .slice aa an ac, .int .i64 t0.m.t.k, .int .i64 t0.m.t.p, .string t0.m.t.n, .int .i64 t0.m.t.s, .slice ta tn tc, .slice ua un uc, .slice ka kn kc]) t0) := Lib.hid (h0.to hb0)
  have HM : Hid (∀ W, Below w.heap.size w W → PrVal (fun k => k < w.heap.size) W (prAgg t0.m (.slice la ln lc) (.slice aa an ac) (.slice ta tn tc) (.slice ua un uc) (.slice ka kn kc)) t0.m) := Lib.hid (fun W hW => hp0.keep (hW.keeps'.mono (fun _ h => h)))
  have HD : Hid (∀ (j : Nat) (d : Df), t0.ds[j]? = some d → ∃ kb ko, pa = some ⟨kb, ko, none⟩ ∧ kb < w.heap.size ∧ ∀ W, Below w.heap.size w W → DfAt (fun k => k < w.heap.size) W d kb (ko + j * 14)) := Lib.hid (fun j d hj => by
    obtain ⟨kb, ko, e, hkb, hda⟩ := hget j d hj
    exact ⟨kb, ko, e, hkb, fun W hW => DfAt.keep (hW.keeps'.mono (fun _ h => h)) hkb hda⟩)
  have HE := Lib.hid (he.to hb0)
  have HB0 := Lib.hid hb0
  have HW0 := Lib.hid hW0
  have HF := Lib.hid hf0
  have HLE : Hid (t0.ds.length = len) := Lib.hid hlen.out.symm
  have HAW : Hid (∀ (E : Nat) (w : World), Env E w → Calls Tryd.prog 5 #[] w fun e w' => e = .returned (.bool true) ∧ Below w.heap.size w w') := Lib.hid sawake_any
  have hwz : w.heap.size + 1 ≤ W0.heap.size := by omega
  obtain ⟨f0, hf⟩ : ∃ x, t0.little 500 = x := ⟨_, rfl⟩
  have F0 := Lib.hid hf
  clear h0 hd hp hp0 t1 hb0 hs0 hW0 he hf0 hf hlen hget
  cases f0
  · go_enter Tryd.func4, Tryd.ntmps4
    go_wp2_with fail
    refine scalls_at HW0.out ?_
    refine (HAW.out _ _ HE.out).mono ?_
    rintro e w1 ⟨rfl, hb1⟩
    obtain ⟨c0, c1, c2, c3, c4, c5, c6, c7, c8, c9, c10, c11, c12⟩ := (HT.out.to hb1).cells
    go_wp2_with fail
    clear c0 c1 c2 c3 c4 c5 c6 c7 c8 c9 c10 c11 c12
    refine (zlittle_l (m := 500) (HG.out.to hb1) (by omega) F0.out).mono ?_
    rintro e w2 ⟨rfl, hb2⟩
    have hz2 := below_seq hb1 hb2
    go_wp2_with fail
    refine (HAW.out _ _ (HE.out.to hz2)).mono ?_
    rintro e w9 ⟨rfl, hb9⟩
    go_wp2_with fail
    go_ret
    exact ⟨rfl, below_seq HB0.out (below_seq hz2 hb9)⟩
  · obtain ⟨ce, ca, hc⟩ : ∃ ce ca, t0.chk = (ce, ca) := ⟨_, _, rfl⟩
    obtain ⟨de, da, hc2⟩ : ∃ ce ca, t0.rev.chk = (ce, ca) := ⟨_, _, rfl⟩
    have hg := little_goodZ (m := 500) (by omega) HF.out F0.out
    have hlen20 : len ≤ 20 := by rw [← HLE.out]; exact (Pg.little_facts F0.out).1
    have HC := Lib.hid hc
    have HC2 := Lib.hid hc2
    have HGG := Lib.hid hg
    have HIF : Hid (de = 0 ↔ ce = 0) := Lib.hid (by have h := chk_rev t0; rw [hc, hc2] at h; exact h)
    clear hc hc2 hg
    go_enter Tryd.func4, Tryd.ntmps4
    go_wp2_with fail
    refine scalls_at HW0.out ?_
    refine (HAW.out _ _ HE.out).mono ?_
    rintro e w1 ⟨rfl, hb1⟩
    obtain ⟨c0, c1, c2, c3, c4, c5, c6, c7, c8, c9, c10, c11, c12⟩ := (HT.out.to hb1).cells
    go_wp2_with fail
    clear c0 c1 c2 c3 c4 c5 c6 c7 c8 c9 c10 c11 c12
    refine (zlittle_l (m := 500) (HG.out.to hb1) (by omega) F0.out).mono ?_
    rintro e w2 ⟨rfl, hb2⟩
    have hz2 := below_seq hb1 hb2
    obtain ⟨c0, c1, c2, c3, c4, c5, c6, c7, c8, c9, c10, c11, c12⟩ := (HT.out.to hz2).cells
    have HZ2 := Lib.hid hz2
    have hsz2 : w.heap.size + 1 ≤ w2.heap.size := by have := hz2.size; omega
    have hzw : w.heap.size < w2.heap.size := by omega
    have HOS : Hid (OSt w.heap.size w2.heap.size w2 [.int .i64 t0.m.k, .string t0.m.c, .string t0.m.x, .slice la ln lc, .slice aa an ac, .int .i64 t0.m.t.k, .int .i64 t0.m.t.p, .string t0.m.t.n, .int .i64 t0.m.t.s, .slice ta tn tc, .slice ua un uc, .slice ka kn kc] (t0.ds.reverse.take 0) (w2.alloc (.cells #[.slice none 0 0, .int .i64 t0.m.k, .string t0.m.c, .string t0.m.x, .slice la ln lc, .slice aa an ac, .int .i64 t0.m.t.k, .int .i64 t0.m.t.p, .string t0.m.t.n, .int .i64 t0.m.t.s, .slice ta tn tc, .slice ua un uc, .slice ka kn kc] 32))) := Lib.hid ⟨none, 0, 0, [], World.alloc_heap_new _ _, DRow.nil _ _, by simp, fun e he => (by cases he), blkBelow w2 _ _⟩
    clear hb1 hb2 hz2
    go_wp2_with fail
    clear c0 c1 c2 c3 c4 c5 c6 c7 c8 c9 c10 c11 c12
    go_loopw [4] (fun i wr => ∃ j : Nat, i = .int .i64 ((len : Int) - 1 - (j : Int)) ∧ j ≤ len ∧ Hid (OSt w.heap.size w2.heap.size w2 [.int .i64 t0.m.k, .string t0.m.c, .string t0.m.x, .slice la ln lc, .slice aa an ac, .int .i64 t0.m.t.k, .int .i64 t0.m.t.p, .string t0.m.t.n, .int .i64 t0.m.t.s, .slice ta tn tc, .slice ua un uc, .slice ka kn kc] (t0.ds.reverse.take j) wr)) (fun i _ => (intOf i + 1).toNat)
    case atStart => exact ⟨0, by simp, by omega, HOS⟩
    case round =>
      obtain ⟨j, rfl, hj, HO⟩ := hrel
      obtain ⟨wo, hwo⟩ : ∃ wo, wo = wr := ⟨_, rfl⟩
      subst hwo
      obtain ⟨a, n, c', es, t3, hrow, hes, hok, hbo⟩ := HO.out
      have HBo : Hid (Below W0.heap.size W0 wo) := Lib.hid (HZ2.out.trans (hbo.mono HZ2.out.size))
      have hso := t3.lt
      have cz := (HT.out.to HBo.out).cells
      have q0 := t3.cells.1
      by_cases hlt : j < len
      · obtain ⟨m, hm⟩ : ∃ m : Nat, (len : Int) - 1 - (j : Int) = (m : Int) := ⟨len - 1 - j, by omega⟩
        have hm2 : m = len - 1 - j := by omega
        have hml0 : m < len := by omega
        rw [hm]
        obtain ⟨d, hd⟩ : ∃ d, t0.ds[m]? = some d := ⟨_, List.getElem?_eq_getElem (by rw [HLE.out]; exact hml0)⟩
        have hdr : t0.ds.reverse[j]? = some d := by rw [List.getElem?_reverse (by rw [HLE.out]; exact hlt), HLE.out, ← hm2]; exact hd
        obtain ⟨kb, ko, rfl, hkl, hda⟩ := HD.out m d hd
        obtain ⟨hdn, e0, ⟨mv, e1, hms⟩, hpr⟩ := hda wo (below_seq HB0.out HBo.out)
        obtain ⟨ma, ml, mc, rfl, _⟩ := hms.open
        obtain ⟨la1, ln1, lc1, aa1, an1, ac1, ta1, tn1, tc1, ua1, un1, uc1, ka1, kn1, kc1, ⟨d0, d1, d2, d3, d4, d5, d6, d7, d8, d9, d10, d11⟩, hval⟩ := hpr.load'
        replace d0 : wo.cell? ⟨kb, ko + m * 14 + 2, none⟩ = _ := d0
        replace d1 : wo.cell? ⟨kb, ko + m * 14 + 3, none⟩ = _ := d1
        replace d2 : wo.cell? ⟨kb, ko + m * 14 + 4, none⟩ = _ := d2
        replace d3 : wo.cell? ⟨kb, ko + m * 14 + 5, none⟩ = _ := d3
        replace d4 : wo.cell? ⟨kb, ko + m * 14 + 6, none⟩ = _ := d4
        replace d5 : wo.cell? ⟨kb, ko + m * 14 + 7, none⟩ = _ := d5
        replace d6 : wo.cell? ⟨kb, ko + m * 14 + 8, none⟩ = _ := d6
        replace d7 : wo.cell? ⟨kb, ko + m * 14 + 9, none⟩ = _ := d7
        replace d8 : wo.cell? ⟨kb, ko + m * 14 + 10, none⟩ = _ := d8
        replace d9 : wo.cell? ⟨kb, ko + m * 14 + 11, none⟩ = _ := d9
        replace d10 : wo.cell? ⟨kb, ko + m * 14 + 12, none⟩ = _ := d10
        replace d11 : wo.cell? ⟨kb, ko + m * 14 + 13, none⟩ = _ := d11
        obtain ⟨cz0, _⟩ := cz
        have HEO : Hid (DV.Ok (fun k => k < w.heap.size) wo ⟨d, .slice ma ml mc, .slice la1 ln1 lc1, .slice aa1 an1 ac1, .slice ta1 tn1 tc1, .slice ua1 un1 uc1, .slice ka1 kn1 kc1⟩) := Lib.hid ⟨hdn, hms, hval⟩
        have HTK : Hid (t0.ds.reverse.take (j + 1) = t0.ds.reverse.take j ++ [d]) := Lib.hid (take_snoc_get hdr)
        have HROW := Lib.hid hrow
        have HES := Lib.hid hes
        have HOK := Lib.hid hok
        have HBO := Lib.hid hbo
        have HT3 := Lib.hid t3
        have hesl : es.length ≤ 20 := by have := congrArg List.length hes; rw [List.length_map, List.length_take, List.length_reverse, HLE.out] at this; omega
        have hl0 : es.length + [(⟨d, .slice ma ml mc, .slice la1 ln1 lc1, .slice aa1 an1 ac1, .slice ta1 tn1 tc1, .slice ua1 un1 uc1, .slice ka1 kn1 kc1⟩ : DV)].length ≤ 100000 := by simp; omega
        have hkw : kb < wo.heap.size := by omega
        have hzwo : w.heap.size < wo.heap.size := by omega
        have hbqo : w2.heap.size < wo.heap.size := by omega
        clear hd hdr hda hdn hms hpr hval hrow hes hok hbo t3 hm2
        go_wp2_with fail
        go_region_law
          (first
            | (refine step_appD (by rfl) _ _ (by rfl) (w2.heap.size + 1) es (.slice a n c') ?_ ?_ (some ⟨wo.heap.size, 0, none⟩) 1 1 [⟨d, .slice ma ml mc, .slice la1 ln1 lc1, .slice aa1 an1 ac1, .slice ta1 tn1 tc1, .slice ua1 un1 uc1, .slice ka1 kn1 kc1⟩] ?_ rfl (.inr ⟨wo.heap.size, 0, rfl, fun j2 e2 i2 u2 hj2 hi2 => ?_⟩) (fun e2 he2 => ?_) hl0 ?_ _ rfl ?_
               · rfl
               · exact HROW.out.drew.alloc _
               · rfl
               · cases j2 with
                 | zero =>
                   simp only [List.getElem?_cons_zero, Option.some.injEq] at hj2
                   subst hj2
                   rw [show 0 + (0 * 14 + i2) = i2 by omega]
                   exact blk_cell (w := wo.drew) (Below.refl _ _) i2 (by simpa [DV.cells] using hi2)
                 | succ j2 => simp at hj2
               · rw [List.mem_singleton.1 he2]; exact HEO.out.one
               · simp; omega
               intro ga gn gc W5 hrow5 hgrow5
               have hk5 : ∀ k, k < w2.heap.size + 1 → W5.heap[k]? = wo.heap[k]? := fun k hk => (hgrow5.block k (by simp; omega) (fun e => by have := (HROW.out.lt k e.symm).1; omega)).trans (Below.heap_alloc wo.drew _ k (by simp; omega))
               have h51 : T13 W5 w2.heap.size _ := (hk5 _ (Nat.lt_succ_self _)).trans HT3.out
               have v2 := h51.cells.1
               have f2 := h51.fro 0
               have HK5 := Lib.hid hk5
               have H51 := Lib.hid h51
               have HR5 := Lib.hid hrow5
               have HP5 : Hid (W5.os = wo.os ∧ W5.tape = wo.tape ∧ W5.output = wo.output) := Lib.hid ⟨hgrow5.os, hgrow5.tape, hgrow5.output⟩
               have hs5 : wo.heap.size ≤ W5.heap.size := by have := hgrow5.size; simp at this; omega
               clear hk5 h51 hrow5 hgrow5)
            | fail)
        all_goals
          go_wp2_with fail
          exact ⟨⟨j + 1, (by first | (simp; omega) | simp | omega), by omega, Lib.hid (orders_step H51.out HK5.out HR5.out HTK.out HES.out HOK.out HEO.out HBO.out hs5 (by omega) (by omega) HP5.out)⟩, (by first | (simp [intOf]; omega) | simp [intOf])⟩
      · obtain rfl : len = j := by omega
        have hb2' : Hid (Below W0.heap.size W0 wo) := HBo
        have hlw : w.heap.size < wo.heap.size := by omega
        have HDQ : Hid (GLies wo (.agg #[.slice a n c', .int .i64 t0.m.k, .string t0.m.c, .string t0.m.x, .slice la ln lc, .slice aa an ac, .int .i64 t0.m.t.k, .int .i64 t0.m.t.p, .string t0.m.t.n, .int .i64 t0.m.t.s, .slice ta tn tc, .slice ua un uc, .slice ka kn kc]) t0.rev) := Lib.hid (orders_q hrow hes hok hbo (HM.out wo (below_seq HB0.out HBo.out)) hlw (by rw [List.length_reverse, HLE.out]; exact hlen20) (by rw [HLE.out]))
        have HT3 := Lib.hid t3
        obtain ⟨z0, z1, z2, z3, z4, z5, z6, z7, z8, z9, z10, z11, z12⟩ := cz
        have hneg : (len : Int) - 1 - (len : Int) = -1 := by omega
        rw [hneg]
        clear hrow hes hok hbo t3 q0 hneg
        go_wp2_with fail
        clear z0 z1 z2 z3 z4 z5 z6 z7 z8 z9 z10 z11 z12
        refine (check_l (HE.out.to HBo.out) (HG.out.to HBo.out) HGG.out HC.out).mono ?_
        rintro e w3 ⟨rfl, hb3⟩
        have HB3 := Lib.hid hb3
        have hs3 := hb3.size
        have hlt3 : w2.heap.size < w3.heap.size := by omega
        clear hb3
        obtain ⟨z0, z1, z2, z3, z4, z5, z6, z7, z8, z9, z10, z11, z12⟩ := (HT3.out.to HB3.out).cells
        go_wp2_with fail
        clear z0 z1 z2 z3 z4 z5 z6 z7 z8 z9 z10 z11 z12
        obtain ⟨W4, hW4⟩ : ∃ W4, w3.alloc (.cells #[.int .i64 ce, .int .i64 (ca : Int)] 47) = W4 := ⟨_, rfl⟩
        have hb4 : Below w3.heap.size w3 W4 := by rw [← hW4]; exact blkBelow w3 _ _
        have HB4 := Lib.hid (below_seq HB3.out hb4)
        have t4 : Two2 W4 w3.heap.size (.int .i64 ce) (.int .i64 (ca : Int)) := by rw [← hW4]; exact World.alloc_heap_new _ _
        have HT4 := Lib.hid t4
        have HW4 := Lib.hid hW4
        clear hb4 t4 hW4
        refine scalls_at HW4.out ?_
        refine (check_l (HE.out.to (below_seq HBo.out HB4.out)) (HDQ.out.to HB4.out) (ggood_rev HGG.out) HC2.out).mono ?_
        rintro e w5 ⟨rfl, hb5⟩
        have HB5 := Lib.hid hb5
        have t5 := (HT4.out.to hb5).cells
        obtain ⟨⟨k0, k1⟩, f0, f1⟩ := t5
        have hlt5 : w3.heap.size < w5.heap.size := by have := hb5.size; have := HT4.out.lt; omega
        clear hb5
        by_cases h0 : ce = 0
        · subst h0
          obtain rfl := chk_zeroZ HC.out
          obtain rfl := HIF.out.2 rfl
          obtain rfl := chk_zeroZ HC2.out
          go_wp2_with fail
          go_ret
          exact ⟨rfl, below_seq HB0.out (below_seq HBo.out (below_seq HB4.out (HB5.out.alloc HB5.out.size _)))⟩
        · have h1 : (ce == 0) = false := by simpa using h0
          have h2 : (ce != 0) = true := by simpa using h0
          have h3 : de ≠ 0 := fun e => h0 (HIF.out.1 e)
          have h4 : (de == 0) = false := by simpa using h3
          have h5 : (de != 0) = true := by simpa using h3
          clear h0 h3
          go_wp2_with fail
          go_ret
          exact ⟨rfl, below_seq HB0.out (below_seq HBo.out (below_seq HB4.out (HB5.out.alloc HB5.out.size _)))⟩

end Go.Proofs.YtmedijheidbmhaaDoor
