/- Parsing: lemmas. -/
import Derived.Test.YtejaboajgecpaaaGreatDoorQb27
import Derived.OwnWalk
set_option maxHeartbeats 16000000
set_option maxRecDepth 100000
namespace Go.Proofs.YtejaboajgecpaaaGreatDoor
open Go.Lib (hid)
open Go.RowKit Go.Deep Go.Shelf
theorem any_depths (d : Nat) : ∀ ts : List Ty, ts.any (fun u => decide (d < u.depth)) = decide (d < Ty.depths ts)
 | [] => by simp [Ty.depths]
 | t :: r => by
  rw [List.any_cons, any_depths d r, Ty.depths]
  by_cases h1 : d < t.depth <;> by_cases h2 : d < Ty.depths r <;> simp [h1, h2] <;> omega
theorem depth_step (d : Nat) (t : Ty) : decide (d + 1 < t.depth) = t.ts.any (fun u => decide (d < u.depth)) := by
 rw [any_depths, Ty.depth_eq]
 by_cases h : d < Ty.depths t.ts <;> simp [h]
mutual
def Pr.deepP : Pr -> Nat -> Bool
 | .mk _ _ _ _ _ t ps, d => decide (d = 0) || decide (100 < t.depth) || Pr.deepPs ps (d - 1)
def Pr.deepPs : List Pr -> Nat -> Bool
 | [], _ => false
 | p :: r, d => p.deepP d || Pr.deepPs r d
end
theorem Pr.deepP_eq (p : Pr) (d : Nat) : p.deepP d = (decide (d = 0) || decide (100 < p.t.depth) || Pr.deepPs p.ps (d - 1)) := by cases p; rw [Pr.deepP]; rfl
theorem Pr.deepPs_any (d : Nat) : ∀ ps : List Pr, Pr.deepPs ps d = ps.any (fun p => p.deepP d)
 | [] => by rw [Pr.deepPs]; rfl
 | p :: r => by rw [Pr.deepPs, Pr.deepPs_any d r, List.any_cons]
def TDeepAt (B : Nat -> Prop) (t : Ty) : Prop := ∀ (d : Nat) (z : Int), z = d -> d <= 1000000 -> ∀ (v : Value) (w : World), Low B w -> TyVal B w v t -> Calls Tryz.prog 69 #[v, .int .i64 z] w fun e w' => e = .returned (.bool (decide (d < t.depth))) /\ Below w.heap.size w w'
def PDeepAt (B : Nat -> Prop) (p : Pr) : Prop := ∀ (d : Nat) (z : Int), z = d -> d <= 1000000 -> ∀ (v : Value) (w : World), Low B w -> PrVal B w v p -> Calls Tryz.prog 56 #[v, .int .i64 z] w fun e w' => e = .returned (.bool (p.deepP d)) /\ Below w.heap.size w w'
theorem enters_td : ∀ args w, (callFunc 98 args).run Tryz.prog w = .ok (.enter 98 args) w := enters_of Tryz.func98 (by kernel_rfl) rfl
theorem enters_pd : ∀ args w, (callFunc 85 args).run Tryz.prog w = .ok (.enter 85 args) w := enters_of Tryz.func85 (by kernel_rfl) rfl
theorem tdeep_clo (B : Nat -> Prop) (t : Ty) (ih : TDeepAt B t) (d : Nat) (hd : d + 1 <= 1000000) (z : Int) (hz : z = ((d + 1 : Nat) : Int)) (D : Nat) (v : Value) (w : World) (hD : D < w.heap.size) (hc : w.cell? ⟨D, 0, none⟩ = some (.int .i64 z)) (hB : Low B w) (hv : TyVal B w v t) :
 Calls Tryz.prog 98 #[v, .pointer (some ⟨D, 0, none⟩)] w fun e w' => e = .returned (.bool (decide (d < t.depth))) /\ Below w.heap.size w w' := by
 have HC := hid (fun (W : World) (hW : Below w.heap.size w W) => ih d (z - 1) (by omega) (by omega) v W (hB.le hW.size) (hv.keep (hW.keeps'.mono hB)))
 obtain ⟨la, ln, lc, ka, kn, kc, rfl⟩ := TyVal.open6 hv
 clear hv ih
 have hbx : Below w.heap.size w (w.alloc (.cells #[.int .i64 t.k, .int .i64 t.p, .string t.n, .int .i64 t.s, .slice la ln lc, .slice ka kn kc] 28)) := blkBelow w _ _
 have hcx := (hbx.cell (p := ⟨D, 0, none⟩) hD).trans hc
 have HBX := hid hbx
 have hz1 : 1 <= z := by omega
 have hz2 : z <= 1000000 := by omega
 clear hz
 clear hbx hc
 go_enter Tryz.func98, Tryz.ntmps98
 go_wp2_with (go_at_call 69; refine (HC.out _ HBX.out).mono ?_; rintro e w1 ⟨rfl, hb⟩; have HB1 := hid hb; clear hb)
 go_ret
 exact ⟨rfl, below_seq HBX.out HB1.out⟩
theorem tdeep_any (B : Nat -> Prop) : ∀ t : Ty, TDeepAt B t := by
 refine Ty.ind ?_
 intro k p s0 s ls ts ih d z hzd hd v w hB hv
 obtain ⟨t, ht⟩ := ex1 (Ty.mk k p s0 s ls ts)
 have hts : t.ts = ts := by rw [<- ht]; rfl
 rw [ht] at hv |-
 rw [<- hts] at ih
 clear ht hts
 have hk : ∃ kv lv, v = .agg #[.int .i64 t.k, .int .i64 t.p, .string t.n, .int .i64 t.s, lv, kv] /\ TySl B w kv t.ts := by
  obtain ⟨lv, kv, e, _, _, hk⟩ := hv
  exact ⟨kv, lv, e, hk⟩
 obtain ⟨la, ln, lc, ka, kn, kc, rfl⟩ := TyVal.open6 hv
 obtain ⟨kv, lv, e, hk⟩ := hk
 simp only [Value.agg.injEq, Array.mk.injEq, List.cons.injEq, and_true, true_and] at e
 obtain ⟨rfl, rfl⟩ := e
 obtain ⟨W2, hW2⟩ := ex1 ((w.alloc (.cells #[.int .i64 t.k, .int .i64 t.p, .string t.n, .int .i64 t.s, .slice la ln lc, .slice ka kn kc] 28)).alloc (.cells #[.int .i64 z] 3))
 have hb2 : Below w.heap.size w W2 := by rw [<- hW2]; exact ((Below.refl _ _).alloc (Nat.le_refl _) _).alloc (by simp) _
 have hz2 : W2.heap.size = w.heap.size + 2 := by rw [<- hW2]; simp
 have x2 : W2.heap[w.heap.size + 1]? = some (.cells #[.int .i64 z] 3 (0, 0)) := by
  rw [<- hW2]
  have := World.alloc_heap_new (w.alloc (.cells #[.int .i64 t.k, .int .i64 t.p, .string t.n, .int .i64 t.s, .slice la ln lc, .slice ka kn kc] 28)) (.cells #[.int .i64 z] 3)
  rwa [World.size_alloc] at this
 have x1 : W2.heap[w.heap.size]? = some (.cells #[.int .i64 t.k, .int .i64 t.p, .string t.n, .int .i64 t.s, .slice la ln lc, .slice ka kn kc] 28 (0, 0)) := by rw [<- hW2, Below.heap_alloc _ _ _ (by simp)]; exact World.alloc_heap_new _ _
 have HK := hid (hk.keep (hb2.keeps'.mono hB))
 have HLow : Hid (Low B W2) := hid (hB.le hb2.size)
 have HW2 := hid hW2
 have HB2 := hid hb2
 have HX2 := hid x2
 have HX1 := hid x1
 have HIH := hid ih
 have HZ2 := hid hz2
 clear hv hk hW2 hb2 x2 x1 ih hB hz2
 have HZD := hid hzd
 clear hzd
 match d, hd, HZD with
 | 0, hd, HZD =>
  have hz : (z == 0) = true := by have := HZD.out; simp; omega
  have hz' : decide (z = 0) = true := by have := HZD.out; simp; omega
  have e0 : decide (0 < t.depth) = true := decide_eq_true (Ty.depth_pos t)
  rw [e0]
  clear e0
  go_enter Tryz.func69, Tryz.ntmps69
  go_upto_region 1 with fail
  rw [HW2.out]
  have c2 := cell1 HX2.out
  go_wp2_with fail
  go_ret
  exact ⟨rfl, HB2.out⟩
 | d + 1, hd, HZD =>
  rw [depth_step]
  have hz : (z == 0) = false := by have := HZD.out; simp; omega
  have hz' : decide (z = 0) = false := by have := HZD.out; simp; omega
  have en := enters_td
  have HTL : Hid (TellsType 98 #[.pointer (some ⟨w.heap.size + 1, 0, none⟩)] B W2 t.ts (fun u => decide (d < u.depth))) := hid (fun u hu v W hW hv => tdeep_clo B u (HIH.out u hu) d (by omega) z HZD.out (w.heap.size + 1) v W (by have := HZ2.out; have := hW.size; omega) (cell1 ((hW.block _ (by have := HZ2.out; omega)).trans HX2.out)) (HLow.out.le hW.size) hv)
  go_enter Tryz.func69, Tryz.ntmps69
  go_upto_region 1 with fail
  rw [HW2.out]
  have c2 := cell1 HX2.out
  obtain ⟨⟨q0, q1, q2, q3, q4, q5⟩, -⟩ := c6 HX1.out
  go_wp2_with (go_at_call 97; refine (containsType_any B t.ts _ 98 _ en _ W2 HLow.out HK.out HTL.out).mono ?_; rintro e w3 ⟨rfl, hb⟩; have HB3 := hid hb; clear hb)
  go_ret
  exact ⟨rfl, below_seq HB2.out HB3.out⟩
theorem pdeep_clo (B : Nat -> Prop) (p : Pr) (ih : PDeepAt B p) (d : Nat) (hd : d + 1 <= 1000000) (z : Int) (hz : z = ((d + 1 : Nat) : Int)) (D : Nat) (v : Value) (w : World) (hD : D < w.heap.size) (hc : w.cell? ⟨D, 0, none⟩ = some (.int .i64 z)) (hB : Low B w) (hv : PrVal B w v p) :
 Calls Tryz.prog 85 #[v, .pointer (some ⟨D, 0, none⟩)] w fun e w' => e = .returned (.bool (p.deepP d)) /\ Below w.heap.size w w' := by
 have HC := hid (fun (W : World) (hW : Below w.heap.size w W) => ih d (z - 1) (by omega) (by omega) v W (hB.le hW.size) (hv.keep (hW.keeps'.mono hB)))
 obtain ⟨la, ln, lc, aa, an, ac, ta, tn, tc, ua, un, uc, ka, kn, kc, rfl⟩ := PrVal.open hv
 clear hv ih
 have hbx : Below w.heap.size w (w.alloc (.cells #[.int .i64 p.k, .string p.c, .string p.x, .slice la ln lc, .slice aa an ac, .int .i64 p.t.k, .int .i64 p.t.p, .string p.t.n, .int .i64 p.t.s, .slice ta tn tc, .slice ua un uc, .slice ka kn kc] 31)) := blkBelow w _ _
 have hcx := (hbx.cell (p := ⟨D, 0, none⟩) hD).trans hc
 have HBX := hid hbx
 have hz1 : 1 <= z := by omega
 have hz2 : z <= 1000000 := by omega
 clear hz
 clear hbx hc
 go_enter Tryz.func85, Tryz.ntmps85
 go_wp2_with (go_at_call 56; refine (HC.out _ HBX.out).mono ?_; rintro e w1 ⟨rfl, hb⟩; have HB1 := hid hb; clear hb)
 go_ret
 exact ⟨rfl, below_seq HBX.out HB1.out⟩
theorem pdeep_any (B : Nat -> Prop) : ∀ p : Pr, PDeepAt B p := by
 refine Pr.ind ?_
 intro k c x ls vs t0 ps ih d z hzd hd v w hB hv
 obtain ⟨p, hp⟩ := ex1 (Pr.mk k c x ls vs t0 ps)
 have hps : p.ps = ps := by rw [<- hp]; rfl
 rw [hp] at hv |-
 rw [<- hps] at ih
 clear hp hps
 have hk : ∃ lv av tl tk kv, v = prAgg p lv av tl tk kv /\ TyVal B w (.agg #[.int .i64 p.t.k, .int .i64 p.t.p, .string p.t.n, .int .i64 p.t.s, tl, tk]) p.t /\ PrSl B w kv p.ps := by
  obtain ⟨lv, av, tl, tk, kv, e, _, _, _, ht, hk⟩ := hv
  exact ⟨lv, av, tl, tk, kv, e, ht, hk⟩
 obtain ⟨la, ln, lc, aa, an, ac, ta, tn, tc, ua, un, uc, ka, kn, kc, rfl⟩ := PrVal.open hv
 obtain ⟨lv, av, tl, tk, kv, e, ht, hk⟩ := hk
 simp only [Value.agg.injEq, Array.mk.injEq, List.cons.injEq, and_true, true_and] at e
 obtain ⟨rfl, rfl, rfl, rfl, rfl⟩ := e
 obtain ⟨W2, hW2⟩ := ex1 ((w.alloc (.cells #[.int .i64 p.k, .string p.c, .string p.x, .slice la ln lc, .slice aa an ac, .int .i64 p.t.k, .int .i64 p.t.p, .string p.t.n, .int .i64 p.t.s, .slice ta tn tc, .slice ua un uc, .slice ka kn kc] 31)).alloc (.cells #[.int .i64 z] 3))
 have hb2 : Below w.heap.size w W2 := by rw [<- hW2]; exact ((Below.refl _ _).alloc (Nat.le_refl _) _).alloc (by simp) _
 have hz2 : W2.heap.size = w.heap.size + 2 := by rw [<- hW2]; simp
 have x2 : W2.heap[w.heap.size + 1]? = some (.cells #[.int .i64 z] 3 (0, 0)) := by
  rw [<- hW2]
  have := World.alloc_heap_new (w.alloc (.cells #[.int .i64 p.k, .string p.c, .string p.x, .slice la ln lc, .slice aa an ac, .int .i64 p.t.k, .int .i64 p.t.p, .string p.t.n, .int .i64 p.t.s, .slice ta tn tc, .slice ua un uc, .slice ka kn kc] 31)) (.cells #[.int .i64 z] 3)
  rwa [World.size_alloc] at this
 have x1 : W2.heap[w.heap.size]? = some (.cells #[.int .i64 p.k, .string p.c, .string p.x, .slice la ln lc, .slice aa an ac, .int .i64 p.t.k, .int .i64 p.t.p, .string p.t.n, .int .i64 p.t.s, .slice ta tn tc, .slice ua un uc, .slice ka kn kc] 31 (0, 0)) := by rw [<- hW2, Below.heap_alloc _ _ _ (by simp)]; exact World.alloc_heap_new _ _
 have HT := hid (fun (W : World) (hW : Below W2.heap.size W2 W) => tdeep_any B p.t 100 100 rfl (by decide) _ W (hB.le (Nat.le_trans hb2.size hW.size)) ((ht.keep (hb2.keeps'.mono hB)).keep (hW.keeps'.mono (hB.le hb2.size))))
 have HK := hid (fun (W : World) (hW : Below W2.heap.size W2 W) => (hk.keep (hb2.keeps'.mono hB)).keep (hW.keeps'.mono (hB.le hb2.size)))
 have HLow : Hid (Low B W2) := hid (hB.le hb2.size)
 have HW2 := hid hW2
 have HB2 := hid hb2
 have HX2 := hid x2
 have HX1 := hid x1
 have HIH := hid ih
 have HZ2 := hid hz2
 clear hv hk ht hW2 hb2 x2 x1 ih hB hz2
 rw [Pr.deepP_eq]
 have HZD := hid hzd
 clear hzd
 match d, hd, HZD with
 | 0, hd, HZD =>
  have hz : (z == 0) = true := by have := HZD.out; simp; omega
  have hz' : decide (z = 0) = true := by have := HZD.out; simp; omega
  go_enter Tryz.func56, Tryz.ntmps56
  go_upto_region 1 with fail
  rw [HW2.out]
  have c2 := cell1 HX2.out
  go_wp2_with fail
  go_ret
  exact ⟨rfl, HB2.out⟩
 | d + 1, hd, HZD =>
  have hz : (z == 0) = false := by have := HZD.out; simp; omega
  have hz' : decide (z = 0) = false := by have := HZD.out; simp; omega
  have hz2 : decide (d + 1 = 0) = false := by simp
  have en := enters_pd
  rw [hz2, Bool.false_or, Nat.add_sub_cancel, Pr.deepPs_any]
  obtain ⟨⟨q0, q1, q2, q3, q4, q5, q6, q7, q8, q9, q10, q11⟩, -⟩ := c12p HX1.out
  have c2 := cell1 HX2.out
  have HT2 := hid (HT.out W2 (Below.refl _ _))
  cases hdp : decide (100 < p.t.depth) with
  | true =>
   rw [hdp] at HT2
   go_enter Tryz.func56, Tryz.ntmps56
   go_upto_region 1 with fail
   rw [HW2.out]
   go_wp2_with (go_at_call 69; refine HT2.out.mono ?_; rintro e w3 ⟨rfl, hb⟩; have HB3 := hid hb; clear hb)
   go_ret
   exact ⟨rfl, below_seq HB2.out HB3.out⟩
  | false =>
   rw [hdp] at HT2
   rw [Bool.false_or]
   have HTL : Hid (∀ W3, Below W2.heap.size W2 W3 -> TellsProc 85 #[.pointer (some ⟨w.heap.size + 1, 0, none⟩)] B W3 p.ps (fun u => u.deepP d)) := hid (fun W3 hW3 u hu v W hW hv => pdeep_clo B u (HIH.out u hu) d (by omega) z HZD.out (w.heap.size + 1) v W (by have := HZ2.out; have := hW.size; have := hW3.size; omega) (cell1 ((hW.block _ (by have := HZ2.out; have := hW3.size; omega)).trans ((hW3.block _ (by have := HZ2.out; omega)).trans HX2.out))) (HLow.out.le (Nat.le_trans hW3.size hW.size)) hv)
   go_enter Tryz.func56, Tryz.ntmps56
   go_upto_region 1 with fail
   rw [HW2.out]
   go_wp2_with (first | (go_at_call 69; refine HT2.out.mono ?_; rintro e w3 ⟨rfl, hb⟩; have HB3 := hid hb; have r11 := (hb.cell (p := ⟨w.heap.size, 11, none⟩) (gl HX1.out)).trans q11; clear hb) | (go_at_call 84; refine (containsProc_any B p.ps _ 85 _ en _ w3 (HLow.out.le HB3.out.size) (HK.out _ HB3.out) (HTL.out _ HB3.out)).mono ?_; rintro e w4 ⟨rfl, hb⟩; have HB4 := hid hb; clear hb))
   go_ret
   exact ⟨rfl, below_seq (below_seq HB2.out HB3.out) HB4.out⟩
theorem pptrInfo : (Tryz.prog.info? 147).map (fun i => (i.zero, i.size, i.bytes)) = some (some (.pointer none), 1, 8) := by kernel_rfl
theorem news1 (W : World) (x : Value) (t : TypeId) : ∀ (j : Nat) (u : Value), [x][j]? = some u -> (W.alloc (.cells #[x] t)).cell? ((⟨W.heap.size, 0, none⟩ : Addr).add j) = some u := by
 intro j u hj
 match j, hj with
 | 0, hj => simp at hj; subst hj; simp [Addr.add]
def bAd (pa : Option Addr) (i : Nat) : Value := .pointer (pa.map fun a => ⟨a.block, a.off + i * 14 + 2, none⟩)
def bAds (pa : Option Addr) (j : Nat) : List Value := (List.range j).map (bAd pa)
theorem bAds_succ (pa : Option Addr) (j : Nat) : bAds pa (j + 1) = bAds pa j ++ [bAd pa j] := by simp [bAds, List.range_succ]
theorem bAds_length (pa : Option Addr) (j : Nat) : (bAds pa j).length = j := by simp [bAds]
theorem bAds_get (pa : Option Addr) (j i : Nat) (h : i < j) : (bAds pa j)[i]? = some (bAd pa i) := by simp [bAds, h]
def BodyRow (S : Nat -> Prop) (W : World) (r : Nat) (g : Pg) : Prop := ∀ (i : Nat) (p : Pr), g.bodies[i]? = some p -> ∃ kb ko, W.cell? ⟨r, i, none⟩ = some (.pointer (some ⟨kb, ko, none⟩)) /\ PrAt S W p kb ko
theorem hW_keep (S : Nat -> Prop) {w W : World} (hS : Low S w) (h : Below w.heap.size w W) : Keeps S w W := h.keeps'.mono hS
theorem bodies_any (S : Nat -> Prop) (g : Pg) (b o : Nat) (w : World) (hS : Low S w) (hg : PgAt S w g b o) (hn : g.ds.length <= 1000000) :
 Calls Tryz.prog 113 #[.pointer (some ⟨b, o, none⟩)] w fun e w' => ∃ r c, e = .returned (.slice (some ⟨r, 0, none⟩) g.bodies.length c) /\ BodyRow S w' r g /\ w.heap.size <= r /\ r < w'.heap.size /\ Below w.heap.size w w' := by
 obtain ⟨hSb, ⟨dv, c0, hd⟩, hm⟩ := hg
 have hbl := hS b hSb
 obtain ⟨pa, len, c, rfl, hlen, hmx, hget⟩ := hd.open
 have hln : len <= 1000000 := by have := hlen.out; omega
 obtain ⟨i0, hi, hz0, hz1, hz2⟩ := info_parts pptrInfo
 have HG := hid hget
 have HM := hid hm
 clear hget hm hd
 go_enter Tryz.func113, Tryz.ntmps113
 go_wp2_with fail
 go_loopw [3, 10] (fun v i wr => ∃ k : Nat, i = .int .i64 k /\ k <= len /\ wr.ownsRow w.heap.size 147 1 v k (bAds pa k) /\ Below w.heap.size w wr) (fun _ i _ => len - (intOf i).toNat)
 case atStart => exact ⟨0, rfl, by omega, World.ownsRow_nil _ _ _ _, Below.refl _ _⟩
 case round =>
  obtain ⟨k, rfl, hk, hrow, hB⟩ := hrel
  have c1 := (hB.cell (p := ⟨b, o, none⟩) hbl).trans c0
  by_cases hlt : k < len
  ·obtain ⟨d, hdk⟩ : ∃ d, g.ds[k]? = some d := ⟨_, List.getElem?_eq_getElem (by rw [<- hlen.out]; exact hlt)⟩
   obtain ⟨kb, ko, rfl, hkb, hda⟩ := HG.out k d hdk
   have hsz := hB.size
   have hs3 : bAds (some ⟨kb, ko, none⟩) (k + 1) = bAds (some ⟨kb, ko, none⟩) k ++ [.pointer (some ⟨kb, ko + k * 14 + 2, none⟩)] := bAds_succ _ _
   have HS := hid hs3
   clear hdk hda hs3
   go_wp2_with (at_builtin; refine wpList_append_own _ rfl _ _ 145 rfl w.heap.size 147 i0 (.pointer none) 1 8 Tryz.underlying145 hi hz0 hz1 hz2 rfl (by decide) _ _ _ rfl (hrow.alloc _) ⟨wr.heap.size, 0, none⟩ 1 1 [.pointer (some ⟨kb, ko + k * 14 + 2, none⟩)] rfl rfl (news1 wr _ _) (fun u hu => by simp at hu; subst hu; rfl) (by unfold maxLen; omega) (by omega) (by simp; omega) ?_; intro v' w1 hown' hgrow _)
   have hbw : Below w.heap.size wr w1 := ((Below.refl w.heap.size wr).alloc hsz (.cells #[.pointer (some ⟨kb, ko + k * 14 + 2, none⟩)] 147)).grown hgrow (by simp; omega) (fun j ej => (hrow.lt j ej).1)
   have HW := hid hbw
   clear hgrow hbw
   go_wp2_with fail
   go_roundw
   case rel => exact ⟨k + 1, by go_num, by omega, by rw [HS.out]; exact hown', hB.trans HW.out⟩
   case measure => simp [intOf]; omega
  ·obtain rfl : k = len := by omega
   have hsz := hB.size
   go_wp2_with (at_builtin; refine wpList_append_own _ rfl _ _ 145 rfl w.heap.size 147 i0 (.pointer none) 1 8 Tryz.underlying145 hi hz0 hz1 hz2 rfl (by decide) _ _ _ rfl (hrow.alloc _) ⟨wr.heap.size, 0, none⟩ 1 1 [.pointer (some ⟨b, o + 1, none⟩)] rfl rfl (news1 wr _ _) (fun u hu => by simp at hu; subst hu; rfl) (by unfold maxLen; omega) (by omega) (by simp; omega) ?_; intro v' w1 hown' hgrow _)
   have hbw : Below w.heap.size wr w1 := ((Below.refl w.heap.size wr).alloc hsz (.cells #[.pointer (some ⟨b, o + 1, none⟩)] 147)).grown hgrow (by simp; omega) (fun j ej => (hrow.lt j ej).1)
   have HW := hid (hB.trans hbw)
   have HO := hid hown'
   clear hgrow hbw hown'
   go_wp2_with fail
   go_ret
   have hown := HO.out
   rcases hown.2 with ⟨rfl, h0⟩ | ⟨r, cap, cur, rfl, hrb, hrest⟩
   ·omega
   have hbn : g.bodies.length = k + 1 := by unfold Pg.bodies; simp; exact hlen.out.symm
   refine ⟨r, cap, by rw [hbn]; rfl, fun i p hp => ?_, hrb, (hown.lt r rfl).2, HW.out⟩
   have hki := hW_keep S hS HW.out
   have hil := (List.getElem?_eq_some_iff.1 hp).1
   rw [hbn] at hil
   have hc := hown.cellAt i (by omega)
   unfold Pg.bodies at hp
   rcases Nat.lt_or_ge i k with hik | hik
   ·have hds : i < g.ds.length := by rw [<- hlen.out]; exact hik
    rw [List.getElem?_append_left (by simpa using hds), List.getElem?_map] at hp
    obtain ⟨d, hd⟩ : ∃ d, g.ds[i]? = some d := ⟨_, List.getElem?_eq_getElem hds⟩
    rw [hd] at hp
    simp only [Option.map_some, Option.some.injEq] at hp
    subst hp
    obtain ⟨kb, ko, rfl, hkb, hda⟩ := HG.out i d hd
    refine ⟨kb, ko + i * 14 + 2, ?_, PrAt.keep hki _ _ _ hda.2.2.2⟩
    rw [hc, List.getElem?_append_left (by rw [bAds_length]; exact hik), bAds_get _ _ _ hik]
    rfl
   ·obtain rfl : i = k := by omega
    have hme : g.m = p := by
     rw [List.getElem?_append_right (by simp; have := hlen.out; omega)] at hp
     simpa [<- hlen.out] using hp
    subst hme
    refine ⟨b, o + 1, ?_, PrAt.keep hki _ _ _ HM.out⟩
    rw [hc, List.getElem?_append_right (by rw [bAds_length]; exact Nat.le_refl _), bAds_length, Nat.sub_self]
    rfl
end Go.Proofs.YtejaboajgecpaaaGreatDoor
namespace Go.Proofs.YtejaboajgecpaaaGreatDoor
open Go.RowKit
theorem AbidesAll.below {β : Type} {B : Nat} {J : β -> World -> Prop} (h : AbidesAll B J) {s : β} {W W' : World} (hs : J s W) (hb : Below W.heap.size W W') : J s W' :=
 h s W W' none hs ⟨hb.os, hb.tape, hb.output, hb.size, fun k hk _ => hb.block k hk⟩ (fun r e => by cases e)
theorem AbidesAll.drew {β : Type} {B : Nat} {J : β -> World -> Prop} (h : AbidesAll B J) {s : β} {W : World} (hs : J s W) : J s W.drew := h.below hs (Below.refl _ _).drew
theorem _root_.Go.KeepsFrom.le {B B' : Nat} {A C : World} (h : KeepsFrom B A C) (hB : B <= B') : KeepsFrom B' A C := ⟨h.size, fun k o hk hc hx => h.same k o (Nat.le_trans hB hk) hc hx⟩
theorem _root_.Go.KeepsFrom.put {B l : Nat} {W : World} (hl : l < B) (o : Obj) : KeepsFrom B W (W.putObj l o) := ⟨by simp, fun k o' hk hx _ => (World.putObj_heap_other (by omega)).trans hx⟩
def Tells2 {α : Type} (F : Fence) (n : Nat) (P : Program) (g : Nat) (lb : Array Value) (encs : α -> Array Value) (Px : α -> World -> Prop) (Kp : World -> World -> Prop) (S Sp : List α -> Prop) (w : World) : Prop :=
 ∀ (l : Nat) (J Jx : List α -> World -> Prop) (W : World), Below w.heap.size w W -> AbidesAll W.heap.size J -> AbidesAll W.heap.size Jx ->
  (∀ pre x W1, J pre W1 -> Px x W1 -> YieldAt F (n - 1) P l (encs x) W1 fun e W' =>
   ((e = .returned (.bool true) /\ J (pre ++ [x]) W' /\ Kp W1 W') \/ (e = .returned (.bool false) /\ Jx (pre ++ [x]) W')) /\ KeepsFrom W.heap.size W1 W') ->
  J [] W ->
  CallsIn F n P g (#[.func (.yield l) #[] #[]] ++ lb) W fun e W' => (∃ v, e = .returned v) /\ ((∃ xs, S xs /\ J xs W') \/ (∃ pre, Sp pre /\ Jx pre W'))
variable {F : Fence} {n : Nat} {P : Program}
theorem wpIn_range_told2 {α : Type} {g : Operand} {ps : Array Tmp} {assign body : Code} {Q : Exit -> Act -> World -> Prop} {a : Act} {w : World}
 (hro : F.round = none) (h1 : 1 <= n) {gf : Nat} {lb : Array Value} (hg : a.eval g = .func (.func gf) #[] lb) (hFg : F.fn gf) (eg : ∀ args w, (callFunc gf args).run P w = .ok (.enter gf args) w)
 {encs : α -> Array Value} {Px : α -> World -> Prop} {Kp : World -> World -> Prop} {S Sp : List α -> Prop} {w0 : World} (hseq : Tells2 F (n - 1) P gf lb encs Px Kp S Sp w0)
 (hKt : ∀ {A B C : World}, Kp A B -> Kp B C -> Kp A C) (hKb : ∀ (W : World) (l : Nat) (o o' : Obj), w.heap.size <= l -> W.heap[l]? = some o -> o.isCells = false -> o.isWalk = false -> Kp W (W.putObj l o'))
 (hPx : ∀ x A B, CellsKept A B -> Px x A -> Px x B) (hb0 : Below w0.heap.size w0 w) (hps : ∀ x, (encs x).size = ps.size)
 (I : List α -> World -> Prop) (Ix : Code -> List α -> World -> Prop) (hI : AbidesAll w.heap.size I) (hIx : ∀ c, AbidesAll w.heap.size (Ix c)) (h0 : I [] w) (Ax : α -> Act -> World -> Prop) (hAx : ∀ x a' A B, CellsKept A B -> Ax x a' A -> Ax x a' B)
 (hassign : ∀ (l : Nat) (pre : List α) (x : α) (W : World) (K : Act -> World -> Prop), I pre W -> Px x W -> (∀ a' W', KeepsFrom w.heap.size W W' -> Kp W W' -> I pre W' -> Px x W' -> Ax x a' W' -> K a' W') ->
  assign.wpIn (F.inRound l) (n - 1 - 1) P (Exit.then K (fun _ _ _ => False)) { tmps := (ps.zip (encs x)).foldl (fun t (p, v) => t.setIfInBounds p v) a.tmps, defers := [] } W)
 (hbody : ∀ (l : Nat) (pre : List α) (x : α) (a' : Act) (W : World), w.heap.size <= l -> (∃ r, W.heap[l]? = some (.loop r)) -> I pre W -> Px x W -> Ax x a' W -> body.wpIn (F.inRound l) (n - 1 - 1) P (ownPostG w.heap.size Kp I Ix (pre ++ [x]) W) a' W)
 (hdone : ∀ (D : Nat) (xs : List α) (W : World), w.heap.size <= D -> S xs -> I xs W -> W.heap[D]? = some (.deferred (some [])) -> Q .normal { a with defers := { target := .collected D, args := #[] } :: a.defers } W)
 (hstop : ∀ (D : Nat) (c : Code) (pre : List α) (W : World), w.heap.size <= D -> Sp pre -> Ix c pre W -> W.heap[D]? = some (.deferred (some [])) -> c.wpIn F n P Q { a with defers := { target := .collected D, args := #[] } :: a.defers } W) :
 (Code.rangeFunc g ps assign body).wpIn F n P Q a w := by
 refine wpIn_rangeFunc ?_
 intro fn hfn
 rw [hro]
 generalize hL : w.heap.size + 1 = L
 have hLw : w.heap.size < L := by omega
 let rec_ (st : LoopState) (pe : Option Code) : Loop := { state := st, pending := pe, fn, tmps := a.tmps, params := ps, assign, body, defers := w.heap.size }
 obtain ⟨W1, hW1⟩ := ex1 ((w.alloc (.deferred (some []))).alloc (.loop (rec_ .ready none)))
 have hs1 : W1.heap.size = L + 1 := by rw [<- hW1]; simp; omega
 have hL1 : W1.heap[L]? = some (.loop (rec_ .ready none)) := by
  have h := World.alloc_heap_new (w.alloc (.deferred (some []))) (.loop (rec_ .ready none))
  rw [World.size_alloc, hL, hW1] at h; exact h
 have hK1 : W1.heap[w.heap.size]? = some (.deferred (some [])) := by
  rw [<- hW1]; exact (Below.heap_alloc _ _ _ (by simp)).trans (World.alloc_heap_new w _)
 have hI1 : I [] W1 := by rw [<- hW1]; exact hI.alloc _ (hI.alloc _ h0)
 have hb1 : Below w0.heap.size w0 W1 := by
  rw [<- hW1]; exact hb0.trans ((((Below.refl _ w).alloc (Nat.le_refl _) _).alloc (by simp) _).mono hb0.size)
 refine ⟨L, [{ target := .collected w.heap.size, args := #[] }], W1, { target := .fn (.func gf) lb, args := #[.func (.yield L) #[] #[]] }, W1, gf, #[.func (.yield L) #[] #[]] ++ lb, W1, ?_, ?_, ?_, ?_, fun _ => h1, ?_⟩
 ·rw [<- hW1, <- hL]; exact run_enterLoop_outer _ _ _ _ _
 ·simp only [resolve, hg]
  simp [go_sem]
 ·intro f' hf'; simp [Target.leads] at hf'; subst hf'; exact hFg
 ·simp [invoke, go_sem, eg]
 refine (hseq L (fun pre W => I pre W /\ W.heap[L]? = some (.loop (rec_ .ready none)) /\ W.heap[w.heap.size]? = some (.deferred (some [])))
  (fun pre W => ∃ c, Ix c pre W /\ W.heap[L]? = some (.loop (rec_ .done (some c))) /\ W.heap[w.heap.size]? = some (.deferred (some []))) W1 hb1
  ((hI.mono (by omega)).and ((abidesAll_block (by omega)).and (abidesAll_block (by omega)))) ?_ ?_ ⟨hI1, hL1, hK1⟩).mono ?_
 ·rintro s A B row ⟨c, hc⟩ hg' hr
  exact ⟨c, ((hIx c).mono (by omega)).and ((abidesAll_block (by omega)).and (abidesAll_block (by omega))) s A B row hc hg' hr⟩
 · -- one round
  rintro pre x W ⟨hi, hl, hk⟩ hpx
  have hy := run_yield (P := P) (args := encs x) hl (hps x)
  refine ⟨fn, _, assign, body, hy, roundIn_of_wpIn hfn (hassign _ pre x W _ hi hpx ?_)⟩
  clear hy
  intro a' V hkf hkp hiV hpV hax
  have hlV := hkf.same _ _ (by omega) hl rfl
  have hkV := hkf.same _ _ (Nat.le_refl _) hk rfl
  refine ⟨_, run_beginRound hlV rfl, ?_⟩
  have hl2 : (V.putObj L (.loop (rec_ .busy none))).heap[L]? = some (.loop (rec_ .busy none)) := World.putObj_heap_same (gl hlV)
  have hk2 : (V.putObj L (.loop (rec_ .busy none))).heap[w.heap.size]? = some (.deferred (some [])) := (World.putObj_heap_other (by omega)).trans hkV
  have hp2 : Kp V (V.putObj L (.loop (rec_ .busy none))) := hKb _ _ _ _ (by omega) hlV rfl rfl
  refine wpIn_mono (hbody _ pre x a' _ (by omega) ⟨_, hl2⟩ (hI.put _ hiV (by omega)) (hPx x _ _ (cellsKept_put hlV rfl) hpV) (hAx x a' _ _ (cellsKept_put hlV rfl) hax)) ?_
  have fin : ∀ (jump : Option Code) (X : World), KeepsFrom w.heap.size (V.putObj L (.loop (rec_ .busy none))) X ->
   (Instr.endRound L jump).run P X = .ok (.bool jump.isNone) (X.putObj L (.loop (rec_ (if jump.isNone then .ready else .done) jump))) /\ X.heap[L]? = some (.loop (rec_ .busy none)) /\
   (X.putObj L (.loop (rec_ (if jump.isNone then .ready else .done) jump))).heap[L]? = some (.loop (rec_ (if jump.isNone then .ready else .done) jump)) /\
   (X.putObj L (.loop (rec_ (if jump.isNone then .ready else .done) jump))).heap[w.heap.size]? = some (.deferred (some [])) := fun jump X hX => by
   have h3 := hX.same _ _ (by omega) hl2 rfl
   exact ⟨run_endRound (P := P) jump h3, h3, World.putObj_heap_same (gl h3), (World.putObj_heap_other (by omega)).trans (hX.same _ _ (Nat.le_refl _) hk2 rfl)⟩
  have all : ∀ (o : Obj) (X : World), KeepsFrom w.heap.size (V.putObj L (.loop (rec_ .busy none))) X -> KeepsFrom W1.heap.size W (X.putObj L o) := fun o X hX =>
   ((hkf.le (by omega)).trans (Go.KeepsFrom.put (by omega) _)).trans ((hX.le (by omega)).trans (Go.KeepsFrom.put (by omega) _))
  rintro e a3 X hp
  cases e with
  | normal =>
   obtain ⟨hX, hkp3, hi3⟩ := hp
   obtain ⟨hr, hl3, hl4, hk4⟩ := fin none X hX
   exact ⟨_, _, hr, .inl ⟨rfl, ⟨hI.put _ hi3 (by omega), hl4, hk4⟩, hKt hkp (hKt (hKt hp2 hkp3) (hKb _ _ _ _ (by omega) hl3 rfl rfl))⟩, all _ X hX⟩
  | ret =>
   obtain ⟨hX, hi3⟩ := hp
   obtain ⟨hr, hl3, hl4, hk4⟩ := fin (some .ret) X hX
   exact ⟨_, _, hr, .inr ⟨rfl, .ret, (hIx _).put _ hi3 (by omega), hl4, hk4⟩, all _ X hX⟩
  | exit id =>
   obtain ⟨hX, hi3⟩ := hp
   obtain ⟨hr, hl3, hl4, hk4⟩ := fin (some (.exit id)) X hX
   exact ⟨_, _, hr, .inr ⟨rfl, .exit id, (hIx _).put _ hi3 (by omega), hl4, hk4⟩, all _ X hX⟩
  | goto t =>
   obtain ⟨hX, hi3⟩ := hp
   obtain ⟨hr, hl3, hl4, hk4⟩ := fin (some (.goto t)) X hX
   exact ⟨_, _, hr, .inr ⟨rfl, .goto t, (hIx _).put _ hi3 (by omega), hl4, hk4⟩, all _ X hX⟩
  | panic ch => exact hp.elim
  | outgrown => exact hp.elim
 · -- behind the iterator
  rintro e W2 ⟨⟨v, rfl⟩, (⟨xs, hS, hi, hl, hk⟩ | ⟨pre, hSp, c, hi, hl, hk⟩)⟩
  ·exact ⟨none, _, run_endLoop (P := P) hl (by simp [rec_]), hdone _ xs _ (Nat.le_refl _) hS (hI.put _ hi (by omega)) ((World.putObj_heap_other (by omega)).trans hk)⟩
  ·exact ⟨some c, _, run_endLoop (P := P) hl (by simp [rec_]), hstop _ c pre _ (Nat.le_refl _) hSp ((hIx c).put _ hi (by omega)) ((World.putObj_heap_other (by omega)).trans hk)⟩
end Go.Proofs.YtejaboajgecpaaaGreatDoor
