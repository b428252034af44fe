/- Programs: lemmas. -/
import Derived.Test.YtejaboajgecpaaaGreatDoorQn26
set_option maxHeartbeats 16000000
set_option maxRecDepth 100000
namespace Go.Proofs.YtejaboajgecpaaaGreatDoor
open Go.Lib (hid)
open Go.RowKit Go.Deep Go.Shelf
attribute [local go_sem] Oper.semAt_some
theorem counts_any (a : Option Addr) (w : World) :
 Calls Tryz.prog 86 #[.pointer a] w fun e w' => e = .returned (.func (.func 112) #[] #[.pointer (some ⟨w.heap.size, 0, none⟩)]) /\ w' = w.alloc (.cells #[.pointer a] 129) := by
 go_enter Tryz.func86, Tryz.ntmps86
 go_wp2
 go_ret
 exact ⟨rfl, rfl⟩
def marks (Ds : List Nat) : List Deferred := Ds.map fun D => { target := .collected D, args := #[] }
def Marked (lo : Nat) (Ds : List Nat) (W : World) : Prop := Ds.Nodup /\ ∀ D ∈ Ds, lo <= D /\ W.heap[D]? = some (.deferred (some []))
theorem Marked.nil (lo : Nat) (W : World) : Marked lo [] W := ⟨List.nodup_nil, fun D h => by cases h⟩
theorem Marked.keeps {lo : Nat} {Ds : List Nat} {A B : World} (h : Marked lo Ds A) (hk : KeepsFrom lo A B) : Marked lo Ds B := ⟨h.1, fun D hD => ⟨(h.2 D hD).1, hk.same D _ (h.2 D hD).1 (h.2 D hD).2 rfl⟩⟩
theorem Marked.cons {lo D : Nat} {Ds : List Nat} {W : World} (h : Marked lo Ds W) (hne : D ∉ Ds) (hlo : lo <= D) (hD : W.heap[D]? = some (.deferred (some []))) : Marked lo (D :: Ds) W :=
 ⟨List.nodup_cons.2 ⟨hne, h.1⟩, fun E hE => by
  rcases List.mem_cons.1 hE with rfl | hE
  ·exact ⟨hlo, hD⟩
  ·exact h.2 E hE⟩
theorem leaves_marked {F : Fence} {n lo : Nat} {P : Program} {fn : Func} {tmps : Array Value} {R : Ending -> World -> Prop} {J : World -> Prop} (hJ : ∀ (W : World) (D : Nat) (o : Obj), J W -> lo <= D -> J (W.putObj D o)) (hR : ∀ W, J W -> LeavesIn F n P fn tmps R [] .returning W) :
 ∀ (Ds : List Nat) (W : World), J W -> Marked lo Ds W -> LeavesInM F n P fn tmps R (marks Ds) .returning W
 | [], W, hj, _ => hR W hj
 | D :: Ds, W, hj, hm => by
  have hD := hm.2 D (by simp)
  refine ⟨by simp, .inl ⟨_, _, rfl, run_takeDeferred hD.2, ?_⟩⟩
  refine leaves_marked hJ hR Ds _ (hJ _ _ _ hj hD.1) ⟨(List.nodup_cons.1 hm.1).2, fun E hE => ⟨(hm.2 E (by simp [hE])).1, ?_⟩⟩
  have hne : E ≠ D := fun e => (List.nodup_cons.1 hm.1).1 (e ▸ hE)
  exact (World.putObj_heap_other hne).trans (hm.2 E (by simp [hE])).2
def noP (Q : Exit -> Act -> World -> Prop) : Exit -> Act -> World -> Prop
 | .panic _, _, _ => False
 | e, a, w => Q e a w
theorem noP_imp {Q : Exit -> Act -> World -> Prop} : ∀ e a w, noP Q e a w -> Q e a w := fun e a w h => by
 cases e <;> first | exact h | exact h.elim
abbrev cnArgs (x : Nat) : Array Value := #[.int .i64 (x : Int)]
def CnY (l : Nat) (lo : Nat) (X : Nat -> Prop) (J Jx : List Nat -> World -> Prop) : Prop :=
 ∀ m pre x W1, x <= 1000000 -> J pre W1 -> YieldAt Fence.wide m Tryz.prog l (cnArgs x) W1 fun e W' => ∃ r, e = .returned (.bool r) /\ ((r = true /\ J (pre ++ [x]) W' /\ Kp X W1 W') \/ (r = false /\ Jx (pre ++ [x]) W')) /\ KeepsFrom lo W1 W'
theorem grown_box {X : Nat -> Prop} (W : World) (o : Obj) : Kp X W (W.alloc o) := KV.of_cells (by simp) (cellsKept_alloc W o)
theorem abides_of {α β : Type} {B B' : Nat} {J : β -> World -> Prop} (h : AbidesAll B J) (hB : B <= B') (f : α -> β) : AbidesAll B' (fun s W => J (f s) W) := fun s A C row hs hg hr => h (f s) A C row hs hg (fun r e => Nat.le_trans hB (hr r e))
theorem abides_kp {β : Type} (X : Nat -> Prop) (A : World) : AbidesAll A.heap.size (fun (_ : β) W => Kp X A W) := fun _ W C row hs hg hr => ⟨Nat.le_trans hs.size hg.size, fun k o hk hc hx ha => by
 have hW := hs.keep k o hk hc hx ha
 exact (hg.block k (gl hW) (fun e => by have := hr k e.symm; have := (gl hk); omega)).trans hW⟩
theorem abides_from {β : Type} (lo : Nat) (A : World) : AbidesAll A.heap.size (fun (_ : β) W => KeepsFrom lo A W) := fun _ W C row hs hg hr => ⟨Nat.le_trans hs.size hg.size, fun k o hlo hk hc => by
 have hW := hs.same k o hlo hk hc
 exact (hg.block k (gl hW) (fun e => by have := hr k e.symm; have := (gl hk); omega)).trans hW⟩
theorem addsL_snoc (l : List Np) (x : Np) : addsL ((l ++ [x]).map Np.g) = addsL (l.map Np.g) ++ [x.p.adds] := by simp [addsL, Np.g]
theorem addsL_prefix {l r : List (Nat × Pr)} (h : l <+: r) : addsL l <+: addsL r := by
 obtain ⟨s, rfl⟩ := h
 unfold addsL; rw [List.map_append]; exact List.prefix_append _ _
theorem counts_tells (n : Nat) (hn : 1 <= n) (Bt b o : Nat) (g : Pg) (S X : Nat -> Prop) (w : World) (hX : ∀ k, X k -> ¬ S k /\ k ≠ Bt /\ k < w.heap.size) (hS : Low S w) (hBt : Bt < w.heap.size) (hc : w.cell? ⟨Bt, 0, none⟩ = some (.pointer (some ⟨b, o, none⟩))) (hg : PgAt S w g b o) (hgood : GGood g) :
 Tells2 Fence.wide n Tryz.prog 112 #[.pointer (some ⟨Bt, 0, none⟩)] cnArgs (fun x _ => x <= 1000000) (Kp X) (fun ys => ys = g.cnts) (fun pre => pre <+: g.cnts) w := by
 intro l J Jx W hW hJ hJx hY h0
 have HY : Hid (CnY l W.heap.size X J Jx) := hid (fun m pre x W1 hx hj => (yield_any rfl m (hY pre x W1 hj hx)).mono fun e W' h => by
  rcases h with ⟨⟨h1, h2, h3⟩ | ⟨h1, h2⟩, hk⟩
  ·exact ⟨true, h1, .inl ⟨rfl, h2, h3⟩, hk⟩
  ·exact ⟨false, h1, .inr ⟨rfl, h2⟩, hk⟩)
 clear hY
 have hWs := hW.size
 have hc' : W.cell? ⟨Bt, 0, none⟩ = some (.pointer (some ⟨b, o, none⟩)) := (hW.cell (p := ⟨Bt, 0, none⟩) hBt).trans hc
 have hgW := hg.keep (hW.keeps'.mono hS)
 obtain ⟨hSb, ⟨dv, e0, hd⟩, hm⟩ := hgW
 obtain ⟨pa, len, c, rfl, hlen, hmx, hget⟩ := hd.open
 have hbl := hS b hSb
 have HJ := hid hJ
 have HJX := hid hJx
 have hkb := grown_box (X := X) W (.cells #[.func (.yield l) #[] #[]] 144)
 have HJ1 := hid (hJ.alloc (.cells #[.func (.yield l) #[] #[]] 144) h0)
 have y0 : (W.alloc (.cells #[.func (.yield l) #[] #[]] 144)).cell? ⟨W.heap.size, 0, none⟩ = some (.func (.yield l) #[] #[]) := blk_cell (Below.refl _ _) 0 rfl
 have hs1 : (W.alloc (.cells #[.func (.yield l) #[] #[]] 144)).heap.size = W.heap.size + 1 := by simp
 obtain ⟨W1, hW1⟩ := ex1 (W.alloc (.cells #[.func (.yield l) #[] #[]] 144))
 rw [hW1] at hkb HJ1 y0 hs1
 have hSX : ∀ {A : World}, Kp X W1 A -> Keeps S W1 A := fun h => h.keeps (fun k hk => ⟨fun hx => (hX k hx).1 hk, by simp [Value.ownBlock]⟩)
 have hS1 : Keeps S W W1 := hkb.keeps (fun k hk => ⟨fun hx => (hX k hx).1 hk, by simp [Value.ownBlock]⟩)
 have HD : Hid (∀ (j : Nat) (d : Df), g.ds[j]? = some d -> ∃ kb ko, pa = some ⟨kb, ko, none⟩ /\ S kb /\ kb < w.heap.size /\ (∀ A, Kp X W1 A -> DfAt S A d kb (ko + j * 14)) /\ (∀ a ∈ d.ms, a.t.size <= 100000 /\ a.t.depth <= 1000)) := hid (fun j d hj => by
  obtain ⟨kb, ko, e, hkb, hda⟩ := hget j d hj
  exact ⟨kb, ko, e, hkb, hS kb hkb, fun A hA => (hda.keep hS1 hkb).keep (hSX hA) hkb, fun a ha => hgood.pm (List.mem_of_getElem? hj) ha⟩)
 have hgW1 : PgAt S W1 g b o := (hg.keep (hW.keeps'.mono hS)).keep hS1
 have e0' : W1.cell? ⟨b, o, none⟩ = some (.slice pa len c) := hS1.cell hSb e0
 have HG : Hid (∀ A, Kp X W1 A -> PgAt S A g b o /\ A.cell? ⟨b, o, none⟩ = some (.slice pa len c)) := hid (fun A hA => ⟨hgW1.keep (hSX hA), (hSX hA).cell hSb e0'⟩)
 have HC : Hid (∀ A, Kp X W1 A -> A.cell? ⟨Bt, 0, none⟩ = some (.pointer (some ⟨b, o, none⟩)) /\ A.cell? ⟨W.heap.size, 0, none⟩ = some (.func (.yield l) #[] #[])) := hid (fun A hA => by
  have h1 : Keeps (fun k => k = Bt) W A := (hkb.trans hA).keeps (fun k hk => ⟨fun hx => (hX k hx).2.1 hk, by simp [Value.ownBlock]⟩)
  have h2 : Keeps (fun k => k = W.heap.size) W1 A := hA.keeps (fun k hk => ⟨fun hx => by have := (hX k hx).2.2; omega, by simp [Value.ownBlock]⟩)
  exact ⟨h1.cell rfl hc', h2.cell rfl y0⟩)
 have HGood := hid hgood
 have HKS : Hid (∀ A B : World, Kp X A B -> Keeps S A B) := hid (fun A B h => h.keeps (fun k hk => ⟨fun hx => (hX k hx).1 hk, by simp [Value.ownBlock]⟩))
 have HSL : Hid (∀ k, S k -> k < w.heap.size) := hid hS
 have HX := hid hX
 clear hget hd hm hgW1 hJ hJx h0 hg hgood hc hX hS hS1 hSX hkb y0 hW hBt e0 e0' hc'
 obtain ⟨b0, b1⟩ := HC.out W1 (KV.refl _ _ _)
 have b2 := (HG.out W1 (KV.refl _ _ _)).2
 refine callsIn_of_wp_marks Tryz.func112 rfl trivial (wpIn_mono (Q := noP _) ?_ noP_imp) rfl
 simp only [Tryz.ntmps112, List.size_toArray, List.length_cons, List.length_nil, Nat.reduceAdd, Nat.reduceSub, Array.replicate_succ, Array.replicate_zero, List.push_toArray, List.append_toArray, List.nil_append, List.cons_append]
 gi_wp2_with fail
 clear b0 b1 b2 hW1
 gi_loopw [16] (fun i wr => ∃ (j : Nat), i = .int .i64 (j : Int) /\ j <= len /\ Hid (J (paramCnts (g.ds.take j)) wr) /\ Hid (Kp X W1 wr) /\ Hid (KeepsFrom W.heap.size W1 wr)) (fun i _ => len - (intOf i).toNat)
 case atStart => exact ⟨0, rfl, by omega, hid (by simpa [paramCnts] using HJ1.out), hid (KV.refl _ _ _), hid (KeepsFrom.refl _ _)⟩
 case round =>
  obtain ⟨j, rfl, hj, HJJ, HKV, HKF⟩ := hrel
  obtain ⟨wo, hwo⟩ : ∃ wo, wo = wr := ⟨_, rfl⟩
  subst hwo
  obtain ⟨b0, b1⟩ := HC.out wo HKV.out
  by_cases hlt : j < len
  ·obtain ⟨d, hdj⟩ : ∃ d, g.ds[j]? = some d := ⟨_, List.getElem?_eq_getElem (by rw [<- hlen.out]; exact hlt)⟩
   obtain ⟨kb, ko, rfl, hkS, hkw, hda, hpm⟩ := HD.out j d hdj
   obtain ⟨ma, mn, mc, la', ln', lc', aa', an', ac', ta', tn', tc', ua', un', uc', ka', kn', kc', ⟨d0, d1, d2, d3, d4, d5, d6, d7, d8, d9, d10, d11, d12, d13⟩, hms, hval⟩ := (hda wo HKV.out).load'
   obtain ⟨_, _, _, hpe, hmlen, hmmx, hmget⟩ := hms.open
   simp only [Value.slice.injEq] at hpe
   obtain ⟨rfl, rfl, rfl⟩ := hpe
   have hk2 := grown_box (X := X) wo (.cells #[.string d.n, .slice ma mn mc, .int .i64 d.b.k, .string d.b.c, .string d.b.x, .slice la' ln' lc', .slice aa' an' ac', .int .i64 d.b.t.k, .int .i64 d.b.t.p, .string d.b.t.n, .int .i64 d.b.t.s, .slice ta' tn' tc', .slice ua' un' uc', .slice ka' kn' kc'] 61)
   gi_wp2_with fail
   have hwr : W.heap.size + 1 <= wo.heap.size := by have := HKV.out.size; omega
   have HPM : Hid (∀ (k : Nat) (a : Pm), d.ms[k]? = some a -> ∃ pb po, ma = some ⟨pb, po, none⟩ /\ S pb /\ pb < w.heap.size /\ (∀ A, Kp X wo A -> PmAt S A a pb (po + k * 7)) /\ a.t.size <= 100000 /\ a.t.depth <= 1000) := hid (fun k a hk => by
    obtain ⟨pb, po, e, hpb, hpa⟩ := hmget k a hk
    have := hpm a (List.mem_of_getElem? hk)
    exact ⟨pb, po, e, hpb, HSL.out pb hpb, fun A hA => hpa.keep (HKS.out wo A hA) hpb, this.1, this.2⟩)
   have HML := hid hmlen.out
   have HPJ : Hid (paramCnts (g.ds.take (j + 1)) = paramCnts (g.ds.take j) ++ d.pms) := hid (flatMap_take Df.pms hdj)
   have HPX : Hid (paramCnts (g.ds.take j) ++ d.pms <+: g.cnts) := hid (by
    rw [<- HPJ.out]; exact (flatMap_prefix g.ds (j + 1) Df.pms).trans (List.prefix_append _ _))
   have HK2 := hid hk2
   have HJ2 := hid (HJ.out.alloc (.cells #[.string d.n, .slice ma mn mc, .int .i64 d.b.k, .string d.b.c, .string d.b.x, .slice la' ln' lc', .slice aa' an' ac', .int .i64 d.b.t.k, .int .i64 d.b.t.p, .string d.b.t.n, .int .i64 d.b.t.s, .slice ta' tn' tc', .slice ua' un' uc', .slice ka' kn' kc'] 61) HJJ.out)
   have HKF2 : Hid (KeepsFrom W.heap.size wo (wo.alloc (.cells #[.string d.n, .slice ma mn mc, .int .i64 d.b.k, .string d.b.c, .string d.b.x, .slice la' ln' lc', .slice aa' an' ac', .int .i64 d.b.t.k, .int .i64 d.b.t.p, .string d.b.t.n, .int .i64 d.b.t.s, .slice ta' tn' tc', .slice ua' un' uc', .slice ka' kn' kc'] 61))) := hid ((KeepsOthers.alloc _ _).from _)
   clear d0 d1 d2 d3 d4 d5 d6 d7 d8 d9 d10 d11 d12 d13 hms hval hmget hmlen hdj hda hpm hk2 b0 b1
   gi_loopw [23] (fun i wr => ∃ (k : Nat), i = .int .i64 (k : Int) /\ k <= mn /\ Hid (J (paramCnts (g.ds.take j) ++ d.pms.take k) wr) /\ Hid (Kp X wo wr) /\ Hid (KeepsFrom W.heap.size wo wr)) (fun i _ => mn - (intOf i).toNat)
   case atStart => exact ⟨0, rfl, by omega, hid (by simpa using HJ2.out), HK2, HKF2⟩
   case round =>
    obtain ⟨k, rfl, hk, HJ3, HK3, HKF3⟩ := hrel
    by_cases hlt2 : k < mn
    ·obtain ⟨a, hak⟩ : ∃ a, d.ms[k]? = some a := ⟨_, List.getElem?_eq_getElem (by rw [<- HML.out]; exact hlt2)⟩
     obtain ⟨pb, po, rfl, hpbS, hpbw, hpa, has, had⟩ := HPM.out k a hak
     obtain ⟨la3, ln3, lc3, ka3, kn3, kc3, ⟨q0, q1, q2, q3, q4, q5, q6⟩, htv⟩ := (hpa wr HK3.out).load'
     have hwr2 : wo.heap.size <= wr.heap.size := HK3.out.size
     have hyl : W.heap.size < wr.heap.size := by omega
     have hbx := blkBelow wr #[.string a.n, .int .i64 a.t.k, .int .i64 a.t.p, .string a.t.n, .int .i64 a.t.s, .slice la3 ln3 lc3, .slice ka3 kn3 kc3] 63
     have hlow2 : Low S wr := fun k hk => by have := HSL.out k hk; omega
     have HSz := hid (tsize_any S a.t (by omega) (by omega) _ _ (hlow2.le hbx.drew.size) (htv.to hlow2 hbx.drew))
     have HJ4 := hid (HJ.out.drew (HJ.out.alloc (.cells #[.string a.n, .int .i64 a.t.k, .int .i64 a.t.p, .string a.t.n, .int .i64 a.t.s, .slice la3 ln3 lc3, .slice ka3 kn3 kc3] 63) HJ3.out))
     have HBX := hid hbx.drew
     have HTK : Hid (d.pms.take (k + 1) = d.pms.take k ++ [a.t.size]) := hid (take_snoc_get (by unfold Df.pms; rw [List.getElem?_map, hak]; rfl))
     obtain ⟨_, yw⟩ := HC.out wr (HKV.out.trans HK3.out)
     obtain ⟨sz, hsz⟩ := ex1 (a.t.size)
     rw [hsz] at HSz HTK has
     clear hpa htv hak hbx hsz had
     gi_wp2_with fail
     gi_region_with (first | (refine ⟨trivial, ?_⟩; gi_at_call 70; refine (callsIn_wide.2 HSz.out).mono ?_; rintro e w5 ⟨rfl, hb5⟩; obtain ⟨fn, tmps, assign, body, hy, hR⟩ := HY.out (n - 1) _ sz w5 (by omega) (HJ.out.below HJ4.out hb5); simp only [cnArgs] at hy; replace hR := hid hR; obtain ⟨hcl, hfz⟩ := bcell hb5; replace hb5 := hid hb5) | (refine ⟨fun h => (by cases h), ?_⟩; refine hR.out.mono ?_; rintro e w6 ⟨r, rfl, hcase, hkf⟩) | (refine hR.out.mono ?_; rintro e w6 ⟨r, rfl, hcase, hkf⟩))
     all_goals
      have hb35 := below_seq HBX.out hb5.out
      rcases hcase with ⟨rfl, hj6, hk6⟩ | ⟨rfl, hx6⟩
      ·have HJ6 : Hid (J (paramCnts (g.ds.take j) ++ d.pms.take (k + 1)) w6) := hid (by rw [HTK.out, <- List.append_assoc]; exact hj6)
       have HK6 : Hid (Kp X wo w6) := hid ((HK3.out.trans (KV.of_below hb35)).trans hk6)
       have HKF6 : Hid (KeepsFrom W.heap.size wo w6) := hid (HKF3.out.trans (((keepsOthers_below hb35).from _).trans hkf))
       clear hj6 hk6 hkf hb35 hy hcl hfz
       gi_wp2_with fail
       exact ⟨⟨k + 1, by go_num, by omega, HJ6, HK6, HKF6⟩, by simp [intOf]; omega⟩
      ·have HX6 : Hid (∃ pre, pre <+: g.cnts /\ Jx pre w6) := hid ⟨_, (by
        rw [List.append_assoc, <- HTK.out]
        exact ((List.prefix_append_right_inj _).2 (List.take_prefix _ _)).trans HPX.out), hx6⟩
       clear hx6 hkf hb35 hy hcl hfz
       gi_wp2_with fail
       exact ⟨_, results_none rfl _ _ _, ⟨_, rfl⟩, .inr HX6.out⟩
    ·obtain rfl : k = mn := by omega
     have HJ6 : Hid (J (paramCnts (g.ds.take (j + 1))) wr) := hid (by
      rw [HPJ.out]
      have h := HJ3.out
      have e : d.pms.take k = d.pms := List.take_of_length_le (by unfold Df.pms; rw [List.length_map, HML.out]; exact Nat.le_refl _)
      rwa [e] at h)
     have HK6 : Hid (Kp X W1 wr) := hid (HKV.out.trans HK3.out)
     have HKF6 : Hid (KeepsFrom W.heap.size W1 wr) := hid (HKF.out.trans HKF3.out)
     gi_wp2_with fail
     exact ⟨⟨j + 1, by go_num, by omega, HJ6, HK6, HKF6⟩, by simp [intOf]; omega⟩
  ·obtain rfl : j = len := by omega
   have HJ7 : Hid (J (paramCnts g.ds) wo) := hid (by have h := HJJ.out; rwa [List.take_of_length_le (by rw [hlen.out]; exact Nat.le_refl _)] at h)
   have hwo : W.heap.size + 1 <= wo.heap.size := by have := HKV.out.size; omega
   have hlowo : Low S wo := fun k hk => by have := HSL.out k hk; omega
   have HBo := hid (bodies_any S g b o wo hlowo (HG.out wo HKV.out).1 (by have := HGood.out.1; omega))
   clear hlowo
   gi_wp2_with (refine ⟨trivial, ?_⟩; gi_at_call 113; refine (callsIn_wide.2 HBo.out).mono ?_; rintro e w5 ⟨r, cp, rfl, hrow, hr1, hr2, hb5⟩; replace hrow := hid hrow; replace hb5 := hid hb5)
   obtain ⟨nb, hnb⟩ := ex1 (g.bodies.length)
   rw [hnb]
   have HNB := hid hnb
   have hnbb : nb <= 100001 := by rw [<- hnb]; unfold Pg.bodies; have := HGood.out.1; simp; omega
   have hz5 := hb5.out.size
   have HJ8 : Hid (J (paramCnts g.ds) w5) := hid (HJ.out.below HJ7.out hb5.out)
   have HK8 : Hid (Kp X W1 w5) := hid (HKV.out.trans (KV.of_below hb5.out))
   have HF8 : Hid (KeepsFrom W.heap.size W1 w5) := hid (HKF.out.trans ((keepsOthers_below hb5.out).from _))
   have HBOD : Hid (∀ (i : Nat) (p : Pr) (A : World), g.bodies[i]? = some p -> Kp X w5 A -> ∃ kb ko, A.cell? ⟨r, i, none⟩ = some (.pointer (some ⟨kb, ko, none⟩)) /\ PrAt S A p kb ko /\ PGood p /\ p.depth <= 99999) := hid (fun i p A hp hA => by
    obtain ⟨kb, ko, h1, h2⟩ := hrow.out i p hp
    have hr : Keeps (fun k => k = r) w5 A := hA.keeps (fun k hk => ⟨fun hx => by have := (HX.out k hx).2.2; omega, by simp [Value.ownBlock]⟩)
    have hgd := HGood.out.2.2 p (List.mem_of_getElem? hp)
    exact ⟨kb, ko, hr.cell rfl h1, PrAt.keep (HKS.out w5 A hA) _ _ _ h2, hgd.1, by have := hgd.2.1; omega⟩)
   clear hnb HBo hrow
   refine wpIn_loop (fun a' wr => ∃ (i : Nat) (Ds : List Nat) (v8 v39 v40 v41 v42 v43 v51 : Value), a' = { tmps := #[.func (.yield l) #[] #[], .pointer (some ⟨Bt, 0, none⟩), .pointer (some ⟨W.heap.size, 0, none⟩), undef, u4, undef, u6, undef, v8, undef, undef, .pointer (some ⟨b, o, none⟩), .pointer (some ⟨b, o, none⟩), .pointer (some ⟨b, o, none⟩), .slice pa j c, .int .i64 (j : Int), .int .i64 (j : Int), .bool false, u18, u19, u20, u21, u22, u23, u24, u25, u26, u27, u28, u29, u30, u31, u32, u33, u34, .pointer (some ⟨b, o, none⟩), .slice (some ⟨r, 0, none⟩) nb cp, .int .i64 (nb : Int), .int .i64 (i : Int), v39, v40, v41, v42, v43, undef, undef, undef, undef, undef, undef, undef, v51], defers := marks Ds } /\ i <= nb /\
    Hid (J (paramCnts g.ds ++ bodyCnts (g.bodies.take i)) wr) /\ Hid (Kp X w5 wr) /\ Hid (KeepsFrom W.heap.size w5 wr) /\ Hid (Marked W.heap.size Ds wr)) (fun a' _ => nb - (intOf (a'.tmps.getD 38 undef)).toNat) ?_ ?_
   ·exact ⟨0, [], undef, undef, undef, undef, undef, undef, undef, rfl, by omega, hid (by simpa [bodyCnts] using HJ8.out), hid (KV.refl _ _ _), hid (KeepsFrom.refl _ _), hid (Marked.nil _ _)⟩
   ·rintro a' wr ⟨i, Ds, v8, v39, v40, v41, v42, v43, v51, rfl, hi, HJ9, HK9, HF9, HM9⟩
    by_cases hlt3 : i < nb
    ·obtain ⟨p, hp⟩ : ∃ p, g.bodies[i]? = some p := ⟨_, List.getElem?_eq_getElem (by rw [HNB.out]; exact hlt3)⟩
     obtain ⟨kb, ko, hcell, hpr, hpg, hpd⟩ := HBOD.out i p wr hp HK9.out
     have hwr5 := HK9.out.size
     have HBT : Hid (bodyCnts (g.bodies.take (i + 1)) = bodyCnts (g.bodies.take i) ++ addsL (preP 1 p)) := hid (flatMap_take _ hp)
     have HPX : Hid (paramCnts g.ds ++ bodyCnts (g.bodies.take i) ++ addsL (preP 1 p) <+: g.cnts) := hid (by
      rw [List.append_assoc, <- HBT.out]; exact (List.prefix_append_right_inj _).2 (flatMap_prefix _ _ _))
     have hSwr : Low S wr := fun k hk => by have := HSL.out k hk; omega
     have hprx := hpr.keep ((blkBelow wr #[.pointer (some ⟨kb, ko, none⟩)] 147).keeps'.mono hSwr)
     have hcx : (wr.alloc (.cells #[.pointer (some ⟨kb, ko, none⟩)] 147)).cell? ⟨wr.heap.size, 0, none⟩ = some (.pointer (some ⟨kb, ko, none⟩)) := blk_cell (Below.refl _ _) 0 rfl
     have hJx := HJ.out.alloc (.cells #[.pointer (some ⟨kb, ko, none⟩)] 147) HJ9.out
     have hKx := HK9.out.trans (grown_box (X := X) wr (.cells #[.pointer (some ⟨kb, ko, none⟩)] 147))
     have hFx := HF9.out.trans ((KeepsOthers.alloc wr (.cells #[.pointer (some ⟨kb, ko, none⟩)] 147)).from W.heap.size)
     have hMx := HM9.out.keeps ((KeepsOthers.alloc wr (.cells #[.pointer (some ⟨kb, ko, none⟩)] 147)).from W.heap.size)
     have hs8 : (wr.alloc (.cells #[.pointer (some ⟨kb, ko, none⟩)] 147)).heap.size = wr.heap.size + 1 := by simp
     clear hp hpr
     gi_wp2_with (refine ⟨trivial, ?_⟩; gi_at_call 114; refine (callsIn_wide.2 (pnodes_any _ _)).mono ?_; rintro e w' ⟨rfl, rfl⟩)
     obtain ⟨W8, hW8⟩ := ex1 (wr.alloc (.cells #[.pointer (some ⟨kb, ko, none⟩)] 147))
     rw [hW8] at hprx hcx hJx hKx hFx hMx hs8 |-
     clear hW8 hcell
     refine wpIn_range_told rfl hn (gf := 135) (lb := #[.pointer (some ⟨wr.heap.size, 0, none⟩)]) rfl trivial (enters_of Tryz.func135 (by kernel_rfl) rfl)
      (pnodes_tells PGood (fun _ h => h.ps) (n - 1) wr.heap.size kb ko p S X W8 (fun k hk => (HX.out k hk).1) (fun k hk => by have := HSL.out k hk; omega) (by omega) hcx hprx hpd hpg) (fun h g => KV.trans h g) (fun W l o o' _ h ho _ => KV.of_cells (by simp) (cellsKept_put h ho)) (fun x A B h hp => Pp.kept h hp) (Below.refl _ _) (fun _ => rfl)
      (fun pre V => J (paramCnts g.ds ++ bodyCnts (g.bodies.take i) ++ addsL (pre.map Np.g)) V /\ (Kp X W8 V /\ KeepsFrom W.heap.size W8 V))
      (fun c pre V => c = .ret /\ (Jx (paramCnts g.ds ++ bodyCnts (g.bodies.take i) ++ addsL (pre.map Np.g)) V /\ KeepsFrom W.heap.size W8 V))
      ((abides_of HJ.out (by omega) _).and ((abides_kp _ _).and (abides_from _ _))) (fun c => (abidesAll_pure _ _).and ((abides_of HJX.out (by omega) _).and (abides_from _ _)))
      ⟨by simpa [addsL] using hJx, KV.refl _ _ _, KeepsFrom.refl _ _⟩
      (fun x a' _ => a' = { tmps := #[.func (.yield l) #[] #[], .pointer (some ⟨Bt, 0, none⟩), .pointer (some ⟨W.heap.size, 0, none⟩), undef, u4, undef, u6, undef, .pointer (some ⟨kb, ko, none⟩), undef, .pointer (some ⟨x.b, x.o, none⟩), .pointer (some ⟨b, o, none⟩), .pointer (some ⟨b, o, none⟩), .pointer (some ⟨b, o, none⟩), .slice pa j c, .int .i64 (j : Int), .int .i64 (j : Int), .bool false, u18, u19, u20, u21, u22, u23, u24, u25, u26, u27, u28, u29, u30, u31, u32, u33, u34, .pointer (some ⟨b, o, none⟩), .slice (some ⟨r, 0, none⟩) nb cp, .int .i64 (nb : Int), .int .i64 (i : Int), .bool true, .pointer (some ⟨r, i, none⟩), .pointer (some ⟨kb, ko, none⟩), .pointer (some ⟨kb, ko, none⟩), .func (.func 135) #[] #[.pointer (some ⟨wr.heap.size, 0, none⟩)], .int .i64 (x.d : Int), .pointer (some ⟨x.b, x.o, none⟩), undef, undef, undef, undef, undef, v51], defers := [] })
      (fun _ _ _ _ _ h => h) ?assign ?body ?done ?stop
     case assign =>
      intro l' pre x V K hi' hp' hK
      simp only [npArgs]
      gi_wp2
      exact hK _ _ (KeepsFrom.refl _ _) (KV.refl _ _ _) hi' hp' (by simp)
     case body =>
      rintro l' pre x a' V hl' _ ⟨hJv, hKv, hFv⟩ hpx rfl
      have hKV1 : Kp X W1 V := HK8.out.trans (hKx.trans hKv)
      obtain ⟨_, yv⟩ := HC.out V hKV1
      have hVs : W8.heap.size <= V.heap.size := hKv.size
      have hlowV : Low S V := fun k hk => by have := HSL.out k hk; omega
      have hyl : W.heap.size < V.heap.size := by omega
      have HNA := hid (nodesAt_any S x.p x.b x.o V.drew hlowV (by have := Pr.tf_size hpx.2.2.2; omega) (by have := Pr.tf_depth hpx.2.2.2; omega) (hpx.1.keep ((Below.refl V.heap.size V).drew.keeps'.mono hlowV)))
      have HJV := hid (HJ.out.drew hJv)
      have HAS : Hid (addsL ((pre ++ [x]).map Np.g) = addsL (pre.map Np.g) ++ [x.p.adds]) := hid (addsL_snoc pre x)
      have hszl : x.p.adds <= 1000000 := by
       have := Pr.tf_size hpx.2.2.2
       rw [Pr.adds_eq]; unfold Pr.typ0; split <;> omega
      obtain ⟨sz, hsz⟩ := ex1 (x.p.adds)
      rw [hsz] at HNA HAS hszl
      have HKVV := hid hKv
      have HFVV := hid hFv
      clear hsz hJv hKv hFv hpx hKV1 hprx hcx hJx hKx hFx hMx hlowV
      gi_wp2_with fail
      gi_region_with (first | (refine ⟨trivial, ⟨fun h => (by cases h), ?_⟩⟩; refine (CallsIn.inRound l' (callsIn_wide.2 HNA.out)).mono ?_; rintro e w6 ⟨rfl, hb6⟩; obtain ⟨fn, tmps, assign, body, hy, hR⟩ := HY.out (n - 1 - 1 - 1) _ sz w6 hszl (HJ.out.below HJV.out hb6); simp only [cnArgs] at hy; replace hR := hid hR; have yv6 : w6.cell? ⟨W.heap.size, 0, none⟩ = some (.func (.yield l) #[] #[]) := (hb6.cell (p := ⟨W.heap.size, 0, none⟩) hyl).trans yv; replace hb6 := hid hb6) | (refine ⟨fun h => (by cases h), ?_⟩; refine hR.out.mono ?_; rintro e w7 ⟨rr, rfl, hcase, hkf⟩) | (refine hR.out.mono ?_; rintro e w7 ⟨rr, rfl, hcase, hkf⟩))
      all_goals
       have hbV6 : Below V.heap.size V w6 := ((Below.refl V.heap.size V).drew).trans hb6.out
       have hkf6 := ((keepsOthers_below hbV6).from W.heap.size).trans hkf
       rcases hcase with ⟨rfl, hj7, hk7⟩ | ⟨rfl, hx7⟩
       ·have hkp7 : Kp X V w7 := (KV.of_below hbV6).trans hk7
        have HX7 := hid (And.intro hj7 (And.intro hkp7 hkf6))
        clear hj7 hk7 hkp7 hkf6 hkf hbV6 hy yv6 yv
        gi_wp2_with fail
        obtain ⟨h1, h2, h3⟩ := HX7.out
        refine ⟨h3.le (by omega), h2, by rw [HAS.out, <- List.append_assoc]; exact h1, HKVV.out.trans h2, HFVV.out.trans h3⟩
       ·have HX7 := hid (And.intro hx7 hkf6)
        clear hx7 hkf6 hkf hbV6 hy yv6 yv
        gi_wp2_with fail
        obtain ⟨h1, h3⟩ := HX7.out
        refine ⟨h3.le (by omega), rfl, by rw [HAS.out, <- List.append_assoc]; exact h1, HFVV.out.trans h3⟩
     case done =>
      rintro D xs V hD hxs ⟨hJv, hKv, hFv⟩ hK
      have HJV : Hid (J (paramCnts g.ds ++ bodyCnts (g.bodies.take (i + 1))) V) := hid (by rw [HBT.out, <- List.append_assoc, <- hxs]; exact hJv)
      have HKV9 : Hid (Kp X w5 V) := hid (hKx.trans hKv)
      have HFV9 : Hid (KeepsFrom W.heap.size w5 V) := hid (hFx.trans hFv)
      have HMV9 : Hid (Marked W.heap.size (D :: Ds) V) := hid ((hMx.keeps hFv).cons (fun hDs => by
       have := (Array.getElem?_eq_some_iff.1 (hMx.2 D hDs).2).1; omega) (by omega) hK)
      clear hJv hKv hFv hxs hK hprx hcx hJx hKx hFx hMx
      gi_wp2_with fail
      have hcast : ((i + 1 : Nat) : Int) = (i : Int) + 1 := by omega
      exact ⟨⟨i + 1, D :: Ds, _, _, _, _, _, _, _, by rw [hcast]; rfl, by omega, HJV, HKV9, HFV9, HMV9⟩, by simp [intOf]; omega⟩
     case stop =>
      rintro D cc pre V hD hpre ⟨rfl, hJv, hFv⟩ hK
      have HMV9 : Hid (Marked W.heap.size (D :: Ds) V) := hid ((hMx.keeps hFv).cons (fun hDs => by
       have := (Array.getElem?_eq_some_iff.1 (hMx.2 D hDs).2).1; omega) (by omega) hK)
      have HPP : Hid (paramCnts g.ds ++ bodyCnts (g.bodies.take i) ++ addsL (pre.map Np.g) <+: g.cnts) := hid (((List.prefix_append_right_inj _).2 (addsL_prefix hpre)).trans HPX.out)
      have HJV := hid hJv
      clear hJv hFv hpre hK hprx hcx hJx hKx hFx hMx
      gi_wp2_with fail
      refine leaves_marked (lo := W.heap.size) (J := fun A => Jx (paramCnts g.ds ++ bodyCnts (g.bodies.take i) ++ addsL (pre.map Np.g)) A) (fun A D o h hD => HJX.out.put o h hD) (fun A h => ⟨_, results_none rfl _ _ _, ⟨_, rfl⟩, .inr ⟨_, HPP.out, h⟩⟩) (D :: Ds) V HJV.out HMV9.out
    ·obtain rfl : i = nb := by omega
     have HJV : Hid (J g.cnts wr) := hid (by
      have h := HJ9.out
      have e : g.bodies.take i = g.bodies := List.take_of_length_le (by rw [HNB.out]; exact Nat.le_refl _)
      rwa [e] at h)
     gi_wp2_with fail
     refine leaves_marked (lo := W.heap.size) (J := fun A => J g.cnts A) (fun A D o h hD => HJ.out.put o h hD) (fun A h => ⟨_, results_none rfl _ _ _, ⟨_, rfl⟩, .inl ⟨_, rfl, h⟩⟩) Ds wr HJV.out HM9.out
end Go.Proofs.YtejaboajgecpaaaGreatDoor
namespace Go.Proofs.YtejaboajgecpaaaGreatDoor
open Go.RowKit Go.Deep Go.Shelf
abbrev cell13 (g : Pg) (dv lv av tl tk kv : Value) : Obj := .cells #[dv, .int .i64 g.m.k, .string g.m.c, .string g.m.x, lv, av, .int .i64 g.m.t.k, .int .i64 g.m.t.p, .string g.m.t.n, .int .i64 g.m.t.s, tl, tk, kv] 33
abbrev pgAgg (g : Pg) (dv lv av tl tk kv : Value) : Value := .agg #[dv, .int .i64 g.m.k, .string g.m.c, .string g.m.x, lv, av, .int .i64 g.m.t.k, .int .i64 g.m.t.p, .string g.m.t.n, .int .i64 g.m.t.s, tl, tk, kv]
theorem boxed_pgAt {B S : Nat -> Prop} {w W : World} {g : Pg} {dv lv av tl tk kv : Value} (hB : Low B w) (hd : DfSl B w dv g.ds) (hv : PrVal B w (prAgg g.m lv av tl tk kv) g.m) (hb : Below (w.heap.size + 1) (w.alloc (cell13 g dv lv av tl tk kv)) W) (hBS : ∀ k, B k -> S k) (hS : S w.heap.size) : PgAt S W g w.heap.size 0 := by
 have hc : ∀ (j : Nat) (v : Value), #[dv, .int .i64 g.m.k, .string g.m.c, .string g.m.x, lv, av, .int .i64 g.m.t.k, .int .i64 g.m.t.p, .string g.m.t.n, .int .i64 g.m.t.s, tl, tk, kv][j]? = some v -> W.cell? ⟨w.heap.size, j, none⟩ = some v := fun j v hj => blk_cell hb j hj
 refine ⟨hS, ⟨dv, hc 0 _ rfl, (hd.keep ((blk_below hb).keeps'.mono hB)).mono hBS⟩, prAt_of hS (hc 1 _ rfl) (hc 2 _ rfl) (hc 3 _ rfl) (hc 4 _ rfl) (hc 5 _ rfl) (hc 6 _ rfl) (hc 7 _ rfl) (hc 8 _ rfl) (hc 9 _ rfl) (hc 10 _ rfl) (hc 11 _ rfl) (hc 12 _ rfl) ?_⟩
 exact (hv.to hB (blk_below hb)).mono hBS
noncomputable def eqDs (p q : List Df) : Bool := @decide (p = q) (Classical.propDecidable _)
theorem eqDs_true {p q : List Df} : eqDs p q = true ↔ p = q := by unfold eqDs; simp
noncomputable def eqG (a a' : Pg) : Bool := eqDs a.ds a'.ds && eqP a.m a'.m
theorem eqG_true {a a' : Pg} : eqG a a' = true ↔ a = a' := by
 unfold eqG; rw [Bool.and_eq_true, eqDs_true, eqP_true]; cases a; cases a'; simp
theorem eqG_self (g : Pg) : eqG g g = true := eqG_true.2 rfl
end Go.Proofs.YtejaboajgecpaaaGreatDoor
namespace Go.Proofs.YtejaboajgecpaaaGreatDoor
open Go.Lib (hid)
open Go.RowKit Go.Deep Go.Shelf
attribute [local go_sem] Oper.semAt_some
theorem sumN_snoc (l : List Nat) (x : Nat) : sumN (l ++ [x]) = sumN l + x := by rw [sumN_append]; simp [sumN]
theorem w64_add (s x : Nat) : wrap64 (wrap64 (s : Int) + (x : Int)) = wrap64 ((s + x : Nat) : Int) := by unfold wrap64; omega
theorem ptotal_in (n : Nat) (hn : 3 <= n) (B : Nat -> Prop) (g : Pg) (hg : GGood g) (htot : g.total <= 1000000000) (dv lv av tl tk kv : Value) (w : World) (hB : Low B w) (hd : DfSl B w dv g.ds) (hv : PrVal B w (prAgg g.m lv av tl tk kv) g.m) :
 CallsIn Fence.wide n Tryz.prog 57 #[pgAgg g dv lv av tl tk kv] w fun e w' => e = .returned (.int .i64 g.total) /\ Below w.heap.size w w' := by
 have h1 : 1 <= n := by omega
 refine callsIn_of_wp_marks Tryz.func57 rfl trivial ?_ rfl
 simp only [pgAgg, Tryz.ntmps57, List.size_toArray, List.length_cons, List.length_nil, Nat.reduceAdd, Nat.reduceSub, Array.replicate_succ, Array.replicate_zero, List.push_toArray, List.append_toArray, List.nil_append, List.cons_append]
 gi_wp2_with (refine ⟨trivial, ?_⟩; gi_at_call 86; refine (callsIn_wide.2 (counts_any _ _)).mono ?_; rintro e w' ⟨rfl, rfl⟩)
 have hbel := box3_below w (cell13 g dv lv av tl tk kv) (.cells #[.int .i64 0] 3) (.cells #[.pointer (some ⟨w.heap.size, 0, none⟩)] 129)
 have hpg := boxed_pgAt (S := fun k => B k \/ k = w.heap.size) hB hd hv ((((Below.refl (w.heap.size + 1) _).alloc (by simp) (.cells #[.int .i64 0] 3)).alloc (by simp) (.cells #[.pointer (some ⟨w.heap.size, 0, none⟩)] 129))) (fun _ h => .inl h) (.inr rfl)
 have hc : (((w.alloc (cell13 g dv lv av tl tk kv)).alloc (.cells #[.int .i64 0] 3)).alloc (.cells #[.pointer (some ⟨w.heap.size, 0, none⟩)] 129)).heap[w.heap.size + 1]? = some (.cells #[.int .i64 0] 3 (0, 0)) := by
  have h := World.alloc_heap_new (w.alloc (cell13 g dv lv av tl tk kv)) (.cells #[.int .i64 0] 3)
  rw [World.size_alloc] at h
  exact (Below.heap_alloc _ _ _ (by simp)).trans h
 have hp : (((w.alloc (cell13 g dv lv av tl tk kv)).alloc (.cells #[.int .i64 0] 3)).alloc (.cells #[.pointer (some ⟨w.heap.size, 0, none⟩)] 129)).cell? ⟨w.heap.size + 1 + 1, 0, none⟩ = some (.pointer (some ⟨w.heap.size, 0, none⟩)) := by
  have h := blk_cell (w := (w.alloc (cell13 g dv lv av tl tk kv)).alloc (.cells #[.int .i64 0] 3)) (cs := #[.pointer (some ⟨w.heap.size, 0, none⟩)]) (t := 129) (Below.refl _ _) 0 rfl
  simpa using h
 have hsz0 : (((w.alloc (cell13 g dv lv av tl tk kv)).alloc (.cells #[.int .i64 0] 3)).alloc (.cells #[.pointer (some ⟨w.heap.size, 0, none⟩)] 129)).heap.size = w.heap.size + 3 := by simp
 obtain ⟨W0, hW0⟩ := ex1 ((((w.alloc (cell13 g dv lv av tl tk kv)).alloc (.cells #[.int .i64 0] 3)).alloc (.cells #[.pointer (some ⟨w.heap.size, 0, none⟩)] 129)))
 simp only [cell13] at hW0
 simp only [cell13] at hpg hc hp hbel hsz0
 rw [hW0] at hpg hc hp hbel hsz0 |-
 clear hW0
 have hX : ∀ k, k = w.heap.size + 1 -> ¬ (B k \/ k = w.heap.size) /\ k ≠ w.heap.size + 1 + 1 /\ k < W0.heap.size := fun k e => ⟨fun h => h.elim (fun h => by have := hB k h; omega) (fun h => by omega), by omega, by omega⟩
 have hS : Low (fun k => B k \/ k = w.heap.size) W0 := fun k h => h.elim (fun h => by have := hB k h; omega) (fun h => by omega)
 refine wpIn_range_told2 rfl h1 (gf := 112) (lb := #[.pointer (some ⟨w.heap.size + 1 + 1, 0, none⟩)]) rfl trivial (enters_of Tryz.func112 (by kernel_rfl) rfl)
  (counts_tells (n - 1) (by omega) (w.heap.size + 1 + 1) w.heap.size 0 g (fun k => B k \/ k = w.heap.size) (fun k => k = w.heap.size + 1) W0 hX hS (by omega) hp hpg hg) (fun h g => KV.trans h g) (fun W l o o' _ h ho _ => KV.of_cells (by simp) (cellsKept_put h ho)) (fun x A B h hp => hp) (Below.refl _ _) (fun _ => rfl)
  (fun pre W => W.heap[w.heap.size + 1]? = some (.cells #[.int .i64 (wrap64 (sumN pre : Nat))] 3 (0, 0)) /\ Below w.heap.size w W) (fun _ _ _ => False)
  ((abides_boxed (by omega) _ (fun pre : List Nat => .int .i64 (wrap64 (sumN pre : Nat)))).and (abidesAll_below (by omega) (Nat.le_refl _))) (fun _ _ _ _ _ h _ _ => h) ⟨by rw [show wrap64 ((sumN [] : Nat) : Int) = 0 from w64_id _ (by simp [sumN]) (by simp [sumN])]; exact hc, hbel⟩
  (fun x a' _ => a' = { tmps := #[pgAgg g dv lv av tl tk kv, .pointer (some ⟨w.heap.size, 0, none⟩), .int .i64 0, .pointer (some ⟨w.heap.size + 1, 0, none⟩), .int .i64 (x : Nat),
   .func (.func 112) #[] #[.pointer (some ⟨w.heap.size + 1 + 1, 0, none⟩)], .int .i64 (x : Nat), undef, undef, undef, undef], defers := [] }) (fun _ _ _ _ _ h => h) ?assign ?body ?done ?stop
 case assign =>
  intro l pre x W K hi hp hK
  simp only [cnArgs]
  gi_wp2
  exact hK _ _ (KeepsFrom.refl _ _) (KV.refl _ _ _) hi hp (by simp)
 case body =>
  rintro l pre x a' W hl _ ⟨hb, hbw⟩ _ rfl
  have c0 : W.cell? ⟨w.heap.size + 1, 0, none⟩ = some (.int .i64 (wrap64 (sumN pre : Nat))) := by simp [World.cell?, hb]
  have f0 : W.frozen? ⟨w.heap.size + 1, 0, none⟩ = false := by simp [World.frozen?, hb]
  have HB := hid hb
  obtain ⟨q, hq⟩ : ∃ q : Int, wrap64 (sumN pre : Nat) = q := ⟨_, rfl⟩
  have HQ : Hid (wrap64 (q + (x : Int)) = wrap64 ((sumN (pre ++ [x]) : Nat) : Int)) := hid (by rw [<- hq, sumN_snoc]; exact w64_add _ _)
  rw [hq] at c0 HB
  clear hb hq
  gi_wp2
  refine ⟨(KeepsOthers.setCell _ _ _).from _, ⟨by simp, fun k o hk hc hx _ => (Below.heap_setCell _ _ _ k (fun e => hx e)).trans hk⟩, ?_, hbw.setCell (p := ⟨w.heap.size + 1, 0, none⟩) (by simp) _⟩
  rw [<- HQ.out]
  exact set_block HB.out 0 _
 case done =>
  rintro D ys W hD hys ⟨hb, hbw⟩ hK
  rw [hys, show sumN g.cnts = g.total from rfl, w64_id _ (by omega) (by omega)] at hb
  have c0 : W.cell? ⟨w.heap.size + 1, 0, none⟩ = some (.int .i64 g.total) := by simp [World.cell?, hb]
  have HK := hid hK
  clear hb hys hK
  gi_wp2
  refine ⟨by simp, .inl ⟨_, _, rfl, run_takeDeferred HK.out, ?_⟩⟩
  exact ⟨_, results_tmp rfl _ _ _, rfl, hbw.trans (belowK_b (w := w) (Nat.le_refl _) W D _ _ (by omega) HK.out rfl rfl)⟩
 case stop =>
  rintro D c pre W _ _ h _
  exact h.elim
theorem ptotal_any (B : Nat -> Prop) (g : Pg) (hg : GGood g) (htot : g.total <= 1000000000) (v : Value) (w : World) (hB : Low B w) (hv : PgVal B w v g) :
 Calls Tryz.prog 57 #[v] w fun e w' => e = .returned (.int .i64 g.total) /\ Below w.heap.size w w' := by
 obtain ⟨dv, lv, av, tl, tk, kv, rfl, hd, hp⟩ := hv
 exact callsIn_wide.1 (ptotal_in 3 (by omega) B g hg htot dv lv av tl tk kv w hB hd hp)
end Go.Proofs.YtejaboajgecpaaaGreatDoor
