/- Programs: Total, tooManyNodes. (and what follows from it) -/
import Derived.Test.YtipjjhkgcbabnaaDoorPk4

/- Programs: Total, tooManyNodes. -/
namespace Go.Proofs.YtipjjhkgcbabnaaDoor
open Go.RowKit Go.Deep Go.Shelf
attribute [local go_sem] Oper.semAt_some

theorem sumN_snoc (l : List Nat) (x : Nat) : sumN (l ++ [x]) = sumN l + x := by rw [sumN_append]; simp [sumN]

theorem w64_add (s x : Nat) : wrap64 (wrap64 (s : Int) + (x : Int)) = wrap64 ((s + x : Nat) : Int) := by unfold wrap64; omega

set_option maxRecDepth 100000 in
set_option maxHeartbeats 2000000 in
theorem ptotal_in (n : Nat) (hn : 3 ≤ n) (B : Nat → Prop) (g : Pg) (hg : GGood g) (htot : g.total ≤ 1000000000) (dv lv av tl tk kv : Value) (w : World) (hB : Low B w) (hd : DfSl B w dv g.ds) (hv : PrVal B w (prAgg g.m lv av tl tk kv) g.m) :
    CallsIn Fence.wide n Tryd.prog 29 #[pgAgg g dv lv av tl tk kv] w fun e w' => e = .returned (.int .i64 g.total) ∧ Below w.heap.size w w' := by
  have h1 : 1 ≤ n := by omega
  refine callsIn_of_wp_marks Tryd.func29 rfl trivial ?_ rfl
  simp only [pgAgg, Tryd.ntmps29, List.size_toArray, List.length_cons, List.length_nil, Nat.reduceAdd, Nat.reduceSub, Array.replicate_succ, Array.replicate_zero, List.push_toArray, List.append_toArray, List.nil_append, List.cons_append]
  gi_wp2_with (refine ⟨trivial, ?_⟩; gi_at_call 61; refine (callsIn_wide.2 (counts_any _ _)).mono ?_; rintro e w' ⟨rfl, rfl⟩)
  have hbel := box3_below w (cell13 g dv lv av tl tk kv) (.cells #[.int .i64 0] 3) (.cells #[.pointer (some ⟨w.heap.size, 0, none⟩)] 90)
  have hpg := boxed_pgAt (S := fun k => B k ∨ k = w.heap.size) hB hd hv ((((Below.refl (w.heap.size + 1) _).alloc (by simp) (.cells #[.int .i64 0] 3)).alloc (by simp) (.cells #[.pointer (some ⟨w.heap.size, 0, none⟩)] 90))) (fun _ h => .inl h) (.inr rfl)
  have hc : (((w.alloc (cell13 g dv lv av tl tk kv)).alloc (.cells #[.int .i64 0] 3)).alloc (.cells #[.pointer (some ⟨w.heap.size, 0, none⟩)] 90)).heap[w.heap.size + 1]? = some (.cells #[.int .i64 0] 3 (0, 0)) := by
    have h := World.alloc_heap_new (w.alloc (cell13 g dv lv av tl tk kv)) (.cells #[.int .i64 0] 3)
    rw [World.size_alloc] at h
    exact (Below.heap_alloc _ _ _ (by simp)).trans h
  have hp : (((w.alloc (cell13 g dv lv av tl tk kv)).alloc (.cells #[.int .i64 0] 3)).alloc (.cells #[.pointer (some ⟨w.heap.size, 0, none⟩)] 90)).cell? ⟨w.heap.size + 1 + 1, 0, none⟩ = some (.pointer (some ⟨w.heap.size, 0, none⟩)) := by
    have h := blk_cell (w := (w.alloc (cell13 g dv lv av tl tk kv)).alloc (.cells #[.int .i64 0] 3)) (cs := #[.pointer (some ⟨w.heap.size, 0, none⟩)]) (t := 90) (Below.refl _ _) 0 rfl
    simpa using h
  have hsz0 : (((w.alloc (cell13 g dv lv av tl tk kv)).alloc (.cells #[.int .i64 0] 3)).alloc (.cells #[.pointer (some ⟨w.heap.size, 0, none⟩)] 90)).heap.size = w.heap.size + 3 := by simp
  obtain ⟨W0, hW0⟩ : ∃ W0, (((w.alloc (cell13 g dv lv av tl tk kv)).alloc (.cells #[.int .i64 0] 3)).alloc (.cells #[.pointer (some ⟨w.heap.size, 0, none⟩)] 90)) = W0 := ⟨_, rfl⟩
  simp only [cell13] at hW0
  simp only [cell13] at hpg hc hp hbel hsz0
  rw [hW0] at hpg hc hp hbel hsz0 ⊢
  clear hW0
  have hX : ∀ k, k = w.heap.size + 1 → ¬ (B k ∨ k = w.heap.size) ∧ k ≠ w.heap.size + 1 + 1 ∧ k < W0.heap.size := fun k e => ⟨fun h => h.elim (fun h => by have := hB k h; omega) (fun h => by omega), by omega, by omega⟩
  have hS : Low (fun k => B k ∨ k = w.heap.size) W0 := fun k h => h.elim (fun h => by have := hB k h; omega) (fun h => by omega)
  refine wpIn_range_told2 rfl h1 (gf := 95) (lb := #[.pointer (some ⟨w.heap.size + 1 + 1, 0, none⟩)]) rfl trivial (enters_of Tryd.func95 (by kernel_rfl) rfl)
    (counts_tells (n - 1) (by omega) (w.heap.size + 1 + 1) w.heap.size 0 g (fun k => B k ∨ k = w.heap.size) (fun k => k = w.heap.size + 1) W0 hX hS (by omega) hp hpg hg) (fun h g => KV.trans h g) (fun W l o o' _ h ho _ => KV.of_cells (by simp) (cellsKept_put h ho)) (fun x A B h hp => hp) (Below.refl _ _) (fun _ => rfl)
    (fun pre W => W.heap[w.heap.size + 1]? = some (.cells #[.int .i64 (wrap64 (sumN pre : Nat))] 3 (0, 0)) ∧ Below w.heap.size w W) (fun _ _ _ => False)
    ((abides_boxed (by omega) _ (fun pre : List Nat => .int .i64 (wrap64 (sumN pre : Nat)))).and (abidesAll_below (by omega) (Nat.le_refl _))) (fun _ _ _ _ _ h _ _ => h) ⟨by rw [show wrap64 ((sumN [] : Nat) : Int) = 0 from w64_id _ (by simp [sumN]) (by simp [sumN])]; exact hc, hbel⟩
    (fun x a' _ => a' = { tmps := #[pgAgg g dv lv av tl tk kv, .pointer (some ⟨w.heap.size, 0, none⟩), .int .i64 0, .pointer (some ⟨w.heap.size + 1, 0, none⟩), .int .i64 (x : Nat),
      .func (.func 95) #[] #[.pointer (some ⟨w.heap.size + 1 + 1, 0, none⟩)], .int .i64 (x : Nat), undef, undef, undef, undef], defers := [] }) (fun _ _ _ _ _ h => h) ?assign ?body ?done ?stop
  case assign =>
    intro l pre x W K hi hp hK
    simp only [cnArgs]
    gi_wp2
    exact hK _ _ (KeepsFrom.refl _ _) (KV.refl _ _ _) hi hp (by simp)
  case body =>
    rintro l pre x a' W hl _ ⟨hb, hbw⟩ _ rfl
    have c0 : W.cell? ⟨w.heap.size + 1, 0, none⟩ = some (.int .i64 (wrap64 (sumN pre : Nat))) := by simp [World.cell?, hb]
    have f0 : W.frozen? ⟨w.heap.size + 1, 0, none⟩ = false := by simp [World.frozen?, hb]
    have HB := Lib.hid hb
    obtain ⟨q, hq⟩ : ∃ q : Int, wrap64 (sumN pre : Nat) = q := ⟨_, rfl⟩
    have HQ : Hid (wrap64 (q + (x : Int)) = wrap64 ((sumN (pre ++ [x]) : Nat) : Int)) := Lib.hid (by rw [← hq, sumN_snoc]; exact w64_add _ _)
    rw [hq] at c0 HB
    clear hb hq
    gi_wp2
    refine ⟨(KeepsOthers.setCell _ _ _).from _, ⟨by simp, fun k o hk hc hx _ => (Below.heap_setCell _ _ _ k (fun e => hx e)).trans hk⟩, ?_, hbw.setCell (p := ⟨w.heap.size + 1, 0, none⟩) (by simp) _⟩
    rw [← HQ.out]
    exact set_block HB.out 0 _
  case done =>
    rintro D ys W hD hys ⟨hb, hbw⟩ hK
    rw [hys, show sumN g.cnts = g.total from rfl, w64_id _ (by omega) (by omega)] at hb
    have c0 : W.cell? ⟨w.heap.size + 1, 0, none⟩ = some (.int .i64 g.total) := by simp [World.cell?, hb]
    have HK := Lib.hid hK
    clear hb hys hK
    gi_wp2
    refine ⟨by simp, .inl ⟨_, _, rfl, run_takeDeferred HK.out, ?_⟩⟩
    exact ⟨_, results_tmp rfl _ _ _, rfl, hbw.trans (belowK_b (w := w) (Nat.le_refl _) W D _ _ (by omega) HK.out rfl rfl)⟩
  case stop =>
    rintro D c pre W _ _ h _
    exact h.elim

theorem ptotal_any (B : Nat → Prop) (g : Pg) (hg : GGood g) (htot : g.total ≤ 1000000000) (v : Value) (w : World) (hB : Low B w) (hv : PgVal B w v g) :
    Calls Tryd.prog 29 #[v] w fun e w' => e = .returned (.int .i64 g.total) ∧ Below w.heap.size w w' := by
  obtain ⟨dv, lv, av, tl, tk, kv, rfl, hd, hp⟩ := hv
  exact callsIn_wide.1 (ptotal_in 3 (by omega) B g hg htot dv lv av tl tk kv w hB hd hp)

def Pg.many (g : Pg) : Bool := decide (10000 < g.total)

set_option maxRecDepth 100000 in
set_option maxHeartbeats 2000000 in
theorem pmany_in (n : Nat) (hn : 3 ≤ n) (S : Nat → Prop) (g : Pg) (hg : GGood g) (bt o : Nat) (w : World) (hS : Low S w) (hgp : PgAt S w g bt o) :
    CallsIn Fence.wide n Tryd.prog 90 #[.pointer (some ⟨bt, o, none⟩)] w fun e w' => e = .returned (.bool g.many) ∧ Below w.heap.size w w' := by
  have h1 : 1 ≤ n := by omega
  refine callsIn_of_wp_marks Tryd.func90 rfl trivial ?_ rfl
  simp only [Tryd.ntmps90, List.size_toArray, List.length_cons, List.length_nil, Nat.reduceAdd, Nat.reduceSub, Array.replicate_succ, Array.replicate_zero, List.push_toArray, List.append_toArray, List.nil_append, List.cons_append]
  gi_wp2_with (refine ⟨trivial, ?_⟩; gi_at_call 61; refine (callsIn_wide.2 (counts_any _ _)).mono ?_; rintro e w' ⟨rfl, rfl⟩)
  have hr : (((w.alloc (.cells #[.bool false] 4)).alloc (.cells #[.int .i64 0] 3)).alloc (.cells #[.pointer (some ⟨bt, o, none⟩)] 90)).heap[w.heap.size]? = some (.cells #[.bool false] 4 (0, 0)) :=
    (Below.heap_alloc _ _ _ (by simp; omega)).trans ((Below.heap_alloc _ _ _ (by simp)).trans (World.alloc_heap_new w _))
  have hc : (((w.alloc (.cells #[.bool false] 4)).alloc (.cells #[.int .i64 0] 3)).alloc (.cells #[.pointer (some ⟨bt, o, none⟩)] 90)).heap[w.heap.size + 1]? = some (.cells #[.int .i64 0] 3 (0, 0)) := by
    have h := World.alloc_heap_new (w.alloc (.cells #[.bool false] 4)) (.cells #[.int .i64 0] 3)
    rw [World.size_alloc] at h
    exact (Below.heap_alloc _ _ _ (by simp)).trans h
  have hp : (((w.alloc (.cells #[.bool false] 4)).alloc (.cells #[.int .i64 0] 3)).alloc (.cells #[.pointer (some ⟨bt, o, none⟩)] 90)).cell? ⟨w.heap.size + 1 + 1, 0, none⟩ = some (.pointer (some ⟨bt, o, none⟩)) := by
    have h := blk_cell (w := (w.alloc (.cells #[.bool false] 4)).alloc (.cells #[.int .i64 0] 3)) (cs := #[.pointer (some ⟨bt, o, none⟩)]) (t := 90) (Below.refl _ _) 0 rfl
    simpa using h
  have hbel := box3_below w (.cells #[.bool false] 4) (.cells #[.int .i64 0] 3) (.cells #[.pointer (some ⟨bt, o, none⟩)] 90)
  have hsz0 : (((w.alloc (.cells #[.bool false] 4)).alloc (.cells #[.int .i64 0] 3)).alloc (.cells #[.pointer (some ⟨bt, o, none⟩)] 90)).heap.size = w.heap.size + 3 := by simp
  obtain ⟨W0, hW0⟩ : ∃ W0, (((w.alloc (.cells #[.bool false] 4)).alloc (.cells #[.int .i64 0] 3)).alloc (.cells #[.pointer (some ⟨bt, o, none⟩)] 90)) = W0 := ⟨_, rfl⟩
  rw [hW0] at hr hc hp hbel hsz0 ⊢
  clear hW0
  have hX : ∀ k, k = w.heap.size + 1 → ¬ S k ∧ k ≠ w.heap.size + 1 + 1 ∧ k < W0.heap.size := fun k e => ⟨fun h => by have := hS k h; omega, by omega, by omega⟩
  have hS0 : Low S W0 := fun k h => by have := hS k h; omega
  refine wpIn_range_told2 rfl h1 (gf := 95) (lb := #[.pointer (some ⟨w.heap.size + 1 + 1, 0, none⟩)]) rfl trivial (enters_of Tryd.func95 (by kernel_rfl) rfl)
    (counts_tells (n - 1) (by omega) (w.heap.size + 1 + 1) bt o g S (fun k => k = w.heap.size + 1) W0 hX hS0 (by omega) hp (hgp.keep (hbel.keeps'.mono hS)) hg) (fun h g => KV.trans h g) (fun W l o o' _ h ho _ => KV.of_cells (by simp) (cellsKept_put h ho)) (fun x A B h hp => hp) (Below.refl _ _) (fun _ => rfl)
    (fun pre W => ((W.heap[w.heap.size + 1]? = some (.cells #[.int .i64 (sumN pre : Nat)] 3 (0, 0)) ∧ W.heap[w.heap.size]? = some (.cells #[.bool false] 4 (0, 0))) ∧ sumN pre ≤ 10000) ∧ Below w.heap.size w W)
    (fun c pre W => ((c = .ret ∧ 10000 < sumN pre) ∧ W.heap[w.heap.size]? = some (.cells #[.bool true] 4 (0, 0))) ∧ Below w.heap.size w W)
    ((((abides_boxed (by omega) _ (fun pre : List Nat => .int .i64 (sumN pre : Nat))).and (abides_boxed (by omega) _ (fun _ => .bool false))).and (abidesAll_pure _ _)).and (abidesAll_below (by omega) (Nat.le_refl _)))
    (fun c => (((abidesAll_pure _ _).and (abides_boxed (by omega) _ (fun _ => .bool true))).and (abidesAll_below (by omega) (Nat.le_refl _)))) ⟨⟨⟨hc, hr⟩, by simp [sumN]⟩, hbel⟩
    (fun x a' _ => a' = { tmps := #[.pointer (some ⟨bt, o, none⟩), undef, .pointer (some ⟨w.heap.size, 0, none⟩), .pointer (some ⟨w.heap.size + 1, 0, none⟩), .int .i64 (x : Nat), .pointer (some ⟨bt, o, none⟩),
      .func (.func 95) #[] #[.pointer (some ⟨w.heap.size + 1 + 1, 0, none⟩)], .int .i64 (x : Nat), undef, undef, undef, undef, undef], defers := [] }) (fun _ _ _ _ _ h => h) ?assign ?body ?done ?stop
  case assign =>
    intro l pre x W K hi hp hK
    simp only [cnArgs]
    gi_wp2
    exact hK _ _ (KeepsFrom.refl _ _) (KV.refl _ _ _) hi hp (by simp)
  case body =>
    rintro l pre x a' W hl _ ⟨⟨⟨hb, hr⟩, hm1⟩, hbw⟩ hpx rfl
    obtain ⟨m, hm⟩ : ∃ m, sumN pre = m := ⟨_, rfl⟩
    rw [hm] at hb hm1
    have c0 : W.cell? ⟨w.heap.size + 1, 0, none⟩ = some (.int .i64 (m : Nat)) := by simp [World.cell?, hb]
    have f0 : W.frozen? ⟨w.heap.size + 1, 0, none⟩ = false := by simp [World.frozen?, hb]
    have r0 : W.cell? ⟨w.heap.size, 0, none⟩ = some (.bool false) := by simp [World.cell?, hr]
    have r1 : W.frozen? ⟨w.heap.size, 0, none⟩ = false := by simp [World.frozen?, hr]
    have hbl : w.heap.size + 1 < W.heap.size := (Array.getElem?_eq_some_iff.1 hb).1
    have hl1 : Hid (sumN (pre ++ [x]) = m + x) := Lib.hid (by rw [sumN_snoc, hm])
    have HB := Lib.hid hb
    have HR := Lib.hid hr
    clear hb hr hm
    by_cases hq : m + x ≤ 10000
    · have hq1 : decide ((10000 : Int) < (m : Int) + (x : Int)) = false := by simp; omega
      gi_wp2
      refine ⟨(KeepsOthers.setCell _ _ _).from _, ⟨by simp, fun k o hk hc hx _ => (Below.heap_setCell _ _ _ k (fun e => hx e)).trans hk⟩,
        ⟨⟨?_, ?_⟩, by rw [hl1.out]; exact hq⟩, hbw.setCell (p := ⟨w.heap.size + 1, 0, none⟩) (by simp) _⟩
      · rw [hl1.out]
        exact set_block HB.out 0 _
      · exact (Below.heap_setCell _ _ _ _ (by simp)).trans HR.out
    · have hq1 : decide ((10000 : Int) < (m : Int) + (x : Int)) = true := by simp; omega
      have hq2 : (10000 : Int) < (m : Int) + (x : Int) := by omega
      gi_wp2
      refine ⟨((KeepsOthers.setCell _ _ _).trans (KeepsOthers.setCell _ _ _)).from _, ⟨⟨rfl, by rw [hl1.out]; omega⟩, ?_⟩, (hbw.setCell (p := ⟨w.heap.size + 1, 0, none⟩) (by simp) _).setCell (p := ⟨w.heap.size, 0, none⟩) (by simp) _⟩
      exact set_block ((Below.heap_setCell _ _ _ _ (by simp)).trans HR.out) 0 _
  case done =>
    rintro D ys W hD hys ⟨⟨⟨hb, hr⟩, hm1⟩, hbw⟩ hK
    have hlg : g.many = false := by rw [hys] at hm1; unfold Pg.many Pg.total; simp; omega
    have r0 : W.cell? ⟨w.heap.size, 0, none⟩ = some (.bool false) := by simp [World.cell?, hr]
    have r1 : W.frozen? ⟨w.heap.size, 0, none⟩ = false := by simp [World.frozen?, hr]
    have hltD : w.heap.size < D := by omega
    have HK := Lib.hid hK
    have HR := Lib.hid hr
    have HLG := Lib.hid hlg
    clear hb hys hK hlg hr hm1
    gi_wp2
    have k3 : (W.setCell ⟨w.heap.size, 0, none⟩ (.bool false)).heap[D]? = some (.deferred (some [])) := (Below.heap_setCell _ _ _ D (by simp; omega)).trans HK.out
    refine ⟨by simp, .inl ⟨_, _, rfl, run_takeDeferred k3, ?_⟩⟩
    have k1 : ((W.setCell ⟨w.heap.size, 0, none⟩ (.bool false)).putObj D (.deferred none)).heap[w.heap.size]? = some (.cells #[.bool false] 4 (0, 0)) := (World.putObj_heap_other (by omega)).trans (set_block HR.out 0 _)
    have c1 : ((W.setCell ⟨w.heap.size, 0, none⟩ (.bool false)).putObj D (.deferred none)).cell? ⟨w.heap.size, 0, none⟩ = some (.bool false) := by simp [World.cell?, k1]
    have k7 := (hbw.setCell (p := ⟨w.heap.size, 0, none⟩) (by simp) (.bool false)).trans (belowK_b (w := w) (Nat.le_refl _) _ D _ (.deferred none) (by omega) k3 rfl rfl)
    generalize (W.setCell ⟨w.heap.size, 0, none⟩ (.bool false)).putObj D (.deferred none) = W4 at *
    exact ⟨.bool false, by simp [results, Tryd.results90, go_sem, c1], by rw [HLG.out], k7⟩
  case stop =>
    rintro D c pre W hD hpre ⟨⟨⟨rfl, hbig⟩, hr⟩, hbw⟩ hK
    have hlg : g.many = true := by
      have h1 := sumN_le_of_prefix hpre
      unfold Pg.many Pg.total; simp; omega
    have HLG := Lib.hid hlg
    clear hpre hlg
    gi_wp2
    refine ⟨by simp, .inl ⟨_, _, rfl, run_takeDeferred hK, ?_⟩⟩
    have k1 : (W.putObj D (.deferred none)).heap[w.heap.size]? = some (.cells #[.bool true] 4 (0, 0)) := (World.putObj_heap_other (by omega)).trans hr
    have c1 : (W.putObj D (.deferred none)).cell? ⟨w.heap.size, 0, none⟩ = some (.bool true) := by simp [World.cell?, k1]
    have k7 := hbw.trans (belowK_b (w := w) (Nat.le_refl _) W D _ (.deferred none) (by omega) hK rfl rfl)
    generalize W.putObj D (.deferred none) = W4 at *
    exact ⟨.bool true, by simp [results, Tryd.results90, go_sem, c1], by rw [HLG.out], k7⟩

theorem pmany_any (S : Nat → Prop) (g : Pg) (hg : GGood g) (bt o : Nat) (w : World) (hS : Low S w) (hgp : PgAt S w g bt o) :
    Calls Tryd.prog 90 #[.pointer (some ⟨bt, o, none⟩)] w fun e w' => e = .returned (.bool g.many) ∧ Below w.heap.size w w' :=
  callsIn_wide.1 (pmany_in 3 (by omega) S g hg bt o w hS hgp)

end Go.Proofs.YtipjjhkgcbabnaaDoor
