/- Programs: Total, tooManyNodes. (and what follows from it) -/
import Derived.Test.YtmedijheidbmhaaGreatDoorPz5
import Derived.Test.YtmedijheidbmhaaGreatDoorPz4

/- Programs: Total, tooManyNodes. -/
namespace Go.Proofs.YtmedijheidbmhaaGreatDoor
open Go.RowKit Go.Deep Go.Shelf
attribute [local go_sem] Oper.semAt_some

theorem sumN_snoc (l : List Nat) (x : Nat) : sumN (l ++ [x]) = sumN l + x := by rw [sumN_append]; simp [sumN]

theorem w64_add (s x : Nat) : wrap64 (wrap64 (s : Int) + (x : Int)) = wrap64 ((s + x : Nat) : Int) := by unfold wrap64; omega

def Pg.many (g : Pg) : Bool := decide (10000 < g.total)

set_option maxRecDepth 100000 in
set_option maxHeartbeats 2000000 in
theorem pmany_in (n : Nat) (hn : 3 ≤ n) (S : Nat → Prop) (g : Pg) (hg : GGood g) (bt o : Nat) (w : World) (hS : Low S w) (hgp : PgAt S w g bt o) :
    CallsIn Fence.wide n Tryz.prog 45 #[.pointer (some ⟨bt, o, none⟩)] w fun e w' => e = .returned (.bool g.many) ∧ Below w.heap.size w w' := by
  have h1 : 1 ≤ n := by omega
  refine callsIn_of_wp_marks Tryz.func45 rfl trivial ?_ rfl
  simp only [Tryz.ntmps45, List.size_toArray, List.length_cons, List.length_nil, Nat.reduceAdd, Nat.reduceSub, Array.replicate_succ, Array.replicate_zero, List.push_toArray, List.append_toArray, List.nil_append, List.cons_append]
  gi_wp2_with (refine ⟨trivial, ?_⟩; gi_at_call 56; refine (callsIn_wide.2 (counts_any _ _)).mono ?_; rintro e w' ⟨rfl, rfl⟩)
  have hr : (((w.alloc (.cells #[.bool false] 4)).alloc (.cells #[.int .i64 0] 3)).alloc (.cells #[.pointer (some ⟨bt, o, none⟩)] 82)).heap[w.heap.size]? = some (.cells #[.bool false] 4 (0, 0)) :=
    (Below.heap_alloc _ _ _ (by simp; omega)).trans ((Below.heap_alloc _ _ _ (by simp)).trans (World.alloc_heap_new w _))
  have hc : (((w.alloc (.cells #[.bool false] 4)).alloc (.cells #[.int .i64 0] 3)).alloc (.cells #[.pointer (some ⟨bt, o, none⟩)] 82)).heap[w.heap.size + 1]? = some (.cells #[.int .i64 0] 3 (0, 0)) := by
    have h := World.alloc_heap_new (w.alloc (.cells #[.bool false] 4)) (.cells #[.int .i64 0] 3)
    rw [World.size_alloc] at h
    exact (Below.heap_alloc _ _ _ (by simp)).trans h
  have hp : (((w.alloc (.cells #[.bool false] 4)).alloc (.cells #[.int .i64 0] 3)).alloc (.cells #[.pointer (some ⟨bt, o, none⟩)] 82)).cell? ⟨w.heap.size + 1 + 1, 0, none⟩ = some (.pointer (some ⟨bt, o, none⟩)) := by
    have h := blk_cell (w := (w.alloc (.cells #[.bool false] 4)).alloc (.cells #[.int .i64 0] 3)) (cs := #[.pointer (some ⟨bt, o, none⟩)]) (t := 82) (Below.refl _ _) 0 rfl
    simpa using h
  have hbel := box3_below w (.cells #[.bool false] 4) (.cells #[.int .i64 0] 3) (.cells #[.pointer (some ⟨bt, o, none⟩)] 82)
  have hsz0 : (((w.alloc (.cells #[.bool false] 4)).alloc (.cells #[.int .i64 0] 3)).alloc (.cells #[.pointer (some ⟨bt, o, none⟩)] 82)).heap.size = w.heap.size + 3 := by simp
  obtain ⟨W0, hW0⟩ : ∃ W0, (((w.alloc (.cells #[.bool false] 4)).alloc (.cells #[.int .i64 0] 3)).alloc (.cells #[.pointer (some ⟨bt, o, none⟩)] 82)) = W0 := ⟨_, rfl⟩
  rw [hW0] at hr hc hp hbel hsz0 ⊢
  clear hW0
  have hX : ∀ k, k = w.heap.size + 1 → ¬ S k ∧ k ≠ w.heap.size + 1 + 1 ∧ k < W0.heap.size := fun k e => ⟨fun h => by have := hS k h; omega, by omega, by omega⟩
  have hS0 : Low S W0 := fun k h => by have := hS k h; omega
  refine wpIn_range_told2 rfl h1 (gf := 72) (lb := #[.pointer (some ⟨w.heap.size + 1 + 1, 0, none⟩)]) rfl trivial (enters_of Tryz.func72 (by kernel_rfl) rfl)
    (counts_tells (n - 1) (by omega) (w.heap.size + 1 + 1) bt o g S (fun k => k = w.heap.size + 1) W0 hX hS0 (by omega) hp (hgp.keep (hbel.keeps'.mono hS)) hg) (fun h g => KV.trans h g) (fun W l o o' _ h ho _ => KV.of_cells (by simp) (cellsKept_put h ho)) (fun x A B h hp => hp) (Below.refl _ _) (fun _ => rfl)
    (fun pre W => ((W.heap[w.heap.size + 1]? = some (.cells #[.int .i64 (sumN pre : Nat)] 3 (0, 0)) ∧ W.heap[w.heap.size]? = some (.cells #[.bool false] 4 (0, 0))) ∧ sumN pre ≤ 10000) ∧ Below w.heap.size w W)
    (fun c pre W => ((c = .ret ∧ 10000 < sumN pre) ∧ W.heap[w.heap.size]? = some (.cells #[.bool true] 4 (0, 0))) ∧ Below w.heap.size w W)
    ((((abides_boxed (by omega) _ (fun pre : List Nat => .int .i64 (sumN pre : Nat))).and (abides_boxed (by omega) _ (fun _ => .bool false))).and (abidesAll_pure _ _)).and (abidesAll_below (by omega) (Nat.le_refl _)))
    (fun c => (((abidesAll_pure _ _).and (abides_boxed (by omega) _ (fun _ => .bool true))).and (abidesAll_below (by omega) (Nat.le_refl _)))) ⟨⟨⟨hc, hr⟩, by simp [sumN]⟩, hbel⟩
    (fun x a' _ => a' = { tmps := #[.pointer (some ⟨bt, o, none⟩), undef, .pointer (some ⟨w.heap.size, 0, none⟩), .pointer (some ⟨w.heap.size + 1, 0, none⟩), .int .i64 (x : Nat), .pointer (some ⟨bt, o, none⟩),
      .func (.func 72) #[] #[.pointer (some ⟨w.heap.size + 1 + 1, 0, none⟩)], .int .i64 (x : Nat), undef, undef, undef, undef, undef], defers := [] }) (fun _ _ _ _ _ h => h) ?assign ?body ?done ?stop
  case assign =>
    intro l pre x W K hi hp hK
    simp only [cnArgs]
    gi_wp2
    exact hK _ _ (KeepsFrom.refl _ _) (KV.refl _ _ _) hi hp (by simp)
  case body =>
    rintro l pre x a' W hl _ ⟨⟨⟨hb, hr⟩, hm1⟩, hbw⟩ hpx rfl
    obtain ⟨m, hm⟩ : ∃ m, sumN pre = m := ⟨_, rfl⟩
    rw [hm] at hb hm1
    have c0 : W.cell? ⟨w.heap.size + 1, 0, none⟩ = some (.int .i64 (m : Nat)) := by simp [World.cell?, hb]
    have f0 : W.frozen? ⟨w.heap.size + 1, 0, none⟩ = false := by simp [World.frozen?, hb]
    have r0 : W.cell? ⟨w.heap.size, 0, none⟩ = some (.bool false) := by simp [World.cell?, hr]
    have r1 : W.frozen? ⟨w.heap.size, 0, none⟩ = false := by simp [World.frozen?, hr]
    have hbl : w.heap.size + 1 < W.heap.size := (Array.getElem?_eq_some_iff.1 hb).1
    have hl1 : Hid (sumN (pre ++ [x]) = m + x) := Lib.hid (by rw [sumN_snoc, hm])
    have HB := Lib.hid hb
    have HR := Lib.hid hr
    clear hb hr hm
    by_cases hq : m + x ≤ 10000
    · have hq1 : decide ((10000 : Int) < (m : Int) + (x : Int)) = false := by simp; omega
      gi_wp2
      refine ⟨(KeepsOthers.setCell _ _ _).from _, ⟨by simp, fun k o hk hc hx _ => (Below.heap_setCell _ _ _ k (fun e => hx e)).trans hk⟩,
        ⟨⟨?_, ?_⟩, by rw [hl1.out]; exact hq⟩, hbw.setCell (p := ⟨w.heap.size + 1, 0, none⟩) (by simp) _⟩
      · rw [hl1.out]
        exact set_block HB.out 0 _
      · exact (Below.heap_setCell _ _ _ _ (by simp)).trans HR.out
    · have hq1 : decide ((10000 : Int) < (m : Int) + (x : Int)) = true := by simp; omega
      have hq2 : (10000 : Int) < (m : Int) + (x : Int) := by omega
      gi_wp2
      refine ⟨((KeepsOthers.setCell _ _ _).trans (KeepsOthers.setCell _ _ _)).from _, ⟨⟨rfl, by rw [hl1.out]; omega⟩, ?_⟩, (hbw.setCell (p := ⟨w.heap.size + 1, 0, none⟩) (by simp) _).setCell (p := ⟨w.heap.size, 0, none⟩) (by simp) _⟩
      exact set_block ((Below.heap_setCell _ _ _ _ (by simp)).trans HR.out) 0 _
  case done =>
    rintro D ys W hD hys ⟨⟨⟨hb, hr⟩, hm1⟩, hbw⟩ hK
    have hlg : g.many = false := by rw [hys] at hm1; unfold Pg.many Pg.total; simp; omega
    have r0 : W.cell? ⟨w.heap.size, 0, none⟩ = some (.bool false) := by simp [World.cell?, hr]
    have r1 : W.frozen? ⟨w.heap.size, 0, none⟩ = false := by simp [World.frozen?, hr]
    have hltD : w.heap.size < D := by omega
    have HK := Lib.hid hK
    have HR := Lib.hid hr
    have HLG := Lib.hid hlg
    clear hb hys hK hlg hr hm1
    gi_wp2
    have k3 : (W.setCell ⟨w.heap.size, 0, none⟩ (.bool false)).heap[D]? = some (.deferred (some [])) := (Below.heap_setCell _ _ _ D (by simp; omega)).trans HK.out
    refine ⟨by simp, .inl ⟨_, _, rfl, run_takeDeferred k3, ?_⟩⟩
    have k1 : ((W.setCell ⟨w.heap.size, 0, none⟩ (.bool false)).putObj D (.deferred none)).heap[w.heap.size]? = some (.cells #[.bool false] 4 (0, 0)) := (World.putObj_heap_other (by omega)).trans (set_block HR.out 0 _)
    have c1 : ((W.setCell ⟨w.heap.size, 0, none⟩ (.bool false)).putObj D (.deferred none)).cell? ⟨w.heap.size, 0, none⟩ = some (.bool false) := by simp [World.cell?, k1]
    have k7 := (hbw.setCell (p := ⟨w.heap.size, 0, none⟩) (by simp) (.bool false)).trans (belowK_b (w := w) (Nat.le_refl _) _ D _ (.deferred none) (by omega) k3 rfl rfl)
    generalize (W.setCell ⟨w.heap.size, 0, none⟩ (.bool false)).putObj D (.deferred none) = W4 at *
    exact ⟨.bool false, by simp [results, Tryz.results45, go_sem, c1], by rw [HLG.out], k7⟩
  case stop =>
    rintro D c pre W hD hpre ⟨⟨⟨rfl, hbig⟩, hr⟩, hbw⟩ hK
    have hlg : g.many = true := by
      have h1 := sumN_le_of_prefix hpre
      unfold Pg.many Pg.total; simp; omega
    have HLG := Lib.hid hlg
    clear hpre hlg
    gi_wp2
    refine ⟨by simp, .inl ⟨_, _, rfl, run_takeDeferred hK, ?_⟩⟩
    have k1 : (W.putObj D (.deferred none)).heap[w.heap.size]? = some (.cells #[.bool true] 4 (0, 0)) := (World.putObj_heap_other (by omega)).trans hr
    have c1 : (W.putObj D (.deferred none)).cell? ⟨w.heap.size, 0, none⟩ = some (.bool true) := by simp [World.cell?, k1]
    have k7 := hbw.trans (belowK_b (w := w) (Nat.le_refl _) W D _ (.deferred none) (by omega) hK rfl rfl)
    generalize W.putObj D (.deferred none) = W4 at *
    exact ⟨.bool true, by simp [results, Tryz.results45, go_sem, c1], by rw [HLG.out], k7⟩

theorem pmany_any (S : Nat → Prop) (g : Pg) (hg : GGood g) (bt o : Nat) (w : World) (hS : Low S w) (hgp : PgAt S w g bt o) :
    Calls Tryz.prog 45 #[.pointer (some ⟨bt, o, none⟩)] w fun e w' => e = .returned (.bool g.many) ∧ Below w.heap.size w w' :=
  callsIn_wide.1 (pmany_in 3 (by omega) S g hg bt o w hS hgp)

end Go.Proofs.YtmedijheidbmhaaGreatDoor
