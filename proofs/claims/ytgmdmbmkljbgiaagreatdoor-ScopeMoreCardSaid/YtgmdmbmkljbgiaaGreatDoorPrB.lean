/- Processes: Depth, tooLarge. -/
import Derived.Test.YtgmdmbmkljbgiaaGreatDoorPrA
namespace Go.Proofs.YtgmdmbmkljbgiaaGreatDoor
open Go.RowKit Go.Deep Go.Shelf
attribute [local go_sem] Oper.semAt_some

/-- Is a process too large? -/
def Pr.large (p : Pr) : Bool := decide (10000 < p.size ∨ 100 < p.depth)

set_option maxRecDepth 100000 in
set_option maxHeartbeats 2000000 in
theorem ptooLarge_in (n : Nat) (hn : 3 ≤ n) (S : Nat → Prop) (t : Pr) (hdep : t.depth ≤ 99999) (bt o : Nat) (w : World) (hS : Low S w) (hty : PrAt S w t bt o) :
    CallsIn Fence.wide n Tryz.prog 57 #[.pointer (some ⟨bt, o, none⟩)] w fun e w' => e = .returned (.bool t.large) ∧ Below w.heap.size w w' := by
  have h1 : 1 ≤ n := by omega
  refine callsIn_of_wp_marks Tryz.func57 rfl trivial ?_ rfl
  simp only [Tryz.ntmps57, List.size_toArray, List.length_cons, List.length_nil, Nat.reduceAdd, Nat.reduceSub, Array.replicate_succ, Array.replicate_zero, List.push_toArray, List.append_toArray, List.nil_append, List.cons_append]
  gi_wp2_with (refine ⟨trivial, ?_⟩; gi_at_call 59; refine (callsIn_wide.2 (pnodes_any _ _)).mono ?_; rintro e w' ⟨rfl, rfl⟩)
  have hr : (((w.alloc (.cells #[.bool false] 4)).alloc (.cells #[.int .i64 0] 3)).alloc (.cells #[.pointer (some ⟨bt, o, none⟩)] 66)).heap[w.heap.size]? = some (.cells #[.bool false] 4 (0, 0)) :=
    (Below.heap_alloc _ _ _ (by simp; omega)).trans ((Below.heap_alloc _ _ _ (by simp)).trans (World.alloc_heap_new w _))
  have hc : (((w.alloc (.cells #[.bool false] 4)).alloc (.cells #[.int .i64 0] 3)).alloc (.cells #[.pointer (some ⟨bt, o, none⟩)] 66)).heap[w.heap.size + 1]? = some (.cells #[.int .i64 0] 3 (0, 0)) := by
    have h := World.alloc_heap_new (w.alloc (.cells #[.bool false] 4)) (.cells #[.int .i64 0] 3)
    rw [World.size_alloc] at h
    exact (Below.heap_alloc _ _ _ (by simp)).trans h
  have hp : (((w.alloc (.cells #[.bool false] 4)).alloc (.cells #[.int .i64 0] 3)).alloc (.cells #[.pointer (some ⟨bt, o, none⟩)] 66)).cell? ⟨w.heap.size + 1 + 1, 0, none⟩ = some (.pointer (some ⟨bt, o, none⟩)) := by
    have h := blk_cell (w := (w.alloc (.cells #[.bool false] 4)).alloc (.cells #[.int .i64 0] 3)) (cs := #[.pointer (some ⟨bt, o, none⟩)]) (t := 66) (Below.refl _ _) 0 rfl
    simpa using h
  have hbel := box3_below w (.cells #[.bool false] 4) (.cells #[.int .i64 0] 3) (.cells #[.pointer (some ⟨bt, o, none⟩)] 66)
  have hsz0 : (((w.alloc (.cells #[.bool false] 4)).alloc (.cells #[.int .i64 0] 3)).alloc (.cells #[.pointer (some ⟨bt, o, none⟩)] 66)).heap.size = w.heap.size + 3 := by simp
  obtain ⟨W0, hW0⟩ : ∃ W0, (((w.alloc (.cells #[.bool false] 4)).alloc (.cells #[.int .i64 0] 3)).alloc (.cells #[.pointer (some ⟨bt, o, none⟩)] 66)) = W0 := ⟨_, rfl⟩
  rw [hW0] at hr hc hp hbel hsz0 ⊢
  clear hW0
  have hX : ∀ k, k = w.heap.size + 1 → ¬ S k := fun k e h => by have := hS k h; omega
  have hS0 : ∀ k, S k → k < W0.heap.size := fun k h => by have := hS k h; omega
  refine wpIn_range_told rfl h1 (gf := 86) (lb := #[.pointer (some ⟨w.heap.size + 1 + 1, 0, none⟩)]) rfl trivial (enters_of Tryz.func86 (by kernel_rfl) rfl)
    (pnodes_tells (fun _ => True) (fun _ _ _ _ => trivial) (n - 1) (w.heap.size + 1 + 1) bt o t S (fun k => k = w.heap.size + 1) W0 hX hS0 (by omega) hp (hty.keep (hbel.keeps'.mono hS)) hdep trivial) (fun h g => KV.trans h g) (fun W l o o' _ h ho _ => KV.of_cells (by simp) (cellsKept_put h ho)) (fun x A B h hp => Pp.kept h hp) (Below.refl _ _) (fun _ => rfl)
    (fun pre W => ((W.heap[w.heap.size + 1]? = some (.cells #[.int .i64 (pre.length : Nat)] 3 (0, 0)) ∧ W.heap[w.heap.size]? = some (.cells #[.bool false] 4 (0, 0))) ∧ (pre.length ≤ 10000 ∧ mdP (pre.map Np.g) ≤ 100)) ∧ Below w.heap.size w W)
    (fun c pre W => ((c = .ret ∧ (10000 < pre.length ∨ 100 < mdP (pre.map Np.g))) ∧ W.heap[w.heap.size]? = some (.cells #[.bool true] 4 (0, 0))) ∧ Below w.heap.size w W)
    ((((abides_boxed (by omega) _ _).and (abides_boxed (by omega) _ (fun _ => .bool false))).and (abidesAll_pure _ _)).and (abidesAll_below (by omega) (Nat.le_refl _)))
    (fun c => (((abidesAll_pure _ _).and (abides_boxed (by omega) _ (fun _ => .bool true))).and (abidesAll_below (by omega) (Nat.le_refl _)))) ⟨⟨⟨hc, hr⟩, by simp, by simp [mdP]⟩, hbel⟩
    (fun x a' _ => a' = { tmps := #[.pointer (some ⟨bt, o, none⟩), undef, .pointer (some ⟨w.heap.size, 0, none⟩), .pointer (some ⟨w.heap.size + 1, 0, none⟩), .int .i64 x.d, .pointer (some ⟨bt, o, none⟩),
      .func (.func 86) #[] #[.pointer (some ⟨w.heap.size + 1 + 1, 0, none⟩)], .int .i64 x.d, .pointer (some ⟨x.b, x.o, none⟩), undef, undef, undef, undef, undef, undef, undef, undef], defers := [] }) (fun _ _ _ _ _ h => h) ?assign ?body ?done ?stop
  case assign =>
    intro l pre x W K hi hp hK
    simp only [npArgs]
    gi_wp2
    exact hK _ _ (KeepsFrom.refl _ _) (KV.refl _ _ _) hi hp (by simp)
  case body =>
    rintro l pre x a' W hl _ ⟨⟨⟨hb, hr⟩, hm1, hm2⟩, hbw⟩ hpx rfl
    have hdx := hpx.2.1
    obtain ⟨m, hm⟩ : ∃ m, pre.length = m := ⟨_, rfl⟩
    rw [hm] at hb hm1
    have c0 : W.cell? ⟨w.heap.size + 1, 0, none⟩ = some (.int .i64 (m : Nat)) := by simp [World.cell?, hb]
    have f0 : W.frozen? ⟨w.heap.size + 1, 0, none⟩ = false := by simp [World.frozen?, hb]
    have r0 : W.cell? ⟨w.heap.size, 0, none⟩ = some (.bool false) := by simp [World.cell?, hr]
    have r1 : W.frozen? ⟨w.heap.size, 0, none⟩ = false := by simp [World.frozen?, hr]
    have hbl : w.heap.size + 1 < W.heap.size := (Array.getElem?_eq_some_iff.1 hb).1
    have hM2 : Hid (mdP ((pre ++ [x]).map Np.g) = max (mdP (pre.map Np.g)) x.d) := Lib.hid (by
      rw [List.map_append, List.map_cons, List.map_nil, mdP_snoc]; rfl)
    have hl1 : Hid ((pre ++ [x]).length = m + 1) := Lib.hid (by simp [hm])
    have HB := Lib.hid hb
    have HR := Lib.hid hr
    clear hb hr hpx hm
    by_cases hq : m + 1 ≤ 10000
    · have hq1 : decide ((10000 : Int) < (m : Int) + 1) = false := by simp; omega
      by_cases hd : x.d ≤ 100
      · have hd1 : decide ((100 : Int) < (x.d : Int)) = false := by simp; omega
        have hd2 : ¬ (100 : Int) < (x.d : Int) := by omega
        gi_wp2
        refine ⟨(KeepsOthers.setCell _ _ _).from _, ⟨by simp, fun k o hk hc hx _ => (Below.heap_setCell _ _ _ k (fun e => hx e)).trans hk⟩,
          ⟨⟨?_, ?_⟩, by rw [hl1.out]; exact hq, by rw [hM2.out]; omega⟩, hbw.setCell (p := ⟨w.heap.size + 1, 0, none⟩) (by simp) _⟩
        · rw [hl1.out]
          exact set_block HB.out 0 _
        · exact (Below.heap_setCell _ _ _ _ (by simp)).trans HR.out
      · have hd1 : decide ((100 : Int) < (x.d : Int)) = true := by simp; omega
        have hd2 : (100 : Int) < (x.d : Int) := by omega
        gi_wp2
        refine ⟨((KeepsOthers.setCell _ _ _).trans (KeepsOthers.setCell _ _ _)).from _, ⟨⟨rfl, .inr (by rw [hM2.out]; omega)⟩, ?_⟩, (hbw.setCell (p := ⟨w.heap.size + 1, 0, none⟩) (by simp) _).setCell (p := ⟨w.heap.size, 0, none⟩) (by simp) _⟩
        exact set_block ((Below.heap_setCell _ _ _ _ (by simp)).trans HR.out) 0 _
    · have hq1 : decide ((10000 : Int) < (m : Int) + 1) = true := by simp; omega
      have hq2 : (10000 : Int) < (m : Int) + 1 := by omega
      gi_wp2
      refine ⟨((KeepsOthers.setCell _ _ _).trans (KeepsOthers.setCell _ _ _)).from _, ⟨⟨rfl, .inl (by rw [hl1.out]; omega)⟩, ?_⟩, (hbw.setCell (p := ⟨w.heap.size + 1, 0, none⟩) (by simp) _).setCell (p := ⟨w.heap.size, 0, none⟩) (by simp) _⟩
      exact set_block ((Below.heap_setCell _ _ _ _ (by simp)).trans HR.out) 0 _
  case done =>
    rintro D ys W hD hys ⟨⟨⟨hb, hr⟩, hm1, hm2⟩, hbw⟩ hK
    have hlen : ys.length = t.size := by
      have := congrArg List.length hys
      rwa [List.length_map, preP_length] at this
    have hdp : mdP (ys.map Np.g) = t.depth := by rw [hys]; have := mdP_preP t 0; simpa using this
    have hlg : t.large = false := by simp [Pr.large]; omega
    have r0 : W.cell? ⟨w.heap.size, 0, none⟩ = some (.bool false) := by simp [World.cell?, hr]
    have r1 : W.frozen? ⟨w.heap.size, 0, none⟩ = false := by simp [World.frozen?, hr]
    have hltD : w.heap.size < D := by omega
    have HK := Lib.hid hK
    have HR := Lib.hid hr
    have HLG := Lib.hid hlg
    clear hb hys hK hlen hdp hlg hr
    gi_wp2
    have k3 : (W.setCell ⟨w.heap.size, 0, none⟩ (.bool false)).heap[D]? = some (.deferred (some [])) := (Below.heap_setCell _ _ _ D (by simp; omega)).trans HK.out
    refine ⟨by simp, .inl ⟨_, _, rfl, run_takeDeferred k3, ?_⟩⟩
    have k1 : ((W.setCell ⟨w.heap.size, 0, none⟩ (.bool false)).putObj D (.deferred none)).heap[w.heap.size]? = some (.cells #[.bool false] 4 (0, 0)) := (World.putObj_heap_other (by omega)).trans (set_block HR.out 0 _)
    have c1 : ((W.setCell ⟨w.heap.size, 0, none⟩ (.bool false)).putObj D (.deferred none)).cell? ⟨w.heap.size, 0, none⟩ = some (.bool false) := by simp [World.cell?, k1]
    have k7 := (hbw.setCell (p := ⟨w.heap.size, 0, none⟩) (by simp) (.bool false)).trans (belowK_b (w := w) (Nat.le_refl _) _ D _ (.deferred none) (by omega) k3 rfl rfl)
    generalize (W.setCell ⟨w.heap.size, 0, none⟩ (.bool false)).putObj D (.deferred none) = W4 at *
    exact ⟨.bool false, by simp [results, Tryz.results57, go_sem, c1], by rw [HLG.out], k7⟩
  case stop =>
    rintro D c pre W hD hpre ⟨⟨⟨rfl, hbig⟩, hr⟩, hbw⟩ hK
    have hlg : t.large = true := by
      have h1 := hpre.length_le
      rw [List.length_map, preP_length] at h1
      have h2 := mdP_le_of_prefix hpre
      rw [show mdP (preP 1 t) = t.depth by have := mdP_preP t 0; simpa using this] at h2
      simp [Pr.large]; omega
    have HLG := Lib.hid hlg
    clear hpre hlg
    gi_wp2
    refine ⟨by simp, .inl ⟨_, _, rfl, run_takeDeferred hK, ?_⟩⟩
    have k1 : (W.putObj D (.deferred none)).heap[w.heap.size]? = some (.cells #[.bool true] 4 (0, 0)) := (World.putObj_heap_other (by omega)).trans hr
    have c1 : (W.putObj D (.deferred none)).cell? ⟨w.heap.size, 0, none⟩ = some (.bool true) := by simp [World.cell?, k1]
    have k7 := hbw.trans (belowK_b (w := w) (Nat.le_refl _) W D _ (.deferred none) (by omega) hK rfl rfl)
    generalize W.putObj D (.deferred none) = W4 at *
    exact ⟨.bool true, by simp [results, Tryz.results57, go_sem, c1], by rw [HLG.out], k7⟩

theorem ptooLarge_any (S : Nat → Prop) (t : Pr) (hdep : t.depth ≤ 99999) (bt o : Nat) (w : World) (hS : Low S w) (hty : PrAt S w t bt o) :
    Calls Tryz.prog 57 #[.pointer (some ⟨bt, o, none⟩)] w fun e w' => e = .returned (.bool t.large) ∧ Below w.heap.size w w' :=
  callsIn_wide.1 (ptooLarge_in 3 (by omega) S t hdep bt o w hS hty)

end Go.Proofs.YtgmdmbmkljbgiaaGreatDoor
