/- Types: tooLarge. -/
import Derived.Test.YtgmdmbmkljbgiaaGreatDoorTyZ
namespace Go.Proofs.YtgmdmbmkljbgiaaGreatDoor
open Go.RowKit Go.Deep Go.Shelf
attribute [local go_sem] Oper.semAt_some

/-- Is a type too large? -/
def Ty.large (t : Ty) : Bool := decide (10000 < t.size ∨ 100 < t.depth)

theorem mdep_le_of_prefix {l r : List (List Ty × Int × Ty)} (h : l <+: r) : mdep l ≤ mdep r := by
  obtain ⟨s, rfl⟩ := h
  rw [mdep_append]; omega

set_option maxRecDepth 100000 in
set_option maxHeartbeats 2000000 in
theorem tooLarge_in (n : Nat) (hn : 3 ≤ n) (S : Nat → Prop) (t : Ty) (hdep : t.depth ≤ 1000) (bt o : Nat) (w : World) (hS : Low S w) (hty : TyAt S w t bt o) :
    CallsIn Fence.wide n Tryz.prog 92 #[.pointer (some ⟨bt, o, none⟩)] w fun e w' => e = .returned (.bool t.large) ∧ Below w.heap.size w w' := by
  have h1 : 1 ≤ n := by omega
  refine callsIn_of_wp_marks Tryz.func92 rfl trivial ?_ rfl
  simp only [Tryz.ntmps92, List.size_toArray, List.length_cons, List.length_nil, Nat.reduceAdd, Nat.reduceSub, Array.replicate_succ, Array.replicate_zero, List.push_toArray, List.append_toArray, List.nil_append, List.cons_append]
  gi_wp2_with (refine ⟨trivial, ?_⟩; gi_at_call 94; refine (callsIn_wide.2 (nodes_any _ _)).mono ?_; rintro e w' ⟨rfl, rfl⟩)
  have hr : (((w.alloc (.cells #[.bool false] 4)).alloc (.cells #[.int .i64 0] 3)).alloc (.cells #[.pointer (some ⟨bt, o, none⟩)] 115)).heap[w.heap.size]? = some (.cells #[.bool false] 4 (0, 0)) :=
    (Below.heap_alloc _ _ _ (by simp; omega)).trans ((Below.heap_alloc _ _ _ (by simp)).trans (World.alloc_heap_new w _))
  have hc : (((w.alloc (.cells #[.bool false] 4)).alloc (.cells #[.int .i64 0] 3)).alloc (.cells #[.pointer (some ⟨bt, o, none⟩)] 115)).heap[w.heap.size + 1]? = some (.cells #[.int .i64 0] 3 (0, 0)) := by
    have h := World.alloc_heap_new (w.alloc (.cells #[.bool false] 4)) (.cells #[.int .i64 0] 3)
    rw [World.size_alloc] at h
    exact (Below.heap_alloc _ _ _ (by simp)).trans h
  have hp : (((w.alloc (.cells #[.bool false] 4)).alloc (.cells #[.int .i64 0] 3)).alloc (.cells #[.pointer (some ⟨bt, o, none⟩)] 115)).cell? ⟨w.heap.size + 1 + 1, 0, none⟩ = some (.pointer (some ⟨bt, o, none⟩)) := by
    have h := blk_cell (w := (w.alloc (.cells #[.bool false] 4)).alloc (.cells #[.int .i64 0] 3)) (cs := #[.pointer (some ⟨bt, o, none⟩)]) (t := 115) (Below.refl _ _) 0 rfl
    simpa using h
  have hbel := box3_below w (.cells #[.bool false] 4) (.cells #[.int .i64 0] 3) (.cells #[.pointer (some ⟨bt, o, none⟩)] 115)
  have hsz0 : (((w.alloc (.cells #[.bool false] 4)).alloc (.cells #[.int .i64 0] 3)).alloc (.cells #[.pointer (some ⟨bt, o, none⟩)] 115)).heap.size = w.heap.size + 3 := by simp
  obtain ⟨W0, hW0⟩ : ∃ W0, (((w.alloc (.cells #[.bool false] 4)).alloc (.cells #[.int .i64 0] 3)).alloc (.cells #[.pointer (some ⟨bt, o, none⟩)] 115)) = W0 := ⟨_, rfl⟩
  rw [hW0] at hr hc hp hbel hsz0 ⊢
  clear hW0
  have hX : ∀ k, k = w.heap.size + 1 → ¬ S k ∧ k < W0.heap.size := fun k e => ⟨fun h => by have := hS k h; omega, by omega⟩
  have hS0 : ∀ k, S k → k < W0.heap.size := fun k h => by have := hS k h; omega
  refine wpIn_range_told rfl h1 (gf := 112) (lb := #[.pointer (some ⟨w.heap.size + 1 + 1, 0, none⟩)]) rfl trivial (enters_of Tryz.func112 (by kernel_rfl) rfl)
    (nodes_tells (n - 1) (w.heap.size + 1 + 1) bt o t S (fun k => k = w.heap.size + 1) W0 hX hS0 (by omega) hp (hty.keep (hbel.keeps'.mono hS)) hdep) (fun h g => KV.trans h g) (fun W l o o' _ h ho _ => KV.of_cells (by simp) (cellsKept_put h ho)) (fun x A B h hp => Px.kept h hp) (Below.refl _ _) (fun _ => rfl)
    (fun pre W => ((W.heap[w.heap.size + 1]? = some (.cells #[.int .i64 (pre.length : Nat)] 3 (0, 0)) ∧ W.heap[w.heap.size]? = some (.cells #[.bool false] 4 (0, 0))) ∧ (pre.length ≤ 10000 ∧ mdep (pre.map Nd.g) ≤ 100)) ∧ Below w.heap.size w W)
    (fun c pre W => ((c = .ret ∧ (10000 < pre.length ∨ 100 < mdep (pre.map Nd.g))) ∧ W.heap[w.heap.size]? = some (.cells #[.bool true] 4 (0, 0))) ∧ Below w.heap.size w W)
    ((((abides_boxed (by omega) _ _).and (abides_boxed (by omega) _ (fun _ => .bool false))).and (abidesAll_pure _ _)).and (abidesAll_below (by omega) (Nat.le_refl _)))
    (fun c => (((abidesAll_pure _ _).and (abides_boxed (by omega) _ (fun _ => .bool true))).and (abidesAll_below (by omega) (Nat.le_refl _)))) ⟨⟨⟨hc, hr⟩, by simp, by simp [mdep]⟩, hbel⟩
    (fun x a' W => ∃ b3, PlaceBox (w.heap.size + 2) x b3 W ∧ a' = { tmps := #[.pointer (some ⟨bt, o, none⟩), undef, .pointer (some ⟨w.heap.size, 0, none⟩), .pointer (some ⟨w.heap.size + 1, 0, none⟩), .pointer (some ⟨b3, 0, none⟩), .pointer (some ⟨bt, o, none⟩),
      .func (.func 112) #[] #[.pointer (some ⟨w.heap.size + 1 + 1, 0, none⟩)], .agg #[x.ar, .int .i64 x.kid], .pointer (some ⟨x.b, x.o, none⟩), undef, undef, undef, undef, undef, undef, undef, undef, undef], defers := [] }) (fun x a' A B hk ⟨b3, hb, e⟩ => ⟨b3, hb.kept hk, e⟩) ?assign ?body ?done ?stop
  case assign =>
    intro l pre x W K hi hp hK
    simp only [ndArgs]
    obtain ⟨pa, ac, har⟩ := hp.ar_eq
    have hz : w.heap.size + 1 < W.heap.size := (Array.getElem?_eq_some_iff.1 hi.1.1.1).1
    have HI := Lib.hid hi
    have HP := Lib.hid hp
    clear hi hp
    gi_wp2
    have hck := cellsKept_alloc W (.cells #[.slice pa x.path.length ac, .int .i64 x.kid] 123)
    exact hK _ _ ((KeepsOthers.alloc _ _).from _) (KV.of_cells (by simp) hck) ⟨⟨⟨hck _ _ HI.out.1.1.1 rfl, hck _ _ HI.out.1.1.2 rfl⟩, HI.out.1.2⟩, below_seq' HI.out.2 (blkBelow W _ _)⟩ (Px.kept hck HP.out) ⟨W.heap.size, ⟨by omega, by rw [har]; exact World.alloc_heap_new W _⟩, by rw [har]⟩
  case body =>
    rintro l pre x a' W hl _ ⟨⟨⟨hb, hr⟩, hm1, hm2⟩, hbw⟩ hpx ⟨b3, ⟨hb3, hpb⟩, rfl⟩
    obtain ⟨pa, ac, har⟩ := hpx.ar_eq
    have hpl := hpx.2.2
    have hlt := (Array.getElem?_eq_some_iff.1 hpb).1
    rw [har] at hpb ⊢
    obtain ⟨m, hm⟩ : ∃ m, pre.length = m := ⟨_, rfl⟩
    rw [hm] at hb hm1
    have c0 : W.cell? ⟨w.heap.size + 1, 0, none⟩ = some (.int .i64 (m : Nat)) := by simp [World.cell?, hb]
    have f0 : W.frozen? ⟨w.heap.size + 1, 0, none⟩ = false := by simp [World.frozen?, hb]
    have r0 : W.cell? ⟨w.heap.size, 0, none⟩ = some (.bool false) := by simp [World.cell?, hr]
    have r1 : W.frozen? ⟨w.heap.size, 0, none⟩ = false := by simp [World.frozen?, hr]
    have d0 : W.cell? ⟨b3, 0, none⟩ = some (.slice pa x.path.length ac) := by simp [World.cell?, hpb]
    have d1 : W.cell? ⟨b3, 1, none⟩ = some (.int .i64 x.kid) := by simp [World.cell?, hpb]
    have hbl : w.heap.size + 1 < W.heap.size := (Array.getElem?_eq_some_iff.1 hb).1
    have hM2 : Hid (mdep ((pre ++ [x]).map Nd.g) = max (mdep (pre.map Nd.g)) (x.path.length + 1)) := Lib.hid (by
      rw [List.map_append, List.map_cons, List.map_nil, mdep_snoc]; rfl)
    have hl1 : Hid ((pre ++ [x]).length = m + 1) := Lib.hid (by simp [hm])
    have HB := Lib.hid hb
    have HR := Lib.hid hr
    clear hb hr hpx hpb har hm
    by_cases hq : m + 1 ≤ 10000
    · have hq1 : decide ((10000 : Int) < (m : Int) + 1) = false := by simp; omega
      by_cases hd : x.path.length + 1 ≤ 100
      · have hd1 : decide ((100 : Int) < (x.path.length : Int) + 1) = false := by simp; omega
        gi_wp2_with (refine ⟨trivial, ⟨fun h => (by cases h), ?_⟩⟩; refine (CallsIn.inRound l (callsIn_wide.2 (pdepth_any _ _ _ _ hpl _))).mono ?_; rintro e w1 ⟨rfl, rfl⟩)
        refine ⟨((KeepsOthers.setCell _ _ _).trans (KeepsOthers.alloc _ _)).from _, ⟨by simp, fun k o hk hc hx _ => (Below.heap_alloc _ _ k (by have := (Array.getElem?_eq_some_iff.1 hk).1; simp; omega)).trans ((Below.heap_setCell _ _ _ k (fun e => hx e)).trans hk)⟩,
          ⟨⟨?_, ?_⟩, by rw [hl1.out]; exact hq, by rw [hM2.out]; omega⟩, (hbw.setCell (p := ⟨w.heap.size + 1, 0, none⟩) (by simp) _).alloc (by simp; omega) _⟩
        · rw [hl1.out]
          exact (Below.heap_alloc _ _ _ (by simp; omega)).trans (set_block HB.out 0 _)
        · exact (Below.heap_alloc _ _ _ (by simp; omega)).trans ((Below.heap_setCell _ _ _ _ (by simp)).trans HR.out)
      · have hd1 : decide ((100 : Int) < (x.path.length : Int) + 1) = true := by simp; omega
        have hd2 : (100 : Int) < (x.path.length : Int) + 1 := by omega
        have k2 : ((W.setCell ⟨w.heap.size + 1, 0, none⟩ (.int .i64 ((m : Int) + 1))).alloc (.cells #[.slice pa x.path.length ac, .int .i64 x.kid] 123)).heap[w.heap.size]? = some (.cells #[.bool false] 4 (0, 0)) :=
          (Below.heap_alloc _ _ _ (by simp; omega)).trans ((Below.heap_setCell _ _ _ _ (by simp)).trans HR.out)
        have q0 : ((W.setCell ⟨w.heap.size + 1, 0, none⟩ (.int .i64 ((m : Int) + 1))).alloc (.cells #[.slice pa x.path.length ac, .int .i64 x.kid] 123)).cell? ⟨w.heap.size, 0, none⟩ = some (.bool false) := by simp [World.cell?, k2]
        have q1 : ((W.setCell ⟨w.heap.size + 1, 0, none⟩ (.int .i64 ((m : Int) + 1))).alloc (.cells #[.slice pa x.path.length ac, .int .i64 x.kid] 123)).frozen? ⟨w.heap.size, 0, none⟩ = false := by simp [World.frozen?, k2]
        have K2 := Lib.hid k2
        clear k2
        gi_wp2_with (refine ⟨trivial, ⟨fun h => (by cases h), ?_⟩⟩; refine (CallsIn.inRound l (callsIn_wide.2 (pdepth_any _ _ _ _ hpl _))).mono ?_; rintro e w1 ⟨rfl, rfl⟩)
        refine ⟨(((KeepsOthers.setCell _ _ _).trans (KeepsOthers.alloc _ _)).trans (KeepsOthers.setCell _ _ _)).from _, ⟨⟨rfl, .inr (by rw [hM2.out]; omega)⟩, ?_⟩, ((hbw.setCell (p := ⟨w.heap.size + 1, 0, none⟩) (by simp) _).alloc (by simp; omega) _).setCell (p := ⟨w.heap.size, 0, none⟩) (by simp) _⟩
        exact set_block K2.out 0 _
    · have hq1 : decide ((10000 : Int) < (m : Int) + 1) = true := by simp; omega
      have hq2 : (10000 : Int) < (m : Int) + 1 := by omega
      gi_wp2_with fail
      refine ⟨trivial, ?_⟩
      gi_wp2_with fail
      refine ⟨((KeepsOthers.setCell _ _ _).trans (KeepsOthers.setCell _ _ _)).from _, ⟨⟨rfl, .inl (by rw [hl1.out]; omega)⟩, ?_⟩, (hbw.setCell (p := ⟨w.heap.size + 1, 0, none⟩) (by simp) _).setCell (p := ⟨w.heap.size, 0, none⟩) (by simp) _⟩
      exact set_block ((Below.heap_setCell _ _ _ _ (by simp)).trans HR.out) 0 _
  case done =>
    rintro D ys W hD hys ⟨⟨⟨hb, hr⟩, hm1, hm2⟩, hbw⟩ hK
    have hlen : ys.length = t.size := by
      have := congrArg List.length hys
      rwa [List.length_map, preT_length] at this
    have hdp : mdep (ys.map Nd.g) = t.depth := by rw [hys, mdep_preT]; simp
    have hlg : t.large = false := by simp [Ty.large]; omega
    have r0 : W.cell? ⟨w.heap.size, 0, none⟩ = some (.bool false) := by simp [World.cell?, hr]
    have r1 : W.frozen? ⟨w.heap.size, 0, none⟩ = false := by simp [World.frozen?, hr]
    have hltD : w.heap.size < D := by omega
    have HK := Lib.hid hK
    have HR := Lib.hid hr
    have HLG := Lib.hid hlg
    clear hb hys hK hlen hdp hlg hr
    gi_wp2
    have k3 : (W.setCell ⟨w.heap.size, 0, none⟩ (.bool false)).heap[D]? = some (.deferred (some [])) := (Below.heap_setCell _ _ _ D (by simp; omega)).trans HK.out
    refine ⟨by simp, .inl ⟨_, _, rfl, run_takeDeferred k3, ?_⟩⟩
    have k1 : ((W.setCell ⟨w.heap.size, 0, none⟩ (.bool false)).putObj D (.deferred none)).heap[w.heap.size]? = some (.cells #[.bool false] 4 (0, 0)) := (World.putObj_heap_other (by omega)).trans (set_block HR.out 0 _)
    have c1 : ((W.setCell ⟨w.heap.size, 0, none⟩ (.bool false)).putObj D (.deferred none)).cell? ⟨w.heap.size, 0, none⟩ = some (.bool false) := by simp [World.cell?, k1]
    have k7 := (hbw.setCell (p := ⟨w.heap.size, 0, none⟩) (by simp) (.bool false)).trans (belowK_b (w := w) (Nat.le_refl _) _ D _ (.deferred none) (by omega) k3 rfl rfl)
    generalize (W.setCell ⟨w.heap.size, 0, none⟩ (.bool false)).putObj D (.deferred none) = W4 at *
    exact ⟨.bool false, by simp [results, Tryz.results92, go_sem, c1], by rw [HLG.out], k7⟩
  case stop =>
    rintro D c pre W hD hpre ⟨⟨⟨rfl, hbig⟩, hr⟩, hbw⟩ hK
    have hlg : t.large = true := by
      have h1 := hpre.length_le
      rw [List.length_map, preT_length] at h1
      have h2 := mdep_le_of_prefix hpre
      rw [mdep_preT, List.length_nil] at h2
      simp [Ty.large]; omega
    have HLG := Lib.hid hlg
    clear hpre hlg
    gi_wp2
    refine ⟨by simp, .inl ⟨_, _, rfl, run_takeDeferred hK, ?_⟩⟩
    have k1 : (W.putObj D (.deferred none)).heap[w.heap.size]? = some (.cells #[.bool true] 4 (0, 0)) := (World.putObj_heap_other (by omega)).trans hr
    have c1 : (W.putObj D (.deferred none)).cell? ⟨w.heap.size, 0, none⟩ = some (.bool true) := by simp [World.cell?, k1]
    have k7 := hbw.trans (belowK_b (w := w) (Nat.le_refl _) W D _ (.deferred none) (by omega) hK rfl rfl)
    generalize W.putObj D (.deferred none) = W4 at *
    exact ⟨.bool true, by simp [results, Tryz.results92, go_sem, c1], by rw [HLG.out], k7⟩

theorem tooLarge_any (S : Nat → Prop) (t : Ty) (hdep : t.depth ≤ 1000) (bt o : Nat) (w : World) (hS : Low S w) (hty : TyAt S w t bt o) :
    Calls Tryz.prog 92 #[.pointer (some ⟨bt, o, none⟩)] w fun e w' => e = .returned (.bool t.large) ∧ Below w.heap.size w w' :=
  callsIn_wide.1 (tooLarge_in 3 (by omega) S t hdep bt o w hS hty)

end Go.Proofs.YtgmdmbmkljbgiaaGreatDoor
