/- Types: the program's varError. -/
import Derived.Test.YtfmadgoieppmkaaDoorTySd
namespace Go.Proofs.YtfmadgoieppmkaaDoor
open Go.RowKit Go.Deep Go.Shelf
attribute [local go_sem] Oper.semAt_some

def actP (l : List Ty) : Bool := l.any fun u => actB u.k
theorem actP_snoc (l : List Ty) (u : Ty) : actP (l ++ [u]) = (actP l || actB u.k) := by simp [actP]
/-- Nodes that are passed by: what is asked of the others. -/
def Past (n : ByteArray) (l : List Ty) : Prop := ∀ rest, vErr n (l ++ rest) false = vErr n rest (actP l)
theorem past_nil (n : ByteArray) : Past n [] := fun _ => rfl
theorem past_snoc {n : ByteArray} {l : List Ty} {u : Ty} (h : Past n l) (hu : ¬ (u.k = 8 ∧ u.n = n)) : Past n (l ++ [u]) := fun rest => by
  rw [List.append_assoc, h, actP_snoc]
  show vErr n (u :: rest) _ = _
  rw [vErr, if_neg hu]
theorem past_hit {n : ByteArray} {l : List Ty} {u : Ty} (h : Past n l) (hu : u.k = 8 ∧ u.n = n) (rest : List Ty) : vErr n (l ++ [u] ++ rest) false = if actP l then 0 else 3 := by
  rw [List.append_assoc, h]
  show vErr n (u :: rest) _ = _
  rw [vErr, if_pos hu]
theorem action_is (k : Int) (b : Bool) (h : actB k = b) (w : World) :
    Calls Tryd.prog 80 #[.int .i64 k] w fun e w' => e = .returned (.bool b) ∧ w = w' := by
  rw [← h]; exact action_any k w

theorem box4_heap (w : World) (o0 o1 o2 o3 : Obj) : ((((w.alloc o0).alloc o1).alloc o2).alloc o3).heap[w.heap.size]? = some o0 ∧ ((((w.alloc o0).alloc o1).alloc o2).alloc o3).heap[w.heap.size + 1]? = some o1 ∧
    ((((w.alloc o0).alloc o1).alloc o2).alloc o3).heap[w.heap.size + 2]? = some o2 ∧ ((((w.alloc o0).alloc o1).alloc o2).alloc o3).heap[w.heap.size + 3]? = some o3 := by
  have h0 := World.alloc_heap_new w o0
  have h1 := World.alloc_heap_new (w.alloc o0) o1
  have h2 := World.alloc_heap_new ((w.alloc o0).alloc o1) o2
  have h3 := World.alloc_heap_new (((w.alloc o0).alloc o1).alloc o2) o3
  simp only [World.size_alloc] at h1 h2 h3
  refine ⟨?_, ?_, ?_, h3⟩
  · exact (Below.heap_alloc _ _ _ (by simp only [World.size_alloc]; omega)).trans ((Below.heap_alloc _ _ _ (by simp only [World.size_alloc]; omega)).trans ((Below.heap_alloc _ _ _ (by simp only [World.size_alloc]; omega)).trans h0))
  · exact (Below.heap_alloc _ _ _ (by simp only [World.size_alloc]; omega)).trans ((Below.heap_alloc _ _ _ (by simp only [World.size_alloc]; omega)).trans h1)
  · exact (Below.heap_alloc _ _ _ (by simp only [World.size_alloc]; omega)).trans h2

set_option maxRecDepth 100000 in
set_option maxHeartbeats 20000000 in
theorem varError_in (n : Nat) (hn : 3 ≤ n) (D : Nat) (S : Nat → Prop) (path : List Ty) (nm : ByteArray) (pa : Option Addr) (an ac : Nat) (w : World) (hS : Low S w) (har : ARow D S w (.slice pa an ac) path) (hlen : path.length ≤ 1000) :
    CallsIn Fence.wide n Tryd.prog 85 #[.slice pa an ac, .string nm] w fun e w' => e = .returned (.int .i64 (vErr nm path.reverse false)) ∧ Below w.heap.size w w' := by
  have h1 : 1 ≤ n := by omega
  refine callsIn_of_wp_marks Tryd.func85 rfl trivial ?_ rfl
  simp only [Tryd.ntmps85, List.size_toArray, List.length_cons, List.length_nil, Nat.reduceAdd, Nat.reduceSub, Array.replicate_succ, Array.replicate_zero, List.push_toArray, List.append_toArray, List.nil_append, List.cons_append]
  gi_wp2_with (refine ⟨trivial, ?_⟩; gi_at_call 108; refine (callsIn_wide.2 (backward_any _ _ _ _)).mono ?_; rintro e w' ⟨rfl, rfl⟩)
  have hw4 := box4_heap w (.cells #[.string nm] 9) (.cells #[.int .i64 0] 28) (.cells #[.bool false] 4) (.cells #[.slice pa an ac] 66)
  have hbel := box4_below w (.cells #[.string nm] 9) (.cells #[.int .i64 0] 28) (.cells #[.bool false] 4) (.cells #[.slice pa an ac] 66)
  have hsz0 : ((((w.alloc (.cells #[.string nm] 9)).alloc (.cells #[.int .i64 0] 28)).alloc (.cells #[.bool false] 4)).alloc (.cells #[.slice pa an ac] 66)).heap.size = w.heap.size + 4 := by simp
  obtain ⟨W0, hW0⟩ : ∃ W0, ((((w.alloc (.cells #[.string nm] 9)).alloc (.cells #[.int .i64 0] 28)).alloc (.cells #[.bool false] 4)).alloc (.cells #[.slice pa an ac] 66)) = W0 := ⟨_, rfl⟩
  rw [hW0] at hw4 hbel hsz0 ⊢
  clear hW0
  obtain ⟨q0, q1, q2, q3⟩ := hw4
  have hcs : W0.cell? ⟨w.heap.size + 1 + 1 + 1, 0, none⟩ = some (.slice pa an ac) := by simp [World.cell?, q3]
  have hak : ∀ g, (Value.slice pa an ac).ownBlock = some g → g < w.heap.size := fun g hg => by
    obtain ⟨_, _, h2, _⟩ := har
    rcases h2.2 with ⟨h, _⟩ | ⟨g0, cap, cur, h, hb, hgg, _⟩
    · rw [h] at hg; simp [Value.ownBlock] at hg
    · rw [h] at hg
      obtain rfl : g0 = g := by simpa [Value.ownBlock] using hg
      exact (Array.getElem?_eq_some_iff.1 hgg).1
  have har0 : ARow D S W0 (.slice pa an ac) path := har.kept (hbel.keeps'.mono hS) (fun g o hg ho hc => (hbel.block g (hak g hg)).trans ho)
  have hX : ∀ k, k = w.heap.size + 1 + 1 → ¬ S k ∧ k ≠ w.heap.size + 1 + 1 + 1 ∧ (Value.slice pa an ac).ownBlock ≠ some k := fun k e => ⟨fun h => by have := hS k h; omega, by omega, fun h => by have := hak k h; omega⟩
  have hS0 : ∀ k, S k → k < W0.heap.size := fun k h => by have := hS k h; omega
  refine wpIn_range_told rfl h1 (gf := 126) (lb := #[.pointer (some ⟨w.heap.size + 1 + 1 + 1, 0, none⟩)]) rfl trivial (enters_of Tryd.func126 (by kernel_rfl) rfl)
    (backward_tells (n - 1) (w.heap.size + 1 + 1 + 1) D path S (fun k => k = w.heap.size + 1 + 1) pa an ac W0 hX hS0 (by omega) hcs har0 hlen) (fun h g => KV.trans h g) (fun W l o o' _ h ho _ => KV.of_cells (by simp) (cellsKept_put h ho)) (fun x A B h hp => hp.keep (h.keeps S)) (Below.refl _ _) (fun _ => rfl)
    (fun pre W => ((W.heap[w.heap.size + 1 + 1]? = some (.cells #[.bool (actP (pre.map Bk.ty))] 4 (0, 0)) ∧ W.heap[w.heap.size + 1]? = some (.cells #[.int .i64 0] 28 (0, 0))) ∧ (W.heap[w.heap.size]? = some (.cells #[.string nm] 9 (0, 0)) ∧ Past nm (pre.map Bk.ty))) ∧ Below w.heap.size w W)
    (fun c pre W => ((c = .ret ∧ ∀ rest, Hid (vErr nm (pre.map Bk.ty ++ rest) false = (if actP (pre.map Bk.ty) then 0 else 3))) ∧ W.heap[w.heap.size + 1]? = some (.cells #[.int .i64 (if actP (pre.map Bk.ty) then 0 else 3)] 28 (0, 0))) ∧ Below w.heap.size w W)
    ((((abides_boxed (by omega) _ (fun pre : List Bk => .bool (actP (pre.map Bk.ty)))).and (abides_boxed (by omega) _ (fun _ => .int .i64 0))).and ((abides_boxed (by omega) _ (fun _ => .string nm)).and (abidesAll_pure _ _))).and (abidesAll_below (by omega) (Nat.le_refl _)))
    (fun c => (((abidesAll_pure _ _).and (abides_boxed (by omega) _ (fun pre : List Bk => .int .i64 (if actP (pre.map Bk.ty) then 0 else 3)))).and (abidesAll_below (by omega) (Nat.le_refl _)))) ⟨⟨⟨q2, q1⟩, q0, past_nil nm⟩, hbel⟩
    (fun x a' W => a' = { tmps := #[.slice pa an ac, .string nm, undef, .pointer (some ⟨w.heap.size, 0, none⟩), .pointer (some ⟨w.heap.size + 1, 0, none⟩), .pointer (some ⟨w.heap.size + 1 + 1, 0, none⟩), undef, .pointer (some ⟨x.b, x.o, none⟩), .slice pa an ac,
      .func (.func 126) #[] #[.pointer (some ⟨w.heap.size + 1 + 1 + 1, 0, none⟩)], .int .i64 x.i, .pointer (some ⟨x.b, x.o, none⟩), undef, undef, undef, undef, undef, undef, undef, undef, undef, undef, undef, undef, undef, undef, undef, undef, undef, undef, undef, undef, undef, undef, undef], defers := [] })
    (fun _ _ _ _ _ h => h) ?assign ?body ?done ?stop
  case assign =>
    intro l pre x W K hi hp hK
    simp only [bkArgs]
    gi_wp2
    exact hK _ _ (KeepsFrom.refl _ _) (KV.refl _ _ _) hi hp (by simp)
  case body =>
    rintro l pre x a' W hl _ ⟨⟨⟨hg, hr⟩, hnb, hpast⟩, hbw⟩ hpx rfl
    obtain ⟨la, ln, lc, ka, kn, kc, ⟨e0, _, e2, _, _, _⟩, _⟩ := hpx.load'
    obtain ⟨gb, hgb⟩ : ∃ gb, actP (pre.map Bk.ty) = gb := ⟨_, rfl⟩
    rw [hgb] at hg
    have g0 : W.cell? ⟨w.heap.size + 1 + 1, 0, none⟩ = some (.bool gb) := by simp [World.cell?, hg]
    have g1 : W.frozen? ⟨w.heap.size + 1 + 1, 0, none⟩ = false := by simp [World.frozen?, hg]
    have r0 : W.cell? ⟨w.heap.size + 1, 0, none⟩ = some (.int .i64 0) := by simp [World.cell?, hr]
    have r1 : W.frozen? ⟨w.heap.size + 1, 0, none⟩ = false := by simp [World.frozen?, hr]
    have n0 : W.cell? ⟨w.heap.size, 0, none⟩ = some (.string nm) := by simp [World.cell?, hnb]
    have hnd : x.ty = x.ty := rfl
    have HMap : Hid ((pre ++ [x]).map Bk.ty = pre.map Bk.ty ++ [x.ty]) := Lib.hid (by simp)
    have HG := Lib.hid hg
    have HR := Lib.hid hr
    have HN := Lib.hid hnb
    have HP := Lib.hid hpast
    have HGB := Lib.hid hgb
    obtain ⟨k, hk⟩ : ∃ k, x.ty.k = k := ⟨_, rfl⟩
    obtain ⟨s, hs⟩ : ∃ s, x.ty.n = s := ⟨_, rfl⟩
    rw [hk] at e0
    rw [hs] at e2
    have HK := Lib.hid hk
    have HS := Lib.hid hs
    clear hg hr hnb hpast hgb hpx hnd hk hs
    by_cases h8 : k = 8
    · subst h8
      by_cases he : s = nm
      · subst he
        have HHit : Hid (∀ rest, Hid (vErr s (pre.map Bk.ty ++ [x.ty] ++ rest) false = if gb then 0 else 3)) := Lib.hid (fun rest => Lib.hid (by rw [past_hit HP.out ⟨HK.out, HS.out⟩, HGB.out]))
        have HAct : Hid (actP (pre.map Bk.ty ++ [x.ty]) = gb) := Lib.hid (by rw [actP_snoc, HGB.out, HK.out]; cases gb <;> rfl)
        cases gb <;> gi_wp2_with fail
        all_goals gi_region_with (fail)
        all_goals
          gi_wp2_with fail
          refine ⟨((KeepsOthers.drew _).trans (KeepsOthers.setCell _ _ _)).from _, ⟨⟨rfl, ?_⟩, ?_⟩, (hbw.drew).setCell (p := ⟨w.heap.size + 1, 0, none⟩) (by simp) _⟩
          · rw [HMap.out, HAct.out]; exact HHit.out
          · rw [HMap.out, HAct.out]; exact set_block (W := W.drew) HR.out 0 _
      · have he' : (s.toList == nm.toList) = false := by simpa [bne] using str_ne he
        have HA := Lib.hid (action_is 8 false rfl)
        have HPast : Hid (Past nm (pre.map Bk.ty ++ [x.ty])) := Lib.hid (past_snoc HP.out (fun h => he (HS.out.symm.trans h.2)))
        have HAct : Hid (actP (pre.map Bk.ty ++ [x.ty]) = gb) := Lib.hid (by rw [actP_snoc, HGB.out, HK.out]; cases gb <;> rfl)
        clear he
        cases gb <;> gi_wp2_with fail
        all_goals gi_region_with (fail)
        all_goals
          (gi_wp2_with fail)
          first
            | (refine ⟨trivial, ⟨fun h => (by cases h), ?_⟩⟩; refine (CallsIn.inRound l (callsIn_wide.2 (HA.out _))).mono ?_; rintro e w1 ⟨rfl, rfl⟩; gi_wp2_with fail)
            | (refine ⟨trivial, ?_⟩; gi_wp2_with fail)
          refine ⟨((KeepsOthers.drew _).trans (KeepsOthers.setCell _ _ _)).from _, ⟨by simp, fun k o hk hc hx _ => (Below.heap_setCell W.drew _ _ k (fun e => hx e)).trans hk⟩, ⟨⟨?_, ?_⟩, ?_, by rw [HMap.out]; exact HPast.out⟩, (hbw.drew).setCell (p := ⟨w.heap.size + 1 + 1, 0, none⟩) (by simp; omega) _⟩
          · rw [HMap.out, HAct.out]; exact set_block (W := W.drew) HG.out 0 _
          · exact (Below.heap_setCell W.drew _ _ _ (by simp)).trans HR.out
          · exact (Below.heap_setCell W.drew _ _ _ (by simp; omega)).trans HN.out
    · have h8' : (k == 8) = false := by simpa using h8
      have HPast : Hid (Past nm (pre.map Bk.ty ++ [x.ty])) := Lib.hid (past_snoc HP.out (fun h => h8 (HK.out.symm.trans h.1)))
      obtain ⟨ab, hab⟩ : ∃ ab, actB k = ab := ⟨_, rfl⟩
      have HAct : Hid (actP (pre.map Bk.ty ++ [x.ty]) = (gb || ab)) := Lib.hid (by rw [actP_snoc, HGB.out, HK.out, hab])
      have HA := Lib.hid (action_is k ab hab)
      clear hab h8
      cases gb <;> gi_wp2_with fail
      all_goals gi_region_with (fail)
      all_goals
        (gi_wp2_with fail)
        first
          | (refine ⟨trivial, ⟨fun h => (by cases h), ?_⟩⟩; refine (CallsIn.inRound l (callsIn_wide.2 (HA.out _))).mono ?_; rintro e w1 ⟨rfl, rfl⟩; gi_wp2_with fail)
          | (refine ⟨trivial, ?_⟩; gi_wp2_with fail)
        refine ⟨((KeepsOthers.drew _).trans (KeepsOthers.setCell _ _ _)).from _, ⟨by simp, fun k o hk hc hx _ => (Below.heap_setCell W.drew _ _ k (fun e => hx e)).trans hk⟩, ⟨⟨?_, ?_⟩, ?_, by rw [HMap.out]; exact HPast.out⟩, (hbw.drew).setCell (p := ⟨w.heap.size + 1 + 1, 0, none⟩) (by simp; omega) _⟩
        · rw [HMap.out, HAct.out]; exact set_block (W := W.drew) HG.out 0 _
        · exact (Below.heap_setCell W.drew _ _ _ (by simp)).trans HR.out
        · exact (Below.heap_setCell W.drew _ _ _ (by simp; omega)).trans HN.out
  case done =>
    rintro Dd ys W hD hys ⟨⟨⟨hg, hr⟩, hnb, hpast⟩, hbw⟩ hK
    have hv : vErr nm path.reverse false = 4 := by
      have := hpast []
      rw [List.append_nil, hys] at this
      exact this
    have r0 : W.cell? ⟨w.heap.size + 1, 0, none⟩ = some (.int .i64 0) := by simp [World.cell?, hr]
    have r1 : W.frozen? ⟨w.heap.size + 1, 0, none⟩ = false := by simp [World.frozen?, hr]
    have HK := Lib.hid hK
    have HR := Lib.hid hr
    have HV := Lib.hid hv
    clear hg hys hK hpast hr hv hnb
    gi_wp2
    have k3 : (W.setCell ⟨w.heap.size + 1, 0, none⟩ (.int .i64 4)).heap[Dd]? = some (.deferred (some [])) := (Below.heap_setCell _ _ _ Dd (by simp; omega)).trans HK.out
    refine ⟨by simp, .inl ⟨_, _, rfl, run_takeDeferred k3, ?_⟩⟩
    have k1 : ((W.setCell ⟨w.heap.size + 1, 0, none⟩ (.int .i64 4)).putObj Dd (.deferred none)).heap[w.heap.size + 1]? = some (.cells #[.int .i64 4] 28 (0, 0)) := (World.putObj_heap_other (by omega)).trans (set_block HR.out 0 _)
    have c1 : ((W.setCell ⟨w.heap.size + 1, 0, none⟩ (.int .i64 4)).putObj Dd (.deferred none)).cell? ⟨w.heap.size + 1, 0, none⟩ = some (.int .i64 4) := by simp [World.cell?, k1]
    have k7 := (hbw.setCell (p := ⟨w.heap.size + 1, 0, none⟩) (by simp) (.int .i64 4)).trans (belowK_b (w := w) (Nat.le_refl _) _ Dd _ (.deferred none) (by omega) k3 rfl rfl)
    generalize (W.setCell ⟨w.heap.size + 1, 0, none⟩ (.int .i64 4)).putObj Dd (.deferred none) = W4 at *
    exact ⟨.int .i64 4, by simp [results, Tryd.results85, go_sem, c1], by rw [HV.out], k7⟩
  case stop =>
    rintro Dd c pre W hD hpre ⟨⟨⟨rfl, hhit⟩, hr⟩, hbw⟩ hK
    obtain ⟨rest, hrest⟩ := hpre
    have hv : vErr nm path.reverse false = (if actP (pre.map Bk.ty) then 0 else 3) := by rw [← hrest]; exact (hhit rest).out
    obtain ⟨v, hvv⟩ : ∃ v : Int, (if actP (pre.map Bk.ty) then 0 else 3) = v := ⟨_, rfl⟩
    rw [hvv] at hv hr
    have HV := Lib.hid hv
    clear hrest hv hvv hhit
    gi_wp2
    refine ⟨by simp, .inl ⟨_, _, rfl, run_takeDeferred hK, ?_⟩⟩
    have k1 : (W.putObj Dd (.deferred none)).heap[w.heap.size + 1]? = some (.cells #[.int .i64 v] 28 (0, 0)) := (World.putObj_heap_other (by omega)).trans hr
    have c1 : (W.putObj Dd (.deferred none)).cell? ⟨w.heap.size + 1, 0, none⟩ = some (.int .i64 v) := by simp [World.cell?, k1]
    have k7 := hbw.trans (belowK_b (w := w) (Nat.le_refl _) W Dd _ (.deferred none) (by omega) hK rfl rfl)
    generalize W.putObj Dd (.deferred none) = W4 at *
    exact ⟨.int .i64 v, by simp [results, Tryd.results85, go_sem, c1], by rw [HV.out], k7⟩

theorem varError_any (D : Nat) (S : Nat → Prop) (path : List Ty) (nm : ByteArray) (pa : Option Addr) (an ac : Nat) (w : World) (hS : Low S w) (har : ARow D S w (.slice pa an ac) path) (hlen : path.length ≤ 1000) :
    Calls Tryd.prog 85 #[.slice pa an ac, .string nm] w fun e w' => e = .returned (.int .i64 (vErr nm path.reverse false)) ∧ Below w.heap.size w w' :=
  callsIn_wide.1 (varError_in 3 (by omega) D S path nm pa an ac w hS har hlen)

end Go.Proofs.YtfmadgoieppmkaaDoor
