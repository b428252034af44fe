/- Processes: the program's Right. (and what follows from it) -/
import Derived.Test.YtgmdmbmkljbgiaaGreatDoorPz5
import Derived.Deep.WholeRow

/- Processes: the program's Right. -/
namespace Go.Proofs.YtgmdmbmkljbgiaaGreatDoor
open Go.RowKit Go.Deep Go.Shelf
attribute [local go_sem] Oper.semAt_some

/-- A node is as its kind asks. -/
noncomputable def Pr.okN (p : Pr) : Bool := pknK p.k && p.shp
noncomputable def allN (l : List (Nat × Pr)) : Bool := l.all fun x => x.2.okN
noncomputable def prightE (p : Pr) : Int := if p.large then 2 else if allN (preP 1 p) then 0 else 3
theorem allN_snoc (l : List (Nat × Pr)) (x : Nat × Pr) : allN (l ++ [x]) = (allN l && x.2.okN) := by simp [allN]
theorem allN_prefix {l r : List (Nat × Pr)} (h : l <+: r) (hl : allN l = false) : allN r = false := by
  obtain ⟨s, rfl⟩ := h
  unfold allN at hl ⊢
  rw [List.all_append, hl, Bool.false_and]
theorem plarge_is (S : Nat → Prop) (p : Pr) (hdep : p.depth ≤ 99999) (bt o : Nat) (b : Bool) (h : p.large = b) (w : World) (hS : Low S w) (hty : PrAt S w p bt o) :
    Calls Tryz.prog 57 #[.pointer (some ⟨bt, o, none⟩)] w fun e w' => e = .returned (.bool b) ∧ Below w.heap.size w w' := by
  rw [← h]; exact ptooLarge_any S p hdep bt o w hS hty
def PRulesIn (W : World) (bm : Nat) : Prop := PRulesAt W bm
theorem abides_prules {β : Type} {D bm : Nat} (hb : bm < D) : AbidesAll D (fun (_ : β) W => PRulesIn W bm) :=
  fun _ _ _ _ hs hg hr => MapIs.kept hs hg (fun e => by have := hr bm e.symm; omega)
theorem pfits_is (S : Nat → Prop) (p : Pr) (b o E : Nat) (r : Bool) (h : p.shp = r) (w : World) (hS : Low S w) (he : Env E w) (hg : PGood p) (hp : PrAt S w p b o) (hk : pknK p.k = true) (v : Value) (hv : pruleVal p.k = v) :
    Calls Tryz.prog 60 #[v, .pointer (some ⟨b, o, none⟩)] w fun e w' => e = .returned (.bool r) ∧ Below w.heap.size w w' := by
  rw [← h, ← hv]; exact pfits_shp S p b o E w hS he (Pr.fine_t hg.1) (by have := Pr.tf_depth hg.2; omega) hp hk
/-- A piece of code ends, with this frame, in this world. -/
def EndsAt (A : Act) (W : World) : Exit → Act → World → Prop
  | .normal, a, w => a = A ∧ w = W
  | _, _, _ => False
theorem pruleVal_agg (k : Int) : ∃ f0 f1 f2 f3 f4 f5, pruleVal k = .agg #[f0, f1, f2, f3, f4, f5] ∧ #[f0, f1, f2, f3, f4, f5].all (·.oneCell') = true := by
  unfold pruleVal
  (repeat' split) <;> exact ⟨_, _, _, _, _, _, rfl, by simp [Value.oneCell']⟩

set_option maxRecDepth 100000 in
set_option maxHeartbeats 4000000 in
theorem pright_in (n : Nat) (hn : 3 ≤ n) (E : Nat) (B : Nat → Prop) (p : Pr) (hg : PGood p) (hdep : p.depth ≤ 99999) (lv av tl tk kv : Value) (w : World) (hB : Low B w) (he : Env E w) (hv : PrVal B w (prAgg p lv av tl tk kv) p) :
    CallsIn Fence.wide n Tryz.prog 47 #[prAgg p lv av tl tk kv] w fun e w' => e = .returned (.int .i64 (prightE p)) ∧ Below w.heap.size w w' := by
  have h1 : 1 ≤ n := by omega
  have hbx : Below w.heap.size w ((w.alloc (cell12 p lv av tl tk kv)).alloc (.cells #[.int .i64 0] 37)) := box2_below w _ _
  have hty := boxed_prAt (S := fun k => B k ∨ k = w.heap.size) hB hv ((Below.refl (w.heap.size + 1) _).alloc (by simp) (.cells #[.int .i64 0] 37)) (fun _ h => .inl h) (.inr rfl)
  have hS : Low (fun k => B k ∨ k = w.heap.size) ((w.alloc (cell12 p lv av tl tk kv)).alloc (.cells #[.int .i64 0] 37)) := fun k h => h.elim (fun h => by have := hB k h; simp; omega) (fun h => by simp; omega)
  cases hlg : p.large with
  | true =>
    have HL := Lib.hid (plarge_is _ p hdep w.heap.size 0 true hlg _ hS hty)
    have HE : Hid (prightE p = 2) := Lib.hid (by unfold prightE; rw [hlg]; rfl)
    rw [HE.out]
    clear hlg hty hv hS
    refine callsIn_of_wp_marks Tryz.func47 rfl trivial ?_ rfl
    simp only [prAgg, Tryz.ntmps47, List.size_toArray, List.length_cons, List.length_nil, Nat.reduceAdd, Nat.reduceSub, Array.replicate_succ, Array.replicate_zero, List.push_toArray, List.append_toArray, List.nil_append, List.cons_append]
    gi_wp2_with (refine ⟨trivial, ?_⟩; gi_at_call 57; refine (callsIn_wide.2 HL.out).mono ?_; rintro e w' ⟨rfl, hb2⟩; obtain ⟨hcl, hfz⟩ := bcell hb2)
    have k0 : w'.heap[w.heap.size + 1]? = some (.cells #[.int .i64 0] 37 (0, 0)) := (hb2.block (w.heap.size + 1) (by simp)).trans (by have h := World.alloc_heap_new (w.alloc (cell12 p lv av tl tk kv)) (.cells #[.int .i64 0] 37); rw [World.size_alloc] at h; exact h)
    have k1 := set_block k0 0 (.int .i64 2)
    have c1 : (w'.setCell ⟨w.heap.size + 1, 0, none⟩ (.int .i64 2)).cell? ⟨w.heap.size + 1, 0, none⟩ = some (.int .i64 2) := by simp [World.cell?, k1]
    have k7 := (below_seq hbx hb2).setCell (p := ⟨w.heap.size + 1, 0, none⟩) (by simp) (.int .i64 2)
    generalize w'.setCell ⟨w.heap.size + 1, 0, none⟩ (.int .i64 2) = W4 at *
    exact ⟨.int .i64 2, by simp [results, Tryz.results47, go_sem, c1], rfl, k7⟩
  | false =>
    have HL := Lib.hid (plarge_is _ p hdep w.heap.size 0 false hlg _ hS hty)
    have HE : Hid (prightE p = if allN (preP 1 p) then 0 else 3) := Lib.hid (by unfold prightE; rw [hlg]; rfl)
    obtain ⟨rv, hrv0⟩ : ∃ rv : Int, (if allN (preP 1 p) then (0 : Int) else 3) = rv := ⟨_, rfl⟩
    have HRV := Lib.hid hrv0
    rw [HE.out, hrv0]
    clear hrv0
    clear hlg
    refine callsIn_of_wp_marks Tryz.func47 rfl trivial ?_ rfl
    simp only [prAgg, Tryz.ntmps47, List.size_toArray, List.length_cons, List.length_nil, Nat.reduceAdd, Nat.reduceSub, Array.replicate_succ, Array.replicate_zero, List.push_toArray, List.append_toArray, List.nil_append, List.cons_append]
    gi_wp2_with (first | (refine ⟨trivial, ?_⟩; gi_at_call 57; refine (callsIn_wide.2 HL.out).mono ?_; rintro e w2 ⟨rfl, hb2⟩; obtain ⟨hcl, hfz⟩ := bcell hb2) | (refine ⟨trivial, ?_⟩; gi_at_call 58; refine (callsIn_wide.2 (prules_any _)).mono ?_; rintro e w3 ⟨bm, rfl, hru, hb3, hbm⟩) | (refine ⟨trivial, ?_⟩; gi_at_call 59; refine (callsIn_wide.2 (pnodes_any _ _)).mono ?_; rintro e w' ⟨rfl, rfl⟩))
    have hsw : w.heap.size + 2 ≤ w2.heap.size := by have := hb2.size; simp at this; omega
    have hb02 : Below w.heap.size w w2 := below_seq hbx hb2
    have hb03 : Below w.heap.size w w3 := below_seq hb02 hb3
    have hs3 := hb3.size
    have hbel : Below w.heap.size w ((w3.alloc (.cells #[.map (some bm)] 95)).alloc (.cells #[.pointer (some ⟨w.heap.size, 0, none⟩)] 66)) := below_seq hb03 (box2_below w3 _ _)
    have hbel2 : Below (w.heap.size + 2) ((w.alloc (cell12 p lv av tl tk kv)).alloc (.cells #[.int .i64 0] 37)) ((w3.alloc (.cells #[.map (some bm)] 95)).alloc (.cells #[.pointer (some ⟨w.heap.size, 0, none⟩)] 66)) :=
      (hb2.mono (by simp)).trans ((hb3.mono hsw).trans ((box2_below w3 _ _).mono (by omega)))
    have hr0 : ((w3.alloc (.cells #[.map (some bm)] 95)).alloc (.cells #[.pointer (some ⟨w.heap.size, 0, none⟩)] 66)).heap[w.heap.size + 1]? = some (.cells #[.int .i64 0] 37 (0, 0)) :=
      (hbel2.block (w.heap.size + 1) (by omega)).trans (by have h := World.alloc_heap_new (w.alloc (cell12 p lv av tl tk kv)) (.cells #[.int .i64 0] 37); rw [World.size_alloc] at h; exact h)
    have hm0 : ((w3.alloc (.cells #[.map (some bm)] 95)).alloc (.cells #[.pointer (some ⟨w.heap.size, 0, none⟩)] 66)).heap[w3.heap.size]? = some (.cells #[.map (some bm)] 95 (0, 0)) :=
      (Below.heap_alloc _ _ _ (by simp)).trans (World.alloc_heap_new w3 _)
    have hp0 : ((w3.alloc (.cells #[.map (some bm)] 95)).alloc (.cells #[.pointer (some ⟨w.heap.size, 0, none⟩)] 66)).cell? ⟨w3.heap.size + 1, 0, none⟩ = some (.pointer (some ⟨w.heap.size, 0, none⟩)) := by
      have h := blk_cell (w := w3.alloc (.cells #[.map (some bm)] 95)) (cs := #[.pointer (some ⟨w.heap.size, 0, none⟩)]) (t := 66) (Below.refl _ _) 0 rfl
      rw [World.size_alloc] at h; exact h
    have hty0 := hty.keep ((hbel2.keeps'.mono (fun k h => h.elim (fun h => by have := hB k h; omega) (fun h => by omega) : ∀ k, (B k ∨ k = w.heap.size) → k < w.heap.size + 2)))
    have hru0 : PRulesIn ((w3.alloc (.cells #[.map (some bm)] 95)).alloc (.cells #[.pointer (some ⟨w.heap.size, 0, none⟩)] 66)) bm := MapIs.below hru (box2_below w3 _ _) (MapIs.lt hru)
    have hen0 : Env E ((w3.alloc (.cells #[.map (some bm)] 95)).alloc (.cells #[.pointer (some ⟨w.heap.size, 0, none⟩)] 66)) := he.to hbel
    have hbml := MapIs.lt hru
    have hsz0 : ((w3.alloc (.cells #[.map (some bm)] 95)).alloc (.cells #[.pointer (some ⟨w.heap.size, 0, none⟩)] 66)).heap.size = w3.heap.size + 2 := by simp
    obtain ⟨W0, hW0⟩ : ∃ W0, ((w3.alloc (.cells #[.map (some bm)] 95)).alloc (.cells #[.pointer (some ⟨w.heap.size, 0, none⟩)] 66)) = W0 := ⟨_, rfl⟩
    rw [hW0] at hbel hr0 hm0 hp0 hty0 hru0 hen0 hsz0 ⊢
    obtain ⟨m3, hm3⟩ : ∃ m3, w3.heap.size = m3 := ⟨_, rfl⟩
    rw [hm3] at hm0 hp0 hsz0 hs3 hbml ⊢
    clear hW0 hbel2 hru hb3 hb03 hb02 hb2 hty hS hcl hfz hbx hm3
    have hX : ∀ k, (fun _ : Nat => False) k → ¬ (B k ∨ k = w.heap.size) := fun k e => e.elim
    have hS0 : ∀ k, (B k ∨ k = w.heap.size) → k < W0.heap.size := fun k h => h.elim (fun h => by have := hB k h; omega) (fun h => by omega)
    have hEs := he.size
    refine wpIn_range_told rfl h1 (gf := 86) (lb := #[.pointer (some ⟨m3 + 1, 0, none⟩)]) rfl trivial (enters_of Tryz.func86 (by kernel_rfl) rfl)
      (pnodes_tells PGood (fun _ h => h.ps) (n - 1) (m3 + 1) w.heap.size 0 p (fun k => B k ∨ k = w.heap.size) (fun _ => False) W0 hX hS0 (by omega) hp0 hty0 hdep hg) (fun h g => KV.trans h g) (fun W l o o' _ h ho _ => KV.of_cells (by simp) (cellsKept_put h ho)) (fun x A B h hp => Pp.kept h hp) (Below.refl _ _) (fun _ => rfl)
      (fun pre W => ((W.heap[w.heap.size + 1]? = some (.cells #[.int .i64 0] 37 (0, 0)) ∧ W.heap[m3]? = some (.cells #[.map (some bm)] 95 (0, 0))) ∧ (PRulesIn W bm ∧ Env E W)) ∧ (allN (pre.map Np.g) = true ∧ Below w.heap.size w W))
      (fun c pre W => ((c = .ret ∧ allN (pre.map Np.g) = false) ∧ W.heap[w.heap.size + 1]? = some (.cells #[.int .i64 3] 37 (0, 0))) ∧ Below w.heap.size w W)
      ((((abides_boxed (by omega) _ (fun _ => .int .i64 0)).and (abides_boxed (by omega) _ (fun _ => .map (some bm)))).and ((abides_prules (by omega)).and (abides_env (by omega)))).and ((abidesAll_pure _ _).and (abidesAll_below (by omega) (Nat.le_refl _))))
      (fun c => (((abidesAll_pure _ _).and (abides_boxed (by omega) _ (fun _ : List Np => .int .i64 3))).and (abidesAll_below (by omega) (Nat.le_refl _)))) ⟨⟨⟨hr0, hm0⟩, hru0, hen0⟩, rfl, hbel⟩
      (fun x a' _ => a' = { tmps := #[prAgg p lv av tl tk kv, .pointer (some ⟨w.heap.size, 0, none⟩), .pointer (some ⟨w.heap.size + 1, 0, none⟩), .pointer (some ⟨m3, 0, none⟩), undef, .pointer (some ⟨x.b, x.o, none⟩), undef, undef, .bool false, .map (some bm),
        .func (.func 86) #[] #[.pointer (some ⟨m3 + 1, 0, none⟩)], .int .i64 x.d, .pointer (some ⟨x.b, x.o, none⟩), undef, undef, undef, undef, undef, undef, undef, undef, undef, undef, undef, undef, undef, undef, undef, undef, undef], defers := [] }) (fun _ _ _ _ _ h => h) ?assign ?body ?done ?stop
    case assign =>
      intro l pre x W K hi hp hK
      simp only [npArgs]
      gi_wp2
      exact hK _ _ (KeepsFrom.refl _ _) (KV.refl _ _ _) hi hp (by simp)
    case body =>
      rintro l pre x a' W hl hlr ⟨⟨⟨hr, hm⟩, hru, hen⟩, hok, hbw⟩ hpx rfl
      have hlW := (Array.getElem?_eq_some_iff.1 hm).1
      have hSW : Low (fun k => B k ∨ k = w.heap.size) W := fun k h => h.elim (fun h => by have := hB k h; omega) (fun h => by omega)
      obtain ⟨hxS, _, ⟨k0, _, _⟩, _⟩ := PrAt.eq.1 hpx.1
      have hxb := hSW _ hxS
      obtain ⟨f0, f1, f2, f3, f4, f5, hrv, hone⟩ := pruleVal_agg x.p.k
      obtain ⟨kn, hkn⟩ : ∃ kn, pknK x.p.k = kn := ⟨_, rfl⟩
      obtain ⟨sh, hsh⟩ : ∃ sh, x.p.shp = sh := ⟨_, rfl⟩
      have HF : Hid (allN ((pre ++ [x]).map Np.g) = (kn && sh)) := Lib.hid (by
        rw [List.map_append, List.map_cons, List.map_nil, allN_snoc, hok]
        show (true && Pr.okN x.p) = _
        unfold Pr.okN; rw [hkn, hsh, Bool.true_and])
      have hin := Pr.fine_k hpx.2.2.1
      have HLK : ∀ W', Below W.heap.size W W' → (Instr.lookup 95 (.map (some bm)) (.int .i64 x.p.k) true).run Tryz.prog W' = .ok (.tuple #[.agg #[f0, f1, f2, f3, f4, f5], .bool kn]) W' := fun W' hW' => by
        rw [← hrv, ← hkn]; exact PRulesAt.look_ok (MapIs.below hru hW' (MapIs.lt hru)) hin.1 hin.2
      have l1 := HLK W.drew (Below.refl _ _).drew
      have l2 := HLK ((W.alloc (.cells #[.nilFunc, .nilFunc, .nilFunc, .nilFunc, .nilFunc, .nilFunc] 101)).drew) ((Below.refl _ _).alloc (by simp) _).drew
      have HC : Hid (kn = true → ∀ W', Below W.heap.size W W' → Calls Tryz.prog 60 #[.agg #[f0, f1, f2, f3, f4, f5], .pointer (some ⟨x.b, x.o, none⟩)] W' fun e w' => e = .returned (.bool sh) ∧ Below W'.heap.size W' w') := Lib.hid (fun h W' hW' =>
        pfits_is _ x.p x.b x.o E sh hsh W' (hSW.le hW'.size) (hen.to hW') hpx.2.2 (hpx.1.keep (hW'.keeps'.mono hSW)) (hkn.trans h) _ hrv)
      have c0 : W.cell? ⟨m3, 0, none⟩ = some (.map (some bm)) := by simp [World.cell?, hm]
      have hrl := (Array.getElem?_eq_some_iff.1 hr).1
      have HR := Lib.hid hr
      have HM := Lib.hid hm
      have HRU := Lib.hid hru
      have HEN := Lib.hid hen
      have HBW := Lib.hid hbw
      have r0 : ∀ w5, Below W.heap.size W w5 → w5.cell? ⟨w.heap.size + 1, 0, none⟩ = some (.int .i64 0) ∧ w5.frozen? ⟨w.heap.size + 1, 0, none⟩ = false := fun w5 h5 => by
        have h := (h5.block _ hrl).trans hr
        exact ⟨by simp [World.cell?, h], by simp [World.frozen?, h]⟩
      have HR0 := Lib.hid r0
      simp only [List.all_toArray, List.all_cons, List.all_nil, Bool.and_true, Bool.and_eq_true] at hone
      obtain ⟨o0, o1, o2, o3, o4, o5⟩ := hone
      have s0 : ∀ (w : World) (a : Addr) (m : Mode), (store a f0 m).run Tryz.prog w = stored Tryz.prog w a f0 m := fun w a m => run_store _ w a f0 m o0
      have s1 : ∀ (w : World) (a : Addr) (m : Mode), (store a f1 m).run Tryz.prog w = stored Tryz.prog w a f1 m := fun w a m => run_store _ w a f1 m o1
      have s2 : ∀ (w : World) (a : Addr) (m : Mode), (store a f2 m).run Tryz.prog w = stored Tryz.prog w a f2 m := fun w a m => run_store _ w a f2 m o2
      have s3 : ∀ (w : World) (a : Addr) (m : Mode), (store a f3 m).run Tryz.prog w = stored Tryz.prog w a f3 m := fun w a m => run_store _ w a f3 m o3
      have s4 : ∀ (w : World) (a : Addr) (m : Mode), (store a f4 m).run Tryz.prog w = stored Tryz.prog w a f4 m := fun w a m => run_store _ w a f4 m o4
      have s5 : ∀ (w : World) (a : Addr) (m : Mode), (store a f5 m).run Tryz.prog w = stored Tryz.prog w a f5 m := fun w a m => run_store _ w a f5 m o5
      have hbW2 : Below W.heap.size W ((W.alloc (.cells #[f0, f1, f2, f3, f4, f5] 101)).drew) := (blkBelow W _ _).drew
      have HB2 := Lib.hid hbW2
      have PK := Lib.hid (And.intro HF.out (And.intro HC.out (And.intro HR.out (And.intro HM.out (And.intro HRU.out (And.intro HEN.out (And.intro HBW.out (And.intro HR0.out (And.intro HB2.out hrl)))))))))
      clear hr hm hru hen hpx hkn hsh hok hrv o0 o1 o2 o3 o4 o5 HLK hbW2 r0 hbw hin hSW hxS hr0 hm0 hp0 hty0 hru0 hen0 hbel hX hS0 HL HE HRV hv hg hdep he hB hEs hs3 hsz0 hbml HF HC HR HM HRU HEN HBW HR0 HB2 hrl hl hlr
      gi_wp2_with fail
      refine wpIn_mono (Q := EndsAt { tmps := #[prAgg p lv av tl tk kv, .pointer (some ⟨w.heap.size, 0, none⟩), .pointer (some ⟨w.heap.size + 1, 0, none⟩), .pointer (some ⟨m3, 0, none⟩), undef, .pointer (some ⟨x.b, x.o, none⟩), .pointer (some ⟨W.heap.size, 0, none⟩), .bool kn, .bool false, .map (some bm),
        .func (.func 86) #[] #[.pointer (some ⟨m3 + 1, 0, none⟩)], .int .i64 x.d, .pointer (some ⟨x.b, x.o, none⟩), .tuple #[.agg #[f0, f1, f2, f3, f4, f5], .bool kn], .map (some bm), .pointer (some ⟨x.b, x.o, none⟩), .pointer (some ⟨x.b, x.o, none⟩), .pointer (some ⟨x.b, x.o, none⟩), .int .i64 x.p.k, .tuple #[.agg #[f0, f1, f2, f3, f4, f5], .bool kn], .agg #[f0, f1, f2, f3, f4, f5], .bool kn, undef, undef, undef, undef, undef, undef, undef, undef], defers := [] } ((W.alloc (.cells #[f0, f1, f2, f3, f4, f5] 101)).drew)) ?_ ?_
      · gi_region_with (fail)
        all_goals exact ⟨rfl, rfl⟩
      · intro e a'' w'' hend
        cases e <;> first | exact hend.elim | skip
        obtain ⟨rfl, rfl⟩ := hend
        clear k0 l1 l2 s0 s1 s2 s3 s4 s5 c0
        obtain ⟨hF, hC, hR, hM, hRU, hEN, hBW, hR0, hB2, hrl⟩ := PK.out
        have HF := Lib.hid hF
        have HC := Lib.hid hC
        have HR := Lib.hid hR
        have HM := Lib.hid hM
        have HRU := Lib.hid hRU
        have HEN := Lib.hid hEN
        have HBW := Lib.hid hBW
        have HR0 := Lib.hid hR0
        have HB2 := Lib.hid hB2
        clear hF hC hR hM hRU hEN hBW hR0 hB2 PK
        cases kn
        · gi_wp2_with fail
          refine ⟨trivial, ?_⟩
          obtain ⟨q0, q1⟩ := HR0.out _ HB2.out
          obtain ⟨W2, hW2⟩ : ∃ W2, (W.alloc (.cells #[f0, f1, f2, f3, f4, f5] 101)).drew = W2 := ⟨_, rfl⟩
          rw [hW2] at HB2 q0 q1 ⊢
          clear hW2
          gi_wp2_with fail
          refine ⟨((keepsOthers_below HB2.out).trans (KeepsOthers.setCell _ _ _)).from _, ⟨⟨rfl, by rw [HF.out]; rfl⟩, ?_⟩, (below_seq HBW.out HB2.out).setCell (p := ⟨w.heap.size + 1, 0, none⟩) (by simp) _⟩
          exact set_block ((HB2.out.block _ hrl).trans HR.out) 0 _
        · have HC1 := Lib.hid (HC.out rfl _ HB2.out)
          gi_wp2_with fail
          refine ⟨trivial, ⟨fun h => (by cases h), ?_⟩⟩
          refine (CallsIn.inRound l (callsIn_wide.2 HC1.out)).mono ?_
          rintro e w5 ⟨rfl, hb5⟩
          have HB5 := Lib.hid (below_seq HB2.out hb5)
          clear hb5
          obtain ⟨q0, q1⟩ := HR0.out _ HB5.out
          cases sh
          · gi_wp2_with fail
            refine ⟨((keepsOthers_below HB5.out).trans (KeepsOthers.setCell _ _ _)).from _, ⟨⟨rfl, by rw [HF.out]; rfl⟩, ?_⟩, (below_seq HBW.out HB5.out).setCell (p := ⟨w.heap.size + 1, 0, none⟩) (by simp) _⟩
            exact set_block ((HB5.out.block _ hrl).trans HR.out) 0 _
          · gi_wp2_with fail
            exact ⟨(keepsOthers_below HB5.out).from _, KV.of_below HB5.out, ⟨⟨⟨(HB5.out.block _ hrl).trans HR.out, (HB5.out.block _ hlW).trans HM.out⟩, MapIs.below HRU.out HB5.out (MapIs.lt HRU.out), HEN.out.to HB5.out⟩, by rw [HF.out]; rfl, below_seq HBW.out HB5.out⟩⟩
    case done =>
      rintro D ys W hD hys ⟨⟨⟨hr, _⟩, _⟩, hok, hbw⟩ hK
      have hv : rv = 0 := by rw [← HRV.out, ← hys, hok]; rfl
      have r0 : W.cell? ⟨w.heap.size + 1, 0, none⟩ = some (.int .i64 0) := by simp [World.cell?, hr]
      have r1 : W.frozen? ⟨w.heap.size + 1, 0, none⟩ = false := by simp [World.frozen?, hr]
      have HK := Lib.hid hK
      have HR := Lib.hid hr
      have HV := Lib.hid hv
      clear hys hK hr hv hok
      gi_wp2
      have k3 : (W.setCell ⟨w.heap.size + 1, 0, none⟩ (.int .i64 0)).heap[D]? = some (.deferred (some [])) := (Below.heap_setCell _ _ _ D (by simp; omega)).trans HK.out
      refine ⟨by simp, .inl ⟨_, _, rfl, run_takeDeferred k3, ?_⟩⟩
      have k1 : ((W.setCell ⟨w.heap.size + 1, 0, none⟩ (.int .i64 0)).putObj D (.deferred none)).heap[w.heap.size + 1]? = some (.cells #[.int .i64 0] 37 (0, 0)) := (World.putObj_heap_other (by omega)).trans (set_block HR.out 0 _)
      have c1 : ((W.setCell ⟨w.heap.size + 1, 0, none⟩ (.int .i64 0)).putObj D (.deferred none)).cell? ⟨w.heap.size + 1, 0, none⟩ = some (.int .i64 0) := by simp [World.cell?, k1]
      have k7 := (hbw.setCell (p := ⟨w.heap.size + 1, 0, none⟩) (by simp) (.int .i64 0)).trans (belowK_b (w := w) (Nat.le_refl _) _ D _ (.deferred none) (by omega) k3 rfl rfl)
      generalize (W.setCell ⟨w.heap.size + 1, 0, none⟩ (.int .i64 0)).putObj D (.deferred none) = W4 at *
      exact ⟨.int .i64 0, by simp [results, Tryz.results47, go_sem, c1], by rw [HV.out], k7⟩
    case stop =>
      rintro D c pre W hD hpre ⟨⟨⟨rfl, hne⟩, hr⟩, hbw⟩ hK
      have hv : rv = 3 := by rw [← HRV.out, allN_prefix hpre hne]; rfl
      have HV := Lib.hid hv
      clear hv hpre hne
      gi_wp2
      refine ⟨by simp, .inl ⟨_, _, rfl, run_takeDeferred hK, ?_⟩⟩
      have k1 : (W.putObj D (.deferred none)).heap[w.heap.size + 1]? = some (.cells #[.int .i64 3] 37 (0, 0)) := (World.putObj_heap_other (by omega)).trans hr
      have c1 : (W.putObj D (.deferred none)).cell? ⟨w.heap.size + 1, 0, none⟩ = some (.int .i64 3) := by simp [World.cell?, k1]
      have k7 := hbw.trans (belowK_b (w := w) (Nat.le_refl _) W D _ (.deferred none) (by omega) hK rfl rfl)
      generalize W.putObj D (.deferred none) = W4 at *
      exact ⟨.int .i64 3, by simp [results, Tryz.results47, go_sem, c1], by rw [HV.out], k7⟩

theorem pright_any (E : Nat) (B : Nat → Prop) (p : Pr) (hg : PGood p) (hdep : p.depth ≤ 99999) (v : Value) (w : World) (hB : Low B w) (he : Env E w) (hv : PrVal B w v p) :
    Calls Tryz.prog 47 #[v] w fun e w' => e = .returned (.int .i64 (prightE p)) ∧ Below w.heap.size w w' := by
  have hv' := hv
  obtain ⟨lv, av, tl, tk, kv, rfl, _⟩ := hv'
  exact callsIn_wide.1 (pright_in 3 (by omega) E B p hg hdep lv av tl tk kv w hB he hv)

end Go.Proofs.YtgmdmbmkljbgiaaGreatDoor
