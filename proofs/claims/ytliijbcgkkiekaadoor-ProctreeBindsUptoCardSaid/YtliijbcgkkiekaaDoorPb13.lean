/- Types: the program's Right. (and what follows from it) -/
import Derived.Test.YtliijbcgkkiekaaDoorPb12

/- Types: the program's Right. -/
namespace Go.Proofs.YtliijbcgkkiekaaDoor
open Go.RowKit Go.Deep Go.Shelf
attribute [local go_sem] Oper.semAt_some

mutual
/-- All kinds are numbers that a word holds. -/
def Ty.fine : Ty → Prop
  | .mk k _ _ _ _ ts => In64 k ∧ Ty.fines ts
def Ty.fines : List Ty → Prop
  | [] => True
  | t :: r => t.fine ∧ Ty.fines r
end
theorem Ty.fine_k {t : Ty} (h : t.fine) : In64 t.k := by cases t; exact h.1
theorem Ty.fines_mem : ∀ {l : List Ty}, Ty.fines l → ∀ u ∈ l, u.fine
  | [], _, _, hu => by cases hu
  | t :: r, h, u, hu => by
    rcases List.mem_cons.1 hu with rfl | hu
    · exact h.1
    · exact Ty.fines_mem h.2 u hu
theorem Ty.fine_ts {t : Ty} (h : t.fine) : ∀ u ∈ t.ts, u.fine := by cases t; exact Ty.fines_mem h.2
/-- The nodes around, and the node, are fine. -/
def FineAt (path : List Ty) (t : Ty) : Prop := (∀ u ∈ path, In64 u.k) ∧ t.fine
theorem fineAt_down (path : List Ty) (t : Ty) (h : FineAt path t) : ∀ u ∈ t.ts, FineAt (path ++ [t]) u := fun u hu =>
  ⟨fun v hv => by
    rcases List.mem_append.1 hv with hv | hv
    · exact h.1 v hv
    · simp at hv; rw [hv]; exact Ty.fine_k h.2, Ty.fine_ts h.2 u hu⟩

set_option maxRecDepth 100000 in
set_option maxHeartbeats 1000000 in
/-- The iterator that nodes returns tells each node, its place and the nodes around it, all of them fine. -/
theorem nodes_fine (n : Nat) (Bt b o : Nat) (t : Ty) (S X : Nat → Prop) (w : World) (hX : ∀ k, X k → ¬ S k ∧ k < w.heap.size) (hS : ∀ k, S k → k < w.heap.size) (hBt : Bt < w.heap.size) (hc : w.cell? ⟨Bt, 0, none⟩ = some (.pointer (some ⟨b, o, none⟩))) (hty : TyAt S w t b o) (hdep : t.depth ≤ 1000) (hf : t.fine) :
    Tells Fence.wide n Tryd.prog 81 #[.pointer (some ⟨Bt, 0, none⟩)] ndArgs (fun x W => Px w.heap.size S x W ∧ FineAt x.path x.ty) (Kp X) (fun ys => ys.map Nd.g = preT [] 0 t) (fun pre => pre.map Nd.g <+: preT [] 0 t) w := by
  intro l J Jx W hW hJ _ hY h0
  have hp := visit_g FineAt fineAt_down Fence.wide rfl (fun _ => trivial) rfl l W.heap.size S X (fun k hk => ⟨(hX k hk).1, Nat.lt_of_lt_of_le (hX k hk).2 hW.size⟩) (fun k hk => Nat.lt_of_lt_of_le (hS k hk) hW.size) J Jx hJ
    (fun m pre x W1 hj hpx hg _ => yield_any rfl m (hY pre x W1 hj ⟨⟨hpx.1.low hW.size, hpx.2⟩, hg⟩)) t (n - 1) [] 0 none 0 0 b o [] W (Nat.le_refl _) h0 (hty.keep (hW.keeps'.mono hS)) ⟨[], rfl, World.ownsRow_nil _ _ _ _, fun i a u ha _ => by simp at ha⟩ (by simpa using hdep) ⟨fun u hu => (by cases hu), hf⟩
  have hc' := (hW.cell (p := ⟨Bt, 0, none⟩) hBt).trans hc
  have HP := Lib.hid hp
  clear hp hY h0 hJ
  refine callsIn_of_wp Tryd.func81 rfl trivial ?_ rfl
  simp only [Tryd.ntmps81, List.size_toArray, List.length_cons, List.length_nil, Nat.reduceAdd, Nat.reduceSub, Array.replicate_succ, Array.replicate_zero, List.push_toArray, List.append_toArray, List.nil_append, List.cons_append]
  gi_wp2_with fail
  refine ⟨trivial, ⟨fun h => (by cases h), ?_⟩⟩
  refine HP.out.mono ?_
  rintro e W1 (⟨rfl, ⟨ys, h1, h2⟩, _, _⟩ | ⟨rfl, ys, h1, h2⟩)
  · have H1 := Lib.hid h1
    have H2 := Lib.hid h2
    clear h1 h2
    gi_wp2
    go_end0
    exact ⟨⟨_, rfl⟩, .inl ⟨ys, H1.out, by simpa using H2.out⟩⟩
  · have H1 := Lib.hid h1
    have H2 := Lib.hid h2
    clear h1 h2
    gi_wp2
    go_end0
    exact ⟨⟨_, rfl⟩, .inr ⟨ys, H1.out, by simpa using H2.out⟩⟩

theorem large_is (S : Nat → Prop) (t : Ty) (hdep : t.depth ≤ 1000) (bt o : Nat) (b : Bool) (h : t.large = b) (w : World) (hS : Low S w) (hty : TyAt S w t bt o) :
    Calls Tryd.prog 48 #[.pointer (some ⟨bt, o, none⟩)] w fun e w' => e = .returned (.bool b) ∧ Below w.heap.size w w' := by
  rw [← h]; exact tooLarge_any S t hdep bt o w hS hty

theorem firstE_prefix {l r : List (List Ty × Int × Ty)} (h : l <+: r) (hl : firstE l ≠ 0) : firstE r = firstE l := by
  obtain ⟨s, rfl⟩ := h
  rw [firstE_append, if_neg hl]

def RulesIn (W : World) (bm : Nat) : Prop := RulesAt W bm
theorem abides_rules {β : Type} {D bm : Nat} (hb : bm < D) : AbidesAll D (fun (_ : β) W => RulesIn W bm) :=
  fun _ _ _ _ hs hg hr => MapIs.kept hs hg (fun e => by have := hr bm e.symm; omega)
theorem abides_env {β : Type} {D E : Nat} (hb : E ≤ D) : AbidesAll D (fun (_ : β) W => Env E W) :=
  fun _ A _ _ hs hg hr => hs.below ((Below.refl E A).grown hg hs.size (fun k e => Nat.le_trans hb (hr k e)))

theorem keepsOthers_below {A B : World} (h : Below A.heap.size A B) : KeepsOthers A B := ⟨h.size, fun k _ hk _ => (h.block k (Array.getElem?_eq_some_iff.1 hk).1).trans hk⟩
theorem firstE_snoc (l : List (List Ty × Int × Ty)) (x : List Ty × Int × Ty) (h : firstE l = 0) : firstE (l ++ [x]) = nodeErr x.1 x.2.1 x.2.2 := by
  rw [firstE_append, if_pos h]
  simp only [firstE]
  split
  · rename_i h0; exact h0.symm
  · rfl
theorem nodeError_is (D bm E : Nat) (S : Nat → Prop) (path : List Ty) (t : Ty) (kid : Int) (pa : Option Addr) (an ac b o : Nat) (v : Int) (hv : nodeErr path kid t = v) (w : World) (hS : Low S w) (he : Env E w) (hr : RulesIn w bm) (har : ARow D S w (.slice pa an ac) path) (hf : FineAt path t) (ht : TyAt S w t b o) (hlen : path.length ≤ 1000) :
    Calls Tryd.prog 51 #[.map (some bm), .agg #[.slice pa an ac, .int .i64 kid], .pointer (some ⟨b, o, none⟩)] w fun e w' => e = .returned (.int .i64 v) ∧ Below w.heap.size w w' := by
  rw [← hv]; exact nodeError_any D bm E S path t kid pa an ac b o w hS he hr har hf.1 (Ty.fine_k hf.2) ht hlen

set_option maxRecDepth 100000 in
set_option maxHeartbeats 4000000 in
theorem tright_in (n : Nat) (hn : 3 ≤ n) (E : Nat) (B : Nat → Prop) (t : Ty) (hf : t.fine) (hdep : t.depth ≤ 1000) (lv kv : Value) (w : World) (hB : Low B w) (he : Env E w) (hv : TyVal B w (.agg #[.int .i64 t.k, .int .i64 t.p, .string t.n, .int .i64 t.s, lv, kv]) t) :
    CallsIn Fence.wide n Tryd.prog 12 #[.agg #[.int .i64 t.k, .int .i64 t.p, .string t.n, .int .i64 t.s, lv, kv]] w fun e w' => e = .returned (.int .i64 (rightE t)) ∧ Below w.heap.size w w' := by
  have h1 : 1 ≤ n := by omega
  have h6 := (Six.new w (.int .i64 t.k) (.int .i64 t.p) (.string t.n) (.int .i64 t.s) lv kv)
  have hbx : Below w.heap.size w ((w.alloc (cell6 t.k t.p t.n t.s lv kv)).alloc (.cells #[.int .i64 0] 28)) := box2_below w _ _
  have hty := boxed_tyAt (S := fun k => B k ∨ k = w.heap.size) (h6.to ((Below.refl _ _).alloc (by simp) (.cells #[.int .i64 0] 28))) (hv.to hB hbx) (fun _ h => .inl h) (.inr rfl)
  have hS : Low (fun k => B k ∨ k = w.heap.size) ((w.alloc (cell6 t.k t.p t.n t.s lv kv)).alloc (.cells #[.int .i64 0] 28)) := fun k h => h.elim (fun h => by have := hB k h; simp; omega) (fun h => by simp; omega)
  cases hlg : t.large with
  | true =>
    have HL := Lib.hid (large_is _ t hdep w.heap.size 0 true hlg _ hS hty)
    have HE : Hid (rightE t = 2) := Lib.hid (by unfold rightE; rw [hlg]; rfl)
    rw [HE.out]
    clear hlg h6 hty hv hS
    refine callsIn_of_wp_marks Tryd.func12 rfl trivial ?_ rfl
    simp only [Tryd.ntmps12, List.size_toArray, List.length_cons, List.length_nil, Nat.reduceAdd, Nat.reduceSub, Array.replicate_succ, Array.replicate_zero, List.push_toArray, List.append_toArray, List.nil_append, List.cons_append]
    gi_wp2_with (refine ⟨trivial, ?_⟩; gi_at_call 48; refine (callsIn_wide.2 HL.out).mono ?_; rintro e w' ⟨rfl, hb2⟩; obtain ⟨hcl, hfz⟩ := bcell hb2)
    have k0 : w'.heap[w.heap.size + 1]? = some (.cells #[.int .i64 0] 28 (0, 0)) := (hb2.block (w.heap.size + 1) (by simp)).trans (by have h := World.alloc_heap_new (w.alloc (cell6 t.k t.p t.n t.s lv kv)) (.cells #[.int .i64 0] 28); rw [World.size_alloc] at h; exact h)
    have k1 := set_block k0 0 (.int .i64 2)
    have c1 : (w'.setCell ⟨w.heap.size + 1, 0, none⟩ (.int .i64 2)).cell? ⟨w.heap.size + 1, 0, none⟩ = some (.int .i64 2) := by simp [World.cell?, k1]
    have k7 := (below_seq hbx hb2).setCell (p := ⟨w.heap.size + 1, 0, none⟩) (by simp) (.int .i64 2)
    generalize w'.setCell ⟨w.heap.size + 1, 0, none⟩ (.int .i64 2) = W4 at *
    exact ⟨.int .i64 2, by simp [results, Tryd.results12, go_sem, c1], rfl, k7⟩
  | false =>
    have HL := Lib.hid (large_is _ t hdep w.heap.size 0 false hlg _ hS hty)
    have HE : Hid (rightE t = firstE (preT [] 0 t)) := Lib.hid (by unfold rightE; rw [hlg]; rfl)
    rw [HE.out]
    clear hlg
    refine callsIn_of_wp_marks Tryd.func12 rfl trivial ?_ rfl
    simp only [Tryd.ntmps12, List.size_toArray, List.length_cons, List.length_nil, Nat.reduceAdd, Nat.reduceSub, Array.replicate_succ, Array.replicate_zero, List.push_toArray, List.append_toArray, List.nil_append, List.cons_append]
    gi_wp2_with (first | (refine ⟨trivial, ?_⟩; gi_at_call 48; refine (callsIn_wide.2 HL.out).mono ?_; rintro e w2 ⟨rfl, hb2⟩; obtain ⟨hcl, hfz⟩ := bcell hb2) | (refine ⟨trivial, ?_⟩; gi_at_call 49; refine (callsIn_wide.2 (rules_any _)).mono ?_; rintro e w3 ⟨bm, rfl, hru, hb3, hbm⟩) | (refine ⟨trivial, ?_⟩; gi_at_call 50; refine (callsIn_wide.2 (nodes_any _ _)).mono ?_; rintro e w' ⟨rfl, rfl⟩))
    have hsw : w.heap.size + 2 ≤ w2.heap.size := by have := hb2.size; simp at this; omega
    have hb02 : Below w.heap.size w w2 := below_seq hbx hb2
    have hb03 : Below w.heap.size w w3 := below_seq hb02 hb3
    have hs3 := hb3.size
    have hbel : Below w.heap.size w ((w3.alloc (.cells #[.map (some bm)] 61)).alloc (.cells #[.pointer (some ⟨w.heap.size, 0, none⟩)] 60)) := below_seq hb03 (box2_below w3 _ _)
    have hbel2 : Below (w.heap.size + 2) ((w.alloc (cell6 t.k t.p t.n t.s lv kv)).alloc (.cells #[.int .i64 0] 28)) ((w3.alloc (.cells #[.map (some bm)] 61)).alloc (.cells #[.pointer (some ⟨w.heap.size, 0, none⟩)] 60)) :=
      (hb2.mono (by simp)).trans ((hb3.mono hsw).trans ((box2_below w3 _ _).mono (by omega)))
    have hr0 : ((w3.alloc (.cells #[.map (some bm)] 61)).alloc (.cells #[.pointer (some ⟨w.heap.size, 0, none⟩)] 60)).heap[w.heap.size + 1]? = some (.cells #[.int .i64 0] 28 (0, 0)) :=
      (hbel2.block (w.heap.size + 1) (by omega)).trans (by have h := World.alloc_heap_new (w.alloc (cell6 t.k t.p t.n t.s lv kv)) (.cells #[.int .i64 0] 28); rw [World.size_alloc] at h; exact h)
    have hm0 : ((w3.alloc (.cells #[.map (some bm)] 61)).alloc (.cells #[.pointer (some ⟨w.heap.size, 0, none⟩)] 60)).heap[w3.heap.size]? = some (.cells #[.map (some bm)] 61 (0, 0)) :=
      (Below.heap_alloc _ _ _ (by simp)).trans (World.alloc_heap_new w3 _)
    have hp0 : ((w3.alloc (.cells #[.map (some bm)] 61)).alloc (.cells #[.pointer (some ⟨w.heap.size, 0, none⟩)] 60)).cell? ⟨w3.heap.size + 1, 0, none⟩ = some (.pointer (some ⟨w.heap.size, 0, none⟩)) := by
      have h := blk_cell (w := w3.alloc (.cells #[.map (some bm)] 61)) (cs := #[.pointer (some ⟨w.heap.size, 0, none⟩)]) (t := 60) (Below.refl _ _) 0 rfl
      rw [World.size_alloc] at h; exact h
    have hty0 := hty.keep ((hbel2.keeps'.mono (fun k h => h.elim (fun h => by have := hB k h; omega) (fun h => by omega) : ∀ k, (B k ∨ k = w.heap.size) → k < w.heap.size + 2)))
    have hru0 : RulesIn ((w3.alloc (.cells #[.map (some bm)] 61)).alloc (.cells #[.pointer (some ⟨w.heap.size, 0, none⟩)] 60)) bm := MapIs.below hru (box2_below w3 _ _) (MapIs.lt hru)
    have hen0 : Env E ((w3.alloc (.cells #[.map (some bm)] 61)).alloc (.cells #[.pointer (some ⟨w.heap.size, 0, none⟩)] 60)) := he.to hbel
    have hbml := MapIs.lt hru
    have hsz0 : ((w3.alloc (.cells #[.map (some bm)] 61)).alloc (.cells #[.pointer (some ⟨w.heap.size, 0, none⟩)] 60)).heap.size = w3.heap.size + 2 := by simp
    obtain ⟨W0, hW0⟩ : ∃ W0, ((w3.alloc (.cells #[.map (some bm)] 61)).alloc (.cells #[.pointer (some ⟨w.heap.size, 0, none⟩)] 60)) = W0 := ⟨_, rfl⟩
    rw [hW0] at hbel hr0 hm0 hp0 hty0 hru0 hen0 hsz0 ⊢
    obtain ⟨m3, hm3⟩ : ∃ m3, w3.heap.size = m3 := ⟨_, rfl⟩
    rw [hm3] at hm0 hp0 hsz0 hs3 hbml ⊢
    clear hW0 hbel2 hru hb3 hb03 hb02 hb2 hty hS hcl hfz h6 hbx hm3
    have hX : ∀ k, (fun _ : Nat => False) k → ¬ (B k ∨ k = w.heap.size) ∧ k < W0.heap.size := fun k e => e.elim
    have hS0 : ∀ k, (B k ∨ k = w.heap.size) → k < W0.heap.size := fun k h => h.elim (fun h => by have := hB k h; omega) (fun h => by omega)
    have hEs := he.size
    refine wpIn_range_told rfl h1 (gf := 81) (lb := #[.pointer (some ⟨m3 + 1, 0, none⟩)]) rfl trivial (enters_of Tryd.func81 (by kernel_rfl) rfl)
      (nodes_fine (n - 1) (m3 + 1) w.heap.size 0 t (fun k => B k ∨ k = w.heap.size) (fun _ => False) W0 hX hS0 (by omega) hp0 hty0 hdep hf) (fun h g => KV.trans h g) (fun W l o o' _ h ho _ => KV.of_cells (by simp) (cellsKept_put h ho)) (fun x A B h hp => ⟨Px.kept h hp.1, hp.2⟩) (Below.refl _ _) (fun _ => rfl)
      (fun pre W => ((W.heap[w.heap.size + 1]? = some (.cells #[.int .i64 0] 28 (0, 0)) ∧ W.heap[m3]? = some (.cells #[.map (some bm)] 61 (0, 0))) ∧ (RulesIn W bm ∧ Env E W)) ∧ (firstE (pre.map Nd.g) = 0 ∧ Below w.heap.size w W))
      (fun c pre W => ((c = .ret ∧ firstE (pre.map Nd.g) ≠ 0) ∧ W.heap[w.heap.size + 1]? = some (.cells #[.int .i64 (firstE (pre.map Nd.g))] 28 (0, 0))) ∧ Below w.heap.size w W)
      ((((abides_boxed (by omega) _ (fun _ => .int .i64 0)).and (abides_boxed (by omega) _ (fun _ => .map (some bm)))).and ((abides_rules (by omega)).and (abides_env (by omega)))).and ((abidesAll_pure _ _).and (abidesAll_below (by omega) (Nat.le_refl _))))
      (fun c => (((abidesAll_pure _ _).and (abides_boxed (by omega) _ (fun pre : List Nd => .int .i64 (firstE (pre.map Nd.g))))).and (abidesAll_below (by omega) (Nat.le_refl _)))) ⟨⟨⟨hr0, hm0⟩, hru0, hen0⟩, rfl, hbel⟩
      (fun x a' W => ∃ b4, PlaceBox 0 x b4 W ∧ a' = { tmps := #[.agg #[.int .i64 t.k, .int .i64 t.p, .string t.n, .int .i64 t.s, lv, kv], .pointer (some ⟨w.heap.size, 0, none⟩), .pointer (some ⟨w.heap.size + 1, 0, none⟩), .pointer (some ⟨m3, 0, none⟩), .pointer (some ⟨b4, 0, none⟩), .pointer (some ⟨x.b, x.o, none⟩), undef, .bool false, .map (some bm),
        .func (.func 81) #[] #[.pointer (some ⟨m3 + 1, 0, none⟩)], .agg #[x.ar, .int .i64 x.kid], .pointer (some ⟨x.b, x.o, none⟩), undef, undef, undef, undef, undef, undef, undef], defers := [] }) (fun x a' A B hk ⟨b3, hb, e⟩ => ⟨b3, hb.kept hk, e⟩) ?assign ?body ?done ?stop
    case assign =>
      intro l pre x W K hi hp hK
      simp only [ndArgs]
      obtain ⟨pa, ac, har⟩ := hp.1.ar_eq
      have HI := Lib.hid hi
      have HP := Lib.hid hp
      clear hi hp
      gi_wp2
      have hck := cellsKept_alloc W (.cells #[.slice pa x.path.length ac, .int .i64 x.kid] 68)
      have hbl := blkBelow W #[.slice pa x.path.length ac, .int .i64 x.kid] 68
      exact hK _ _ ((KeepsOthers.alloc _ _).from _) (KV.of_cells (by simp) hck) ⟨⟨⟨hck _ _ HI.out.1.1.1 rfl, hck _ _ HI.out.1.1.2 rfl⟩, MapIs.below HI.out.1.2.1 hbl (MapIs.lt HI.out.1.2.1), HI.out.1.2.2.to hbl⟩, HI.out.2.1, below_seq' HI.out.2.2 hbl⟩ ⟨Px.kept hck HP.out.1, HP.out.2⟩ ⟨W.heap.size, ⟨Nat.zero_le _, by rw [har]; exact World.alloc_heap_new W _⟩, by rw [har]⟩
    case body =>
      rintro l pre x a' W hl _ ⟨⟨⟨hr, hm⟩, hru, hen⟩, hfe, hbw⟩ ⟨hpx, hfx⟩ ⟨b3, ⟨_, hpb⟩, rfl⟩
      obtain ⟨pa, ac, har⟩ := hpx.ar_eq
      have hlW := (Array.getElem?_eq_some_iff.1 hm).1
      have hSW : Low (fun k => B k ∨ k = w.heap.size) W := fun k h => h.elim (fun h => by have := hB k h; omega) (fun h => by omega)
      obtain ⟨v, hv⟩ : ∃ v, nodeErr x.path x.kid x.ty = v := ⟨_, rfl⟩
      have hrow := hpx.1
      rw [har] at hpb hrow ⊢
      have HN := Lib.hid (nodeError_is W0.heap.size bm E _ x.path x.ty x.kid pa x.path.length ac x.b x.o v hv W hSW hen hru hrow hfx hpx.2.1 hpx.2.2)
      have HF : Hid (firstE ((pre ++ [x]).map Nd.g) = v) := Lib.hid (by rw [List.map_append, List.map_cons, List.map_nil, firstE_snoc _ _ hfe]; exact hv)
      have c0 : W.cell? ⟨m3, 0, none⟩ = some (.map (some bm)) := by simp [World.cell?, hm]
      have r0 : W.cell? ⟨w.heap.size + 1, 0, none⟩ = some (.int .i64 0) := by simp [World.cell?, hr]
      have r1 : W.frozen? ⟨w.heap.size + 1, 0, none⟩ = false := by simp [World.frozen?, hr]
      have d0 : W.cell? ⟨b3, 0, none⟩ = some (.slice pa x.path.length ac) := by simp [World.cell?, hpb]
      have d1 : W.cell? ⟨b3, 1, none⟩ = some (.int .i64 x.kid) := by simp [World.cell?, hpb]
      have hrl := (Array.getElem?_eq_some_iff.1 hr).1
      have HR := Lib.hid hr
      have HM := Lib.hid hm
      have HRU := Lib.hid hru
      have HEN := Lib.hid hen
      clear hr hm hru hen hpx hfx har hv hfe hpb hrow
      by_cases h0 : v = 0
      · subst h0
        gi_wp2_with (refine ⟨trivial, ⟨fun h => (by cases h), ?_⟩⟩; refine (CallsIn.inRound l (callsIn_wide.2 HN.out)).mono ?_; rintro e w5 ⟨rfl, hb5⟩)
        refine ⟨(keepsOthers_below hb5).from _, KV.of_below hb5, ⟨⟨⟨(hb5.block _ hrl).trans HR.out, (hb5.block _ hlW).trans HM.out⟩, MapIs.below HRU.out hb5 (MapIs.lt HRU.out), HEN.out.to hb5⟩, HF.out, below_seq hbw hb5⟩⟩
      · have h0' : (v != 0) = true := by simpa using h0
        gi_wp2_with (refine ⟨trivial, ⟨fun h => (by cases h), ?_⟩⟩; refine (CallsIn.inRound l (callsIn_wide.2 HN.out)).mono ?_; rintro e w5 ⟨rfl, hb5⟩; obtain ⟨hcl, hfz⟩ := bcell hb5)
        refine ⟨((keepsOthers_below hb5).trans (KeepsOthers.setCell _ _ _)).from _, ⟨⟨rfl, by rw [HF.out]; exact h0⟩, ?_⟩, (below_seq hbw hb5).setCell (p := ⟨w.heap.size + 1, 0, none⟩) (by simp) _⟩
        rw [HF.out]
        exact set_block ((hb5.block _ hrl).trans HR.out) 0 _
    case done =>
      rintro D ys W hD hys ⟨⟨⟨hr, _⟩, _⟩, hfe, hbw⟩ hK
      have hv : firstE (preT [] 0 t) = 0 := by rw [← hys]; exact hfe
      have r0 : W.cell? ⟨w.heap.size + 1, 0, none⟩ = some (.int .i64 0) := by simp [World.cell?, hr]
      have r1 : W.frozen? ⟨w.heap.size + 1, 0, none⟩ = false := by simp [World.frozen?, hr]
      have HK := Lib.hid hK
      have HR := Lib.hid hr
      have HV := Lib.hid hv
      clear hys hK hr hv hfe
      gi_wp2
      have k3 : (W.setCell ⟨w.heap.size + 1, 0, none⟩ (.int .i64 0)).heap[D]? = some (.deferred (some [])) := (Below.heap_setCell _ _ _ D (by simp; omega)).trans HK.out
      refine ⟨by simp, .inl ⟨_, _, rfl, run_takeDeferred k3, ?_⟩⟩
      have k1 : ((W.setCell ⟨w.heap.size + 1, 0, none⟩ (.int .i64 0)).putObj D (.deferred none)).heap[w.heap.size + 1]? = some (.cells #[.int .i64 0] 28 (0, 0)) := (World.putObj_heap_other (by omega)).trans (set_block HR.out 0 _)
      have c1 : ((W.setCell ⟨w.heap.size + 1, 0, none⟩ (.int .i64 0)).putObj D (.deferred none)).cell? ⟨w.heap.size + 1, 0, none⟩ = some (.int .i64 0) := by simp [World.cell?, k1]
      have k7 := (hbw.setCell (p := ⟨w.heap.size + 1, 0, none⟩) (by simp) (.int .i64 0)).trans (belowK_b (w := w) (Nat.le_refl _) _ D _ (.deferred none) (by omega) k3 rfl rfl)
      generalize (W.setCell ⟨w.heap.size + 1, 0, none⟩ (.int .i64 0)).putObj D (.deferred none) = W4 at *
      exact ⟨.int .i64 0, by simp [results, Tryd.results12, go_sem, c1], by rw [HV.out], k7⟩
    case stop =>
      rintro D c pre W hD hpre ⟨⟨⟨rfl, hne⟩, hr⟩, hbw⟩ hK
      have hv : firstE (preT [] 0 t) = firstE (pre.map Nd.g) := firstE_prefix hpre hne
      obtain ⟨v, hvv⟩ : ∃ v, firstE (pre.map Nd.g) = v := ⟨_, rfl⟩
      rw [hvv] at hv hr
      have HV := Lib.hid hv
      clear hv hvv hpre hne
      gi_wp2
      refine ⟨by simp, .inl ⟨_, _, rfl, run_takeDeferred hK, ?_⟩⟩
      have k1 : (W.putObj D (.deferred none)).heap[w.heap.size + 1]? = some (.cells #[.int .i64 v] 28 (0, 0)) := (World.putObj_heap_other (by omega)).trans hr
      have c1 : (W.putObj D (.deferred none)).cell? ⟨w.heap.size + 1, 0, none⟩ = some (.int .i64 v) := by simp [World.cell?, k1]
      have k7 := hbw.trans (belowK_b (w := w) (Nat.le_refl _) W D _ (.deferred none) (by omega) hK rfl rfl)
      generalize W.putObj D (.deferred none) = W4 at *
      exact ⟨.int .i64 v, by simp [results, Tryd.results12, go_sem, c1], by rw [HV.out], k7⟩

theorem tright_any (E : Nat) (B : Nat → Prop) (t : Ty) (hf : t.fine) (hdep : t.depth ≤ 1000) (v : Value) (w : World) (hB : Low B w) (he : Env E w) (hv : TyVal B w v t) :
    Calls Tryd.prog 12 #[v] w fun e w' => e = .returned (.int .i64 (rightE t)) ∧ Below w.heap.size w w' := by
  have hv' := hv
  obtain ⟨lv, kv, rfl, _⟩ := hv'
  exact callsIn_wide.1 (tright_in 3 (by omega) E B t hf hdep lv kv w hB he hv)

end Go.Proofs.YtliijbcgkkiekaaDoor

/- Types: a value that is a type, anywhere in memory; the law's send and loop. -/
namespace Go.Proofs.YtliijbcgkkiekaaDoor
open Go.RowKit Go.Deep Go.Shelf

/-- A value is a type that lies in w. -/
def Lies (w : World) (v : Value) (t : Ty) : Prop := TyVal (fun k => k < w.heap.size) w v t
theorem Lies.to {w w' : World} {v : Value} {t : Ty} (h : Lies w v t) (hb : Below w.heap.size w w') : Lies w' v t :=
  TyVal.mono (fun _ hk => Nat.lt_of_lt_of_le hk hb.size) (TyVal.to (fun _ hk => hk) hb h)
theorem lies_low (w : World) : Low (fun k => k < w.heap.size) w := fun _ h => h
/-- A type is returned that lies in new memory and in B. -/
def TyIn (B : Nat → Prop) (w : World) (g : Ty) (e : Ending) (w' : World) : Prop :=
  ∃ la ln lc ka kn kc, e = .returned (.agg #[.int .i64 g.k, .int .i64 g.p, .string g.n, .int .i64 g.s, .slice la ln lc, .slice ka kn kc]) ∧
    TyVal (fun k => B k ∨ Fresh w.heap.size w'.heap.size k) w' (.agg #[.int .i64 g.k, .int .i64 g.p, .string g.n, .int .i64 g.s, .slice la ln lc, .slice ka kn kc]) g ∧ Below w.heap.size w w'
/-- A type is returned. -/
def TyOut (w : World) (g : Ty) (e : Ending) (w' : World) : Prop :=
  ∃ la ln lc ka kn kc, e = .returned (.agg #[.int .i64 g.k, .int .i64 g.p, .string g.n, .int .i64 g.s, .slice la ln lc, .slice ka kn kc]) ∧
    Lies w' (.agg #[.int .i64 g.k, .int .i64 g.p, .string g.n, .int .i64 g.s, .slice la ln lc, .slice ka kn kc]) g ∧ Below w.heap.size w w'
theorem TyRet.out {w : World} {g : Ty} {e : Ending} {w' : World} (h : TyRet w g e w') : TyOut w g e w' := by
  obtain ⟨la, ln, lc, ka, kn, kc, h1, h2, h3⟩ := h
  exact ⟨la, ln, lc, ka, kn, kc, h1, TyVal.mono (fun k hk => hk.2) h2, h3⟩

def tT : ByteArray := ⟨#[116]⟩
def e0 : ByteArray := ⟨#[]⟩
def leafT (k : Int) : Ty := .mk k 0 e0 0 [] []
def varT (s : Int) : Ty := .mk 9 0 tT s [] []
def sendT (p : Int) (r : Ty) : Ty := .mk 4 p e0 0 [] [leafT 1, r]
def loopT (p k : Int) : Ty := .mk 8 0 tT 0 [] [sendT p (varT k)]
def bareT : Ty := .mk 8 0 tT 0 [] [varT 0]

theorem nil_strs (B : Nat → Prop) (w : World) : StrSl B w (.slice none 0 0) [] := ⟨.inl ⟨⟨_, _, rfl⟩, rfl⟩, by simp [maxLen], fun s h => by cases h⟩
theorem nil_tys (B : Nat → Prop) (w : World) : TySl B w (.slice none 0 0) [] := ⟨.inl ⟨⟨_, _, rfl⟩, rfl⟩, by simp [maxLen]⟩
theorem val_leaf (B : Nat → Prop) (w : World) (k p s : Int) (n : ByteArray) (hn : n.size ≤ maxLen) : TyVal B w (.agg #[.int .i64 k, .int .i64 p, .string n, .int .i64 s, .slice none 0 0, .slice none 0 0]) (.mk k p n s [] []) :=
  ⟨_, _, rfl, hn, nil_strs _ _, nil_tys _ _⟩
theorem lies_leaf (w : World) (k p s : Int) (n : ByteArray) (hn : n.size ≤ maxLen) : Lies w (.agg #[.int .i64 k, .int .i64 p, .string n, .int .i64 s, .slice none 0 0, .slice none 0 0]) (.mk k p n s [] []) :=
  ⟨_, _, rfl, hn, nil_strs _ _, nil_tys _ _⟩
theorem lies_lies {w : World} {k p s : Int} {n : ByteArray} {lv kv : Value} {t : Ty} (h : Lies w (.agg #[.int .i64 k, .int .i64 p, .string n, .int .i64 s, lv, kv]) t) : t.k = k ∧ t.p = p ∧ t.n = n ∧ t.s = s ∧ n.size ≤ maxLen ∧ StrSl (fun k => k < w.heap.size) w lv t.ls ∧ TySl (fun k => k < w.heap.size) w kv t.ts := by
  obtain ⟨lv', kv', e, h1, h2, h3⟩ := h
  simp only [Value.agg.injEq, Array.mk.injEq, List.cons.injEq, Value.int.injEq, Value.string.injEq, and_true, true_and] at e
  obtain ⟨e1, e2, e3, e4, rfl, rfl⟩ := e
  exact ⟨e1.symm, e2.symm, e3.symm, e4.symm, by rw [e3]; exact h1, h2, h3⟩
theorem alloc_lt {w w2 : World} {o : Obj} (hb : Below (w.alloc o).heap.size (w.alloc o) w2) : w.heap.size < w2.heap.size := by
  have := hb.size; simp at this; omega
theorem cell_of {W : World} {b : Nat} {cs : Array Value} {t : TypeId} {fr : Nat × Nat} (h : W.heap[b]? = some (.cells cs t fr)) (j : Nat) : W.cell? ⟨b, j, none⟩ = cs[j]? := by simp [World.cell?, h]
/-- The cells of an int and another type. -/
def send12 (k p s : Int) (n : ByteArray) (lv kv : Value) : Array Value := #[.int .i64 1, .int .i64 0, .string ⟨#[]⟩, .int .i64 0, .slice none 0 0, .slice none 0 0, .int .i64 k, .int .i64 p, .string n, .int .i64 s, lv, kv]
theorem send_rest {B : Nat → Prop} {W : World} {p : Int} {r : Ty} {lv kv : Value} (hB : Low B W) (h : TyVal B W (.agg #[.int .i64 r.k, .int .i64 r.p, .string r.n, .int .i64 r.s, lv, kv]) r) :
    TyVal (fun k => B k ∨ k = W.heap.size) (W.alloc (.cells (send12 r.k r.p r.s r.n lv kv) 25)) (.agg #[.int .i64 4, .int .i64 p, .string ⟨#[]⟩, .int .i64 0, .slice none 0 0, .slice (some ⟨W.heap.size, 0, none⟩) 2 2]) (sendT p r) := by
  have hb := blkBelow W (send12 r.k r.p r.s r.n lv kv) 25
  have hw : TyVal (fun k => B k ∨ k = W.heap.size) _ _ _ := (h.to hB hb).mono (fun _ h => .inl h)
  have hc : ∀ (j : Nat) (v : Value), (send12 r.k r.p r.s r.n lv kv)[j]? = some v → (W.alloc (.cells (send12 r.k r.p r.s r.n lv kv) 25)).cell? ⟨W.heap.size, j, none⟩ = some v := fun j v hv => blk_cell (Below.refl _ _) j hv
  refine ⟨_, _, rfl, (by decide : (⟨#[]⟩ : ByteArray).size ≤ maxLen), nil_strs _ _, ⟨.inr ⟨W.heap.size, 0, 2, rfl, .inr rfl, ?_⟩, by simp [sendT, Ty.ts, maxLen]⟩⟩
  show TyAt _ _ (leafT 1) _ _ ∧ TyAt _ _ r _ _ ∧ True
  exact ⟨tyAt_of (.inr rfl) (hc 0 _ rfl) (hc 1 _ rfl) (hc 2 _ rfl) (hc 3 _ rfl) (hc 4 _ rfl) (hc 5 _ rfl) (val_leaf _ _ 1 0 0 e0 (by decide)), tyAt_of (.inr rfl) (hc 6 _ rfl) (hc 7 _ rfl) (hc 8 _ rfl) (hc 9 _ rfl) (hc 10 _ rfl) (hc 11 _ rfl) hw, trivial⟩

/-- A type that names one Kid in a block of its own. -/
theorem rec_val {B : Nat → Prop} {W : World} {k p s : Int} {n : ByteArray} {u : Ty} {lv kv : Value} (hn : n.size ≤ maxLen) (hB : Low B W) (h : TyVal B W (.agg #[.int .i64 u.k, .int .i64 u.p, .string u.n, .int .i64 u.s, lv, kv]) u) :
    TyVal (fun j => B j ∨ j = W.heap.size) (W.alloc (.cells #[.int .i64 u.k, .int .i64 u.p, .string u.n, .int .i64 u.s, lv, kv] 25)) (.agg #[.int .i64 k, .int .i64 p, .string n, .int .i64 s, .slice none 0 0, .slice (some ⟨W.heap.size, 0, none⟩) 1 1]) (.mk k p n s [] [u]) := by
  have hb := blkBelow W #[.int .i64 u.k, .int .i64 u.p, .string u.n, .int .i64 u.s, lv, kv] 25
  have hw : TyVal (fun j => B j ∨ j = W.heap.size) _ _ _ := (h.to hB hb).mono (fun _ h => .inl h)
  have hc : ∀ (j : Nat) (v : Value), #[.int .i64 u.k, .int .i64 u.p, .string u.n, .int .i64 u.s, lv, kv][j]? = some v → (W.alloc (.cells #[.int .i64 u.k, .int .i64 u.p, .string u.n, .int .i64 u.s, lv, kv] 25)).cell? ⟨W.heap.size, j, none⟩ = some v := fun j v hv => blk_cell (Below.refl _ _) j hv
  refine ⟨_, _, rfl, hn, nil_strs _ _, ⟨.inr ⟨W.heap.size, 0, 1, rfl, .inr rfl, ?_⟩, by simp [Ty.ts, maxLen]⟩⟩
  show TyAt _ _ u _ _ ∧ True
  exact ⟨tyAt_of (.inr rfl) (hc 0 _ rfl) (hc 1 _ rfl) (hc 2 _ rfl) (hc 3 _ rfl) (hc 4 _ rfl) (hc 5 _ rfl) hw, trivial⟩

set_option maxHeartbeats 1000000 in
set_option maxRecDepth 100000 in
theorem send_any (B : Nat → Prop) (p : Int) (r : Ty) (v : Value) (w : World) (hB : Low B w) (h : TyVal B w v r) : Calls Tryd.prog 44 #[.int .i64 p, v] w (TyIn B w (sendT p r)) := by
  have h' := h
  obtain ⟨lv, kv, rfl, hn, hl, hk⟩ := h'
  obtain ⟨pa, len, c, rfl, _, _, _⟩ := hk.open
  obtain ⟨la, ln, lc, rfl, _, _, _⟩ := hl.open
  have HL := Lib.hid h
  clear h hl hk hn
  go_enter Tryd.func44, Tryd.ntmps44
  go_wp2_with fail
  obtain ⟨W1, hW1⟩ : ∃ W1, ((w.alloc (.cells #[.int .i64 r.k, .int .i64 r.p, .string r.n, .int .i64 r.s, .slice la ln lc, .slice pa len c] 25)).alloc (.cells #[.int .i64 4, .int .i64 p, .string ⟨#[]⟩, .int .i64 0, .slice none 0 0, .slice (some ⟨w.heap.size + 1 + 1, 0, none⟩) 2 2] 25)) = W1 := ⟨_, rfl⟩
  rw [hW1]
  have hs : w.heap.size + 1 + 1 = W1.heap.size := by rw [← hW1]; simp
  have hb1 : Below w.heap.size w W1 := by rw [← hW1]; exact box2_below w _ _
  have hr := send_rest (p := p) (hB.le hb1.size) (HL.out.to hB hb1)
  have hbx := below_seq hb1 (blkBelow W1 (send12 r.k r.p r.s r.n (.slice la ln lc) (.slice pa len c)) 25)
  have k1 : (W1.alloc (.cells (send12 r.k r.p r.s r.n (.slice la ln lc) (.slice pa len c)) 25)).heap[w.heap.size + 1]? = some (.cells #[.int .i64 4, .int .i64 p, .string ⟨#[]⟩, .int .i64 0, .slice none 0 0, .slice (some ⟨w.heap.size + 1 + 1, 0, none⟩) 2 2] 25 (0, 0)) := by
    refine (Below.heap_alloc _ _ _ (by omega)).trans ?_
    rw [← hW1]
    have h := World.alloc_heap_new (w.alloc (.cells #[.int .i64 r.k, .int .i64 r.p, .string r.n, .int .i64 r.s, .slice la ln lc, .slice pa len c] 25)) (.cells #[.int .i64 4, .int .i64 p, .string ⟨#[]⟩, .int .i64 0, .slice none 0 0, .slice (some ⟨w.heap.size + 1 + 1, 0, none⟩) 2 2] 25)
    rw [World.size_alloc] at h
    exact h
  have hs2 : W1.heap.size < (W1.alloc (.cells (send12 r.k r.p r.s r.n (.slice la ln lc) (.slice pa len c)) 25)).heap.size := by simp
  have hr2 : TyVal (fun k => B k ∨ Fresh w.heap.size (W1.alloc (.cells (send12 r.k r.p r.s r.n (.slice la ln lc) (.slice pa len c)) 25)).heap.size k) _ _ _ := hr.mono (fun k h => h.imp id (fun e => ⟨by omega, by rw [e]; exact hs2⟩))
  rw [hs] at k1 ⊢
  have c0 := cell_of k1 0
  have c1 := cell_of k1 1
  have c2 := cell_of k1 2
  have c3 := cell_of k1 3
  have c4 := cell_of k1 4
  have c5 := cell_of k1 5
  simp at c0 c1 c2 c3 c4 c5
  unfold send12 at *
  generalize W1.alloc _ = W2 at *
  exact bodyPost_ret (v := .agg #[.int .i64 4, .int .i64 p, .string ⟨#[]⟩, .int .i64 0, .slice none 0 0, .slice (some ⟨W1.heap.size, 0, none⟩) 2 2]) (by simp [results, Tryd.results44, go_sem, c0, c1, c2, c3, c4, c5]) rfl ⟨_, _, _, _, _, _, rfl, hr2, hbx⟩

set_option maxHeartbeats 1000000 in
set_option maxRecDepth 100000 in
theorem loop_any (p k : Int) (w : World) : Calls Tryd.prog 43 #[.int .i64 p, .int .i64 k] w (TyOut w (loopT p k)) := by
  have HS : Hid (∀ W, Calls Tryd.prog 44 #[.int .i64 p, .agg #[.int .i64 9, .int .i64 0, .string ⟨#[116]⟩, .int .i64 k, .slice none 0 0, .slice none 0 0]] W fun e w' => ∃ la ln lc ka kn kc, e = .returned (.agg #[.int .i64 4, .int .i64 p, .string ⟨#[]⟩, .int .i64 0, .slice la ln lc, .slice ka kn kc]) ∧
      TyVal (fun k => False ∨ Fresh W.heap.size w'.heap.size k) w' (.agg #[.int .i64 4, .int .i64 p, .string ⟨#[]⟩, .int .i64 0, .slice la ln lc, .slice ka kn kc]) (sendT p (varT k)) ∧ Below W.heap.size W w') := Lib.hid (fun W => send_any (fun _ => False) p (varT k) (.agg #[.int .i64 9, .int .i64 0, .string ⟨#[116]⟩, .int .i64 k, .slice none 0 0, .slice none 0 0]) W (fun _ h => h.elim) (val_leaf _ W 9 0 k tT (by decide)))
  go_enter Tryd.func43, Tryd.ntmps43
  go_wp2_with (go_at_call 44; refine (HS.out _).mono ?_; rintro e w2 ⟨la, ln, lc, ka, kn, kc, rfl, hv2, hb2⟩; obtain ⟨⟨d0, d1, d2, d3, d4, d5⟩, hf6⟩ := ((Six.new w (.int .i64 0) (.int .i64 0) (.string ⟨#[]⟩) (.int .i64 0) (.slice none 0 0) (.slice none 0 0)).to hb2).cells; have hq2 := alloc_lt hb2; replace hv2 := Lib.hid hv2)
  have h6 := ((Six.new w (.int .i64 0) (.int .i64 0) (.string ⟨#[]⟩) (.int .i64 0) (.slice none 0 0) (.slice none 0 0)).to hb2).fill (.int .i64 8) (.int .i64 0) (.string ⟨#[116]⟩) (.int .i64 0) (.slice none 0 0) (.slice (some ⟨w2.heap.size, 0, none⟩) 1 1)
  have hsz : (w2.setCells w.heap.size 0 [.int .i64 8, .int .i64 0, .string ⟨#[116]⟩, .int .i64 0, .slice none 0 0, .slice (some ⟨w2.heap.size, 0, none⟩) 1 1]).heap.size = w2.heap.size := size_setCells _ _ _ _
  have hv5 : TyVal (fun k => False ∨ Fresh (w.heap.size + 1) w2.heap.size k) (w2.setCells w.heap.size 0 [.int .i64 8, .int .i64 0, .string ⟨#[116]⟩, .int .i64 0, .slice none 0 0, .slice (some ⟨w2.heap.size, 0, none⟩) 1 1]) (.agg #[.int .i64 4, .int .i64 p, .string ⟨#[]⟩, .int .i64 0, .slice la ln lc, .slice ka kn kc]) (sendT p (varT k)) := by
    have h := hv2.out
    rw [World.size_alloc] at h
    refine h.keep (fun j o hj ho _ => (heap_setCells_other (g := w.heap.size) ?_ _ _ _).trans ho)
    rcases hj with hj | hj
    · exact hj.elim
    · have := hj.1; omega
  have hb5 : Below w.heap.size w (w2.setCells w.heap.size 0 [.int .i64 8, .int .i64 0, .string ⟨#[116]⟩, .int .i64 0, .slice none 0 0, .slice (some ⟨w2.heap.size, 0, none⟩) 1 1]) := (below_seq (blkBelow w _ _) hb2).trans (below_setCells _ (Nat.le_refl _) _ _ _)
  rw [setCells6] at hsz hv5 hb5
  simp only [Nat.zero_add] at hsz hv5 hb5
  generalize (((((w2.setCell _ _).setCell _ _).setCell _ _).setCell _ _).setCell _ _).setCell _ _ = W5 at *
  rw [← hsz] at h6 ⊢
  have hr := rec_val (k := 8) (p := 0) (s := 0) (u := sendT p (varT k)) (lv := .slice la ln lc) (kv := .slice ka kn kc) (n := tT) (by decide) (fun j hj => hj.elim (fun h => h.elim) (fun h => by rw [hsz]; exact h.2) : Low (fun k => False ∨ Fresh (w.heap.size + 1) w2.heap.size k) W5) hv5
  have k6 := h6.to (blkBelow W5 #[.int .i64 4, .int .i64 p, .string ⟨#[]⟩, .int .i64 0, .slice la ln lc, .slice ka kn kc] 25)
  have hbx := hb5.trans ((blkBelow W5 #[.int .i64 4, .int .i64 p, .string ⟨#[]⟩, .int .i64 0, .slice la ln lc, .slice ka kn kc] 25).mono hb5.size)
  obtain ⟨⟨c0, c1, c2, c3, c4, c5⟩, _⟩ := k6.cells
  have hlt : W5.heap.size < (W5.alloc (.cells #[.int .i64 4, .int .i64 p, .string ⟨#[]⟩, .int .i64 0, .slice la ln lc, .slice ka kn kc] 25)).heap.size := by simp
  have hl : Lies (W5.alloc (.cells #[.int .i64 4, .int .i64 p, .string ⟨#[]⟩, .int .i64 0, .slice la ln lc, .slice ka kn kc] 25)) (.agg #[.int .i64 8, .int .i64 0, .string ⟨#[116]⟩, .int .i64 0, .slice none 0 0, .slice (some ⟨W5.heap.size, 0, none⟩) 1 1]) (loopT p k) := hr.mono (fun j hj => by
    rcases hj with (hj | hj) | hj
    · exact hj.elim
    · have := hj.2; omega
    · omega)
  clear h6 hv5 hr k6 hb2 hv2 d0 d1 d2 d3 d4 d5 hf6
  generalize W5.alloc _ = W6 at *
  exact bodyPost_ret (v := .agg #[.int .i64 8, .int .i64 0, .string ⟨#[116]⟩, .int .i64 0, .slice none 0 0, .slice (some ⟨W5.heap.size, 0, none⟩) 1 1]) (by simp [results, Tryd.results43, go_sem, c0, c1, c2, c3, c4, c5]) rfl ⟨_, _, _, _, _, _, rfl, hl, hbx⟩

end Go.Proofs.YtliijbcgkkiekaaDoor

/- Types: what the law's fixed types are. -/
namespace Go.Proofs.YtliijbcgkkiekaaDoor
open Go.RowKit

theorem name_t : nameB tT = true := by decide +kernel
theorem empty_e : e0.toList.isEmpty = true := by decide +kernel
theorem right_loop : rightE (loopT 0 2) = 0 := by decide +kernel
theorem right_var : rightE (varT 0) = 4 := by decide +kernel
theorem right_bare : rightE bareT = 3 := by decide +kernel
theorem right_int : rightE (leafT 1) = 0 := by decide +kernel
theorem right_send : rightE (sendT 0 (leafT 1)) = 3 := by decide +kernel
theorem unfold_loop : Ty.put tT (loopT 0 2) (sendT 0 (varT 2)) = sendT 0 (loopT 2 2) := by rfl
theorem raise_loop : (loopT 0 2).raise 3 = loopT 3 2 := by rfl
theorem size_loop : (loopT 0 2).size = 4 := by rfl
theorem depth_loop : (loopT 0 2).depth = 3 := by rfl
theorem loop_ne_var : loopT 0 2 ≠ varT 0 := by intro h; have := congrArg Ty.k h; simp [loopT, varT, Ty.k] at this

end Go.Proofs.YtliijbcgkkiekaaDoor
