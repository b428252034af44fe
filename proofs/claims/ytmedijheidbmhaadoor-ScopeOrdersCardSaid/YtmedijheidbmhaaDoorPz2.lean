/- Types: the program's nodeError. (and what follows from it) -/
import Derived.Test.YtmedijheidbmhaaDoorPz1
import Derived.Test.YtmedijheidbmhaaDoorPrB
import Derived.Test.YtmedijheidbmhaaDoorPrC

/- Types: the program's nodeError. -/
namespace Go.Proofs.YtmedijheidbmhaaDoor
open Go.RowKit

theorem mayStand_is (D bm : Nat) (S : Nat → Prop) (path : List Ty) (t : Ty) (kid : Int) (pa : Option Addr) (an ac b o : Nat) (m : Bool) (hm : mayStandB path kid t.k = m) (w : World) (hS : Low S w) (hr : RulesAt w bm) (har : ARow D S w (.slice pa an ac) path) (hf : ∀ u ∈ path, In64 u.k) (ht : TyAt S w t b o) (hlen : path.length ≤ 1000) :
    Calls Tryd.prog 86 #[.map (some bm), .agg #[.slice pa an ac, .int .i64 kid], .pointer (some ⟨b, o, none⟩)] w fun e w' => e = .returned (.bool m) ∧ Below w.heap.size w w' := by
  rw [← hm]; exact mayStand_any D bm S path t kid pa an ac b o w hS hr har hf ht hlen
theorem ARow.later {D : Nat} {S : Nat → Prop} {w W : World} {ar : Value} {path : List Ty} (h : ARow D S w ar path) (hS : Low S w) (hW : Below w.heap.size w W) : ARow D S W ar path := by
  refine h.kept (hW.keeps'.mono hS) (fun g o hg ho _ => (hW.block g ?_).trans ho)
  exact (Array.getElem?_eq_some_iff.1 ho).1

set_option maxRecDepth 100000 in
set_option maxHeartbeats 4000000 in
theorem nodeError_any (D bm E : Nat) (S : Nat → Prop) (path : List Ty) (t : Ty) (kid : Int) (pa : Option Addr) (an ac b o : Nat) (w : World) (hS : Low S w) (he : Env E w) (hr : RulesAt w bm) (har : ARow D S w (.slice pa an ac) path) (hf : ∀ u ∈ path, In64 u.k) (hk : In64 t.k) (ht : TyAt S w t b o) (hlen : path.length ≤ 1000) :
    Calls Tryd.prog 73 #[.map (some bm), .agg #[.slice pa an ac, .int .i64 kid], .pointer (some ⟨b, o, none⟩)] w fun e w' => e = .returned (.int .i64 (nodeErr path kid t)) ∧ Below w.heap.size w w' := by
  obtain ⟨hb', hn, ⟨c0, _, c2, _⟩, _⟩ := TyAt.eq.1 ht
  have hb := hS b hb'
  obtain ⟨f, hfs⟩ : ∃ f, t.shape = f := ⟨_, rfl⟩
  obtain ⟨m, hm⟩ : ∃ m, mayStandB path kid t.k = m := ⟨_, rfl⟩
  obtain ⟨kn, hkn⟩ : ∃ kn, knK t.k = kn := ⟨_, rfl⟩
  obtain ⟨a1, ha1⟩ : ∃ x, actB t.k = x := ⟨_, rfl⟩
  obtain ⟨a2, ha2⟩ : ∃ x, r2K t.k = x := ⟨_, rfl⟩
  obtain ⟨a3, ha3⟩ : ∃ x, r3K t.k = x := ⟨_, rfl⟩
  obtain ⟨a4, ha4⟩ : ∃ x, r4K t.k = x := ⟨_, rfl⟩
  obtain ⟨y1, hy1⟩ : ∃ x, kidsK t.k = x := ⟨_, rfl⟩
  obtain ⟨y2, hy2⟩ : ∃ x, paysK t.k = x := ⟨_, rfl⟩
  have hlk := RulesAt.look_ok (MapIs.below hr (blkBelow w #[.slice pa an ac, .int .i64 kid] 115) hr.lt) hk.1 hk.2
  simp only [ruleVal, hkn, ha1, ha2, ha3, ha4, hy1, hy2] at hlk
  have HF : Hid (kn = true → ∀ W, Below w.heap.size w W → Calls Tryd.prog 85 #[.agg #[.bool a1, .bool a2, .bool a3, .bool a4, .int .i64 y1, .int .i64 y2], .pointer (some ⟨b, o, none⟩)] W fun e w' => e = .returned (.bool f) ∧ Below W.heap.size W w') := Lib.hid (fun h W hW => by
    have hsh := fits_shape t (hkn.trans h)
    rw [ha1, ha2, ha3, ha4, hy1, hfs] at hsh
    rw [← hsh]
    exact fits_any S t b o a1 a2 a3 a4 y1 y2 E W (hS.le hW.size) (he.below (hW.mono he.size)) (ht.keep (hW.keeps'.mono hS)))
  have HM : Hid (∀ W, Below w.heap.size w W → Calls Tryd.prog 86 #[.map (some bm), .agg #[.slice pa an ac, .int .i64 kid], .pointer (some ⟨b, o, none⟩)] W fun e w' => e = .returned (.bool m) ∧ Below W.heap.size W w') := Lib.hid (fun W hW =>
    mayStand_is D bm S path t kid pa an ac b o m hm W (hS.le hW.size) (MapIs.below hr hW hr.lt) (har.later hS hW) hf (ht.keep (hW.keeps'.mono hS)) hlen)
  have HV : Hid (∀ W, Below w.heap.size w W → Calls Tryd.prog 87 #[.slice pa an ac, .string t.n] W fun e w' => e = .returned (.int .i64 (vErr t.n path.reverse false)) ∧ Below W.heap.size W w') := Lib.hid (fun W hW =>
    varError_any D S path t.n pa an ac W (hS.le hW.size) (har.later hS hW) hlen)
  have HU : Hid (kn = false → f = false) := Lib.hid (fun h => by rw [← hfs]; exact shape_unknown t (hkn.trans h))
  have HN : Hid (nodeErr path kid t = if f = false ∨ m = false then 3 else if t.k = 9 then vErr t.n path.reverse false else 0) := Lib.hid (by unfold nodeErr; rw [hfs, hm])
  rw [HN.out]
  obtain ⟨v, hv⟩ : ∃ v, vErr t.n path.reverse false = v := ⟨_, rfl⟩
  rw [hv] at HV ⊢
  obtain ⟨k, hkk⟩ : ∃ k, t.k = k := ⟨_, rfl⟩
  rw [hkk] at hlk c0 ⊢
  obtain ⟨s, hss⟩ : ∃ s, t.n = s := ⟨_, rfl⟩
  rw [hss] at HV c2
  clear hfs hm hkn ha1 ha2 ha3 ha4 hy1 hy2 hr har hf hk ht hv hkk hss HN hn
  have hbel := blkBelow w #[.slice pa an ac, .int .i64 kid] 115
  have HB0 := Lib.hid hbel
  clear hbel
  cases kn
  · rw [HU.out rfl, if_pos (.inl rfl)]
    go_enter Tryd.func73, Tryd.ntmps73
    go_wp2_with fail
    go_ret
    exact ⟨rfl, below_seq HB0.out (blkBelow _ _ _)⟩
  · have HF1 := Lib.hid (HF.out rfl)
    clear HF HU
    have HB1 : Hid (∀ o', Below w.heap.size w ((w.alloc (.cells #[.slice pa an ac, .int .i64 kid] 115)).alloc o')) := Lib.hid (fun o' => HB0.out.alloc (by simp) _)
    cases f
    · rw [if_pos (.inl rfl)]
      go_enter Tryd.func73, Tryd.ntmps73
      go_wp2_with (go_at_call 85; refine (HF1.out _ (HB1.out _)).mono ?_; rintro e w2 ⟨rfl, hb2⟩; obtain ⟨hcl, hfz⟩ := bcell hb2)
      go_ret
      exact ⟨rfl, below_seq (HB1.out _) hb2⟩
    · cases m
      · rw [if_pos (.inr rfl)]
        go_enter Tryd.func73, Tryd.ntmps73
        go_wp2_with (first | (go_at_call 85; refine (HF1.out _ (HB1.out _)).mono ?_; rintro e w2 ⟨rfl, hb2⟩; obtain ⟨hcl, hfz⟩ := bcell hb2) | (go_at_call 86; refine (HM.out _ (below_seq (HB1.out _) hb2)).mono ?_; rintro e w3 ⟨rfl, hb3⟩; obtain ⟨hcl3, hfz3⟩ := bcell (below_seq hb2 hb3)))
        go_ret
        exact ⟨rfl, below_seq (HB1.out _) (below_seq hb2 hb3)⟩
      · rw [if_neg (by decide)]
        by_cases h9 : k = 9
        · subst h9
          rw [if_pos rfl]
          go_enter Tryd.func73, Tryd.ntmps73
          go_wp2_with (first | (go_at_call 85; refine (HF1.out _ (HB1.out _)).mono ?_; rintro e w2 ⟨rfl, hb2⟩; obtain ⟨hcl, hfz⟩ := bcell hb2) | (go_at_call 86; refine (HM.out _ (below_seq (HB1.out _) hb2)).mono ?_; rintro e w3 ⟨rfl, hb3⟩; clear hcl hfz; have c3 := ((below_seq (HB1.out _) (below_seq hb2 hb3)).cell (p := ⟨b, o, none⟩) hb).trans c0))
          have hw3 : Below w.heap.size w w3 := below_seq (HB1.out _) (below_seq hb2 hb3)
          have hw4 := below_seq (blkBelow _ _ _) (below_seq hb2 hb3)
          have p1 : ∀ q : Later w3.heap.size w3, q.1.cell? ⟨w.heap.size, 0, none⟩ = some (.slice pa an ac) := fun q => (q.2.cell (p := ⟨w.heap.size, 0, none⟩) (by have := hw4.size; simp at this; simp; omega)).trans ((hw4.cell (p := ⟨w.heap.size, 0, none⟩) (by simp)).trans (blk_cell (Below.refl _ _) 0 rfl))
          have p2 : ∀ q : Later w3.heap.size w3, q.1.cell? ⟨b, o + 2, none⟩ = some (.string s) := fun q => (q.2.cell (p := ⟨b, _, none⟩) (by have := hw3.size; simp; omega)).trans ((hw3.cell (p := ⟨b, _, none⟩) hb).trans c2)
          clear c3
          refine wp_region_later w3.heap.size w3 (by kernel_rfl) (by kernel_rfl) (Below.refl _ _) ?_
          repeat (go_big_quiet_step ((go_at_call 87; exact later_call _ (Nat.le_refl _) (HV.out _ (hw3.trans (Below.mono (Subtype.property _) hw3.size))))))
          refine wpQuiet_nil ?_
          rintro _ ⟨⟨w5, hb5⟩, rfl⟩
          clear p1 p2
          go_wp2_with fail
          go_ret
          exact ⟨rfl, hw3.trans (hb5.mono hw3.size)⟩
        · have h9' : (k == 9) = false := by simpa using h9
          rw [if_neg h9]
          clear h9
          go_enter Tryd.func73, Tryd.ntmps73
          go_wp2_with (first | (go_at_call 85; refine (HF1.out _ (HB1.out _)).mono ?_; rintro e w2 ⟨rfl, hb2⟩; obtain ⟨hcl, hfz⟩ := bcell hb2) | (go_at_call 86; refine (HM.out _ (below_seq (HB1.out _) hb2)).mono ?_; rintro e w3 ⟨rfl, hb3⟩; clear hcl hfz; have c3 := ((below_seq (HB1.out _) (below_seq hb2 hb3)).cell (p := ⟨b, o, none⟩) hb).trans c0))
          go_ret
          exact ⟨rfl, below_seq (HB1.out _) (below_seq hb2 hb3)⟩

end Go.Proofs.YtmedijheidbmhaaDoor

/- Types: the program's Right. -/
namespace Go.Proofs.YtmedijheidbmhaaDoor
open Go.RowKit Go.Deep Go.Shelf
attribute [local go_sem] Oper.semAt_some

mutual
/-- All kinds are numbers that a word holds. -/
def Ty.fine : Ty → Prop
  | .mk k _ _ _ _ ts => In64 k ∧ Ty.fines ts
def Ty.fines : List Ty → Prop
  | [] => True
  | t :: r => t.fine ∧ Ty.fines r
end
theorem Ty.fine_k {t : Ty} (h : t.fine) : In64 t.k := by cases t; exact h.1
theorem Ty.fines_mem : ∀ {l : List Ty}, Ty.fines l → ∀ u ∈ l, u.fine
  | [], _, _, hu => by cases hu
  | t :: r, h, u, hu => by
    rcases List.mem_cons.1 hu with rfl | hu
    · exact h.1
    · exact Ty.fines_mem h.2 u hu
theorem Ty.fine_ts {t : Ty} (h : t.fine) : ∀ u ∈ t.ts, u.fine := by cases t; exact Ty.fines_mem h.2
/-- The nodes around, and the node, are fine. -/
def FineAt (path : List Ty) (t : Ty) : Prop := (∀ u ∈ path, In64 u.k) ∧ t.fine
theorem fineAt_down (path : List Ty) (t : Ty) (h : FineAt path t) : ∀ u ∈ t.ts, FineAt (path ++ [t]) u := fun u hu =>
  ⟨fun v hv => by
    rcases List.mem_append.1 hv with hv | hv
    · exact h.1 v hv
    · simp at hv; rw [hv]; exact Ty.fine_k h.2, Ty.fine_ts h.2 u hu⟩

set_option maxRecDepth 100000 in
set_option maxHeartbeats 1000000 in
/-- The iterator that nodes returns tells each node, its place and the nodes around it, all of them fine. -/
theorem nodes_fine (n : Nat) (Bt b o : Nat) (t : Ty) (S X : Nat → Prop) (w : World) (hX : ∀ k, X k → ¬ S k ∧ k < w.heap.size) (hS : ∀ k, S k → k < w.heap.size) (hBt : Bt < w.heap.size) (hc : w.cell? ⟨Bt, 0, none⟩ = some (.pointer (some ⟨b, o, none⟩))) (hty : TyAt S w t b o) (hdep : t.depth ≤ 1000) (hf : t.fine) :
    Tells Fence.wide n Tryd.prog 83 #[.pointer (some ⟨Bt, 0, none⟩)] ndArgs (fun x W => Px w.heap.size S x W ∧ FineAt x.path x.ty) (Kp X) (fun ys => ys.map Nd.g = preT [] 0 t) (fun pre => pre.map Nd.g <+: preT [] 0 t) w := by
  intro l J Jx W hW hJ _ hY h0
  have hp := visit_g FineAt fineAt_down Fence.wide rfl (fun _ => trivial) rfl l W.heap.size S X (fun k hk => ⟨(hX k hk).1, Nat.lt_of_lt_of_le (hX k hk).2 hW.size⟩) (fun k hk => Nat.lt_of_lt_of_le (hS k hk) hW.size) J Jx hJ
    (fun m pre x W1 hj hpx hg _ => yield_any rfl m (hY pre x W1 hj ⟨⟨hpx.1.low hW.size, hpx.2⟩, hg⟩)) t (n - 1) [] 0 none 0 0 b o [] W (Nat.le_refl _) h0 (hty.keep (hW.keeps'.mono hS)) ⟨[], rfl, World.ownsRow_nil _ _ _ _, fun i a u ha _ => by simp at ha⟩ (by simpa using hdep) ⟨fun u hu => (by cases hu), hf⟩
  have hc' := (hW.cell (p := ⟨Bt, 0, none⟩) hBt).trans hc
  have HP := Lib.hid hp
  clear hp hY h0 hJ
  refine callsIn_of_wp Tryd.func83 rfl trivial ?_ rfl
  simp only [Tryd.ntmps83, List.size_toArray, List.length_cons, List.length_nil, Nat.reduceAdd, Nat.reduceSub, Array.replicate_succ, Array.replicate_zero, List.push_toArray, List.append_toArray, List.nil_append, List.cons_append]
  gi_wp2_with fail
  refine ⟨trivial, ⟨fun h => (by cases h), ?_⟩⟩
  refine HP.out.mono ?_
  rintro e W1 (⟨rfl, ⟨ys, h1, h2⟩, _, _⟩ | ⟨rfl, ys, h1, h2⟩)
  · have H1 := Lib.hid h1
    have H2 := Lib.hid h2
    clear h1 h2
    gi_wp2
    go_end0
    exact ⟨⟨_, rfl⟩, .inl ⟨ys, H1.out, by simpa using H2.out⟩⟩
  · have H1 := Lib.hid h1
    have H2 := Lib.hid h2
    clear h1 h2
    gi_wp2
    go_end0
    exact ⟨⟨_, rfl⟩, .inr ⟨ys, H1.out, by simpa using H2.out⟩⟩

theorem large_is (S : Nat → Prop) (t : Ty) (hdep : t.depth ≤ 1000) (bt o : Nat) (b : Bool) (h : t.large = b) (w : World) (hS : Low S w) (hty : TyAt S w t bt o) :
    Calls Tryd.prog 70 #[.pointer (some ⟨bt, o, none⟩)] w fun e w' => e = .returned (.bool b) ∧ Below w.heap.size w w' := by
  rw [← h]; exact tooLarge_any S t hdep bt o w hS hty

theorem firstE_prefix {l r : List (List Ty × Int × Ty)} (h : l <+: r) (hl : firstE l ≠ 0) : firstE r = firstE l := by
  obtain ⟨s, rfl⟩ := h
  rw [firstE_append, if_neg hl]

def RulesIn (W : World) (bm : Nat) : Prop := RulesAt W bm
theorem abides_rules {β : Type} {D bm : Nat} (hb : bm < D) : AbidesAll D (fun (_ : β) W => RulesIn W bm) :=
  fun _ _ _ _ hs hg hr => MapIs.kept hs hg (fun e => by have := hr bm e.symm; omega)
theorem abides_env {β : Type} {D E : Nat} (hb : E ≤ D) : AbidesAll D (fun (_ : β) W => Env E W) :=
  fun _ A _ _ hs hg hr => hs.below ((Below.refl E A).grown hg hs.size (fun k e => Nat.le_trans hb (hr k e)))

theorem keepsOthers_below {A B : World} (h : Below A.heap.size A B) : KeepsOthers A B := ⟨h.size, fun k _ hk _ => (h.block k (Array.getElem?_eq_some_iff.1 hk).1).trans hk⟩
theorem firstE_snoc (l : List (List Ty × Int × Ty)) (x : List Ty × Int × Ty) (h : firstE l = 0) : firstE (l ++ [x]) = nodeErr x.1 x.2.1 x.2.2 := by
  rw [firstE_append, if_pos h]
  simp only [firstE]
  split
  · rename_i h0; exact h0.symm
  · rfl
theorem nodeError_is (D bm E : Nat) (S : Nat → Prop) (path : List Ty) (t : Ty) (kid : Int) (pa : Option Addr) (an ac b o : Nat) (v : Int) (hv : nodeErr path kid t = v) (w : World) (hS : Low S w) (he : Env E w) (hr : RulesIn w bm) (har : ARow D S w (.slice pa an ac) path) (hf : FineAt path t) (ht : TyAt S w t b o) (hlen : path.length ≤ 1000) :
    Calls Tryd.prog 73 #[.map (some bm), .agg #[.slice pa an ac, .int .i64 kid], .pointer (some ⟨b, o, none⟩)] w fun e w' => e = .returned (.int .i64 v) ∧ Below w.heap.size w w' := by
  rw [← hv]; exact nodeError_any D bm E S path t kid pa an ac b o w hS he hr har hf.1 (Ty.fine_k hf.2) ht hlen

set_option maxRecDepth 100000 in
set_option maxHeartbeats 4000000 in
theorem tright_in (n : Nat) (hn : 3 ≤ n) (E : Nat) (B : Nat → Prop) (t : Ty) (hf : t.fine) (hdep : t.depth ≤ 1000) (lv kv : Value) (w : World) (hB : Low B w) (he : Env E w) (hv : TyVal B w (.agg #[.int .i64 t.k, .int .i64 t.p, .string t.n, .int .i64 t.s, lv, kv]) t) :
    CallsIn Fence.wide n Tryd.prog 45 #[.agg #[.int .i64 t.k, .int .i64 t.p, .string t.n, .int .i64 t.s, lv, kv]] w fun e w' => e = .returned (.int .i64 (rightE t)) ∧ Below w.heap.size w w' := by
  have h1 : 1 ≤ n := by omega
  have h6 := (Six.new w (.int .i64 t.k) (.int .i64 t.p) (.string t.n) (.int .i64 t.s) lv kv)
  have hbx : Below w.heap.size w ((w.alloc (cell6 t.k t.p t.n t.s lv kv)).alloc (.cells #[.int .i64 0] 45)) := box2_below w _ _
  have hty := boxed_tyAt (S := fun k => B k ∨ k = w.heap.size) (h6.to ((Below.refl _ _).alloc (by simp) (.cells #[.int .i64 0] 45))) (hv.to hB hbx) (fun _ h => .inl h) (.inr rfl)
  have hS : Low (fun k => B k ∨ k = w.heap.size) ((w.alloc (cell6 t.k t.p t.n t.s lv kv)).alloc (.cells #[.int .i64 0] 45)) := fun k h => h.elim (fun h => by have := hB k h; simp; omega) (fun h => by simp; omega)
  cases hlg : t.large with
  | true =>
    have HL := Lib.hid (large_is _ t hdep w.heap.size 0 true hlg _ hS hty)
    have HE : Hid (rightE t = 2) := Lib.hid (by unfold rightE; rw [hlg]; rfl)
    rw [HE.out]
    clear hlg h6 hty hv hS
    refine callsIn_of_wp_marks Tryd.func45 rfl trivial ?_ rfl
    simp only [Tryd.ntmps45, List.size_toArray, List.length_cons, List.length_nil, Nat.reduceAdd, Nat.reduceSub, Array.replicate_succ, Array.replicate_zero, List.push_toArray, List.append_toArray, List.nil_append, List.cons_append]
    gi_wp2_with (refine ⟨trivial, ?_⟩; gi_at_call 70; refine (callsIn_wide.2 HL.out).mono ?_; rintro e w' ⟨rfl, hb2⟩; obtain ⟨hcl, hfz⟩ := bcell hb2)
    have k0 : w'.heap[w.heap.size + 1]? = some (.cells #[.int .i64 0] 45 (0, 0)) := (hb2.block (w.heap.size + 1) (by simp)).trans (by have h := World.alloc_heap_new (w.alloc (cell6 t.k t.p t.n t.s lv kv)) (.cells #[.int .i64 0] 45); rw [World.size_alloc] at h; exact h)
    have k1 := set_block k0 0 (.int .i64 2)
    have c1 : (w'.setCell ⟨w.heap.size + 1, 0, none⟩ (.int .i64 2)).cell? ⟨w.heap.size + 1, 0, none⟩ = some (.int .i64 2) := by simp [World.cell?, k1]
    have k7 := (below_seq hbx hb2).setCell (p := ⟨w.heap.size + 1, 0, none⟩) (by simp) (.int .i64 2)
    generalize w'.setCell ⟨w.heap.size + 1, 0, none⟩ (.int .i64 2) = W4 at *
    exact ⟨.int .i64 2, by simp [results, Tryd.results45, go_sem, c1], rfl, k7⟩
  | false =>
    have HL := Lib.hid (large_is _ t hdep w.heap.size 0 false hlg _ hS hty)
    have HE : Hid (rightE t = firstE (preT [] 0 t)) := Lib.hid (by unfold rightE; rw [hlg]; rfl)
    rw [HE.out]
    clear hlg
    refine callsIn_of_wp_marks Tryd.func45 rfl trivial ?_ rfl
    simp only [Tryd.ntmps45, List.size_toArray, List.length_cons, List.length_nil, Nat.reduceAdd, Nat.reduceSub, Array.replicate_succ, Array.replicate_zero, List.push_toArray, List.append_toArray, List.nil_append, List.cons_append]
    gi_wp2_with (first | (refine ⟨trivial, ?_⟩; gi_at_call 70; refine (callsIn_wide.2 HL.out).mono ?_; rintro e w2 ⟨rfl, hb2⟩; obtain ⟨hcl, hfz⟩ := bcell hb2) | (refine ⟨trivial, ?_⟩; gi_at_call 71; refine (callsIn_wide.2 (rules_any _)).mono ?_; rintro e w3 ⟨bm, rfl, hru, hb3, hbm⟩) | (refine ⟨trivial, ?_⟩; gi_at_call 72; refine (callsIn_wide.2 (nodes_any _ _)).mono ?_; rintro e w' ⟨rfl, rfl⟩))
    have hsw : w.heap.size + 2 ≤ w2.heap.size := by have := hb2.size; simp at this; omega
    have hb02 : Below w.heap.size w w2 := below_seq hbx hb2
    have hb03 : Below w.heap.size w w3 := below_seq hb02 hb3
    have hs3 := hb3.size
    have hbel : Below w.heap.size w ((w3.alloc (.cells #[.map (some bm)] 108)).alloc (.cells #[.pointer (some ⟨w.heap.size, 0, none⟩)] 107)) := below_seq hb03 (box2_below w3 _ _)
    have hbel2 : Below (w.heap.size + 2) ((w.alloc (cell6 t.k t.p t.n t.s lv kv)).alloc (.cells #[.int .i64 0] 45)) ((w3.alloc (.cells #[.map (some bm)] 108)).alloc (.cells #[.pointer (some ⟨w.heap.size, 0, none⟩)] 107)) :=
      (hb2.mono (by simp)).trans ((hb3.mono hsw).trans ((box2_below w3 _ _).mono (by omega)))
    have hr0 : ((w3.alloc (.cells #[.map (some bm)] 108)).alloc (.cells #[.pointer (some ⟨w.heap.size, 0, none⟩)] 107)).heap[w.heap.size + 1]? = some (.cells #[.int .i64 0] 45 (0, 0)) :=
      (hbel2.block (w.heap.size + 1) (by omega)).trans (by have h := World.alloc_heap_new (w.alloc (cell6 t.k t.p t.n t.s lv kv)) (.cells #[.int .i64 0] 45); rw [World.size_alloc] at h; exact h)
    have hm0 : ((w3.alloc (.cells #[.map (some bm)] 108)).alloc (.cells #[.pointer (some ⟨w.heap.size, 0, none⟩)] 107)).heap[w3.heap.size]? = some (.cells #[.map (some bm)] 108 (0, 0)) :=
      (Below.heap_alloc _ _ _ (by simp)).trans (World.alloc_heap_new w3 _)
    have hp0 : ((w3.alloc (.cells #[.map (some bm)] 108)).alloc (.cells #[.pointer (some ⟨w.heap.size, 0, none⟩)] 107)).cell? ⟨w3.heap.size + 1, 0, none⟩ = some (.pointer (some ⟨w.heap.size, 0, none⟩)) := by
      have h := blk_cell (w := w3.alloc (.cells #[.map (some bm)] 108)) (cs := #[.pointer (some ⟨w.heap.size, 0, none⟩)]) (t := 107) (Below.refl _ _) 0 rfl
      rw [World.size_alloc] at h; exact h
    have hty0 := hty.keep ((hbel2.keeps'.mono (fun k h => h.elim (fun h => by have := hB k h; omega) (fun h => by omega) : ∀ k, (B k ∨ k = w.heap.size) → k < w.heap.size + 2)))
    have hru0 : RulesIn ((w3.alloc (.cells #[.map (some bm)] 108)).alloc (.cells #[.pointer (some ⟨w.heap.size, 0, none⟩)] 107)) bm := MapIs.below hru (box2_below w3 _ _) (MapIs.lt hru)
    have hen0 : Env E ((w3.alloc (.cells #[.map (some bm)] 108)).alloc (.cells #[.pointer (some ⟨w.heap.size, 0, none⟩)] 107)) := he.to hbel
    have hbml := MapIs.lt hru
    have hsz0 : ((w3.alloc (.cells #[.map (some bm)] 108)).alloc (.cells #[.pointer (some ⟨w.heap.size, 0, none⟩)] 107)).heap.size = w3.heap.size + 2 := by simp
    obtain ⟨W0, hW0⟩ : ∃ W0, ((w3.alloc (.cells #[.map (some bm)] 108)).alloc (.cells #[.pointer (some ⟨w.heap.size, 0, none⟩)] 107)) = W0 := ⟨_, rfl⟩
    rw [hW0] at hbel hr0 hm0 hp0 hty0 hru0 hen0 hsz0 ⊢
    obtain ⟨m3, hm3⟩ : ∃ m3, w3.heap.size = m3 := ⟨_, rfl⟩
    rw [hm3] at hm0 hp0 hsz0 hs3 hbml ⊢
    clear hW0 hbel2 hru hb3 hb03 hb02 hb2 hty hS hcl hfz h6 hbx hm3
    have hX : ∀ k, (fun _ : Nat => False) k → ¬ (B k ∨ k = w.heap.size) ∧ k < W0.heap.size := fun k e => e.elim
    have hS0 : ∀ k, (B k ∨ k = w.heap.size) → k < W0.heap.size := fun k h => h.elim (fun h => by have := hB k h; omega) (fun h => by omega)
    have hEs := he.size
    refine wpIn_range_told rfl h1 (gf := 83) (lb := #[.pointer (some ⟨m3 + 1, 0, none⟩)]) rfl trivial (enters_of Tryd.func83 (by kernel_rfl) rfl)
      (nodes_fine (n - 1) (m3 + 1) w.heap.size 0 t (fun k => B k ∨ k = w.heap.size) (fun _ => False) W0 hX hS0 (by omega) hp0 hty0 hdep hf) (fun h g => KV.trans h g) (fun W l o o' _ h ho _ => KV.of_cells (by simp) (cellsKept_put h ho)) (fun x A B h hp => ⟨Px.kept h hp.1, hp.2⟩) (Below.refl _ _) (fun _ => rfl)
      (fun pre W => ((W.heap[w.heap.size + 1]? = some (.cells #[.int .i64 0] 45 (0, 0)) ∧ W.heap[m3]? = some (.cells #[.map (some bm)] 108 (0, 0))) ∧ (RulesIn W bm ∧ Env E W)) ∧ (firstE (pre.map Nd.g) = 0 ∧ Below w.heap.size w W))
      (fun c pre W => ((c = .ret ∧ firstE (pre.map Nd.g) ≠ 0) ∧ W.heap[w.heap.size + 1]? = some (.cells #[.int .i64 (firstE (pre.map Nd.g))] 45 (0, 0))) ∧ Below w.heap.size w W)
      ((((abides_boxed (by omega) _ (fun _ => .int .i64 0)).and (abides_boxed (by omega) _ (fun _ => .map (some bm)))).and ((abides_rules (by omega)).and (abides_env (by omega)))).and ((abidesAll_pure _ _).and (abidesAll_below (by omega) (Nat.le_refl _))))
      (fun c => (((abidesAll_pure _ _).and (abides_boxed (by omega) _ (fun pre : List Nd => .int .i64 (firstE (pre.map Nd.g))))).and (abidesAll_below (by omega) (Nat.le_refl _)))) ⟨⟨⟨hr0, hm0⟩, hru0, hen0⟩, rfl, hbel⟩
      (fun x a' W => ∃ b4, PlaceBox 0 x b4 W ∧ a' = { tmps := #[.agg #[.int .i64 t.k, .int .i64 t.p, .string t.n, .int .i64 t.s, lv, kv], .pointer (some ⟨w.heap.size, 0, none⟩), .pointer (some ⟨w.heap.size + 1, 0, none⟩), .pointer (some ⟨m3, 0, none⟩), .pointer (some ⟨b4, 0, none⟩), .pointer (some ⟨x.b, x.o, none⟩), undef, .bool false, .map (some bm),
        .func (.func 83) #[] #[.pointer (some ⟨m3 + 1, 0, none⟩)], .agg #[x.ar, .int .i64 x.kid], .pointer (some ⟨x.b, x.o, none⟩), undef, undef, undef, undef, undef, undef, undef], defers := [] }) (fun x a' A B hk ⟨b3, hb, e⟩ => ⟨b3, hb.kept hk, e⟩) ?assign ?body ?done ?stop
    case assign =>
      intro l pre x W K hi hp hK
      simp only [ndArgs]
      obtain ⟨pa, ac, har⟩ := hp.1.ar_eq
      have HI := Lib.hid hi
      have HP := Lib.hid hp
      clear hi hp
      gi_wp2
      have hck := cellsKept_alloc W (.cells #[.slice pa x.path.length ac, .int .i64 x.kid] 115)
      have hbl := blkBelow W #[.slice pa x.path.length ac, .int .i64 x.kid] 115
      exact hK _ _ ((KeepsOthers.alloc _ _).from _) (KV.of_cells (by simp) hck) ⟨⟨⟨hck _ _ HI.out.1.1.1 rfl, hck _ _ HI.out.1.1.2 rfl⟩, MapIs.below HI.out.1.2.1 hbl (MapIs.lt HI.out.1.2.1), HI.out.1.2.2.to hbl⟩, HI.out.2.1, below_seq' HI.out.2.2 hbl⟩ ⟨Px.kept hck HP.out.1, HP.out.2⟩ ⟨W.heap.size, ⟨Nat.zero_le _, by rw [har]; exact World.alloc_heap_new W _⟩, by rw [har]⟩
    case body =>
      rintro l pre x a' W hl _ ⟨⟨⟨hr, hm⟩, hru, hen⟩, hfe, hbw⟩ ⟨hpx, hfx⟩ ⟨b3, ⟨_, hpb⟩, rfl⟩
      obtain ⟨pa, ac, har⟩ := hpx.ar_eq
      have hlW := (Array.getElem?_eq_some_iff.1 hm).1
      have hSW : Low (fun k => B k ∨ k = w.heap.size) W := fun k h => h.elim (fun h => by have := hB k h; omega) (fun h => by omega)
      obtain ⟨v, hv⟩ : ∃ v, nodeErr x.path x.kid x.ty = v := ⟨_, rfl⟩
      have hrow := hpx.1
      rw [har] at hpb hrow ⊢
      have HN := Lib.hid (nodeError_is W0.heap.size bm E _ x.path x.ty x.kid pa x.path.length ac x.b x.o v hv W hSW hen hru hrow hfx hpx.2.1 hpx.2.2)
      have HF : Hid (firstE ((pre ++ [x]).map Nd.g) = v) := Lib.hid (by rw [List.map_append, List.map_cons, List.map_nil, firstE_snoc _ _ hfe]; exact hv)
      have c0 : W.cell? ⟨m3, 0, none⟩ = some (.map (some bm)) := by simp [World.cell?, hm]
      have r0 : W.cell? ⟨w.heap.size + 1, 0, none⟩ = some (.int .i64 0) := by simp [World.cell?, hr]
      have r1 : W.frozen? ⟨w.heap.size + 1, 0, none⟩ = false := by simp [World.frozen?, hr]
      have d0 : W.cell? ⟨b3, 0, none⟩ = some (.slice pa x.path.length ac) := by simp [World.cell?, hpb]
      have d1 : W.cell? ⟨b3, 1, none⟩ = some (.int .i64 x.kid) := by simp [World.cell?, hpb]
      have hrl := (Array.getElem?_eq_some_iff.1 hr).1
      have HR := Lib.hid hr
      have HM := Lib.hid hm
      have HRU := Lib.hid hru
      have HEN := Lib.hid hen
      clear hr hm hru hen hpx hfx har hv hfe hpb hrow
      by_cases h0 : v = 0
      · subst h0
        gi_wp2_with (refine ⟨trivial, ⟨fun h => (by cases h), ?_⟩⟩; refine (CallsIn.inRound l (callsIn_wide.2 HN.out)).mono ?_; rintro e w5 ⟨rfl, hb5⟩)
        refine ⟨(keepsOthers_below hb5).from _, KV.of_below hb5, ⟨⟨⟨(hb5.block _ hrl).trans HR.out, (hb5.block _ hlW).trans HM.out⟩, MapIs.below HRU.out hb5 (MapIs.lt HRU.out), HEN.out.to hb5⟩, HF.out, below_seq hbw hb5⟩⟩
      · have h0' : (v != 0) = true := by simpa using h0
        gi_wp2_with (refine ⟨trivial, ⟨fun h => (by cases h), ?_⟩⟩; refine (CallsIn.inRound l (callsIn_wide.2 HN.out)).mono ?_; rintro e w5 ⟨rfl, hb5⟩; obtain ⟨hcl, hfz⟩ := bcell hb5)
        refine ⟨((keepsOthers_below hb5).trans (KeepsOthers.setCell _ _ _)).from _, ⟨⟨rfl, by rw [HF.out]; exact h0⟩, ?_⟩, (below_seq hbw hb5).setCell (p := ⟨w.heap.size + 1, 0, none⟩) (by simp) _⟩
        rw [HF.out]
        exact set_block ((hb5.block _ hrl).trans HR.out) 0 _
    case done =>
      rintro D ys W hD hys ⟨⟨⟨hr, _⟩, _⟩, hfe, hbw⟩ hK
      have hv : firstE (preT [] 0 t) = 0 := by rw [← hys]; exact hfe
      have r0 : W.cell? ⟨w.heap.size + 1, 0, none⟩ = some (.int .i64 0) := by simp [World.cell?, hr]
      have r1 : W.frozen? ⟨w.heap.size + 1, 0, none⟩ = false := by simp [World.frozen?, hr]
      have HK := Lib.hid hK
      have HR := Lib.hid hr
      have HV := Lib.hid hv
      clear hys hK hr hv hfe
      gi_wp2
      have k3 : (W.setCell ⟨w.heap.size + 1, 0, none⟩ (.int .i64 0)).heap[D]? = some (.deferred (some [])) := (Below.heap_setCell _ _ _ D (by simp; omega)).trans HK.out
      refine ⟨by simp, .inl ⟨_, _, rfl, run_takeDeferred k3, ?_⟩⟩
      have k1 : ((W.setCell ⟨w.heap.size + 1, 0, none⟩ (.int .i64 0)).putObj D (.deferred none)).heap[w.heap.size + 1]? = some (.cells #[.int .i64 0] 45 (0, 0)) := (World.putObj_heap_other (by omega)).trans (set_block HR.out 0 _)
      have c1 : ((W.setCell ⟨w.heap.size + 1, 0, none⟩ (.int .i64 0)).putObj D (.deferred none)).cell? ⟨w.heap.size + 1, 0, none⟩ = some (.int .i64 0) := by simp [World.cell?, k1]
      have k7 := (hbw.setCell (p := ⟨w.heap.size + 1, 0, none⟩) (by simp) (.int .i64 0)).trans (belowK_b (w := w) (Nat.le_refl _) _ D _ (.deferred none) (by omega) k3 rfl rfl)
      generalize (W.setCell ⟨w.heap.size + 1, 0, none⟩ (.int .i64 0)).putObj D (.deferred none) = W4 at *
      exact ⟨.int .i64 0, by simp [results, Tryd.results45, go_sem, c1], by rw [HV.out], k7⟩
    case stop =>
      rintro D c pre W hD hpre ⟨⟨⟨rfl, hne⟩, hr⟩, hbw⟩ hK
      have hv : firstE (preT [] 0 t) = firstE (pre.map Nd.g) := firstE_prefix hpre hne
      obtain ⟨v, hvv⟩ : ∃ v, firstE (pre.map Nd.g) = v := ⟨_, rfl⟩
      rw [hvv] at hv hr
      have HV := Lib.hid hv
      clear hv hvv hpre hne
      gi_wp2
      refine ⟨by simp, .inl ⟨_, _, rfl, run_takeDeferred hK, ?_⟩⟩
      have k1 : (W.putObj D (.deferred none)).heap[w.heap.size + 1]? = some (.cells #[.int .i64 v] 45 (0, 0)) := (World.putObj_heap_other (by omega)).trans hr
      have c1 : (W.putObj D (.deferred none)).cell? ⟨w.heap.size + 1, 0, none⟩ = some (.int .i64 v) := by simp [World.cell?, k1]
      have k7 := hbw.trans (belowK_b (w := w) (Nat.le_refl _) W D _ (.deferred none) (by omega) hK rfl rfl)
      generalize W.putObj D (.deferred none) = W4 at *
      exact ⟨.int .i64 v, by simp [results, Tryd.results45, go_sem, c1], by rw [HV.out], k7⟩

theorem tright_any (E : Nat) (B : Nat → Prop) (t : Ty) (hf : t.fine) (hdep : t.depth ≤ 1000) (v : Value) (w : World) (hB : Low B w) (he : Env E w) (hv : TyVal B w v t) :
    Calls Tryd.prog 45 #[v] w fun e w' => e = .returned (.int .i64 (rightE t)) ∧ Below w.heap.size w w' := by
  have hv' := hv
  obtain ⟨lv, kv, rfl, _⟩ := hv'
  exact callsIn_wide.1 (tright_in 3 (by omega) E B t hf hdep lv kv w hB he hv)

end Go.Proofs.YtmedijheidbmhaaDoor

/- Types: a value that is a type, anywhere in memory; the law's send and loop. -/
namespace Go.Proofs.YtmedijheidbmhaaDoor
open Go.RowKit Go.Deep Go.Shelf

/-- A value is a type that lies in w. -/
def Lies (w : World) (v : Value) (t : Ty) : Prop := TyVal (fun k => k < w.heap.size) w v t
theorem Lies.to {w w' : World} {v : Value} {t : Ty} (h : Lies w v t) (hb : Below w.heap.size w w') : Lies w' v t :=
  TyVal.mono (fun _ hk => Nat.lt_of_lt_of_le hk hb.size) (TyVal.to (fun _ hk => hk) hb h)
theorem lies_low (w : World) : Low (fun k => k < w.heap.size) w := fun _ h => h
/-- A type is returned that lies in new memory and in B. -/
def TyIn (B : Nat → Prop) (w : World) (g : Ty) (e : Ending) (w' : World) : Prop :=
  ∃ la ln lc ka kn kc, e = .returned (.agg #[.int .i64 g.k, .int .i64 g.p, .string g.n, .int .i64 g.s, .slice la ln lc, .slice ka kn kc]) ∧
    TyVal (fun k => B k ∨ Fresh w.heap.size w'.heap.size k) w' (.agg #[.int .i64 g.k, .int .i64 g.p, .string g.n, .int .i64 g.s, .slice la ln lc, .slice ka kn kc]) g ∧ Below w.heap.size w w'
/-- A type is returned. -/
def TyOut (w : World) (g : Ty) (e : Ending) (w' : World) : Prop :=
  ∃ la ln lc ka kn kc, e = .returned (.agg #[.int .i64 g.k, .int .i64 g.p, .string g.n, .int .i64 g.s, .slice la ln lc, .slice ka kn kc]) ∧
    Lies w' (.agg #[.int .i64 g.k, .int .i64 g.p, .string g.n, .int .i64 g.s, .slice la ln lc, .slice ka kn kc]) g ∧ Below w.heap.size w w'
theorem TyRet.out {w : World} {g : Ty} {e : Ending} {w' : World} (h : TyRet w g e w') : TyOut w g e w' := by
  obtain ⟨la, ln, lc, ka, kn, kc, h1, h2, h3⟩ := h
  exact ⟨la, ln, lc, ka, kn, kc, h1, TyVal.mono (fun k hk => hk.2) h2, h3⟩

def tT : ByteArray := ⟨#[116]⟩
def e0 : ByteArray := ⟨#[]⟩
def leafT (k : Int) : Ty := .mk k 0 e0 0 [] []
def varT (s : Int) : Ty := .mk 9 0 tT s [] []
def sendT (p : Int) (r : Ty) : Ty := .mk 4 p e0 0 [] [leafT 1, r]
def loopT (p k : Int) : Ty := .mk 8 0 tT 0 [] [sendT p (varT k)]
def bareT : Ty := .mk 8 0 tT 0 [] [varT 0]

theorem nil_strs (B : Nat → Prop) (w : World) : StrSl B w (.slice none 0 0) [] := ⟨.inl ⟨⟨_, _, rfl⟩, rfl⟩, by simp [maxLen], fun s h => by cases h⟩
theorem nil_tys (B : Nat → Prop) (w : World) : TySl B w (.slice none 0 0) [] := ⟨.inl ⟨⟨_, _, rfl⟩, rfl⟩, by simp [maxLen]⟩
theorem val_leaf (B : Nat → Prop) (w : World) (k p s : Int) (n : ByteArray) (hn : n.size ≤ maxLen) : TyVal B w (.agg #[.int .i64 k, .int .i64 p, .string n, .int .i64 s, .slice none 0 0, .slice none 0 0]) (.mk k p n s [] []) :=
  ⟨_, _, rfl, hn, nil_strs _ _, nil_tys _ _⟩
theorem lies_leaf (w : World) (k p s : Int) (n : ByteArray) (hn : n.size ≤ maxLen) : Lies w (.agg #[.int .i64 k, .int .i64 p, .string n, .int .i64 s, .slice none 0 0, .slice none 0 0]) (.mk k p n s [] []) :=
  ⟨_, _, rfl, hn, nil_strs _ _, nil_tys _ _⟩
theorem lies_lies {w : World} {k p s : Int} {n : ByteArray} {lv kv : Value} {t : Ty} (h : Lies w (.agg #[.int .i64 k, .int .i64 p, .string n, .int .i64 s, lv, kv]) t) : t.k = k ∧ t.p = p ∧ t.n = n ∧ t.s = s ∧ n.size ≤ maxLen ∧ StrSl (fun k => k < w.heap.size) w lv t.ls ∧ TySl (fun k => k < w.heap.size) w kv t.ts := by
  obtain ⟨lv', kv', e, h1, h2, h3⟩ := h
  simp only [Value.agg.injEq, Array.mk.injEq, List.cons.injEq, Value.int.injEq, Value.string.injEq, and_true, true_and] at e
  obtain ⟨e1, e2, e3, e4, rfl, rfl⟩ := e
  exact ⟨e1.symm, e2.symm, e3.symm, e4.symm, by rw [e3]; exact h1, h2, h3⟩
theorem alloc_lt {w w2 : World} {o : Obj} (hb : Below (w.alloc o).heap.size (w.alloc o) w2) : w.heap.size < w2.heap.size := by
  have := hb.size; simp at this; omega
theorem cell_of {W : World} {b : Nat} {cs : Array Value} {t : TypeId} {fr : Nat × Nat} (h : W.heap[b]? = some (.cells cs t fr)) (j : Nat) : W.cell? ⟨b, j, none⟩ = cs[j]? := by simp [World.cell?, h]
/-- The cells of an int and another type. -/
def send12 (k p s : Int) (n : ByteArray) (lv kv : Value) : Array Value := #[.int .i64 1, .int .i64 0, .string ⟨#[]⟩, .int .i64 0, .slice none 0 0, .slice none 0 0, .int .i64 k, .int .i64 p, .string n, .int .i64 s, lv, kv]
theorem send_rest {B : Nat → Prop} {W : World} {p : Int} {r : Ty} {lv kv : Value} (hB : Low B W) (h : TyVal B W (.agg #[.int .i64 r.k, .int .i64 r.p, .string r.n, .int .i64 r.s, lv, kv]) r) :
    TyVal (fun k => B k ∨ k = W.heap.size) (W.alloc (.cells (send12 r.k r.p r.s r.n lv kv) 27)) (.agg #[.int .i64 4, .int .i64 p, .string ⟨#[]⟩, .int .i64 0, .slice none 0 0, .slice (some ⟨W.heap.size, 0, none⟩) 2 2]) (sendT p r) := by
  have hb := blkBelow W (send12 r.k r.p r.s r.n lv kv) 27
  have hw : TyVal (fun k => B k ∨ k = W.heap.size) _ _ _ := (h.to hB hb).mono (fun _ h => .inl h)
  have hc : ∀ (j : Nat) (v : Value), (send12 r.k r.p r.s r.n lv kv)[j]? = some v → (W.alloc (.cells (send12 r.k r.p r.s r.n lv kv) 27)).cell? ⟨W.heap.size, j, none⟩ = some v := fun j v hv => blk_cell (Below.refl _ _) j hv
  refine ⟨_, _, rfl, (by decide : (⟨#[]⟩ : ByteArray).size ≤ maxLen), nil_strs _ _, ⟨.inr ⟨W.heap.size, 0, 2, rfl, .inr rfl, ?_⟩, by simp [sendT, Ty.ts, maxLen]⟩⟩
  show TyAt _ _ (leafT 1) _ _ ∧ TyAt _ _ r _ _ ∧ True
  exact ⟨tyAt_of (.inr rfl) (hc 0 _ rfl) (hc 1 _ rfl) (hc 2 _ rfl) (hc 3 _ rfl) (hc 4 _ rfl) (hc 5 _ rfl) (val_leaf _ _ 1 0 0 e0 (by decide)), tyAt_of (.inr rfl) (hc 6 _ rfl) (hc 7 _ rfl) (hc 8 _ rfl) (hc 9 _ rfl) (hc 10 _ rfl) (hc 11 _ rfl) hw, trivial⟩

/-- A type that names one Kid in a block of its own. -/
theorem rec_val {B : Nat → Prop} {W : World} {k p s : Int} {n : ByteArray} {u : Ty} {lv kv : Value} (hn : n.size ≤ maxLen) (hB : Low B W) (h : TyVal B W (.agg #[.int .i64 u.k, .int .i64 u.p, .string u.n, .int .i64 u.s, lv, kv]) u) :
    TyVal (fun j => B j ∨ j = W.heap.size) (W.alloc (.cells #[.int .i64 u.k, .int .i64 u.p, .string u.n, .int .i64 u.s, lv, kv] 27)) (.agg #[.int .i64 k, .int .i64 p, .string n, .int .i64 s, .slice none 0 0, .slice (some ⟨W.heap.size, 0, none⟩) 1 1]) (.mk k p n s [] [u]) := by
  have hb := blkBelow W #[.int .i64 u.k, .int .i64 u.p, .string u.n, .int .i64 u.s, lv, kv] 27
  have hw : TyVal (fun j => B j ∨ j = W.heap.size) _ _ _ := (h.to hB hb).mono (fun _ h => .inl h)
  have hc : ∀ (j : Nat) (v : Value), #[.int .i64 u.k, .int .i64 u.p, .string u.n, .int .i64 u.s, lv, kv][j]? = some v → (W.alloc (.cells #[.int .i64 u.k, .int .i64 u.p, .string u.n, .int .i64 u.s, lv, kv] 27)).cell? ⟨W.heap.size, j, none⟩ = some v := fun j v hv => blk_cell (Below.refl _ _) j hv
  refine ⟨_, _, rfl, hn, nil_strs _ _, ⟨.inr ⟨W.heap.size, 0, 1, rfl, .inr rfl, ?_⟩, by simp [Ty.ts, maxLen]⟩⟩
  show TyAt _ _ u _ _ ∧ True
  exact ⟨tyAt_of (.inr rfl) (hc 0 _ rfl) (hc 1 _ rfl) (hc 2 _ rfl) (hc 3 _ rfl) (hc 4 _ rfl) (hc 5 _ rfl) hw, trivial⟩

end Go.Proofs.YtmedijheidbmhaaDoor

/- Types: what the law's fixed types are. -/
namespace Go.Proofs.YtmedijheidbmhaaDoor
open Go.RowKit

theorem name_t : nameB tT = true := by decide +kernel
theorem empty_e : e0.toList.isEmpty = true := by decide +kernel
theorem right_loop : rightE (loopT 0 2) = 0 := by decide +kernel
theorem right_var : rightE (varT 0) = 4 := by decide +kernel
theorem right_bare : rightE bareT = 3 := by decide +kernel
theorem right_int : rightE (leafT 1) = 0 := by decide +kernel
theorem right_send : rightE (sendT 0 (leafT 1)) = 3 := by decide +kernel
theorem unfold_loop : Ty.put tT (loopT 0 2) (sendT 0 (varT 2)) = sendT 0 (loopT 2 2) := by rfl
theorem raise_loop : (loopT 0 2).raise 3 = loopT 3 2 := by rfl
theorem size_loop : (loopT 0 2).size = 4 := by rfl
theorem depth_loop : (loopT 0 2).depth = 3 := by rfl
theorem loop_ne_var : loopT 0 2 ≠ varT 0 := by intro h; have := congrArg Ty.k h; simp [loopT, varT, Ty.k] at this

end Go.Proofs.YtmedijheidbmhaaDoor

/- Types: the fixed examples of the law all come out right. -/
namespace Go.Proofs.YtmedijheidbmhaaDoor
open Go.RowKit Go.Deep Go.Shelf

theorem right_l {E : Nat} {W : World} {v : Value} {t : Ty} {c : Int} (he : Env E W) (h : Lies W v t) (hf : t.fine) (hd : t.depth ≤ 1000) (hc : rightE t = c) : Calls Tryd.prog 45 #[v] W fun e w' => e = .returned (.int .i64 c) ∧ Below W.heap.size W w' := by
  rw [← hc]; exact tright_any E _ t hf hd v W (lies_low W) he h
theorem size_l {W : World} {v : Value} {t : Ty} {c : Int} (h : Lies W v t) (hs : t.size ≤ 1000000) (hd : t.depth ≤ 1000) (hc : (t.size : Int) = c) : Calls Tryd.prog 51 #[v] W fun e w' => e = .returned (.int .i64 c) ∧ Below W.heap.size W w' := by
  rw [← hc]; exact tsize_any _ t hs hd v W (lies_low W) h
theorem same_l {W : World} {v v' : Value} {t u : Ty} {b : Bool} (h : Lies W v t) (h' : Lies W v' u) (hb : eqB t u = b) : Calls Tryd.prog 67 #[v, v'] W fun e w' => e = .returned (.bool b) ∧ Below W.heap.size W w' := by
  rw [← hb]; exact tsame_any _ t u v v' W (lies_low W) h h'
theorem fine_loop : (loopT 0 2).fine := by simp [loopT, sendT, varT, leafT, Ty.fine, Ty.fines, In64]
theorem fine_var : (varT 0).fine := by simp [varT, Ty.fine, Ty.fines, In64]
theorem fine_bare : bareT.fine := by simp [bareT, varT, Ty.fine, Ty.fines, In64]
theorem fine_int : (leafT 1).fine := by simp [leafT, Ty.fine, Ty.fines, In64]
theorem fine_send : (sendT 0 (leafT 1)).fine := by simp [sendT, leafT, Ty.fine, Ty.fines, In64]

end Go.Proofs.YtmedijheidbmhaaDoor

/- Types: the two laws of layer 2. -/
namespace Go.Proofs.YtmedijheidbmhaaDoor
open Go.RowKit Go.Deep Go.Shelf

theorem few_l {W : World} {v : Value} {t : Ty} {m : Nat} {b : Bool} (h : Lies W v t) (hm : m ≤ 1000000) (hb : t.few m = b) : Calls Tryd.prog 16 #[v, .int .i64 m] W fun e w' => e = .returned (.bool b) ∧ Below W.heap.size W w' := by
  rw [← hb]; exact rfew_any _ t m hm v W (lies_low W) h
theorem rdepth_l {W : World} {v : Value} {t : Ty} {c : Int} (h : Lies W v t) (hd : t.depth ≤ 1000000) (hc : (t.depth : Int) = c) : Calls Tryd.prog 30 #[v] W fun e w' => e = .returned (.int .i64 c) ∧ Below W.heap.size W w' := by
  rw [← hc]; exact rdepth_any _ t hd v W (lies_low W) h
theorem few_size {t : Ty} {m : Nat} (h : t.few m = true) : t.size ≤ m ∧ t.depth ≤ 150 := by simpa [Ty.few] using h
/-- A type, its two slices written out. -/
theorem Lies.out {w : World} {v : Value} {t : Ty} (h : Lies w v t) : ∃ (la : Option Addr) (ln lc : Nat) (ka : Option Addr) (kn kc : Nat), v = .agg #[.int .i64 t.k, .int .i64 t.p, .string t.n, .int .i64 t.s, .slice la ln lc, .slice ka kn kc] := by
  obtain ⟨lv, kv, rfl, _, hl, hk⟩ := h
  obtain ⟨pa, len, c, rfl, _⟩ := hk.open
  obtain ⟨la, ln, lc, rfl, _⟩ := hl.open
  exact ⟨_, _, _, _, _, _, rfl⟩

end Go.Proofs.YtmedijheidbmhaaDoor

/- Processes: the program's small checks. -/
namespace Go.Proofs.YtmedijheidbmhaaDoor
open Go.RowKit Go.Deep Go.Shelf

theorem tname_is (s : ByteArray) (b : Bool) (h : nameB s = b) (hs : s.size ≤ maxLen) (E : Nat) (w : World) (he : Env E w) : Calls Tryd.prog 44 #[.string s] w fun e w' => e = .returned (.bool b) ∧ w = w' := by
  rw [← h]; exact name_any s hs E w he

theorem chanIsName_any (S : Nat → Prop) (p : Pr) (b o E : Nat) (w : World) (he : Env E w) (hp : PrAt S w p b o) : Calls Tryd.prog 53 #[.pointer (some ⟨b, o, none⟩)] w fun e w' => e = .returned (.bool (nameB p.c)) ∧ Below w.heap.size w w' := by
  obtain ⟨_, ⟨hc, hx⟩, ⟨c0, c1, c2⟩, _⟩ := PrAt.eq.1 hp
  have HN := Lib.hid (name_any p.c hc E w he)
  clear hp
  go_enter Tryd.func53, Tryd.ntmps53
  go_wp2_with (go_at_call 44; refine HN.out.mono ?_; rintro e w2 ⟨rfl, rfl⟩)
  go_ret
  exact ⟨rfl, Below.refl _ _⟩
theorem varIsName_any (S : Nat → Prop) (p : Pr) (b o E : Nat) (w : World) (he : Env E w) (hp : PrAt S w p b o) : Calls Tryd.prog 56 #[.pointer (some ⟨b, o, none⟩)] w fun e w' => e = .returned (.bool (nameB p.x)) ∧ Below w.heap.size w w' := by
  obtain ⟨_, ⟨hc, hx⟩, ⟨c0, c1, c2⟩, _⟩ := PrAt.eq.1 hp
  have HN := Lib.hid (name_any p.x hx E w he)
  clear hp
  go_enter Tryd.func56, Tryd.ntmps56
  go_wp2_with (go_at_call 44; refine HN.out.mono ?_; rintro e w2 ⟨rfl, rfl⟩)
  go_ret
  exact ⟨rfl, Below.refl _ _⟩
theorem oneKid_any (S : Nat → Prop) (p : Pr) (b o : Nat) (w : World) (hp : PrAt S w p b o) : Calls Tryd.prog 55 #[.pointer (some ⟨b, o, none⟩)] w fun e w' => e = .returned (.bool (decide (p.ps.length = 1))) ∧ Below w.heap.size w w' := by
  obtain ⟨_, _, _, _, lv, av, kv, c3, c4, c11, hl, ha, hk⟩ := PrAt.eq.1 hp
  obtain ⟨pa, len, c, rfl, hlen, _⟩ := hk.open
  rw [← hlen.out]
  clear hp hl ha hk hlen
  go_enter Tryd.func55, Tryd.ntmps55
  go_wp2_with fail
  go_ret
  exact ⟨ret_bool (by rw [Bool.eq_iff_iff]; simp; omega), Below.refl _ _⟩

def vlB (v : Vl) : Bool := if v.k = 1 then nameB v.n && v.x == 0 else if v.k = 2 then v.n.toList.isEmpty else if v.k = 3 then v.n.toList.isEmpty && (v.x == 0 || v.x == 1) else false
set_option maxHeartbeats 1000000 in
theorem valueFits_any (k x : Int) (n : ByteArray) (hn : n.size ≤ maxLen) (E : Nat) (w : World) (he : Env E w) : Calls Tryd.prog 77 #[.agg #[.int .i64 k, .string n, .int .i64 x]] w fun e w' => e = .returned (.bool (vlB ⟨k, n, x⟩)) ∧ Below w.heap.size w w' := by
  have hb0 := blkBelow w #[.int .i64 k, .string n, .int .i64 x] 51
  obtain ⟨nb, hnb⟩ : ∃ b, nameB n = b := ⟨_, rfl⟩
  have HN := Lib.hid (tname_is n nb hnb hn E _ (he.to hb0))
  have HB := Lib.hid hb0
  have hv : vlB ⟨k, n, x⟩ = if k = 1 then nb && x == 0 else if k = 2 then n.toList.isEmpty else if k = 3 then n.toList.isEmpty && (x == 0 || x == 1) else false := by unfold vlB; simp only [hnb]
  rw [hv]
  clear hv hnb hb0
  by_cases h1 : k = 1
  · subst h1
    rw [if_pos rfl]
    cases nb
    · rw [Bool.false_and]
      go_enter Tryd.func77, Tryd.ntmps77
      go_wp2_with (go_at_call 44; refine HN.out.mono ?_; rintro e w2 ⟨rfl, rfl⟩)
      go_ret
      exact ⟨rfl, HB.out⟩
    · rw [Bool.true_and]
      go_enter Tryd.func77, Tryd.ntmps77
      go_wp2_with (go_at_call 44; refine HN.out.mono ?_; rintro e w2 ⟨rfl, rfl⟩)
      go_ret
      exact ⟨rfl, HB.out⟩
  · have h1' : (k == 1) = false := by simpa using h1
    rw [if_neg h1]
    clear h1
    by_cases h2 : k = 2
    · subst h2
      rw [if_pos rfl]
      go_enter Tryd.func77, Tryd.ntmps77
      go_wp2_with fail
      go_ret
      exact ⟨ret_bool (by first | rfl | simp), HB.out⟩
    · have h2' : (k == 2) = false := by simpa using h2
      rw [if_neg h2]
      clear h2
      by_cases h3 : k = 3
      · subst h3
        rw [if_pos rfl]
        obtain ⟨eb, heb⟩ : ∃ b, n.toList.isEmpty = b := ⟨_, rfl⟩
        rw [heb]
        cases eb
        · have heb2 : (n.toList == []) = false := by cases h : n.toList <;> simp_all
          have heb3 : ¬ n.toList = [] := by cases h : n.toList <;> simp_all
          go_enter Tryd.func77, Tryd.ntmps77
          go_wp2_with fail
          go_ret
          exact ⟨rfl, HB.out⟩
        · have heb3 : n.toList = [] := by cases h : n.toList <;> simp_all
          rw [Bool.true_and]
          by_cases h0 : x = 0
          · subst h0
            go_enter Tryd.func77, Tryd.ntmps77
            go_wp2_with fail
            go_ret
            exact ⟨rfl, HB.out⟩
          · have h0' : (x == 0) = false := by simpa using h0
            rw [h0', Bool.false_or]
            clear h0
            go_enter Tryd.func77, Tryd.ntmps77
            go_wp2_with fail
            go_ret
            exact ⟨rfl, HB.out⟩
      · have h3' : (k == 3) = false := by simpa using h3
        rw [if_neg h3]
        clear h3
        go_enter Tryd.func77, Tryd.ntmps77
        go_wp2_with fail
        go_ret
        exact ⟨rfl, HB.out⟩

end Go.Proofs.YtmedijheidbmhaaDoor

/- Processes: more of the program's small checks. -/
namespace Go.Proofs.YtmedijheidbmhaaDoor
open Go.RowKit Go.Deep Go.Shelf

theorem kidForEachLabel_any (S : Nat → Prop) (p : Pr) (b o : Nat) (w : World) (hp : PrAt S w p b o) : Calls Tryd.prog 59 #[.pointer (some ⟨b, o, none⟩)] w fun e w' => e = .returned (.bool (decide (p.ps.length = p.ls.length))) ∧ Below w.heap.size w w' := by
  obtain ⟨_, _, _, _, lv, av, kv, c3, c4, c11, hl, ha, hk⟩ := PrAt.eq.1 hp
  obtain ⟨pa, len, c, rfl, hlen, _⟩ := hk.open
  obtain ⟨la, ln, lc, rfl, hln, _⟩ := hl.open
  rw [← hlen.out, ← hln.out]
  clear hp hl ha hk hlen hln
  go_enter Tryd.func59, Tryd.ntmps59
  go_wp2_with fail
  go_region
  go_wp2_with fail
  go_ret
  exact ⟨ret_bool (by rw [Bool.eq_iff_iff]; simp; omega), (Below.refl _ _).drew⟩

def partsB (ps : List Pr) : Bool := decide (∀ p ∈ ps, p.k ≠ 7) && decide (1 < ps.length)
set_option maxHeartbeats 1000000 in
theorem parts_any (S : Nat → Prop) (p : Pr) (b o : Nat) (w : World) (hp : PrAt S w p b o) : Calls Tryd.prog 62 #[.pointer (some ⟨b, o, none⟩)] w fun e w' => e = .returned (.bool (partsB p.ps)) ∧ w = w' := by
  obtain ⟨_, _, _, _, lv, av, kv, c3, c4, c11, hl, ha, hk⟩ := PrAt.eq.1 hp
  obtain ⟨pa, len, c, rfl, hlen, hm, hget⟩ := hk.open
  obtain ⟨ps, hps⟩ : ∃ ps, p.ps = ps := ⟨_, rfl⟩
  rw [hps] at hget hlen ⊢
  have HG := Lib.hid hget
  clear hp hl ha hk hget hps
  go_enter Tryd.func62, Tryd.ntmps62
  go_wp2_with fail
  go_loopw [9] (fun i wr => ∃ (j : Nat), i = .int .i64 (j : Int) ∧ j ≤ len ∧ Hid (∀ p ∈ ps.take j, p.k ≠ 7) ∧ w = wr) (fun i _ => len - (intOf i).toNat)
  case atStart => exact ⟨0, rfl, by omega, Lib.hid (by simp), rfl⟩
  case round =>
    obtain ⟨j, rfl, hj, HT, rfl⟩ := hrel
    by_cases hlt : j < len
    · obtain ⟨x, hx⟩ : ∃ x, ps[j]? = some x := ⟨_, List.getElem?_eq_getElem (by rw [← hlen.out]; exact hlt)⟩
      obtain ⟨kb, ko, rfl, hkb, hc⟩ := HG.out j x hx
      have hc0 := (PrAt.eq.1 hc).2.2.1.1
      have HX := Lib.hid hx
      obtain ⟨xk, hxk⟩ : ∃ k, x.k = k := ⟨_, rfl⟩
      rw [hxk] at hc0
      have HXK := Lib.hid hxk
      clear hx hc hxk
      by_cases h7 : xk = 7
      · subst h7
        have hf : Hid (partsB ps = false) := Lib.hid (by
          unfold partsB
          rw [Bool.and_eq_false_iff]
          left
          rw [decide_eq_false_iff_not]
          intro h
          exact h x (List.mem_of_getElem? HX.out) HXK.out)
        go_wp2_with fail
        go_ret
        exact ⟨ret_bool hf.out.symm, rfl⟩
      · have h7' : (xk == 7) = false := by simpa using h7
        have hf : Hid (∀ p ∈ ps.take (j + 1), p.k ≠ 7) := Lib.hid (by
          rw [take_snoc_get HX.out]
          intro q hq
          rcases List.mem_append.1 hq with hq | hq
          · exact HT.out q hq
          · obtain rfl := List.mem_singleton.1 hq
            rw [HXK.out]; exact h7)
        clear h7
        go_wp2_with fail
        go_roundw
        case rel => exact ⟨j + 1, by go_num, by omega, hf, by trivial⟩
        case measure => simp [intOf]; omega
    · obtain rfl : j = len := by omega
      have hn := HT.out
      rw [List.take_of_length_le (by rw [hlen.out]; exact Nat.le_refl _)] at hn
      have hf : Hid (partsB ps = decide (1 < j)) := Lib.hid (by unfold partsB; rw [decide_eq_true hn, hlen.out, Bool.true_and])
      clear hn
      go_wp2_with fail
      go_ret
      exact ⟨ret_bool (by rw [hf.out]; rw [Bool.eq_iff_iff]; simp; omega), rfl⟩

def vlsB (vs : List Vl) : Bool := decide (∀ v ∈ vs, vlB v = true)
set_option maxHeartbeats 1000000 in
theorem values_any (S : Nat → Prop) (p : Pr) (b o E : Nat) (w : World) (hS : Low S w) (he : Env E w) (hp : PrAt S w p b o) : Calls Tryd.prog 63 #[.pointer (some ⟨b, o, none⟩)] w fun e w' => e = .returned (.bool (vlsB p.vs)) ∧ Below w.heap.size w w' := by
  obtain ⟨_, _, _, _, lv, av, kv, c3, c4, c11, hl, ha, hk⟩ := PrAt.eq.1 hp
  obtain ⟨pa, len, c, rfl, hlen, hm, hget⟩ := ha.open
  obtain ⟨vs, hps⟩ : ∃ vs, p.vs = vs := ⟨_, rfl⟩
  rw [hps] at hget hlen ⊢
  have HG := Lib.hid hget
  clear hp hl ha hk hget hps
  go_enter Tryd.func63, Tryd.ntmps63
  go_wp2_with fail
  go_loopw [10] (fun i wr => ∃ (j : Nat), i = .int .i64 (j : Int) ∧ j ≤ len ∧ Hid (∀ v ∈ vs.take j, vlB v = true) ∧ Below w.heap.size w wr) (fun i _ => len - (intOf i).toNat)
  case atStart => exact ⟨0, rfl, by omega, Lib.hid (by simp), Below.refl _ _⟩
  case round =>
    obtain ⟨j, rfl, hj, HT, hw⟩ := hrel
    by_cases hlt : j < len
    · obtain ⟨x, hx⟩ : ∃ x, vs[j]? = some x := ⟨_, List.getElem?_eq_getElem (by rw [← hlen.out]; exact hlt)⟩
      obtain ⟨hxn, kb, ko, rfl, hkb, hc⟩ := HG.out j x hx
      have hc0 := (hw.cell (p := ⟨kb, ko + j * 3, none⟩) (hS kb hkb)).trans hc.1
      have hc1 := (hw.cell (p := ⟨kb, ko + j * 3 + 1, none⟩) (hS kb hkb)).trans hc.2.1
      have hc2 := (hw.cell (p := ⟨kb, ko + j * 3 + 2, none⟩) (hS kb hkb)).trans hc.2.2
      have HX := Lib.hid hx
      obtain ⟨k, n, y⟩ := x
      simp only at hc0 hc1 hc2 hxn
      have hbx : Below w.heap.size w (wr.alloc (Obj.cells #[.int .i64 k, .string n, .int .i64 y] 51)) := hw.alloc hw.size _
      have HE := Lib.hid (he.to hbx)
      obtain ⟨vb, hvb⟩ : ∃ b, vlB ⟨k, n, y⟩ = b := ⟨_, rfl⟩
      have HV := Lib.hid (valueFits_any k y n hxn E _ HE.out)
      rw [hvb] at HV
      have HVB := Lib.hid hvb
      have HBX := Lib.hid hbx
      clear hx hc hvb hbx
      cases vb with
      | false =>
        have hf : Hid (vlsB vs = false) := Lib.hid (by
          unfold vlsB
          rw [decide_eq_false_iff_not]
          intro h
          have := h _ (List.mem_of_getElem? HX.out)
          rw [HVB.out] at this
          cases this)
        go_wp2_with (go_at_call 77; refine HV.out.mono ?_; rintro e w2 ⟨rfl, hb2⟩)
        go_ret
        exact ⟨ret_bool hf.out.symm, HBX.out.trans (hb2.mono HBX.out.size)⟩
      | true =>
        have hf : Hid (∀ v ∈ vs.take (j + 1), vlB v = true) := Lib.hid (by
          rw [take_snoc_get HX.out]
          intro q hq
          rcases List.mem_append.1 hq with hq | hq
          · exact HT.out q hq
          · obtain rfl := List.mem_singleton.1 hq
            exact HVB.out)
        go_wp2_with (go_at_call 77; refine HV.out.mono ?_; rintro e w2 ⟨rfl, hb2⟩)
        go_roundw
        case rel => exact ⟨j + 1, by go_num, by omega, hf, HBX.out.trans (hb2.mono HBX.out.size)⟩
        case measure => simp [intOf]; omega
    · obtain rfl : j = len := by omega
      have hn := HT.out
      rw [List.take_of_length_le (by rw [hlen.out]; exact Nat.le_refl _)] at hn
      have hf : Hid (vlsB vs = true) := Lib.hid (by unfold vlsB; rw [decide_eq_true hn])
      clear hn
      go_wp2_with fail
      go_ret
      exact ⟨ret_bool hf.out.symm, hw⟩

theorem oneValue_any (S : Nat → Prop) (p : Pr) (b o E : Nat) (w : World) (hS : Low S w) (he : Env E w) (hp : PrAt S w p b o) : Calls Tryd.prog 54 #[.pointer (some ⟨b, o, none⟩)] w fun e w' => e = .returned (.bool (decide (p.vs.length = 1) && vlsB p.vs)) ∧ Below w.heap.size w w' := by
  have HV := Lib.hid (values_any S p b o E w hS he hp)
  obtain ⟨_, _, _, _, lv, av, kv, c3, c4, c11, hl, ha, hk⟩ := PrAt.eq.1 hp
  obtain ⟨pa, len, c, rfl, hlen, hm, hget⟩ := ha.open
  obtain ⟨vb, hvb⟩ : ∃ b, vlsB p.vs = b := ⟨_, rfl⟩
  rw [hvb] at HV ⊢
  rw [← hlen.out]
  clear hp hl ha hk hget hlen hvb
  by_cases h1 : len = 1
  · subst h1
    go_enter Tryd.func54, Tryd.ntmps54
    go_wp2_with (go_at_call 63; refine HV.out.mono ?_; rintro e w2 ⟨rfl, hb2⟩)
    go_ret
    exact ⟨ret_bool (by simp), hb2⟩
  · have h1' : ((len : Int) == 1) = false := by simp; omega
    go_enter Tryd.func54, Tryd.ntmps54
    go_wp2_with fail
    go_ret
    exact ⟨ret_bool (by simp [h1]), Below.refl _ _⟩

theorem oneLabel_any (S : Nat → Prop) (p : Pr) (b o E : Nat) (w : World) (he : Env E w) (hp : PrAt S w p b o) : Calls Tryd.prog 57 #[.pointer (some ⟨b, o, none⟩)] w fun e w' => e = .returned (.bool (decide (p.ls.length = 1) && labelsB p.ls)) ∧ Below w.heap.size w w' := by
  obtain ⟨_, _, _, _, lv, av, kv, c3, c4, c11, hl, ha, hk⟩ := PrAt.eq.1 hp
  obtain ⟨pa, len, c, rfl, hlen, hm, hget⟩ := hl.open
  obtain ⟨ls, hls⟩ : ∃ ls, p.ls = ls := ⟨_, rfl⟩
  rw [hls] at hget hlen ⊢
  by_cases h1 : len = 1
  · subst h1
    obtain ⟨x, hx⟩ : ∃ x, ls = [x] := by
      have := hlen.out
      cases ls with
      | nil => simp at this
      | cons x r => cases r with
        | nil => exact ⟨x, rfl⟩
        | cons y r => simp at this
    subst hx
    obtain ⟨hxs, kb, ko, rfl, hkb, hc⟩ := hget 0 x rfl
    rw [Nat.add_zero] at hc
    have HN := Lib.hid (tname_is x _ rfl hxs E w he)
    have hlb : labelsB [x] = nameB x := by rw [show [x] = [] ++ [x] from rfl, labelsB_snoc]; simp [labelsB, memB]
    rw [hlb]
    obtain ⟨nb, hnb⟩ : ∃ b, nameB x = b := ⟨_, rfl⟩
    rw [hnb] at HN ⊢
    clear hp hl ha hk hget hlen hlb hnb hls
    go_enter Tryd.func57, Tryd.ntmps57
    go_wp2_with (go_at_call 44; refine HN.out.mono ?_; rintro e w2 ⟨rfl, rfl⟩)
    go_ret
    exact ⟨ret_bool (by simp), Below.refl _ _⟩
  · have h1' : ((len : Int) == 1) = false := by simp; omega
    have hf : (decide (ls.length = 1) && labelsB ls) = false := by rw [← hlen.out]; simp [h1]
    have HF := Lib.hid hf
    clear hp hl ha hk hget hlen hls hf
    go_enter Tryd.func57, Tryd.ntmps57
    go_wp2_with fail
    go_ret
    exact ⟨ret_bool HF.out.symm, Below.refl _ _⟩

end Go.Proofs.YtmedijheidbmhaaDoor

/- Processes: differentLabels, rightSession, varIsOtherName. -/
namespace Go.Proofs.YtmedijheidbmhaaDoor
open Go.RowKit Go.Deep Go.Shelf

theorem Seen.len {w : World} {b j : Nat} {l : List ByteArray} (h : Seen w b j l) (hj : l = [] → j = 0) (ty : TypeId) :
    ∃ q : Nat, (Builtin.len_ #[67] ty #[.map (some b)]).run Tryd.prog w = .ok (.int .i64 q) w ∧ (0 < q ↔ 0 < l.length) := by
  obtain ⟨D, ho, hat⟩ := h
  refine ⟨_, ho.len Tryd.underlying67 ty, ?_⟩
  obtain ⟨es, rfl⟩ := ho.isMap
  cases l with
  | nil =>
    have := ho.size_le
    have h0 := hj rfl
    simp only [List.length_nil]
    omega
  | cons x r =>
    simp only [List.length_cons]
    refine ⟨fun _ => by omega, fun _ => ?_⟩
    have h1 := hat x
    rw [memB_true.2 (by simp)] at h1
    cases es with
    | nil => simp [DataW.atKey] at h1
    | cons e r' => simp [Maps.size_eq]

set_option maxHeartbeats 2000000 in
theorem differentLabels_any (S : Nat → Prop) (p : Pr) (b o E : Nat) (w : World) (hB : Low S w) (he : Env E w) (hp : PrAt S w p b o) :
    Calls Tryd.prog 58 #[.pointer (some ⟨b, o, none⟩)] w fun e w' => e = .returned (.bool (labelsB p.ls && decide (0 < p.ls.length))) ∧ Below w.heap.size w w' := by
  obtain ⟨hSb, _, _, _, lv, av, kv, c3, c4, c11, hl, ha, hk⟩ := PrAt.eq.1 hp
  have hbl := hB _ hSb
  have hsz := hl.2
  obtain ⟨pa, len, c, rfl, hlen, hm, hget⟩ := hl.open
  obtain ⟨ls, hls⟩ : ∃ ls, p.ls = ls := ⟨_, rfl⟩
  rw [hls] at hget hlen hsz ⊢
  have HG := Lib.hid hget
  have HS := Lib.hid hsz
  clear hp hl ha hk hget hls hsz
  have hmk := run_makeMap_hint
  go_enter Tryd.func58, Tryd.ntmps58
  go_wp2_with fail
  go_loopw [17] (fun i wr => ∃ (j : Nat), i = .int .i64 (j : Int) ∧ j ≤ len ∧ Hid (labelsB (ls.take j) = true) ∧ Hid (Seen wr w.heap.size j (ls.take j)) ∧ Below w.heap.size w wr) (fun i _ => len - (intOf i).toNat)
  case atStart => exact ⟨0, rfl, by omega, Lib.hid (by simp [labelsB]), Lib.hid ⟨_, World.ownsMap_made w _ _ _, fun s => rfl⟩, (Below.refl _ _).alloc (Nat.le_refl _) _⟩
  case round =>
    obtain ⟨j, rfl, hj, HT, HSE, hw⟩ := hrel
    by_cases hlt : j < len
    · obtain ⟨x, hx⟩ : ∃ x, ls[j]? = some x := ⟨_, List.getElem?_eq_getElem (by rw [← hlen.out]; exact hlt)⟩
      obtain ⟨hxs, kb, ko, rfl, hkb, hc⟩ := HG.out j x hx
      replace hc := (hw.cell (p := ⟨kb, ko + j, none⟩) (hB kb hkb)).trans hc
      have hj' : j < maxLen := by unfold maxLen; omega
      have hlk := HSE.out.look hxs
      have HE := Lib.hid (he.below (hw.mono he.size))
      have HX := Lib.hid hx
      cases hmb : memB x (ls.take j) with
      | true =>
        have hf : Hid ((labelsB ls && decide (0 < ls.length)) = false) := Lib.hid (by rw [labelsB_prefix (j := j + 1) (by rw [take_snoc_get HX.out, labelsB_snoc, hmb]; simp)]; rfl)
        rw [hmb] at hlk
        clear hx hmb
        go_wp2_with fail
        go_ret
        exact ⟨ret_bool hf.out.symm, hw⟩
      | false =>
        rw [hmb] at hlk
        have HNM := Lib.hid (name_any x hxs E wr HE.out)
        cases hn : nameB x with
        | false =>
          have hf : Hid ((labelsB ls && decide (0 < ls.length)) = false) := Lib.hid (by rw [labelsB_prefix (j := j + 1) (by rw [take_snoc_get HX.out, labelsB_snoc, hn]; simp)]; rfl)
          rw [hn] at HNM
          clear hx hmb hn
          go_wp2_with (go_at_call 44; refine HNM.out.mono ?_; rintro e w2 ⟨rfl, rfl⟩)
          go_ret
          exact ⟨ret_bool hf.out.symm, hw⟩
        | true =>
          have hf : Hid (labelsB (ls.take (j + 1)) = true) := Lib.hid (by rw [take_snoc_get HX.out, labelsB_snoc, hn, hmb, HT.out]; rfl)
          rw [hn] at HNM
          obtain ⟨w1, hup, hse1, hgr⟩ := HSE.out.put hj' hxs
          have hse2 : Hid (Seen w1 w.heap.size (j + 1) (ls.take (j + 1))) := Lib.hid (by rw [take_snoc_get HX.out]; exact hse1)
          have hw1 : Hid (Below w.heap.size w w1) := Lib.hid (hw.grown hgr hw.size (fun k e => by cases e; exact Nat.le_refl _))
          clear hx hmb hn hse1 hgr
          go_wp2_with (go_at_call 44; refine HNM.out.mono ?_; rintro e w2 ⟨rfl, rfl⟩)
          go_roundw
          case rel => exact ⟨j + 1, by go_num, by omega, hf, hse2, hw1.out⟩
          case measure => (simp [intOf]) <;> omega
    · obtain rfl : j = len := by omega
      have hall : ls.take j = ls := List.take_of_length_le (by rw [hlen.out]; exact Nat.le_refl _)
      have hn : labelsB ls = true := by have := HT.out; rwa [hall] at this
      have hse := HSE.out
      rw [hall] at hse
      obtain ⟨q, hln, hq⟩ := hse.len (fun e => by rw [hlen.out, e]; rfl) 3
      have HN : Hid ((labelsB ls && decide (0 < ls.length)) = decide (0 < q)) := Lib.hid (by rw [hn, Bool.true_and]; exact decide_eq_decide.2 hq.symm)
      have hqm : (q : Int) ≤ 9223372036854775807 := by
        have hl2 := hln
        obtain ⟨D, ho, _⟩ := hse
        rw [ho.len Tryd.underlying67 3] at hl2
        have h3 := ho.size_le
        injection hl2 with h4
        injection h4 with _ h5
        try omega
      clear hn hall hq hse
      go_wp2_with fail
      go_ret
      exact ⟨ret_bool (by rw [HN.out]), hw⟩

theorem rightSession_any (S : Nat → Prop) (p : Pr) (b o E : Nat) (w : World) (hS : Low S w) (he : Env E w) (hf : p.t.fine) (hdep : p.t.depth ≤ 1000) (hp : PrAt S w p b o) :
    Calls Tryd.prog 61 #[.pointer (some ⟨b, o, none⟩)] w fun e w' => e = .returned (.bool ((p.t.k != 1 && p.t.k != 2) && rightE p.t == 0)) ∧ Below w.heap.size w w' := by
  obtain ⟨hSb, _, _, hty, _⟩ := PrAt.eq.1 hp
  have hbl := hS _ hSb
  obtain ⟨la, ln, lc, ka, kn, kc, ⟨d0, d1, d2, d3, d4, d5⟩, hv⟩ := hty.load'
  have HT := Lib.hid (fun (W : World) (hW : Below w.heap.size w W) => tright_any E S p.t hf hdep _ W (hS.le hW.size) (he.below (hW.mono he.size)) (hv.to hS hW))
  obtain ⟨sb, hsb⟩ : ∃ b, (p.t.k != 1 && p.t.k != 2) = b := ⟨_, rfl⟩
  have hs1 := tsession_any p.t.k p.t.p p.t.s p.t.n (.slice la ln lc) (.slice ka kn kc) w
  rw [hsb] at hs1
  have HS1 := Lib.hid hs1
  rw [hsb]
  obtain ⟨r, hr⟩ : ∃ r, rightE p.t = r := ⟨_, rfl⟩
  rw [hr] at HT ⊢
  clear hty hv hp hsb hs1 hr
  cases sb
  · go_enter Tryd.func61, Tryd.ntmps61
    go_wp2_with (go_at_call 76; refine HS1.out.mono ?_; rintro e w2 ⟨rfl, hb2⟩)
    go_ret
    exact ⟨rfl, hb2⟩
  · go_enter Tryd.func61, Tryd.ntmps61
    go_wp2_with (first | (go_at_call 76; refine HS1.out.mono ?_; rintro e w2 ⟨rfl, hb2⟩; have e0 := (hb2.cell (p := ⟨b, o + 5, none⟩) hbl).trans d0; have e1 := (hb2.cell (p := ⟨b, o + 5 + 1, none⟩) hbl).trans d1; have e2 := (hb2.cell (p := ⟨b, o + 5 + 2, none⟩) hbl).trans d2; have e3 := (hb2.cell (p := ⟨b, o + 5 + 3, none⟩) hbl).trans d3; have e4 := (hb2.cell (p := ⟨b, o + 5 + 4, none⟩) hbl).trans d4; have e5 := (hb2.cell (p := ⟨b, o + 5 + 5, none⟩) hbl).trans d5) | (go_at_call 45; refine (HT.out _ hb2).mono ?_; rintro e w3 ⟨rfl, hb3⟩))
    go_ret
    exact ⟨ret_bool (by first | rfl | simp), below_seq hb2 hb3⟩

end Go.Proofs.YtmedijheidbmhaaDoor

/- Processes: varIsOtherName, prefix, nodesAt. -/
namespace Go.Proofs.YtmedijheidbmhaaDoor
open Go.RowKit Go.Deep Go.Shelf

def prefixB (k : Int) : Bool := k == 2 || (k == 3 || (k == 4 || k == 5))
theorem prefix_any (k : Int) (w : World) : Calls Tryd.prog 74 #[.int .i64 k] w fun e w' => e = .returned (.bool (prefixB k)) ∧ w = w' := by
  unfold prefixB
  by_cases h2 : k = 2
  · subst h2
    go_enter Tryd.func74, Tryd.ntmps74
    go_wp2_with fail
    go_ret
    exact ⟨rfl, rfl⟩
  · have h2' : (k == 2) = false := by simpa using h2
    by_cases h3 : k = 3
    · subst h3
      go_enter Tryd.func74, Tryd.ntmps74
      go_wp2_with fail
      go_ret
      exact ⟨rfl, rfl⟩
    · have h3' : (k == 3) = false := by simpa using h3
      by_cases h4 : k = 4
      · subst h4
        go_enter Tryd.func74, Tryd.ntmps74
        go_wp2_with fail
        go_ret
        exact ⟨rfl, rfl⟩
      · have h4' : (k == 4) = false := by simpa using h4
        rw [h2', h3', h4', Bool.false_or, Bool.false_or, Bool.false_or]
        clear h2 h3 h4
        by_cases h5 : k = 5
        · subst h5
          go_enter Tryd.func74, Tryd.ntmps74
          go_wp2_with fail
          go_ret
          exact ⟨rfl, rfl⟩
        · have h5' : (k == 5) = false := by simpa using h5
          clear h5
          go_enter Tryd.func74, Tryd.ntmps74
          go_wp2_with fail
          go_ret
          exact ⟨ret_bool (by first | rfl | rw [h5']), rfl⟩

set_option maxHeartbeats 1000000 in
theorem varIsOtherName_any (S : Nat → Prop) (p : Pr) (b o E : Nat) (w : World) (hS : Low S w) (he : Env E w) (hp : PrAt S w p b o) :
    Calls Tryd.prog 60 #[.pointer (some ⟨b, o, none⟩)] w fun e w' => e = .returned (.bool (nameB p.x && !decide (p.x = p.c))) ∧ Below w.heap.size w w' := by
  obtain ⟨hSb, ⟨hc, hx⟩, ⟨c0, c1, c2⟩, _⟩ := PrAt.eq.1 hp
  have hbl := hS b hSb
  obtain ⟨nb, hnb⟩ : ∃ b, nameB p.x = b := ⟨_, rfl⟩
  have HN := Lib.hid (fun (W : World) (hW : Below w.heap.size w W) => tname_is p.x nb hnb hx E W (he.below (hW.mono he.size)))
  have HW0 : Hid (Below w.heap.size w w) := Lib.hid (Below.refl _ _)
  rw [hnb]
  have p1 : ∀ q : Later w.heap.size w, q.1.cell? ⟨b, o + 1, none⟩ = some (.string p.c) := fun q => (q.2.cell (p := ⟨b, _, none⟩) hbl).trans c1
  have p2 : ∀ q : Later w.heap.size w, q.1.cell? ⟨b, o + 2, none⟩ = some (.string p.x) := fun q => (q.2.cell (p := ⟨b, _, none⟩) hbl).trans c2
  clear hp hnb hc hx c0 c1 c2
  cases nb
  · rw [Bool.false_and]
    go_enter Tryd.func60, Tryd.ntmps60
    go_wp2_with fail
    refine wp_region_later w.heap.size w (by kernel_rfl) (by kernel_rfl) HW0.out ?_
    repeat (go_big_quiet_step ((go_at_call 44; exact later_call_same _ (HN.out _ (Subtype.property _)))))
    refine wpQuiet_nil ?_
    rintro _ ⟨⟨w5, hb5⟩, rfl⟩
    go_wp2_with fail
    go_ret
    exact ⟨rfl, hb5⟩
  · rw [Bool.true_and]
    by_cases heq : p.x = p.c
    · have h1 : (p.x.toList != p.c.toList) = false := by rw [heq]; simp
      have h2 : (p.x.toList == p.c.toList) = true := by rw [heq]; simp
      rw [decide_eq_true heq]
      clear heq
      go_enter Tryd.func60, Tryd.ntmps60
      go_wp2_with fail
      refine wp_region_later w.heap.size w (by kernel_rfl) (by kernel_rfl) HW0.out ?_
      repeat (go_big_quiet_step ((go_at_call 44; exact later_call_same _ (HN.out _ (Subtype.property _)))))
      refine wpQuiet_nil ?_
      rintro _ ⟨⟨w5, hb5⟩, rfl⟩
      go_wp2_with fail
      go_ret
      exact ⟨rfl, hb5⟩
    · have h1 := str_ne heq
      have h2 : (p.x.toList == p.c.toList) = false := by simpa using h1
      rw [decide_eq_false heq]
      clear heq
      go_enter Tryd.func60, Tryd.ntmps60
      go_wp2_with fail
      refine wp_region_later w.heap.size w (by kernel_rfl) (by kernel_rfl) HW0.out ?_
      repeat (go_big_quiet_step ((go_at_call 44; exact later_call_same _ (HN.out _ (Subtype.property _)))))
      refine wpQuiet_nil ?_
      rintro _ ⟨⟨w5, hb5⟩, rfl⟩
      go_wp2_with fail
      go_ret
      exact ⟨rfl, hb5⟩

def Pr.adds (p : Pr) : Nat := if p.k = 6 then 1 + p.t.size else 1
theorem nodesAt_any (S : Nat → Prop) (p : Pr) (b o : Nat) (w : World) (hS : Low S w) (hsz : p.t.size ≤ 1000000) (hdep : p.t.depth ≤ 1000) (hp : PrAt S w p b o) :
    Calls Tryd.prog 52 #[.pointer (some ⟨b, o, none⟩)] w fun e w' => e = .returned (.int .i64 p.adds) ∧ Below w.heap.size w w' := by
  obtain ⟨hSb, _, ⟨c0, _, _⟩, hty, _⟩ := PrAt.eq.1 hp
  obtain ⟨la, ln, lc, ka, kn, kc, ⟨d0, d1, d2, d3, d4, d5⟩, hv⟩ := hty.load'
  have HT := Lib.hid (tsize_any S p.t hsz hdep _ w hS hv)
  unfold Pr.adds
  obtain ⟨k, hk⟩ : ∃ k, p.k = k := ⟨_, rfl⟩
  obtain ⟨q, hq⟩ : ∃ q, p.t.size = q := ⟨_, rfl⟩
  rw [hq] at HT hsz ⊢
  rw [hk] at c0 ⊢
  clear hty hv hp hk hq hdep
  by_cases h6 : k = 6
  · subst h6
    rw [if_pos rfl]
    go_enter Tryd.func52, Tryd.ntmps52
    go_wp2_with (go_at_call 51; refine HT.out.mono ?_; rintro e w2 ⟨rfl, hb2⟩)
    go_ret
    exact ⟨ret_int (by simp), hb2⟩
  · have h6' : (k == 6) = false := by simpa using h6
    rw [if_neg h6]
    clear h6
    go_enter Tryd.func52, Tryd.ntmps52
    go_wp2_with fail
    go_ret
    exact ⟨rfl, Below.refl _ _⟩

end Go.Proofs.YtmedijheidbmhaaDoor

/- Processes: fieldFits and fits. -/
namespace Go.Proofs.YtmedijheidbmhaaDoor
open Go.RowKit Go.Deep Go.Shelf

set_option maxRecDepth 100000 in
theorem run_equalIn_func_nil (w : World) (d : Nat) : (Op.equalIn (d + 1) 85 .nilFunc .nilFunc).run Tryd.prog w = .ok true w := by
  simp [Op.equalIn, run_underlying Tryd.underlying85]
set_option maxRecDepth 100000 in
theorem run_equalIn_func_some (w : World) (d : Nat) (f : Nat) : (Op.equalIn (d + 1) 85 (.func (.func f) #[] #[]) .nilFunc).run Tryd.prog w = .ok false w := by
  simp [Op.equalIn, run_underlying Tryd.underlying85]
theorem eqNil (w : World) : (binOp .eql 85 .nilFunc .nilFunc).run Tryd.prog w = .ok (.bool true) w := by
  simp only [binOp]
  simp [Op.equal, Op.maxDepth, run_equalIn_func_nil w 9999]
theorem eqFn (f : Nat) (w : World) : (binOp .eql 85 (.func (.func f) #[] #[]) .nilFunc).run Tryd.prog w = .ok (.bool false) w := by
  simp only [binOp]
  simp [Op.equal, Op.maxDepth, run_equalIn_func_some w 9999]

theorem fieldFits_nil (a : Option Addr) (e : Bool) (w : World) : Calls Tryd.prog 66 #[.nilFunc, .pointer a, .bool e] w fun en w' => en = .returned (.bool e) ∧ Below w.heap.size w w' := by
  have hq := eqNil
  go_enter Tryd.func66, Tryd.ntmps66
  go_wp2_with fail
  go_ret
  exact ⟨rfl, Below.refl _ _⟩

theorem fieldFits_fn (f : Nat) (eg : ∀ args w, (callFunc f args).run Tryd.prog w = .ok (.enter f args) w) (a : Option Addr) (e r : Bool) (w : World)
    (hc : Calls Tryd.prog f #[.pointer a] w fun en w' => en = .returned (.bool r) ∧ Below w.heap.size w w') :
    Calls Tryd.prog 66 #[.func (.func f) #[] #[], .pointer a, .bool e] w fun en w' => en = .returned (.bool r) ∧ Below w.heap.size w w' := by
  have HC := Lib.hid hc
  clear hc
  have hq := eqFn f
  go_enter Tryd.func66, Tryd.ntmps66
  go_wp2_with fail
  refine HC.out.mono ?_
  rintro en w2 ⟨rfl, hb2⟩
  go_wp2_with fail
  go_ret
  exact ⟨rfl, hb2⟩

end Go.Proofs.YtmedijheidbmhaaDoor

/- Processes: fits. -/
namespace Go.Proofs.YtmedijheidbmhaaDoor
open Go.RowKit Go.Deep Go.Shelf

/-- What a check of a rule answers. -/
def Chk (w : World) (f : Value) (b o : Nat) (e r : Bool) : Prop := (∀ W, Below w.heap.size w W → Calls Tryd.prog 66 #[f, .pointer (some ⟨b, o, none⟩), .bool e] W fun en w' => en = .returned (.bool r) ∧ Below W.heap.size W w')
theorem Chk.to {w : World} {f : Value} {b o : Nat} {e r : Bool} (h : Chk w f b o e r) {W : World} (hW : Below w.heap.size w W) {e' : Bool} (he : e' = e) : Calls Tryd.prog 66 #[f, .pointer (some ⟨b, o, none⟩), .bool e'] W fun en w' => en = .returned (.bool r) ∧ Below W.heap.size W w' := by subst he; exact h W hW
theorem tyVal_zero (B : Nat → Prop) (w : World) : TyVal B w (.agg #[.int .i64 0, .int .i64 0, .string ⟨#[]⟩, .int .i64 0, .slice none 0 0, .slice none 0 0]) default :=
  ⟨.slice none 0 0, .slice none 0 0, rfl, Nat.zero_le _, ⟨.inl ⟨⟨_, _, rfl⟩, rfl⟩, by simp [maxLen, default, Ty.ls], by intro s hs; cases hs⟩, ⟨.inl ⟨⟨_, _, rfl⟩, rfl⟩, by simp [maxLen, default, Ty.ts]⟩⟩

theorem run_build0 (W : World) : (Instr.build 27 #[]).run Tryd.prog W = .ok (.agg #[.int .i64 0, .int .i64 0, .string ⟨#[]⟩, .int .i64 0, .slice none 0 0, .slice none 0 0]) W := by kernel_rfl

set_option maxHeartbeats 4000000 in
theorem pfits_any (S : Nat → Prop) (p : Pr) (b o : Nat) (f0 f1 f2 f3 f4 f5 : Value) (r0 r1 r2 r3 r4 r5 : Bool) (w : World) (hS : Low S w) (hp : PrAt S w p b o)
    (h0 : Chk w f0 b o p.c.toList.isEmpty r0) (h1 : Chk w f1 b o p.x.toList.isEmpty r1) (h2 : Chk w f2 b o (decide (p.ls.length = 0)) r2) (h3 : Chk w f3 b o (decide (p.vs.length = 0)) r3)
    (h4 : Chk w f4 b o (eqB p.t default) r4) (h5 : Chk w f5 b o (decide (p.ps.length = 0)) r5) :
    Calls Tryd.prog 43 #[.agg #[f0, f1, f2, f3, f4, f5], .pointer (some ⟨b, o, none⟩)] w fun e w' => e = .returned (.bool (r0 && (r1 && (r2 && (r3 && (r4 && r5)))))) ∧ Below w.heap.size w w' := by
  obtain ⟨hSb, _, ⟨_, c1, c2⟩, hty, lv, av, kv, c3, c4, c11, hl, ha, hk⟩ := PrAt.eq.1 hp
  have hbl := hS b hSb
  obtain ⟨pa, len, c, rfl, hlen, _⟩ := hk.open
  obtain ⟨la, ln, lc, rfl, hln, _⟩ := hl.open
  obtain ⟨aa, an, ac, rfl, han, _⟩ := ha.open
  obtain ⟨tla, tln, tlc, tka, tkn, tkc, ⟨d0, d1, d2, d3, d4, d5⟩, hv⟩ := hty.load'
  rw [← hlen.out] at h5
  rw [← hln.out] at h2
  rw [← han.out] at h3
  have hsame := fun (W : World) (hW : Below w.heap.size w W) => tsame_any S p.t default _ _ W (hS.le hW.size) (hv.to hS hW) (tyVal_zero S W)
  obtain ⟨e4, he4⟩ : ∃ e, eqB p.t default = e := ⟨_, rfl⟩
  rw [he4] at hsame h4
  have HS := Lib.hid hsame
  have H0 := Lib.hid h0
  have H1 := Lib.hid h1
  have H2 := Lib.hid h2
  have H3 := Lib.hid h3
  have H4 := Lib.hid h4
  have H5 := Lib.hid h5
  have HW0 : Hid (Below (w.heap.size + 1) (w.alloc (.cells #[f0, f1, f2, f3, f4, f5] 92)) (w.alloc (.cells #[f0, f1, f2, f3, f4, f5] 92))) := Lib.hid (Below.refl _ _)
  have HSZ : Hid (w.heap.size + 1 ≤ (w.alloc (.cells #[f0, f1, f2, f3, f4, f5] 92)).heap.size) := Lib.hid (by simp)
  have p1 : ∀ q : Later (w.heap.size + 1) (w.alloc (.cells #[f0, f1, f2, f3, f4, f5] 92)), q.1.cell? ⟨b, o + 1, none⟩ = some (.string p.c) := fun q => ((blk_below q.2).cell (p := ⟨b, _, none⟩) hbl).trans c1
  have p2 : ∀ q : Later (w.heap.size + 1) (w.alloc (.cells #[f0, f1, f2, f3, f4, f5] 92)), q.1.cell? ⟨b, o + 2, none⟩ = some (.string p.x) := fun q => ((blk_below q.2).cell (p := ⟨b, _, none⟩) hbl).trans c2
  have p3 : ∀ q : Later (w.heap.size + 1) (w.alloc (.cells #[f0, f1, f2, f3, f4, f5] 92)), q.1.cell? ⟨b, o + 3, none⟩ = some (.slice la ln lc) := fun q => ((blk_below q.2).cell (p := ⟨b, _, none⟩) hbl).trans c3
  have p4 : ∀ q : Later (w.heap.size + 1) (w.alloc (.cells #[f0, f1, f2, f3, f4, f5] 92)), q.1.cell? ⟨b, o + 4, none⟩ = some (.slice aa an ac) := fun q => ((blk_below q.2).cell (p := ⟨b, _, none⟩) hbl).trans c4
  have p5 : ∀ q : Later (w.heap.size + 1) (w.alloc (.cells #[f0, f1, f2, f3, f4, f5] 92)), q.1.cell? ⟨b, o + 11, none⟩ = some (.slice pa len c) := fun q => ((blk_below q.2).cell (p := ⟨b, _, none⟩) hbl).trans c11
  have t0 : ∀ q : Later (w.heap.size + 1) (w.alloc (.cells #[f0, f1, f2, f3, f4, f5] 92)), q.1.cell? ⟨b, o + 5, none⟩ = some (.int .i64 p.t.k) := fun q => ((blk_below q.2).cell (p := ⟨b, _, none⟩) hbl).trans d0
  have t1 : ∀ q : Later (w.heap.size + 1) (w.alloc (.cells #[f0, f1, f2, f3, f4, f5] 92)), q.1.cell? ⟨b, o + 5 + 1, none⟩ = some (.int .i64 p.t.p) := fun q => ((blk_below q.2).cell (p := ⟨b, _, none⟩) hbl).trans d1
  have t2 : ∀ q : Later (w.heap.size + 1) (w.alloc (.cells #[f0, f1, f2, f3, f4, f5] 92)), q.1.cell? ⟨b, o + 5 + 2, none⟩ = some (.string p.t.n) := fun q => ((blk_below q.2).cell (p := ⟨b, _, none⟩) hbl).trans d2
  have t3 : ∀ q : Later (w.heap.size + 1) (w.alloc (.cells #[f0, f1, f2, f3, f4, f5] 92)), q.1.cell? ⟨b, o + 5 + 3, none⟩ = some (.int .i64 p.t.s) := fun q => ((blk_below q.2).cell (p := ⟨b, _, none⟩) hbl).trans d3
  have t4 : ∀ q : Later (w.heap.size + 1) (w.alloc (.cells #[f0, f1, f2, f3, f4, f5] 92)), q.1.cell? ⟨b, o + 5 + 4, none⟩ = some (.slice tla tln tlc) := fun q => ((blk_below q.2).cell (p := ⟨b, _, none⟩) hbl).trans d4
  have t5 : ∀ q : Later (w.heap.size + 1) (w.alloc (.cells #[f0, f1, f2, f3, f4, f5] 92)), q.1.cell? ⟨b, o + 5 + 5, none⟩ = some (.slice tka tkn tkc) := fun q => ((blk_below q.2).cell (p := ⟨b, _, none⟩) hbl).trans d5
  have u0 : ∀ q : Later (w.heap.size + 1) (w.alloc (.cells #[f0, f1, f2, f3, f4, f5] 92)), q.1.cell? ⟨w.heap.size, 0, none⟩ = some f0 := fun q => blk_cell q.2 0 rfl
  have u1 : ∀ q : Later (w.heap.size + 1) (w.alloc (.cells #[f0, f1, f2, f3, f4, f5] 92)), q.1.cell? ⟨w.heap.size, 1, none⟩ = some f1 := fun q => blk_cell q.2 1 rfl
  have u2 : ∀ q : Later (w.heap.size + 1) (w.alloc (.cells #[f0, f1, f2, f3, f4, f5] 92)), q.1.cell? ⟨w.heap.size, 2, none⟩ = some f2 := fun q => blk_cell q.2 2 rfl
  have u3 : ∀ q : Later (w.heap.size + 1) (w.alloc (.cells #[f0, f1, f2, f3, f4, f5] 92)), q.1.cell? ⟨w.heap.size, 3, none⟩ = some f3 := fun q => blk_cell q.2 3 rfl
  have u4 : ∀ q : Later (w.heap.size + 1) (w.alloc (.cells #[f0, f1, f2, f3, f4, f5] 92)), q.1.cell? ⟨w.heap.size, 4, none⟩ = some f4 := fun q => blk_cell q.2 4 rfl
  have u5 : ∀ q : Later (w.heap.size + 1) (w.alloc (.cells #[f0, f1, f2, f3, f4, f5] 92)), q.1.cell? ⟨w.heap.size, 5, none⟩ = some f5 := fun q => blk_cell q.2 5 rfl
  have hbd := fun (q : Later (w.heap.size + 1) (w.alloc (.cells #[f0, f1, f2, f3, f4, f5] 92))) => run_build0 q.1
  clear h0 h1 h2 h3 h4 h5 hl ha hk hp hty hv hsame he4 c1 c2 c3 c4 c11 d0 d1 d2 d3 d4 d5 hlen hln han
  cases r0
  · rw [Bool.false_and]
    go_enter Tryd.func43, Tryd.ntmps43
    go_wp2_with fail
    refine wp_region_later (w.heap.size + 1) (w.alloc (.cells #[f0, f1, f2, f3, f4, f5] 92)) (by kernel_rfl) (by kernel_rfl) HW0.out ?_
    dsimp only [List.append]
    repeat (go_big_quiet_step (first | (go_at_call 66; with_reducible exact later_call _ HSZ.out (H0.out.to (blk_below (Subtype.property _)) (by first | rfl | (rw [Bool.eq_iff_iff]; simp))))  | (go_at_call 66; with_reducible exact later_call _ HSZ.out (H1.out.to (blk_below (Subtype.property _)) (by first | rfl | (rw [Bool.eq_iff_iff]; simp))))  | (go_at_call 66; with_reducible exact later_call _ HSZ.out (H2.out.to (blk_below (Subtype.property _)) (by first | rfl | (rw [Bool.eq_iff_iff]; simp))))  | (go_at_call 66; with_reducible exact later_call _ HSZ.out (H3.out.to (blk_below (Subtype.property _)) (by first | rfl | (rw [Bool.eq_iff_iff]; simp))))  | (go_at_call 66; with_reducible exact later_call _ HSZ.out (H4.out.to (blk_below (Subtype.property _)) (by first | rfl | (rw [Bool.eq_iff_iff]; simp))))  | (go_at_call 66; with_reducible exact later_call _ HSZ.out (H5.out.to (blk_below (Subtype.property _)) (by first | rfl | (rw [Bool.eq_iff_iff]; simp))))  | (go_at_call 67; exact later_call _ HSZ.out (HS.out _ (blk_below (Subtype.property _))))))
    refine wpQuiet_nil ?_
    rintro _ ⟨⟨w5, hb5⟩, rfl⟩
    clear u0 u1 u2 u3 u4 u5 p1 p2 p3 p4 p5 t0 t1 t2 t3 t4 t5 hbd
    go_wp2_with fail
    go_ret
    exact ⟨rfl, blk_below hb5⟩
  · rw [Bool.true_and]
    cases r1
    · rw [Bool.false_and]
      go_enter Tryd.func43, Tryd.ntmps43
      go_wp2_with fail
      refine wp_region_later (w.heap.size + 1) (w.alloc (.cells #[f0, f1, f2, f3, f4, f5] 92)) (by kernel_rfl) (by kernel_rfl) HW0.out ?_
      dsimp only [List.append]
      repeat (go_big_quiet_step (first | (go_at_call 66; with_reducible exact later_call _ HSZ.out (H0.out.to (blk_below (Subtype.property _)) (by first | rfl | (rw [Bool.eq_iff_iff]; simp))))  | (go_at_call 66; with_reducible exact later_call _ HSZ.out (H1.out.to (blk_below (Subtype.property _)) (by first | rfl | (rw [Bool.eq_iff_iff]; simp))))  | (go_at_call 66; with_reducible exact later_call _ HSZ.out (H2.out.to (blk_below (Subtype.property _)) (by first | rfl | (rw [Bool.eq_iff_iff]; simp))))  | (go_at_call 66; with_reducible exact later_call _ HSZ.out (H3.out.to (blk_below (Subtype.property _)) (by first | rfl | (rw [Bool.eq_iff_iff]; simp))))  | (go_at_call 66; with_reducible exact later_call _ HSZ.out (H4.out.to (blk_below (Subtype.property _)) (by first | rfl | (rw [Bool.eq_iff_iff]; simp))))  | (go_at_call 66; with_reducible exact later_call _ HSZ.out (H5.out.to (blk_below (Subtype.property _)) (by first | rfl | (rw [Bool.eq_iff_iff]; simp))))  | (go_at_call 67; exact later_call _ HSZ.out (HS.out _ (blk_below (Subtype.property _))))))
      refine wpQuiet_nil ?_
      rintro _ ⟨⟨w5, hb5⟩, rfl⟩
      clear u0 u1 u2 u3 u4 u5 p1 p2 p3 p4 p5 t0 t1 t2 t3 t4 t5 hbd
      go_wp2_with fail
      go_ret
      exact ⟨rfl, blk_below hb5⟩
    · rw [Bool.true_and]
      cases r2
      · rw [Bool.false_and]
        go_enter Tryd.func43, Tryd.ntmps43
        go_wp2_with fail
        refine wp_region_later (w.heap.size + 1) (w.alloc (.cells #[f0, f1, f2, f3, f4, f5] 92)) (by kernel_rfl) (by kernel_rfl) HW0.out ?_
        dsimp only [List.append]
        repeat (go_big_quiet_step (first | (go_at_call 66; with_reducible exact later_call _ HSZ.out (H0.out.to (blk_below (Subtype.property _)) (by first | rfl | (rw [Bool.eq_iff_iff]; simp))))  | (go_at_call 66; with_reducible exact later_call _ HSZ.out (H1.out.to (blk_below (Subtype.property _)) (by first | rfl | (rw [Bool.eq_iff_iff]; simp))))  | (go_at_call 66; with_reducible exact later_call _ HSZ.out (H2.out.to (blk_below (Subtype.property _)) (by first | rfl | (rw [Bool.eq_iff_iff]; simp))))  | (go_at_call 66; with_reducible exact later_call _ HSZ.out (H3.out.to (blk_below (Subtype.property _)) (by first | rfl | (rw [Bool.eq_iff_iff]; simp))))  | (go_at_call 66; with_reducible exact later_call _ HSZ.out (H4.out.to (blk_below (Subtype.property _)) (by first | rfl | (rw [Bool.eq_iff_iff]; simp))))  | (go_at_call 66; with_reducible exact later_call _ HSZ.out (H5.out.to (blk_below (Subtype.property _)) (by first | rfl | (rw [Bool.eq_iff_iff]; simp))))  | (go_at_call 67; exact later_call _ HSZ.out (HS.out _ (blk_below (Subtype.property _))))))
        refine wpQuiet_nil ?_
        rintro _ ⟨⟨w5, hb5⟩, rfl⟩
        clear u0 u1 u2 u3 u4 u5 p1 p2 p3 p4 p5 t0 t1 t2 t3 t4 t5 hbd
        go_wp2_with fail
        go_ret
        exact ⟨rfl, blk_below hb5⟩
      · rw [Bool.true_and]
        cases r3
        · rw [Bool.false_and]
          go_enter Tryd.func43, Tryd.ntmps43
          go_wp2_with fail
          refine wp_region_later (w.heap.size + 1) (w.alloc (.cells #[f0, f1, f2, f3, f4, f5] 92)) (by kernel_rfl) (by kernel_rfl) HW0.out ?_
          dsimp only [List.append]
          repeat (go_big_quiet_step (first | (go_at_call 66; with_reducible exact later_call _ HSZ.out (H0.out.to (blk_below (Subtype.property _)) (by first | rfl | (rw [Bool.eq_iff_iff]; simp))))  | (go_at_call 66; with_reducible exact later_call _ HSZ.out (H1.out.to (blk_below (Subtype.property _)) (by first | rfl | (rw [Bool.eq_iff_iff]; simp))))  | (go_at_call 66; with_reducible exact later_call _ HSZ.out (H2.out.to (blk_below (Subtype.property _)) (by first | rfl | (rw [Bool.eq_iff_iff]; simp))))  | (go_at_call 66; with_reducible exact later_call _ HSZ.out (H3.out.to (blk_below (Subtype.property _)) (by first | rfl | (rw [Bool.eq_iff_iff]; simp))))  | (go_at_call 66; with_reducible exact later_call _ HSZ.out (H4.out.to (blk_below (Subtype.property _)) (by first | rfl | (rw [Bool.eq_iff_iff]; simp))))  | (go_at_call 66; with_reducible exact later_call _ HSZ.out (H5.out.to (blk_below (Subtype.property _)) (by first | rfl | (rw [Bool.eq_iff_iff]; simp))))  | (go_at_call 67; exact later_call _ HSZ.out (HS.out _ (blk_below (Subtype.property _))))))
          refine wpQuiet_nil ?_
          rintro _ ⟨⟨w5, hb5⟩, rfl⟩
          clear u0 u1 u2 u3 u4 u5 p1 p2 p3 p4 p5 t0 t1 t2 t3 t4 t5 hbd
          go_wp2_with fail
          go_ret
          exact ⟨rfl, blk_below hb5⟩
        · rw [Bool.true_and]
          cases r4
          · rw [Bool.false_and]
            go_enter Tryd.func43, Tryd.ntmps43
            go_wp2_with fail
            refine wp_region_later (w.heap.size + 1) (w.alloc (.cells #[f0, f1, f2, f3, f4, f5] 92)) (by kernel_rfl) (by kernel_rfl) HW0.out ?_
            dsimp only [List.append]
            repeat (go_big_quiet_step (first | (go_at_call 66; with_reducible exact later_call _ HSZ.out (H0.out.to (blk_below (Subtype.property _)) (by first | rfl | (rw [Bool.eq_iff_iff]; simp))))  | (go_at_call 66; with_reducible exact later_call _ HSZ.out (H1.out.to (blk_below (Subtype.property _)) (by first | rfl | (rw [Bool.eq_iff_iff]; simp))))  | (go_at_call 66; with_reducible exact later_call _ HSZ.out (H2.out.to (blk_below (Subtype.property _)) (by first | rfl | (rw [Bool.eq_iff_iff]; simp))))  | (go_at_call 66; with_reducible exact later_call _ HSZ.out (H3.out.to (blk_below (Subtype.property _)) (by first | rfl | (rw [Bool.eq_iff_iff]; simp))))  | (go_at_call 66; with_reducible exact later_call _ HSZ.out (H4.out.to (blk_below (Subtype.property _)) (by first | rfl | (rw [Bool.eq_iff_iff]; simp))))  | (go_at_call 66; with_reducible exact later_call _ HSZ.out (H5.out.to (blk_below (Subtype.property _)) (by first | rfl | (rw [Bool.eq_iff_iff]; simp))))  | (go_at_call 67; exact later_call _ HSZ.out (HS.out _ (blk_below (Subtype.property _))))))
            refine wpQuiet_nil ?_
            rintro _ ⟨⟨w5, hb5⟩, rfl⟩
            clear u0 u1 u2 u3 u4 u5 p1 p2 p3 p4 p5 t0 t1 t2 t3 t4 t5 hbd
            go_wp2_with fail
            go_ret
            exact ⟨rfl, blk_below hb5⟩
          · rw [Bool.true_and]
            cases r5
            all_goals
              go_enter Tryd.func43, Tryd.ntmps43
              go_wp2_with fail
              refine wp_region_later (w.heap.size + 1) (w.alloc (.cells #[f0, f1, f2, f3, f4, f5] 92)) (by kernel_rfl) (by kernel_rfl) HW0.out ?_
              dsimp only [List.append]
              repeat (go_big_quiet_step (first | (go_at_call 66; with_reducible exact later_call _ HSZ.out (H0.out.to (blk_below (Subtype.property _)) (by first | rfl | (rw [Bool.eq_iff_iff]; simp))))  | (go_at_call 66; with_reducible exact later_call _ HSZ.out (H1.out.to (blk_below (Subtype.property _)) (by first | rfl | (rw [Bool.eq_iff_iff]; simp))))  | (go_at_call 66; with_reducible exact later_call _ HSZ.out (H2.out.to (blk_below (Subtype.property _)) (by first | rfl | (rw [Bool.eq_iff_iff]; simp))))  | (go_at_call 66; with_reducible exact later_call _ HSZ.out (H3.out.to (blk_below (Subtype.property _)) (by first | rfl | (rw [Bool.eq_iff_iff]; simp))))  | (go_at_call 66; with_reducible exact later_call _ HSZ.out (H4.out.to (blk_below (Subtype.property _)) (by first | rfl | (rw [Bool.eq_iff_iff]; simp))))  | (go_at_call 66; with_reducible exact later_call _ HSZ.out (H5.out.to (blk_below (Subtype.property _)) (by first | rfl | (rw [Bool.eq_iff_iff]; simp))))  | (go_at_call 67; exact later_call _ HSZ.out (HS.out _ (blk_below (Subtype.property _))))))
              refine wpQuiet_nil ?_
              rintro _ ⟨⟨w5, hb5⟩, rfl⟩
              clear u0 u1 u2 u3 u4 u5 p1 p2 p3 p4 p5 t0 t1 t2 t3 t4 t5 hbd
              go_wp2_with fail
              go_ret
              exact ⟨rfl, blk_below hb5⟩

end Go.Proofs.YtmedijheidbmhaaDoor
