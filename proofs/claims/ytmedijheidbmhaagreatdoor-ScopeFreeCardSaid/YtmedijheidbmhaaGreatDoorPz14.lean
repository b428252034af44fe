/- Scopes: visit, Calls, Binders. (and what follows from it) -/
import Derived.Test.YtmedijheidbmhaaGreatDoorPz5
import Derived.Test.YtmedijheidbmhaaGreatDoorPz8
import Derived.Test.YtmedijheidbmhaaGreatDoorPz10
import Derived.Deep.RegionHeld3
import Derived.Deep.RegionWith
import Derived.Deep.RegionLaw

/- Scopes: visit, Calls, Binders. -/
namespace Go.Proofs.YtmedijheidbmhaaGreatDoor
open Go.RowKit Go.Deep Go.Shelf

/-! ### What is gathered -/
mutual
def Pr.gath (sel : Pr → List ByteArray) : Pr → List ByteArray
  | .mk k c x ls vs t ps => sel (.mk k c x ls vs t ps) ++ Pr.gaths sel ps
def Pr.gaths (sel : Pr → List ByteArray) : List Pr → List ByteArray
  | [] => []
  | p :: r => p.gath sel ++ Pr.gaths sel r
end
theorem Pr.gath_eq (sel : Pr → List ByteArray) (p : Pr) : p.gath sel = sel p ++ Pr.gaths sel p.ps := by cases p; simp [Pr.gath, Pr.ps]
theorem Pr.gaths_append (sel : Pr → List ByteArray) (l r : List Pr) : Pr.gaths sel (l ++ r) = Pr.gaths sel l ++ Pr.gaths sel r := by
  induction l with
  | nil => simp [Pr.gaths]
  | cons p l ih => rw [List.cons_append, Pr.gaths, ih, Pr.gaths, List.append_assoc]
theorem Pr.gaths_take {sel : Pr → List ByteArray} {l : List Pr} {j : Nat} {u : Pr} (h : l[j]? = some u) : Pr.gaths sel (l.take (j + 1)) = Pr.gaths sel (l.take j) ++ u.gath sel := by
  rw [take_snoc_get h, Pr.gaths_append]; simp [Pr.gaths]
mutual
theorem Pr.gath_len {sel : Pr → List ByteArray} (h : ∀ p, (sel p).length ≤ 2) : ∀ p : Pr, (p.gath sel).length ≤ 2 * p.size
  | .mk k c x ls vs t ps => by
    have h1 := Pr.gaths_len h ps
    have h2 := h (.mk k c x ls vs t ps)
    simp only [Pr.gath, Pr.size, List.length_append]; omega
theorem Pr.gaths_len {sel : Pr → List ByteArray} (h : ∀ p, (sel p).length ≤ 2) : ∀ ps : List Pr, (Pr.gaths sel ps).length ≤ 2 * Pr.sizes ps
  | [] => by simp [Pr.gaths, Pr.sizes]
  | p :: r => by
    have h1 := Pr.gath_len h p
    have h2 := Pr.gaths_len h r
    simp only [Pr.gaths, Pr.sizes, List.length_append]; omega
end
def selC (p : Pr) : List ByteArray := if p.k = 8 then [p.c] else []
theorem selC_len (p : Pr) : (selC p).length ≤ 2 := by unfold selC; split <;> simp
theorem bnd_len2 (p : Pr) : p.bnd.length ≤ 2 := by unfold Pr.bnd; split <;> (try split) <;> simp

/-! ### The blocks -/
structure VsSt (z : Nat) (fid : FuncId) (W : World) (out : List ByteArray) : Prop where
  lbox : ∃ v, W.heap[z + 1]? = some (.cells #[v] 23 (0, 0)) ∧ Row (z + 4) W v out
  fbox : W.heap[z + 2]? = some (.cells #[.func (.func fid) #[] #[ptr (z + 1)]] 77 (0, 0))
  wbox : W.heap[z + 3]? = some (.cells #[.func (.func 55) #[] #[ptr (z + 2), ptr (z + 3)]] 77 (0, 0))
theorem VsSt.size {z : Nat} {fid : FuncId} {W : World} {out : List ByteArray} (h : VsSt z fid W out) : z + 4 ≤ W.heap.size := (Array.getElem?_eq_some_iff.1 h.wbox).1
theorem VsSt.to {z : Nat} {fid : FuncId} {W W' : World} {out : List ByteArray} (h : VsSt z fid W out) (hb : Below W.heap.size W W') : VsSt z fid W' out := by
  have hs := h.size
  obtain ⟨⟨v, h1, h2⟩, h3, h4⟩ := h
  exact ⟨⟨v, (hb.block _ (by omega)).trans h1, h2.to hb⟩, (hb.block _ (by omega)).trans h3, (hb.block _ (by omega)).trans h4⟩
theorem VsSt.cells {z : Nat} {fid : FuncId} {W : World} {out : List ByteArray} (h : VsSt z fid W out) : W.cell? ⟨z + 2, 0, none⟩ = some (.func (.func fid) #[] #[ptr (z + 1)]) ∧ W.cell? ⟨z + 3, 0, none⟩ = some (.func (.func 55) #[] #[ptr (z + 2), ptr (z + 3)]) := by
  refine ⟨?_, ?_⟩
  · simp [World.cell?, h.fbox]
  · simp [World.cell?, h.wbox]
theorem enters_visit : ∀ args w, (callFunc 55 args).run Tryz.prog w = .ok (.enter 55 args) w := enters_of Tryz.func55 (by kernel_rfl) rfl
theorem enters_calls1 : ∀ args w, (callFunc 38 args).run Tryz.prog w = .ok (.enter 38 args) w := enters_of Tryz.func38 (by kernel_rfl) rfl
theorem enters_binders1 : ∀ args w, (callFunc 39 args).run Tryz.prog w = .ok (.enter 39 args) w := enters_of Tryz.func39 (by kernel_rfl) rfl

/-- What the function that is called for each node does. -/
def VisF (z : Nat) (fid : FuncId) (S : Nat → Prop) (sel : Pr → List ByteArray) : Prop := ∀ (out : List ByteArray) (q : Pr) (b o : Nat) (W : World), VsSt z fid W out → PrAt S W q b o → out.length + 2 ≤ 1000000000 →
  Calls Tryz.prog fid #[.pointer (some ⟨b, o, none⟩), ptr (z + 1)] W fun e W' => (∃ v, e = .returned v) ∧ VsSt z fid W' (out ++ sel q) ∧ Below (z + 1) W W'
def WalkV (z : Nat) (fid : FuncId) (S : Nat → Prop) (sel : Pr → List ByteArray) (p : Pr) : Prop := ∀ (out : List ByteArray) (b o : Nat) (W : World), VsSt z fid W out → PrAt S W p b o → out.length + 2 * p.size ≤ 1000000000 →
  Calls Tryz.prog 55 #[.pointer (some ⟨b, o, none⟩), ptr (z + 2), ptr (z + 3)] W fun e W' => (∃ v, e = .returned v) ∧ VsSt z fid W' (out ++ p.gath sel) ∧ Below (z + 1) W W'

set_option maxHeartbeats 4000000 in
set_option maxRecDepth 100000 in
theorem walkV_step (z : Nat) (fid : FuncId) (S : Nat → Prop) (sel : Pr → List ByteArray) (hS : ∀ k, S k → k < z + 1) (hl : ∀ p, (sel p).length ≤ 2) (egf : ∀ args w, (callFunc fid args).run Tryz.prog w = .ok (.enter fid args) w) (hf : VisF z fid S sel) (p : Pr) (ih : ∀ u ∈ p.ps, WalkV z fid S sel u) : WalkV z fid S sel p := by
  intro out b o w hst hp hn
  obtain ⟨hSb, _, _, _, lv, av, kv, _, _, c11, _, _, hk⟩ := PrAt.eq.1 hp
  obtain ⟨ka, kn, kc, rfl, hkl, hkm, hkg⟩ := hk.open
  have hbz := hS b hSb
  have HP : Hid (∀ A, Below (z + 1) w A → PrAt S A p b o ∧ A.cell? ⟨b, o + 11, none⟩ = some (.slice ka kn kc)) := Lib.hid (fun A hA => ⟨PrAt.keep (hA.keeps'.mono hS) _ _ _ hp, (hA.cell (p := ⟨b, _, none⟩) hbz).trans c11⟩)
  have HKG : Hid (∀ (i : Nat) (u : Pr) (A : World), p.ps[i]? = some u → Below (z + 1) w A → ∃ gb go, ka = some ⟨gb, go, none⟩ ∧ gb < z + 1 ∧ PrAt S A u gb (go + i * 12)) := Lib.hid (fun i u A hi hA => by
    obtain ⟨gb, go, e, hgb, hu⟩ := hkg i u hi
    exact ⟨gb, go, e, hS gb hgb, PrAt.keep (hA.keeps'.mono hS) _ _ _ hu⟩)
  have hsize := p.size_eq
  obtain ⟨x2, _⟩ := hst.cells
  have hzs := hst.size
  have hz2 : z + 2 < w.heap.size := by omega
  have HF := Lib.hid (hf out p b o w hst hp (by have := p.size_pos; omega))
  have HN := Lib.hid (And.intro hsize hn)
  have HIH := Lib.hid ih
  have HL := Lib.hid hl
  have eg2 := enters_visit
  clear ih hst hp hn hSb c11 hk hkg hsize hf hl
  go_enter Tryz.func55, Tryz.ntmps55
  go_wp2_with fail
  refine HF.out.mono ?_
  rintro e w2 ⟨⟨vv, rfl⟩, hs2, hb2⟩
  obtain ⟨_, d11⟩ := HP.out w2 hb2
  have HS2 := Lib.hid hs2
  have HB2 := Lib.hid hb2
  have hzs2 := hs2.size
  have hb2w : b < w2.heap.size := by omega
  clear hs2 hb2 x2
  go_wp2_with fail
  clear d11
  go_loopw [13] (fun i wr => ∃ j : Nat, i = .int .i64 (j : Int) ∧ j ≤ kn ∧ Hid (VsSt z fid wr (out ++ sel p ++ Pr.gaths sel (p.ps.take j))) ∧ Hid (Below (z + 1) w wr)) (fun i _ => kn - (intOf i).toNat)
  case atStart => exact ⟨0, rfl, by omega, Lib.hid (by simpa [Pr.gaths] using HS2.out), HB2⟩
  case round =>
    obtain ⟨j, rfl, hj, HSj, HBj⟩ := hrel
    obtain ⟨wo, hwo⟩ : ∃ wo, wo = wr := ⟨_, rfl⟩
    subst hwo
    have hzo := HSj.out.size
    obtain ⟨_, d11⟩ := HP.out wo HBj.out
    have hbw : b < wo.heap.size := by omega
    by_cases hlt : j < kn
    · obtain ⟨u, huj⟩ : ∃ u, p.ps[j]? = some u := ⟨_, List.getElem?_eq_getElem (by rw [← hkl.out]; exact hlt)⟩
      obtain ⟨gb, go, rfl, hgz, hu⟩ := HKG.out j u wo.drew huj HBj.out.drew
      obtain ⟨_, x3⟩ := HSj.out.cells
      have hmem := List.mem_of_getElem? huj
      have hus := Pr.sizes_take huj
      have husl := Pr.sizes_take_le p.ps (j + 1)
      have hgl := Pr.gaths_len HL.out (p.ps.take j)
      have hpl := HL.out p
      have hnn := HN.out
      have HGT : Hid (out ++ sel p ++ Pr.gaths sel (p.ps.take (j + 1)) = (out ++ sel p ++ Pr.gaths sel (p.ps.take j)) ++ u.gath sel) := Lib.hid (by rw [Pr.gaths_take huj]; simp only [List.append_assoc])
      have HIU := Lib.hid (HIH.out u hmem (out ++ sel p ++ Pr.gaths sel (p.ps.take j)) gb (go + j * 12) wo.drew (HSj.out.to (Below.refl _ _).drew) hu (by simp only [List.length_append]; omega))
      have hgw : gb < wo.heap.size := by omega
      have hz3 : z + 3 < wo.heap.size := by omega
      clear huj hu hmem hus husl hgl hpl hnn
      go_wp2_with fail
      go_region_with (go_at_call 55; refine HIU.out.mono ?_; rintro e w9 ⟨⟨vv, rfl⟩, hs9, hb9⟩; replace hs9 := Lib.hid hs9; replace hb9 := Lib.hid hb9)
      all_goals
        go_wp2_with fail
        go_roundw
        case rel => exact ⟨j + 1, by go_num, by omega, Lib.hid (by rw [HGT.out]; exact hs9.out), Lib.hid (HBj.out.drew.trans hb9.out)⟩
        case measure => simp [intOf]; omega
    · obtain rfl : kn = j := by omega
      have HFI : Hid (VsSt z fid wo (out ++ p.gath sel)) := Lib.hid (by
        have h := HSj.out
        rw [List.take_of_length_le (by rw [hkl.out]; exact Nat.le_refl _)] at h
        rw [Pr.gath_eq, ← List.append_assoc]; exact h)
      go_wp2_with fail
      go_end0
      exact ⟨⟨_, rfl⟩, HFI.out, HBj.out⟩

theorem walkV_any (z : Nat) (fid : FuncId) (S : Nat → Prop) (sel : Pr → List ByteArray) (hS : ∀ k, S k → k < z + 1) (hl : ∀ p, (sel p).length ≤ 2) (egf : ∀ args w, (callFunc fid args).run Tryz.prog w = .ok (.enter fid args) w) (hf : VisF z fid S sel) : ∀ p : Pr, WalkV z fid S sel p := by
  refine Pr.ind ?_
  intro k c x ls vs t ps ih
  exact walkV_step z fid S sel hS hl egf hf (.mk k c x ls vs t ps) ih

/-- The world in which visit begins to walk. -/
def VsMade (w : World) (o : Obj) (fid : FuncId) : World := ((((w.alloc o).alloc (.cells #[.slice none 0 0] 23)).alloc (.cells #[.func (.func fid) #[] #[.pointer (some ⟨w.heap.size + 1, 0, none⟩)]] 77)).alloc (.cells #[.func (.func 55) #[] #[.pointer (some ⟨w.heap.size + 1 + 1, 0, none⟩), .pointer (some ⟨w.heap.size + 1 + 1 + 1, 0, none⟩)]] 77))
theorem vsMade (w : World) (o : Obj) (fid : FuncId) : VsSt w.heap.size fid (VsMade w o fid) [] ∧ Below (w.heap.size + 1) (w.alloc o) (VsMade w o fid) := by
  refine ⟨⟨⟨.slice none 0 0, ?_, Row.nil _ _⟩, ?_, ?_⟩, ?_⟩
  · unfold VsMade; simp only [World.alloc, Array.getElem?_push, Array.size_push]; simp
  · unfold VsMade; simp only [World.alloc, Array.getElem?_push, Array.size_push]; simp
  · unfold VsMade; simp only [World.alloc, Array.getElem?_push, Array.size_push]; simp
  · unfold VsMade; exact (((Below.refl _ _).alloc (by simp) _).alloc (by simp; try omega) _).alloc (by simp; try omega) _

end Go.Proofs.YtmedijheidbmhaaGreatDoor

/- Scopes: the functions that Calls and Binders call for each node; Find. -/
namespace Go.Proofs.YtmedijheidbmhaaGreatDoor
open Go.RowKit Go.Deep Go.Shelf

theorem vsSt_put {z : Nat} {fid : FuncId} {W W5 : World} {out out' : List ByteArray} {v v' : Value} (h : VsSt z fid W out) (hb : ∀ k, k < z + 4 → W5.heap[k]? = W.heap[k]?) (hv : W.heap[z + 1]? = some (.cells #[v] 23 (0, 0))) (hrow : Row (z + 4) W5 v' out') :
    VsSt z fid (W5.setCell ⟨z + 1, 0, none⟩ v') out' := by
  have k1 : W5.heap[z + 1]? = some (.cells #[v] 23 (0, 0)) := (hb _ (by omega)).trans hv
  have hne : ∀ k, k ≠ z + 1 → (W5.setCell ⟨z + 1, 0, none⟩ v').heap[k]? = W5.heap[k]? := fun k hk => by
    show (W5.heap.modify (z + 1) _)[k]? = _
    rw [Array.getElem?_modify, if_neg (fun e => hk e.symm)]
  refine ⟨⟨v', set_block k1 0 _, hrow.kept (fun k hk => hne k (by have := (hrow.lt k hk).1; omega))⟩, (hne _ (by omega)).trans ((hb _ (by omega)).trans h.fbox), (hne _ (by omega)).trans ((hb _ (by omega)).trans h.wbox)⟩

set_option maxHeartbeats 4000000 in
set_option maxRecDepth 100000 in
theorem calls1_any (z : Nat) (S : Nat → Prop) (hS : ∀ k, S k → k < z + 1) : VisF z 38 S selC := by
  intro out q b o W hst hq hn
  obtain ⟨hSb, ⟨hcz, hxz⟩, ⟨c0, c1, c2⟩, _⟩ := PrAt.eq.1 hq
  have hbz := hS b hSb
  have hzs := hst.size
  have hbw : b < W.heap.size := by omega
  unfold selC
  by_cases h8 : q.k = 8
  · rw [if_pos h8]
    rw [h8] at c0
    obtain ⟨v, hv, hrow⟩ := hst.lbox
    obtain ⟨sa, sn, sc, rfl⟩ := slice_of_row hrow.1
    have HSK : Hid (∀ X, Below W.heap.size W X → X.cell? ⟨z + 1, 0, none⟩ = some (.slice sa sn sc) ∧ X.cell? ⟨b, o + 1, none⟩ = some (.string q.c)) := Lib.hid (fun X hX => ⟨(hX.cell (p := ⟨z + 1, _, none⟩) (by simp only; omega)).trans (by simp [World.cell?, hv]), (hX.cell (p := ⟨b, _, none⟩) hbw).trans c1⟩)
    have HROW := Lib.hid hrow
    have HV := Lib.hid hv
    have HST := Lib.hid hst
    have HCZ := Lib.hid hcz
    have hl0 : out.length + [q.c].length ≤ 1000000000 := by simp; omega
    have e1 := HSK.out W (Below.refl _ _)
    obtain ⟨x1, x2⟩ := e1
    have hz1 : z + 1 < W.heap.size := by omega
    clear hst hq hSb h8 hv hrow hcz hxz c1 c2
    go_enter Tryz.func38, Tryz.ntmps38
    go_wp2_with fail
    go_region_law
      (first
        | (refine step_app (by rfl) _ _ (by rfl) (z + 4) out (.slice sa sn sc) ?_ ?_ (Fresh W.heap.size (W.drew.alloc (.cells #[.string q.c] 9)).heap.size) (some ⟨W.heap.size, 0, none⟩) 1 1 [q.c] ?_ ?_ hl0 ?_ (out ++ [q.c]) rfl ?_
           · rfl
           · exact (HROW.out.drew.alloc _)
           · rfl
           · exact strSl_made (w := W.drew) [q.c] (Below.refl _ _) (fun s hs => by rw [List.mem_singleton.1 hs]; exact HCZ.out) (by simp [maxLen])
           · (simp; omega)
           intro ga gn gc W5 hrow5 hgrow5
           have hk5 : ∀ k, k < z + 4 → W5.heap[k]? = W.heap[k]? := fun k hk => (hgrow5.block k (by simp; omega) (fun e => by have := (HROW.out.lt k e.symm).1; omega)).trans (Below.heap_alloc W.drew _ k (by simp; omega))
           have h51 : W5.heap[z + 1]? = some (.cells #[.slice sa sn sc] 23 (0, 0)) := (hk5 _ (by omega)).trans HV.out
           have v2 := Boxed.cell h51
           have f2 := Boxed.frozen h51
           have HS5 : Hid (W5.cell? ⟨z + 1, 0, none⟩ = some (.slice sa sn sc) ∧ W5.cell? ⟨b, o + 1, none⟩ = some (.string q.c)) := Lib.hid ⟨v2, by
             have h := (HSK.out W (Below.refl _ _)).2
             unfold World.cell? at h ⊢
             rw [hk5 b (by omega)]; exact h⟩
           have HK5 := Lib.hid hk5
           have HR5 := Lib.hid hrow5
           have HB5 := Lib.hid ((((Below.refl (z + 1) W).drew.alloc (by simp; omega) (.cells #[.string q.c] 9))).grown hgrow5 (by simp; omega) (fun k e => by have := (HROW.out.lt k e).1; omega))
           clear hk5 h51 hrow5 hgrow5)
        | fail)
    all_goals
      go_wp2_with fail
      go_end0
      exact ⟨⟨_, rfl⟩, vsSt_put HST.out HK5.out HV.out HR5.out, HB5.out.setCell (p := ⟨z + 1, 0, none⟩) (by simp) _⟩
  · rw [if_neg h8, List.append_nil]
    have h8' : (q.k == 8) = false := by simpa using h8
    have HST := Lib.hid hst
    clear hst hq hSb h8 c1 c2
    go_enter Tryz.func38, Tryz.ntmps38
    go_wp2_with fail
    go_end0
    exact ⟨⟨_, rfl⟩, HST.out, Below.refl _ _⟩

end Go.Proofs.YtmedijheidbmhaaGreatDoor

/- Scopes: what Binders calls for each node; Calls, Binders, Find. -/
namespace Go.Proofs.YtmedijheidbmhaaGreatDoor
open Go.RowKit Go.Deep Go.Shelf

set_option maxHeartbeats 4000000 in
set_option maxRecDepth 100000 in
theorem binders1_any (z : Nat) (S : Nat → Prop) (hS : ∀ k, S k → k < z + 1) : VisF z 39 S Pr.bnd := by
  intro out q b o W hst hq hn
  have hzs := hst.size
  obtain ⟨v, hv, hrow⟩ := hst.lbox
  obtain ⟨sa, sn, sc, rfl⟩ := slice_of_row hrow.1
  have x1 : W.cell? ⟨z + 1, 0, none⟩ = some (.slice sa sn sc) := by simp [World.cell?, hv]
  have hz1 : z + 1 < W.heap.size := by omega
  have hlw : Low S W := fun k hk => by have := hS k hk; omega
  have HBD := Lib.hid (bound_any S q b o W.drew (fun k hk => hlw k hk) (PrAt.keep ((((Below.refl W.heap.size W).drew).keeps').mono hlw) _ _ _ hq))
  have HROW := Lib.hid hrow
  have HV := Lib.hid hv
  have HST := Lib.hid hst
  have hl0 : out.length + q.bnd.length ≤ 1000000000 := by have := bnd_len2 q; omega
  clear hst hq hv hrow hlw
  go_enter Tryz.func39, Tryz.ntmps39
  go_wp2_with fail
  go_region_law
    (first
      | (go_simp; go_at_call 40; refine HBD.out.mono ?_; rintro e w2 ⟨la, ln, lc, rfl, hsl, hb2⟩
         have y1 := (hb2.cell (p := ⟨z + 1, 0, none⟩) (by simpa using hz1)).trans x1
         have HSL := Lib.hid hsl
         have HB2 := Lib.hid hb2
         have hz2 : z + 4 ≤ w2.heap.size := by have := hb2.size; simp at this; omega
         clear hsl hb2)
      | (refine step_app (by rfl) _ _ (by rfl) (z + 4) out (.slice sa sn sc) ?_ ?_ (Fresh W.drew.heap.size w2.heap.size) la ln lc q.bnd ?_ ?_ hl0 ?_ (out ++ q.bnd) rfl ?_
         · rfl
         · exact HROW.out.drew.to HB2.out
         · rfl
         · exact HSL.out
         · exact hz2
         intro ga gn gc W5 hrow5 hgrow5
         have hk5 : ∀ k, k < z + 4 → W5.heap[k]? = W.heap[k]? := fun k hk => (hgrow5.block k (by omega) (fun e => by have := (HROW.out.lt k e.symm).1; omega)).trans (HB2.out.block k (by simp; omega))
         have h51 : W5.heap[z + 1]? = some (.cells #[.slice sa sn sc] 23 (0, 0)) := (hk5 _ (by omega)).trans HV.out
         have v2 := Boxed.cell h51
         have f2 := Boxed.frozen h51
         have HK5 := Lib.hid hk5
         have HR5 := Lib.hid hrow5
         have HB5 := Lib.hid (((Below.refl (z + 1) W).drew.trans (HB2.out.mono (by simp; omega))).grown hgrow5 (by omega) (fun k e => by have := (HROW.out.lt k e).1; omega))
         clear hk5 h51 hrow5 hgrow5)
      | fail)
  all_goals
    go_wp2_with fail
    go_end0
    exact ⟨⟨_, rfl⟩, vsSt_put HST.out HK5.out HV.out HR5.out, HB5.out.setCell (p := ⟨z + 1, 0, none⟩) (by simp) _⟩

theorem scalls_at' {P : Program} {f : FuncId} {vs : Array Value} {Q : Ending → World → Prop} {W W0 : World} (h : W = W0) (k : Calls P f vs W0 Q) : Calls P f vs W Q := by rw [h]; exact k
/-- What a gathering function gives. -/
theorem gather_ret {w : World} {o : Obj} {fid : FuncId} {W' : World} {out : List ByteArray} (h : VsSt w.heap.size fid W' out) (hb : Below (w.heap.size + 1) (VsMade w o fid) W') (hl : out.length ≤ maxLen) :
    ∃ a n c, W'.cell? ⟨w.heap.size + 1, 0, none⟩ = some (.slice a n c) ∧ StrSl (Fresh w.heap.size W'.heap.size) W' (.slice a n c) out ∧ Below w.heap.size w W' := by
  obtain ⟨v, h1, h2⟩ := h.lbox
  obtain ⟨⟨a, n, c, rfl⟩, hs⟩ := h2.strs hl
  refine ⟨a, n, c, by simp [World.cell?, h1], hs.mono (fun k hk => ⟨by have := hk.1; omega, hk.2⟩), ?_⟩
  exact (((Below.refl w.heap.size w).alloc (Nat.le_refl _) o).trans ((vsMade w o fid).2.mono (by omega))).trans (hb.mono (by omega))

set_option maxHeartbeats 4000000 in
set_option maxRecDepth 100000 in
theorem visit_any (fid : FuncId) (S : Nat → Prop) (sel : Pr → List ByteArray) (hl : ∀ p, (sel p).length ≤ 2) (egf : ∀ args w, (callFunc fid args).run Tryz.prog w = .ok (.enter fid args) w) (w : World) (o : Obj) (hS : ∀ k, S k → k < w.heap.size + 1) (hf : VisF w.heap.size fid S sel) (p : Pr) (hsz : p.size ≤ 1000000)
    (W1 : World) (h1 : (w.alloc o).alloc (.cells #[.slice none 0 0] 23) = W1) (hp : PrAt S (VsMade w o fid) p w.heap.size 0) :
    Calls Tryz.prog 37 #[.pointer (some ⟨w.heap.size, 0, none⟩), .func (.func fid) #[] #[.pointer (some ⟨w.heap.size + 1, 0, none⟩)]] W1 fun e W' => (∃ v, e = .returned v) ∧ VsSt w.heap.size fid W' (p.gath sel) ∧ Below (w.heap.size + 1) (VsMade w o fid) W' := by
  have hs1 : W1.heap.size = w.heap.size + 1 + 1 := by rw [← h1]; simp
  have hm : (W1.alloc (.cells #[.func (.func fid) #[] #[.pointer (some ⟨w.heap.size + 1, 0, none⟩)]] 77)).alloc (.cells #[.func (.func 55) #[] #[.pointer (some ⟨W1.heap.size, 0, none⟩), .pointer (some ⟨W1.heap.size + 1, 0, none⟩)]] 77) = VsMade w o fid := by
    rw [hs1, ← h1]; rfl
  have HWK := Lib.hid (walkV_any w.heap.size fid S sel hS hl egf hf p [] w.heap.size 0 _ (vsMade w o fid).1 hp (by simp; omega))
  have HM := Lib.hid hm
  have HS1 : Hid (W1.heap.size = w.heap.size + 2) := Lib.hid hs1
  have eg2 := enters_visit
  have hsf : ∀ (w : World) (a : Addr) (m : Mode) (f : Fn) (t : Array Value) (b : Array Value), (store a (.func f t b) m).run Tryz.prog w = stored Tryz.prog w a (.func f t b) m := fun w a m f t b => run_store _ w a _ m rfl
  clear hS hf hp hs1 hm h1 hsz hl
  obtain ⟨W0, hW0⟩ : ∃ W0, VsMade w o fid = W0 := ⟨_, rfl⟩
  rw [hW0] at HWK HM ⊢
  clear hW0
  go_enter Tryz.func37, Tryz.ntmps37
  go_wp2_with fail
  refine scalls_at' HM.out ?_
  rw [HS1.out]
  refine HWK.out.mono ?_
  rintro e w2 ⟨⟨vv, rfl⟩, hs2, hb2⟩
  have HS2 := Lib.hid (And.intro hs2 hb2)
  clear hs2 hb2
  go_wp2_with fail
  go_end0
  exact ⟨⟨_, rfl⟩, by simpa using HS2.out.1, HS2.out.2⟩

set_option maxHeartbeats 4000000 in
set_option maxRecDepth 100000 in
theorem calls_any (B : Nat → Prop) (p : Pr) (hsz : p.size ≤ 1000000) (v : Value) (w : World) (hB : Low B w) (hv : PrVal B w v p) :
    Calls Tryz.prog 19 #[v] w (StrRet w (p.gath selC)) := by
  have hv' := hv
  obtain ⟨lv, av, tl, tk, kv, rfl, _⟩ := hv'
  obtain ⟨⟨la, ln, lc, rfl⟩, ⟨aa, an, ac, rfl⟩, ⟨ta, tn, tc, rfl⟩, ⟨ua, un, uc, rfl⟩, ka, kn, kc, rfl⟩ := pr_slices hv
  obtain ⟨hst, hbel⟩ := vsMade w (cell12 p (.slice la ln lc) (.slice aa an ac) (.slice ta tn tc) (.slice ua un uc) (.slice ka kn kc)) 38
  have hp := boxed_prAt (S := fun k => B k ∨ k = w.heap.size) hB hv hbel (fun k h => .inl h) (.inr rfl)
  have hS : ∀ k, (B k ∨ k = w.heap.size) → k < w.heap.size + 1 := fun k h => h.elim (fun h => by have := hB k h; omega) (fun h => by omega)
  have HVI := Lib.hid (visit_any 38 _ selC selC_len enters_calls1 w _ hS (calls1_any w.heap.size _ hS) p hsz _ rfl hp)
  have hlen := Pr.gath_len selC_len p
  have hl : (p.gath selC).length ≤ maxLen := by unfold maxLen; omega
  have HL := Lib.hid hl
  clear hst hbel hp hv hB hS hsz hlen hl
  go_enter Tryz.func19, Tryz.ntmps19
  go_wp2_with fail
  refine HVI.out.mono ?_
  rintro e w2 ⟨⟨vv, rfl⟩, hs2, hb2⟩
  obtain ⟨a, n, c, c1, hsl, hbb⟩ := gather_ret hs2 hb2 HL.out
  have HSL := Lib.hid (And.intro hsl hbb)
  clear hs2 hb2 hsl hbb
  go_wp2_with fail
  go_ret
  exact ⟨_, _, _, rfl, HSL.out.1, HSL.out.2⟩

set_option maxHeartbeats 4000000 in
set_option maxRecDepth 100000 in
theorem sbinders_any (B : Nat → Prop) (p : Pr) (hsz : p.size ≤ 1000000) (v : Value) (w : World) (hB : Low B w) (hv : PrVal B w v p) :
    Calls Tryz.prog 20 #[v] w (StrRet w (p.gath Pr.bnd)) := by
  have hv' := hv
  obtain ⟨lv, av, tl, tk, kv, rfl, _⟩ := hv'
  obtain ⟨⟨la, ln, lc, rfl⟩, ⟨aa, an, ac, rfl⟩, ⟨ta, tn, tc, rfl⟩, ⟨ua, un, uc, rfl⟩, ka, kn, kc, rfl⟩ := pr_slices hv
  obtain ⟨hst, hbel⟩ := vsMade w (cell12 p (.slice la ln lc) (.slice aa an ac) (.slice ta tn tc) (.slice ua un uc) (.slice ka kn kc)) 39
  have hp := boxed_prAt (S := fun k => B k ∨ k = w.heap.size) hB hv hbel (fun k h => .inl h) (.inr rfl)
  have hS : ∀ k, (B k ∨ k = w.heap.size) → k < w.heap.size + 1 := fun k h => h.elim (fun h => by have := hB k h; omega) (fun h => by omega)
  have HVI := Lib.hid (visit_any 39 _ Pr.bnd bnd_len2 enters_binders1 w _ hS (binders1_any w.heap.size _ hS) p hsz _ rfl hp)
  have hlen := Pr.gath_len bnd_len2 p
  have hl : (p.gath Pr.bnd).length ≤ maxLen := by unfold maxLen; omega
  have HL := Lib.hid hl
  clear hst hbel hp hv hB hS hsz hlen hl
  go_enter Tryz.func20, Tryz.ntmps20
  go_wp2_with fail
  refine HVI.out.mono ?_
  rintro e w2 ⟨⟨vv, rfl⟩, hs2, hb2⟩
  obtain ⟨a, n, c, c1, hsl, hbb⟩ := gather_ret hs2 hb2 HL.out
  have HSL := Lib.hid (And.intro hsl hbb)
  clear hs2 hb2 hsl hbb
  go_wp2_with fail
  go_ret
  exact ⟨_, _, _, rfl, HSL.out.1, HSL.out.2⟩


end Go.Proofs.YtmedijheidbmhaaGreatDoor

/- Scopes: the fixed examples of the law. -/
namespace Go.Proofs.YtmedijheidbmhaaGreatDoor
open Go.RowKit Go.Deep Go.Shelf

abbrev bX88 : ByteArray := ⟨#[88]⟩
abbrev bx120 : ByteArray := ⟨#[120]⟩
def sCall : Pr := .mk 8 bX88 e0 [] [⟨1, bA, 0⟩] (leafT 0) []
def sCall0 : Pr := .mk 8 bX88 e0 [] [] (leafT 0) []
def sStop : Pr := .mk 1 e0 e0 [] [] (leafT 0) []
def sRecv : Pr := .mk 3 bA bx120 [] [] (leafT 0) [sCall]
def sPar : Pm := ⟨bA, leafT 3⟩
def sDef : Df := ⟨bX88, [sPar], sCall⟩
def sDefR : Df := ⟨bX88, [sPar], sRecv⟩
def sP : Pg := ⟨[sDef], sStop⟩
def sQ : Pg := ⟨[], sCall0⟩
def sR : Pg := ⟨[sDefR], sStop⟩
abbrev dfC (d : Df) (mv lv av tl tk kv : Value) : Obj := .cells #[.string d.n, mv, .int .i64 d.b.k, .string d.b.c, .string d.b.x, lv, av, .int .i64 d.b.t.k, .int .i64 d.b.t.p, .string d.b.t.n, .int .i64 d.b.t.s, tl, tk, kv] 45

/-! ### What they are -/
theorem ok_sCall : sCall.okN = true := by
  have h : sCall.r4 = true := r4_leaf _ _ _ _ _ _ (by decide)
  unfold Pr.okN Pr.shp; rw [h]; decide +kernel
theorem ok_sCall0 : sCall0.okN = true := by
  have h : sCall0.r4 = true := r4_leaf _ _ _ _ _ _ (by decide)
  unfold Pr.okN Pr.shp; rw [h]; decide +kernel
theorem ok_sStop : sStop.okN = true := by
  have h : sStop.r4 = true := r4_leaf _ _ _ _ _ _ (by decide)
  unfold Pr.okN Pr.shp; rw [h]; decide +kernel
theorem ok_sRecv : sRecv.okN = true := by
  have h : sRecv.r4 = true := r4_leaf _ _ _ _ _ _ (by decide)
  unfold Pr.okN Pr.shp; rw [h]; decide +kernel
theorem right_sCall : prightE sCall = 0 := by
  have h : preP 1 sCall = [(1, sCall)] := by rfl
  have hl : sCall.large = false := by decide +kernel
  unfold prightE; rw [h, hl]; simp [allN, ok_sCall]
theorem right_sCall0 : prightE sCall0 = 0 := by
  have h : preP 1 sCall0 = [(1, sCall0)] := by rfl
  have hl : sCall0.large = false := by decide +kernel
  unfold prightE; rw [h, hl]; simp [allN, ok_sCall0]
theorem right_sStop : prightE sStop = 0 := by
  have h : preP 1 sStop = [(1, sStop)] := by rfl
  have hl : sStop.large = false := by decide +kernel
  unfold prightE; rw [h, hl]; simp [allN, ok_sStop]
theorem right_sRecv : prightE sRecv = 0 := by
  have h : preP 1 sRecv = [(1, sRecv), (2, sCall)] := by rfl
  have hl : sRecv.large = false := by decide +kernel
  unfold prightE; rw [h, hl]; simp [allN, ok_sRecv, ok_sCall]
theorem head_sDef : hdB sDef = true := by decide +kernel
theorem head_sDefR : hdB sDefR = true := by decide +kernel
theorem prog_sP : pprogE sP = 0 := by
  have hm : sP.many = false := by decide +kernel
  have hb : sP.bodies = [sCall, sStop] := by rfl
  unfold pprogE; rw [hm, hb]; simp [firstR, right_sCall, right_sStop, sP, head_sDef]
theorem prog_sQ : pprogE sQ = 0 := by
  have hm : sQ.many = false := by decide +kernel
  have hb : sQ.bodies = [sCall0] := by rfl
  unfold pprogE; rw [hm, hb]; simp [firstR, right_sCall0, sQ]
theorem prog_sR : pprogE sR = 0 := by
  have hm : sR.many = false := by decide +kernel
  have hb : sR.bodies = [sRecv, sStop] := by rfl
  unfold pprogE; rw [hm, hb]; simp [firstR, right_sRecv, right_sStop, sR, head_sDefR]
theorem chk_sP : sP.chk = (7, 0) := Pg.chk_3 prog_sP (by decide +kernel) (by decide) (fun j hj => by omega) (by decide +kernel) (by decide)
theorem chk_sQ : sQ.chk = (4, 0) := Pg.chk_3 prog_sQ (by decide +kernel) (by decide) (fun j hj => by omega) (by decide +kernel) (by decide)
theorem chk_sR : sR.chk = (0, 0) := Pg.chk_4 prog_sR (by decide +kernel) (fun j hj => by
  have : j = 0 ∨ j = 1 := by simp [sR] at hj; omega
  rcases this with rfl | rfl <;> decide +kernel)
theorem find_sR : fdI sR.ds bX88 = some 0 := by decide +kernel
theorem calls_sR : sRecv.gath selC = [bX88] := by decide +kernel
theorem binders_sR : sRecv.gath Pr.bnd = [bx120] := by decide +kernel
theorem fine_leaf (k : Int) (h : In64 k) : (leafT k).fine := by simp [leafT, Ty.fine, Ty.fines]; first | exact ⟨h, by simp [In64]⟩ | exact h | simp_all [In64]
theorem good_sCall : PGood sCall := ⟨by simp [sCall, leafT, Pr.fine, Pr.fines, Ty.fine, Ty.fines, In64], by simp [sCall, Pr.tf, Pr.tfs, leaf_few]⟩
theorem good_sCall0 : PGood sCall0 := ⟨by simp [sCall0, leafT, Pr.fine, Pr.fines, Ty.fine, Ty.fines, In64], by simp [sCall0, Pr.tf, Pr.tfs, leaf_few]⟩
theorem good_sStop : PGood sStop := ⟨by simp [sStop, leafT, Pr.fine, Pr.fines, Ty.fine, Ty.fines, In64], by simp [sStop, Pr.tf, Pr.tfs, leaf_few]⟩
theorem good_sRecv : PGood sRecv := ⟨by simp [sRecv, sCall, leafT, Pr.fine, Pr.fines, Ty.fine, Ty.fines, In64], by simp [sRecv, sCall, Pr.tf, Pr.tfs, leaf_few]⟩
theorem good_sPar : ∀ a ∈ [sPar], a.t.fine ∧ a.t.few 300 = true := fun a ha => by
  rw [List.mem_singleton.1 ha]
  exact ⟨by simp [sPar, leafT, Ty.fine, Ty.fines, In64], leaf_few _⟩
theorem ggood_sP : GGood sP := by
  refine ⟨by simp [sP], fun d hd => ?_, fun p hp => ?_⟩
  · have : d = sDef := by simpa [sP] using hd
    subst this; exact good_sPar
  · have : p = sCall ∨ p = sStop := by simpa [sP, sDef, Pg.bodies] using hp
    rcases this with rfl | rfl
    · exact ⟨good_sCall, by decide, by decide⟩
    · exact ⟨good_sStop, by decide, by decide⟩
theorem ggood_sQ : GGood sQ := by
  refine ⟨by simp [sQ], by simp [sQ], fun p hp => ?_⟩
  have : p = sCall0 := by simpa [sQ, Pg.bodies] using hp
  subst this; exact ⟨good_sCall0, by decide, by decide⟩
theorem ggood_sR : GGood sR := by
  refine ⟨by simp [sR], fun d hd => ?_, fun p hp => ?_⟩
  · have : d = sDefR := by simpa [sR] using hd
    subst this; exact good_sPar
  · have : p = sRecv ∨ p = sStop := by simpa [sR, sDefR, Pg.bodies] using hp
    rcases this with rfl | rfl
    · exact ⟨good_sRecv, by decide, by decide⟩
    · exact ⟨good_sStop, by decide, by decide⟩

/-! ### In memory -/
theorem pms_one {B : Nat → Prop} {W : World} {b : Nat} {a : Pm} {tl tk : Value} (hb : B b) (hh : W.heap[b]? = some (.cells #[.string a.n, .int .i64 a.t.k, .int .i64 a.t.p, .string a.t.n, .int .i64 a.t.s, tl, tk] 47)) (hn : a.n.size ≤ maxLen) (ht : TyVal B W (.agg #[.int .i64 a.t.k, .int .i64 a.t.p, .string a.t.n, .int .i64 a.t.s, tl, tk]) a.t) : PmSl B W (.slice (some ⟨b, 0, none⟩) 1 1) [a] := by
  refine ⟨.inr ⟨b, 0, 1, rfl, hb, fun j x hj => ?_⟩, by simp [maxLen]⟩
  cases j with
  | zero =>
    simp only [List.getElem?_cons_zero, Option.some.injEq] at hj
    subst hj
    exact ⟨hn, cell_of hh 0, tyAt_of hb (cell_of hh 1) (cell_of hh 2) (cell_of hh 3) (cell_of hh 4) (cell_of hh 5) (cell_of hh 6) ht⟩
  | succ j => simp at hj
theorem dfs_one {B : Nat → Prop} {W : World} {b : Nat} {d : Df} {mv lv av tl tk kv : Value} (hb : B b) (hh : W.heap[b]? = some (dfC d mv lv av tl tk kv)) (hn : d.n.size ≤ maxLen) (hm : PmSl B W mv d.ms) (hv : PrVal B W (prAgg d.b lv av tl tk kv) d.b) : DfSl B W (.slice (some ⟨b, 0, none⟩) 1 1) [d] := by
  refine ⟨.inr ⟨b, 0, 1, rfl, hb, fun j x hj => ?_⟩, by simp [maxLen]⟩
  cases j with
  | zero =>
    simp only [List.getElem?_cons_zero, Option.some.injEq] at hj
    subst hj
    exact ⟨hn, cell_of hh 0, ⟨mv, cell_of hh 1, hm⟩, prAt_of hb (cell_of hh 2) (cell_of hh 3) (cell_of hh 4) (cell_of hh 5) (cell_of hh 6) (cell_of hh 7) (cell_of hh 8) (cell_of hh 9) (cell_of hh 10) (cell_of hh 11) (cell_of hh 12) (cell_of hh 13) hv⟩
  | succ j => simp at hj
def T13 (w : World) (b : Nat) (o : Obj) : Prop := w.heap[b]? = some o
theorem T13.lt {w : World} {b : Nat} {o : Obj} (h : T13 w b o) : b < w.heap.size := (Array.getElem?_eq_some_iff.1 h).1
theorem T13.to {w w' : World} {b : Nat} {o : Obj} (h : T13 w b o) (hb : Below w.heap.size w w') : T13 w' b o := (hb.block b h.lt).trans h
theorem T13.cells {w : World} {b : Nat} {a0 a1 a2 a3 a4 a5 a6 a7 a8 a9 a10 a11 a12 : Value} {t : TypeId} (h : T13 w b (.cells #[a0, a1, a2, a3, a4, a5, a6, a7, a8, a9, a10, a11, a12] t)) :
    w.cell? ⟨b, 0, none⟩ = some a0 ∧ w.cell? ⟨b, 1, none⟩ = some a1 ∧ w.cell? ⟨b, 2, none⟩ = some a2 ∧ w.cell? ⟨b, 3, none⟩ = some a3 ∧ w.cell? ⟨b, 4, none⟩ = some a4 ∧ w.cell? ⟨b, 5, none⟩ = some a5 ∧ w.cell? ⟨b, 6, none⟩ = some a6 ∧ w.cell? ⟨b, 7, none⟩ = some a7 ∧ w.cell? ⟨b, 8, none⟩ = some a8 ∧ w.cell? ⟨b, 9, none⟩ = some a9 ∧ w.cell? ⟨b, 10, none⟩ = some a10 ∧ w.cell? ⟨b, 11, none⟩ = some a11 ∧ w.cell? ⟨b, 12, none⟩ = some a12 := by
  unfold T13 at h
  refine ⟨?_, ?_, ?_, ?_, ?_, ?_, ?_, ?_, ?_, ?_, ?_, ?_, ?_⟩ <;> simp [World.cell?, h]
theorem T13.cells14 {w : World} {b : Nat} {a0 a1 a2 a3 a4 a5 a6 a7 a8 a9 a10 a11 a12 a13 : Value} {t : TypeId} (h : T13 w b (.cells #[a0, a1, a2, a3, a4, a5, a6, a7, a8, a9, a10, a11, a12, a13] t)) :
    w.cell? ⟨b, 2, none⟩ = some a2 ∧ w.cell? ⟨b, 3, none⟩ = some a3 ∧ w.cell? ⟨b, 4, none⟩ = some a4 ∧ w.cell? ⟨b, 5, none⟩ = some a5 ∧ w.cell? ⟨b, 6, none⟩ = some a6 ∧ w.cell? ⟨b, 7, none⟩ = some a7 ∧ w.cell? ⟨b, 8, none⟩ = some a8 ∧ w.cell? ⟨b, 9, none⟩ = some a9 ∧ w.cell? ⟨b, 10, none⟩ = some a10 ∧ w.cell? ⟨b, 11, none⟩ = some a11 ∧ w.cell? ⟨b, 12, none⟩ = some a12 ∧ w.cell? ⟨b, 13, none⟩ = some a13 := by
  unfold T13 at h
  refine ⟨?_, ?_, ?_, ?_, ?_, ?_, ?_, ?_, ?_, ?_, ?_, ?_⟩ <;> simp [World.cell?, h]
/-- The eleven blocks of the examples. -/
theorem made_sc (w : World) (W : World) (hW : (((((((((((w.alloc (.cells #[.int .i64 1, .string bA, .int .i64 0] 53)).alloc (cell12 sCall sl0 (sl1 (w.heap.size)) sl0 sl0 sl0)).alloc (cell12 sStop sl0 sl0 sl0 sl0 sl0)).alloc (.cells #[.string bA, .int .i64 3, .int .i64 0, .string e0, .int .i64 0, sl0, sl0] 47)).alloc (dfC sDef (sl1 (w.heap.size + 1 + 1 + 1)) sl0 (sl1 (w.heap.size)) sl0 sl0 sl0)).alloc (dfC sDef (sl1 (w.heap.size + 1 + 1 + 1)) sl0 (sl1 (w.heap.size)) sl0 sl0 sl0)).alloc (cell13 sP (sl1 (w.heap.size + 1 + 1 + 1 + 1 + 1)) sl0 sl0 sl0 sl0 sl0)).alloc (cell13 sQ sl0 sl0 sl0 sl0 sl0 sl0)).alloc (cell12 sCall sl0 (sl1 (w.heap.size)) sl0 sl0 sl0)).alloc (dfC sDefR (sl1 (w.heap.size + 1 + 1 + 1)) sl0 sl0 sl0 sl0 (sl1 (w.heap.size + 1 + 1 + 1 + 1 + 1 + 1 + 1 + 1)))).alloc (cell13 sR (sl1 (w.heap.size + 1 + 1 + 1 + 1 + 1 + 1 + 1 + 1 + 1)) sl0 sl0 sl0 sl0 sl0)) = W) :
    T13 W (w.heap.size + 1 + 1 + 1 + 1 + 1 + 1) (cell13 sP (sl1 (w.heap.size + 1 + 1 + 1 + 1 + 1)) sl0 sl0 sl0 sl0 sl0) ∧ T13 W (w.heap.size + 1 + 1 + 1 + 1 + 1 + 1 + 1) (cell13 sQ sl0 sl0 sl0 sl0 sl0 sl0) ∧ T13 W (w.heap.size + 1 + 1 + 1 + 1 + 1 + 1 + 1 + 1 + 1 + 1) (cell13 sR (sl1 (w.heap.size + 1 + 1 + 1 + 1 + 1 + 1 + 1 + 1 + 1)) sl0 sl0 sl0 sl0 sl0) ∧ T13 W (w.heap.size + 1 + 1 + 1 + 1 + 1 + 1 + 1 + 1 + 1) (dfC sDefR (sl1 (w.heap.size + 1 + 1 + 1)) sl0 sl0 sl0 sl0 (sl1 (w.heap.size + 1 + 1 + 1 + 1 + 1 + 1 + 1 + 1))) ∧
    GLies W (pgAgg sP (sl1 (w.heap.size + 1 + 1 + 1 + 1 + 1)) sl0 sl0 sl0 sl0 sl0) sP ∧ GLies W (pgAgg sQ sl0 sl0 sl0 sl0 sl0 sl0) sQ ∧ GLies W (pgAgg sR (sl1 (w.heap.size + 1 + 1 + 1 + 1 + 1 + 1 + 1 + 1 + 1)) sl0 sl0 sl0 sl0 sl0) sR ∧ PLies W (prAgg sRecv sl0 sl0 sl0 sl0 (sl1 (w.heap.size + 1 + 1 + 1 + 1 + 1 + 1 + 1 + 1))) sRecv ∧ Below w.heap.size w W := by
  have hs : W.heap.size = w.heap.size + 11 := by rw [← hW]; simp
  have k0 : W.heap[w.heap.size]? = some (.cells #[.int .i64 1, .string bA, .int .i64 0] 53) := by
    have hb1 : Below (w.heap.size + 1) (w.alloc (.cells #[.int .i64 1, .string bA, .int .i64 0] 53)) W := by
      rw [← hW]
      exact ((((((((((Below.refl _ _).alloc (by simp) _).alloc (by simp) _).alloc (by simp) _).alloc (by simp) _).alloc (by simp) _).alloc (by simp) _).alloc (by simp) _).alloc (by simp) _).alloc (by simp) _).alloc (by simp) _
    exact (hb1.block _ (by omega)).trans (World.alloc_heap_new _ _)
  have k3 : W.heap[w.heap.size + 1 + 1 + 1]? = some (.cells #[.string bA, .int .i64 3, .int .i64 0, .string e0, .int .i64 0, sl0, sl0] 47) := by rw [← hW]; simp only [heap_push, Array.getElem?_push, Array.size_push]; simp
  have k5 : W.heap[w.heap.size + 1 + 1 + 1 + 1 + 1]? = some (dfC sDef (sl1 (w.heap.size + 1 + 1 + 1)) sl0 (sl1 (w.heap.size)) sl0 sl0 sl0) := by rw [← hW]; simp only [heap_push, Array.getElem?_push, Array.size_push]; simp
  have k6 : W.heap[w.heap.size + 1 + 1 + 1 + 1 + 1 + 1]? = some (cell13 sP (sl1 (w.heap.size + 1 + 1 + 1 + 1 + 1)) sl0 sl0 sl0 sl0 sl0) := by rw [← hW]; simp only [heap_push, Array.getElem?_push, Array.size_push]; simp
  have k7 : W.heap[w.heap.size + 1 + 1 + 1 + 1 + 1 + 1 + 1]? = some (cell13 sQ sl0 sl0 sl0 sl0 sl0 sl0) := by rw [← hW]; simp only [heap_push, Array.getElem?_push, Array.size_push]; simp
  have k8 : W.heap[w.heap.size + 1 + 1 + 1 + 1 + 1 + 1 + 1 + 1]? = some (cell12 sCall sl0 (sl1 (w.heap.size)) sl0 sl0 sl0) := by rw [← hW]; simp only [heap_push, Array.getElem?_push, Array.size_push]; simp
  have k9 : W.heap[w.heap.size + 1 + 1 + 1 + 1 + 1 + 1 + 1 + 1 + 1]? = some (dfC sDefR (sl1 (w.heap.size + 1 + 1 + 1)) sl0 sl0 sl0 sl0 (sl1 (w.heap.size + 1 + 1 + 1 + 1 + 1 + 1 + 1 + 1))) := by rw [← hW]; simp only [heap_push, Array.getElem?_push, Array.size_push]; simp
  have k10 : W.heap[w.heap.size + 1 + 1 + 1 + 1 + 1 + 1 + 1 + 1 + 1 + 1]? = some (cell13 sR (sl1 (w.heap.size + 1 + 1 + 1 + 1 + 1 + 1 + 1 + 1 + 1)) sl0 sl0 sl0 sl0 sl0) := by rw [← hW]; simp only [heap_push, Array.getElem?_push, Array.size_push]; simp
  have hb : Below w.heap.size w W := by
    rw [← hW]
    exact (((((((((((Below.refl _ _).alloc (by simp) _).alloc (by simp) _).alloc (by simp; omega) _).alloc (by simp; omega) _).alloc (by simp; omega) _).alloc (by simp; omega) _).alloc (by simp; omega) _).alloc (by simp; omega) _).alloc (by simp; omega) _).alloc (by simp; omega) _).alloc (by simp; omega) _
  have vcall : PLies W (prAgg sCall sl0 (sl1 (w.heap.size)) sl0 sl0 sl0) sCall := ⟨_, _, _, _, _, rfl, ⟨by decide, by decide⟩, nil_strs _ _, vls_one (a := ⟨1, bA, 0⟩) (by omega) k0 (by decide), val_leaf _ _ 0 0 0 e0 (by decide), nil_prs _ _⟩
  have vcall0 : PLies W (prAgg sCall0 sl0 sl0 sl0 sl0 sl0) sCall0 := ⟨_, _, _, _, _, rfl, ⟨by decide, by decide⟩, nil_strs _ _, nil_vls _ _, val_leaf _ _ 0 0 0 e0 (by decide), nil_prs _ _⟩
  have vstop : PLies W (prAgg sStop sl0 sl0 sl0 sl0 sl0) sStop := ⟨_, _, _, _, _, rfl, ⟨by decide, by decide⟩, nil_strs _ _, nil_vls _ _, val_leaf _ _ 0 0 0 e0 (by decide), nil_prs _ _⟩
  have vrecv : PLies W (prAgg sRecv sl0 sl0 sl0 sl0 (sl1 (w.heap.size + 1 + 1 + 1 + 1 + 1 + 1 + 1 + 1))) sRecv := ⟨_, _, _, _, _, rfl, ⟨by decide, by decide⟩, nil_strs _ _, nil_vls _ _, val_leaf _ _ 0 0 0 e0 (by decide), prs_one (by omega) k8 vcall⟩
  have vpar : PmSl (fun k => k < W.heap.size) W (sl1 (w.heap.size + 1 + 1 + 1)) [sPar] := pms_one (a := sPar) (by omega) k3 (by decide) (val_leaf _ _ 3 0 0 e0 (by decide))
  refine ⟨k6, k7, k10, k9, ⟨_, _, _, _, _, _, rfl, dfs_one (d := sDef) (by omega) k5 (by decide) vpar vcall, vstop⟩, ⟨_, _, _, _, _, _, rfl, nil_dfs _ _, vcall0⟩, ⟨_, _, _, _, _, _, rfl, dfs_one (d := sDefR) (by omega) k9 (by decide) vpar vrecv, vstop⟩, vrecv, hb⟩

end Go.Proofs.YtmedijheidbmhaaGreatDoor
