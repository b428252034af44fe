/- Scopes: the fixed examples of the law. (and what follows from it) -/
import Derived.Test.YtgmdmbmkljbgiaaGreatDoorPz8
import Derived.Test.YtgmdmbmkljbgiaaGreatDoorPz9

/- Scopes: the fixed examples of the law. -/
namespace Go.Proofs.YtgmdmbmkljbgiaaGreatDoor
open Go.RowKit Go.Deep Go.Shelf

abbrev bX88 : ByteArray := ⟨#[88]⟩
abbrev bx120 : ByteArray := ⟨#[120]⟩
def sCall : Pr := .mk 8 bX88 e0 [] [⟨1, bA, 0⟩] (leafT 0) []
def sCall0 : Pr := .mk 8 bX88 e0 [] [] (leafT 0) []
def sStop : Pr := .mk 1 e0 e0 [] [] (leafT 0) []
def sRecv : Pr := .mk 3 bA bx120 [] [] (leafT 0) [sCall]
def sPar : Pm := ⟨bA, leafT 3⟩
def sDef : Df := ⟨bX88, [sPar], sCall⟩
def sDefR : Df := ⟨bX88, [sPar], sRecv⟩
def sP : Pg := ⟨[sDef], sStop⟩
def sQ : Pg := ⟨[], sCall0⟩
def sR : Pg := ⟨[sDefR], sStop⟩
abbrev dfC (d : Df) (mv lv av tl tk kv : Value) : Obj := .cells #[.string d.n, mv, .int .i64 d.b.k, .string d.b.c, .string d.b.x, lv, av, .int .i64 d.b.t.k, .int .i64 d.b.t.p, .string d.b.t.n, .int .i64 d.b.t.s, tl, tk, kv] 45

/-! ### What they are -/
theorem ok_sCall : sCall.okN = true := by
  have h : sCall.r4 = true := r4_leaf _ _ _ _ _ _ (by decide)
  unfold Pr.okN Pr.shp; rw [h]; decide +kernel
theorem ok_sCall0 : sCall0.okN = true := by
  have h : sCall0.r4 = true := r4_leaf _ _ _ _ _ _ (by decide)
  unfold Pr.okN Pr.shp; rw [h]; decide +kernel
theorem ok_sStop : sStop.okN = true := by
  have h : sStop.r4 = true := r4_leaf _ _ _ _ _ _ (by decide)
  unfold Pr.okN Pr.shp; rw [h]; decide +kernel
theorem ok_sRecv : sRecv.okN = true := by
  have h : sRecv.r4 = true := r4_leaf _ _ _ _ _ _ (by decide)
  unfold Pr.okN Pr.shp; rw [h]; decide +kernel
theorem right_sCall : prightE sCall = 0 := by
  have h : preP 1 sCall = [(1, sCall)] := by rfl
  have hl : sCall.large = false := by decide +kernel
  unfold prightE; rw [h, hl]; simp [allN, ok_sCall]
theorem right_sCall0 : prightE sCall0 = 0 := by
  have h : preP 1 sCall0 = [(1, sCall0)] := by rfl
  have hl : sCall0.large = false := by decide +kernel
  unfold prightE; rw [h, hl]; simp [allN, ok_sCall0]
theorem right_sStop : prightE sStop = 0 := by
  have h : preP 1 sStop = [(1, sStop)] := by rfl
  have hl : sStop.large = false := by decide +kernel
  unfold prightE; rw [h, hl]; simp [allN, ok_sStop]
theorem right_sRecv : prightE sRecv = 0 := by
  have h : preP 1 sRecv = [(1, sRecv), (2, sCall)] := by rfl
  have hl : sRecv.large = false := by decide +kernel
  unfold prightE; rw [h, hl]; simp [allN, ok_sRecv, ok_sCall]
theorem head_sDef : hdB sDef = true := by decide +kernel
theorem head_sDefR : hdB sDefR = true := by decide +kernel
theorem prog_sP : pprogE sP = 0 := by
  have hm : sP.many = false := by decide +kernel
  have hb : sP.bodies = [sCall, sStop] := by rfl
  unfold pprogE; rw [hm, hb]; simp [firstR, right_sCall, right_sStop, sP, head_sDef]
theorem prog_sQ : pprogE sQ = 0 := by
  have hm : sQ.many = false := by decide +kernel
  have hb : sQ.bodies = [sCall0] := by rfl
  unfold pprogE; rw [hm, hb]; simp [firstR, right_sCall0, sQ]
theorem prog_sR : pprogE sR = 0 := by
  have hm : sR.many = false := by decide +kernel
  have hb : sR.bodies = [sRecv, sStop] := by rfl
  unfold pprogE; rw [hm, hb]; simp [firstR, right_sRecv, right_sStop, sR, head_sDefR]
theorem chk_sP : sP.chk = (7, 0) := Pg.chk_3 prog_sP (by decide +kernel) (by decide) (fun j hj => by omega) (by decide +kernel) (by decide)
theorem chk_sQ : sQ.chk = (4, 0) := Pg.chk_3 prog_sQ (by decide +kernel) (by decide) (fun j hj => by omega) (by decide +kernel) (by decide)
theorem chk_sR : sR.chk = (0, 0) := Pg.chk_4 prog_sR (by decide +kernel) (fun j hj => by
  have : j = 0 ∨ j = 1 := by simp [sR] at hj; omega
  rcases this with rfl | rfl <;> decide +kernel)
theorem find_sR : fdI sR.ds bX88 = some 0 := by decide +kernel
theorem calls_sR : sRecv.gath selC = [bX88] := by decide +kernel
theorem binders_sR : sRecv.gath Pr.bnd = [bx120] := by decide +kernel
theorem fine_leaf (k : Int) (h : In64 k) : (leafT k).fine := by simp [leafT, Ty.fine, Ty.fines]; first | exact ⟨h, by simp [In64]⟩ | exact h | simp_all [In64]
theorem good_sCall : PGood sCall := ⟨by simp [sCall, leafT, Pr.fine, Pr.fines, Ty.fine, Ty.fines, In64], by simp [sCall, Pr.tf, Pr.tfs, leaf_few]⟩
theorem good_sCall0 : PGood sCall0 := ⟨by simp [sCall0, leafT, Pr.fine, Pr.fines, Ty.fine, Ty.fines, In64], by simp [sCall0, Pr.tf, Pr.tfs, leaf_few]⟩
theorem good_sStop : PGood sStop := ⟨by simp [sStop, leafT, Pr.fine, Pr.fines, Ty.fine, Ty.fines, In64], by simp [sStop, Pr.tf, Pr.tfs, leaf_few]⟩
theorem good_sRecv : PGood sRecv := ⟨by simp [sRecv, sCall, leafT, Pr.fine, Pr.fines, Ty.fine, Ty.fines, In64], by simp [sRecv, sCall, Pr.tf, Pr.tfs, leaf_few]⟩
theorem good_sPar : ∀ a ∈ [sPar], a.t.fine ∧ a.t.few 300 = true := fun a ha => by
  rw [List.mem_singleton.1 ha]
  exact ⟨by simp [sPar, leafT, Ty.fine, Ty.fines, In64], leaf_few _⟩
theorem ggood_sP : GGood sP := by
  refine ⟨by simp [sP], fun d hd => ?_, fun p hp => ?_⟩
  · have : d = sDef := by simpa [sP] using hd
    subst this; exact good_sPar
  · have : p = sCall ∨ p = sStop := by simpa [sP, sDef, Pg.bodies] using hp
    rcases this with rfl | rfl
    · exact ⟨good_sCall, by decide, by decide⟩
    · exact ⟨good_sStop, by decide, by decide⟩
theorem ggood_sQ : GGood sQ := by
  refine ⟨by simp [sQ], by simp [sQ], fun p hp => ?_⟩
  have : p = sCall0 := by simpa [sQ, Pg.bodies] using hp
  subst this; exact ⟨good_sCall0, by decide, by decide⟩
theorem ggood_sR : GGood sR := by
  refine ⟨by simp [sR], fun d hd => ?_, fun p hp => ?_⟩
  · have : d = sDefR := by simpa [sR] using hd
    subst this; exact good_sPar
  · have : p = sRecv ∨ p = sStop := by simpa [sR, sDefR, Pg.bodies] using hp
    rcases this with rfl | rfl
    · exact ⟨good_sRecv, by decide, by decide⟩
    · exact ⟨good_sStop, by decide, by decide⟩

/-! ### In memory -/
theorem pms_one {B : Nat → Prop} {W : World} {b : Nat} {a : Pm} {tl tk : Value} (hb : B b) (hh : W.heap[b]? = some (.cells #[.string a.n, .int .i64 a.t.k, .int .i64 a.t.p, .string a.t.n, .int .i64 a.t.s, tl, tk] 47)) (hn : a.n.size ≤ maxLen) (ht : TyVal B W (.agg #[.int .i64 a.t.k, .int .i64 a.t.p, .string a.t.n, .int .i64 a.t.s, tl, tk]) a.t) : PmSl B W (.slice (some ⟨b, 0, none⟩) 1 1) [a] := by
  refine ⟨.inr ⟨b, 0, 1, rfl, hb, fun j x hj => ?_⟩, by simp [maxLen]⟩
  cases j with
  | zero =>
    simp only [List.getElem?_cons_zero, Option.some.injEq] at hj
    subst hj
    exact ⟨hn, cell_of hh 0, tyAt_of hb (cell_of hh 1) (cell_of hh 2) (cell_of hh 3) (cell_of hh 4) (cell_of hh 5) (cell_of hh 6) ht⟩
  | succ j => simp at hj
theorem dfs_one {B : Nat → Prop} {W : World} {b : Nat} {d : Df} {mv lv av tl tk kv : Value} (hb : B b) (hh : W.heap[b]? = some (dfC d mv lv av tl tk kv)) (hn : d.n.size ≤ maxLen) (hm : PmSl B W mv d.ms) (hv : PrVal B W (prAgg d.b lv av tl tk kv) d.b) : DfSl B W (.slice (some ⟨b, 0, none⟩) 1 1) [d] := by
  refine ⟨.inr ⟨b, 0, 1, rfl, hb, fun j x hj => ?_⟩, by simp [maxLen]⟩
  cases j with
  | zero =>
    simp only [List.getElem?_cons_zero, Option.some.injEq] at hj
    subst hj
    exact ⟨hn, cell_of hh 0, ⟨mv, cell_of hh 1, hm⟩, prAt_of hb (cell_of hh 2) (cell_of hh 3) (cell_of hh 4) (cell_of hh 5) (cell_of hh 6) (cell_of hh 7) (cell_of hh 8) (cell_of hh 9) (cell_of hh 10) (cell_of hh 11) (cell_of hh 12) (cell_of hh 13) hv⟩
  | succ j => simp at hj
def T13 (w : World) (b : Nat) (o : Obj) : Prop := w.heap[b]? = some o
theorem T13.lt {w : World} {b : Nat} {o : Obj} (h : T13 w b o) : b < w.heap.size := (Array.getElem?_eq_some_iff.1 h).1
theorem T13.to {w w' : World} {b : Nat} {o : Obj} (h : T13 w b o) (hb : Below w.heap.size w w') : T13 w' b o := (hb.block b h.lt).trans h
theorem T13.cells {w : World} {b : Nat} {a0 a1 a2 a3 a4 a5 a6 a7 a8 a9 a10 a11 a12 : Value} {t : TypeId} (h : T13 w b (.cells #[a0, a1, a2, a3, a4, a5, a6, a7, a8, a9, a10, a11, a12] t)) :
    w.cell? ⟨b, 0, none⟩ = some a0 ∧ w.cell? ⟨b, 1, none⟩ = some a1 ∧ w.cell? ⟨b, 2, none⟩ = some a2 ∧ w.cell? ⟨b, 3, none⟩ = some a3 ∧ w.cell? ⟨b, 4, none⟩ = some a4 ∧ w.cell? ⟨b, 5, none⟩ = some a5 ∧ w.cell? ⟨b, 6, none⟩ = some a6 ∧ w.cell? ⟨b, 7, none⟩ = some a7 ∧ w.cell? ⟨b, 8, none⟩ = some a8 ∧ w.cell? ⟨b, 9, none⟩ = some a9 ∧ w.cell? ⟨b, 10, none⟩ = some a10 ∧ w.cell? ⟨b, 11, none⟩ = some a11 ∧ w.cell? ⟨b, 12, none⟩ = some a12 := by
  unfold T13 at h
  refine ⟨?_, ?_, ?_, ?_, ?_, ?_, ?_, ?_, ?_, ?_, ?_, ?_, ?_⟩ <;> simp [World.cell?, h]
theorem T13.cells14 {w : World} {b : Nat} {a0 a1 a2 a3 a4 a5 a6 a7 a8 a9 a10 a11 a12 a13 : Value} {t : TypeId} (h : T13 w b (.cells #[a0, a1, a2, a3, a4, a5, a6, a7, a8, a9, a10, a11, a12, a13] t)) :
    w.cell? ⟨b, 2, none⟩ = some a2 ∧ w.cell? ⟨b, 3, none⟩ = some a3 ∧ w.cell? ⟨b, 4, none⟩ = some a4 ∧ w.cell? ⟨b, 5, none⟩ = some a5 ∧ w.cell? ⟨b, 6, none⟩ = some a6 ∧ w.cell? ⟨b, 7, none⟩ = some a7 ∧ w.cell? ⟨b, 8, none⟩ = some a8 ∧ w.cell? ⟨b, 9, none⟩ = some a9 ∧ w.cell? ⟨b, 10, none⟩ = some a10 ∧ w.cell? ⟨b, 11, none⟩ = some a11 ∧ w.cell? ⟨b, 12, none⟩ = some a12 ∧ w.cell? ⟨b, 13, none⟩ = some a13 := by
  unfold T13 at h
  refine ⟨?_, ?_, ?_, ?_, ?_, ?_, ?_, ?_, ?_, ?_, ?_, ?_⟩ <;> simp [World.cell?, h]
/-- The eleven blocks of the examples. -/
theorem made_sc (w : World) (W : World) (hW : (((((((((((w.alloc (.cells #[.int .i64 1, .string bA, .int .i64 0] 53)).alloc (cell12 sCall sl0 (sl1 (w.heap.size)) sl0 sl0 sl0)).alloc (cell12 sStop sl0 sl0 sl0 sl0 sl0)).alloc (.cells #[.string bA, .int .i64 3, .int .i64 0, .string e0, .int .i64 0, sl0, sl0] 47)).alloc (dfC sDef (sl1 (w.heap.size + 1 + 1 + 1)) sl0 (sl1 (w.heap.size)) sl0 sl0 sl0)).alloc (dfC sDef (sl1 (w.heap.size + 1 + 1 + 1)) sl0 (sl1 (w.heap.size)) sl0 sl0 sl0)).alloc (cell13 sP (sl1 (w.heap.size + 1 + 1 + 1 + 1 + 1)) sl0 sl0 sl0 sl0 sl0)).alloc (cell13 sQ sl0 sl0 sl0 sl0 sl0 sl0)).alloc (cell12 sCall sl0 (sl1 (w.heap.size)) sl0 sl0 sl0)).alloc (dfC sDefR (sl1 (w.heap.size + 1 + 1 + 1)) sl0 sl0 sl0 sl0 (sl1 (w.heap.size + 1 + 1 + 1 + 1 + 1 + 1 + 1 + 1)))).alloc (cell13 sR (sl1 (w.heap.size + 1 + 1 + 1 + 1 + 1 + 1 + 1 + 1 + 1)) sl0 sl0 sl0 sl0 sl0)) = W) :
    T13 W (w.heap.size + 1 + 1 + 1 + 1 + 1 + 1) (cell13 sP (sl1 (w.heap.size + 1 + 1 + 1 + 1 + 1)) sl0 sl0 sl0 sl0 sl0) ∧ T13 W (w.heap.size + 1 + 1 + 1 + 1 + 1 + 1 + 1) (cell13 sQ sl0 sl0 sl0 sl0 sl0 sl0) ∧ T13 W (w.heap.size + 1 + 1 + 1 + 1 + 1 + 1 + 1 + 1 + 1 + 1) (cell13 sR (sl1 (w.heap.size + 1 + 1 + 1 + 1 + 1 + 1 + 1 + 1 + 1)) sl0 sl0 sl0 sl0 sl0) ∧ T13 W (w.heap.size + 1 + 1 + 1 + 1 + 1 + 1 + 1 + 1 + 1) (dfC sDefR (sl1 (w.heap.size + 1 + 1 + 1)) sl0 sl0 sl0 sl0 (sl1 (w.heap.size + 1 + 1 + 1 + 1 + 1 + 1 + 1 + 1))) ∧
    GLies W (pgAgg sP (sl1 (w.heap.size + 1 + 1 + 1 + 1 + 1)) sl0 sl0 sl0 sl0 sl0) sP ∧ GLies W (pgAgg sQ sl0 sl0 sl0 sl0 sl0 sl0) sQ ∧ GLies W (pgAgg sR (sl1 (w.heap.size + 1 + 1 + 1 + 1 + 1 + 1 + 1 + 1 + 1)) sl0 sl0 sl0 sl0 sl0) sR ∧ PLies W (prAgg sRecv sl0 sl0 sl0 sl0 (sl1 (w.heap.size + 1 + 1 + 1 + 1 + 1 + 1 + 1 + 1))) sRecv ∧ Below w.heap.size w W := by
  have hs : W.heap.size = w.heap.size + 11 := by rw [← hW]; simp
  have k0 : W.heap[w.heap.size]? = some (.cells #[.int .i64 1, .string bA, .int .i64 0] 53) := by
    have hb1 : Below (w.heap.size + 1) (w.alloc (.cells #[.int .i64 1, .string bA, .int .i64 0] 53)) W := by
      rw [← hW]
      exact ((((((((((Below.refl _ _).alloc (by simp) _).alloc (by simp) _).alloc (by simp) _).alloc (by simp) _).alloc (by simp) _).alloc (by simp) _).alloc (by simp) _).alloc (by simp) _).alloc (by simp) _).alloc (by simp) _
    exact (hb1.block _ (by omega)).trans (World.alloc_heap_new _ _)
  have k3 : W.heap[w.heap.size + 1 + 1 + 1]? = some (.cells #[.string bA, .int .i64 3, .int .i64 0, .string e0, .int .i64 0, sl0, sl0] 47) := by rw [← hW]; simp only [heap_push, Array.getElem?_push, Array.size_push]; simp
  have k5 : W.heap[w.heap.size + 1 + 1 + 1 + 1 + 1]? = some (dfC sDef (sl1 (w.heap.size + 1 + 1 + 1)) sl0 (sl1 (w.heap.size)) sl0 sl0 sl0) := by rw [← hW]; simp only [heap_push, Array.getElem?_push, Array.size_push]; simp
  have k6 : W.heap[w.heap.size + 1 + 1 + 1 + 1 + 1 + 1]? = some (cell13 sP (sl1 (w.heap.size + 1 + 1 + 1 + 1 + 1)) sl0 sl0 sl0 sl0 sl0) := by rw [← hW]; simp only [heap_push, Array.getElem?_push, Array.size_push]; simp
  have k7 : W.heap[w.heap.size + 1 + 1 + 1 + 1 + 1 + 1 + 1]? = some (cell13 sQ sl0 sl0 sl0 sl0 sl0 sl0) := by rw [← hW]; simp only [heap_push, Array.getElem?_push, Array.size_push]; simp
  have k8 : W.heap[w.heap.size + 1 + 1 + 1 + 1 + 1 + 1 + 1 + 1]? = some (cell12 sCall sl0 (sl1 (w.heap.size)) sl0 sl0 sl0) := by rw [← hW]; simp only [heap_push, Array.getElem?_push, Array.size_push]; simp
  have k9 : W.heap[w.heap.size + 1 + 1 + 1 + 1 + 1 + 1 + 1 + 1 + 1]? = some (dfC sDefR (sl1 (w.heap.size + 1 + 1 + 1)) sl0 sl0 sl0 sl0 (sl1 (w.heap.size + 1 + 1 + 1 + 1 + 1 + 1 + 1 + 1))) := by rw [← hW]; simp only [heap_push, Array.getElem?_push, Array.size_push]; simp
  have k10 : W.heap[w.heap.size + 1 + 1 + 1 + 1 + 1 + 1 + 1 + 1 + 1 + 1]? = some (cell13 sR (sl1 (w.heap.size + 1 + 1 + 1 + 1 + 1 + 1 + 1 + 1 + 1)) sl0 sl0 sl0 sl0 sl0) := by rw [← hW]; simp only [heap_push, Array.getElem?_push, Array.size_push]; simp
  have hb : Below w.heap.size w W := by
    rw [← hW]
    exact (((((((((((Below.refl _ _).alloc (by simp) _).alloc (by simp) _).alloc (by simp; omega) _).alloc (by simp; omega) _).alloc (by simp; omega) _).alloc (by simp; omega) _).alloc (by simp; omega) _).alloc (by simp; omega) _).alloc (by simp; omega) _).alloc (by simp; omega) _).alloc (by simp; omega) _
  have vcall : PLies W (prAgg sCall sl0 (sl1 (w.heap.size)) sl0 sl0 sl0) sCall := ⟨_, _, _, _, _, rfl, ⟨by decide, by decide⟩, nil_strs _ _, vls_one (a := ⟨1, bA, 0⟩) (by omega) k0 (by decide), val_leaf _ _ 0 0 0 e0 (by decide), nil_prs _ _⟩
  have vcall0 : PLies W (prAgg sCall0 sl0 sl0 sl0 sl0 sl0) sCall0 := ⟨_, _, _, _, _, rfl, ⟨by decide, by decide⟩, nil_strs _ _, nil_vls _ _, val_leaf _ _ 0 0 0 e0 (by decide), nil_prs _ _⟩
  have vstop : PLies W (prAgg sStop sl0 sl0 sl0 sl0 sl0) sStop := ⟨_, _, _, _, _, rfl, ⟨by decide, by decide⟩, nil_strs _ _, nil_vls _ _, val_leaf _ _ 0 0 0 e0 (by decide), nil_prs _ _⟩
  have vrecv : PLies W (prAgg sRecv sl0 sl0 sl0 sl0 (sl1 (w.heap.size + 1 + 1 + 1 + 1 + 1 + 1 + 1 + 1))) sRecv := ⟨_, _, _, _, _, rfl, ⟨by decide, by decide⟩, nil_strs _ _, nil_vls _ _, val_leaf _ _ 0 0 0 e0 (by decide), prs_one (by omega) k8 vcall⟩
  have vpar : PmSl (fun k => k < W.heap.size) W (sl1 (w.heap.size + 1 + 1 + 1)) [sPar] := pms_one (a := sPar) (by omega) k3 (by decide) (val_leaf _ _ 3 0 0 e0 (by decide))
  refine ⟨k6, k7, k10, k9, ⟨_, _, _, _, _, _, rfl, dfs_one (d := sDef) (by omega) k5 (by decide) vpar vcall, vstop⟩, ⟨_, _, _, _, _, _, rfl, nil_dfs _ _, vcall0⟩, ⟨_, _, _, _, _, _, rfl, dfs_one (d := sDefR) (by omega) k9 (by decide) vpar vrecv, vstop⟩, vrecv, hb⟩

end Go.Proofs.YtgmdmbmkljbgiaaGreatDoor
