/- Types: slices.Backward over the nodes around. -/
import Derived.Test.YtfmadgoieppmkaaDoorTySc
namespace Go.Proofs.YtfmadgoieppmkaaDoor
open Go.RowKit Go.Deep Go.Shelf
attribute [local go_sem] Oper.semAt_some

set_option maxHeartbeats 1000000 in
theorem backward_any (pa : Option Addr) (an ac : Nat) (w : World) :
    Calls Tryd.prog 108 #[.slice pa an ac] w fun e w' => e = .returned (.func (.func 126) #[] #[.pointer (some ⟨w.heap.size, 0, none⟩)]) ∧ w' = w.alloc (.cells #[.slice pa an ac] 66) := by
  go_enter Tryd.func108, Tryd.ntmps108
  go_wp2
  go_ret
  exact ⟨rfl, rfl⟩

/-- What a round is handed: the index, the node. -/
structure Bk where
  i : Nat
  b : Nat
  o : Nat
  ty : Ty
abbrev bkArgs (x : Bk) : Array Value := #[.int .i64 x.i, .pointer (some ⟨x.b, x.o, none⟩)]
/-- The index at which r nodes are left. -/
def idxV : Nat → Value
  | 0 => .int .i64 (-1)
  | r + 1 => .int .i64 (r : Int)
theorem rev_take {α : Type} {l : List α} {r : Nat} {x : α} (h : l[r]? = some x) : l.reverse.take (l.length - r) = l.reverse.take (l.length - (r + 1)) ++ [x] := by
  have hlt := (List.getElem?_eq_some_iff.1 h).1
  have e : l.length - r = (l.length - (r + 1)) + 1 := by omega
  rw [e]
  refine take_snoc_get ?_
  rw [List.getElem?_reverse (by omega)]
  rw [show l.length - 1 - (l.length - (r + 1)) = r by omega, h]

set_option maxRecDepth 100000 in
set_option maxHeartbeats 2000000 in
/-- The iterator that slices.Backward returns tells the nodes around, from the innermost one outwards. -/
theorem backward_tells (n : Nat) (Bb D : Nat) (path : List Ty) (S X : Nat → Prop) (pa : Option Addr) (an ac : Nat) (w : World) (hX : ∀ k, X k → ¬ S k ∧ k ≠ Bb ∧ (Value.slice pa an ac).ownBlock ≠ some k) (hS : ∀ k, S k → k < w.heap.size) (hBb : Bb < w.heap.size)
    (hc : w.cell? ⟨Bb, 0, none⟩ = some (.slice pa an ac)) (har : ARow D S w (.slice pa an ac) path) (hlen : path.length ≤ 1000) :
    Tells Fence.wide n Tryd.prog 126 #[.pointer (some ⟨Bb, 0, none⟩)] bkArgs (fun x W => TyAt S W x.ty x.b x.o) (Kp X) (fun ys => ys.map Bk.ty = path.reverse) (fun pre => pre.map Bk.ty <+: path.reverse) w := by
  intro l J Jx W hW hJ _ hY h0
  have hY' : ∀ m pre x W1, J pre W1 → TyAt S W1 x.ty x.b x.o → YieldAt Fence.wide m Tryd.prog l (bkArgs x) W1 fun e W' => (e = .returned (.bool true) ∧ J (pre ++ [x]) W' ∧ Kp X W1 W') ∨ (e = .returned (.bool false) ∧ Jx (pre ++ [x]) W') :=
    fun m pre x W1 hj hpx => yield_any rfl m (hY pre x W1 hj hpx)
  have hc' := (hW.cell (p := ⟨Bb, 0, none⟩) hBb).trans hc
  obtain rfl := har.len
  have hat : ∀ i u, path[i]? = some u → ∃ g b o, pa = some ⟨g, 0, none⟩ ∧ W.cell? ⟨g, i, none⟩ = some (.pointer (some ⟨b, o, none⟩)) ∧ TyAt S W u b o ∧ ¬ X g := fun i u hi => by
    obtain ⟨g, c, b, o, e, h1, h2, h3⟩ := har.ptr hi
    simp only [Value.slice.injEq] at e
    obtain ⟨rfl, _, rfl⟩ := e
    exact ⟨g, b, o, rfl, (hW.cell (p := ⟨g, i, none⟩) h3).trans h1, h2.keep (hW.keeps'.mono hS), fun hx => (hX g hx).2.2 (by simp [Value.ownBlock])⟩
  obtain ⟨m, hm⟩ : ∃ m, path.length = m := ⟨_, rfl⟩
  rw [hm] at hc' hlen hX
  have HAT := Lib.hid hat
  have HY := Lib.hid hY'
  have H0 := Lib.hid h0
  have HM := Lib.hid hm
  clear hY hY' h0 hat hc har hW hJ hm
  refine callsIn_of_wp Tryd.func126 rfl trivial ?_ rfl
  simp only [Tryd.ntmps126, List.size_toArray, List.length_cons, List.length_nil, Nat.reduceAdd, Nat.reduceSub, Array.replicate_succ, Array.replicate_zero, List.push_toArray, List.append_toArray, List.nil_append, List.cons_append]
  gi_wp2_with fail
  gi_loopw [3] (fun i wr => ∃ (r : Nat) (ys : List Bk), i = idxV r ∧ r ≤ m ∧ Hid (ys.map Bk.ty = path.reverse.take (m - r)) ∧ Hid (J ys wr) ∧ Hid (Kp X W wr)) (fun i _ => (intOf i + 1).toNat)
  case atStart =>
    refine ⟨m, [], ?_, Nat.le_refl _, Lib.hid (by simp), Lib.hid H0.out, Lib.hid (KV.refl _ _ _)⟩
    cases m with
    | zero => rfl
    | succ m => simp [idxV]
  case round =>
    obtain ⟨r, ys, hi, hr, HYS, HJJ, HKV⟩ := hrel
    have hcw : wr.cell? ⟨Bb, 0, none⟩ = some (.slice pa m ac) := Keeps.cell (B := fun k => k = Bb) (HKV.out.keeps (fun k hk => ⟨fun hx => (hX k hx).2.1 hk, by simp [Value.ownBlock]⟩)) rfl hc'
    cases r with
    | zero =>
      change _ = Value.int .i64 (-1) at hi
      subst hi
      clear hcw hc'
      have hq : Hid (ys.map Bk.ty = path.reverse) := Lib.hid (by have := HYS.out; rwa [List.take_of_length_le (by simp; have := HM.out; omega)] at this)
      gi_wp2
      go_end0
      exact ⟨⟨_, rfl⟩, .inl ⟨ys, hq.out, HJJ.out⟩⟩
    | succ r =>
      change _ = Value.int .i64 (r : Int) at hi
      subst hi
      clear hc'
      obtain ⟨u, hu⟩ : ∃ u, path[r]? = some u := ⟨_, List.getElem?_eq_getElem (by have := HM.out; omega)⟩
      obtain ⟨g, b, o, rfl, hgc, hut, hgx⟩ := HAT.out r u hu
      have hgw : wr.cell? ⟨g, r, none⟩ = some (.pointer (some ⟨b, o, none⟩)) := Keeps.cell (B := fun k => k = g) (HKV.out.keeps (fun k hk => ⟨fun hx => hgx (hk ▸ hx), by simp [Value.ownBlock]⟩)) rfl hgc
      have hutw := hut.keep (HKV.out.keeps (fun k hk => ⟨fun hx => (hX k hx).1 hk, by simp [Value.ownBlock]⟩))
      obtain ⟨fn, tmps, assign, body, hy, hR⟩ := HY.out (n - 1) ys ⟨r, b, o, u⟩ wr HJJ.out hutw
      simp only [bkArgs] at hy
      have HR := Lib.hid hR
      have HT : Hid (path.reverse.take (m - r) = path.reverse.take (m - (r + 1)) ++ [u]) := Lib.hid (by have := rev_take hu; rwa [HM.out] at this)
      clear hu hgc hut hgx hutw hR
      gi_wp2_with fail
      refine ⟨fun h => (by cases h), HR.out.mono ?_⟩
      rintro e w2 (⟨rfl, hj2, hk2⟩ | ⟨rfl, hx2⟩)
      · have HJ2 := Lib.hid hj2
        have HK2 := Lib.hid (HKV.out.trans hk2)
        have HYS2 : Hid ((ys ++ [(⟨r, b, o, u⟩ : Bk)]).map Bk.ty = path.reverse.take (m - r)) := Lib.hid (by rw [HT.out, List.map_append, HYS.out]; rfl)
        clear hj2 hk2 hy
        gi_wp2_with fail
        refine ⟨⟨r, _, ?_, by omega, HYS2, HJ2, HK2⟩, ?_⟩
        · cases r <;> simp [idxV]
        · simp [intOf]
      · have HX2 := Lib.hid hx2
        have HP : Hid ((ys ++ [(⟨r, b, o, u⟩ : Bk)]).map Bk.ty <+: path.reverse) := Lib.hid (by
          rw [List.map_append, HYS.out]
          show _ ++ [u] <+: _
          rw [← HT.out]
          exact List.take_prefix _ _)
        clear hx2 hy
        gi_wp2_with fail
        exact bodyPost_ret (results_none rfl _ _ _) rfl ⟨⟨_, rfl⟩, .inr ⟨_, HP.out, HX2.out⟩⟩

end Go.Proofs.YtfmadgoieppmkaaDoor
