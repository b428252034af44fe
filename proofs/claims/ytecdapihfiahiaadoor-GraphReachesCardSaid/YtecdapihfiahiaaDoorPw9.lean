/- Raise of the reference: a raised copy in new memory. (and what follows from it) -/
import Derived.Test.YtecdapihfiahiaaDoorPw8
import Derived.Test.YtecdapihfiahiaaDoorPw5
import Derived.Test.YtecdapihfiahiaaDoorPw4
import Derived.Deep.RegionHeld3
import Derived.Deep.RegionHeldLaw
import Derived.Deep.WholeRow
import Derived.Deep.Cut

/- Raise of the reference: a raised copy in new memory. -/
namespace Go.Proofs.YtecdapihfiahiaaDoor
open Go.RowKit Go.Deep Go.Shelf

mutual
/-- Types that can be raised by j: no priority leaves its bounds, no list is too long. -/
def Ty.can (j : Int) : Ty → Prop
  | .mk k p _ _ ls ts => (actB k = true → In64 (p + j)) ∧ ls.length ≤ 400000000 ∧ ts.length ≤ 1048576 ∧ Ty.cans j ts
def Ty.cans (j : Int) : List Ty → Prop
  | [] => True
  | t :: r => t.can j ∧ Ty.cans j r
end
theorem Ty.cans_mem {j : Int} : ∀ {ts : List Ty}, Ty.cans j ts → ∀ t ∈ ts, t.can j
  | [], _, _, h => by cases h
  | u :: r, h, t, ht => by
    simp only [Ty.cans] at h
    rcases List.mem_cons.1 ht with rfl | ht
    · exact h.1
    · exact Ty.cans_mem h.2 t ht
mutual
theorem Ty.can_0 : ∀ t : Ty, t.modc → t.pin → t.can 0
  | .mk k p _ _ ls ts, h, hp => by
    simp only [Ty.modc] at h
    simp only [Ty.pin] at hp
    simp only [Ty.can]
    exact ⟨fun _ => by rw [Int.add_zero]; exact hp.1, h.1, h.2.1, Ty.cans_0 ts h.2.2 hp.2⟩
theorem Ty.cans_0 : ∀ ts : List Ty, Ty.modcs ts → Ty.pins ts → Ty.cans 0 ts
  | [], _, _ => by simp only [Ty.cans]
  | t :: r, h, hp => by
    simp only [Ty.modcs] at h
    simp only [Ty.pins] at hp
    simp only [Ty.cans]
    exact ⟨Ty.can_0 t h.1 hp.1, Ty.cans_0 r h.2 hp.2⟩
end
mutual
theorem Ty.raise_0 : ∀ t : Ty, t.raise 0 = t
  | .mk k p n s ls ts => by rw [Ty.raise, Ty.raises_0 ts, Int.add_zero, ite_self]
theorem Ty.raises_0 : ∀ ts : List Ty, Ty.raises 0 ts = ts
  | [] => by rw [Ty.raises]
  | t :: r => by rw [Ty.raises, Ty.raise_0 t, Ty.raises_0 r]
end

theorem tyInfo1 : (Tryd.prog.info? 47).map (·.size) = some 6 := by kernel_rfl
theorem store6_facts {w : World} {b : Nat} {z c' : Array Value} (hb : w.heap[b]? = some (.cells z 47 (0, 0))) (hc : c'.size = 6) (hs : z.size = c'.size) (h1 : c'.all (·.oneCell') = true) :
    ∃ w', (Instr.storeAt 47 (.pointer (some ⟨b, 0, none⟩)) (.agg c')).run Tryd.prog w = .ok () w' ∧ (storeCells ⟨b, 0, none⟩ c'.toList 0).run Tryd.prog w = .ok () w' ∧ w'.heap[b]? = some (.cells c' 47 (0, 0)) ∧ w.grownBy w' (some b) := by
  have hi : (Tryd.prog.info? 47).map (·.size) = some c'.size := by rw [hc]; exact tyInfo1
  have hr := run_storeVar_row (P := Tryd.prog) w b 47 47 z c' hb hi hs h1
  refine ⟨w.setRow b c', ?_, ?_, ?_, ⟨rfl, rfl, rfl, by simp [World.setRow], fun j _ hne => ?_⟩⟩
  · simp only [Instr.storeAt, Instr.sureAddr, Sem.run_bind, Sem.run_pure, Result.andThen]
    exact hr
  · cases hq : Tryd.prog.info? 47 with
    | none => simp [hq] at hi
    | some i =>
      have hs2 : c'.size = i.size := by simp [hq] at hi; omega
      simpa [storeVar, sizeOf, typeInfo, hq, Value.cells, hs2] using hr
  · unfold World.setRow
    show (w.heap.modify b _)[b]? = _
    rw [Array.getElem?_modify, if_pos rfl, hb]; rfl
  · show (w.heap.modify b _)[j]? = _
    rw [Array.getElem?_modify, if_neg (fun e => hne (by rw [e]))]
/-- A list of texts that was appended to an empty list of one's own. -/
theorem Row.ne_ty {base b : Nat} {w : World} {v : Value} {l : List ByteArray} {cs : Array Value} {fr : Nat × Nat} (h : Row base w v l) (hb : w.heap[b]? = some (.cells cs 47 fr)) : some b ≠ v.ownBlock := by
  intro e
  rcases h.1.2 with ⟨rfl, _⟩ | ⟨g, cap, cur, rfl, _, hg, _⟩
  · cases e
  · have : b = g := by injection e
    subst this
    rw [hb] at hg
    injection hg with hg
    injection hg with h1 h2 h3
    exact absurd h2 (by decide)

/-- append to an empty list beside the box that was made before: the store into the box is told at once. -/
theorem step_appS6 {ops : Array Oper} {o : Oper} {a : Act} {w : World} {K : Act → World → Prop} {Q : Exit → Act → World → Prop} {E : Prop} (hgd : o.guard = none) (s x : Operand)
    (ho : o.op = .call { callee := .builtin .append, args := #[s, x], argTypes := #[45, 45] })
    (base : Nat) (l : List ByteArray) (v : Value) (hs : a.eval s = v) (hown : Row base w v l) (B : Nat → Prop) (na : Option Addr) (nn nc : Nat) (names : List ByteArray) (hx : a.eval x = .slice na nn nc) (hnv : StrSl B w (.slice na nn nc) names) (h63 : l.length + names.length ≤ 1000000000) (hbase : base ≤ w.heap.size)
    (box : Operand) (X : Nat) (_hbox : a.eval box = .pointer (some ⟨X, 0, none⟩)) (hX : w.heap[X]? = some (.cells #[.int .i64 0, .int .i64 0, .string ⟨#[]⟩, .int .i64 0, .slice none 0 0, .slice none 0 0] 47 (0, 0)))
    (m : List ByteArray) (hm : l ++ names = m) (w0 : World) (hb0 : Below base w0 w)
    (h : ∀ ga gn gc w', Below base w0 w' → Row base w' (.slice ga gn gc) m → w'.heap[X]? = some (.cells #[.int .i64 0, .int .i64 0, .string ⟨#[]⟩, .int .i64 0, .slice none 0 0, .slice none 0 0] 47 (0, 0)) → K (a.put o.dst (.slice ga gn gc)) w') :
    if Region.wanted o (yielded ops a.tmps) = true then Oper.wp Tryd.prog o a w K Q else E := by
  refine step_app hgd s x ho base l v hs hown B na nn nc names hx hnv h63 hbase m hm ?_
  intro ga gn gc w' hr hg
  have hXlt : X < w.heap.size := (Array.getElem?_eq_some_iff.1 hX).1
  have hX' : w'.heap[X]? = some (.cells #[.int .i64 0, .int .i64 0, .string ⟨#[]⟩, .int .i64 0, .slice none 0 0, .slice none 0 0] 47 (0, 0)) := (hg.block X hXlt (Row.ne_ty hown hX)).trans hX
  have hB' : Below base w0 w' := hb0.grown hg hbase (fun k e => (hown.lt k e).1)
  exact h ga gn gc w' hB' hr hX'
theorem heap_new6 (V : World) (o : Obj) (b : Nat) (h : b = V.heap.size) : (V.alloc o).heap[b]? = some o := by subst h; exact World.alloc_heap_new _ _
theorem heap_drew6 (W : World) (b : Nat) : W.drew.heap[b]? = W.heap[b]? := rfl

/-- What stands behind the reference's first statement: the box of the copy, its labels, no kids yet. -/
def RaiseSt (m : Nat) (w0 : World) (k p s : Int) (n : ByteArray) (ls : List ByteArray) (v : Value) (w : World) : Prop :=
  ∃ bq la ln lc, v = .pointer (some ⟨bq, 0, none⟩) ∧ m ≤ bq ∧ Hid (Six w bq (.int .i64 k) (.int .i64 p) (.string n) (.int .i64 s) (.slice la ln lc) (.slice none 0 0)) ∧ Hid (Row m w (.slice la ln lc) ls) ∧ Hid (Below m w0 w)

set_option maxHeartbeats 8000000 in
set_option maxRecDepth 100000 in
theorem rraise_step (B : Nat → Prop) (j : Int) (k p s : Int) (n : ByteArray) (lv kv : Value) (ls : List ByteArray) (ts : List Ty) (hm : (Ty.mk k p n s ls ts).can j) (hnn : n.size ≤ maxLen) (w : World) (hB : Low B w) (hl : StrSl B w lv ls) (hk : TySl B w kv ts)
    (ih : ∀ t ∈ ts, ∀ (v : Value) (w : World), Low B w → TyVal B w v t → Calls Tryd.prog 16 #[v, .int .i64 j] w (TyRet w (t.raise j))) :
    Calls Tryd.prog 16 #[.agg #[.int .i64 k, .int .i64 p, .string n, .int .i64 s, lv, kv], .int .i64 j] w (TyRet w ((Ty.mk k p n s ls ts).raise j)) := by
  simp only [Ty.can] at hm
  obtain ⟨hp, hm1, hm2, _⟩ := hm
  obtain ⟨l0, len0, cl0, rfl, hll, _, _⟩ := hl.open
  obtain ⟨k0, kn0, kc0, rfl, hkl, hkm, hkget⟩ := hk.open
  have hb0 := box2_below w (cell6 k p n s (.slice l0 len0 cl0) (.slice k0 kn0 kc0)) (cell6 0 0 ⟨#[]⟩ 0 (.slice none 0 0) (.slice none 0 0))
  obtain ⟨s0, s1⟩ := Six.two w (.int .i64 k) (.int .i64 p) (.string n) (.int .i64 s) (.slice l0 len0 cl0) (.slice k0 kn0 kc0) (.int .i64 0) (.int .i64 0) (.string ⟨#[]⟩) (.int .i64 0) (.slice none 0 0) (.slice none 0 0)
  obtain ⟨W2, hW2⟩ : ∃ W2, (w.alloc (cell6 k p n s (.slice l0 len0 cl0) (.slice k0 kn0 kc0))).alloc (cell6 0 0 ⟨#[]⟩ 0 (.slice none 0 0) (.slice none 0 0)) = W2 := ⟨_, rfl⟩
  have hs2 : W2.heap.size = w.heap.size + 2 := by rw [← hW2]; simp
  simp only [cell6] at hW2 hb0
  rw [hW2] at hb0 s0 s1
  have HL : Hid (∀ W, Below W2.heap.size W2 W → StrSl B W (.slice l0 len0 cl0) ls) := Lib.hid (fun W hW => hl.keep ((below_seq hb0 hW).keeps'.mono hB))
  have HK : Hid (∀ W : World, (∀ i, i < w.heap.size → W.heap[i]? = w.heap[i]?) → TySl B W (.slice k0 kn0 kc0) ts) := Lib.hid (fun W hW => hk.keep (fun i o hi ho _ => (hW i (hB i hi)).trans ho))
  have HS0 := Lib.hid s0
  have HS1 := Lib.hid s1
  have HB0 := Lib.hid hb0
  have HW2 := Lib.hid hW2
  have HIH := Lib.hid ih
  have HKL := Lib.hid hkl.out
  have HBB := Lib.hid hB
  have hll1 : 0 + ls.length ≤ 1000000000 := by omega
  have HNN := Lib.hid hnn
  clear hl hk s0 s1 hb0 hW2 ih hkget hll hB hkl hnn
  go_enter Tryd.func16, Tryd.ntmps16
  obtain ⟨⟨d0, d1, d2, d3, d4, d5⟩, hf⟩ := HS0.out.cells
  go_upto_region 1 with fail
  rw [HW2.out]
  clear HW2
  go_cut [5] from 6 (fun v wc => RaiseSt W2.heap.size W2 k p s n ls v wc)
  case first =>
    have HBr := Lib.hid (Below.refl W2.heap.size W2)
    go_region_held_law (fun W => W.cell? ⟨w.heap.size, 0, none⟩ = some (.int .i64 k) ∧ W.cell? ⟨w.heap.size, 1, none⟩ = some (.int .i64 p) ∧ W.cell? ⟨w.heap.size, 2, none⟩ = some (.string n) ∧ W.cell? ⟨w.heap.size, 3, none⟩ = some (.int .i64 s) ∧ W.cell? ⟨w.heap.size, 4, none⟩ = some (.slice l0 len0 cl0) ∧ W.cell? ⟨w.heap.size, 5, none⟩ = some (.slice k0 kn0 kc0))
      (first | go_keep | exact (HS0.out.to (by (repeat (first | with_reducible exact HBr.out | with_reducible exact HB1.out | with_reducible exact H7.out.2.2 | with_reducible exact H8.out.2.2 | with_reducible apply Below.drew | (with_reducible refine Below.setCell ?_ ?_ _; rotate_left; focus (first | omega | (simp; done) | (simp; omega))) | (with_reducible refine Below.alloc ?_ ?_ _; rotate_left; focus (first | omega | (simp; done) | (simp; omega))))))).cells.1 | fail)
      (first
        | (refine step_appS6 (by rfl) _ _ (by rfl) W2.heap.size [] (.slice (some ⟨w.heap.size + 2, 0, none⟩) 0 0) ?_ ?_ B l0 len0 cl0 ls ?_ ?_ hll1 ?_ (.tmp 5) (w.heap.size + 3) ?_ ?_ ls (List.nil_append _) W2 ?_ ?_
           · rfl
           · (repeat (first | (with_reducible refine Row.empty _ _ _ ?_ ?_ <;> first | omega | rfl | (simp; omega) | (simp; done)) | with_reducible refine Row.alloc ?_ _ | with_reducible refine Row.drew ?_))
           · rfl
           · exact HL.out _ (by (repeat (first | with_reducible exact HBr.out | with_reducible exact HB1.out | with_reducible exact H7.out.2.2 | with_reducible exact H8.out.2.2 | with_reducible apply Below.drew | (with_reducible refine Below.setCell ?_ ?_ _; rotate_left; focus (first | omega | (simp; done) | (simp; omega))) | (with_reducible refine Below.alloc ?_ ?_ _; rotate_left; focus (first | omega | (simp; done) | (simp; omega))))))
           · (first | omega | (simp; done) | (simp; omega))
           · rfl
           · repeat (first | with_reducible exact heap_new6 _ _ _ (by first | omega | (simp; done) | (simp; omega)) | with_reducible refine Eq.trans (heap_drew6 _ _) ?_ | with_reducible refine Eq.trans (Below.heap_alloc _ _ _ (by first | omega | (simp; done) | (simp; omega))) ?_)
           · (repeat (first | with_reducible exact HBr.out | with_reducible exact HB1.out | with_reducible exact H7.out.2.2 | with_reducible exact H8.out.2.2 | with_reducible apply Below.drew | (with_reducible refine Below.setCell ?_ ?_ _; rotate_left; focus (first | omega | (simp; done) | (simp; omega))) | (with_reducible refine Below.alloc ?_ ?_ _; rotate_left; focus (first | omega | (simp; done) | (simp; omega)))))
           intro ga gn gc w5 hb5 hr5 hx5
           obtain ⟨⟨q0, q1, q2, q3, q4, q5⟩, hfq⟩ := Six.cells hx5
           have HB1 := Lib.hid hb5
           have HR1 := Lib.hid hr5
           have HX1 := Lib.hid hx5
           have hz5 : W2.heap.size ≤ w5.heap.size := HB1.out.size
           clear hb5 hr5 hx5)
        | (refine step_appS6 (by rfl) _ _ (by rfl) W2.heap.size [] (.slice (some ⟨w.heap.size + 3, 0, none⟩) 0 0) ?_ ?_ B l0 len0 cl0 ls ?_ ?_ hll1 ?_ (.tmp 5) (w.heap.size + 2) ?_ ?_ ls (List.nil_append _) W2 ?_ ?_
           · rfl
           · (repeat (first | (with_reducible refine Row.empty _ _ _ ?_ ?_ <;> first | omega | rfl | (simp; omega) | (simp; done)) | with_reducible refine Row.alloc ?_ _ | with_reducible refine Row.drew ?_))
           · rfl
           · exact HL.out _ (by (repeat (first | with_reducible exact HBr.out | with_reducible exact HB1.out | with_reducible exact H7.out.2.2 | with_reducible exact H8.out.2.2 | with_reducible apply Below.drew | (with_reducible refine Below.setCell ?_ ?_ _; rotate_left; focus (first | omega | (simp; done) | (simp; omega))) | (with_reducible refine Below.alloc ?_ ?_ _; rotate_left; focus (first | omega | (simp; done) | (simp; omega))))))
           · (first | omega | (simp; done) | (simp; omega))
           · rfl
           · repeat (first | with_reducible exact heap_new6 _ _ _ (by first | omega | (simp; done) | (simp; omega)) | with_reducible refine Eq.trans (heap_drew6 _ _) ?_ | with_reducible refine Eq.trans (Below.heap_alloc _ _ _ (by first | omega | (simp; done) | (simp; omega))) ?_)
           · (repeat (first | with_reducible exact HBr.out | with_reducible exact HB1.out | with_reducible exact H7.out.2.2 | with_reducible exact H8.out.2.2 | with_reducible apply Below.drew | (with_reducible refine Below.setCell ?_ ?_ _; rotate_left; focus (first | omega | (simp; done) | (simp; omega))) | (with_reducible refine Below.alloc ?_ ?_ _; rotate_left; focus (first | omega | (simp; done) | (simp; omega)))))
           intro ga gn gc w5 hb5 hr5 hx5
           obtain ⟨⟨q0, q1, q2, q3, q4, q5⟩, hfq⟩ := Six.cells hx5
           have HB1 := Lib.hid hb5
           have HR1 := Lib.hid hr5
           have HX1 := Lib.hid hx5
           have hz5 : W2.heap.size ≤ w5.heap.size := HB1.out.size
           clear hb5 hr5 hx5)
        | (refine step_app (by rfl) _ _ (by rfl) W2.heap.size [] (.slice (some ⟨w.heap.size + 2, 0, none⟩) 0 0) ?_ ?_ B l0 len0 cl0 ls ?_ ?_ hll1 ?_ ls (List.nil_append _) ?_
           · rfl
           · (repeat (first | (with_reducible refine Row.empty _ _ _ ?_ ?_ <;> first | omega | rfl | (simp; omega) | (simp; done)) | with_reducible refine Row.alloc ?_ _ | with_reducible refine Row.drew ?_))
           · rfl
           · exact HL.out _ (by (repeat (first | with_reducible exact HBr.out | with_reducible exact HB1.out | with_reducible exact H7.out.2.2 | with_reducible exact H8.out.2.2 | with_reducible apply Below.drew | (with_reducible refine Below.setCell ?_ ?_ _; rotate_left; focus (first | omega | (simp; done) | (simp; omega))) | (with_reducible refine Below.alloc ?_ ?_ _; rotate_left; focus (first | omega | (simp; done) | (simp; omega))))))
           · (first | omega | (simp; done) | (simp; omega))
           intro ga gn gc w5 hrow hgrow
           have HB1 := Lib.hid (Below.grown (B := W2.heap.size) (a := W2) (by (repeat (first | with_reducible exact HBr.out | with_reducible exact HB1.out | with_reducible exact H7.out.2.2 | with_reducible exact H8.out.2.2 | with_reducible apply Below.drew | (with_reducible refine Below.setCell ?_ ?_ _; rotate_left; focus (first | omega | (simp; done) | (simp; omega))) | (with_reducible refine Below.alloc ?_ ?_ _; rotate_left; focus (first | omega | (simp; done) | (simp; omega)))))) hgrow (by first | omega | (simp; done) | (simp; omega)) (fun k e => by cases e; first | omega | (simp; done) | (simp; omega)))
           have HR1 := Lib.hid hrow
           have hz5 : W2.heap.size ≤ w5.heap.size := HB1.out.size
           clear hrow hgrow)
        | fail)
    all_goals (go_wp2_with fail)
    all_goals go_meet
    all_goals (first
      | exact ⟨_, ga, gn, gc, rfl, by omega, Lib.hid (Six.fill HX1.out _ _ _ _ _ _), Lib.hid (HR1.out.kept (fun q hq => heap_setCells_other (fun e => Row.ne_ty HR1.out HX1.out (by rw [hq, e])) [_, _, _, _, _, _] 0 _)), Lib.hid (by (repeat (first | with_reducible exact HB1.out | with_reducible apply Below.drew | (with_reducible refine Below.setCell ?_ ?_ _; rotate_left; focus (first | omega | (simp; done) | (simp; omega))) | (with_reducible refine Below.alloc ?_ ?_ _; rotate_left; focus (first | omega | (simp; done) | (simp; omega))))))⟩
      | exact ⟨_, ga, gn, gc, rfl, by omega, Lib.hid (Six.new _ _ _ _ _ _ _), Lib.hid (HR1.out.alloc _), Lib.hid (by (repeat (first | with_reducible exact HB1.out | with_reducible apply Below.drew | (with_reducible refine Below.setCell ?_ ?_ _; rotate_left; focus (first | omega | (simp; done) | (simp; omega))) | (with_reducible refine Below.alloc ?_ ?_ _; rotate_left; focus (first | omega | (simp; done) | (simp; omega))))))⟩
      | trace_state)
  case rest =>
    obtain ⟨bq, la, ln, lc, rfl, hbq, HX, HR, HB⟩ := hcut
    obtain ⟨W3, hW3⟩ : ∃ W3, W3 = wc := ⟨_, rfl⟩
    rw [← hW3] at HX HR HB ⊢
    clear hW3 wc
    have HS3 := Lib.hid (HS0.out.to HB.out)
    have hbx := HX.out.lt
    obtain ⟨act, hact⟩ : ∃ b, actB k = b := ⟨_, rfl⟩
    obtain ⟨p', hp'⟩ : ∃ x, (if actB k = true then p + j else p) = x := ⟨_, rfl⟩
    have HP := Lib.hid hp'
    go_upto_region 2 with fail
    go_cut [27] from 28 (fun b wr => b = .bool act ∧ W3 = wr)
    case first =>
      obtain ⟨⟨d0, d1, d2, d3, d4, d5⟩, hf⟩ := HS3.out.cells
      by_cases h4 : 4 ≤ k
      · by_cases h7 : k ≤ 7
        · obtain rfl : act = true := by rw [← hact]; simp [actB, h4, h7]
          go_wp2_with fail
          go_meet
          case rel => exact ⟨rfl, rfl⟩
        · obtain rfl : act = false := by rw [← hact]; simp [actB, h4, h7]
          go_wp2_with fail
          go_meet
          case rel => exact ⟨rfl, rfl⟩
      · obtain rfl : act = false := by rw [← hact]; simp [actB, h4]
        go_wp2_with fail
        go_meet
        case rel => exact ⟨rfl, rfl⟩
    case rest =>
      obtain ⟨rfl, rfl⟩ := hcut
      go_upto_if 27 with fail
      go_cut [5] from 28 (fun v wr => v = .pointer (some ⟨bq, 0, none⟩) ∧ Hid (Six wr bq (.int .i64 k) (.int .i64 p') (.string n) (.int .i64 s) (.slice la ln lc) (.slice none 0 0)) ∧ Hid (Row W2.heap.size wr (.slice la ln lc) ls) ∧ Hid (Below W2.heap.size W2 wr))
      case first =>
        obtain ⟨⟨d0, d1, d2, d3, d4, d5⟩, hf⟩ := HS3.out.cells
        obtain ⟨⟨e0, e1, e2, e3, e4, e5⟩, hf1⟩ := HX.out.cells
        cases act
        · rw [if_neg (by simp [hact])] at hp'
          subst hp'
          go_wp2_with fail
          go_meet
          case rel => exact ⟨rfl, HX, HR, HB⟩
        · obtain ⟨hlo, hhi⟩ := hp hact
          rw [if_pos hact] at hp'
          subst hp'
          go_wp2_with fail
          go_meet
          case rel => exact ⟨rfl, Lib.hid (set_block HX.out 1 _), Lib.hid (HR.out.kept (fun q hq => Below.heap_setCell _ _ _ q (by simp; exact fun e => Row.ne_ty HR.out HX.out (by rw [hq, e])))), Lib.hid (HB.out.setCell (p := ⟨bq, 1, none⟩) hbq _)⟩
      case rest =>
        clear HX HR HB HS3 hact hp'
        obtain ⟨rfl, HX, HR, HB⟩ := hcut
        obtain ⟨W4, hW4⟩ : ∃ W4, W4 = wc := ⟨_, rfl⟩
        rw [← hW4] at HX HR HB ⊢
        clear hW4 wc
        have hb4 : W2.heap.size ≤ W4.heap.size := HB.out.size
        have hbq4 : bq < W4.heap.size := HX.out.lt
        have hkn1 : kn0 ≤ 1048576 := by rw [HKL.out]; exact hm2
        have HLO : Hid (∀ wr, W4.grownBy wr (some bq) → ∀ i, i < W2.heap.size → wr.heap[i]? = W2.heap[i]?) := Lib.hid (fun wr hg i hi => (hg.block i (by omega) (fun e => by injection e; omega)).trans (HB.out.block i hi))
        have HX0 : Hid (∀ wr, W4.grownBy wr (some bq) → Six wr w.heap.size (.int .i64 k) (.int .i64 p) (.string n) (.int .i64 s) (.slice l0 len0 cl0) (.slice k0 kn0 kc0)) := Lib.hid (fun wr hg => (HLO.out wr hg _ (by omega)).trans HS0.out)
        have HX1 : Hid (∀ wr, W4.grownBy wr (some bq) → Six wr (w.heap.size + 1) (.int .i64 0) (.int .i64 0) (.string ⟨#[]⟩) (.int .i64 0) (.slice none 0 0) (.slice none 0 0)) := Lib.hid (fun wr hg => (HLO.out wr hg _ (by omega)).trans HS1.out)
        have HKW : Hid (∀ wr, W4.grownBy wr (some bq) → TySl B wr (.slice k0 kn0 kc0) ts) := Lib.hid (fun wr hg => HK.out wr (fun i hi => (HLO.out wr hg i (by omega)).trans (HB0.out.block i hi)))
        have HBW : Hid (∀ wr, W4.grownBy wr (some bq) → Low B wr) := Lib.hid (fun wr hg => HBB.out.le (by have := hg.size; omega))
        have HRW : Hid (∀ wr, W4.grownBy wr (some bq) → Row W2.heap.size wr (.slice la ln lc) ls) := Lib.hid (fun wr hg => HR.out.kept (fun q hq => hg.block q (HR.out.lt q hq).2 (fun e => Row.ne_ty HR.out HX.out (e.symm.trans hq.symm))))
        clear HLO HR HS0 HS1 HK HL hbx
        clear d0 d1 d2 d3 d4 d5 hf
        go_wp2_with fail
        go_loopw [6] (fun i wr => ∃ (q : Nat) (va : Option Addr) (vn vc : Nat) (rows : List (List Value)), i = .int .i64 (q : Int) ∧ q ≤ kn0 ∧ Hid (W4.grownBy wr (some bq)) ∧ Hid (Six wr bq (.int .i64 k) (.int .i64 p') (.string n) (.int .i64 s) (.slice la ln lc) (.slice va vn vc)) ∧ Hid (Kids 47 6 GoodT W4.heap.size wr (.slice va vn vc) rows ((ts.take q).map (Ty.raise j)))) (fun i _ => kn0 - (intOf i).toNat)
        case atStart => exact ⟨0, none, 0, 0, [], rfl, by omega, Lib.hid ⟨rfl, rfl, rfl, Nat.le_refl _, fun _ _ _ => rfl⟩, HX, Lib.hid (Kids.nil _)⟩
        case round =>
          clear HX
          obtain ⟨q, va, vn, vc, rows, rfl, hq, HG, HX4, HKD⟩ := hrel
          obtain ⟨⟨a0, a1, a2, a3, a4, a5⟩, haf⟩ := (HX0.out wr HG.out).cells
          obtain ⟨⟨b0, b1, b2, b3, b4, b5⟩, hbf⟩ := HX4.out.cells
          have hwr4 := HG.out.size
          by_cases hlt : q < kn0
          · obtain ⟨t, htq⟩ : ∃ t, ts[q]? = some t := ⟨_, List.getElem?_eq_getElem (by rw [← HKL.out]; exact hlt)⟩
            obtain ⟨kb, ko, hk0, hkb, hty⟩ : ∃ kb ko, k0 = some ⟨kb, ko, none⟩ ∧ B kb ∧ TyAt B wr t kb (ko + q * 6) := by
              obtain ⟨pa, len, c, e, _, _, hget⟩ := (HKW.out wr HG.out).open
              injection e with e1 e2 e3
              obtain ⟨kb, ko, h1, h2, h3⟩ := hget q t htq
              exact ⟨kb, ko, by rw [e1]; exact h1, h2, h3⟩
            subst hk0
            obtain ⟨la1, ln1, lc1, ka1, kn1, kc1, ⟨e0, e1, e2, e3, e4, e5⟩, hval⟩ := hty.load'
            have hBr := HBW.out wr HG.out
            have hkbw : kb < w.heap.size := HBB.out kb hkb
            have HC : Hid (∀ W, Below wr.heap.size wr W → Calls Tryd.prog 16 #[.agg #[.int .i64 t.k, .int .i64 t.p, .string t.n, .int .i64 t.s, .slice la1 ln1 lc1, .slice ka1 kn1 kc1], .int .i64 j] W (TyRet W (t.raise j))) := Lib.hid (fun W hW => HIH.out t (List.mem_of_getElem? htq) _ W (hBr.le hW.size) (hval.to hBr hW))
            obtain ⟨i0, hi, hz0, hz1, hz2⟩ := info_parts tyInfo
            have hmap : ((ts.take q).map (Ty.raise j)).length + 1 ≤ 1048577 := by rw [List.length_map, List.length_take]; omega
            have hbqr : bq < wr.heap.size := by omega
            have HTQ := Lib.hid htq
            clear hty hval hkb htq
            go_wp2_with fail
            go_region_law
              (first
                | (go_simp
                   go_at_call 16
                   refine (HC.out _ (by (repeat (first | with_reducible exact Below.refl _ _ | with_reducible exact HB6.out | with_reducible exact HB5.out | with_reducible apply Below.drew | (with_reducible refine Below.setCell ?_ ?_ _; rotate_left; focus (first | omega | (simp; done) | (simp; omega))) | (with_reducible refine Below.alloc ?_ ?_ _; rotate_left; focus (first | omega | (simp; done) | (simp; omega))))))).mono ?_
                   rintro e w5 ⟨la5, ln5, lc5, ka5, kn5, kc5, rfl, hv5, hb5⟩
                   dsimp only
                   have HB5 : Hid (Below wr.heap.size wr w5) := Lib.hid (Below.trans (by (repeat (first | with_reducible exact Below.refl _ _ | with_reducible exact HB6.out | with_reducible exact HB5.out | with_reducible apply Below.drew | (with_reducible refine Below.setCell ?_ ?_ _; rotate_left; focus (first | omega | (simp; done) | (simp; omega))) | (with_reducible refine Below.alloc ?_ ?_ _; rotate_left; focus (first | omega | (simp; done) | (simp; omega)))))) hb5)
                   have HV5 : Hid (TyVal (Fresh wr.heap.size w5.heap.size) w5 (.agg #[.int .i64 (t.raise j).k, .int .i64 (t.raise j).p, .string (t.raise j).n, .int .i64 (t.raise j).s, .slice la5 ln5 lc5, .slice ka5 kn5 kc5]) (t.raise j)) := Lib.hid hv5
                   have b55 : w5.cell? ⟨bq, 5, none⟩ = some (.slice va vn vc) := (HB5.out.cell (p := ⟨bq, 5, none⟩) hbqr).trans b5
                   have hz5 := HB5.out.size
                   have hne5 := World.new_ne w5 _ b55
                   have hbq5 : bq < w5.heap.size := by omega
                   clear hv5 hb5)
                | (refine step_kid (by rfl) _ _ _ (by rfl) Tryd.underlying22 hi hz0 hz1 hz2 rfl (by decide) goodT HKD.out hwr4 HB5.out (by rfl) _ [.int .i64 (t.raise j).k, .int .i64 (t.raise j).p, .string (t.raise j).n, .int .i64 (t.raise j).s, .slice la5 ln5 lc5, .slice ka5 kn5 kc5] 1 (by rfl) ?_ 47 ?_ rfl ?_ hmap (by decide) (t.raise j) ⟨_, _, _, _, _, _, rfl, HV5.out⟩ ?_
                   · (repeat (first | with_reducible exact Below.refl _ _ | with_reducible apply Below.drew | (with_reducible refine Below.alloc ?_ ?_ _; rotate_left; focus (first | omega | (simp; done) | (simp; omega)))))
                   · (repeat (first | with_reducible exact heapN _ _ _ (by first | rfl | omega | (simp; done) | (simp; omega)) | with_reducible refine Eq.trans (heapD _ _) ?_))
                   · (intro u hu; simp only [List.mem_cons, List.not_mem_nil, or_false] at hu; rcases hu with rfl | rfl | rfl | rfl | rfl | rfl <;> rfl)
                   intro ga gn gc w6 rows2 hK6 hB6
                   have HB6 := Lib.hid hB6
                   have HK6 := Lib.hid hK6
                   have HX6 : Hid (Six w6 bq (.int .i64 k) (.int .i64 p') (.string n) (.int .i64 s) (.slice la ln lc) (.slice va vn vc)) := Lib.hid ((hB6.block bq hbq4).trans HX4.out)
                   obtain ⟨⟨g0, g1, g2, g3, g4, g5⟩, hgf⟩ := HX6.out.cells
                   clear hK6 hB6)
                | fail)
            all_goals
              go_wp2_with fail
              go_roundw
              case rel => exact ⟨q + 1, ga, gn, gc, rows2, by go_num, by omega, Lib.hid ⟨HB6.out.os.trans HG.out.os, HB6.out.tape.trans HG.out.tape, HB6.out.output.trans HG.out.output, by simp; exact Nat.le_trans HG.out.size HB6.out.size, fun i hi hne => (Below.heap_setCell _ _ _ i (by simp; exact fun e => hne (by rw [e]))).trans ((HB6.out.block i hi).trans (HG.out.block i hi hne))⟩, Lib.hid (HX6.out.set5 _), Lib.hid (by rw [take_snoc_get HTQ.out, List.map_append]; exact Kids.set goodT HK6.out hbq4 _)⟩
              case measure => simp [intOf]; omega
          · obtain rfl : q = kn0 := by omega
            have hrw : (Ty.mk k p n s ls ts).raise j = .mk k p' n s ls (Ty.raises j ts) := by rw [Ty.raise, HP.out]
            have hgs := HG.out.size
            obtain ⟨⟨c0, c1, c2, c3, c4, c5⟩, hcf⟩ := (HX1.out wr HG.out).cells
            go_wp2_with fail
            have ha := (Above.refl (w.heap.size + 2) wr).fill (c := w.heap.size + 1) (by omega) (.int .i64 k) (.int .i64 p') (.string n) (.int .i64 s) (.slice la ln lc) (.slice va vn vc)
            have hbw : Below w.heap.size w wr := (HB0.out.trans (HB.out.mono (by omega))).grown HG.out (by omega) (fun i e => by cases e; omega)
            have hbf2 := below_fill (c := w.heap.size + 1) hbw (by omega) (.int .i64 k) (.int .i64 p') (.string n) (.int .i64 s) (.slice la ln lc) (.slice va vn vc)
            have hst := ((HRW.out wr HG.out).strs (by unfold maxLen; omega)).2
            have hky := HKD.out.tys (by rw [List.length_map, List.length_take]; unfold maxLen; omega)
            rw [List.take_of_length_le (by rw [← HKL.out]; exact Nat.le_refl _), ← Ty.raises_map] at hky
            have hlr : (Ty.raises j ts).length = ts.length := by rw [Ty.raises_map, List.length_map]
            refine bodyPost_ret (v := .agg #[.int .i64 k, .int .i64 p', .string n, .int .i64 s, .slice la ln lc, .slice va vn vc]) (by simp [results, Tryd.results16, go_sem, c0, c1, c2, c3, c4, c5]) rfl (by rw [hrw]; exact ⟨la, ln, lc, va, vn, vc, rfl, ⟨_, _, rfl, HNN.out, (hst.keep (ha.keeps.mono (Fresh.mono (by omega) (Nat.le_refl _)))).mono (Fresh.mono (by omega) ha.size), (hky.keep (ha.keeps.mono (Fresh.mono (by omega) (Nat.le_refl _)))).mono (Fresh.mono (by omega) ha.size)⟩, hbf2⟩)

theorem rraise_any (B : Nat → Prop) (j : Int) : ∀ t : Ty, t.can j → ∀ (v : Value) (w : World), Low B w → TyVal B w v t → Calls Tryd.prog 16 #[v, .int .i64 j] w (TyRet w (t.raise j)) := by
  refine Ty.ind ?_
  intro k p n s ls ts ih hm v w hB hv
  obtain ⟨lv, kv, rfl, hn, hl, hk⟩ := hv
  have hm' := hm
  simp only [Ty.can] at hm'
  exact rraise_step B j k p s n lv kv ls ts hm hn w hB hl hk (fun t ht => ih t ht (Ty.cans_mem hm'.2.2.2 t ht))

end Go.Proofs.YtecdapihfiahiaaDoor

/- Graphs: raised types (mathematics). -/
namespace Go.Proofs.YtecdapihfiahiaaDoor
open Go.RowKit Go.Deep Go.Shelf

theorem shape_ls {k p s : Int} {n : ByteArray} {ls : List ByteArray} {m : Nat} (h : shapeC k p s n ls m = true) : ls.length ≤ m := by
  unfold shapeC at h
  repeat' split at h
  all_goals simp at h
  all_goals (first | (rw [h.2.2.2.1]; simp; done) | omega)
theorem shape_p {k p s : Int} {n : ByteArray} {ls : List ByteArray} {m : Nat} (h : shapeC k p s n ls m = true) : 0 ≤ p ∧ p ≤ 1000000 := by
  unfold shapeC at h
  repeat' split at h
  all_goals simp [prioB] at h
  all_goals omega
/-- Right types can be built. -/
theorem okg_of : ∀ (t : Ty) (names : List ByteArray) (g : Nat) (se : Bool), nodeR names g se t = 0 → t.size ≤ 1000 → t.okg := by
  refine Ty.ind ?_
  intro k p n s ls ts ih names g se h hz
  obtain ⟨hs, h2⟩ := nodeR_shape h
  have hk := shape_k hs
  have hl := shape_ls hs
  simp only [Ty.size] at hz
  have hlen := Ty.length_sizes ts
  have hkids : ∀ (nm : List ByteArray) (g' : Nat) (f : Bool), kidsR nm g' f 0 ts = 0 → Ty.okgs ts := fun nm g' f hk0 => Ty.okgs_of (fun t ht => by
    obtain ⟨se', ht'⟩ := kidsR_all hk0 t ht
    exact ih t ht nm g' se' ht' (by have := Ty.size_mem ht; omega))
  simp only [Ty.okg]
  refine ⟨hk.2, fun e => ?_, fun e => ?_, by omega, ?_⟩
  · subst e; exact shape_8 hs
  · subst e; exact List.length_eq_zero_iff.1 (shape_9 hs)
  · by_cases h9 : k = 9
    · subst h9
      have := List.length_eq_zero_iff.1 (shape_9 hs)
      subst this; simp only [Ty.okgs]
    · rw [if_neg h9] at h2
      by_cases h8 : k = 8
      · rw [if_pos h8] at h2; exact hkids _ _ _ h2
      · rw [if_neg h8] at h2; exact hkids _ _ _ h2
theorem varR_0 (x : ByteArray) (names : List ByteArray) : varR names 0 x ≠ 0 := by
  have h : ∀ i, vR names 0 x i ≠ 0 := by
    intro i
    induction i with
    | zero => rw [vR]; decide
    | succ i ih =>
      rw [vR]
      split
      · rw [if_neg (by omega)]; decide
      · exact ih
  exact h _
theorem real_of : ∀ (t : Ty) (names : List ByteArray) (se : Bool), nodeR names 0 se t = 0 → t.real = true := by
  refine Ty.ind ?_
  intro k p n s ls ts ih names se h
  obtain ⟨hs, h2⟩ := nodeR_shape h
  rw [Ty.real]
  by_cases h8 : k = 8
  · subst h8
    rw [if_pos rfl]
    rw [if_neg (by decide), if_pos rfl] at h2
    match ts, ih, h2 with
    | [], _, _ => rw [Ty.real1]
    | u :: r, ih, h2 =>
      obtain ⟨se', hu⟩ := kidsR_all h2 u (by simp)
      rw [Ty.real1]; exact ih u (by simp) _ _ hu
  · rw [if_neg h8]
    by_cases h9 : k = 9
    · rw [if_pos h9] at h2; exact absurd h2 (varR_0 _ _)
    · simpa using h9
theorem real_pref : ∀ (t : Ty) (i : Nat) (e : ByteArray → Nat), t.real = true → t.pref i e = ⟨i, 0⟩ := by
  refine Ty.ind ?_
  intro k p n s ls ts ih i e h
  rw [Ty.real] at h
  rw [Ty.pref]
  by_cases h8 : k = 8
  · rw [if_pos h8] at h ⊢
    match ts, ih, h with
    | [], _, _ => rw [Ty.pref1]
    | u :: _, ih, h => rw [Ty.real1] at h; rw [Ty.pref1]; exact ih u (by simp) i _ h
  · rw [if_neg h8] at h ⊢
    rw [if_neg (by simpa using h)]

/-! ### Raised types -/
def upN (j : Int) (n : GNode) : GNode := ⟨n.k, if actB n.k then n.p + j else n.p, n.ls, n.nx⟩
theorem raise_gcnt (j : Int) : ∀ t : Ty, (t.raise j).gcnt = t.gcnt := by
  refine Ty.ind ?_
  intro k p n s ls ts ih
  rw [Ty.raise, Ty.gcnt, Ty.gcnt]
  congr 1
  induction ts with
  | nil => rfl
  | cons t r ihr =>
    rw [Ty.raises, Ty.gcnts, Ty.gcnts, ih t (by simp), ihr (fun u hu => ih u (by simp [hu]))]
theorem raise_pref (j : Int) : ∀ (t : Ty) (i : Nat) (e : ByteArray → Nat), (t.raise j).pref i e = t.pref i e := by
  refine Ty.ind ?_
  intro k p n s ls ts ih i e
  rw [Ty.raise, Ty.pref, Ty.pref]
  split
  · match ts, ih with
    | [], _ => rfl
    | u :: r, ih => rw [Ty.raises, Ty.pref1, Ty.pref1]; exact ih u (by simp) _ _
  · rfl
theorem raise_prefs (j : Int) (e : ByteArray → Nat) : ∀ (l : List Ty) (i : Nat), Ty.prefs i e (Ty.raises j l) = Ty.prefs i e l
  | [], _ => rfl
  | t :: r, i => by rw [Ty.raises, Ty.prefs, Ty.prefs, raise_pref, raise_gcnt, raise_prefs j e r]
theorem raise_pnod (j : Int) : ∀ (t : Ty) (i : Nat) (e : ByteArray → Nat), (t.raise j).pnod i e = (t.pnod i e).map (upN j) := by
  refine Ty.ind ?_
  intro k p n s ls ts ih i e
  rw [Ty.raise, Ty.pnod, Ty.pnod]
  by_cases h8 : k = 8
  · rw [if_pos h8, if_pos h8]
    match ts, ih with
    | [], _ => rfl
    | u :: r, ih => rw [Ty.raises, Ty.pnod1, Ty.pnod1]; exact ih u (by simp) _ _
  · rw [if_neg h8, if_neg h8]
    by_cases h9 : k = 9
    · rw [if_pos h9, if_pos h9]; rfl
    · rw [if_neg h9, if_neg h9, List.map_cons, raise_prefs]
      have h3 : ∀ (l : List Ty) (i : Nat), (∀ t ∈ l, t ∈ ts) → Ty.pnods i e (Ty.raises j l) = (Ty.pnods i e l).map (upN j) := by
        intro l
        induction l with
        | nil => intro i _; rw [Ty.raises, Ty.pnods]; rfl
        | cons t r ihl =>
          intro i hm
          rw [Ty.raises, Ty.pnods, Ty.pnods, List.map_append, ih t (hm t (by simp)), raise_gcnt, ihl _ (fun u hu => hm u (by simp [hu]))]
      rw [h3 ts _ (fun _ h => h)]
      rfl
/-- The kinds and priorities of the nodes of right types. -/
theorem pnod_kp : ∀ (t : Ty) (names : List ByteArray) (g : Nat) (se : Bool) (i : Nat) (e : ByteArray → Nat), nodeR names g se t = 0 → ∀ x ∈ t.pnod i e, 1 ≤ x.k ∧ x.k ≤ 7 ∧ 0 ≤ x.p ∧ x.p ≤ 1000000 := by
  refine Ty.ind ?_
  intro k p n s ls ts ih names g se i e h x hx
  obtain ⟨hs, h2⟩ := nodeR_shape h
  have hk := shape_k hs
  rw [Ty.pnod] at hx
  by_cases h8 : k = 8
  · subst h8
    rw [if_pos rfl] at hx
    rw [if_neg (by decide), if_pos rfl] at h2
    match ts, ih, h2, hx with
    | [], _, _, hx => rw [Ty.pnod1] at hx; cases hx
    | u :: r, ih, h2, hx =>
      obtain ⟨se', hu⟩ := kidsR_all h2 u (by simp)
      rw [Ty.pnod1] at hx
      exact ih u (by simp) _ _ _ _ _ hu x hx
  · rw [if_neg h8] at hx
    by_cases h9 : k = 9
    · rw [if_pos h9] at hx; cases hx
    · rw [if_neg h9] at hx
      rw [if_neg h9, if_neg h8] at h2
      rcases List.mem_cons.1 hx with rfl | hx
      · have hp := shape_p hs
        exact ⟨hk.1, by show k ≤ 7; omega, hp⟩
      · have hkk := kidsR_all h2
        have h3 : ∀ (l : List Ty) (i : Nat), (∀ t ∈ l, t ∈ ts) → ∀ x ∈ Ty.pnods i e l, 1 ≤ x.k ∧ x.k ≤ 7 ∧ 0 ≤ x.p ∧ x.p ≤ 1000000 := by
          intro l
          induction l with
          | nil => intro i _ x hx; rw [Ty.pnods] at hx; cases hx
          | cons t r ihl =>
            intro i hm x hx
            rw [Ty.pnods] at hx
            rcases List.mem_append.1 hx with hx | hx
            · obtain ⟨se', ht⟩ := hkk t (hm t (by simp))
              exact ih t (hm t (by simp)) _ _ _ _ _ ht x hx
            · exact ihl _ (fun u hu => hm u (by simp [hu])) x hx
        exact h3 ts _ (fun _ h => h) x hx
theorem can_of (j : Nat) (hj : j ≤ 1000) : ∀ (t : Ty) (names : List ByteArray) (g : Nat) (se : Bool), nodeR names g se t = 0 → t.size ≤ 1000 → t.can j := by
  refine Ty.ind ?_
  intro k p n s ls ts ih names g se h hz
  obtain ⟨hs, h2⟩ := nodeR_shape h
  have hl := shape_ls hs
  have hp := shape_p hs
  simp only [Ty.size] at hz
  have hlen := Ty.length_sizes ts
  have hof : ∀ {l : List Ty}, (∀ t ∈ l, t.can j) → Ty.cans j l := by
    intro l
    induction l with
    | nil => intro _; simp only [Ty.cans]
    | cons u r ihr => intro hh; simp only [Ty.cans]; exact ⟨hh u (by simp), ihr (fun v hv => hh v (by simp [hv]))⟩
  have hkids : ∀ (nm : List ByteArray) (g' : Nat) (f : Bool), kidsR nm g' f 0 ts = 0 → Ty.cans j ts := fun nm g' f hk0 => hof (fun t ht => by
    obtain ⟨se', ht'⟩ := kidsR_all hk0 t ht
    exact ih t ht nm g' se' ht' (by have := Ty.size_mem ht; omega))
  simp only [Ty.can]
  refine ⟨fun _ => ⟨by omega, by omega⟩, by omega, by omega, ?_⟩
  by_cases h9 : k = 9
  · subst h9
    have := List.length_eq_zero_iff.1 (shape_9 hs)
    subst this; simp only [Ty.cans]
  · rw [if_neg h9] at h2
    by_cases h8 : k = 8
    · rw [if_pos h8] at h2; exact hkids _ _ _ h2
    · rw [if_neg h8] at h2; exact hkids _ _ _ h2
theorem right_node {t : Ty} (h : rightE t = 0) : nodeR [] 0 false t = 0 := by
  rw [rightE_eq] at h
  split at h
  · cases h
  · exact h
end Go.Proofs.YtecdapihfiahiaaDoor

/- Graphs: the reference's Small; types anywhere in memory. -/
namespace Go.Proofs.YtecdapihfiahiaaDoor
open Go.RowKit Go.Deep Go.Shelf

/-- Few nodes, and right. -/
def smallB (t : Ty) (m : Nat) : Bool := t.few m && decide (rightE t = 0)
set_option maxHeartbeats 4000000 in
set_option maxRecDepth 100000 in
theorem small_any (t : Ty) (m : Nat) (hm : m ≤ 1000000) (v : Value) (w : World) (hv : Lies w v t) :
    Calls Tryd.prog 14 #[v, .int .i64 (m : Int)] w fun e w' => e = .returned (.bool (smallB t m)) ∧ Below w.heap.size w w' := by
  have hv1 := hv
  obtain ⟨lv, kv, rfl, _, hl, hk⟩ := hv1
  obtain ⟨la, ln, lc, rfl, _⟩ := hl.open
  obtain ⟨ka, kn, kc, rfl, _⟩ := hk.open
  obtain ⟨W0, hW0⟩ : ∃ W0, w.alloc (.cells #[.int .i64 t.k, .int .i64 t.p, .string t.n, .int .i64 t.s, .slice la ln lc, .slice ka kn kc] 47) = W0 := ⟨_, rfl⟩
  have hb0 : Below w.heap.size w W0 := by rw [← hW0]; exact blkBelow w _ _
  have hx0 : ∀ W, Below W0.heap.size W0 W → (W.cell? ⟨w.heap.size, 0, none⟩ = some (.int .i64 t.k) ∧ W.cell? ⟨w.heap.size, 1, none⟩ = some (.int .i64 t.p) ∧ W.cell? ⟨w.heap.size, 2, none⟩ = some (.string t.n) ∧ W.cell? ⟨w.heap.size, 3, none⟩ = some (.int .i64 t.s) ∧ W.cell? ⟨w.heap.size, 4, none⟩ = some (.slice la ln lc) ∧ W.cell? ⟨w.heap.size, 5, none⟩ = some (.slice ka kn kc)) := fun W hW => by
    have h : W.heap[w.heap.size]? = some (.cells #[.int .i64 t.k, .int .i64 t.p, .string t.n, .int .i64 t.s, .slice la ln lc, .slice ka kn kc] 47) := (hW.block _ (by rw [← hW0]; simp)).trans (by rw [← hW0]; exact World.alloc_heap_new _ _)
    refine ⟨?_, ?_, ?_, ?_, ?_, ?_⟩ <;> simp [World.cell?, h]
  have HX := Lib.hid hx0
  have HW0 := Lib.hid hW0
  have HB0 := Lib.hid hb0
  have HV := Lib.hid hv
  have HFW := Lib.hid (rfew_any (fun k => k < W0.heap.size) t m hm _ W0 (fun _ h => h) (hv.to hb0))
  obtain ⟨c0, c1, c2, c3, c4, c5⟩ := hx0 W0 (Below.refl _ _)
  clear hl hk hv hb0 hW0 hx0
  cases hf : t.few m
  · rw [hf] at HFW
    have HS : Hid (smallB t m = false) := Lib.hid (by rw [smallB, hf]; rfl)
    rw [HS.out]
    clear hf
    go_enter Tryd.func14, Tryd.ntmps14
    go_upto_region 1 with fail
    rw [show w.alloc (.cells #[.int .i64 t.k, .int .i64 t.p, .string t.n, .int .i64 t.s, .slice la ln lc, .slice ka kn kc] 47) = W0 from HW0.out]
    go_wp2_with (go_at_call 27; refine HFW.out.mono ?_; rintro en w1 ⟨rfl, hb1⟩)
    go_ret
    exact ⟨rfl, below_seq HB0.out hb1⟩
  · rw [hf] at HFW
    have hsz : t.size ≤ 1000000 := by simp only [Ty.few, Bool.and_eq_true, decide_eq_true_eq] at hf; omega
    obtain ⟨r, hr⟩ : ∃ r, rightE t = r := ⟨_, rfl⟩
    have HS : Hid (smallB t m = (r == 0)) := Lib.hid (by rw [smallB, hf, hr, Bool.true_and]; rw [Bool.eq_iff_iff]; simp)
    rw [HS.out]
    have HRG : Hid (∀ W, Below W0.heap.size W0 W → Calls Tryd.prog 15 #[.agg #[.int .i64 t.k, .int .i64 t.p, .string t.n, .int .i64 t.s, .slice la ln lc, .slice ka kn kc]] W fun e w' => e = .returned (.int .i64 r) ∧ Below W.heap.size W w') := Lib.hid (fun W hW => by
      rw [← hr]; exact rright_any _ t _ W hsz (lies_low W) (HV.out.to (below_seq HB0.out hW)))
    clear hf hr hsz
    go_enter Tryd.func14, Tryd.ntmps14
    go_upto_region 1 with fail
    rw [show w.alloc (.cells #[.int .i64 t.k, .int .i64 t.p, .string t.n, .int .i64 t.s, .slice la ln lc, .slice ka kn kc] 47) = W0 from HW0.out]
    go_wp2_with (first | (go_at_call 27; refine HFW.out.mono ?_; rintro en w1 ⟨rfl, hb1⟩; obtain ⟨x0, x1, x2, x3, x4, x5⟩ := HX.out w1 hb1; have HB1 := Lib.hid hb1; clear hb1) | (go_at_call 15; refine (HRG.out _ HB1.out).mono ?_; rintro en w2 ⟨rfl, hb2⟩; have HB2 := Lib.hid hb2; clear hb2))
    all_goals go_ret
    all_goals exact ⟨ret_bool (by simp_all), below_seq HB0.out (below_seq HB1.out HB2.out)⟩
end Go.Proofs.YtecdapihfiahiaaDoor
