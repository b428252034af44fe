/- Raise of the reference: a raised copy in new memory. (and what follows from it) -/
import Derived.Test.YtjmnaibbljakaaaGreatDoorPu4
import Derived.Test.YtjmnaibbljakaaaGreatDoorPu1
import Derived.Deep.RegionHeld3
import Derived.Deep.RegionHeldLaw
import Derived.Deep.WholeRow
import Derived.Deep.Cut
import Derived.Deep.RegionWith
import Derived.BigRegion
import Derived.StillTailTactics

/- Raise of the reference: a raised copy in new memory. -/
namespace Go.Proofs.YtjmnaibbljakaaaGreatDoor
open Go.RowKit Go.Deep Go.Shelf

mutual
/-- Types that can be raised by j: no priority leaves its bounds, no list is too long. -/
def Ty.can (j : Int) : Ty → Prop
  | .mk k p _ _ ls ts => (actB k = true → In64 (p + j)) ∧ ls.length ≤ 400000000 ∧ ts.length ≤ 1048576 ∧ Ty.cans j ts
def Ty.cans (j : Int) : List Ty → Prop
  | [] => True
  | t :: r => t.can j ∧ Ty.cans j r
end
theorem Ty.cans_mem {j : Int} : ∀ {ts : List Ty}, Ty.cans j ts → ∀ t ∈ ts, t.can j
  | [], _, _, h => by cases h
  | u :: r, h, t, ht => by
    simp only [Ty.cans] at h
    rcases List.mem_cons.1 ht with rfl | ht
    · exact h.1
    · exact Ty.cans_mem h.2 t ht
mutual
theorem Ty.can_0 : ∀ t : Ty, t.modc → t.pin → t.can 0
  | .mk k p _ _ ls ts, h, hp => by
    simp only [Ty.modc] at h
    simp only [Ty.pin] at hp
    simp only [Ty.can]
    exact ⟨fun _ => by rw [Int.add_zero]; exact hp.1, h.1, h.2.1, Ty.cans_0 ts h.2.2 hp.2⟩
theorem Ty.cans_0 : ∀ ts : List Ty, Ty.modcs ts → Ty.pins ts → Ty.cans 0 ts
  | [], _, _ => by simp only [Ty.cans]
  | t :: r, h, hp => by
    simp only [Ty.modcs] at h
    simp only [Ty.pins] at hp
    simp only [Ty.cans]
    exact ⟨Ty.can_0 t h.1 hp.1, Ty.cans_0 r h.2 hp.2⟩
end
mutual
theorem Ty.raise_0 : ∀ t : Ty, t.raise 0 = t
  | .mk k p n s ls ts => by rw [Ty.raise, Ty.raises_0 ts, Int.add_zero, ite_self]
theorem Ty.raises_0 : ∀ ts : List Ty, Ty.raises 0 ts = ts
  | [] => by rw [Ty.raises]
  | t :: r => by rw [Ty.raises, Ty.raise_0 t, Ty.raises_0 r]
end

theorem tyInfo1 : (Tryz.prog.info? 25).map (·.size) = some 6 := by kernel_rfl
theorem store6_facts {w : World} {b : Nat} {z c' : Array Value} (hb : w.heap[b]? = some (.cells z 25 (0, 0))) (hc : c'.size = 6) (hs : z.size = c'.size) (h1 : c'.all (·.oneCell') = true) :
    ∃ w', (Instr.storeAt 25 (.pointer (some ⟨b, 0, none⟩)) (.agg c')).run Tryz.prog w = .ok () w' ∧ (storeCells ⟨b, 0, none⟩ c'.toList 0).run Tryz.prog w = .ok () w' ∧ w'.heap[b]? = some (.cells c' 25 (0, 0)) ∧ w.grownBy w' (some b) := by
  have hi : (Tryz.prog.info? 25).map (·.size) = some c'.size := by rw [hc]; exact tyInfo1
  have hr := run_storeVar_row (P := Tryz.prog) w b 25 25 z c' hb hi hs h1
  refine ⟨w.setRow b c', ?_, ?_, ?_, ⟨rfl, rfl, rfl, by simp [World.setRow], fun j _ hne => ?_⟩⟩
  · simp only [Instr.storeAt, Instr.sureAddr, Sem.run_bind, Sem.run_pure, Result.andThen]
    exact hr
  · cases hq : Tryz.prog.info? 25 with
    | none => simp [hq] at hi
    | some i =>
      have hs2 : c'.size = i.size := by simp [hq] at hi; omega
      simpa [storeVar, sizeOf, typeInfo, hq, Value.cells, hs2] using hr
  · unfold World.setRow
    show (w.heap.modify b _)[b]? = _
    rw [Array.getElem?_modify, if_pos rfl, hb]; rfl
  · show (w.heap.modify b _)[j]? = _
    rw [Array.getElem?_modify, if_neg (fun e => hne (by rw [e]))]
/-- A list of texts that was appended to an empty list of one's own. -/
theorem Row.ne_ty {base b : Nat} {w : World} {v : Value} {l : List ByteArray} {cs : Array Value} {fr : Nat × Nat} (h : Row base w v l) (hb : w.heap[b]? = some (.cells cs 25 fr)) : some b ≠ v.ownBlock := by
  intro e
  rcases h.1.2 with ⟨rfl, _⟩ | ⟨g, cap, cur, rfl, _, hg, _⟩
  · cases e
  · have : b = g := by injection e
    subst this
    rw [hb] at hg
    injection hg with hg
    injection hg with h1 h2 h3
    exact absurd h2 (by decide)

/-- append to an empty list beside the box that was made before: the store into the box is told at once. -/
theorem step_appS6 {ops : Array Oper} {o : Oper} {a : Act} {w : World} {K : Act → World → Prop} {Q : Exit → Act → World → Prop} {E : Prop} (hgd : o.guard = none) (s x : Operand)
    (ho : o.op = .call { callee := .builtin .append, args := #[s, x], argTypes := #[22, 22] })
    (base : Nat) (l : List ByteArray) (v : Value) (hs : a.eval s = v) (hown : Row base w v l) (B : Nat → Prop) (na : Option Addr) (nn nc : Nat) (names : List ByteArray) (hx : a.eval x = .slice na nn nc) (hnv : StrSl B w (.slice na nn nc) names) (h63 : l.length + names.length ≤ 1000000000) (hbase : base ≤ w.heap.size)
    (box : Operand) (X : Nat) (_hbox : a.eval box = .pointer (some ⟨X, 0, none⟩)) (hX : w.heap[X]? = some (.cells #[.int .i64 0, .int .i64 0, .string ⟨#[]⟩, .int .i64 0, .slice none 0 0, .slice none 0 0] 25 (0, 0)))
    (m : List ByteArray) (hm : l ++ names = m) (w0 : World) (hb0 : Below base w0 w)
    (h : ∀ ga gn gc w', Below base w0 w' → Row base w' (.slice ga gn gc) m → w'.heap[X]? = some (.cells #[.int .i64 0, .int .i64 0, .string ⟨#[]⟩, .int .i64 0, .slice none 0 0, .slice none 0 0] 25 (0, 0)) → K (a.put o.dst (.slice ga gn gc)) w') :
    if Region.wanted o (yielded ops a.tmps) = true then Oper.wp Tryz.prog o a w K Q else E := by
  refine step_app hgd s x ho base l v hs hown B na nn nc names hx hnv h63 hbase m hm ?_
  intro ga gn gc w' hr hg
  have hXlt : X < w.heap.size := (Array.getElem?_eq_some_iff.1 hX).1
  have hX' : w'.heap[X]? = some (.cells #[.int .i64 0, .int .i64 0, .string ⟨#[]⟩, .int .i64 0, .slice none 0 0, .slice none 0 0] 25 (0, 0)) := (hg.block X hXlt (Row.ne_ty hown hX)).trans hX
  have hB' : Below base w0 w' := hb0.grown hg hbase (fun k e => (hown.lt k e).1)
  exact h ga gn gc w' hB' hr hX'
theorem heap_new6 (V : World) (o : Obj) (b : Nat) (h : b = V.heap.size) : (V.alloc o).heap[b]? = some o := by subst h; exact World.alloc_heap_new _ _
theorem heap_drew6 (W : World) (b : Nat) : W.drew.heap[b]? = W.heap[b]? := rfl

/-- What stands behind the reference's first statement: the box of the copy, its labels, no kids yet. -/
def RaiseSt (m : Nat) (w0 : World) (k p s : Int) (n : ByteArray) (ls : List ByteArray) (v : Value) (w : World) : Prop :=
  ∃ bq la ln lc, v = .pointer (some ⟨bq, 0, none⟩) ∧ m ≤ bq ∧ Hid (Six w bq (.int .i64 k) (.int .i64 p) (.string n) (.int .i64 s) (.slice la ln lc) (.slice none 0 0)) ∧ Hid (Row m w (.slice la ln lc) ls) ∧ Hid (Below m w0 w)

set_option maxHeartbeats 8000000 in
set_option maxRecDepth 100000 in
theorem rraise_step (B : Nat → Prop) (j : Int) (k p s : Int) (n : ByteArray) (lv kv : Value) (ls : List ByteArray) (ts : List Ty) (hm : (Ty.mk k p n s ls ts).can j) (hnn : n.size ≤ maxLen) (w : World) (hB : Low B w) (hl : StrSl B w lv ls) (hk : TySl B w kv ts)
    (ih : ∀ t ∈ ts, ∀ (v : Value) (w : World), Low B w → TyVal B w v t → Calls Tryz.prog 15 #[v, .int .i64 j] w (TyRet w (t.raise j))) :
    Calls Tryz.prog 15 #[.agg #[.int .i64 k, .int .i64 p, .string n, .int .i64 s, lv, kv], .int .i64 j] w (TyRet w ((Ty.mk k p n s ls ts).raise j)) := by
  simp only [Ty.can] at hm
  obtain ⟨hp, hm1, hm2, _⟩ := hm
  obtain ⟨l0, len0, cl0, rfl, hll, _, _⟩ := hl.open
  obtain ⟨k0, kn0, kc0, rfl, hkl, hkm, hkget⟩ := hk.open
  have hb0 := box2_below w (cell6 k p n s (.slice l0 len0 cl0) (.slice k0 kn0 kc0)) (cell6 0 0 ⟨#[]⟩ 0 (.slice none 0 0) (.slice none 0 0))
  obtain ⟨s0, s1⟩ := Six.two w (.int .i64 k) (.int .i64 p) (.string n) (.int .i64 s) (.slice l0 len0 cl0) (.slice k0 kn0 kc0) (.int .i64 0) (.int .i64 0) (.string ⟨#[]⟩) (.int .i64 0) (.slice none 0 0) (.slice none 0 0)
  obtain ⟨W2, hW2⟩ : ∃ W2, (w.alloc (cell6 k p n s (.slice l0 len0 cl0) (.slice k0 kn0 kc0))).alloc (cell6 0 0 ⟨#[]⟩ 0 (.slice none 0 0) (.slice none 0 0)) = W2 := ⟨_, rfl⟩
  have hs2 : W2.heap.size = w.heap.size + 2 := by rw [← hW2]; simp
  simp only [cell6] at hW2 hb0
  rw [hW2] at hb0 s0 s1
  have HL : Hid (∀ W, Below W2.heap.size W2 W → StrSl B W (.slice l0 len0 cl0) ls) := Lib.hid (fun W hW => hl.keep ((below_seq hb0 hW).keeps'.mono hB))
  have HK : Hid (∀ W : World, (∀ i, i < w.heap.size → W.heap[i]? = w.heap[i]?) → TySl B W (.slice k0 kn0 kc0) ts) := Lib.hid (fun W hW => hk.keep (fun i o hi ho _ => (hW i (hB i hi)).trans ho))
  have HS0 := Lib.hid s0
  have HS1 := Lib.hid s1
  have HB0 := Lib.hid hb0
  have HW2 := Lib.hid hW2
  have HIH := Lib.hid ih
  have HKL := Lib.hid hkl.out
  have HBB := Lib.hid hB
  have hll1 : 0 + ls.length ≤ 1000000000 := by omega
  have HNN := Lib.hid hnn
  clear hl hk s0 s1 hb0 hW2 ih hkget hll hB hkl hnn
  go_enter Tryz.func15, Tryz.ntmps15
  obtain ⟨⟨d0, d1, d2, d3, d4, d5⟩, hf⟩ := HS0.out.cells
  go_upto_region 1 with fail
  rw [HW2.out]
  clear HW2
  go_cut [5] from 6 (fun v wc => RaiseSt W2.heap.size W2 k p s n ls v wc)
  case first =>
    have HBr := Lib.hid (Below.refl W2.heap.size W2)
    go_region_held_law (fun W => W.cell? ⟨w.heap.size, 0, none⟩ = some (.int .i64 k) ∧ W.cell? ⟨w.heap.size, 1, none⟩ = some (.int .i64 p) ∧ W.cell? ⟨w.heap.size, 2, none⟩ = some (.string n) ∧ W.cell? ⟨w.heap.size, 3, none⟩ = some (.int .i64 s) ∧ W.cell? ⟨w.heap.size, 4, none⟩ = some (.slice l0 len0 cl0) ∧ W.cell? ⟨w.heap.size, 5, none⟩ = some (.slice k0 kn0 kc0))
      (first | go_keep | exact (HS0.out.to (by (repeat (first | with_reducible exact HBr.out | with_reducible exact HB1.out | with_reducible exact H7.out.2.2 | with_reducible exact H8.out.2.2 | with_reducible apply Below.drew | (with_reducible refine Below.setCell ?_ ?_ _; rotate_left; focus (first | omega | (simp; done) | (simp; omega))) | (with_reducible refine Below.alloc ?_ ?_ _; rotate_left; focus (first | omega | (simp; done) | (simp; omega))))))).cells.1 | fail)
      (first
        | (refine step_appS6 (by rfl) _ _ (by rfl) W2.heap.size [] (.slice (some ⟨w.heap.size + 2, 0, none⟩) 0 0) ?_ ?_ B l0 len0 cl0 ls ?_ ?_ hll1 ?_ (.tmp 5) (w.heap.size + 3) ?_ ?_ ls (List.nil_append _) W2 ?_ ?_
           · rfl
           · (repeat (first | (with_reducible refine Row.empty _ _ _ ?_ ?_ <;> first | omega | rfl | (simp; omega) | (simp; done)) | with_reducible refine Row.alloc ?_ _ | with_reducible refine Row.drew ?_))
           · rfl
           · exact HL.out _ (by (repeat (first | with_reducible exact HBr.out | with_reducible exact HB1.out | with_reducible exact H7.out.2.2 | with_reducible exact H8.out.2.2 | with_reducible apply Below.drew | (with_reducible refine Below.setCell ?_ ?_ _; rotate_left; focus (first | omega | (simp; done) | (simp; omega))) | (with_reducible refine Below.alloc ?_ ?_ _; rotate_left; focus (first | omega | (simp; done) | (simp; omega))))))
           · (first | omega | (simp; done) | (simp; omega))
           · rfl
           · repeat (first | with_reducible exact heap_new6 _ _ _ (by first | omega | (simp; done) | (simp; omega)) | with_reducible refine Eq.trans (heap_drew6 _ _) ?_ | with_reducible refine Eq.trans (Below.heap_alloc _ _ _ (by first | omega | (simp; done) | (simp; omega))) ?_)
           · (repeat (first | with_reducible exact HBr.out | with_reducible exact HB1.out | with_reducible exact H7.out.2.2 | with_reducible exact H8.out.2.2 | with_reducible apply Below.drew | (with_reducible refine Below.setCell ?_ ?_ _; rotate_left; focus (first | omega | (simp; done) | (simp; omega))) | (with_reducible refine Below.alloc ?_ ?_ _; rotate_left; focus (first | omega | (simp; done) | (simp; omega)))))
           intro ga gn gc w5 hb5 hr5 hx5
           obtain ⟨⟨q0, q1, q2, q3, q4, q5⟩, hfq⟩ := Six.cells hx5
           have HB1 := Lib.hid hb5
           have HR1 := Lib.hid hr5
           have HX1 := Lib.hid hx5
           have hz5 : W2.heap.size ≤ w5.heap.size := HB1.out.size
           clear hb5 hr5 hx5)
        | (refine step_appS6 (by rfl) _ _ (by rfl) W2.heap.size [] (.slice (some ⟨w.heap.size + 3, 0, none⟩) 0 0) ?_ ?_ B l0 len0 cl0 ls ?_ ?_ hll1 ?_ (.tmp 5) (w.heap.size + 2) ?_ ?_ ls (List.nil_append _) W2 ?_ ?_
           · rfl
           · (repeat (first | (with_reducible refine Row.empty _ _ _ ?_ ?_ <;> first | omega | rfl | (simp; omega) | (simp; done)) | with_reducible refine Row.alloc ?_ _ | with_reducible refine Row.drew ?_))
           · rfl
           · exact HL.out _ (by (repeat (first | with_reducible exact HBr.out | with_reducible exact HB1.out | with_reducible exact H7.out.2.2 | with_reducible exact H8.out.2.2 | with_reducible apply Below.drew | (with_reducible refine Below.setCell ?_ ?_ _; rotate_left; focus (first | omega | (simp; done) | (simp; omega))) | (with_reducible refine Below.alloc ?_ ?_ _; rotate_left; focus (first | omega | (simp; done) | (simp; omega))))))
           · (first | omega | (simp; done) | (simp; omega))
           · rfl
           · repeat (first | with_reducible exact heap_new6 _ _ _ (by first | omega | (simp; done) | (simp; omega)) | with_reducible refine Eq.trans (heap_drew6 _ _) ?_ | with_reducible refine Eq.trans (Below.heap_alloc _ _ _ (by first | omega | (simp; done) | (simp; omega))) ?_)
           · (repeat (first | with_reducible exact HBr.out | with_reducible exact HB1.out | with_reducible exact H7.out.2.2 | with_reducible exact H8.out.2.2 | with_reducible apply Below.drew | (with_reducible refine Below.setCell ?_ ?_ _; rotate_left; focus (first | omega | (simp; done) | (simp; omega))) | (with_reducible refine Below.alloc ?_ ?_ _; rotate_left; focus (first | omega | (simp; done) | (simp; omega)))))
           intro ga gn gc w5 hb5 hr5 hx5
           obtain ⟨⟨q0, q1, q2, q3, q4, q5⟩, hfq⟩ := Six.cells hx5
           have HB1 := Lib.hid hb5
           have HR1 := Lib.hid hr5
           have HX1 := Lib.hid hx5
           have hz5 : W2.heap.size ≤ w5.heap.size := HB1.out.size
           clear hb5 hr5 hx5)
        | (refine step_app (by rfl) _ _ (by rfl) W2.heap.size [] (.slice (some ⟨w.heap.size + 2, 0, none⟩) 0 0) ?_ ?_ B l0 len0 cl0 ls ?_ ?_ hll1 ?_ ls (List.nil_append _) ?_
           · rfl
           · (repeat (first | (with_reducible refine Row.empty _ _ _ ?_ ?_ <;> first | omega | rfl | (simp; omega) | (simp; done)) | with_reducible refine Row.alloc ?_ _ | with_reducible refine Row.drew ?_))
           · rfl
           · exact HL.out _ (by (repeat (first | with_reducible exact HBr.out | with_reducible exact HB1.out | with_reducible exact H7.out.2.2 | with_reducible exact H8.out.2.2 | with_reducible apply Below.drew | (with_reducible refine Below.setCell ?_ ?_ _; rotate_left; focus (first | omega | (simp; done) | (simp; omega))) | (with_reducible refine Below.alloc ?_ ?_ _; rotate_left; focus (first | omega | (simp; done) | (simp; omega))))))
           · (first | omega | (simp; done) | (simp; omega))
           intro ga gn gc w5 hrow hgrow
           have HB1 := Lib.hid (Below.grown (B := W2.heap.size) (a := W2) (by (repeat (first | with_reducible exact HBr.out | with_reducible exact HB1.out | with_reducible exact H7.out.2.2 | with_reducible exact H8.out.2.2 | with_reducible apply Below.drew | (with_reducible refine Below.setCell ?_ ?_ _; rotate_left; focus (first | omega | (simp; done) | (simp; omega))) | (with_reducible refine Below.alloc ?_ ?_ _; rotate_left; focus (first | omega | (simp; done) | (simp; omega)))))) hgrow (by first | omega | (simp; done) | (simp; omega)) (fun k e => by cases e; first | omega | (simp; done) | (simp; omega)))
           have HR1 := Lib.hid hrow
           have hz5 : W2.heap.size ≤ w5.heap.size := HB1.out.size
           clear hrow hgrow)
        | fail)
    all_goals (go_wp2_with fail)
    all_goals go_meet
    all_goals (first
      | exact ⟨_, ga, gn, gc, rfl, by omega, Lib.hid (Six.fill HX1.out _ _ _ _ _ _), Lib.hid (HR1.out.kept (fun q hq => heap_setCells_other (fun e => Row.ne_ty HR1.out HX1.out (by rw [hq, e])) [_, _, _, _, _, _] 0 _)), Lib.hid (by (repeat (first | with_reducible exact HB1.out | with_reducible apply Below.drew | (with_reducible refine Below.setCell ?_ ?_ _; rotate_left; focus (first | omega | (simp; done) | (simp; omega))) | (with_reducible refine Below.alloc ?_ ?_ _; rotate_left; focus (first | omega | (simp; done) | (simp; omega))))))⟩
      | exact ⟨_, ga, gn, gc, rfl, by omega, Lib.hid (Six.new _ _ _ _ _ _ _), Lib.hid (HR1.out.alloc _), Lib.hid (by (repeat (first | with_reducible exact HB1.out | with_reducible apply Below.drew | (with_reducible refine Below.setCell ?_ ?_ _; rotate_left; focus (first | omega | (simp; done) | (simp; omega))) | (with_reducible refine Below.alloc ?_ ?_ _; rotate_left; focus (first | omega | (simp; done) | (simp; omega))))))⟩
      | trace_state)
  case rest =>
    obtain ⟨bq, la, ln, lc, rfl, hbq, HX, HR, HB⟩ := hcut
    obtain ⟨W3, hW3⟩ : ∃ W3, W3 = wc := ⟨_, rfl⟩
    rw [← hW3] at HX HR HB ⊢
    clear hW3 wc
    have HS3 := Lib.hid (HS0.out.to HB.out)
    have hbx := HX.out.lt
    obtain ⟨act, hact⟩ : ∃ b, actB k = b := ⟨_, rfl⟩
    obtain ⟨p', hp'⟩ : ∃ x, (if actB k = true then p + j else p) = x := ⟨_, rfl⟩
    have HP := Lib.hid hp'
    go_upto_region 2 with fail
    go_cut [27] from 28 (fun b wr => b = .bool act ∧ W3 = wr)
    case first =>
      obtain ⟨⟨d0, d1, d2, d3, d4, d5⟩, hf⟩ := HS3.out.cells
      by_cases h4 : 4 ≤ k
      · by_cases h7 : k ≤ 7
        · obtain rfl : act = true := by rw [← hact]; simp [actB, h4, h7]
          go_wp2_with fail
          go_meet
          case rel => exact ⟨rfl, rfl⟩
        · obtain rfl : act = false := by rw [← hact]; simp [actB, h4, h7]
          go_wp2_with fail
          go_meet
          case rel => exact ⟨rfl, rfl⟩
      · obtain rfl : act = false := by rw [← hact]; simp [actB, h4]
        go_wp2_with fail
        go_meet
        case rel => exact ⟨rfl, rfl⟩
    case rest =>
      obtain ⟨rfl, rfl⟩ := hcut
      go_upto_if 27 with fail
      go_cut [5] from 28 (fun v wr => v = .pointer (some ⟨bq, 0, none⟩) ∧ Hid (Six wr bq (.int .i64 k) (.int .i64 p') (.string n) (.int .i64 s) (.slice la ln lc) (.slice none 0 0)) ∧ Hid (Row W2.heap.size wr (.slice la ln lc) ls) ∧ Hid (Below W2.heap.size W2 wr))
      case first =>
        obtain ⟨⟨d0, d1, d2, d3, d4, d5⟩, hf⟩ := HS3.out.cells
        obtain ⟨⟨e0, e1, e2, e3, e4, e5⟩, hf1⟩ := HX.out.cells
        cases act
        · rw [if_neg (by simp [hact])] at hp'
          subst hp'
          go_wp2_with fail
          go_meet
          case rel => exact ⟨rfl, HX, HR, HB⟩
        · obtain ⟨hlo, hhi⟩ := hp hact
          rw [if_pos hact] at hp'
          subst hp'
          go_wp2_with fail
          go_meet
          case rel => exact ⟨rfl, Lib.hid (set_block HX.out 1 _), Lib.hid (HR.out.kept (fun q hq => Below.heap_setCell _ _ _ q (by simp; exact fun e => Row.ne_ty HR.out HX.out (by rw [hq, e])))), Lib.hid (HB.out.setCell (p := ⟨bq, 1, none⟩) hbq _)⟩
      case rest =>
        clear HX HR HB HS3 hact hp'
        obtain ⟨rfl, HX, HR, HB⟩ := hcut
        obtain ⟨W4, hW4⟩ : ∃ W4, W4 = wc := ⟨_, rfl⟩
        rw [← hW4] at HX HR HB ⊢
        clear hW4 wc
        have hb4 : W2.heap.size ≤ W4.heap.size := HB.out.size
        have hbq4 : bq < W4.heap.size := HX.out.lt
        have hkn1 : kn0 ≤ 1048576 := by rw [HKL.out]; exact hm2
        have HLO : Hid (∀ wr, W4.grownBy wr (some bq) → ∀ i, i < W2.heap.size → wr.heap[i]? = W2.heap[i]?) := Lib.hid (fun wr hg i hi => (hg.block i (by omega) (fun e => by injection e; omega)).trans (HB.out.block i hi))
        have HX0 : Hid (∀ wr, W4.grownBy wr (some bq) → Six wr w.heap.size (.int .i64 k) (.int .i64 p) (.string n) (.int .i64 s) (.slice l0 len0 cl0) (.slice k0 kn0 kc0)) := Lib.hid (fun wr hg => (HLO.out wr hg _ (by omega)).trans HS0.out)
        have HX1 : Hid (∀ wr, W4.grownBy wr (some bq) → Six wr (w.heap.size + 1) (.int .i64 0) (.int .i64 0) (.string ⟨#[]⟩) (.int .i64 0) (.slice none 0 0) (.slice none 0 0)) := Lib.hid (fun wr hg => (HLO.out wr hg _ (by omega)).trans HS1.out)
        have HKW : Hid (∀ wr, W4.grownBy wr (some bq) → TySl B wr (.slice k0 kn0 kc0) ts) := Lib.hid (fun wr hg => HK.out wr (fun i hi => (HLO.out wr hg i (by omega)).trans (HB0.out.block i hi)))
        have HBW : Hid (∀ wr, W4.grownBy wr (some bq) → Low B wr) := Lib.hid (fun wr hg => HBB.out.le (by have := hg.size; omega))
        have HRW : Hid (∀ wr, W4.grownBy wr (some bq) → Row W2.heap.size wr (.slice la ln lc) ls) := Lib.hid (fun wr hg => HR.out.kept (fun q hq => hg.block q (HR.out.lt q hq).2 (fun e => Row.ne_ty HR.out HX.out (e.symm.trans hq.symm))))
        clear HLO HR HS0 HS1 HK HL hbx
        clear d0 d1 d2 d3 d4 d5 hf
        go_wp2_with fail
        go_loopw [6] (fun i wr => ∃ (q : Nat) (va : Option Addr) (vn vc : Nat) (rows : List (List Value)), i = .int .i64 (q : Int) ∧ q ≤ kn0 ∧ Hid (W4.grownBy wr (some bq)) ∧ Hid (Six wr bq (.int .i64 k) (.int .i64 p') (.string n) (.int .i64 s) (.slice la ln lc) (.slice va vn vc)) ∧ Hid (Kids 25 6 GoodT W4.heap.size wr (.slice va vn vc) rows ((ts.take q).map (Ty.raise j)))) (fun i _ => kn0 - (intOf i).toNat)
        case atStart => exact ⟨0, none, 0, 0, [], rfl, by omega, Lib.hid ⟨rfl, rfl, rfl, Nat.le_refl _, fun _ _ _ => rfl⟩, HX, Lib.hid (Kids.nil _)⟩
        case round =>
          clear HX
          obtain ⟨q, va, vn, vc, rows, rfl, hq, HG, HX4, HKD⟩ := hrel
          obtain ⟨⟨a0, a1, a2, a3, a4, a5⟩, haf⟩ := (HX0.out wr HG.out).cells
          obtain ⟨⟨b0, b1, b2, b3, b4, b5⟩, hbf⟩ := HX4.out.cells
          have hwr4 := HG.out.size
          by_cases hlt : q < kn0
          · obtain ⟨t, htq⟩ : ∃ t, ts[q]? = some t := ⟨_, List.getElem?_eq_getElem (by rw [← HKL.out]; exact hlt)⟩
            obtain ⟨kb, ko, hk0, hkb, hty⟩ : ∃ kb ko, k0 = some ⟨kb, ko, none⟩ ∧ B kb ∧ TyAt B wr t kb (ko + q * 6) := by
              obtain ⟨pa, len, c, e, _, _, hget⟩ := (HKW.out wr HG.out).open
              injection e with e1 e2 e3
              obtain ⟨kb, ko, h1, h2, h3⟩ := hget q t htq
              exact ⟨kb, ko, by rw [e1]; exact h1, h2, h3⟩
            subst hk0
            obtain ⟨la1, ln1, lc1, ka1, kn1, kc1, ⟨e0, e1, e2, e3, e4, e5⟩, hval⟩ := hty.load'
            have hBr := HBW.out wr HG.out
            have hkbw : kb < w.heap.size := HBB.out kb hkb
            have HC : Hid (∀ W, Below wr.heap.size wr W → Calls Tryz.prog 15 #[.agg #[.int .i64 t.k, .int .i64 t.p, .string t.n, .int .i64 t.s, .slice la1 ln1 lc1, .slice ka1 kn1 kc1], .int .i64 j] W (TyRet W (t.raise j))) := Lib.hid (fun W hW => HIH.out t (List.mem_of_getElem? htq) _ W (hBr.le hW.size) (hval.to hBr hW))
            obtain ⟨i0, hi, hz0, hz1, hz2⟩ := info_parts tyInfo
            have hmap : ((ts.take q).map (Ty.raise j)).length + 1 ≤ 1048577 := by rw [List.length_map, List.length_take]; omega
            have hbqr : bq < wr.heap.size := by omega
            have HTQ := Lib.hid htq
            clear hty hval hkb htq
            go_wp2_with fail
            go_region_law
              (first
                | (go_simp
                   go_at_call 15
                   refine (HC.out _ (by (repeat (first | with_reducible exact Below.refl _ _ | with_reducible exact HB6.out | with_reducible exact HB5.out | with_reducible apply Below.drew | (with_reducible refine Below.setCell ?_ ?_ _; rotate_left; focus (first | omega | (simp; done) | (simp; omega))) | (with_reducible refine Below.alloc ?_ ?_ _; rotate_left; focus (first | omega | (simp; done) | (simp; omega))))))).mono ?_
                   rintro e w5 ⟨la5, ln5, lc5, ka5, kn5, kc5, rfl, hv5, hb5⟩
                   dsimp only
                   have HB5 : Hid (Below wr.heap.size wr w5) := Lib.hid (Below.trans (by (repeat (first | with_reducible exact Below.refl _ _ | with_reducible exact HB6.out | with_reducible exact HB5.out | with_reducible apply Below.drew | (with_reducible refine Below.setCell ?_ ?_ _; rotate_left; focus (first | omega | (simp; done) | (simp; omega))) | (with_reducible refine Below.alloc ?_ ?_ _; rotate_left; focus (first | omega | (simp; done) | (simp; omega)))))) hb5)
                   have HV5 : Hid (TyVal (Fresh wr.heap.size w5.heap.size) w5 (.agg #[.int .i64 (t.raise j).k, .int .i64 (t.raise j).p, .string (t.raise j).n, .int .i64 (t.raise j).s, .slice la5 ln5 lc5, .slice ka5 kn5 kc5]) (t.raise j)) := Lib.hid hv5
                   have b55 : w5.cell? ⟨bq, 5, none⟩ = some (.slice va vn vc) := (HB5.out.cell (p := ⟨bq, 5, none⟩) hbqr).trans b5
                   have hz5 := HB5.out.size
                   have hne5 := World.new_ne w5 _ b55
                   have hbq5 : bq < w5.heap.size := by omega
                   clear hv5 hb5)
                | (refine step_kid (by rfl) _ _ _ (by rfl) Tryz.underlying23 hi hz0 hz1 hz2 rfl (by decide) goodT HKD.out hwr4 HB5.out (by rfl) _ [.int .i64 (t.raise j).k, .int .i64 (t.raise j).p, .string (t.raise j).n, .int .i64 (t.raise j).s, .slice la5 ln5 lc5, .slice ka5 kn5 kc5] 1 (by rfl) ?_ 25 ?_ rfl ?_ hmap (by decide) (t.raise j) ⟨_, _, _, _, _, _, rfl, HV5.out⟩ ?_
                   · (repeat (first | with_reducible exact Below.refl _ _ | with_reducible apply Below.drew | (with_reducible refine Below.alloc ?_ ?_ _; rotate_left; focus (first | omega | (simp; done) | (simp; omega)))))
                   · (repeat (first | with_reducible exact heapN _ _ _ (by first | rfl | omega | (simp; done) | (simp; omega)) | with_reducible refine Eq.trans (heapD _ _) ?_))
                   · (intro u hu; simp only [List.mem_cons, List.not_mem_nil, or_false] at hu; rcases hu with rfl | rfl | rfl | rfl | rfl | rfl <;> rfl)
                   intro ga gn gc w6 rows2 hK6 hB6
                   have HB6 := Lib.hid hB6
                   have HK6 := Lib.hid hK6
                   have HX6 : Hid (Six w6 bq (.int .i64 k) (.int .i64 p') (.string n) (.int .i64 s) (.slice la ln lc) (.slice va vn vc)) := Lib.hid ((hB6.block bq hbq4).trans HX4.out)
                   obtain ⟨⟨g0, g1, g2, g3, g4, g5⟩, hgf⟩ := HX6.out.cells
                   clear hK6 hB6)
                | fail)
            all_goals
              go_wp2_with fail
              go_roundw
              case rel => exact ⟨q + 1, ga, gn, gc, rows2, by go_num, by omega, Lib.hid ⟨HB6.out.os.trans HG.out.os, HB6.out.tape.trans HG.out.tape, HB6.out.output.trans HG.out.output, by simp; exact Nat.le_trans HG.out.size HB6.out.size, fun i hi hne => (Below.heap_setCell _ _ _ i (by simp; exact fun e => hne (by rw [e]))).trans ((HB6.out.block i hi).trans (HG.out.block i hi hne))⟩, Lib.hid (HX6.out.set5 _), Lib.hid (by rw [take_snoc_get HTQ.out, List.map_append]; exact Kids.set goodT HK6.out hbq4 _)⟩
              case measure => simp [intOf]; omega
          · obtain rfl : q = kn0 := by omega
            have hrw : (Ty.mk k p n s ls ts).raise j = .mk k p' n s ls (Ty.raises j ts) := by rw [Ty.raise, HP.out]
            have hgs := HG.out.size
            obtain ⟨⟨c0, c1, c2, c3, c4, c5⟩, hcf⟩ := (HX1.out wr HG.out).cells
            go_wp2_with fail
            have ha := (Above.refl (w.heap.size + 2) wr).fill (c := w.heap.size + 1) (by omega) (.int .i64 k) (.int .i64 p') (.string n) (.int .i64 s) (.slice la ln lc) (.slice va vn vc)
            have hbw : Below w.heap.size w wr := (HB0.out.trans (HB.out.mono (by omega))).grown HG.out (by omega) (fun i e => by cases e; omega)
            have hbf2 := below_fill (c := w.heap.size + 1) hbw (by omega) (.int .i64 k) (.int .i64 p') (.string n) (.int .i64 s) (.slice la ln lc) (.slice va vn vc)
            have hst := ((HRW.out wr HG.out).strs (by unfold maxLen; omega)).2
            have hky := HKD.out.tys (by rw [List.length_map, List.length_take]; unfold maxLen; omega)
            rw [List.take_of_length_le (by rw [← HKL.out]; exact Nat.le_refl _), ← Ty.raises_map] at hky
            have hlr : (Ty.raises j ts).length = ts.length := by rw [Ty.raises_map, List.length_map]
            refine bodyPost_ret (v := .agg #[.int .i64 k, .int .i64 p', .string n, .int .i64 s, .slice la ln lc, .slice va vn vc]) (by simp [results, Tryz.results15, go_sem, c0, c1, c2, c3, c4, c5]) rfl (by rw [hrw]; exact ⟨la, ln, lc, va, vn, vc, rfl, ⟨_, _, rfl, HNN.out, (hst.keep (ha.keeps.mono (Fresh.mono (by omega) (Nat.le_refl _)))).mono (Fresh.mono (by omega) ha.size), (hky.keep (ha.keeps.mono (Fresh.mono (by omega) (Nat.le_refl _)))).mono (Fresh.mono (by omega) ha.size)⟩, hbf2⟩)

theorem rraise_any (B : Nat → Prop) (j : Int) : ∀ t : Ty, t.can j → ∀ (v : Value) (w : World), Low B w → TyVal B w v t → Calls Tryz.prog 15 #[v, .int .i64 j] w (TyRet w (t.raise j)) := by
  refine Ty.ind ?_
  intro k p n s ls ts ih hm v w hB hv
  obtain ⟨lv, kv, rfl, hn, hl, hk⟩ := hv
  have hm' := hm
  simp only [Ty.can] at hm'
  exact rraise_step B j k p s n lv kv ls ts hm hn w hB hl hk (fun t ht => ih t ht (Ty.cans_mem hm'.2.2.2 t ht))

end Go.Proofs.YtjmnaibbljakaaaGreatDoor

/- Graphs: raised types (mathematics). -/
namespace Go.Proofs.YtjmnaibbljakaaaGreatDoor
open Go.RowKit Go.Deep Go.Shelf

theorem shape_ls {k p s : Int} {n : ByteArray} {ls : List ByteArray} {m : Nat} (h : shapeC k p s n ls m = true) : ls.length ≤ m := by
  unfold shapeC at h
  repeat' split at h
  all_goals simp at h
  all_goals (first | (rw [h.2.2.2.1]; simp; done) | omega)
theorem shape_p {k p s : Int} {n : ByteArray} {ls : List ByteArray} {m : Nat} (h : shapeC k p s n ls m = true) : 0 ≤ p ∧ p ≤ 1000000 := by
  unfold shapeC at h
  repeat' split at h
  all_goals simp [prioB] at h
  all_goals omega
/-- Right types can be built. -/
theorem okg_of : ∀ (t : Ty) (names : List ByteArray) (g : Nat) (se : Bool), nodeR names g se t = 0 → t.size ≤ 1000 → t.okg := by
  refine Ty.ind ?_
  intro k p n s ls ts ih names g se h hz
  obtain ⟨hs, h2⟩ := nodeR_shape h
  have hk := shape_k hs
  have hl := shape_ls hs
  simp only [Ty.size] at hz
  have hlen := Ty.length_sizes ts
  have hkids : ∀ (nm : List ByteArray) (g' : Nat) (f : Bool), kidsR nm g' f 0 ts = 0 → Ty.okgs ts := fun nm g' f hk0 => Ty.okgs_of (fun t ht => by
    obtain ⟨se', ht'⟩ := kidsR_all hk0 t ht
    exact ih t ht nm g' se' ht' (by have := Ty.size_mem ht; omega))
  simp only [Ty.okg]
  refine ⟨hk.2, fun e => ?_, fun e => ?_, by omega, ?_⟩
  · subst e; exact shape_8 hs
  · subst e; exact List.length_eq_zero_iff.1 (shape_9 hs)
  · by_cases h9 : k = 9
    · subst h9
      have := List.length_eq_zero_iff.1 (shape_9 hs)
      subst this; simp only [Ty.okgs]
    · rw [if_neg h9] at h2
      by_cases h8 : k = 8
      · rw [if_pos h8] at h2; exact hkids _ _ _ h2
      · rw [if_neg h8] at h2; exact hkids _ _ _ h2
theorem varR_0 (x : ByteArray) (names : List ByteArray) : varR names 0 x ≠ 0 := by
  have h : ∀ i, vR names 0 x i ≠ 0 := by
    intro i
    induction i with
    | zero => rw [vR]; decide
    | succ i ih =>
      rw [vR]
      split
      · rw [if_neg (by omega)]; decide
      · exact ih
  exact h _
theorem real_of : ∀ (t : Ty) (names : List ByteArray) (se : Bool), nodeR names 0 se t = 0 → t.real = true := by
  refine Ty.ind ?_
  intro k p n s ls ts ih names se h
  obtain ⟨hs, h2⟩ := nodeR_shape h
  rw [Ty.real]
  by_cases h8 : k = 8
  · subst h8
    rw [if_pos rfl]
    rw [if_neg (by decide), if_pos rfl] at h2
    match ts, ih, h2 with
    | [], _, _ => rw [Ty.real1]
    | u :: r, ih, h2 =>
      obtain ⟨se', hu⟩ := kidsR_all h2 u (by simp)
      rw [Ty.real1]; exact ih u (by simp) _ _ hu
  · rw [if_neg h8]
    by_cases h9 : k = 9
    · rw [if_pos h9] at h2; exact absurd h2 (varR_0 _ _)
    · simpa using h9
theorem real_pref : ∀ (t : Ty) (i : Nat) (e : ByteArray → Nat), t.real = true → t.pref i e = ⟨i, 0⟩ := by
  refine Ty.ind ?_
  intro k p n s ls ts ih i e h
  rw [Ty.real] at h
  rw [Ty.pref]
  by_cases h8 : k = 8
  · rw [if_pos h8] at h ⊢
    match ts, ih, h with
    | [], _, _ => rw [Ty.pref1]
    | u :: _, ih, h => rw [Ty.real1] at h; rw [Ty.pref1]; exact ih u (by simp) i _ h
  · rw [if_neg h8] at h ⊢
    rw [if_neg (by simpa using h)]

/-! ### Raised types -/
def upN (j : Int) (n : GNode) : GNode := ⟨n.k, if actB n.k then n.p + j else n.p, n.ls, n.nx⟩
theorem raise_gcnt (j : Int) : ∀ t : Ty, (t.raise j).gcnt = t.gcnt := by
  refine Ty.ind ?_
  intro k p n s ls ts ih
  rw [Ty.raise, Ty.gcnt, Ty.gcnt]
  congr 1
  induction ts with
  | nil => rfl
  | cons t r ihr =>
    rw [Ty.raises, Ty.gcnts, Ty.gcnts, ih t (by simp), ihr (fun u hu => ih u (by simp [hu]))]
theorem raise_pref (j : Int) : ∀ (t : Ty) (i : Nat) (e : ByteArray → Nat), (t.raise j).pref i e = t.pref i e := by
  refine Ty.ind ?_
  intro k p n s ls ts ih i e
  rw [Ty.raise, Ty.pref, Ty.pref]
  split
  · match ts, ih with
    | [], _ => rfl
    | u :: r, ih => rw [Ty.raises, Ty.pref1, Ty.pref1]; exact ih u (by simp) _ _
  · rfl
theorem raise_prefs (j : Int) (e : ByteArray → Nat) : ∀ (l : List Ty) (i : Nat), Ty.prefs i e (Ty.raises j l) = Ty.prefs i e l
  | [], _ => rfl
  | t :: r, i => by rw [Ty.raises, Ty.prefs, Ty.prefs, raise_pref, raise_gcnt, raise_prefs j e r]
theorem raise_pnod (j : Int) : ∀ (t : Ty) (i : Nat) (e : ByteArray → Nat), (t.raise j).pnod i e = (t.pnod i e).map (upN j) := by
  refine Ty.ind ?_
  intro k p n s ls ts ih i e
  rw [Ty.raise, Ty.pnod, Ty.pnod]
  by_cases h8 : k = 8
  · rw [if_pos h8, if_pos h8]
    match ts, ih with
    | [], _ => rfl
    | u :: r, ih => rw [Ty.raises, Ty.pnod1, Ty.pnod1]; exact ih u (by simp) _ _
  · rw [if_neg h8, if_neg h8]
    by_cases h9 : k = 9
    · rw [if_pos h9, if_pos h9]; rfl
    · rw [if_neg h9, if_neg h9, List.map_cons, raise_prefs]
      have h3 : ∀ (l : List Ty) (i : Nat), (∀ t ∈ l, t ∈ ts) → Ty.pnods i e (Ty.raises j l) = (Ty.pnods i e l).map (upN j) := by
        intro l
        induction l with
        | nil => intro i _; rw [Ty.raises, Ty.pnods]; rfl
        | cons t r ihl =>
          intro i hm
          rw [Ty.raises, Ty.pnods, Ty.pnods, List.map_append, ih t (hm t (by simp)), raise_gcnt, ihl _ (fun u hu => hm u (by simp [hu]))]
      rw [h3 ts _ (fun _ h => h)]
      rfl
/-- The kinds and priorities of the nodes of right types. -/
theorem pnod_kp : ∀ (t : Ty) (names : List ByteArray) (g : Nat) (se : Bool) (i : Nat) (e : ByteArray → Nat), nodeR names g se t = 0 → ∀ x ∈ t.pnod i e, 1 ≤ x.k ∧ x.k ≤ 7 ∧ 0 ≤ x.p ∧ x.p ≤ 1000000 := by
  refine Ty.ind ?_
  intro k p n s ls ts ih names g se i e h x hx
  obtain ⟨hs, h2⟩ := nodeR_shape h
  have hk := shape_k hs
  rw [Ty.pnod] at hx
  by_cases h8 : k = 8
  · subst h8
    rw [if_pos rfl] at hx
    rw [if_neg (by decide), if_pos rfl] at h2
    match ts, ih, h2, hx with
    | [], _, _, hx => rw [Ty.pnod1] at hx; cases hx
    | u :: r, ih, h2, hx =>
      obtain ⟨se', hu⟩ := kidsR_all h2 u (by simp)
      rw [Ty.pnod1] at hx
      exact ih u (by simp) _ _ _ _ _ hu x hx
  · rw [if_neg h8] at hx
    by_cases h9 : k = 9
    · rw [if_pos h9] at hx; cases hx
    · rw [if_neg h9] at hx
      rw [if_neg h9, if_neg h8] at h2
      rcases List.mem_cons.1 hx with rfl | hx
      · have hp := shape_p hs
        exact ⟨hk.1, by show k ≤ 7; omega, hp⟩
      · have hkk := kidsR_all h2
        have h3 : ∀ (l : List Ty) (i : Nat), (∀ t ∈ l, t ∈ ts) → ∀ x ∈ Ty.pnods i e l, 1 ≤ x.k ∧ x.k ≤ 7 ∧ 0 ≤ x.p ∧ x.p ≤ 1000000 := by
          intro l
          induction l with
          | nil => intro i _ x hx; rw [Ty.pnods] at hx; cases hx
          | cons t r ihl =>
            intro i hm x hx
            rw [Ty.pnods] at hx
            rcases List.mem_append.1 hx with hx | hx
            · obtain ⟨se', ht⟩ := hkk t (hm t (by simp))
              exact ih t (hm t (by simp)) _ _ _ _ _ ht x hx
            · exact ihl _ (fun u hu => hm u (by simp [hu])) x hx
        exact h3 ts _ (fun _ h => h) x hx
theorem can_of (j : Nat) (hj : j ≤ 1000) : ∀ (t : Ty) (names : List ByteArray) (g : Nat) (se : Bool), nodeR names g se t = 0 → t.size ≤ 1000 → t.can j := by
  refine Ty.ind ?_
  intro k p n s ls ts ih names g se h hz
  obtain ⟨hs, h2⟩ := nodeR_shape h
  have hl := shape_ls hs
  have hp := shape_p hs
  simp only [Ty.size] at hz
  have hlen := Ty.length_sizes ts
  have hof : ∀ {l : List Ty}, (∀ t ∈ l, t.can j) → Ty.cans j l := by
    intro l
    induction l with
    | nil => intro _; simp only [Ty.cans]
    | cons u r ihr => intro hh; simp only [Ty.cans]; exact ⟨hh u (by simp), ihr (fun v hv => hh v (by simp [hv]))⟩
  have hkids : ∀ (nm : List ByteArray) (g' : Nat) (f : Bool), kidsR nm g' f 0 ts = 0 → Ty.cans j ts := fun nm g' f hk0 => hof (fun t ht => by
    obtain ⟨se', ht'⟩ := kidsR_all hk0 t ht
    exact ih t ht nm g' se' ht' (by have := Ty.size_mem ht; omega))
  simp only [Ty.can]
  refine ⟨fun _ => ⟨by omega, by omega⟩, by omega, by omega, ?_⟩
  by_cases h9 : k = 9
  · subst h9
    have := List.length_eq_zero_iff.1 (shape_9 hs)
    subst this; simp only [Ty.cans]
  · rw [if_neg h9] at h2
    by_cases h8 : k = 8
    · rw [if_pos h8] at h2; exact hkids _ _ _ h2
    · rw [if_neg h8] at h2; exact hkids _ _ _ h2
theorem right_node {t : Ty} (h : rightE t = 0) : nodeR [] 0 false t = 0 := by
  rw [rightE_eq] at h
  split at h
  · cases h
  · exact h
end Go.Proofs.YtjmnaibbljakaaaGreatDoor

/- Graphs: the reference's Small; types anywhere in memory. -/
namespace Go.Proofs.YtjmnaibbljakaaaGreatDoor
open Go.RowKit Go.Deep Go.Shelf

/-- Few nodes, and right. -/
def smallB (t : Ty) (m : Nat) : Bool := t.few m && decide (rightE t = 0)
set_option maxHeartbeats 4000000 in
set_option maxRecDepth 100000 in
theorem small_any (t : Ty) (m : Nat) (hm : m ≤ 1000000) (v : Value) (w : World) (hv : Lies w v t) :
    Calls Tryz.prog 8 #[v, .int .i64 (m : Int)] w fun e w' => e = .returned (.bool (smallB t m)) ∧ Below w.heap.size w w' := by
  have hv1 := hv
  obtain ⟨lv, kv, rfl, _, hl, hk⟩ := hv1
  obtain ⟨la, ln, lc, rfl, _⟩ := hl.open
  obtain ⟨ka, kn, kc, rfl, _⟩ := hk.open
  obtain ⟨W0, hW0⟩ : ∃ W0, w.alloc (.cells #[.int .i64 t.k, .int .i64 t.p, .string t.n, .int .i64 t.s, .slice la ln lc, .slice ka kn kc] 25) = W0 := ⟨_, rfl⟩
  have hb0 : Below w.heap.size w W0 := by rw [← hW0]; exact blkBelow w _ _
  have hx0 : ∀ W, Below W0.heap.size W0 W → (W.cell? ⟨w.heap.size, 0, none⟩ = some (.int .i64 t.k) ∧ W.cell? ⟨w.heap.size, 1, none⟩ = some (.int .i64 t.p) ∧ W.cell? ⟨w.heap.size, 2, none⟩ = some (.string t.n) ∧ W.cell? ⟨w.heap.size, 3, none⟩ = some (.int .i64 t.s) ∧ W.cell? ⟨w.heap.size, 4, none⟩ = some (.slice la ln lc) ∧ W.cell? ⟨w.heap.size, 5, none⟩ = some (.slice ka kn kc)) := fun W hW => by
    have h : W.heap[w.heap.size]? = some (.cells #[.int .i64 t.k, .int .i64 t.p, .string t.n, .int .i64 t.s, .slice la ln lc, .slice ka kn kc] 25) := (hW.block _ (by rw [← hW0]; simp)).trans (by rw [← hW0]; exact World.alloc_heap_new _ _)
    refine ⟨?_, ?_, ?_, ?_, ?_, ?_⟩ <;> simp [World.cell?, h]
  have HX := Lib.hid hx0
  have HW0 := Lib.hid hW0
  have HB0 := Lib.hid hb0
  have HV := Lib.hid hv
  have HFW := Lib.hid (rfew_any (fun k => k < W0.heap.size) t m hm _ W0 (fun _ h => h) (hv.to hb0))
  obtain ⟨c0, c1, c2, c3, c4, c5⟩ := hx0 W0 (Below.refl _ _)
  clear hl hk hv hb0 hW0 hx0
  cases hf : t.few m
  · rw [hf] at HFW
    have HS : Hid (smallB t m = false) := Lib.hid (by rw [smallB, hf]; rfl)
    rw [HS.out]
    clear hf
    go_enter Tryz.func8, Tryz.ntmps8
    go_upto_region 1 with fail
    rw [show w.alloc (.cells #[.int .i64 t.k, .int .i64 t.p, .string t.n, .int .i64 t.s, .slice la ln lc, .slice ka kn kc] 25) = W0 from HW0.out]
    go_wp2_with (go_at_call 21; refine HFW.out.mono ?_; rintro en w1 ⟨rfl, hb1⟩)
    go_ret
    exact ⟨rfl, below_seq HB0.out hb1⟩
  · rw [hf] at HFW
    have hsz : t.size ≤ 1000000 := by simp only [Ty.few, Bool.and_eq_true, decide_eq_true_eq] at hf; omega
    obtain ⟨r, hr⟩ : ∃ r, rightE t = r := ⟨_, rfl⟩
    have HS : Hid (smallB t m = (r == 0)) := Lib.hid (by rw [smallB, hf, hr, Bool.true_and]; rw [Bool.eq_iff_iff]; simp)
    rw [HS.out]
    have HRG : Hid (∀ W, Below W0.heap.size W0 W → Calls Tryz.prog 22 #[.agg #[.int .i64 t.k, .int .i64 t.p, .string t.n, .int .i64 t.s, .slice la ln lc, .slice ka kn kc]] W fun e w' => e = .returned (.int .i64 r) ∧ Below W.heap.size W w') := Lib.hid (fun W hW => by
      rw [← hr]; exact rright_any _ t _ W hsz (lies_low W) (HV.out.to (below_seq HB0.out hW)))
    clear hf hr hsz
    go_enter Tryz.func8, Tryz.ntmps8
    go_upto_region 1 with fail
    rw [show w.alloc (.cells #[.int .i64 t.k, .int .i64 t.p, .string t.n, .int .i64 t.s, .slice la ln lc, .slice ka kn kc] 25) = W0 from HW0.out]
    go_wp2_with (first | (go_at_call 21; refine HFW.out.mono ?_; rintro en w1 ⟨rfl, hb1⟩; obtain ⟨x0, x1, x2, x3, x4, x5⟩ := HX.out w1 hb1; have HB1 := Lib.hid hb1; clear hb1) | (go_at_call 22; refine (HRG.out _ HB1.out).mono ?_; rintro en w2 ⟨rfl, hb2⟩; have HB2 := Lib.hid hb2; clear hb2))
    all_goals go_ret
    all_goals exact ⟨ret_bool (by simp_all), below_seq HB0.out (below_seq HB1.out HB2.out)⟩
end Go.Proofs.YtjmnaibbljakaaaGreatDoor

/- Graphs: the fixed example of the law comes out right. -/
namespace Go.Proofs.YtjmnaibbljakaaaGreatDoor
open Go.RowKit Go.Deep Go.Shelf

abbrev xInt : Ty := .mk 1 0 ⟨#[]⟩ 0 [] []
abbrev xVar : Ty := .mk 9 0 ⟨#[116]⟩ 2 [] []
abbrev xSend : Ty := .mk 4 0 ⟨#[]⟩ 0 [] [xInt, xVar]
abbrev xRec : Ty := .mk 8 0 ⟨#[116]⟩ 0 [] [xSend]
abbrev xEnd : Ty := .mk 3 0 ⟨#[]⟩ 0 [] []
abbrev xTs : List Ty := [xRec, xEnd]
theorem xNodes : gNodes xTs = [⟨4, 0, [], [⟨1, 0⟩, ⟨0, 2⟩]⟩, ⟨1, 0, [], []⟩, ⟨3, 0, [], []⟩] := by
  simp [gNodes, Ty.pnods, Ty.pnod, Ty.pnod1, Ty.prefs, Ty.pref, upE]
theorem xRefs : gRefs xTs = [⟨0, 0⟩, ⟨2, 0⟩] := by
  simp [gRefs, Ty.prefs, Ty.pref, Ty.pref1, Ty.gcnt, Ty.gcnts]
theorem xOk : Ty.okgs xTs := by simp [Ty.okgs, Ty.okg]
abbrev c1 : List Value := [.int .i64 1, .int .i64 0, .string ⟨#[]⟩, .int .i64 0, .slice none 0 0, .slice none 0 0]
abbrev c9 : List Value := [.int .i64 9, .int .i64 0, .string ⟨#[116]⟩, .int .i64 2, .slice none 0 0, .slice none 0 0]
abbrev c4 (b : Nat) : List Value := [.int .i64 4, .int .i64 0, .string ⟨#[]⟩, .int .i64 0, .slice none 0 0, .slice (some ⟨b, 0, none⟩) 2 2]
abbrev c8 (b : Nat) : List Value := [.int .i64 8, .int .i64 0, .string ⟨#[116]⟩, .int .i64 0, .slice none 0 0, .slice (some ⟨b, 0, none⟩) 1 1]
abbrev c3 : List Value := [.int .i64 3, .int .i64 0, .string ⟨#[]⟩, .int .i64 0, .slice none 0 0, .slice none 0 0]
theorem nilStr (B : Nat → Prop) (W : World) : StrSl B W (.slice none 0 0) [] := ⟨.inl ⟨⟨_, _, rfl⟩, rfl⟩, by simp [maxLen], fun s hs => by cases hs⟩
theorem nilTys (B : Nat → Prop) (W : World) : TySl B W (.slice none 0 0) [] := ⟨.inl ⟨⟨_, _, rfl⟩, rfl⟩, by simp [maxLen]⟩
theorem awake_ts {B : Nat → Prop} {W : World} {b0 b1 b3 : Nat} {T : TypeId} {f0 f1 f3 : Nat × Nat} (h0 : W.heap[b0]? = some (.cells (c1 ++ c9).toArray T f0)) (h1 : W.heap[b1]? = some (.cells (c4 b0).toArray T f1)) (h3 : W.heap[b3]? = some (.cells (c8 b1 ++ c3).toArray T f3)) (k0 : B b0) (k1 : B b1) (k3 : B b3) :
    TySl B W (.slice (some ⟨b3, 0, none⟩) 2 2) xTs := by
  have cell : ∀ {b : Nat} {l : List Value} {f : Nat × Nat}, W.heap[b]? = some (.cells l.toArray T f) → ∀ i u, l[i]? = some u → W.cell? ⟨b, i, none⟩ = some u := by
    intro b l f h i u hi
    simp only [World.cell?, h]
    simpa using hi
  have a1 : TyAt B W xInt b0 0 := tyAt_of (v5 := .slice none 0 0) (v6 := .slice none 0 0) k0 (cell h0 0 _ rfl) (cell h0 1 _ rfl) (cell h0 2 _ rfl) (cell h0 3 _ rfl) (cell h0 4 _ rfl) (cell h0 5 _ rfl) ⟨_, _, rfl, by decide, nilStr _ _, nilTys _ _⟩
  have a9 : TyAt B W xVar b0 (0 + 6) := tyAt_of (v5 := .slice none 0 0) (v6 := .slice none 0 0) k0 (cell h0 6 _ rfl) (cell h0 7 _ rfl) (cell h0 8 _ rfl) (cell h0 9 _ rfl) (cell h0 10 _ rfl) (cell h0 11 _ rfl) ⟨_, _, rfl, by decide, nilStr _ _, nilTys _ _⟩
  have t2 : TySl B W (.slice (some ⟨b0, 0, none⟩) 2 2) [xInt, xVar] := ⟨.inr ⟨b0, 0, 2, rfl, k0, by simp only [TysAt]; exact ⟨a1, a9, trivial⟩⟩, by simp [maxLen]⟩
  have a4 : TyAt B W xSend b1 0 := tyAt_of (v5 := .slice none 0 0) (v6 := .slice (some ⟨b0, 0, none⟩) 2 2) k1 (cell h1 0 _ rfl) (cell h1 1 _ rfl) (cell h1 2 _ rfl) (cell h1 3 _ rfl) (cell h1 4 _ rfl) (cell h1 5 _ rfl) ⟨_, _, rfl, by decide, nilStr _ _, t2⟩
  have t1 : TySl B W (.slice (some ⟨b1, 0, none⟩) 1 1) [xSend] := ⟨.inr ⟨b1, 0, 1, rfl, k1, by simp only [TysAt]; exact ⟨a4, trivial⟩⟩, by simp [maxLen]⟩
  have a8 : TyAt B W xRec b3 0 := tyAt_of (v5 := .slice none 0 0) (v6 := .slice (some ⟨b1, 0, none⟩) 1 1) k3 (cell h3 0 _ rfl) (cell h3 1 _ rfl) (cell h3 2 _ rfl) (cell h3 3 _ rfl) (cell h3 4 _ rfl) (cell h3 5 _ rfl) ⟨_, _, rfl, by decide, nilStr _ _, t1⟩
  have a3 : TyAt B W xEnd b3 (0 + 6) := tyAt_of (v5 := .slice none 0 0) (v6 := .slice none 0 0) k3 (cell h3 6 _ rfl) (cell h3 7 _ rfl) (cell h3 8 _ rfl) (cell h3 9 _ rfl) (cell h3 10 _ rfl) (cell h3 11 _ rfl) ⟨_, _, rfl, by decide, nilStr _ _, nilTys _ _⟩
  exact ⟨.inr ⟨b3, 0, 2, rfl, k3, by simp only [TysAt]; exact ⟨a8, a3, trivial⟩⟩, by simp [maxLen]⟩
/-- What is reached in the example. -/
def xSet : Nat → Bool := fun n => n == 0 || n == 1
theorem xLeast : Least (gNodes xTs) 0 xSet := by
  rw [xNodes]
  refine ⟨rfl, fun n g hn hS r hr => ?_, fun C hC hcl n hn => ?_⟩
  · match n, hn with
    | 0, hn => simp at hn; subst hn; simp at hr; rcases hr with rfl | rfl <;> rfl
    | 1, hn => simp at hn; subst hn; simp at hr
    | 2, hn => simp at hn; subst hn; simp at hr
    | n + 3, hn => simp at hn
  · simp only [xSet, Bool.or_eq_true, beq_iff_eq] at hn
    rcases hn with rfl | rfl
    · exact hC
    · exact hcl 0 _ rfl hC ⟨1, 0⟩ (by simp)
theorem xWf : wfG (gNodes xTs) := by
  rw [xNodes]
  intro n g hn r hr
  match n, hn with
  | 0, hn => simp at hn; subst hn; simp at hr; rcases hr with rfl | rfl <;> decide
  | 1, hn => simp at hn; subst hn; simp at hr
  | 2, hn => simp at hn; subst hn; simp at hr
  | n + 3, hn => simp at hn

theorem gcalls_at {P : Program} {f : FuncId} {vs : Array Value} {Q : Ending → World → Prop} {W W0 : World} (h : W = W0) (k : Calls P f vs W0 Q) : Calls P f vs W Q := by rw [h]; exact k
theorem four_heap (w : World) (o1 o2 o3 o4 : Obj) : ((((w.alloc o1).alloc o2).alloc o3).alloc o4).heap[w.heap.size]? = some o1 ∧ ((((w.alloc o1).alloc o2).alloc o3).alloc o4).heap[w.heap.size + 1]? = some o2 ∧ ((((w.alloc o1).alloc o2).alloc o3).alloc o4).heap[w.heap.size + 1 + 1 + 1]? = some o4 ∧ Below w.heap.size w ((((w.alloc o1).alloc o2).alloc o3).alloc o4) ∧ ((((w.alloc o1).alloc o2).alloc o3).alloc o4).heap.size = w.heap.size + 4 := by
  have s1 : (w.alloc o1).heap.size = w.heap.size + 1 := World.size_alloc _ _
  have s2 : ((w.alloc o1).alloc o2).heap.size = w.heap.size + 1 + 1 := by rw [World.size_alloc, s1]
  have s3 : (((w.alloc o1).alloc o2).alloc o3).heap.size = w.heap.size + 1 + 1 + 1 := by rw [World.size_alloc, s2]
  refine ⟨?_, ?_, ?_, ?_, by rw [World.size_alloc, s3]⟩
  · rw [Below.heap_alloc _ _ _ (by omega), Below.heap_alloc _ _ _ (by omega), Below.heap_alloc _ _ _ (by omega)]; exact World.alloc_heap_new _ _
  · rw [Below.heap_alloc _ _ _ (by omega), Below.heap_alloc _ _ _ (by omega)]
    have h := World.alloc_heap_new (w.alloc o1) o2; rwa [s1] at h
  · have h := World.alloc_heap_new (((w.alloc o1).alloc o2).alloc o3) o4; rwa [s3] at h
  · exact ((((Below.refl _ _).alloc (Nat.le_refl _) _).alloc (by omega) _).alloc (by omega) _).alloc (by omega) _

end Go.Proofs.YtjmnaibbljakaaaGreatDoor

/- Graphs: the law about the nodes of lists and of raised types. -/
namespace Go.Proofs.YtjmnaibbljakaaaGreatDoor
open Go.RowKit Go.Deep Go.Shelf

theorem raise_size (j : Int) : ∀ t : Ty, (t.raise j).size = t.size := by
  refine Ty.ind ?_
  intro k p n s ls ts ih
  rw [Ty.raise, Ty.size, Ty.size]
  congr 1
  induction ts with
  | nil => rfl
  | cons t r ihr => rw [Ty.raises, Ty.sizes, Ty.sizes, ih t (by simp), ihr (fun u hu => ih u (by simp [hu]))]
abbrev tyCs (t : Ty) (la : Option Addr) (ln lc : Nat) (ka : Option Addr) (kn kc : Nat) : List Value := [.int .i64 t.k, .int .i64 t.p, .string t.n, .int .i64 t.s, .slice la ln lc, .slice ka kn kc]
/-- A block of six cells. -/
theorem six_cells {W : World} {b : Nat} {T : TypeId} {fr : Nat × Nat} {a0 a1 a2 a3 a4 a5 : Value} (h : W.heap[b]? = some (.cells #[a0, a1, a2, a3, a4, a5] T fr)) : W.cell? ⟨b, 0, none⟩ = some a0 ∧ W.cell? ⟨b, 1, none⟩ = some a1 ∧ W.cell? ⟨b, 2, none⟩ = some a2 ∧ W.cell? ⟨b, 3, none⟩ = some a3 ∧ W.cell? ⟨b, 4, none⟩ = some a4 ∧ W.cell? ⟨b, 5, none⟩ = some a5 := by
  refine ⟨?_, ?_, ?_, ?_, ?_, ?_⟩ <;> simp [World.cell?, h]
/-- Types in a block, one behind the other. -/
theorem two_types {W : World} {b : Nat} {T : TypeId} {fr : Nat × Nat} {t u : Ty} {la : Option Addr} {ln lc : Nat} {ka : Option Addr} {kn kc : Nat} {la' : Option Addr} {ln' lc' : Nat} {ka' : Option Addr} {kn' kc' : Nat}
    (h : W.heap[b]? = some (.cells (tyCs t la ln lc ka kn kc ++ tyCs u la' ln' lc' ka' kn' kc').toArray T fr)) (hb : b < W.heap.size) (ht : Lies W (.agg (tyCs t la ln lc ka kn kc).toArray) t) (hu : Lies W (.agg (tyCs u la' ln' lc' ka' kn' kc').toArray) u) : TySl (fun k => k < W.heap.size) W (.slice (some ⟨b, 0, none⟩) 2 2) [t, u] := by
  have cell : ∀ i v, (tyCs t la ln lc ka kn kc ++ tyCs u la' ln' lc' ka' kn' kc')[i]? = some v → W.cell? ⟨b, i, none⟩ = some v := by
    intro i v hi
    simp only [World.cell?, h]
    simpa using hi
  have a1 : TyAt (fun k => k < W.heap.size) W t b 0 := tyAt_of hb (cell 0 _ rfl) (cell 1 _ rfl) (cell 2 _ rfl) (cell 3 _ rfl) (cell 4 _ rfl) (cell 5 _ rfl) ht
  have a2 : TyAt (fun k => k < W.heap.size) W u b (0 + 6) := tyAt_of hb (cell 6 _ rfl) (cell 7 _ rfl) (cell 8 _ rfl) (cell 9 _ rfl) (cell 10 _ rfl) (cell 11 _ rfl) hu
  exact ⟨.inr ⟨b, 0, 2, rfl, hb, by simp only [TysAt]; exact ⟨a1, a2, trivial⟩⟩, by simp [maxLen]⟩
theorem one_type {W : World} {b : Nat} {T : TypeId} {fr : Nat × Nat} {t : Ty} {la : Option Addr} {ln lc : Nat} {ka : Option Addr} {kn kc : Nat}
    (h : W.heap[b]? = some (.cells (tyCs t la ln lc ka kn kc).toArray T fr)) (hb : b < W.heap.size) (ht : Lies W (.agg (tyCs t la ln lc ka kn kc).toArray) t) : TySl (fun k => k < W.heap.size) W (.slice (some ⟨b, 0, none⟩) 1 1) [t] := by
  have cell : ∀ i v, (tyCs t la ln lc ka kn kc)[i]? = some v → W.cell? ⟨b, i, none⟩ = some v := by
    intro i v hi
    simp only [World.cell?, h]
    simpa using hi
  have a1 : TyAt (fun k => k < W.heap.size) W t b 0 := tyAt_of hb (cell 0 _ rfl) (cell 1 _ rfl) (cell 2 _ rfl) (cell 3 _ rfl) (cell 4 _ rfl) (cell 5 _ rfl) ht
  exact ⟨.inr ⟨b, 0, 1, rfl, hb, by simp only [TysAt]; exact ⟨a1, trivial⟩⟩, by simp [maxLen]⟩

end Go.Proofs.YtjmnaibbljakaaaGreatDoor

/- Graphs: the reference's reference of a type. -/
namespace Go.Proofs.YtjmnaibbljakaaaGreatDoor
open Go.RowKit Go.Deep Go.Shelf

mutual
/-- Shifts are small; a TRec has one Kid. -/
def Ty.sok : Ty → Prop
  | .mk k _ _ s _ ts => (-1000000 ≤ s ∧ s ≤ 1000000) ∧ (k = 8 → ts.length = 1) ∧ Ty.soks ts
def Ty.soks : List Ty → Prop
  | [] => True
  | t :: r => t.sok ∧ Ty.soks r
end
theorem Ty.soks_mem : ∀ {ts : List Ty}, Ty.soks ts → ∀ t ∈ ts, t.sok
  | [], _, t, ht => by cases ht
  | u :: r, h, t, ht => by
    simp only [Ty.soks] at h
    rcases List.mem_cons.1 ht with rfl | ht
    · exact h.1
    · exact Ty.soks_mem h.2 t ht
theorem shape_s {k p s : Int} {n : ByteArray} {ls : List ByteArray} {m : Nat} (h : shapeC k p s n ls m = true) : -1000000 ≤ s ∧ s ≤ 1000000 := by
  unfold shapeC at h
  (repeat' split at h) <;> simp [prioB] at h <;> omega
theorem sok_of : ∀ (t : Ty) (names : List ByteArray) (g : Nat) (se : Bool), nodeR names g se t = 0 → t.sok := by
  refine Ty.ind ?_
  intro k p n s ls ts ih names g se h
  obtain ⟨hs, h2⟩ := nodeR_shape h
  have hof : ∀ (nm : List ByteArray) (g' : Nat) (f : Bool), kidsR nm g' f 0 ts = 0 → Ty.soks ts := by
    intro nm g' f hk0
    have hk := kidsR_all hk0
    have : ∀ l : List Ty, (∀ t ∈ l, t ∈ ts) → Ty.soks l := by
      intro l
      induction l with
      | nil => intro _; simp only [Ty.soks]
      | cons t r ihr =>
        intro hm
        obtain ⟨se', ht⟩ := hk t (hm t (by simp))
        simp only [Ty.soks]
        exact ⟨ih t (hm t (by simp)) nm g' se' ht, ihr (fun u hu => hm u (by simp [hu]))⟩
    exact this ts (fun _ h => h)
  simp only [Ty.sok]
  refine ⟨shape_s hs, fun h8 => by subst h8; exact shape_8 hs, ?_⟩
  by_cases h9 : k = 9
  · subst h9
    have := List.length_eq_zero_iff.1 (shape_9 hs)
    subst this; simp only [Ty.soks]
  · rw [if_neg h9] at h2
    by_cases h8 : k = 8
    · rw [if_pos h8] at h2; exact hof _ _ _ h2
    · rw [if_neg h8] at h2; exact hof _ _ _ h2

abbrev rbox (a b : Value) : Obj := .cells #[a, b] 62
theorem rbox_cells {w : World} {b : Nat} {a c : Value} (h : w.heap[b]? = some (rbox a c)) : w.cell? ⟨b, 0, none⟩ = some a ∧ w.cell? ⟨b, 1, none⟩ = some c ∧ w.frozen? ⟨b, 0, none⟩ = false ∧ w.frozen? ⟨b, 1, none⟩ = false := by
  refine ⟨?_, ?_, frozen_of_block h 0, frozen_of_block h 1⟩ <;> simp [World.cell?, h]
theorem rbox_fill {w : World} {b : Nat} {a c : Value} (h : w.heap[b]? = some (rbox a c)) (u v : Value) : ((w.setCell ⟨b, 0, none⟩ u).setCell ⟨b, 1, none⟩ v).heap[b]? = some (rbox u v) := set_block (set_block h 0 u) 1 v
/-- What reference answers. -/
def RRefAt (t : Ty) : Prop := ∀ (i : Nat) (env : GEnv) (v nv rv : Value) (w : World), i ≤ 1000000 → Lies w v t → StrSl (fun k => k < w.heap.size) w nv (env.map (·.1)) → RefSl (fun k => k < w.heap.size) w rv (env.map (·.2)) → (∀ r ∈ env, -1000000000 ≤ r.2.s ∧ r.2.s ≤ 1000000000) →
  Calls Tryz.prog 41 #[v, .int .i64 (i : Int), nv, rv] w fun e w' => e = .returned (.agg #[.int .i64 ((t.gref i env).n : Int), .int .i64 (t.gref i env).s]) ∧ Below w.heap.size w w'
theorem gref_8 {p s : Int} {n : ByteArray} {ls : List ByteArray} {u : Ty} (i : Nat) (env : GEnv) : (Ty.mk 8 p n s ls [u]).gref i env = u.gref i env := by rw [Ty.gref, if_pos rfl, Ty.gref1]
theorem gref_k {t : Ty} (h8 : t.k ≠ 8) (h9 : t.k ≠ 9) (i : Nat) (env : GEnv) : t.gref i env = ⟨i, 0⟩ := by cases t; simp only [Ty.k] at h8 h9; rw [Ty.gref, if_neg h8, if_neg h9]

set_option maxHeartbeats 4000000 in
set_option maxRecDepth 100000 in
theorem rref_8 (p s : Int) (n : ByteArray) (ls : List ByteArray) (u : Ty) (ih : RRefAt u) : RRefAt (.mk 8 p n s ls [u]) := by
  intro i env v nv rv w hi hv hn hr hb
  have g0 := hv
  obtain ⟨lv, kv, rfl, _, hl0, hk0⟩ := g0
  obtain ⟨la, ln, lc, rfl, _⟩ := hl0.open
  obtain ⟨ka, kn, kc, rfl, hkl, _, hkg⟩ := hk0.open
  obtain rfl : kn = 1 := hkl.out
  dsimp only [Ty.k, Ty.p, Ty.n, Ty.s]
  obtain ⟨W1, hW1⟩ : ∃ W1, w.alloc (.cells #[.int .i64 8, .int .i64 p, .string n, .int .i64 s, .slice la ln lc, .slice ka 1 kc] 25) = W1 := ⟨_, rfl⟩
  have hb1 : Below w.heap.size w W1 := by rw [← hW1]; exact blkBelow w _ _
  have hs1 : W1.heap.size = w.heap.size + 1 := by rw [← hW1]; simp
  have x1 : W1.heap[w.heap.size]? = some (.cells #[.int .i64 8, .int .i64 p, .string n, .int .i64 s, .slice la ln lc, .slice ka 1 kc] 25 (0, 0)) := by rw [← hW1]; exact World.alloc_heap_new _ _
  obtain ⟨W2, hW2⟩ : ∃ W2, W1.alloc (rbox (.int .i64 0) (.int .i64 0)) = W2 := ⟨_, rfl⟩
  have hb2 : Below W1.heap.size W1 W2 := by rw [← hW2]; exact blkBelow W1 _ _
  have x2 : W2.heap[w.heap.size + 1]? = some (rbox (.int .i64 0) (.int .i64 0)) := by rw [← hW2, ← hs1]; exact World.alloc_heap_new _ _
  have hb : Below w.heap.size w W2 := below_seq hb1 hb2
  obtain ⟨c0, _, _, _, _, c5⟩ := six_cells ((hb2.block _ (by omega)).trans x1)
  obtain ⟨kb, ko, rfl, hkb, hty⟩ := hkg 0 u rfl
  obtain ⟨lv', kv', ⟨d0, d1, d2, d3, d4, d5⟩, hval⟩ := (hty.keep (hb.keeps'.mono (fun k hk => hk))).load
  simp only [Nat.zero_mul, Nat.add_zero] at d0 d1 d2 d3 d4 d5
  have HC := Lib.hid (ih i env _ nv rv W2 hi (TyVal.mono (C := fun k => k < W2.heap.size) (fun k hk => Nat.lt_of_lt_of_le hk hb.size) hval) ((hn.keep (hb.keeps'.mono (fun k hk => hk))).mono (fun k hk => Nat.lt_of_lt_of_le hk hb.size)) ((hr.keep (hb.keeps'.mono (fun k hk => hk))).mono (fun k hk => Nat.lt_of_lt_of_le hk hb.size)) (by assumption))
  rw [← gref_8 (p := p) (s := s) (n := n) (ls := ls)] at HC
  obtain ⟨rg, hrg⟩ : ∃ rg, (Ty.mk 8 p n s ls [u]).gref i env = rg := ⟨_, rfl⟩
  rw [hrg] at HC ⊢
  have HB2 := Lib.hid hb
  have HX2 := Lib.hid x2
  have HS2 := Lib.hid (show w.heap.size + 1 < W2.heap.size from (Array.getElem?_eq_some_iff.1 x2).1)
  have HW1 := Lib.hid hW1
  have HW2 := Lib.hid hW2
  clear hn hr hl0 hk0 hkl hkg hv hval hty x1 x2 hb1 hb2 hb hW1 hW2 hrg
  go_enter Tryz.func41, Tryz.ntmps41
  go_upto_region 1 with fail
  rw [show w.alloc (.cells #[.int .i64 8, .int .i64 p, .string n, .int .i64 s, .slice la ln lc, .slice (some ⟨kb, ko, none⟩) 1 kc] 25) = W1 from HW1.out, show W1.alloc (.cells #[.int .i64 0, .int .i64 0] 62) = W2 from HW2.out]
  go_wp2_with (go_at_call 41; go_loud (refine HC.out.mono ?_; rintro en w3 ⟨rfl, hb3⟩; obtain ⟨z0, z1, z2, z3⟩ := rbox_cells ((hb3.block _ HS2.out).trans HX2.out); have HB3 := Lib.hid hb3; clear hb3))
  clear z0 z1 z2 z3
  have hx4 := rbox_fill ((HB3.out.block _ HS2.out).trans HX2.out) (.int .i64 (rg.n : Int)) (.int .i64 rg.s)
  obtain ⟨y0, y1, _, _⟩ := rbox_cells hx4
  refine bodyPost_ret (v := .agg #[.int .i64 (rg.n : Int), .int .i64 rg.s]) (by simp [results, Tryz.results41, go_sem, y0, y1]) rfl ?_
  exact ⟨rfl, ((below_seq HB2.out HB3.out).setCell (Nat.le_succ _) _).setCell (Nat.le_succ _) _⟩

set_option maxHeartbeats 4000000 in
set_option maxRecDepth 100000 in
theorem rref_k (t : Ty) (h8 : t.k ≠ 8) (h9 : t.k ≠ 9) : RRefAt t := by
  intro i env v nv rv w hi hv hn hr hb
  rw [gref_k h8 h9]
  obtain ⟨lv, kv, rfl, _, hl0, hk0⟩ := hv
  obtain ⟨la, ln, lc, rfl, _⟩ := hl0.open
  obtain ⟨ka, kn, kc, rfl, _⟩ := hk0.open
  obtain ⟨W1, hW1⟩ : ∃ W1, w.alloc (.cells #[.int .i64 t.k, .int .i64 t.p, .string t.n, .int .i64 t.s, .slice la ln lc, .slice ka kn kc] 25) = W1 := ⟨_, rfl⟩
  have hb1 : Below w.heap.size w W1 := by rw [← hW1]; exact blkBelow w _ _
  have hs1 : W1.heap.size = w.heap.size + 1 := by rw [← hW1]; simp
  have x1 : W1.heap[w.heap.size]? = some (.cells #[.int .i64 t.k, .int .i64 t.p, .string t.n, .int .i64 t.s, .slice la ln lc, .slice ka kn kc] 25 (0, 0)) := by rw [← hW1]; exact World.alloc_heap_new _ _
  obtain ⟨W2, hW2⟩ : ∃ W2, W1.alloc (rbox (.int .i64 0) (.int .i64 0)) = W2 := ⟨_, rfl⟩
  have hb2 : Below W1.heap.size W1 W2 := by rw [← hW2]; exact blkBelow W1 _ _
  have x2 : W2.heap[w.heap.size + 1]? = some (rbox (.int .i64 0) (.int .i64 0)) := by rw [← hW2, ← hs1]; exact World.alloc_heap_new _ _
  have hb : Below w.heap.size w W2 := below_seq hb1 hb2
  obtain ⟨c0, _, _, _, _, _⟩ := six_cells ((hb2.block _ (by omega)).trans x1)
  obtain ⟨z0, z1, z2, z3⟩ := rbox_cells x2
  have hk8 : (t.k == 8) = false := by simpa using h8
  have hk9 : (t.k == 9) = false := by simpa using h9
  have HB2 := Lib.hid hb
  have HX2 := Lib.hid x2
  have HW1 := Lib.hid hW1
  have HW2 := Lib.hid hW2
  clear hn hr hl0 hk0 x1 x2 hb1 hb2 hb hW1 hW2 h8 h9
  go_enter Tryz.func41, Tryz.ntmps41
  go_upto_region 1 with fail
  rw [show w.alloc (.cells #[.int .i64 t.k, .int .i64 t.p, .string t.n, .int .i64 t.s, .slice la ln lc, .slice ka kn kc] 25) = W1 from HW1.out, show W1.alloc (.cells #[.int .i64 0, .int .i64 0] 62) = W2 from HW2.out]
  go_wp2_with fail
  clear z0 z1 z2 z3
  have hx4 := rbox_fill HX2.out (.int .i64 (i : Int)) (.int .i64 0)
  obtain ⟨y0, y1, _, _⟩ := rbox_cells hx4
  refine bodyPost_ret (v := .agg #[.int .i64 (i : Int), .int .i64 0]) (by simp [results, Tryz.results41, go_sem, y0, y1]) rfl ?_
  exact ⟨rfl, (HB2.out.setCell (Nat.le_succ _) _).setCell (Nat.le_succ _) _⟩
end Go.Proofs.YtjmnaibbljakaaaGreatDoor

/- Graphs: the reference's reference of a variable, and of any type. -/
namespace Go.Proofs.YtjmnaibbljakaaaGreatDoor
open Go.RowKit Go.Deep Go.Shelf

theorem gref_hit {p s : Int} {n : ByteArray} {ls : List ByteArray} {ts : List Ty} (i : Nat) (env : GEnv) {r : GRef} (h : lookE n env = some r) : (Ty.mk 9 p n s ls ts).gref i env = ⟨r.n, r.s + s⟩ := by rw [Ty.gref, if_neg (by decide), if_pos rfl, h]
theorem gref_miss {p s : Int} {n : ByteArray} {ls : List ByteArray} {ts : List Ty} (i : Nat) (env : GEnv) (h : lookE n env = none) : (Ty.mk 9 p n s ls ts).gref i env = ⟨i, 0⟩ := by rw [Ty.gref, if_neg (by decide), if_pos rfl, h]
set_option maxHeartbeats 4000000 in
set_option maxRecDepth 100000 in
theorem rref_9 (p s : Int) (n : ByteArray) (ls : List ByteArray) (ts : List Ty) (hsb : -1000000 ≤ s ∧ s ≤ 1000000) : RRefAt (.mk 9 p n s ls ts) := by
  intro i env v nv rv w hi hv hn hr hb
  obtain ⟨lv, kv, rfl, _, hl0, hk0⟩ := hv
  obtain ⟨la, ln, lc, rfl, _⟩ := hl0.open
  obtain ⟨ka, kn, kc, rfl, _⟩ := hk0.open
  dsimp only [Ty.k, Ty.p, Ty.n, Ty.s]
  obtain ⟨na, nn, nc, rfl, hnl, hnm, hng⟩ := hn.open
  obtain ⟨ra, rn, rc, rfl, hrl, hrm, hrg⟩ := hr.open
  have hnl' : nn = env.length := hnl.out.trans (by rw [List.length_map])
  obtain rfl : rn = nn := hrl.out.trans (by rw [List.length_map, hnl'])
  obtain ⟨W1, hW1⟩ : ∃ W1, w.alloc (.cells #[.int .i64 9, .int .i64 p, .string n, .int .i64 s, .slice la ln lc, .slice ka kn kc] 25) = W1 := ⟨_, rfl⟩
  have hb1 : Below w.heap.size w W1 := by rw [← hW1]; exact blkBelow w _ _
  have hs1 : W1.heap.size = w.heap.size + 1 := by rw [← hW1]; simp
  have x1 : W1.heap[w.heap.size]? = some (.cells #[.int .i64 9, .int .i64 p, .string n, .int .i64 s, .slice la ln lc, .slice ka kn kc] 25 (0, 0)) := by rw [← hW1]; exact World.alloc_heap_new _ _
  obtain ⟨W2, hW2⟩ : ∃ W2, W1.alloc (rbox (.int .i64 0) (.int .i64 0)) = W2 := ⟨_, rfl⟩
  have hb2 : Below W1.heap.size W1 W2 := by rw [← hW2]; exact blkBelow W1 _ _
  have hs2 : W2.heap.size = w.heap.size + 2 := by rw [← hW2]; simp [hs1]
  have x2 : W2.heap[w.heap.size + 1]? = some (rbox (.int .i64 0) (.int .i64 0)) := by rw [← hW2, ← hs1]; exact World.alloc_heap_new _ _
  have hbw : Below w.heap.size w W2 := below_seq hb1 hb2
  have HX1 := Lib.hid (fun (W : World) (hW : Below W2.heap.size W2 W) => six_cells ((hW.block _ (by omega)).trans ((hb2.block _ (by omega)).trans x1)))
  have HX2 : Hid (∀ (W : World), Below W2.heap.size W2 W → W.heap[w.heap.size + 1]? = some (rbox (.int .i64 0) (.int .i64 0))) := Lib.hid (fun W hW => (hW.block _ (by omega)).trans x2)
  have HNG : Hid (∀ (W : World), Below W2.heap.size W2 W → ∀ j e, env[j]? = some e → ∃ kb ko, na = some ⟨kb, ko, none⟩ ∧ W.cell? ⟨kb, ko + j, none⟩ = some (.string e.1)) := Lib.hid (fun W hW j e he => by
    obtain ⟨_, kb, ko, e1, hkb, hc⟩ := hng j e.1 (by rw [List.getElem?_map, he]; rfl)
    exact ⟨kb, ko, e1, ((below_seq hbw hW).cell (p := ⟨kb, _, none⟩) hkb).trans hc⟩)
  have HRG : Hid (∀ (W : World), Below W2.heap.size W2 W → ∀ j e, env[j]? = some e → ∃ kb ko, ra = some ⟨kb, ko, none⟩ ∧ W.cell? ⟨kb, ko + j * 2, none⟩ = some (.int .i64 e.2.n) ∧ W.cell? ⟨kb, ko + j * 2 + 1, none⟩ = some (.int .i64 e.2.s)) := Lib.hid (fun W hW j e he => by
    obtain ⟨kb, ko, e1, hkb, hc, hd⟩ := hrg j e.2 (by rw [List.getElem?_map, he]; rfl)
    exact ⟨kb, ko, e1, ((below_seq hbw hW).cell (p := ⟨kb, _, none⟩) hkb).trans hc, ((below_seq hbw hW).cell (p := ⟨kb, _, none⟩) hkb).trans hd⟩)
  have HBW := Lib.hid hbw
  have HW1 := Lib.hid hW1
  have HW2 := Lib.hid hW2
  have HNL := Lib.hid hnl'
  have HSZ := Lib.hid hb
  obtain ⟨c0, _, _, _, _, _⟩ := HX1.out W2 (Below.refl _ _)
  clear hn hr hl0 hk0 x1 x2 hb1 hb2 hbw hW1 hW2 hng hrg hnl hrl hnl' hb hs1 hs2
  go_enter Tryz.func41, Tryz.ntmps41
  go_upto_region 1 with fail
  rw [show w.alloc (.cells #[.int .i64 9, .int .i64 p, .string n, .int .i64 s, .slice la ln lc, .slice ka kn kc] 25) = W1 from HW1.out, show W1.alloc (.cells #[.int .i64 0, .int .i64 0] 62) = W2 from HW2.out]
  go_wp2_with fail
  clear c0
  go_loopw [9] (fun v wr => ∃ j : Nat, v = .int .i64 ((j : Int) - 1) ∧ j ≤ rn ∧ Hid (∀ m, j ≤ m → m < env.length → ∀ e, env[m]? = some e → e.1 ≠ n) ∧ Below W2.heap.size W2 wr) (fun i _ => (intOf i + 1).toNat)
  case atStart => exact ⟨rn, by go_num, Nat.le_refl _, Lib.hid (fun m h1 h2 => by have := HNL.out; omega), Below.refl _ _⟩
  case round =>
    obtain ⟨j, rfl, hj, HT, hb⟩ := hrel
    cases j with
    | zero =>
      obtain ⟨z0, z1, z2, z3⟩ := rbox_cells (HX2.out wr hb)
      go_wp2_with fail
      clear z0 z1 z2 z3
      have hx4 := rbox_fill (HX2.out wr hb) (.int .i64 (i : Int)) (.int .i64 0)
      obtain ⟨y0, y1, _, _⟩ := rbox_cells hx4
      refine bodyPost_ret (v := .agg #[.int .i64 (i : Int), .int .i64 0]) (by simp [results, Tryz.results41, go_sem, y0, y1]) rfl ?_
      rw [gref_miss i env (lookE_miss (fun m hm => HT.out m (Nat.zero_le _) hm))]
      exact ⟨rfl, ((below_seq HBW.out hb).setCell (Nat.le_succ _) _).setCell (Nat.le_succ _) _⟩
    | succ j =>
      rw [show (((j + 1 : Nat) : Int) - 1) = (j : Int) by omega]
      obtain ⟨e, he⟩ : ∃ e, env[j]? = some e := ⟨_, List.getElem?_eq_getElem (by have := HNL.out; omega)⟩
      obtain ⟨kb, ko, rfl, q0⟩ := HNG.out wr hb j e he
      obtain ⟨c0, c1, c2, c3, c4, c5⟩ := HX1.out wr hb
      by_cases hx : e.1 = n
      · have hlook : lookE n env = some e.2 := lookE_hit (i := j) (r := e.2) (by rw [he, ← hx]) (fun m hm hml e' he' => HT.out m (by omega) hml e' he')
        have hbd := HSZ.out e (List.mem_of_getElem? he)
        obtain ⟨mb, mo, rfl, _, _⟩ := HRG.out wr hb j e he
        have HE := Lib.hid he
        have ew : IntKind.i64.wrap (e.2.s + s) = e.2.s + s := by rw [IntKind.wrap_i64]; omega
        have HLK := Lib.hid hlook
        have hjr : j < rn := by omega
        rw [hx] at q0
        clear he hx hlook
        go_wp2_with fail
        go_quiet (fail)
        go_upto_region 8 with fail
        clear c0 c1 c2 c3 c4 c5 q0
        have hb3 : Below W2.heap.size W2 (wr.drewN nq) := below_drewN hb nq
        generalize wr.drewN nq = w4 at *
        obtain ⟨_, _, _, c3, _, _⟩ := HX1.out w4 hb3
        obtain ⟨mb', mo', e1, q1, q2⟩ := HRG.out w4 hb3 j e HE.out
        simp only [Option.some.injEq, Addr.mk.injEq, and_true] at e1
        obtain ⟨rfl, rfl⟩ := e1
        go_still_tail 14, (by kernel_rfl)
        change wpList _ _ _ _ _ w4.drew
        clear c3 q1 q2
        replace hb3 : Below W2.heap.size W2 w4.drew := hb3.drew
        generalize w4.drew = w3 at *
        obtain ⟨z0, z1, z2, z3⟩ := rbox_cells (HX2.out w3 hb3)
        go_wp2_with fail
        clear z0 z1 z2 z3
        have hx4 := rbox_fill (HX2.out w3 hb3) (.int .i64 (e.2.n : Int)) (.int .i64 (e.2.s + s))
        obtain ⟨y0, y1, _, _⟩ := rbox_cells hx4
        refine bodyPost_ret (v := .agg #[.int .i64 (e.2.n : Int), .int .i64 (e.2.s + s)]) (by simp [results, Tryz.results41, go_sem, y0, y1]) rfl ?_
        rw [gref_hit i env HLK.out]
        exact ⟨rfl, ((below_seq HBW.out hb3).setCell (Nat.le_succ _) _).setCell (Nat.le_succ _) _⟩
      · have HV : Hid (∀ m, j ≤ m → m < env.length → ∀ e, env[m]? = some e → e.1 ≠ n) := Lib.hid (fun m hm hml e' he' => by
          rcases Nat.eq_or_lt_of_le hm with h | h
          · subst h
            rw [he] at he'
            rw [← Option.some.inj he']; exact hx
          · exact HT.out m h hml e' he')
        have h1 := str_ne hx
        have h2 : (e.1.toList == n.toList) = false := by simpa using h1
        clear hx he
        go_wp2_with fail
        go_quiet (fail)
        go_wp2_with fail
        go_roundw
        case rel => exact ⟨j, rfl, by omega, HV, below_drewN hb _⟩
        case measure => simp [intOf]
theorem rref_any : ∀ (t : Ty), t.sok → RRefAt t := by
  refine Ty.ind ?_
  intro k p n s ls ts ih h
  simp only [Ty.sok] at h
  by_cases h8 : k = 8
  · subst h8
    obtain ⟨u, rfl⟩ : ∃ u, ts = [u] := by
      match ts, h.2.1 rfl with
      | [u], _ => exact ⟨u, rfl⟩
    simp only [Ty.soks] at h
    exact rref_8 p s n ls u (ih u (by simp) h.2.2.1)
  · by_cases h9 : k = 9
    · subst h9; exact rref_9 p s n ls ts h.1
    · exact rref_k _ h8 h9
end Go.Proofs.YtjmnaibbljakaaaGreatDoor

/- Graphs: a list made anew and grown by one element, in a region that draws its order: the state of its four operations. -/
namespace Go.Proofs.YtjmnaibbljakaaaGreatDoor
open Go.RowKit Go.Deep Go.Shelf

/-- The four operations i0 (an empty list), i1 (append of es), i2 (a list of one element), i3 (append of it). -/
structure Chain (el : TypeId) (sz base : Nat) (one : List Value) (es : List (List Value)) (i0 i1 i2 i3 : Nat) (L : Nat → Bool) (vals : Nat → Value) (w : World) : Prop where
  d1 : L i1 = true → L i0 = true
  d3 : L i3 = true → L i1 = true ∧ L i2 = true
  s0 : L i0 = true → L i1 = false → ∃ b, vals i0 = .slice (some ⟨b, 0, none⟩) 0 0 ∧ GRow el sz base w (.slice (some ⟨b, 0, none⟩) 0 0) [] ∧ (L i2 = true → vals i2 ≠ .slice (some ⟨b, 0, none⟩) 1 1)
  s1 : L i1 = true → L i3 = false → ∃ a n c, vals i1 = .slice a n c ∧ GRow el sz base w (.slice a n c) es
  s2 : L i2 = true → L i3 = false → ∃ B, vals i2 = .slice (some ⟨B, 0, none⟩) 1 1 ∧ B < w.heap.size ∧ w.heap[B]? = some (.cells one.toArray el (0, 0))
  s3 : L i3 = true → ∃ a n c, vals i3 = .slice a n c ∧ GRow el sz base w (.slice a n c) (es ++ [one])
section
variable {el : TypeId} {sz base : Nat} {one : List Value} {es : List (List Value)} {i0 i1 i2 i3 : Nat} {L : Nat → Bool} {vals : Nat → Value} {w w' : World}
theorem upd_off {L : Nat → Bool} {vals : Nat → Value} {k j : Nat} {v : Value} (h : j ≠ k) : updL L k j = L j ∧ updV vals k v j = vals j := ⟨updL_ne (by simpa using h), updV_ne h⟩
theorem GRow.keptEl {v : Value} {es : List (List Value)} (h : GRow el sz base w v es) (hw : ∀ (B : Nat) (cs : Array Value), w.heap[B]? = some (.cells cs el (0, 0)) → w'.heap[B]? = w.heap[B]?) : GRow el sz base w' v es :=
  h.kept (fun k hk => by obtain ⟨cs, hc⟩ := h.obj hk; exact hw k cs hc)
theorem Chain.start (el : TypeId) (sz base : Nat) (one : List Value) (es : List (List Value)) (i0 i1 i2 i3 : Nat) (vals : Nat → Value) (w : World) : Chain el sz base one es i0 i1 i2 i3 (fun _ => false) vals w :=
  ⟨fun h => (Bool.false_ne_true h).elim, fun h => (Bool.false_ne_true h).elim, fun h => (Bool.false_ne_true h).elim, fun h => (Bool.false_ne_true h).elim, fun h => (Bool.false_ne_true h).elim, fun h => (Bool.false_ne_true h).elim⟩
/-- An operation of another kind. -/
theorem Chain.frame (h : Chain el sz base one es i0 i1 i2 i3 L vals w) (k : Nat) (v : Value) (hk : i0 ≠ k ∧ i1 ≠ k ∧ i2 ≠ k ∧ i3 ≠ k) (hs : w.heap.size ≤ w'.heap.size) (hw : ∀ (B : Nat) (cs : Array Value), w.heap[B]? = some (.cells cs el (0, 0)) → w'.heap[B]? = w.heap[B]?) : Chain el sz base one es i0 i1 i2 i3 (updL L k) (updV vals k v) w' := by
  obtain ⟨d1, d3, s0, s1, s2, s3⟩ := h
  obtain ⟨k0, k1, k2, k3⟩ := hk
  refine ⟨?_, ?_, ?_, ?_, ?_, ?_⟩
  · rw [(upd_off (vals := vals) (v := v) k0).1, (upd_off (vals := vals) (v := v) k1).1]; exact d1
  · rw [(upd_off (vals := vals) (v := v) k3).1, (upd_off (vals := vals) (v := v) k1).1, (upd_off (vals := vals) (v := v) k2).1]; exact d3
  · rw [(upd_off (vals := vals) (v := v) k0).1, (upd_off (vals := vals) (v := v) k1).1, (upd_off (vals := vals) (v := v) k2).1, (upd_off (L := L) k0).2, (upd_off (L := L) k2).2]
    intro a b
    obtain ⟨x, e, hr, hn⟩ := s0 a b
    exact ⟨x, e, hr.keptEl hw, hn⟩
  · rw [(upd_off (vals := vals) (v := v) k1).1, (upd_off (vals := vals) (v := v) k3).1, (upd_off (L := L) k1).2]
    intro a b
    obtain ⟨x, n, c, e, hr⟩ := s1 a b
    exact ⟨x, n, c, e, hr.keptEl hw⟩
  · rw [(upd_off (vals := vals) (v := v) k2).1, (upd_off (vals := vals) (v := v) k3).1, (upd_off (L := L) k2).2]
    intro a b
    obtain ⟨x, e, hl, hx⟩ := s2 a b
    exact ⟨x, e, Nat.lt_of_lt_of_le hl hs, (hw x _ hx).trans hx⟩
  · rw [(upd_off (vals := vals) (v := v) k3).1, (upd_off (L := L) k3).2]
    intro a
    obtain ⟨x, n, c, e, hr⟩ := s3 a
    exact ⟨x, n, c, e, hr.keptEl hw⟩
theorem Chain.off (h : Chain el sz base one es i0 i1 i2 i3 L vals w) : (L i0 = false → L i1 = false) ∧ (L i1 = false → L i3 = false) ∧ (L i2 = false → L i3 = false) := by
  refine ⟨fun e => ?_, fun e => ?_, fun e => ?_⟩
  · cases e1 : L i1 with
    | false => rfl
    | true => rw [h.d1 e1] at e; cases e
  · cases e1 : L i3 with
    | false => rfl
    | true => rw [(h.d3 e1).1] at e; cases e
  · cases e1 : L i3 with
    | false => rfl
    | true => rw [(h.d3 e1).2] at e; cases e
theorem Chain.op0 (h : Chain el sz base one es i0 i1 i2 i3 L vals w) (hk : i1 ≠ i0 ∧ i2 ≠ i0 ∧ i3 ≠ i0) (h0 : L i0 = false) (hb : base ≤ w.heap.size) : Chain el sz base one es i0 i1 i2 i3 (updL L i0) (updV vals i0 (.slice (some ⟨w.heap.size, 0, none⟩) 0 0)) (w.alloc (.cells #[] el)) := by
  obtain ⟨k1, k2, k3⟩ := hk
  have e1 := h.off.1 h0
  have e3 := h.off.2.1 e1
  obtain ⟨d1, d3, s0, s1, s2, s3⟩ := h
  refine ⟨fun _ => updL_same _ _, ?_, ?_, ?_, ?_, ?_⟩
  · rw [(upd_off (vals := vals) (v := undef) k3).1, e3]; intro a; cases a
  · rw [(upd_off (vals := vals) (v := undef) k2).1, (upd_off (L := L) k2).2]
    intro _ _
    refine ⟨_, updV_same _ _ _, GRow.empty _ _ _ _ _ rfl hb, fun h2 e => ?_⟩
    obtain ⟨B, e2, hl, _⟩ := s2 h2 e3
    rw [e2] at e
    simp only [Value.slice.injEq, Option.some.injEq, Addr.mk.injEq, and_true] at e
    omega
  · rw [(upd_off (vals := vals) (v := undef) k1).1, e1]; intro a; cases a
  · rw [(upd_off (vals := vals) (v := undef) k2).1, (upd_off (vals := vals) (v := undef) k3).1, (upd_off (L := L) k2).2]
    intro a b
    obtain ⟨x, e, hl, hx⟩ := s2 a b
    exact ⟨x, e, by simp; omega, (Below.heap_alloc _ _ _ hl).trans hx⟩
  · rw [(upd_off (vals := vals) (v := undef) k3).1, e3]; intro a; cases a
theorem Chain.op2 (h : Chain el sz base one es i0 i1 i2 i3 L vals w) (hk : i0 ≠ i2 ∧ i1 ≠ i2 ∧ i3 ≠ i2) (h2 : L i2 = false) : Chain el sz base one es i0 i1 i2 i3 (updL L i2) (updV vals i2 (.slice (some ⟨w.heap.size, 0, none⟩) 1 1)) (w.alloc (.cells one.toArray el)) := by
  obtain ⟨k0, k1, k3⟩ := hk
  have e3 := h.off.2.2 h2
  obtain ⟨d1, d3, s0, s1, s2, s3⟩ := h
  have hw : ∀ (B : Nat) (cs : Array Value), w.heap[B]? = some (.cells cs el (0, 0)) → (w.alloc (.cells one.toArray el)).heap[B]? = w.heap[B]? := fun B cs hB => Below.heap_alloc _ _ _ (Array.getElem?_eq_some_iff.1 hB).1
  refine ⟨?_, ?_, ?_, ?_, ?_, ?_⟩
  · rw [(upd_off (vals := vals) (v := undef) k0).1, (upd_off (vals := vals) (v := undef) k1).1]; exact d1
  · rw [(upd_off (vals := vals) (v := undef) k3).1, e3]; intro a; cases a
  · rw [(upd_off (vals := vals) (v := undef) k0).1, (upd_off (vals := vals) (v := undef) k1).1, (upd_off (L := L) k0).2]
    intro a b
    obtain ⟨x, e, hr, _⟩ := s0 a b
    refine ⟨x, e, hr.keptEl hw, fun _ => ?_⟩
    rw [updV_same]
    intro e2
    have := (hr.lt x rfl).2
    simp only [Value.slice.injEq, Option.some.injEq, Addr.mk.injEq, and_true] at e2
    omega
  · rw [(upd_off (vals := vals) (v := undef) k1).1, (upd_off (vals := vals) (v := undef) k3).1, (upd_off (L := L) k1).2]
    intro a b
    obtain ⟨x, n, c, e, hr⟩ := s1 a b
    exact ⟨x, n, c, e, hr.keptEl hw⟩
  · intro _ _
    exact ⟨_, updV_same _ _ _, by simp, World.alloc_heap_new _ _⟩
  · rw [(upd_off (vals := vals) (v := undef) k3).1, e3]; intro a; cases a
theorem Chain.op1 (h : Chain el sz base one es i0 i1 i2 i3 L vals w) (hk : i0 ≠ i1 ∧ i2 ≠ i1 ∧ i3 ≠ i1) (h0 : L i0 = true) (h1 : L i1 = false) {b : Nat} (hb : vals i0 = .slice (some ⟨b, 0, none⟩) 0 0) {ga : Option Addr} {gn gc : Nat} (hr : GRow el sz base w' (.slice ga gn gc) es) (hg : w.grownBy w' (some b)) : Chain el sz base one es i0 i1 i2 i3 (updL L i1) (updV vals i1 (.slice ga gn gc)) w' := by
  obtain ⟨k0, k2, k3⟩ := hk
  have e3 := h.off.2.1 h1
  obtain ⟨d1, d3, s0, s1, s2, s3⟩ := h
  obtain ⟨x, e, _, hn⟩ := s0 h0 h1
  rw [hb] at e
  obtain rfl : b = x := by simpa using e
  refine ⟨?_, ?_, ?_, ?_, ?_, ?_⟩
  · rw [(upd_off (vals := vals) (v := undef) k0).1]; exact fun _ => h0
  · rw [(upd_off (vals := vals) (v := undef) k3).1, e3]; intro a; cases a
  · rw [updL_same]; intro _ a; cases a
  · intro _ _
    exact ⟨ga, gn, gc, updV_same _ _ _, hr⟩
  · rw [(upd_off (vals := vals) (v := undef) k2).1, (upd_off (vals := vals) (v := undef) k3).1, (upd_off (L := L) k2).2]
    intro h2 _
    obtain ⟨B, e2, hl, hx⟩ := s2 h2 e3
    have hne := hn h2
    rw [e2] at hne
    refine ⟨B, e2, Nat.lt_of_lt_of_le hl hg.size, (hg.block B hl (fun e => hne ?_)).trans hx⟩
    rw [Option.some.inj e]
  · rw [(upd_off (vals := vals) (v := undef) k3).1, e3]; intro a; cases a
theorem Chain.op3 (h : Chain el sz base one es i0 i1 i2 i3 L vals w) (hk : i0 ≠ i3 ∧ i1 ≠ i3 ∧ i2 ≠ i3) (h1 : L i1 = true) (h2 : L i2 = true) {ga : Option Addr} {gn gc : Nat} (hr : GRow el sz base w' (.slice ga gn gc) (es ++ [one])) : Chain el sz base one es i0 i1 i2 i3 (updL L i3) (updV vals i3 (.slice ga gn gc)) w' := by
  obtain ⟨k0, k1, k2⟩ := hk
  obtain ⟨d1, d3, s0, s1, s2, s3⟩ := h
  refine ⟨?_, ?_, ?_, ?_, ?_, ?_⟩
  · rw [(upd_off (vals := vals) (v := undef) k0).1, (upd_off (vals := vals) (v := undef) k1).1]; exact d1
  · rw [(upd_off (vals := vals) (v := undef) k1).1, (upd_off (vals := vals) (v := undef) k2).1]; exact fun _ => ⟨h1, h2⟩
  · rw [(upd_off (vals := vals) (v := undef) k1).1, h1]; intro _ a; cases a
  · rw [updL_same]; intro _ a; cases a
  · rw [updL_same]; intro _ a; cases a
  · intro _
    exact ⟨ga, gn, gc, updV_same _ _ _, hr⟩
/-- What an append leaves alone: blocks of another kind. -/
theorem grown_other {t : TypeId} {v : Value} {es : List (List Value)} (h : GRow el sz base w v es) (hg : w.grownBy w' v.ownBlock) (ht : t ≠ el) : ∀ (B : Nat) (cs : Array Value), w.heap[B]? = some (.cells cs t (0, 0)) → w'.heap[B]? = w.heap[B]? :=
  fun B _ hB => hg.block B (Array.getElem?_eq_some_iff.1 hB).1 (h.ne hB ht)
end
/-! ### Lists of texts and of references as rows -/
abbrev strCells (s : ByteArray) : List Value := [.string s]
theorem src_strs {B : Nat → Prop} {w : World} {na : Option Addr} {nn nc : Nat} {ls : List ByteArray} (h : StrSl B w (.slice na nn nc) ls) : nn = (ls.map strCells).length ∧ RowSrc 1 w na (ls.map strCells) := by
  obtain ⟨pa, len, c, e, hl, _, hg⟩ := h.open
  simp only [Value.slice.injEq] at e
  obtain ⟨rfl, rfl, rfl⟩ := e
  refine ⟨by rw [List.length_map]; exact hl.out, ?_⟩
  cases ls with
  | nil => exact .inl rfl
  | cons s r =>
    obtain ⟨_, kb, ko, rfl, _, _⟩ := hg 0 s rfl
    refine .inr ⟨kb, ko, rfl, fun j e i u hj hi => ?_⟩
    rw [List.getElem?_map] at hj
    obtain ⟨x, hx, rfl⟩ := Option.map_eq_some_iff.1 hj
    obtain ⟨_, kb', ko', e', _, hc⟩ := hg j x hx
    simp only [Option.some.injEq, Addr.mk.injEq, and_true] at e'
    obtain ⟨rfl, rfl⟩ := e'
    cases i with
    | zero =>
      simp at hi
      subst hi
      rw [show ko + (j * 1 + 0) = ko + j by omega]; exact hc
    | succ i => simp at hi
theorem src_refs {B : Nat → Prop} {w : World} {na : Option Addr} {nn nc : Nat} {rs : List GRef} (h : RefSl B w (.slice na nn nc) rs) : nn = (rs.map refCells).length ∧ RowSrc 2 w na (rs.map refCells) := by
  obtain ⟨pa, len, c, e, hl, _, hg⟩ := h.open
  simp only [Value.slice.injEq] at e
  obtain ⟨rfl, rfl, rfl⟩ := e
  refine ⟨by rw [List.length_map]; exact hl.out, ?_⟩
  cases rs with
  | nil => exact .inl rfl
  | cons s r =>
    obtain ⟨kb, ko, rfl, _, _⟩ := hg 0 s rfl
    refine .inr ⟨kb, ko, rfl, fun j e i u hj hi => ?_⟩
    rw [List.getElem?_map] at hj
    obtain ⟨x, hx, rfl⟩ := Option.map_eq_some_iff.1 hj
    obtain ⟨kb', ko', e', _, h0, h1⟩ := hg j x hx
    simp only [Option.some.injEq, Addr.mk.injEq, and_true] at e'
    obtain ⟨rfl, rfl⟩ := e'
    match i, hi with
    | 0, hi =>
      simp [refCells] at hi
      subst hi
      rw [show ko + (j * 2 + 0) = ko + j * 2 by omega]; exact h0
    | 1, hi =>
      simp [refCells] at hi
      subst hi
      rw [show ko + (j * 2 + 1) = ko + j * 2 + 1 by omega]; exact h1
    | i + 2, hi => simp [refCells] at hi
theorem GRow.strs {base : Nat} {W : World} {v : Value} {ls : List ByteArray} (h : GRow 9 1 base W v (ls.map strCells)) (hl : ls.length ≤ maxLen) (hz : ∀ s ∈ ls, s.size ≤ maxLen) : StrSl (fun k => base ≤ k ∧ k < W.heap.size) W v ls := by
  refine ⟨?_, hl, hz⟩
  rcases h.parts with ⟨rfl, h0⟩ | ⟨g, cap, rfl, hg, hlt, hc, _⟩
  · exact .inl ⟨⟨_, _, rfl⟩, by simpa using h0⟩
  · refine .inr ⟨g, 0, cap, by rw [List.length_map], ⟨hg, hlt⟩, by simpa using hc, fun j s hj => ?_⟩
    have hj' : (ls.map strCells)[j]? = some (strCells s) := by rw [List.getElem?_map, hj]; rfl
    obtain ⟨g1, c1, e1, h1⟩ := h.cell (i := 0) hj' rfl
    simp only [Value.slice.injEq, Option.some.injEq, Addr.mk.injEq, and_true, true_and] at e1
    rw [e1.1, Nat.zero_add]
    simpa using h1
end Go.Proofs.YtjmnaibbljakaaaGreatDoor

/- Graphs (mathematics): the least closed set of a node, from those of the nodes behind it; from the first reference of a type all of its nodes are reached. -/
namespace Go.Proofs.YtjmnaibbljakaaaGreatDoor
open Go.RowKit Go.Deep

/-- What is reached from a node: the node, and what is reached from the nodes that it points to. -/
theorem least_unite {ns : List GNode} {a : Nat} {S : Nat → Bool} (h : Least ns a S) {g : GNode} (hg : ns[a]? = some g) {F : Nat → Nat → Bool} (hF : ∀ r ∈ g.nx, Least ns r.n (F r.n)) (i : Nat) :
    S i = true ↔ i = a ∨ ∃ r ∈ g.nx, F r.n i = true := by
  constructor
  · refine h.min (fun i => i = a ∨ ∃ r ∈ g.nx, F r.n i = true) (.inl rfl) ?_ i
    intro n g' hn hC r hr
    rcases hC with rfl | ⟨r0, hr0, hf⟩
    · obtain rfl : g = g' := Option.some.inj (hg.symm.trans hn)
      exact .inr ⟨r, hr, (hF r hr).start⟩
    · exact .inr ⟨r0, hr0, (hF r0 hr0).closed n g' hn hf r hr⟩
  · rintro (rfl | ⟨r, hr, hf⟩)
    · exact h.start
    · exact (hF r hr).min (fun i => S i = true) (h.closed a g hg h.start r hr) h.closed i hf

/-- A set that is closed and holds a type's first reference holds all nodes of the type. -/
theorem reach_all {ns : List GNode} {C : Nat → Prop} (hC : ClosedG ns C) : ∀ (t : Ty), t.okg → ∀ (i : Nat) (e : ByteArray → Nat), (∀ k x, (t.pnod i e)[k]? = some x → ns[i + k]? = some x) → C (t.pref i e).n → ∀ k, k < t.gcnt → C (i + k) := by
  refine Ty.ind ?_
  intro k p n s ls ts ih hok i e hns hr j hj
  have hok' := hok
  simp only [Ty.okg] at hok'
  obtain ⟨_, h1, h0, _, hk⟩ := hok'
  rw [Ty.pref] at hr
  rw [Ty.pnod] at hns
  rw [Ty.gcnt] at hj
  by_cases e8 : k = 8
  · subst e8
    obtain ⟨u, rfl⟩ : ∃ u, ts = [u] := by
      match ts, h1 rfl with
      | [u], _ => exact ⟨u, rfl⟩
    rw [if_pos rfl, Ty.pref1] at hr
    rw [if_pos rfl, Ty.pnod1] at hns
    rw [if_neg (by decide)] at hj
    simp only [Ty.gcnts] at hj
    simp only [Ty.okgs] at hk
    exact ih u (by simp) hk.1 i _ hns hr j (by omega)
  · rw [if_neg e8] at hr hns
    by_cases e9 : k = 9
    · subst e9
      rw [h0 rfl, if_neg (by decide)] at hj
      simp only [Ty.gcnts] at hj
      omega
    · rw [if_neg e9] at hr hns
      have hnode := hns 0 _ rfl
      rw [Nat.add_zero] at hnode
      have hkids : ∀ r ∈ Ty.prefs (i + 1) e ts, C r.n := fun r hr' => hC i _ hnode hr r hr'
      have hl : ∀ (l : List Ty) (i' : Nat), (∀ t ∈ l, t ∈ ts) → (∀ k x, (Ty.pnods i' e l)[k]? = some x → ns[i' + k]? = some x) → (∀ r ∈ Ty.prefs i' e l, C r.n) → ∀ j, j < Ty.gcnts l → C (i' + j) := by
        intro l
        induction l with
        | nil => intro i' _ _ _ j hj; simp only [Ty.gcnts] at hj; omega
        | cons t r ihl =>
          intro i' hm hns' hr' j hj
          rw [Ty.gcnts] at hj
          have hto := Ty.okgs_mem hk t (hm t (by simp))
          have hlen := pnod_ok t hto i' e
          rw [Ty.pnods] at hns'
          rw [Ty.prefs] at hr'
          by_cases hlt : j < t.gcnt
          · refine ih t (hm t (by simp)) hto i' e (fun k x hx => hns' k x ?_) (hr' _ (by simp)) j hlt
            rw [List.getElem?_append_left (List.getElem?_eq_some_iff.1 hx).1]; exact hx
          · have := ihl (i' + t.gcnt) (fun u hu => hm u (by simp [hu])) (fun k x hx => by
              have := hns' (t.gcnt + k) x (by rw [List.getElem?_append_right (by omega), hlen, Nat.add_sub_cancel_left]; exact hx)
              rwa [← Nat.add_assoc] at this) (fun q hq => hr' q (by simp [hq])) (j - t.gcnt) (by omega)
            rwa [show i' + t.gcnt + (j - t.gcnt) = i' + j by omega] at this
      cases j with
      | zero => exact hr
      | succ j =>
        have := hl ts (i + 1) (fun _ h => h) (fun k x hx => by
          have := hns (k + 1) x (by simpa using hx)
          rwa [show i + (k + 1) = i + 1 + k by omega] at this) hkids j (by split at hj <;> omega)
        rwa [show i + 1 + j = i + (j + 1) by omega] at this

/-- From the first reference of a right type all nodes of its graph are reached. -/
theorem reach_whole {t : Ty} (hok : t.okg) (hr : t.pref 0 (fun _ => 0) = ⟨0, 0⟩) {S : Nat → Bool} (h : Least (gNodes [t]) 0 S) : ∀ k, k < (gNodes [t]).length → S k = true := by
  intro k hk
  have e : gNodes [t] = t.pnod 0 (fun _ => 0) := by simp [gNodes, Ty.pnods]
  have := reach_all (ns := gNodes [t]) (C := fun n => S n = true) h.closed t hok 0 (fun _ => 0) (fun k x hx => by rw [Nat.zero_add, e]; exact hx) (by rw [hr]; exact h.start) k (by rw [e, pnod_ok t hok] at hk; exact hk)
  rwa [Nat.zero_add] at this
/-- So its list of bits names them all. -/
theorem reach_count {t : Ty} (hok : t.okg) (hr : t.pref 0 (fun _ => 0) = ⟨0, 0⟩) {S : Nat → Bool} (h : Least (gNodes [t]) 0 S) : ((List.range (gNodes [t]).length).filter S).length = (gNodes [t]).length := by
  rw [List.filter_eq_self.2 (fun k hk => reach_whole hok hr h k (List.mem_range.1 hk)), List.length_range]
/-- The numbers below n of a set, counted up: what stands at the place of the next one. -/
theorem filter_next (S : Nat → Bool) {n i : Nat} (hi : i < n) (hS : S i = true) : ((List.range n).filter S)[((List.range i).filter S).length]? = some i := by
  obtain ⟨d, rfl⟩ : ∃ d, n = i + (d + 1) := ⟨n - i - 1, by omega⟩
  rw [List.range_add, List.filter_append, List.getElem?_append_right (Nat.le_refl _), Nat.sub_self, List.range_succ_eq_map]
  simp [hS]
theorem filter_count (S : Nat → Bool) (i : Nat) : ((List.range (i + 1)).filter S).length = ((List.range i).filter S).length + (if S i = true then 1 else 0) := by
  rw [List.range_succ, List.filter_append, List.length_append]
  congr 1
  by_cases h : S i = true
  · simp [h]
  · simp [h]
theorem filter_count_le (S : Nat → Bool) {i n : Nat} (h : i ≤ n) : ((List.range i).filter S).length ≤ ((List.range n).filter S).length := by
  obtain ⟨d, rfl⟩ : ∃ d, n = i + d := ⟨n - i, by omega⟩
  rw [List.range_add, List.filter_append, List.length_append]
  omega
/-- Of a set that holds the next one there are more. -/
theorem filter_count_lt (S : Nat → Bool) {i n : Nat} (h : i < n) (hS : S i = true) : ((List.range i).filter S).length < ((List.range n).filter S).length := by
  have h1 := filter_count_le S (show i + 1 ≤ n from h)
  rw [filter_count, if_pos hS] at h1
  omega
/-- The list of a set: what is in it. -/
theorem filter_mem (S : Nat → Bool) {n j x : Nat} (h : ((List.range n).filter S)[j]? = some x) : x < n ∧ S x = true := by
  have := List.mem_of_getElem? h
  simpa using this
end Go.Proofs.YtjmnaibbljakaaaGreatDoor

/- Graphs: the graph as the law's own nodes (under way). -/
namespace Go.Proofs.YtjmnaibbljakaaaGreatDoor
open Go.RowKit Go.Deep Go.Shelf

end Go.Proofs.YtjmnaibbljakaaaGreatDoor
