/- Equality, laws: what graphs of a few right types have; a type and its unfolding. (and what follows from it) -/
import Derived.Test.YtjmnaibbljakaaaGreatDoorPu17
import Derived.Test.YtjmnaibbljakaaaGreatDoorPu5
import Derived.Test.YtjmnaibbljakaaaGreatDoorPu9
import Derived.Test.YtjmnaibbljakaaaGreatDoorPu10
import Derived.Test.YtjmnaibbljakaaaGreatDoorPu8

/- Equality, laws: what graphs of a few right types have; a type and its unfolding. -/
namespace Go.Proofs.YtjmnaibbljakaaaGreatDoor
open Go.RowKit Go.Deep Go.Shelf

/-- A few right types. -/
structure GrOk (ts : List Ty) : Prop where
  right : ∀ t ∈ ts, nodeR [] 0 false t = 0
  ok : Ty.okgs ts
  sz : Ty.sizes ts ≤ 900
  dp : ∀ t ∈ ts, t.depth ≤ 800
theorem small_has {t : Ty} {m : Nat} (h : smallB t m = true) : t.size ≤ m ∧ t.depth ≤ 150 ∧ nodeR [] 0 false t = 0 := by
  simp only [smallB, Ty.few, Bool.and_eq_true, decide_eq_true_eq] at h
  exact ⟨h.1.1, h.1.2, right_node h.2⟩
theorem GrOk.of {ts : List Ty} (h : ∀ t ∈ ts, t.depth ≤ 150 ∧ nodeR [] 0 false t = 0) (hs : Ty.sizes ts ≤ 900) (hz : ∀ t ∈ ts, t.size ≤ 900) : GrOk ts :=
  ⟨fun t ht => (h t ht).2, Ty.okgs_of (fun t ht => okg_of t [] 0 false (h t ht).2 (by have := hz t ht; omega)), hs, fun t ht => by have := (h t ht).1; omega⟩
section
variable {ts : List Ty}
theorem GrOk.len (h : GrOk ts) : (gNodes ts).length ≤ 900 := by
  have h1 := pnods_ok (e := fun _ => 0) ts 0 h.ok
  have := Ty.gcnts_le ts
  have := h.sz
  unfold gNodes
  omega
theorem GrOk.eqG (h : GrOk ts) : EqG (gNodes ts) := eqG_right h.right h.ok (by have := h.len; omega) (by have := h.sz; omega)
theorem GrOk.refs (_ : GrOk ts) : (gRefs ts).length = ts.length := by unfold gRefs; rw [prefs_len]
theorem GrOk.bd (h : GrOk ts) {i : Nat} {r : GRef} (hr : (gRefs ts)[i]? = some r) : r.n < (gNodes ts).length ∧ -1000000 ≤ r.s ∧ r.s ≤ 1000000 := refs_all h.right h.ok r (List.mem_of_getElem? hr)
theorem GrOk.graph (h : GrOk ts) (hl : ts.length ≤ 1000) (v : Value) (w : World) (hts : TySl (fun k => k < w.heap.size) w v ts) :
    Calls Tryz.prog 10 #[v] w fun en w' => ∃ (na : Option Addr) (nn nc : Nat) (ra : Option Addr) (rn rc : Nat), en = .returned (.tuple #[grV na nn nc, .slice ra rn rc]) ∧ NodeSl (fun k => k < w'.heap.size) w' (.slice na nn nc) (gNodes ts) ∧ RefSl (fun k => k < w'.heap.size) w' (.slice ra rn rc) (gRefs ts) ∧ Below w.heap.size w w' :=
  graph_any ts v w hts (by have := h.sz; omega) h.dp h.right (by have := h.len; omega) (fun g hg => by
    have h1 := h.eqG.nx g hg
    have h2 := labels_all h.right g hg
    have := h.sz
    exact ⟨by omega, by omega⟩) (by rw [h.refs]; exact hl)
/-- What the references of two types with one unfolding have. -/
theorem GrOk.unfolds (h : GrOk ts) {i j : Nat} {t u : Ty} (hi : ts[i]? = some t) (hj : ts[j]? = some u) (hu : unfT t = unfT u) : ∃ r q, (gRefs ts)[i]? = some r ∧ (gRefs ts)[j]? = some q ∧ (lgN (gNodes ts)).Eqv false r q ∧ (∀ k, (lgN (gNodes ts)).Eqv false (upG r k) q ↔ k = 0 ∨ (unfT t).k ≤ 3) := by
  obtain ⟨r, q, h1, h2, h3⟩ := lgT_unfolds h.right h.ok hi hj hu
  refine ⟨r, q, h1, h2, h3, fun k => ?_⟩
  obtain ⟨r', h1', hrep⟩ := graph_rep h.right h.ok hi
  obtain rfl := Option.some.inj (h1.symm.trans h1')
  obtain ⟨g, hg, hk, _⟩ := hrep 1
  have hkk := (h.eqG.ok g (List.mem_of_getElem? hg)).kind
  have hp := lgN_prio (ns := gNodes ts) (r := r) hg
  by_cases hz : k = 0
  · subst hz
    rw [upG_zero]
    exact ⟨fun _ => .inl rfl, fun _ => h3⟩
  · by_cases h4 : g.k ≤ 3
    · have ha : actI g.k = false := by unfold actI; simp; omega
      rw [ha] at hp
      exact ⟨fun _ => .inr (by rw [← hk]; exact h4), fun _ => raised_leaf (lgN_ok h.eqG) h3 hp⟩
    · have ha : actI g.k = true := by unfold actI; simp; omega
      rw [ha] at hp
      exact ⟨fun h5 => absurd h5 (raised_not h3 hp hz), fun h5 => absurd h5 (by rw [← hk]; omega)⟩
end
end Go.Proofs.YtjmnaibbljakaaaGreatDoor

/- Unfolding by the reference: Raise, whose list of kids is a row of its own. -/
namespace Go.Proofs.YtjmnaibbljakaaaGreatDoor
open Go.RowKit Go.Deep Go.Shelf

/-- A type in new memory, whose kids are a row of their own, beside all that hangs on them and the labels. -/
def TyRetK (w : World) (g : Ty) (e : Ending) (w' : World) : Prop :=
  ∃ la ln lc va vn vc m rows, e = .returned (.agg #[.int .i64 g.k, .int .i64 g.p, .string g.n, .int .i64 g.s, .slice la ln lc, .slice va vn vc]) ∧ g.n.size ≤ maxLen ∧ w.heap.size ≤ m ∧ m ≤ w'.heap.size ∧
    StrSl (Fresh w.heap.size m) w' (.slice la ln lc) g.ls ∧ Kids 25 6 GoodT m w' (.slice va vn vc) rows g.ts ∧ Below w.heap.size w w'
theorem TyRetK.ret {w w' : World} {g : Ty} {e : Ending} (h : TyRetK w g e w') (hm : g.ts.length ≤ maxLen) : TyRet w g e w' := by
  obtain ⟨la, ln, lc, va, vn, vc, m, rows, rfl, hn, h1, h2, hs, hk, hb⟩ := h
  exact ⟨la, ln, lc, va, vn, vc, rfl, ⟨_, _, rfl, hn, hs.mono (Fresh.mono (Nat.le_refl _) h2), (hk.tys hm).mono (Fresh.mono h1 (Nat.le_refl _))⟩, hb⟩
theorem Row.strsIn {base : Nat} {W : World} {v : Value} {l : List ByteArray} {B : Nat → Prop} (h : Row base W v l) (hl : l.length ≤ maxLen) (hB : ∀ k, v.ownBlock = some k → B k) : StrSl B W v l := by
  obtain ⟨h1, h2, h3⟩ := (h.strs hl).2
  refine ⟨?_, h2, h3⟩
  rcases h1 with h1 | ⟨b, o, c, rfl, _, h4⟩
  · exact .inl h1
  · exact .inr ⟨b, o, c, rfl, hB b rfl, h4⟩

set_option maxHeartbeats 8000000 in
set_option maxRecDepth 100000 in
theorem rraiseK_step (B : Nat → Prop) (j : Int) (k p s : Int) (n : ByteArray) (lv kv : Value) (ls : List ByteArray) (ts : List Ty) (hm : (Ty.mk k p n s ls ts).can j) (hnn : n.size ≤ maxLen) (w : World) (hB : Low B w) (hl : StrSl B w lv ls) (hk : TySl B w kv ts)
    (ih : ∀ t ∈ ts, ∀ (v : Value) (w : World), Low B w → TyVal B w v t → Calls Tryz.prog 15 #[v, .int .i64 j] w (TyRet w (t.raise j))) :
    Calls Tryz.prog 15 #[.agg #[.int .i64 k, .int .i64 p, .string n, .int .i64 s, lv, kv], .int .i64 j] w (TyRetK w ((Ty.mk k p n s ls ts).raise j)) := by
  simp only [Ty.can] at hm
  obtain ⟨hp, hm1, hm2, _⟩ := hm
  obtain ⟨l0, len0, cl0, rfl, hll, _, _⟩ := hl.open
  obtain ⟨k0, kn0, kc0, rfl, hkl, hkm, hkget⟩ := hk.open
  have hb0 := box2_below w (cell6 k p n s (.slice l0 len0 cl0) (.slice k0 kn0 kc0)) (cell6 0 0 ⟨#[]⟩ 0 (.slice none 0 0) (.slice none 0 0))
  obtain ⟨s0, s1⟩ := Six.two w (.int .i64 k) (.int .i64 p) (.string n) (.int .i64 s) (.slice l0 len0 cl0) (.slice k0 kn0 kc0) (.int .i64 0) (.int .i64 0) (.string ⟨#[]⟩) (.int .i64 0) (.slice none 0 0) (.slice none 0 0)
  obtain ⟨W2, hW2⟩ : ∃ W2, (w.alloc (cell6 k p n s (.slice l0 len0 cl0) (.slice k0 kn0 kc0))).alloc (cell6 0 0 ⟨#[]⟩ 0 (.slice none 0 0) (.slice none 0 0)) = W2 := ⟨_, rfl⟩
  have hs2 : W2.heap.size = w.heap.size + 2 := by rw [← hW2]; simp
  simp only [cell6] at hW2 hb0
  rw [hW2] at hb0 s0 s1
  have HL : Hid (∀ W, Below W2.heap.size W2 W → StrSl B W (.slice l0 len0 cl0) ls) := Lib.hid (fun W hW => hl.keep ((below_seq hb0 hW).keeps'.mono hB))
  have HK : Hid (∀ W : World, (∀ i, i < w.heap.size → W.heap[i]? = w.heap[i]?) → TySl B W (.slice k0 kn0 kc0) ts) := Lib.hid (fun W hW => hk.keep (fun i o hi ho _ => (hW i (hB i hi)).trans ho))
  have HS0 := Lib.hid s0
  have HS1 := Lib.hid s1
  have HB0 := Lib.hid hb0
  have HW2 := Lib.hid hW2
  have HIH := Lib.hid ih
  have HKL := Lib.hid hkl.out
  have HBB := Lib.hid hB
  have hll1 : 0 + ls.length ≤ 1000000000 := by omega
  have HNN := Lib.hid hnn
  clear hl hk s0 s1 hb0 hW2 ih hkget hll hB hkl hnn
  go_enter Tryz.func15, Tryz.ntmps15
  obtain ⟨⟨d0, d1, d2, d3, d4, d5⟩, hf⟩ := HS0.out.cells
  go_upto_region 1 with fail
  rw [HW2.out]
  clear HW2
  go_cut [5] from 6 (fun v wc => RaiseSt W2.heap.size W2 k p s n ls v wc)
  case first =>
    have HBr := Lib.hid (Below.refl W2.heap.size W2)
    go_region_held_law (fun W => W.cell? ⟨w.heap.size, 0, none⟩ = some (.int .i64 k) ∧ W.cell? ⟨w.heap.size, 1, none⟩ = some (.int .i64 p) ∧ W.cell? ⟨w.heap.size, 2, none⟩ = some (.string n) ∧ W.cell? ⟨w.heap.size, 3, none⟩ = some (.int .i64 s) ∧ W.cell? ⟨w.heap.size, 4, none⟩ = some (.slice l0 len0 cl0) ∧ W.cell? ⟨w.heap.size, 5, none⟩ = some (.slice k0 kn0 kc0))
      (first | go_keep | exact (HS0.out.to (by (repeat (first | with_reducible exact HBr.out | with_reducible exact HB1.out | with_reducible exact H7.out.2.2 | with_reducible exact H8.out.2.2 | with_reducible apply Below.drew | (with_reducible refine Below.setCell ?_ ?_ _; rotate_left; focus (first | omega | (simp; done) | (simp; omega))) | (with_reducible refine Below.alloc ?_ ?_ _; rotate_left; focus (first | omega | (simp; done) | (simp; omega))))))).cells.1 | fail)
      (first
        | (refine step_appS6 (by rfl) _ _ (by rfl) W2.heap.size [] (.slice (some ⟨w.heap.size + 2, 0, none⟩) 0 0) ?_ ?_ B l0 len0 cl0 ls ?_ ?_ hll1 ?_ (.tmp 5) (w.heap.size + 3) ?_ ?_ ls (List.nil_append _) W2 ?_ ?_
           · rfl
           · (repeat (first | (with_reducible refine Row.empty _ _ _ ?_ ?_ <;> first | omega | rfl | (simp; omega) | (simp; done)) | with_reducible refine Row.alloc ?_ _ | with_reducible refine Row.drew ?_))
           · rfl
           · exact HL.out _ (by (repeat (first | with_reducible exact HBr.out | with_reducible exact HB1.out | with_reducible exact H7.out.2.2 | with_reducible exact H8.out.2.2 | with_reducible apply Below.drew | (with_reducible refine Below.setCell ?_ ?_ _; rotate_left; focus (first | omega | (simp; done) | (simp; omega))) | (with_reducible refine Below.alloc ?_ ?_ _; rotate_left; focus (first | omega | (simp; done) | (simp; omega))))))
           · (first | omega | (simp; done) | (simp; omega))
           · rfl
           · repeat (first | with_reducible exact heap_new6 _ _ _ (by first | omega | (simp; done) | (simp; omega)) | with_reducible refine Eq.trans (heap_drew6 _ _) ?_ | with_reducible refine Eq.trans (Below.heap_alloc _ _ _ (by first | omega | (simp; done) | (simp; omega))) ?_)
           · (repeat (first | with_reducible exact HBr.out | with_reducible exact HB1.out | with_reducible exact H7.out.2.2 | with_reducible exact H8.out.2.2 | with_reducible apply Below.drew | (with_reducible refine Below.setCell ?_ ?_ _; rotate_left; focus (first | omega | (simp; done) | (simp; omega))) | (with_reducible refine Below.alloc ?_ ?_ _; rotate_left; focus (first | omega | (simp; done) | (simp; omega)))))
           intro ga gn gc w5 hb5 hr5 hx5
           obtain ⟨⟨q0, q1, q2, q3, q4, q5⟩, hfq⟩ := Six.cells hx5
           have HB1 := Lib.hid hb5
           have HR1 := Lib.hid hr5
           have HX1 := Lib.hid hx5
           have hz5 : W2.heap.size ≤ w5.heap.size := HB1.out.size
           clear hb5 hr5 hx5)
        | (refine step_appS6 (by rfl) _ _ (by rfl) W2.heap.size [] (.slice (some ⟨w.heap.size + 3, 0, none⟩) 0 0) ?_ ?_ B l0 len0 cl0 ls ?_ ?_ hll1 ?_ (.tmp 5) (w.heap.size + 2) ?_ ?_ ls (List.nil_append _) W2 ?_ ?_
           · rfl
           · (repeat (first | (with_reducible refine Row.empty _ _ _ ?_ ?_ <;> first | omega | rfl | (simp; omega) | (simp; done)) | with_reducible refine Row.alloc ?_ _ | with_reducible refine Row.drew ?_))
           · rfl
           · exact HL.out _ (by (repeat (first | with_reducible exact HBr.out | with_reducible exact HB1.out | with_reducible exact H7.out.2.2 | with_reducible exact H8.out.2.2 | with_reducible apply Below.drew | (with_reducible refine Below.setCell ?_ ?_ _; rotate_left; focus (first | omega | (simp; done) | (simp; omega))) | (with_reducible refine Below.alloc ?_ ?_ _; rotate_left; focus (first | omega | (simp; done) | (simp; omega))))))
           · (first | omega | (simp; done) | (simp; omega))
           · rfl
           · repeat (first | with_reducible exact heap_new6 _ _ _ (by first | omega | (simp; done) | (simp; omega)) | with_reducible refine Eq.trans (heap_drew6 _ _) ?_ | with_reducible refine Eq.trans (Below.heap_alloc _ _ _ (by first | omega | (simp; done) | (simp; omega))) ?_)
           · (repeat (first | with_reducible exact HBr.out | with_reducible exact HB1.out | with_reducible exact H7.out.2.2 | with_reducible exact H8.out.2.2 | with_reducible apply Below.drew | (with_reducible refine Below.setCell ?_ ?_ _; rotate_left; focus (first | omega | (simp; done) | (simp; omega))) | (with_reducible refine Below.alloc ?_ ?_ _; rotate_left; focus (first | omega | (simp; done) | (simp; omega)))))
           intro ga gn gc w5 hb5 hr5 hx5
           obtain ⟨⟨q0, q1, q2, q3, q4, q5⟩, hfq⟩ := Six.cells hx5
           have HB1 := Lib.hid hb5
           have HR1 := Lib.hid hr5
           have HX1 := Lib.hid hx5
           have hz5 : W2.heap.size ≤ w5.heap.size := HB1.out.size
           clear hb5 hr5 hx5)
        | (refine step_app (by rfl) _ _ (by rfl) W2.heap.size [] (.slice (some ⟨w.heap.size + 2, 0, none⟩) 0 0) ?_ ?_ B l0 len0 cl0 ls ?_ ?_ hll1 ?_ ls (List.nil_append _) ?_
           · rfl
           · (repeat (first | (with_reducible refine Row.empty _ _ _ ?_ ?_ <;> first | omega | rfl | (simp; omega) | (simp; done)) | with_reducible refine Row.alloc ?_ _ | with_reducible refine Row.drew ?_))
           · rfl
           · exact HL.out _ (by (repeat (first | with_reducible exact HBr.out | with_reducible exact HB1.out | with_reducible exact H7.out.2.2 | with_reducible exact H8.out.2.2 | with_reducible apply Below.drew | (with_reducible refine Below.setCell ?_ ?_ _; rotate_left; focus (first | omega | (simp; done) | (simp; omega))) | (with_reducible refine Below.alloc ?_ ?_ _; rotate_left; focus (first | omega | (simp; done) | (simp; omega))))))
           · (first | omega | (simp; done) | (simp; omega))
           intro ga gn gc w5 hrow hgrow
           have HB1 := Lib.hid (Below.grown (B := W2.heap.size) (a := W2) (by (repeat (first | with_reducible exact HBr.out | with_reducible exact HB1.out | with_reducible exact H7.out.2.2 | with_reducible exact H8.out.2.2 | with_reducible apply Below.drew | (with_reducible refine Below.setCell ?_ ?_ _; rotate_left; focus (first | omega | (simp; done) | (simp; omega))) | (with_reducible refine Below.alloc ?_ ?_ _; rotate_left; focus (first | omega | (simp; done) | (simp; omega)))))) hgrow (by first | omega | (simp; done) | (simp; omega)) (fun k e => by cases e; first | omega | (simp; done) | (simp; omega)))
           have HR1 := Lib.hid hrow
           have hz5 : W2.heap.size ≤ w5.heap.size := HB1.out.size
           clear hrow hgrow)
        | fail)
    all_goals (go_wp2_with fail)
    all_goals go_meet
    all_goals (first
      | exact ⟨_, ga, gn, gc, rfl, by omega, Lib.hid (Six.fill HX1.out _ _ _ _ _ _), Lib.hid (HR1.out.kept (fun q hq => heap_setCells_other (fun e => Row.ne_ty HR1.out HX1.out (by rw [hq, e])) [_, _, _, _, _, _] 0 _)), Lib.hid (by (repeat (first | with_reducible exact HB1.out | with_reducible apply Below.drew | (with_reducible refine Below.setCell ?_ ?_ _; rotate_left; focus (first | omega | (simp; done) | (simp; omega))) | (with_reducible refine Below.alloc ?_ ?_ _; rotate_left; focus (first | omega | (simp; done) | (simp; omega))))))⟩
      | exact ⟨_, ga, gn, gc, rfl, by omega, Lib.hid (Six.new _ _ _ _ _ _ _), Lib.hid (HR1.out.alloc _), Lib.hid (by (repeat (first | with_reducible exact HB1.out | with_reducible apply Below.drew | (with_reducible refine Below.setCell ?_ ?_ _; rotate_left; focus (first | omega | (simp; done) | (simp; omega))) | (with_reducible refine Below.alloc ?_ ?_ _; rotate_left; focus (first | omega | (simp; done) | (simp; omega))))))⟩
      | trace_state)
  case rest =>
    obtain ⟨bq, la, ln, lc, rfl, hbq, HX, HR, HB⟩ := hcut
    obtain ⟨W3, hW3⟩ : ∃ W3, W3 = wc := ⟨_, rfl⟩
    rw [← hW3] at HX HR HB ⊢
    clear hW3 wc
    have HS3 := Lib.hid (HS0.out.to HB.out)
    have hbx := HX.out.lt
    obtain ⟨act, hact⟩ : ∃ b, actB k = b := ⟨_, rfl⟩
    obtain ⟨p', hp'⟩ : ∃ x, (if actB k = true then p + j else p) = x := ⟨_, rfl⟩
    have HP := Lib.hid hp'
    go_upto_region 2 with fail
    go_cut [27] from 28 (fun b wr => b = .bool act ∧ W3 = wr)
    case first =>
      obtain ⟨⟨d0, d1, d2, d3, d4, d5⟩, hf⟩ := HS3.out.cells
      by_cases h4 : 4 ≤ k
      · by_cases h7 : k ≤ 7
        · obtain rfl : act = true := by rw [← hact]; simp [actB, h4, h7]
          go_wp2_with fail
          go_meet
          case rel => exact ⟨rfl, rfl⟩
        · obtain rfl : act = false := by rw [← hact]; simp [actB, h4, h7]
          go_wp2_with fail
          go_meet
          case rel => exact ⟨rfl, rfl⟩
      · obtain rfl : act = false := by rw [← hact]; simp [actB, h4]
        go_wp2_with fail
        go_meet
        case rel => exact ⟨rfl, rfl⟩
    case rest =>
      obtain ⟨rfl, rfl⟩ := hcut
      go_upto_if 27 with fail
      go_cut [5] from 28 (fun v wr => v = .pointer (some ⟨bq, 0, none⟩) ∧ Hid (Six wr bq (.int .i64 k) (.int .i64 p') (.string n) (.int .i64 s) (.slice la ln lc) (.slice none 0 0)) ∧ Hid (Row W2.heap.size wr (.slice la ln lc) ls) ∧ Hid (Below W2.heap.size W2 wr))
      case first =>
        obtain ⟨⟨d0, d1, d2, d3, d4, d5⟩, hf⟩ := HS3.out.cells
        obtain ⟨⟨e0, e1, e2, e3, e4, e5⟩, hf1⟩ := HX.out.cells
        cases act
        · rw [if_neg (by simp [hact])] at hp'
          subst hp'
          go_wp2_with fail
          go_meet
          case rel => exact ⟨rfl, HX, HR, HB⟩
        · obtain ⟨hlo, hhi⟩ := hp hact
          rw [if_pos hact] at hp'
          subst hp'
          go_wp2_with fail
          go_meet
          case rel => exact ⟨rfl, Lib.hid (set_block HX.out 1 _), Lib.hid (HR.out.kept (fun q hq => Below.heap_setCell _ _ _ q (by simp; exact fun e => Row.ne_ty HR.out HX.out (by rw [hq, e])))), Lib.hid (HB.out.setCell (p := ⟨bq, 1, none⟩) hbq _)⟩
      case rest =>
        clear HX HR HB HS3 hact hp'
        obtain ⟨rfl, HX, HR, HB⟩ := hcut
        obtain ⟨W4, hW4⟩ : ∃ W4, W4 = wc := ⟨_, rfl⟩
        rw [← hW4] at HX HR HB ⊢
        clear hW4 wc
        have hb4 : W2.heap.size ≤ W4.heap.size := HB.out.size
        have hbq4 : bq < W4.heap.size := HX.out.lt
        have hkn1 : kn0 ≤ 1048576 := by rw [HKL.out]; exact hm2
        have HLO : Hid (∀ wr, W4.grownBy wr (some bq) → ∀ i, i < W2.heap.size → wr.heap[i]? = W2.heap[i]?) := Lib.hid (fun wr hg i hi => (hg.block i (by omega) (fun e => by injection e; omega)).trans (HB.out.block i hi))
        have HX0 : Hid (∀ wr, W4.grownBy wr (some bq) → Six wr w.heap.size (.int .i64 k) (.int .i64 p) (.string n) (.int .i64 s) (.slice l0 len0 cl0) (.slice k0 kn0 kc0)) := Lib.hid (fun wr hg => (HLO.out wr hg _ (by omega)).trans HS0.out)
        have HX1 : Hid (∀ wr, W4.grownBy wr (some bq) → Six wr (w.heap.size + 1) (.int .i64 0) (.int .i64 0) (.string ⟨#[]⟩) (.int .i64 0) (.slice none 0 0) (.slice none 0 0)) := Lib.hid (fun wr hg => (HLO.out wr hg _ (by omega)).trans HS1.out)
        have HKW : Hid (∀ wr, W4.grownBy wr (some bq) → TySl B wr (.slice k0 kn0 kc0) ts) := Lib.hid (fun wr hg => HK.out wr (fun i hi => (HLO.out wr hg i (by omega)).trans (HB0.out.block i hi)))
        have HBW : Hid (∀ wr, W4.grownBy wr (some bq) → Low B wr) := Lib.hid (fun wr hg => HBB.out.le (by have := hg.size; omega))
        have HRW : Hid (∀ wr, W4.grownBy wr (some bq) → Row W2.heap.size wr (.slice la ln lc) ls) := Lib.hid (fun wr hg => HR.out.kept (fun q hq => hg.block q (HR.out.lt q hq).2 (fun e => Row.ne_ty HR.out HX.out (e.symm.trans hq.symm))))
        have HRS : Hid (∀ k, (Value.slice la ln lc).ownBlock = some k → k < W4.heap.size) := Lib.hid (fun k hk => (HR.out.lt k hk).2)
        clear HLO HR HS0 HS1 HK HL hbx
        clear d0 d1 d2 d3 d4 d5 hf
        go_wp2_with fail
        go_loopw [6] (fun i wr => ∃ (q : Nat) (va : Option Addr) (vn vc : Nat) (rows : List (List Value)), i = .int .i64 (q : Int) ∧ q ≤ kn0 ∧ Hid (W4.grownBy wr (some bq)) ∧ Hid (Six wr bq (.int .i64 k) (.int .i64 p') (.string n) (.int .i64 s) (.slice la ln lc) (.slice va vn vc)) ∧ Hid (Kids 25 6 GoodT W4.heap.size wr (.slice va vn vc) rows ((ts.take q).map (Ty.raise j)))) (fun i _ => kn0 - (intOf i).toNat)
        case atStart => exact ⟨0, none, 0, 0, [], rfl, by omega, Lib.hid ⟨rfl, rfl, rfl, Nat.le_refl _, fun _ _ _ => rfl⟩, HX, Lib.hid (Kids.nil _)⟩
        case round =>
          clear HX
          obtain ⟨q, va, vn, vc, rows, rfl, hq, HG, HX4, HKD⟩ := hrel
          obtain ⟨⟨a0, a1, a2, a3, a4, a5⟩, haf⟩ := (HX0.out wr HG.out).cells
          obtain ⟨⟨b0, b1, b2, b3, b4, b5⟩, hbf⟩ := HX4.out.cells
          have hwr4 := HG.out.size
          by_cases hlt : q < kn0
          · obtain ⟨t, htq⟩ : ∃ t, ts[q]? = some t := ⟨_, List.getElem?_eq_getElem (by rw [← HKL.out]; exact hlt)⟩
            obtain ⟨kb, ko, hk0, hkb, hty⟩ : ∃ kb ko, k0 = some ⟨kb, ko, none⟩ ∧ B kb ∧ TyAt B wr t kb (ko + q * 6) := by
              obtain ⟨pa, len, c, e, _, _, hget⟩ := (HKW.out wr HG.out).open
              injection e with e1 e2 e3
              obtain ⟨kb, ko, h1, h2, h3⟩ := hget q t htq
              exact ⟨kb, ko, by rw [e1]; exact h1, h2, h3⟩
            subst hk0
            obtain ⟨la1, ln1, lc1, ka1, kn1, kc1, ⟨e0, e1, e2, e3, e4, e5⟩, hval⟩ := hty.load'
            have hBr := HBW.out wr HG.out
            have hkbw : kb < w.heap.size := HBB.out kb hkb
            have HC : Hid (∀ W, Below wr.heap.size wr W → Calls Tryz.prog 15 #[.agg #[.int .i64 t.k, .int .i64 t.p, .string t.n, .int .i64 t.s, .slice la1 ln1 lc1, .slice ka1 kn1 kc1], .int .i64 j] W (TyRet W (t.raise j))) := Lib.hid (fun W hW => HIH.out t (List.mem_of_getElem? htq) _ W (hBr.le hW.size) (hval.to hBr hW))
            obtain ⟨i0, hi, hz0, hz1, hz2⟩ := info_parts tyInfo
            have hmap : ((ts.take q).map (Ty.raise j)).length + 1 ≤ 1048577 := by rw [List.length_map, List.length_take]; omega
            have hbqr : bq < wr.heap.size := by omega
            have HTQ := Lib.hid htq
            clear hty hval hkb htq
            go_wp2_with fail
            go_region_law
              (first
                | (go_simp
                   go_at_call 15
                   refine (HC.out _ (by (repeat (first | with_reducible exact Below.refl _ _ | with_reducible exact HB6.out | with_reducible exact HB5.out | with_reducible apply Below.drew | (with_reducible refine Below.setCell ?_ ?_ _; rotate_left; focus (first | omega | (simp; done) | (simp; omega))) | (with_reducible refine Below.alloc ?_ ?_ _; rotate_left; focus (first | omega | (simp; done) | (simp; omega))))))).mono ?_
                   rintro e w5 ⟨la5, ln5, lc5, ka5, kn5, kc5, rfl, hv5, hb5⟩
                   dsimp only
                   have HB5 : Hid (Below wr.heap.size wr w5) := Lib.hid (Below.trans (by (repeat (first | with_reducible exact Below.refl _ _ | with_reducible exact HB6.out | with_reducible exact HB5.out | with_reducible apply Below.drew | (with_reducible refine Below.setCell ?_ ?_ _; rotate_left; focus (first | omega | (simp; done) | (simp; omega))) | (with_reducible refine Below.alloc ?_ ?_ _; rotate_left; focus (first | omega | (simp; done) | (simp; omega)))))) hb5)
                   have HV5 : Hid (TyVal (Fresh wr.heap.size w5.heap.size) w5 (.agg #[.int .i64 (t.raise j).k, .int .i64 (t.raise j).p, .string (t.raise j).n, .int .i64 (t.raise j).s, .slice la5 ln5 lc5, .slice ka5 kn5 kc5]) (t.raise j)) := Lib.hid hv5
                   have b55 : w5.cell? ⟨bq, 5, none⟩ = some (.slice va vn vc) := (HB5.out.cell (p := ⟨bq, 5, none⟩) hbqr).trans b5
                   have hz5 := HB5.out.size
                   have hne5 := World.new_ne w5 _ b55
                   have hbq5 : bq < w5.heap.size := by omega
                   clear hv5 hb5)
                | (refine step_kid (by rfl) _ _ _ (by rfl) Tryz.underlying23 hi hz0 hz1 hz2 rfl (by decide) goodT HKD.out hwr4 HB5.out (by rfl) _ [.int .i64 (t.raise j).k, .int .i64 (t.raise j).p, .string (t.raise j).n, .int .i64 (t.raise j).s, .slice la5 ln5 lc5, .slice ka5 kn5 kc5] 1 (by rfl) ?_ 25 ?_ rfl ?_ hmap (by decide) (t.raise j) ⟨_, _, _, _, _, _, rfl, HV5.out⟩ ?_
                   · (repeat (first | with_reducible exact Below.refl _ _ | with_reducible apply Below.drew | (with_reducible refine Below.alloc ?_ ?_ _; rotate_left; focus (first | omega | (simp; done) | (simp; omega)))))
                   · (repeat (first | with_reducible exact heapN _ _ _ (by first | rfl | omega | (simp; done) | (simp; omega)) | with_reducible refine Eq.trans (heapD _ _) ?_))
                   · (intro u hu; simp only [List.mem_cons, List.not_mem_nil, or_false] at hu; rcases hu with rfl | rfl | rfl | rfl | rfl | rfl <;> rfl)
                   intro ga gn gc w6 rows2 hK6 hB6
                   have HB6 := Lib.hid hB6
                   have HK6 := Lib.hid hK6
                   have HX6 : Hid (Six w6 bq (.int .i64 k) (.int .i64 p') (.string n) (.int .i64 s) (.slice la ln lc) (.slice va vn vc)) := Lib.hid ((hB6.block bq hbq4).trans HX4.out)
                   obtain ⟨⟨g0, g1, g2, g3, g4, g5⟩, hgf⟩ := HX6.out.cells
                   clear hK6 hB6)
                | fail)
            all_goals
              go_wp2_with fail
              go_roundw
              case rel => exact ⟨q + 1, ga, gn, gc, rows2, by go_num, by omega, Lib.hid ⟨HB6.out.os.trans HG.out.os, HB6.out.tape.trans HG.out.tape, HB6.out.output.trans HG.out.output, by simp; exact Nat.le_trans HG.out.size HB6.out.size, fun i hi hne => (Below.heap_setCell _ _ _ i (by simp; exact fun e => hne (by rw [e]))).trans ((HB6.out.block i hi).trans (HG.out.block i hi hne))⟩, Lib.hid (HX6.out.set5 _), Lib.hid (by rw [take_snoc_get HTQ.out, List.map_append]; exact Kids.set goodT HK6.out hbq4 _)⟩
              case measure => simp [intOf]; omega
          · obtain rfl : q = kn0 := by omega
            have hrw : (Ty.mk k p n s ls ts).raise j = .mk k p' n s ls (Ty.raises j ts) := by rw [Ty.raise, HP.out]
            have hgs := HG.out.size
            obtain ⟨⟨c0, c1, c2, c3, c4, c5⟩, hcf⟩ := (HX1.out wr HG.out).cells
            go_wp2_with fail
            have ha := (Above.refl (w.heap.size + 2) wr).fill (c := w.heap.size + 1) (by omega) (.int .i64 k) (.int .i64 p') (.string n) (.int .i64 s) (.slice la ln lc) (.slice va vn vc)
            have hbw : Below w.heap.size w wr := (HB0.out.trans (HB.out.mono (by omega))).grown HG.out (by omega) (fun i e => by cases e; omega)
            have hbf2 := below_fill (c := w.heap.size + 1) hbw (by omega) (.int .i64 k) (.int .i64 p') (.string n) (.int .i64 s) (.slice la ln lc) (.slice va vn vc)
            have hky : Kids 25 6 GoodT W4.heap.size wr (.slice va vn vc) rows (Ty.raises j ts) := by
              have h := HKD.out
              rw [List.take_of_length_le (by rw [← HKL.out]; exact Nat.le_refl _), ← Ty.raises_map] at h
              exact h
            have hc4 : w.heap.size + 1 < W4.heap.size := by omega
            refine bodyPost_ret (v := .agg #[.int .i64 k, .int .i64 p', .string n, .int .i64 s, .slice la ln lc, .slice va vn vc]) (by simp [results, Tryz.results15, go_sem, c0, c1, c2, c3, c4, c5]) rfl (by rw [hrw]; exact ⟨la, ln, lc, va, vn, vc, W4.heap.size, rows, rfl, HNN.out, by omega, Nat.le_trans hgs ha.size, (((HRW.out wr HG.out).strsIn (B := Fresh W2.heap.size W4.heap.size) (by unfold maxLen; omega) (fun k hk => ⟨((HRW.out wr HG.out).lt k hk).1, HRS.out k hk⟩)).keep (ha.keeps.mono (Fresh.mono (by omega) hgs))).mono (Fresh.mono (by omega) (Nat.le_refl _)), (((((hky.set goodT hc4 _).set goodT hc4 _).set goodT hc4 _).set goodT hc4 _).set goodT hc4 _).set goodT hc4 _, hbf2⟩)

theorem rraiseK_any (B : Nat → Prop) (j : Int) (t : Ty) (hm : t.can j) (v : Value) (w : World) (hB : Low B w) (hv : TyVal B w v t) : Calls Tryz.prog 15 #[v, .int .i64 j] w (TyRetK w (t.raise j)) := by
  obtain ⟨k, p, n, s, ls, ts⟩ := t
  obtain ⟨lv, kv, rfl, hn, hl, hk⟩ := hv
  have hm' := hm
  simp only [Ty.can] at hm'
  exact rraiseK_step B j k p s n lv kv ls ts hm hn w hB hl hk (fun t ht => rraise_any B j t (Ty.cans_mem hm'.2.2.2 t ht))
end Go.Proofs.YtjmnaibbljakaaaGreatDoor

/- Unfolding by the reference: put. -/
namespace Go.Proofs.YtjmnaibbljakaaaGreatDoor
open Go.RowKit Go.Deep Go.Shelf

theorem KRow.set6 {e : TypeId} {base : Nat} {W : World} {v : Value} {es : List (List Value)} (h : KRow base e 6 W v es) {j : Nat} {a0 a1 a2 a3 a4 a5 : Value} (hj : es[j]? = some [a0, a1, a2, a3, a4, a5]) {g n cap : Nat} (hv : v = .slice (some ⟨g, 0, none⟩) n cap) (u0 u1 u2 u3 u4 u5 : Value) :
    KRow base e 6 ((((((W.setCell ⟨g, j * 6, none⟩ u0).setCell ⟨g, j * 6 + 1, none⟩ u1).setCell ⟨g, j * 6 + 2, none⟩ u2).setCell ⟨g, j * 6 + 3, none⟩ u3).setCell ⟨g, j * 6 + 4, none⟩ u4).setCell ⟨g, j * 6 + 5, none⟩ u5) v (es.set j [u0, u1, u2, u3, u4, u5]) := by
  have hl := (List.getElem?_eq_some_iff.1 hj).1
  have h0 : GRow e 6 base W v es := ⟨h.own, h.len⟩
  have h1 := h0.set hj (i := 0) (by decide) hv u0
  have h2 := h1.set (j := j) (i := 1) (e := [u0, a1, a2, a3, a4, a5]) (by rw [List.getElem?_set_self hl]; rfl) (by decide) hv u1
  have h3 := h2.set (j := j) (i := 2) (e := [u0, u1, a2, a3, a4, a5]) (by rw [List.getElem?_set_self (by simpa using hl)]; rfl) (by decide) hv u2
  have h4 := h3.set (j := j) (i := 3) (e := [u0, u1, u2, a3, a4, a5]) (by rw [List.getElem?_set_self (by simpa using hl)]; rfl) (by decide) hv u3
  have h5 := h4.set (j := j) (i := 4) (e := [u0, u1, u2, u3, a4, a5]) (by rw [List.getElem?_set_self (by simpa using hl)]; rfl) (by decide) hv u4
  have h6 := h5.set (j := j) (i := 5) (e := [u0, u1, u2, u3, u4, a5]) (by rw [List.getElem?_set_self (by simpa using hl)]; rfl) (by decide) hv u5
  have h7 : GRow e 6 base ((((((W.setCell ⟨g, j * 6, none⟩ u0).setCell ⟨g, j * 6 + 1, none⟩ u1).setCell ⟨g, j * 6 + 2, none⟩ u2).setCell ⟨g, j * 6 + 3, none⟩ u3).setCell ⟨g, j * 6 + 4, none⟩ u4).setCell ⟨g, j * 6 + 5, none⟩ u5) v (es.set j [u0, u1, u2, u3, u4, u5]) := by simpa [List.set_set] using h6
  exact ⟨h7.own, h7.len⟩
theorem fill_oth {w : World} {g o k : Nat} (hk : k ≠ g) (u0 u1 u2 u3 u4 u5 : Value) : ((((((w.setCell ⟨g, o, none⟩ u0).setCell ⟨g, o + 1, none⟩ u1).setCell ⟨g, o + 2, none⟩ u2).setCell ⟨g, o + 3, none⟩ u3).setCell ⟨g, o + 4, none⟩ u4).setCell ⟨g, o + 5, none⟩ u5).heap[k]? = w.heap[k]? :=
  (set_oth _ _ _ hk).trans ((set_oth _ _ _ hk).trans ((set_oth _ _ _ hk).trans ((set_oth _ _ _ hk).trans ((set_oth _ _ _ hk).trans (set_oth _ _ _ hk)))))
theorem fill6_oth {w : World} {g k : Nat} (hk : k ≠ g) (u0 u1 u2 u3 u4 u5 : Value) : ((((((w.setCell ⟨g, 0, none⟩ u0).setCell ⟨g, 1, none⟩ u1).setCell ⟨g, 2, none⟩ u2).setCell ⟨g, 3, none⟩ u3).setCell ⟨g, 4, none⟩ u4).setCell ⟨g, 5, none⟩ u5).heap[k]? = w.heap[k]? :=
  (set_oth _ _ _ hk).trans ((set_oth _ _ _ hk).trans ((set_oth _ _ _ hk).trans ((set_oth _ _ _ hk).trans ((set_oth _ _ _ hk).trans (set_oth _ _ _ hk)))))
theorem below_fillo {B : Nat} {a b : World} (h : Below B a b) {g : Nat} (hg : B ≤ g) (o : Nat) (u0 u1 u2 u3 u4 u5 : Value) : Below B a ((((((b.setCell ⟨g, o, none⟩ u0).setCell ⟨g, o + 1, none⟩ u1).setCell ⟨g, o + 2, none⟩ u2).setCell ⟨g, o + 3, none⟩ u3).setCell ⟨g, o + 4, none⟩ u4).setCell ⟨g, o + 5, none⟩ u5) :=
  (((((h.setCell (p := ⟨g, _, none⟩) hg _).setCell (p := ⟨g, _, none⟩) hg _).setCell (p := ⟨g, _, none⟩) hg _).setCell (p := ⟨g, _, none⟩) hg _).setCell (p := ⟨g, _, none⟩) hg _).setCell (p := ⟨g, _, none⟩) hg _
/-- An element of the row is replaced. -/
theorem Kids.store {m g n cap j : Nat} {w W : World} {v : Value} {rows : List (List Value)} {gs : List Ty} {t t' : Ty} (h : Kids 25 6 GoodT m w v rows gs) (hj : gs[j]? = some t) (hv : v = .slice (some ⟨g, 0, none⟩) n cap) (u4 u5 : Value)
    (hg : GoodT (fun k => Fresh m w.heap.size k ∧ some k ≠ v.ownBlock) w [.int .i64 t'.k, .int .i64 t'.p, .string t'.n, .int .i64 t'.s, u4, u5] t')
    (hW : (((((w.setCell ⟨g, j * 6, none⟩ (.int .i64 t'.k)).setCell ⟨g, j * 6 + 1, none⟩ (.int .i64 t'.p)).setCell ⟨g, j * 6 + 2, none⟩ (.string t'.n)).setCell ⟨g, j * 6 + 3, none⟩ (.int .i64 t'.s)).setCell ⟨g, j * 6 + 4, none⟩ u4).setCell ⟨g, j * 6 + 5, none⟩ u5 = W) :
    Kids 25 6 GoodT m W v (rows.set j [.int .i64 t'.k, .int .i64 t'.p, .string t'.n, .int .i64 t'.s, u4, u5]) (gs.set j t') := by
  have hs : W.heap.size = w.heap.size := by rw [← hW]; simp [World.setCell]
  have hob : ∀ k, some k ≠ v.ownBlock → W.heap[k]? = w.heap[k]? := fun k hk => by
    rw [← hW]; exact fill_oth (fun e => hk (by rw [hv, e]; rfl)) _ _ _ _ _ _
  have hkp : Keeps (fun k => Fresh m w.heap.size k ∧ some k ≠ v.ownBlock) w W := fun k o hk ho _ => (hob k hk.2).trans ho
  obtain ⟨r, hr, la, ln, lc, ka, kn, kc, rfl, _⟩ := h.each j t hj
  have hjl := (List.getElem?_eq_some_iff.1 hj).1
  refine ⟨by rw [← hW]; exact h.row.set6 hr hv _ _ _ _ _ _, by rw [List.length_set, List.length_set]; exact h.len, fun i x hi => ?_⟩
  rw [hs]
  by_cases hij : i = j
  · subst hij
    rw [List.getElem?_set_self hjl] at hi
    obtain rfl := Option.some.inj hi
    exact ⟨_, by rw [List.getElem?_set_self (by rw [h.len]; exact hjl)], goodT.keep hkp hg⟩
  · rw [List.getElem?_set_ne (fun e => hij e.symm)] at hi
    obtain ⟨r', h1, h2⟩ := h.each i x hi
    exact ⟨r', by rw [List.getElem?_set_ne (fun e => hij e.symm)]; exact h1, goodT.keep hkp h2⟩
theorem puts_step (nm : ByteArray) (bt : Ty) {ts : List Ty} {j : Nat} {t : Ty} (h : ts[j]? = some t) : ((ts.take j).map (Ty.put nm bt) ++ ts.drop j).set j (Ty.put nm bt t) = (ts.take (j + 1)).map (Ty.put nm bt) ++ ts.drop (j + 1) := by
  have hj := (List.getElem?_eq_some_iff.1 h).1
  rw [List.set_append_right _ _ (by simp; omega), take_snoc_get h]
  have hd : ts.drop j = t :: ts.drop (j + 1) := by
    rw [List.drop_eq_getElem_cons hj]; rw [(List.getElem?_eq_some_iff.1 h).2]
  have hl : j - ((ts.take j).map (Ty.put nm bt)).length = 0 := by simp; omega
  rw [hl, hd, List.set_cons_zero, List.map_append]
  simp
theorem puts_at (nm : ByteArray) (bt : Ty) {ts : List Ty} {j : Nat} {t : Ty} (h : ts[j]? = some t) : ((ts.take j).map (Ty.put nm bt) ++ ts.drop j)[j]? = some t := by
  have hj := (List.getElem?_eq_some_iff.1 h).1
  rw [List.getElem?_append_right (by simp; omega)]
  have hl : j - ((ts.take j).map (Ty.put nm bt)).length = 0 := by simp; omega
  rw [hl, List.getElem?_drop, Nat.add_zero, h]

set_option maxHeartbeats 8000000 in
set_option maxRecDepth 100000 in
theorem rput_step (B : Nat → Prop) (nm : ByteArray) (bt : Ty) (P : Int) (h0P : 0 ≤ P) (hP : P ≤ 1000000000000000) (hbt : bt.bd P) (k p s : Int) (n : ByteArray) (lv kv byv : Value) (ls : List ByteArray) (ts : List Ty) (hm : (Ty.mk k p n s ls ts).bd P) (hnn : n.size ≤ maxLen) (w : World) (hB : Low B w) (hl : StrSl B w lv ls) (hk : TySl B w kv ts) (hby : TyVal B w byv bt)
    (ih : ∀ t ∈ ts, ∀ (v byv : Value) (w : World), Low B w → TyVal B w v t → TyVal B w byv bt → Calls Tryz.prog 23 #[v, .string nm, byv] w (TyRet w (Ty.put nm bt t))) :
    Calls Tryz.prog 23 #[.agg #[.int .i64 k, .int .i64 p, .string n, .int .i64 s, lv, kv], .string nm, byv] w (TyRet w (Ty.put nm bt (Ty.mk k p n s ls ts))) := by
  have hme : TyVal B w (.agg #[.int .i64 k, .int .i64 p, .string n, .int .i64 s, lv, kv]) (Ty.mk k p n s ls ts) := ⟨lv, kv, rfl, hnn, hl, hk⟩
  have hcan0 : (Ty.mk k p n s ls ts).can 0 := can_bd h0P hP (by decide) _ hm
  have hm' := hm
  simp only [Ty.bd] at hm'
  obtain ⟨_, hsh, hm1, hm2, _⟩ := hm'
  have hcanb : bt.can s := can_bd h0P hP hsh _ hbt
  obtain ⟨l0, len0, cl0, rfl, _, _, _⟩ := hl.open
  obtain ⟨k0, kn0, kc0, rfl, hkl, hkm, _⟩ := hk.open
  obtain ⟨bl, bk, rfl, hbn, hbl, hbk⟩ := hby
  have hby : TyVal B w (.agg #[.int .i64 bt.k, .int .i64 bt.p, .string bt.n, .int .i64 bt.s, bl, bk]) bt := ⟨bl, bk, rfl, hbn, hbl, hbk⟩
  obtain ⟨yk, hyk⟩ : ∃ x, bt.k = x := ⟨_, rfl⟩
  obtain ⟨yp, hyp⟩ : ∃ x, bt.p = x := ⟨_, rfl⟩
  obtain ⟨yn, hyn⟩ : ∃ x, bt.n = x := ⟨_, rfl⟩
  obtain ⟨ys, hys⟩ : ∃ x, bt.s = x := ⟨_, rfl⟩
  rw [hyk, hyp, hyn, hys] at hby ⊢
  clear hyk hyp hyn hys
  obtain ⟨ba, bn, bc, rfl, _, _, _⟩ := hbl.open
  obtain ⟨da, dn, dc, rfl, _, _, _⟩ := hbk.open
  obtain ⟨W3, hW3⟩ : ∃ W3, ((w.alloc (.cells #[.int .i64 k, .int .i64 p, .string n, .int .i64 s, .slice l0 len0 cl0, .slice k0 kn0 kc0] 25)).alloc (.cells #[.int .i64 yk, .int .i64 yp, .string yn, .int .i64 ys, .slice ba bn bc, .slice da dn dc] 25)).alloc (.cells #[.int .i64 0, .int .i64 0, .string ⟨#[]⟩, .int .i64 0, .slice none 0 0, .slice none 0 0] 25) = W3 := ⟨_, rfl⟩
  obtain ⟨hs3, hb3, x0, x1, x2⟩ := three_made hW3
  have HB3 := Lib.hid hb3
  have HS3 := Lib.hid hs3
  have HW3 := Lib.hid hW3
  have HX : Hid (∀ W : World, (∀ i, i < W3.heap.size → W.heap[i]? = W3.heap[i]?) → Six W w.heap.size (.int .i64 k) (.int .i64 p) (.string n) (.int .i64 s) (.slice l0 len0 cl0) (.slice k0 kn0 kc0) ∧ Six W (w.heap.size + 1) (.int .i64 yk) (.int .i64 yp) (.string yn) (.int .i64 ys) (.slice ba bn bc) (.slice da dn dc) ∧ Six W (w.heap.size + 2) (.int .i64 0) (.int .i64 0) (.string ⟨#[]⟩) (.int .i64 0) (.slice none 0 0) (.slice none 0 0)) :=
    Lib.hid (fun W hW => ⟨(hW _ (by omega)).trans x0, (hW _ (by omega)).trans x1, (hW _ (by omega)).trans x2⟩)
  have HLB : Hid (Low B w) := Lib.hid hB
  have HME : Hid (∀ W : World, (∀ i, i < w.heap.size → W.heap[i]? = w.heap[i]?) → TyVal B W (.agg #[.int .i64 k, .int .i64 p, .string n, .int .i64 s, .slice l0 len0 cl0, .slice k0 kn0 kc0]) (Ty.mk k p n s ls ts) ∧ TyVal B W (.agg #[.int .i64 yk, .int .i64 yp, .string yn, .int .i64 ys, .slice ba bn bc, .slice da dn dc]) bt ∧ TySl B W (.slice k0 kn0 kc0) ts) :=
    Lib.hid (fun W hW => by
      have hkp : Keeps B w W := fun i o hi ho _ => (hW i (hB i hi)).trans ho
      exact ⟨hme.keep hkp, hby.keep hkp, hk.keep hkp⟩)
  have HRA : Hid (Calls Tryz.prog 15 #[.agg #[.int .i64 yk, .int .i64 yp, .string yn, .int .i64 ys, .slice ba bn bc, .slice da dn dc], .int .i64 s] W3 (TyRet W3 (bt.raise s))) := Lib.hid (rraise_any B s bt hcanb _ W3 (hB.le hb3.size) (hby.to hB hb3))
  have HRK : Hid (Calls Tryz.prog 15 #[.agg #[.int .i64 k, .int .i64 p, .string n, .int .i64 s, .slice l0 len0 cl0, .slice k0 kn0 kc0], .int .i64 0] W3 (TyRetK W3 (Ty.mk k p n s ls ts))) := Lib.hid (by
    have h := rraiseK_any B 0 (Ty.mk k p n s ls ts) hcan0 _ W3 (hB.le hb3.size) (hme.to hB hb3)
    rwa [Ty.raise_0] at h)
  have HIH := Lib.hid ih
  have HKL := Lib.hid hkl.out
  have hkn1 : kn0 ≤ 1000000 := by rw [hkl.out]; exact hm2
  obtain ⟨r, hr⟩ : ∃ r, Ty.put nm bt (Ty.mk k p n s ls ts) = r := ⟨_, rfl⟩
  rw [hr]
  have HR := Lib.hid hr
  obtain ⟨c9, hc9⟩ : ∃ b, (decide (k = 9) && decide (n = nm)) = b := ⟨_, rfl⟩
  obtain ⟨c8, hc8⟩ : ∃ b, (decide (k = 8) && decide (n = nm)) = b := ⟨_, rfl⟩
  have HC9 := Lib.hid hc9
  have HC8 := Lib.hid hc8
  clear hme hcan0 hm hcanb hl hk hby hbl hbk hW3 hs3 hb3 x0 x1 x2 ih hB hr hbt hkl hkm hsh hbn hc9 hc8
  have HNN := Lib.hid hnn
  clear hnn
  go_enter Tryz.func23, Tryz.ntmps23
  go_upto_region 1 with fail
  rw [show ((w.alloc (.cells #[.int .i64 k, .int .i64 p, .string n, .int .i64 s, .slice l0 len0 cl0, .slice k0 kn0 kc0] 25)).alloc (.cells #[.int .i64 yk, .int .i64 yp, .string yn, .int .i64 ys, .slice ba bn bc, .slice da dn dc] 25)).alloc (.cells #[.int .i64 0, .int .i64 0, .string ⟨#[]⟩, .int .i64 0, .slice none 0 0, .slice none 0 0] 25) = W3 from HW3.out]
  go_cut [17] from 18 (fun b wr => b = .bool c9 ∧ W3 = wr)
  case first =>
    obtain ⟨⟨d0, d1, d2, d3, d4, d5⟩, _⟩ := (HX.out W3 (fun _ _ => rfl)).1.cells
    by_cases h9 : k = 9
    · subst h9
      by_cases hn : n = nm
      · have e : c9 = true := by rw [← HC9.out]; simp [hn]
        subst hn e
        go_wp2_with fail
        go_meet
        case rel => exact ⟨rfl, rfl⟩
      · have e : c9 = false := by rw [← HC9.out]; simp [hn]
        have h1 := str_ne hn
        have h2 : (n.toList == nm.toList) = false := by simpa using h1
        subst e
        clear hn
        go_wp2_with fail
        go_meet
        case rel => exact ⟨rfl, rfl⟩
    · have e : c9 = false := by rw [← HC9.out]; simp [h9]
      have h1 : (k == 9) = false := by simpa using h9
      subst e
      clear h9
      go_wp2_with fail
      go_meet
      case rel => exact ⟨rfl, rfl⟩
  case rest =>
    obtain ⟨rfl, rfl⟩ := hcut
    cases c9 with
    | true =>
      have HRR : Hid (r = bt.raise s) := Lib.hid (by
        have h := HC9.out
        simp only [Bool.and_eq_true, decide_eq_true_eq] at h
        rw [← HR.out, Ty.put, putC, if_pos h])
      rw [← HRR.out] at HRA
      clear HRK
      obtain ⟨⟨d0, d1, d2, d3, d4, d5⟩, _⟩ := (HX.out W3 (fun _ _ => rfl)).1.cells
      obtain ⟨⟨e0, e1, e2, e3, e4, e5⟩, _⟩ := (HX.out W3 (fun _ _ => rfl)).2.1.cells
      go_wp2_with (go_at_call 15; go_loud (refine HRA.out.mono ?_; rintro en w4 ⟨pa, pn, pc, qa, qn, qc, rfl, hv4, hb4⟩; have HV4 := Lib.hid hv4; have HB4 := Lib.hid hb4; obtain ⟨⟨z0, z1, z2, z3, z4, z5⟩, hzf⟩ := (HX.out w4 (fun i hi => HB4.out.block i hi)).2.2.cells; clear hv4 hb4))
      clear z0 z1 z2 z3 z4 z5 hzf d0 d1 d2 d3 d4 d5 e0 e1 e2 e3 e4 e5
      obtain ⟨⟨c0, c1, c2, c3, c4, c5⟩, _⟩ := (Six.fill (HX.out w4 (fun i hi => HB4.out.block i hi)).2.2 (.int .i64 r.k) (.int .i64 r.p) (.string r.n) (.int .i64 r.s) (.slice pa pn pc) (.slice qa qn qc)).cells
      obtain ⟨hv5, hb5⟩ := ret_fill (c := w.heap.size + 2) HB3.out (by omega) (by have := HS3.out; omega) HB4.out HV4.out (.int .i64 r.k) (.int .i64 r.p) (.string r.n) (.int .i64 r.s) (.slice pa pn pc) (.slice qa qn qc)
      refine bodyPost_ret (v := .agg #[.int .i64 r.k, .int .i64 r.p, .string r.n, .int .i64 r.s, .slice pa pn pc, .slice qa qn qc]) (by simp [results, Tryz.results23, go_sem, c0, c1, c2, c3, c4, c5]) rfl ?_
      exact ⟨pa, pn, pc, qa, qn, qc, rfl, hv5, hb5⟩
    | false =>
      clear HRA
      go_upto_region 3 with fail
      obtain ⟨⟨d0, d1, d2, d3, d4, d5⟩, _⟩ := (HX.out W3 (fun _ _ => rfl)).1.cells
      go_upto_region 4 with (go_at_call 15; go_loud (refine HRK.out.mono ?_; rintro en w4 ⟨pa, pn, pc, va, vn, vc, m, rows0, rfl, _, hm1, hm2, hst, hkd, hb4⟩; dsimp only [Ty.k, Ty.p, Ty.n, Ty.s, Ty.ls, Ty.ts] at hst hkd ⊢; have HST := Lib.hid hst; have HKD := Lib.hid hkd; have HB4 := Lib.hid hb4; clear hst hkd hb4))
      obtain ⟨W5, hW5⟩ : ∃ W5, w4.alloc (.cells #[.int .i64 k, .int .i64 p, .string n, .int .i64 s, .slice pa pn pc, .slice va vn vc] 25) = W5 := ⟨_, rfl⟩
      have hb5 : Below w4.heap.size w4 W5 := by rw [← hW5]; exact blkBelow w4 _ _
      have hs5 : W5.heap.size = w4.heap.size + 1 := by rw [← hW5]; simp
      have hx5 : Six W5 w4.heap.size (.int .i64 k) (.int .i64 p) (.string n) (.int .i64 s) (.slice pa pn pc) (.slice va vn vc) := by rw [← hW5]; exact Six.new _ _ _ _ _ _ _
      rw [hW5]
      have HX5 := Lib.hid hx5
      have HB5 := Lib.hid hb5
      have HB35 := Lib.hid (below_seq HB4.out hb5)
      have HKD5 := Lib.hid (HKD.out.to goodT hb5)
      have HG4 : Hid (∀ k, (Value.slice va vn vc).ownBlock = some k → k < w4.heap.size) := Lib.hid (fun k hk => (HKD.out.row.lt k hk).2)
      have HST5 := Lib.hid (HST.out.keep (hb5.keeps'.mono (fun k hk => Nat.lt_of_lt_of_le hk.2 hm2)))
      have h34 := HB4.out.size
      clear d0 d1 d2 d3 d4 d5 hx5 hb5 hW5 HRK HKD HST
      go_cut [32] from 33 (fun b wr => b = .bool c8 ∧ W5 = wr)
      case first =>
        obtain ⟨⟨d0, d1, d2, d3, d4, d5⟩, _⟩ := (HX.out W5 (fun i hi => HB35.out.block i hi)).1.cells
        by_cases h8 : k = 8
        · subst h8
          by_cases hn : n = nm
          · have e : c8 = true := by rw [← HC8.out]; simp [hn]
            subst hn e
            go_wp2_with fail
            go_meet
            case rel => exact ⟨rfl, rfl⟩
          · have e : c8 = false := by rw [← HC8.out]; simp [hn]
            have h1 := str_ne hn
            have h2 : (n.toList == nm.toList) = false := by simpa using h1
            subst e
            clear hn
            go_wp2_with fail
            go_meet
            case rel => exact ⟨rfl, rfl⟩
        · have e : c8 = false := by rw [← HC8.out]; simp [h8]
          have h1 : (k == 8) = false := by simpa using h8
          subst e
          clear h8
          go_wp2_with fail
          go_meet
          case rel => exact ⟨rfl, rfl⟩
      case rest =>
        obtain ⟨rfl, rfl⟩ := hcut
        cases c8 with
        | true =>
          have HRR : Hid (r = .mk k p n s ls ts) := Lib.hid (by
            have h := HC8.out
            have h9 := HC9.out
            simp only [Bool.and_eq_true, decide_eq_true_eq] at h
            rw [← HR.out, Ty.put, putC, if_neg (fun e => absurd (e.1.symm.trans h.1) (by decide)), if_pos h])
          have HV5 : Hid (TyVal (Fresh W3.heap.size W5.heap.size) W5 (.agg #[.int .i64 k, .int .i64 p, .string n, .int .i64 s, .slice pa pn pc, .slice va vn vc]) r) := Lib.hid (by
            rw [HRR.out]
            exact ⟨_, _, rfl, HNN.out, HST5.out.mono (Fresh.mono (Nat.le_refl _) (by omega)), (HKD5.out.tys (by show ts.length ≤ maxLen; unfold maxLen; rw [← HKL.out]; omega)).mono (Fresh.mono hm1 (Nat.le_refl _))⟩)
          obtain ⟨⟨d0, d1, d2, d3, d4, d5⟩, _⟩ := HX5.out.cells
          obtain ⟨⟨z0, z1, z2, z3, z4, z5⟩, hzf⟩ := (HX.out W5 (fun i hi => HB35.out.block i hi)).2.2.cells
          go_wp2_with fail
          clear z0 z1 z2 z3 z4 z5 hzf d0 d1 d2 d3 d4 d5
          obtain ⟨⟨c0, c1, c2, c3, c4, c5⟩, _⟩ := (Six.fill (HX.out W5 (fun i hi => HB35.out.block i hi)).2.2 (.int .i64 k) (.int .i64 p) (.string n) (.int .i64 s) (.slice pa pn pc) (.slice va vn vc)).cells
          obtain ⟨hv6, hb6⟩ := ret_fill (c := w.heap.size + 2) HB3.out (by omega) (by have := HS3.out; omega) HB35.out HV5.out (.int .i64 k) (.int .i64 p) (.string n) (.int .i64 s) (.slice pa pn pc) (.slice va vn vc)
          refine bodyPost_ret (v := .agg #[.int .i64 k, .int .i64 p, .string n, .int .i64 s, .slice pa pn pc, .slice va vn vc]) (by simp [results, Tryz.results23, go_sem, c0, c1, c2, c3, c4, c5]) rfl ?_
          rw [HRR.out] at hv6 ⊢
          exact ⟨pa, pn, pc, va, vn, vc, rfl, hv6, hb6⟩
        | false =>
          have HRR : Hid (r = .mk k p n s ls (Ty.puts nm bt ts)) := Lib.hid (by
            have h := HC8.out
            have h9 := HC9.out
            rw [← HR.out, Ty.put, putC, if_neg (fun e => by simp [e.1, e.2] at h9), if_neg (fun e => by simp [e.1, e.2] at h)])
          have hW3W : W3.heap.size = w.heap.size + 3 := HS3.out
          go_wp2_with fail
          go_loopw [8] (fun i wr => ∃ (j : Nat) (rows : List (List Value)), i = .int .i64 (j : Int) ∧ j ≤ kn0 ∧ Hid (Below W3.heap.size W3 wr) ∧ Hid (Six wr w4.heap.size (.int .i64 k) (.int .i64 p) (.string n) (.int .i64 s) (.slice pa pn pc) (.slice va vn vc)) ∧ Hid (StrSl (Fresh W3.heap.size m) wr (.slice pa pn pc) ls) ∧ Hid (Kids 25 6 GoodT m wr (.slice va vn vc) rows ((ts.take j).map (Ty.put nm bt) ++ ts.drop j)) ∧ W5.heap.size ≤ wr.heap.size) (fun i _ => kn0 - (intOf i).toNat)
          case atStart => exact ⟨0, rows0, rfl, by omega, HB35, HX5, HST5, Lib.hid (by simpa using HKD5.out), Nat.le_refl _⟩
          case round =>
            clear HX5 HKD5 HST5 HB35
            obtain ⟨j, rows, rfl, hj, HB, HX5, HST5, HKD, hszr⟩ := hrel
            obtain ⟨⟨d0, d1, d2, d3, d4, d5⟩, _⟩ := (HX.out wr (fun i hi => HB.out.block i hi)).1.cells
            by_cases hlt : j < kn0
            · obtain ⟨t, htq⟩ : ∃ t, ts[j]? = some t := ⟨_, List.getElem?_eq_getElem (by rw [← HKL.out]; exact hlt)⟩
              obtain ⟨_, hbyw, hksl⟩ := HME.out wr (fun i hi => (HB.out.block i (by omega)).trans (HB3.out.block i hi))
              obtain ⟨kb, ko, hk0, hkb, hty⟩ : ∃ kb ko, k0 = some ⟨kb, ko, none⟩ ∧ B kb ∧ TyAt B wr t kb (ko + j * 6) := by
                obtain ⟨pa, len, c, e, _, _, hget⟩ := hksl.open
                injection e with e1 e2 e3
                obtain ⟨kb, ko, h1, h2, h3⟩ := hget j t htq
                exact ⟨kb, ko, by rw [e1]; exact h1, h2, h3⟩
              subst hk0
              obtain ⟨la1, ln1, lc1, ka1, kn1, kc1, ⟨e0, e1, e2, e3, e4, e5⟩, hval⟩ := hty.load'
              have hkbw : kb < w.heap.size := HLB.out kb hkb
              have hLr : Low B wr := HLB.out.le (by omega)
              have HC : Hid (∀ W, Below wr.heap.size wr W → Calls Tryz.prog 23 #[.agg #[.int .i64 t.k, .int .i64 t.p, .string t.n, .int .i64 t.s, .slice la1 ln1 lc1, .slice ka1 kn1 kc1], .string nm, .agg #[.int .i64 yk, .int .i64 yp, .string yn, .int .i64 ys, .slice ba bn bc, .slice da dn dc]] W (TyRet W (Ty.put nm bt t))) := Lib.hid (fun W hW => HIH.out t (List.mem_of_getElem? htq) _ _ W (hLr.le hW.size) (hval.to hLr hW) (hbyw.to hLr hW))
              obtain ⟨g, cap, hva, hgm, hgl⟩ : ∃ g cap, (Value.slice va vn vc) = .slice (some ⟨g, 0, none⟩) kn0 cap ∧ m ≤ g ∧ g < wr.heap.size := by
                have hlen := HKD.out.len
                simp only [List.length_append, List.length_map, List.length_take, List.length_drop] at hlen
                have hk := HKL.out
                rcases HKD.out.row.parts with ⟨_, h0⟩ | ⟨g, c, h1, h2, h3, _⟩
                · rw [h0] at hlen; simp at hlen; omega
                · exact ⟨g, c, by rw [h1, show rows.length = kn0 by omega], h2, h3⟩
              simp only [Value.slice.injEq] at hva
              obtain ⟨hva1, hva2, hva3⟩ := hva
              obtain rfl := hva1
              obtain rfl := hva2.symm
              obtain rfl := hva3.symm
              have hgx : g ≠ w4.heap.size := fun e => by have := HG4.out g rfl; omega
              have HTQ := Lib.hid htq
              have HSS : Hid (∀ W : World, (∀ i, i ≠ g → i < wr.heap.size → W.heap[i]? = wr.heap[i]?) → W.cell? ⟨w4.heap.size, 5, none⟩ = some (.slice (some ⟨g, 0, none⟩) kn0 cap) ∧ W.cell? ⟨w.heap.size, 5, none⟩ = some (.slice (some ⟨kb, ko, none⟩) kn0 kc0) ∧ W.cell? ⟨kb, ko + j * 6, none⟩ = some (.int .i64 t.k) ∧ W.cell? ⟨kb, ko + j * 6 + 1, none⟩ = some (.int .i64 t.p) ∧ W.cell? ⟨kb, ko + j * 6 + 2, none⟩ = some (.string t.n) ∧ W.cell? ⟨kb, ko + j * 6 + 3, none⟩ = some (.int .i64 t.s) ∧ W.cell? ⟨kb, ko + j * 6 + 4, none⟩ = some (.slice la1 ln1 lc1) ∧ W.cell? ⟨kb, ko + j * 6 + 5, none⟩ = some (.slice ka1 kn1 kc1) ∧ W.cell? ⟨w.heap.size + 1, 0, none⟩ = some (.int .i64 yk) ∧ W.cell? ⟨w.heap.size + 1, 1, none⟩ = some (.int .i64 yp) ∧ W.cell? ⟨w.heap.size + 1, 2, none⟩ = some (.string yn) ∧ W.cell? ⟨w.heap.size + 1, 3, none⟩ = some (.int .i64 ys) ∧ W.cell? ⟨w.heap.size + 1, 4, none⟩ = some (.slice ba bn bc) ∧ W.cell? ⟨w.heap.size + 1, 5, none⟩ = some (.slice da dn dc)) := Lib.hid (fun W hW => by
                have hc : ∀ b i, b ≠ g → b < wr.heap.size → W.cell? ⟨b, i, none⟩ = wr.cell? ⟨b, i, none⟩ := fun b i h1 h2 => by simp only [World.cell?, hW b h1 h2]
                obtain ⟨⟨_, _, _, _, _, f5⟩, _⟩ := HX5.out.cells
                obtain ⟨⟨g0, g1, g2, g3, g4, g5⟩, _⟩ := (HX.out wr (fun i hi => HB.out.block i hi)).2.1.cells
                have hkg : kb ≠ g := by omega
                have hkl : kb < wr.heap.size := by omega
                have hwg : w.heap.size + 1 ≠ g := by omega
                have hwl : w.heap.size + 1 < wr.heap.size := by omega
                exact ⟨(hc _ _ (fun e => hgx e.symm) (by omega)).trans f5, (hc _ _ (by omega) (by omega)).trans d5, (hc _ _ hkg hkl).trans e0, (hc _ _ hkg hkl).trans e1, (hc _ _ hkg hkl).trans e2, (hc _ _ hkg hkl).trans e3, (hc _ _ hkg hkl).trans e4, (hc _ _ hkg hkl).trans e5, (hc _ _ hwg hwl).trans g0, (hc _ _ hwg hwl).trans g1, (hc _ _ hwg hwl).trans g2, (hc _ _ hwg hwl).trans g3, (hc _ _ hwg hwl).trans g4, (hc _ _ hwg hwl).trans g5⟩)
              clear htq hbyw hksl hty hval hkbw hLr hkb e0 e1 e2 e3 e4 e5
              go_upto_region 9 with fail
              refine wp_region_held_drew (S := fun W => W.cell? ⟨w4.heap.size, 5, none⟩ = some (.slice (some ⟨g, 0, none⟩) kn0 cap) ∧ W.cell? ⟨w.heap.size, 5, none⟩ = some (.slice (some ⟨kb, ko, none⟩) kn0 kc0) ∧ W.cell? ⟨kb, ko + j * 6, none⟩ = some (.int .i64 t.k) ∧ W.cell? ⟨kb, ko + j * 6 + 1, none⟩ = some (.int .i64 t.p) ∧ W.cell? ⟨kb, ko + j * 6 + 2, none⟩ = some (.string t.n) ∧ W.cell? ⟨kb, ko + j * 6 + 3, none⟩ = some (.int .i64 t.s) ∧ W.cell? ⟨kb, ko + j * 6 + 4, none⟩ = some (.slice la1 ln1 lc1) ∧ W.cell? ⟨kb, ko + j * 6 + 5, none⟩ = some (.slice ka1 kn1 kc1) ∧ W.cell? ⟨w.heap.size + 1, 0, none⟩ = some (.int .i64 yk) ∧ W.cell? ⟨w.heap.size + 1, 1, none⟩ = some (.int .i64 yp) ∧ W.cell? ⟨w.heap.size + 1, 2, none⟩ = some (.string yn) ∧ W.cell? ⟨w.heap.size + 1, 3, none⟩ = some (.int .i64 ys) ∧ W.cell? ⟨w.heap.size + 1, 4, none⟩ = some (.slice ba bn bc) ∧ W.cell? ⟨w.heap.size + 1, 5, none⟩ = some (.slice da dn dc)) (by kernel_rfl) (HSS.out wr (fun _ _ _ => rfl)) (fun hHeld => ?_)
              refine wpAnyH_take_l 0 (v := ?v0) rfl rfl (by kernel_rfl) (by kernel_rfl) (by kernel_rfl) (fun _ _ _ h => h) ?h0 (by assumption) ?r0
              case h0 => (intro w hSw; (try dsimp only at hSw); go_simp; try rfl)
              case' r0 => simp only [setD, List.set_cons_succ, List.set_cons_zero]
              refine wpAnyH_take_l 1 (v := ?v1) rfl rfl (by kernel_rfl) (by kernel_rfl) (by kernel_rfl) (fun _ _ _ h => h) ?h1 (by assumption) ?r1
              case h1 => (intro w hSw; (try dsimp only at hSw); go_simp; try rfl)
              case' r1 => simp only [setD, List.set_cons_succ, List.set_cons_zero]
              refine wpAnyH_take_l 2 (v := ?v2) rfl rfl (by kernel_rfl) (by kernel_rfl) (by kernel_rfl) (fun _ _ _ h => h) ?h2 (by assumption) ?r2
              case h2 => (intro w hSw; (try dsimp only at hSw); go_simp; try rfl)
              case' r2 => simp only [setD, List.set_cons_succ, List.set_cons_zero]
              refine wpAnyH_take_l 3 (v := ?v3) rfl rfl (by kernel_rfl) (by kernel_rfl) (by kernel_rfl) (fun _ _ _ h => h) ?h3 (by assumption) ?r3
              case h3 => (intro w hSw; (try dsimp only at hSw); go_simp; try rfl)
              case' r3 => simp only [setD, List.set_cons_succ, List.set_cons_zero]
              refine wpAnyH_take_l 4 (v := ?v4) rfl rfl (by kernel_rfl) (by kernel_rfl) (by kernel_rfl) (fun _ _ _ h => h) ?h4 (by assumption) ?r4
              case h4 => (intro w hSw; (try dsimp only at hSw); go_simp; try rfl)
              case' r4 => simp only [setD, List.set_cons_succ, List.set_cons_zero]
              refine wpAnyH_take_l 5 (v := ?v5) rfl rfl (by kernel_rfl) (by kernel_rfl) (by kernel_rfl) (fun _ _ _ h => h) ?h5 (by assumption) ?r5
              case h5 => (intro w hSw; (try dsimp only at hSw); go_simp; try rfl)
              case' r5 => simp only [setD, List.set_cons_succ, List.set_cons_zero]
              refine wpAnyH_take_l 6 (v := ?v6) rfl rfl (by kernel_rfl) (by kernel_rfl) (by kernel_rfl) (fun _ _ _ h => h) ?h6 (by assumption) ?r6
              case h6 => (intro w hSw; (try dsimp only at hSw); go_simp; try rfl)
              case' r6 => simp only [setD, List.set_cons_succ, List.set_cons_zero]
              refine wpAnyH_take_l 7 (v := ?v7) rfl rfl (by kernel_rfl) (by kernel_rfl) (by kernel_rfl) (fun _ _ _ h => h) ?h7 (by assumption) ?r7
              case h7 => (intro w hSw; (try dsimp only at hSw); go_simp; try rfl)
              case' r7 => simp only [setD, List.set_cons_succ, List.set_cons_zero]
              refine wpAnyH_take_l 8 (v := ?v8) rfl rfl (by kernel_rfl) (by kernel_rfl) (by kernel_rfl) (fun _ _ _ h => h) ?h8 (by assumption) ?r8
              case h8 => (intro w hSw; (try dsimp only at hSw); go_simp; try rfl)
              case' r8 => simp only [setD, List.set_cons_succ, List.set_cons_zero]
              refine wpAnyH_take_l 9 (v := ?v9) rfl rfl (by kernel_rfl) (by kernel_rfl) (by kernel_rfl) (fun _ _ _ h => h) ?h9 (by assumption) ?r9
              case h9 => (intro w hSw; (try dsimp only at hSw); go_simp; try rfl)
              case' r9 => simp only [setD, List.set_cons_succ, List.set_cons_zero]
              clear d0 d1 d2 d3 d4 d5
              refine wpAnyH_one 10 rfl rfl (by kernel_rfl) (fun K hK => ?_)
              have hK2 := hK.out
              clear hK
              simp only [setD, List.set_cons_succ, List.set_cons_zero] at hK2 ⊢
              go_simp
              refine (HC.out _ (Below.refl _ _).drew).mono ?_
              rintro en w6 ⟨xa, xn, xc, ua, un, uc, rfl, hv6, hb6⟩
              dsimp only
              have hb6r : Below wr.heap.size wr w6 := below_seq (Below.refl _ _).drew hb6
              have HB6 := Lib.hid hb6r
              have HV6 := Lib.hid hv6
              have HKD6 := Lib.hid (HKD.out.to goodT hb6r)
              obtain ⟨t', ht'⟩ : ∃ t', Ty.put nm bt t = t' := ⟨_, rfl⟩
              rw [ht'] at HV6 ⊢
              have HT' := Lib.hid ht'
              refine hK2 _ _ (HSS.out w6 (fun i _ hi => hb6r.block i hi)) (fun _ => ?_)
              clear hK2 K hb6 hv6 hb6r ht'
              have hjr := puts_at nm bt HTQ.out
              have HJR := Lib.hid hjr
              obtain ⟨row, hrow, oa, on, oc, pka, pkn, pkc, rfl, _⟩ := HKD6.out.each j t hjr
              have hG : GRow 25 6 m w6 (.slice (some ⟨g, 0, none⟩) kn0 cap) rows := ⟨HKD6.out.row.own, HKD6.out.row.len⟩
              have hfz : ∀ i, w6.frozen? ⟨g, i, none⟩ = false := by
                rcases hG.parts with ⟨e5, _⟩ | ⟨g5, c5, e5, _, _, _, h5⟩
                · cases e5
                · simp only [Value.slice.injEq, Option.some.injEq, Addr.mk.injEq, and_true] at e5
                  obtain ⟨rfl, -⟩ := e5
                  exact h5
              have hcell : ∀ i u, [Value.int .i64 t.k, .int .i64 t.p, .string t.n, .int .i64 t.s, .slice oa on oc, .slice pka pkn pkc][i]? = some u → w6.cell? ⟨g, j * 6 + i, none⟩ = some u := fun i u hu => by
                obtain ⟨g5, c5, e5, h5⟩ := hG.cell hrow hu
                simp only [Value.slice.injEq, Option.some.injEq, Addr.mk.injEq, and_true] at e5
                rw [e5.1]
                exact h5
              have q0 := hcell 0 _ rfl
              have q1 := hcell 1 _ rfl
              have q2 := hcell 2 _ rfl
              have q3 := hcell 3 _ rfl
              have q4 := hcell 4 _ rfl
              have q5 := hcell 5 _ rfl
              rw [Nat.add_zero] at q0
              clear hjr hrow hG hcell
              refine wpAnyH_take_l 11 (v := ?v11) rfl rfl (by kernel_rfl) (by kernel_rfl) (by kernel_rfl) (fun _ _ _ h => h) ?h11 (by assumption) ?r11
              case h11 => (intro w hSw; (try dsimp only at hSw); go_simp; try rfl)
              case' r11 => simp only [setD, List.set_cons_succ, List.set_cons_zero]
              refine wpAnyH_one 12 rfl rfl (by kernel_rfl) (fun K hK => ?_)
              have hK2 := hK.out
              clear hK
              simp only [setD] at hK2 ⊢
              go_simp
              clear q0 q1 q2 q3 q4 q5 hfz
              obtain ⟨W7, hW7⟩ : ∃ W7, (((((w6.setCell ⟨g, j * 6, none⟩ (.int .i64 t'.k)).setCell ⟨g, j * 6 + 1, none⟩ (.int .i64 t'.p)).setCell ⟨g, j * 6 + 2, none⟩ (.string t'.n)).setCell ⟨g, j * 6 + 3, none⟩ (.int .i64 t'.s)).setCell ⟨g, j * 6 + 4, none⟩ (.slice xa xn xc)).setCell ⟨g, j * 6 + 5, none⟩ (.slice ua un uc) = W7 := ⟨_, rfl⟩
              have hoth : ∀ k, k ≠ g → W7.heap[k]? = w6.heap[k]? := fun k hk => by rw [← hW7]; exact fill_oth hk _ _ _ _ _ _
              have hsz7 : W7.heap.size = w6.heap.size := by rw [← hW7]; simp [World.setCell]
              have h6z := HB6.out.size
              have HBN : Hid (Below W3.heap.size W3 W7) := Lib.hid (by
                have h := HB.out.trans (HB6.out.mono (by omega))
                rw [← hW7]
                exact below_fillo h (by omega) _ _ _ _ _ _ _)
              have HXN : Hid (Six W7 w4.heap.size (.int .i64 k) (.int .i64 p) (.string n) (.int .i64 s) (.slice pa pn pc) (.slice (some ⟨g, 0, none⟩) kn0 cap)) := Lib.hid ((hoth _ (fun e => hgx e.symm)).trans ((HB6.out.block _ (by omega)).trans HX5.out))
              have HSN : Hid (StrSl (Fresh W3.heap.size m) W7 (.slice pa pn pc) ls) := Lib.hid (HST5.out.keep (fun k o hk ho _ => (hoth k (by have := hk.2; omega)).trans ((HB6.out.block k (by have := hk.2; omega)).trans ho)))
              have HKN := Lib.hid (HKD6.out.store HJR.out rfl (.slice xa xn xc) (.slice ua un uc) ⟨_, _, _, _, _, _, rfl, HV6.out.mono (fun k hk => ⟨⟨by have := hk.1; simp at this; omega, hk.2⟩, fun e => by have := hk.1; simp at this; have e' : k = g := Option.some.inj e; omega⟩)⟩ hW7)
              rw [← HT'.out, puts_step nm bt HTQ.out, HT'.out] at HKN
              have HZN : Hid (W5.heap.size ≤ W7.heap.size) := Lib.hid (by omega)
              rw [hW7]
              refine hK2 undef W7 (HSS.out W7 (fun i hi hl => (hoth i hi).trans (HB6.out.block i hl))) (fun _ => ?_)
              clear hK2 K hW7 hoth hsz7 h6z
              refine wpAnyH_done (by kernel_rfl) ?_ _
              clear hHeld
              go_wp2_with fail
              go_roundw
              case rel => exact ⟨j + 1, _, by go_num, by omega, HBN, HXN, HSN, HKN, by have := HZN.out; omega⟩
              case measure => simp [intOf]; omega
            · obtain rfl : j = kn0 := by omega
              have HV5 : Hid (TyVal (Fresh W3.heap.size wr.heap.size) wr (.agg #[.int .i64 k, .int .i64 p, .string n, .int .i64 s, .slice pa pn pc, .slice va vn vc]) r) := Lib.hid (by
                have h := HKD.out
                rw [List.take_of_length_le (by rw [← HKL.out]; exact Nat.le_refl _), List.drop_eq_nil_of_le (by rw [← HKL.out]; exact Nat.le_refl _), List.append_nil, ← Ty.puts_map] at h
                rw [HRR.out]
                exact ⟨_, _, rfl, HNN.out, HST5.out.mono (Fresh.mono (Nat.le_refl _) (by omega)), (h.tys (by show (Ty.puts nm bt ts).length ≤ maxLen; rw [Ty.puts_map, List.length_map]; unfold maxLen; rw [← HKL.out]; omega)).mono (Fresh.mono hm1 (Nat.le_refl _))⟩)
              obtain ⟨⟨x0, x1, x2, x3, x4, x5⟩, _⟩ := HX5.out.cells
              obtain ⟨⟨z0, z1, z2, z3, z4, z5⟩, hzf⟩ := (HX.out wr (fun i hi => HB.out.block i hi)).2.2.cells
              go_wp2_with fail
              clear z0 z1 z2 z3 z4 z5 hzf d0 d1 d2 d3 d4 d5 x0 x1 x2 x3 x4 x5
              obtain ⟨⟨c0, c1, c2, c3, c4, c5⟩, _⟩ := (Six.fill (HX.out wr (fun i hi => HB.out.block i hi)).2.2 (.int .i64 k) (.int .i64 p) (.string n) (.int .i64 s) (.slice pa pn pc) (.slice va vn vc)).cells
              obtain ⟨hv6, hb6⟩ := ret_fill (c := w.heap.size + 2) HB3.out (by omega) (by have := HS3.out; omega) (HB.out.mono (Nat.le_refl _)) HV5.out (.int .i64 k) (.int .i64 p) (.string n) (.int .i64 s) (.slice pa pn pc) (.slice va vn vc)
              refine bodyPost_ret (v := .agg #[.int .i64 k, .int .i64 p, .string n, .int .i64 s, .slice pa pn pc, .slice va vn vc]) (by simp [results, Tryz.results23, go_sem, c0, c1, c2, c3, c4, c5]) rfl ?_
              rw [HRR.out] at hv6 ⊢
              exact ⟨pa, pn, pc, va, vn, vc, rfl, hv6, hb6⟩
theorem rput_any (B : Nat → Prop) (nm : ByteArray) (bt : Ty) (P : Int) (h0 : 0 ≤ P) (hP : P ≤ 1000000000000000) (hbt : bt.bd P) : ∀ t : Ty, t.bd P → ∀ (v byv : Value) (w : World), Low B w → TyVal B w v t → TyVal B w byv bt → Calls Tryz.prog 23 #[v, .string nm, byv] w (TyRet w (Ty.put nm bt t)) := by
  refine Ty.ind ?_
  intro k p n s ls ts ih hm v byv w hB hv hby
  obtain ⟨lv, kv, rfl, hn, hl, hk⟩ := hv
  have hm' := hm
  simp only [Ty.bd] at hm'
  exact rput_step B nm bt P h0 hP hbt k p s n lv kv byv ls ts hm hn w hB hl hk hby (fun t ht => ih t ht (Ty.bds_mem hm'.2.2.2.2 t ht))
end Go.Proofs.YtjmnaibbljakaaaGreatDoor

/- Unfolding by the reference: Unfold, Prio, Lowest. -/
namespace Go.Proofs.YtjmnaibbljakaaaGreatDoor
open Go.RowKit Go.Deep Go.Shelf

set_option maxHeartbeats 4000000 in
set_option maxRecDepth 100000 in
theorem runfold_any (_B : Nat → Prop) : ∀ (f : Nat) (P : Int) (t : Ty), t.rc = f → t.ch = true → 0 ≤ P → P + f * 1000000 ≤ 1000000000000 → t.bd P → ∀ (B : Nat → Prop) (v : Value) (w : World), Low B w → TyVal B w v t → Calls Tryz.prog 9 #[v] w (TyRet w (t.unf f)) := by
  intro f
  induction f with
  | zero =>
    intro P t hf hc h0 hP hbd B v w hB hv
    have h8 : t.k ≠ 8 := by
      obtain ⟨k, p, n, s, ls, ts⟩ := t
      intro h
      rw [show k = 8 from h, Ty.rc, if_pos rfl] at hf
      omega
    have hu : Ty.unf 0 t = t := by rw [Ty.unf]
    rw [hu]
    have hcan : t.can 0 := can_bd h0 (by omega) (by decide) _ hbd
    have hv0 := hv
    obtain ⟨lv, kv, rfl, _, hl, hk⟩ := hv
    obtain ⟨la, ln, lc, rfl, _⟩ := hl.open
    obtain ⟨ka, kn, kc, rfl, _⟩ := hk.open
    obtain ⟨W2, hW2⟩ : ∃ W2, (w.alloc (.cells #[.int .i64 t.k, .int .i64 t.p, .string t.n, .int .i64 t.s, .slice la ln lc, .slice ka kn kc] 25)).alloc (.cells #[.int .i64 0, .int .i64 0, .string ⟨#[]⟩, .int .i64 0, .slice none 0 0, .slice none 0 0] 25) = W2 := ⟨_, rfl⟩
    obtain ⟨hs2, hb2, x0, x1⟩ := two_made hW2
    have HRA : Hid (Calls Tryz.prog 15 #[.agg #[.int .i64 t.k, .int .i64 t.p, .string t.n, .int .i64 t.s, .slice la ln lc, .slice ka kn kc], .int .i64 0] W2 (TyRet W2 t)) := Lib.hid (by
      have h := rraise_any B 0 t hcan _ W2 (hB.le hb2.size) (hv0.to hB hb2)
      rwa [Ty.raise_0] at h)
    have HX1 : Hid (∀ W, Below W2.heap.size W2 W → Six W (w.heap.size + 1) (.int .i64 0) (.int .i64 0) (.string ⟨#[]⟩) (.int .i64 0) (.slice none 0 0) (.slice none 0 0)) := Lib.hid (fun W hW => (hW.block _ (by omega)).trans x1)
    obtain ⟨⟨d0, d1, d2, d3, d4, d5⟩, hdf⟩ := Six.cells (show Six W2 w.heap.size _ _ _ _ _ _ from x0)
    have hk8 : (t.k == 8) = false := by simpa using h8
    have HW2 := Lib.hid hW2
    have HB2 := Lib.hid hb2
    have HS2 := Lib.hid hs2
    clear hf hc h0 hP hbd hB hv0 hl hk hW2 hb2 x0 x1 hs2 hcan hu h8
    go_enter Tryz.func9, Tryz.ntmps9
    go_upto_region 1 with fail
    rw [show (w.alloc (.cells #[.int .i64 t.k, .int .i64 t.p, .string t.n, .int .i64 t.s, .slice la ln lc, .slice ka kn kc] 25)).alloc (.cells #[.int .i64 0, .int .i64 0, .string ⟨#[]⟩, .int .i64 0, .slice none 0 0, .slice none 0 0] 25) = W2 from HW2.out]
    go_upto_region 3 with fail
    go_wp2_with (go_at_call 15; go_loud (refine HRA.out.mono ?_; rintro en w3 ⟨pa, pn, pc, qa, qn, qc, rfl, hv3, hb3⟩; have HV3 := Lib.hid hv3; have HB3 := Lib.hid hb3; obtain ⟨⟨z0, z1, z2, z3, z4, z5⟩, hzf⟩ := (HX1.out w3 hb3).cells; clear hv3 hb3))
    clear z0 z1 z2 z3 z4 z5 hzf d0 d1 d2 d3 d4 d5 hdf
    obtain ⟨⟨c0, c1, c2, c3, c4, c5⟩, hcf⟩ := (Six.fill (HX1.out w3 HB3.out) (.int .i64 t.k) (.int .i64 t.p) (.string t.n) (.int .i64 t.s) (.slice pa pn pc) (.slice qa qn qc)).cells
    obtain ⟨hv4, hb4⟩ := ret_fill (c := w.heap.size + 1) HB2.out (Nat.le_succ _) (by have := HS2.out; omega) HB3.out HV3.out (.int .i64 t.k) (.int .i64 t.p) (.string t.n) (.int .i64 t.s) (.slice pa pn pc) (.slice qa qn qc)
    refine bodyPost_ret (v := .agg #[.int .i64 t.k, .int .i64 t.p, .string t.n, .int .i64 t.s, .slice pa pn pc, .slice qa qn qc]) (by simp [results, Tryz.results9, go_sem, c0, c1, c2, c3, c4, c5]) rfl ?_
    exact ⟨pa, pn, pc, qa, qn, qc, rfl, hv4, hb4⟩
  | succ f ihf =>
    intro P t hf hc h0 hP hbd B v w hB hv
    have h8 : t.k = 8 := by
      obtain ⟨k, p, n, s, ls, ts⟩ := t
      refine Classical.byContradiction fun h => ?_
      rw [Ty.rc, if_neg (show ¬ k = 8 from h)] at hf
      omega
    obtain ⟨b, hts, hbc, hun, hrc⟩ : ∃ b, t.ts = [b] ∧ b.ch = true ∧ t.unf (f + 1) = (Ty.put t.n t b).unf f ∧ b.rc = f := by
      obtain ⟨k, p, n, s, ls, ts⟩ := t
      obtain rfl : k = 8 := h8
      obtain ⟨b, rfl, hb⟩ := ch_8 hc
      rw [Ty.rc, if_pos rfl, Ty.rc1] at hf
      exact ⟨b, rfl, hb, by rw [Ty.unf, if_pos rfl]; rfl, by omega⟩
    have hbb : b.bd P := by
      obtain ⟨k, p, n, s, ls, ts⟩ := t
      obtain rfl : ts = [b] := hts
      simp only [Ty.bd, Ty.bds] at hbd
      exact hbd.2.2.2.2.1
    obtain ⟨_, _, hpr, hpc⟩ := put_hd t.n t b hbc
    rw [hun]
    have hv0 := hv
    obtain ⟨lv, kv, rfl, hnn, hl, hk⟩ := hv
    obtain ⟨la, ln, lc, rfl, _⟩ := hl.open
    obtain ⟨ka, kn, kc, rfl, hkl, _, hkg⟩ := hk.open
    obtain ⟨kb, ko, rfl, hkb, hty⟩ := hkg 0 b (by rw [hts]; rfl)
    have hkn : kn = 1 := by rw [hkl.out, hts]; rfl
    subst hkn
    obtain ⟨W2, hW2⟩ : ∃ W2, (w.alloc (.cells #[.int .i64 t.k, .int .i64 t.p, .string t.n, .int .i64 t.s, .slice la ln lc, .slice (some ⟨kb, ko, none⟩) 1 kc] 25)).alloc (.cells #[.int .i64 0, .int .i64 0, .string ⟨#[]⟩, .int .i64 0, .slice none 0 0, .slice none 0 0] 25) = W2 := ⟨_, rfl⟩
    obtain ⟨hs2, hb2, x0, x1⟩ := two_made hW2
    obtain ⟨ba, bn, bc, da, dn, dc, ⟨e0, e1, e2, e3, e4, e5⟩, hval⟩ := (hty.keep (hb2.keeps'.mono hB)).load'
    simp only [Nat.zero_mul, Nat.add_zero] at e0 e1 e2 e3 e4 e5
    have hkbl := hB kb hkb
    have HPU : Hid (∀ W, Below W2.heap.size W2 W → Calls Tryz.prog 23 #[.agg #[.int .i64 b.k, .int .i64 b.p, .string b.n, .int .i64 b.s, .slice ba bn bc, .slice da dn dc], .string t.n, .agg #[.int .i64 t.k, .int .i64 t.p, .string t.n, .int .i64 t.s, .slice la ln lc, .slice (some ⟨kb, ko, none⟩) 1 kc]] W (TyRet W (Ty.put t.n t b))) := Lib.hid (fun W hW => rput_any B t.n t P h0 (by omega) hbd b hbb _ _ W (hB.le (below_seq hb2 hW).size) (hval.to (hB.le hb2.size) hW) (hv0.to hB (below_seq hb2 hW)))
    obtain ⟨g, hg⟩ : ∃ g, Ty.put t.n t b = g := ⟨_, rfl⟩
    rw [hg] at hpr hpc HPU ⊢
    have hgb : g.bd (P + 1000000) := by rw [← hg]; exact put_bd h0 hbd b hbb
    have HIH : Hid (∀ (B : Nat → Prop) (v : Value) (w : World), Low B w → TyVal B w v g → Calls Tryz.prog 9 #[v] w (TyRet w (g.unf f))) := Lib.hid (fun B v w h1 h2 => ihf (P + 1000000) g (by omega) hpc (by omega) (by omega) hgb B v w h1 h2)
    obtain ⟨u, hu⟩ : ∃ u, g.unf f = u := ⟨_, rfl⟩
    rw [hu] at HIH ⊢
    have HX0 : Hid (∀ W : World, (∀ i, i ≤ w.heap.size → W.heap[i]? = W2.heap[i]?) → Six W w.heap.size (.int .i64 t.k) (.int .i64 t.p) (.string t.n) (.int .i64 t.s) (.slice la ln lc) (.slice (some ⟨kb, ko, none⟩) 1 kc)) := Lib.hid (fun W hW => (hW _ (Nat.le_refl _)).trans x0)
    have HX : Hid (∀ W, Below W2.heap.size W2 W → Six W w.heap.size (.int .i64 t.k) (.int .i64 t.p) (.string t.n) (.int .i64 t.s) (.slice la ln lc) (.slice (some ⟨kb, ko, none⟩) 1 kc) ∧ Six W (w.heap.size + 1) (.int .i64 0) (.int .i64 0) (.string ⟨#[]⟩) (.int .i64 0) (.slice none 0 0) (.slice none 0 0)) := Lib.hid (fun W hW => ⟨(hW.block _ (by omega)).trans x0, (hW.block _ (by omega)).trans x1⟩)
    have HEC : Hid (∀ W : World, (∀ i, i ≤ w.heap.size → W.heap[i]? = W2.heap[i]?) → W.cell? ⟨kb, ko, none⟩ = some (.int .i64 b.k) ∧ W.cell? ⟨kb, ko + 1, none⟩ = some (.int .i64 b.p) ∧ W.cell? ⟨kb, ko + 2, none⟩ = some (.string b.n) ∧ W.cell? ⟨kb, ko + 3, none⟩ = some (.int .i64 b.s) ∧ W.cell? ⟨kb, ko + 4, none⟩ = some (.slice ba bn bc) ∧ W.cell? ⟨kb, ko + 5, none⟩ = some (.slice da dn dc)) := Lib.hid (fun W hW => by
      have hc : ∀ i, W.cell? ⟨kb, i, none⟩ = W2.cell? ⟨kb, i, none⟩ := fun i => by simp only [World.cell?, hW kb (by omega)]
      exact ⟨(hc _).trans e0, (hc _).trans e1, (hc _).trans e2, (hc _).trans e3, (hc _).trans e4, (hc _).trans e5⟩)
    have hk8 : (t.k == 8) = true := by simpa using h8
    have HW2 := Lib.hid hW2
    have HB2 := Lib.hid hb2
    have HS2 := Lib.hid hs2
    obtain ⟨⟨d0, d1, d2, d3, d4, d5⟩, hdf⟩ := (HX.out W2 (Below.refl _ _)).1.cells
    clear hf hc h0 hP hbd hB hv0 hl hk hkl hkg hW2 hb2 x0 x1 hs2 hts hbc hun hrc hbb hpr hpc hg hgb hu hty hval hkb hkbl e0 e1 e2 e3 e4 e5 ihf h8 hnn
    go_enter Tryz.func9, Tryz.ntmps9
    go_upto_region 1 with fail
    rw [show (w.alloc (.cells #[.int .i64 t.k, .int .i64 t.p, .string t.n, .int .i64 t.s, .slice la ln lc, .slice (some ⟨kb, ko, none⟩) 1 kc] 25)).alloc (.cells #[.int .i64 0, .int .i64 0, .string ⟨#[]⟩, .int .i64 0, .slice none 0 0, .slice none 0 0] 25) = W2 from HW2.out]
    go_upto_region 2 with fail
    have HSS : Hid (∀ W : World, (∀ i, i ≤ w.heap.size → W.heap[i]? = W2.heap[i]?) → W.cell? ⟨w.heap.size, 0, none⟩ = some (.int .i64 t.k) ∧ W.cell? ⟨w.heap.size, 1, none⟩ = some (.int .i64 t.p) ∧ W.cell? ⟨w.heap.size, 2, none⟩ = some (.string t.n) ∧ W.cell? ⟨w.heap.size, 3, none⟩ = some (.int .i64 t.s) ∧ W.cell? ⟨w.heap.size, 4, none⟩ = some (.slice la ln lc) ∧ W.cell? ⟨w.heap.size, 5, none⟩ = some (.slice (some ⟨kb, ko, none⟩) 1 kc) ∧ W.cell? ⟨kb, ko, none⟩ = some (.int .i64 b.k) ∧ W.cell? ⟨kb, ko + 1, none⟩ = some (.int .i64 b.p) ∧ W.cell? ⟨kb, ko + 2, none⟩ = some (.string b.n) ∧ W.cell? ⟨kb, ko + 3, none⟩ = some (.int .i64 b.s) ∧ W.cell? ⟨kb, ko + 4, none⟩ = some (.slice ba bn bc) ∧ W.cell? ⟨kb, ko + 5, none⟩ = some (.slice da dn dc)) := Lib.hid (fun W hW => by
      obtain ⟨⟨a0, a1, a2, a3, a4, a5⟩, _⟩ := (HX0.out W hW).cells
      obtain ⟨b0, b1, b2, b3, b4, b5⟩ := HEC.out W hW
      exact ⟨a0, a1, a2, a3, a4, a5, b0, b1, b2, b3, b4, b5⟩)
    clear d0 d1 d2 d3 d4 d5 hdf
    refine wp_region_held_drew (S := fun W => W.cell? ⟨w.heap.size, 0, none⟩ = some (.int .i64 t.k) ∧ W.cell? ⟨w.heap.size, 1, none⟩ = some (.int .i64 t.p) ∧ W.cell? ⟨w.heap.size, 2, none⟩ = some (.string t.n) ∧ W.cell? ⟨w.heap.size, 3, none⟩ = some (.int .i64 t.s) ∧ W.cell? ⟨w.heap.size, 4, none⟩ = some (.slice la ln lc) ∧ W.cell? ⟨w.heap.size, 5, none⟩ = some (.slice (some ⟨kb, ko, none⟩) 1 kc) ∧ W.cell? ⟨kb, ko, none⟩ = some (.int .i64 b.k) ∧ W.cell? ⟨kb, ko + 1, none⟩ = some (.int .i64 b.p) ∧ W.cell? ⟨kb, ko + 2, none⟩ = some (.string b.n) ∧ W.cell? ⟨kb, ko + 3, none⟩ = some (.int .i64 b.s) ∧ W.cell? ⟨kb, ko + 4, none⟩ = some (.slice ba bn bc) ∧ W.cell? ⟨kb, ko + 5, none⟩ = some (.slice da dn dc)) (by kernel_rfl) (HSS.out W2 (fun _ _ => rfl)) (fun hHeld => ?_)
    refine wpAnyH_take_l 0 (v := ?v0) rfl rfl (by kernel_rfl) (by kernel_rfl) (by kernel_rfl) (fun _ _ _ h => h) ?h0 (by assumption) ?r0
    case h0 => (intro w hSw; (try dsimp only at hSw); go_simp; try rfl)
    case' r0 => simp only [setD, List.set_cons_succ, List.set_cons_zero]
    refine wpAnyH_take_l 1 (v := ?v1) rfl rfl (by kernel_rfl) (by kernel_rfl) (by kernel_rfl) (fun _ _ _ h => h) ?h1 (by assumption) ?r1
    case h1 => (intro w hSw; (try dsimp only at hSw); go_simp; try rfl)
    case' r1 => simp only [setD, List.set_cons_succ, List.set_cons_zero]
    refine wpAnyH_take_l 2 (v := ?v2) rfl rfl (by kernel_rfl) (by kernel_rfl) (by kernel_rfl) (fun _ _ _ h => h) ?h2 (by assumption) ?r2
    case h2 => (intro w hSw; (try dsimp only at hSw); go_simp; try rfl)
    case' r2 => simp only [setD, List.set_cons_succ, List.set_cons_zero]
    refine wpAnyH_take_l 3 (v := ?v3) rfl rfl (by kernel_rfl) (by kernel_rfl) (by kernel_rfl) (fun _ _ _ h => h) ?h3 (by assumption) ?r3
    case h3 => (intro w hSw; (try dsimp only at hSw); go_simp; try rfl)
    case' r3 => simp only [setD, List.set_cons_succ, List.set_cons_zero]
    refine wpAnyH_take_l 4 (v := ?v4) rfl rfl (by kernel_rfl) (by kernel_rfl) (by kernel_rfl) (fun _ _ _ h => h) ?h4 (by assumption) ?r4
    case h4 => (intro w hSw; (try dsimp only at hSw); go_simp; try rfl)
    case' r4 => simp only [setD, List.set_cons_succ, List.set_cons_zero]
    refine wpAnyH_take_l 5 (v := ?v5) rfl rfl (by kernel_rfl) (by kernel_rfl) (by kernel_rfl) (fun _ _ _ h => h) ?h5 (by assumption) ?r5
    case h5 => (intro w hSw; (try dsimp only at hSw); go_simp; try rfl)
    case' r5 => simp only [setD, List.set_cons_succ, List.set_cons_zero]
    refine wpAnyH_take_l 6 (v := ?v6) rfl rfl (by kernel_rfl) (by kernel_rfl) (by kernel_rfl) (fun _ _ _ h => h) ?h6 (by assumption) ?r6
    case h6 => (intro w hSw; (try dsimp only at hSw); go_simp; try rfl)
    case' r6 => simp only [setD, List.set_cons_succ, List.set_cons_zero]
    refine wpAnyH_one 7 rfl rfl (by kernel_rfl) (fun K hK => ?_)
    have hK2 := hK.out
    clear hK
    simp only [setD, List.set_cons_succ, List.set_cons_zero] at hK2 ⊢
    go_simp
    refine (HPU.out _ (Below.refl _ _).drew).mono ?_
    rintro en w3 ⟨pa, pn, pc, qa, qn, qc, rfl, hv3, hb3⟩
    dsimp only
    have hb23 : Below W2.heap.size W2 w3 := below_seq (Below.refl _ _).drew hb3
    have HB23 := Lib.hid hb23
    have HV3 := Lib.hid hv3
    refine hK2 _ _ (HSS.out w3 (fun i hi => hb23.block i (by have := HS2.out; omega))) (fun _ => ?_)
    clear hK2 K hb3 hv3 hb23
    refine wpAnyH_one 8 rfl rfl (by kernel_rfl) (fun K hK => ?_)
    have hK2 := hK.out
    clear hK
    simp only [setD, List.set_cons_succ, List.set_cons_zero] at hK2 ⊢
    go_simp
    refine (HIH.out _ _ w3 (fun _ h => h.2) HV3.out).mono ?_
    rintro en w4 ⟨ra, rn, rc, sa, sn, sc, rfl, hv4, hb4⟩
    dsimp only
    have hb24 : Below W2.heap.size W2 w4 := below_seq HB23.out hb4
    have HB24 := Lib.hid hb24
    have HB34 := Lib.hid hb4
    have HV4 := Lib.hid hv4
    refine hK2 _ _ (HSS.out w4 (fun i hi => hb24.block i (by have := HS2.out; omega))) (fun _ => ?_)
    obtain ⟨⟨z0, z1, z2, z3, z4, z5⟩, hzf⟩ := (HX.out w4 HB24.out).2.cells
    clear hK2 K hb4 hv4 hb24
    refine wpAnyH_one 9 rfl rfl (by kernel_rfl) (fun K hK => ?_)
    have hK2 := hK.out
    clear hK
    simp only [setD] at hK2 ⊢
    go_simp
    clear z0 z1 z2 z3 z4 z5 hzf
    have HV5 := Lib.hid (ret_fill (c := w.heap.size + 1) HB2.out (Nat.le_succ _) (by have := HS2.out; omega) HB24.out (HV4.out.mono (Fresh.mono HB23.out.size (Nat.le_refl _))) (.int .i64 u.k) (.int .i64 u.p) (.string u.n) (.int .i64 u.s) (.slice ra rn rc) (.slice sa sn sc))
    have HX5 := Lib.hid (Six.fill (HX.out w4 HB24.out).2 (.int .i64 u.k) (.int .i64 u.p) (.string u.n) (.int .i64 u.s) (.slice ra rn rc) (.slice sa sn sc))
    have HS5 := Lib.hid (HSS.out _ (fun i hi => (fill6_oth (w := w4) (g := w.heap.size + 1) (k := i) (by omega) (.int .i64 u.k) (.int .i64 u.p) (.string u.n) (.int .i64 u.s) (.slice ra rn rc) (.slice sa sn sc)).trans (HB24.out.block i (by have := HS2.out; omega))))
    obtain ⟨W5, hW5⟩ : ∃ W5, (((((w4.setCell ⟨w.heap.size + 1, 0, none⟩ (.int .i64 u.k)).setCell ⟨w.heap.size + 1, 1, none⟩ (.int .i64 u.p)).setCell ⟨w.heap.size + 1, 2, none⟩ (.string u.n)).setCell ⟨w.heap.size + 1, 3, none⟩ (.int .i64 u.s)).setCell ⟨w.heap.size + 1, 4, none⟩ (.slice ra rn rc)).setCell ⟨w.heap.size + 1, 5, none⟩ (.slice sa sn sc) = W5 := ⟨_, rfl⟩
    rw [hW5] at HV5 HX5 HS5 ⊢
    refine hK2 undef W5 HS5.out (fun _ => ?_)
    clear hK2 K hW5
    refine wpAnyH_done (by kernel_rfl) ?_ _
    clear hHeld
    obtain ⟨⟨c0, c1, c2, c3, c4, c5⟩, hcf⟩ := HX5.out.cells
    go_wp2_with fail
    refine bodyPost_ret (v := .agg #[.int .i64 u.k, .int .i64 u.p, .string u.n, .int .i64 u.s, .slice ra rn rc, .slice sa sn sc]) (by simp [results, Tryz.results9, go_sem, c0, c1, c2, c3, c4, c5]) rfl ?_
    exact ⟨ra, rn, rc, sa, sn, sc, rfl, HV5.out.1, HV5.out.2⟩

/-! ### The priority of a type -/
def priR : Option Int → Value
  | some p => .tuple #[.int .i64 p, .bool true]
  | none => .tuple #[.int .i64 0, .bool false]
/-- What is asked of a type that is unfolded. -/
def Ty.ufo (t : Ty) : Prop := t.ch = true ∧ t.bd 1000000 ∧ t.rc ≤ 10000
theorem ufo_of {t : Ty} (h : nodeR [] 0 false t = 0) (hs : t.size ≤ 1000) : t.ufo :=
  ⟨ch_of t (okg_of t [] 0 false h hs) (real_of t [] false h), bd_of t [] 0 false h (by omega), by have := rc_depth t; omega⟩
theorem unfold_any (t : Ty) (h : t.ufo) (B : Nat → Prop) (v : Value) (w : World) (hB : Low B w) (hv : TyVal B w v t) : Calls Tryz.prog 9 #[v] w (TyRet w (t.unf t.rc)) :=
  runfold_any B t.rc 1000000 t rfl h.1 (by decide) (by have := h.2.2; omega) h.2.1 B v w hB hv
set_option maxHeartbeats 4000000 in
set_option maxRecDepth 100000 in
theorem rprio08_any (t : Ty) (h : t.ufo) (B : Nat → Prop) (v : Value) (w : World) (hB : Low B w) (hv : TyVal B w v t) :
    Calls Tryz.prog 67 #[v] w fun e w' => e = .returned (priR t.pri) ∧ Below w.heap.size w w' := by
  obtain ⟨hk8, hp8⟩ := unf_hd t.rc t rfl h.1
  obtain ⟨u, hu⟩ : ∃ u, t.unf t.rc = u := ⟨_, rfl⟩
  rw [hu] at hk8 hp8
  have hv0 := hv
  obtain ⟨lv, kv, rfl, _, hl, hk⟩ := hv
  obtain ⟨la, ln, lc, rfl, _⟩ := hl.open
  obtain ⟨ka, kn, kc, rfl, _⟩ := hk.open
  obtain ⟨W1, hW1⟩ : ∃ W1, w.alloc (.cells #[.int .i64 t.k, .int .i64 t.p, .string t.n, .int .i64 t.s, .slice la ln lc, .slice ka kn kc] 25) = W1 := ⟨_, rfl⟩
  have hb1 : Below w.heap.size w W1 := by rw [← hW1]; exact blkBelow w _ _
  have x1 : Six W1 w.heap.size (.int .i64 t.k) (.int .i64 t.p) (.string t.n) (.int .i64 t.s) (.slice la ln lc) (.slice ka kn kc) := by rw [← hW1]; exact Six.new _ _ _ _ _ _ _
  have HU : Hid (Calls Tryz.prog 9 #[.agg #[.int .i64 t.k, .int .i64 t.p, .string t.n, .int .i64 t.s, .slice la ln lc, .slice ka kn kc]] W1 (TyRet W1 u)) := Lib.hid (by
    have h1 := unfold_any t h B _ W1 (hB.le hb1.size) (hv0.to hB hb1)
    rwa [hu] at h1)
  obtain ⟨⟨d0, d1, d2, d3, d4, d5⟩, _⟩ := x1.cells
  have hpr : t.pri = if actI u.k = true then some u.p else none := by rw [Ty.pri, hk8, hp8]
  obtain ⟨yk, hyk⟩ : ∃ x, u.k = x := ⟨_, rfl⟩
  obtain ⟨yp, hyp⟩ : ∃ x, u.p = x := ⟨_, rfl⟩
  obtain ⟨yn, hyn⟩ : ∃ x, u.n = x := ⟨_, rfl⟩
  obtain ⟨ys, hys⟩ : ∃ x, u.s = x := ⟨_, rfl⟩
  rw [hyk, hyp] at hpr
  obtain ⟨q, hq⟩ : ∃ q, t.pri = q := ⟨_, rfl⟩
  rw [hq] at hpr ⊢
  have HY := Lib.hid (And.intro hyk (And.intro hyp (And.intro hyn hys)))
  have HW1 := Lib.hid hW1
  have HB1 := Lib.hid hb1
  clear h hB hv0 hl hk hu hk8 hp8 hW1 hb1 x1 hyk hyp hyn hys hq
  go_enter Tryz.func67, Tryz.ntmps67
  go_upto_region 1 with fail
  rw [show w.alloc (.cells #[.int .i64 t.k, .int .i64 t.p, .string t.n, .int .i64 t.s, .slice la ln lc, .slice ka kn kc] 25) = W1 from HW1.out]
  go_upto_region 2 with (go_at_call 9; go_loud (refine HU.out.mono ?_; rintro en w3 ⟨pa, pn, pc, qa, qn, qc, rfl, _, hb3⟩; rw [HY.out.1, HY.out.2.1, HY.out.2.2.1, HY.out.2.2.2]; have HB3 := Lib.hid hb3; clear hb3))
  clear d0 d1 d2 d3 d4 d5
  obtain ⟨W4, hW4⟩ : ∃ W4, w3.alloc (.cells #[.int .i64 yk, .int .i64 yp, .string yn, .int .i64 ys, .slice pa pn pc, .slice qa qn qc] 25) = W4 := ⟨_, rfl⟩
  have hx4 : Six W4 w3.heap.size (.int .i64 yk) (.int .i64 yp) (.string yn) (.int .i64 ys) (.slice pa pn pc) (.slice qa qn qc) := by rw [← hW4]; exact Six.new _ _ _ _ _ _ _
  have HB4 : Hid (Below w.heap.size w W4) := Lib.hid (by rw [← hW4]; exact below_seq HB1.out (below_seq HB3.out (blkBelow w3 _ _)))
  obtain ⟨⟨d0, d1, d2, d3, d4, d5⟩, _⟩ := hx4.cells
  rw [hW4]
  clear hx4 hW4 HY HU
  by_cases h4 : 4 ≤ yk
  · by_cases h7 : yk ≤ 7
    · have ha : actI yk = true := by simp [actI, h4, h7]
      rw [if_pos ha] at hpr
      subst hpr
      have e1 : decide (4 ≤ yk) = true := by simpa using h4
      have e2 : decide (yk ≤ 7) = true := by simpa using h7
      clear ha
      go_wp2_with fail
      go_ret2
      exact ⟨rfl, HB4.out⟩
    · have ha : ¬ actI yk = true := by simp [actI, h4, h7]
      rw [if_neg ha] at hpr
      subst hpr
      have e1 : decide (4 ≤ yk) = true := by simpa using h4
      have e2 : decide (yk ≤ 7) = false := by simpa using h7
      clear ha
      go_wp2_with fail
      go_ret2
      exact ⟨rfl, HB4.out⟩
  · have ha : ¬ actI yk = true := by simp [actI, h4]
    rw [if_neg ha] at hpr
    subst hpr
    have e1 : decide (4 ≤ yk) = false := by simpa using h4
    clear ha
    go_wp2_with fail
    go_ret2
    exact ⟨rfl, HB4.out⟩

/-! ### .. and the least one -/
theorem pris_snoc {ts : List Ty} {j : Nat} {t : Ty} (h : ts[j]? = some t) : (ts.take (j + 1)).filterMap Ty.pri = (ts.take j).filterMap Ty.pri ++ t.pri.toList := by
  rw [take_snoc_get h, List.filterMap_append]
  cases e : t.pri <;> simp [e]
end Go.Proofs.YtjmnaibbljakaaaGreatDoor
