/- Processes: the reference's name, value, plain. (and what follows from it) -/
import Derived.Test.YtliijbcgkkiekaaGreatDoorPz5
import Derived.Test.YtliijbcgkkiekaaGreatDoorPz6
import Derived.Test.YtliijbcgkkiekaaGreatDoorPz7
import Derived.Test.YtliijbcgkkiekaaGreatDoorPz9
import Derived.Test.YtliijbcgkkiekaaGreatDoorPz14

/- Processes: the reference's name, value, plain. -/
namespace Go.Proofs.YtliijbcgkkiekaaGreatDoor
open Go.RowKit Go.Deep Go.Shelf

set_option maxHeartbeats 400000 in
theorem rpname_any (x : ByteArray) (b : Bool) (hb : nameB x = b) (hx : x.size ≤ maxLen) (w : World) : Calls Tryz.prog 33 #[.string x] w fun e w' => e = .returned (.bool b) ∧ Below w.heap.size w w' := by
  have HN := Lib.hid (fun W => name_is x b hb (by unfold maxLen at hx; omega) W)
  clear hb hx
  go_enter Tryz.func33, Tryz.ntmps33
  go_wp2_with (go_at_call 68; refine (HN.out _).mono ?_; rintro e w2 ⟨rfl, hb2⟩)
  go_ret
  exact ⟨rfl, hb2⟩

set_option maxHeartbeats 2000000 in
set_option maxRecDepth 100000 in
theorem rvalue_any (k y : Int) (n : ByteArray) (b : Bool) (hb : vlB ⟨k, n, y⟩ = b) (hn : n.size ≤ maxLen) (w : World) : Calls Tryz.prog 81 #[.agg #[.int .i64 k, .string n, .int .i64 y]] w fun e w' => e = .returned (.bool b) ∧ Below w.heap.size w w' := by
  obtain ⟨nb, hnb⟩ : ∃ b, nameB n = b := ⟨_, rfl⟩
  have HN := Lib.hid (fun W => rpname_any n nb hnb hn W)
  have hv : vlB ⟨k, n, y⟩ = if k = 1 then nb && y == 0 else if k = 2 then n.toList.isEmpty else if k = 3 then n.toList.isEmpty && (y == 0 || y == 1) else false := by unfold vlB; simp only [hnb]
  rw [← hb, hv]
  clear hv hnb hb hn
  by_cases h1 : k = 1
  · subst h1
    rw [if_pos rfl]
    go_enter Tryz.func81, Tryz.ntmps81
    go_wp2_with (go_at_call 33; refine (HN.out _).mono ?_; rintro e w2 ⟨rfl, hb2⟩; obtain ⟨hcl, hfz⟩ := bcell hb2)
    all_goals (go_ret; refine ⟨ret_bool ?_, ?_⟩; rotate_left; (first | exact blkBelow w _ _ | exact below_seq (blkBelow w _ _) (by assumption)); clear HN; (try simp_all); (try (rw [Bool.eq_iff_iff]; simp)); (try omega))
  · by_cases h2 : k = 2
    · subst h2
      rw [if_neg h1, if_pos rfl]
      go_enter Tryz.func81, Tryz.ntmps81
      go_wp2_with fail
      all_goals (go_ret; refine ⟨ret_bool ?_, ?_⟩; rotate_left; (first | exact blkBelow w _ _ | exact below_seq (blkBelow w _ _) (by assumption)); clear HN; (try simp_all); (try (rw [Bool.eq_iff_iff]; simp)); (try omega))
    · by_cases h3 : k = 3
      · subst h3
        rw [if_neg h1, if_neg h2, if_pos rfl]
        go_enter Tryz.func81, Tryz.ntmps81
        go_wp2_with fail
        all_goals (go_ret; refine ⟨ret_bool ?_, ?_⟩; rotate_left; (first | exact blkBelow w _ _ | exact below_seq (blkBelow w _ _) (by assumption)); clear HN; (try simp_all); (try (rw [Bool.eq_iff_iff]; simp)); (try omega))
      · rw [if_neg h1, if_neg h2, if_neg h3]
        have e1 : (k == 1) = false := by simpa using h1
        have e2 : (k == 2) = false := by simpa using h2
        have e3 : (k == 3) = false := by simpa using h3
        clear h1 h2 h3
        go_enter Tryz.func81, Tryz.ntmps81
        go_wp2_with fail
        all_goals (go_ret; refine ⟨ret_bool ?_, ?_⟩; rotate_left; (first | exact blkBelow w _ _ | exact below_seq (blkBelow w _ _) (by assumption)); clear HN; (try simp_all); (try (rw [Bool.eq_iff_iff]; simp)); (try omega))

set_option maxHeartbeats 1000000 in
set_option maxRecDepth 100000 in
theorem rplain_any (B : Nat → Prop) (p : Pr) (b : Bool) (hb : eqB p.t default = b) (v : Value) (w : World) (hB : Low B w) (hv : PrVal B w v p) : Calls Tryz.prog 82 #[v] w fun e w' => e = .returned (.bool b) ∧ Below w.heap.size w w' := by
  obtain ⟨lv, av, tl, tk, kv, rfl, _, hl, ha, ht, hk⟩ := hv
  obtain ⟨⟨ta, tn, tc, rfl⟩, ua, un, uc, rfl⟩ := slices_of ht
  have HY : Hid (∀ W, Below w.heap.size w W → Calls Tryz.prog 41 #[.agg #[.int .i64 p.t.k, .int .i64 p.t.p, .string p.t.n, .int .i64 p.t.s, .slice ta tn tc, .slice ua un uc], .agg #[.int .i64 0, .int .i64 0, .string ⟨#[]⟩, .int .i64 0, .slice none 0 0, .slice none 0 0]] W fun e w' => e = .returned (.bool b) ∧ Below W.heap.size W w') := Lib.hid (fun W hW => by
    rw [← hb]; exact rsame_any B p.t default _ _ W (hB.le hW.size) (ht.keep (hW.keeps'.mono hB)) (tyVal_zero B W))
  obtain ⟨la, ln, lc, rfl, _⟩ := hl.open
  obtain ⟨aa, an, ac, rfl, _⟩ := ha.open
  obtain ⟨ka, kn, kc, rfl, _⟩ := hk.open
  clear hb ht hl ha hk
  unfold prAgg
  go_enter Tryz.func82, Tryz.ntmps82
  go_wp2_with (go_at_call 41; refine (HY.out _ (blkBelow w _ _)).mono ?_; rintro e w2 ⟨rfl, hb2⟩)
  go_ret
  exact ⟨rfl, below_seq (blkBelow w _ _) hb2⟩

theorem gnext {w wr w2 : World} {cs : Array Value} {t : TypeId} (h : Below (w.heap.size + 1) (w.alloc (.cells cs t)) wr) (g : Below wr.heap.size wr w2) : Below (w.heap.size + 1) (w.alloc (.cells cs t)) w2 :=
  h.trans (g.mono (by have := h.size; simpa using this))

end Go.Proofs.YtliijbcgkkiekaaGreatDoor

/- Processes: what a node of each kind has to be, in the reference's order. -/
namespace Go.Proofs.YtliijbcgkkiekaaGreatDoor
open Go.RowKit Go.Deep Go.Shelf

theorem vlsB_nil {vs : List Vl} (h : decide (vs.length = 0) = true) : vlsB vs = true := by
  obtain rfl : vs = [] := List.eq_nil_of_length_eq_zero (of_decide_eq_true h)
  simp [vlsB]
theorem labelsB_one {ls : List ByteArray} {s : ByteArray} (h : ls = [s]) : labelsB ls = nameB s := by subst h; simp [labelsB]

theorem okN_1 (c x : ByteArray) (ls : List ByteArray) (vs : List Vl) (t : Ty) (ps : List Pr) :
    (Pr.mk 1 c x ls vs t ps).okN = (vlsB vs && (c.toList.isEmpty && (x.toList.isEmpty && (decide (vs.length = 0) && (decide (ls.length = 0) && (decide (ps.length = 0) && eqB t default)))))) := by
  have e : (Pr.mk 1 c x ls vs t ps).okN = (true && (c.toList.isEmpty && ((x.toList.isEmpty) && ((decide (ls.length = 0)) && ((decide (vs.length = 0)) && ((eqB t default) && (decide (ps.length = 0)))))))) := rfl
  have h0 := @vlsB_nil vs
  rw [e]
  clear e
  generalize c.toList.isEmpty = a3 at *
  generalize x.toList.isEmpty = a4 at *
  generalize (decide (vs.length = 0)) = a5 at *
  generalize (decide (ls.length = 0)) = a7 at *
  generalize (decide (ps.length = 0)) = b3 at *
  generalize (eqB t default) = b8 at *
  generalize (vlsB vs) = c1 at *
  revert h0 a3 a4 a5 a7 b3 b8 c1
  decide
theorem okN_2 (c x : ByteArray) (ls : List ByteArray) (vs : List Vl) (t : Ty) (ps : List Pr) :
    (Pr.mk 2 c x ls vs t ps).okN = (vlsB vs && (nameB c && (x.toList.isEmpty && (decide (vs.length = 1) && (decide (ls.length = 0) && (decide (ps.length = 1) && eqB t default)))))) := by
  have e : (Pr.mk 2 c x ls vs t ps).okN = (true && (nameB c && ((x.toList.isEmpty) && ((decide (ls.length = 0)) && ((decide (vs.length = 1) && vlsB vs) && ((eqB t default) && (decide (ps.length = 1)))))))) := rfl
  have h0 := @vlsB_nil vs
  rw [e]
  clear e
  generalize (nameB c) = a1 at *
  generalize x.toList.isEmpty = a4 at *
  generalize (decide (vs.length = 0)) = a5 at *
  generalize (decide (vs.length = 1)) = a6 at *
  generalize (decide (ls.length = 0)) = a7 at *
  generalize (decide (ps.length = 1)) = b4 at *
  generalize (eqB t default) = b8 at *
  generalize (vlsB vs) = c1 at *
  revert h0 a1 a4 a5 a6 a7 b4 b8 c1
  decide
theorem okN_3 (c x : ByteArray) (ls : List ByteArray) (vs : List Vl) (t : Ty) (ps : List Pr) :
    (Pr.mk 3 c x ls vs t ps).okN = (vlsB vs && (nameB c && (nameB x && (decide (vs.length = 0) && (decide (ls.length = 0) && (decide (ps.length = 1) && eqB t default)))))) := by
  have e : (Pr.mk 3 c x ls vs t ps).okN = (true && (nameB c && ((nameB x) && ((decide (ls.length = 0)) && ((decide (vs.length = 0)) && ((eqB t default) && (decide (ps.length = 1)))))))) := rfl
  have h0 := @vlsB_nil vs
  rw [e]
  clear e
  generalize (nameB c) = a1 at *
  generalize (nameB x) = a2 at *
  generalize (decide (vs.length = 0)) = a5 at *
  generalize (decide (ls.length = 0)) = a7 at *
  generalize (decide (ps.length = 1)) = b4 at *
  generalize (eqB t default) = b8 at *
  generalize (vlsB vs) = c1 at *
  revert h0 a1 a2 a5 a7 b4 b8 c1
  decide
theorem okN_4 (c x : ByteArray) (ls : List ByteArray) (vs : List Vl) (t : Ty) (ps : List Pr) :
    (Pr.mk 4 c x ls vs t ps).okN = (vlsB vs && (nameB c && (x.toList.isEmpty && (decide (vs.length = 0) && (decide (ls.length = 1) && (labelsB ls && (decide (ps.length = 1) && eqB t default))))))) := by
  have e : (Pr.mk 4 c x ls vs t ps).okN = (true && (nameB c && ((x.toList.isEmpty) && ((decide (ls.length = 1) && labelsB ls) && ((decide (vs.length = 0)) && ((eqB t default) && (decide (ps.length = 1)))))))) := rfl
  have h0 := @vlsB_nil vs
  rw [e]
  clear e
  generalize (nameB c) = a1 at *
  generalize x.toList.isEmpty = a4 at *
  generalize (decide (vs.length = 0)) = a5 at *
  generalize (decide (ls.length = 1)) = a8 at *
  generalize (labelsB ls) = b1 at *
  generalize (decide (ps.length = 1)) = b4 at *
  generalize (eqB t default) = b8 at *
  generalize (vlsB vs) = c1 at *
  revert h0 a1 a4 a5 a8 b1 b4 b8 c1
  decide
theorem okN_5 (c x : ByteArray) (ls : List ByteArray) (vs : List Vl) (t : Ty) (ps : List Pr) :
    (Pr.mk 5 c x ls vs t ps).okN = (vlsB vs && (nameB c && (x.toList.isEmpty && (decide (vs.length = 0) && (decide (0 < ls.length) && (labelsB ls && (decide (ps.length = ls.length) && eqB t default))))))) := by
  have e : (Pr.mk 5 c x ls vs t ps).okN = (true && (nameB c && ((x.toList.isEmpty) && ((labelsB ls && decide (0 < ls.length)) && ((decide (vs.length = 0)) && ((eqB t default) && (decide (ps.length = ls.length)))))))) := rfl
  have h0 := @vlsB_nil vs
  rw [e]
  clear e
  generalize (nameB c) = a1 at *
  generalize x.toList.isEmpty = a4 at *
  generalize (decide (vs.length = 0)) = a5 at *
  generalize (labelsB ls) = b1 at *
  generalize (decide (0 < ls.length)) = b2 at *
  generalize (decide (ps.length = ls.length)) = b5 at *
  generalize (eqB t default) = b8 at *
  generalize (vlsB vs) = c1 at *
  revert h0 a1 a4 a5 b1 b2 b5 b8 c1
  decide
theorem okN_6 (c x : ByteArray) (ls : List ByteArray) (vs : List Vl) (t : Ty) (ps : List Pr) :
    (Pr.mk 6 c x ls vs t ps).okN = (vlsB vs && (nameB c && (nameB x && (!decide (x = c) && (decide (vs.length = 0) && (decide (ls.length = 0) && (decide (ps.length = 1) && (rightE t == 0 && (t.k != 1 && t.k != 2))))))))) := by
  have e : (Pr.mk 6 c x ls vs t ps).okN = (true && (nameB c && ((nameB x && !decide (x = c)) && ((decide (ls.length = 0)) && ((decide (vs.length = 0)) && (((t.k != 1 && t.k != 2) && rightE t == 0) && (decide (ps.length = 1)))))))) := rfl
  have h0 := @vlsB_nil vs
  rw [e]
  clear e
  generalize (nameB c) = a1 at *
  generalize (nameB x) = a2 at *
  generalize (decide (vs.length = 0)) = a5 at *
  generalize (decide (ls.length = 0)) = a7 at *
  generalize (decide (ps.length = 1)) = b4 at *
  generalize (vlsB vs) = c1 at *
  generalize (decide (x = c)) = c2 at *
  generalize (rightE t == 0) = c3 at *
  generalize (t.k != 1 && t.k != 2) = c4 at *
  revert h0 a1 a2 a5 a7 b4 c1 c2 c3 c4
  decide
theorem okN_7 (c x : ByteArray) (ls : List ByteArray) (vs : List Vl) (t : Ty) (ps : List Pr) :
    (Pr.mk 7 c x ls vs t ps).okN = (vlsB vs && (decide (∀ p ∈ ps, p.k ≠ 7) && (c.toList.isEmpty && (x.toList.isEmpty && (decide (vs.length = 0) && (decide (ls.length = 0) && (decide (1 < ps.length) && eqB t default))))))) := by
  have e : (Pr.mk 7 c x ls vs t ps).okN = (true && (c.toList.isEmpty && ((x.toList.isEmpty) && ((decide (ls.length = 0)) && ((decide (vs.length = 0)) && ((eqB t default) && (decide (∀ p ∈ ps, p.k ≠ 7) && decide (1 < ps.length)))))))) := rfl
  have h0 := @vlsB_nil vs
  rw [e]
  clear e
  generalize c.toList.isEmpty = a3 at *
  generalize x.toList.isEmpty = a4 at *
  generalize (decide (vs.length = 0)) = a5 at *
  generalize (decide (ls.length = 0)) = a7 at *
  generalize (decide (∀ p ∈ ps, p.k ≠ 7)) = b6 at *
  generalize (decide (1 < ps.length)) = b7 at *
  generalize (eqB t default) = b8 at *
  generalize (vlsB vs) = c1 at *
  revert h0 a3 a4 a5 a7 b6 b7 b8 c1
  decide
theorem okN_8 (c x : ByteArray) (ls : List ByteArray) (vs : List Vl) (t : Ty) (ps : List Pr) :
    (Pr.mk 8 c x ls vs t ps).okN = (vlsB vs && (nameB c && (x.toList.isEmpty && (decide (ls.length = 0) && (decide (ps.length = 0) && eqB t default))))) := by
  have e : (Pr.mk 8 c x ls vs t ps).okN = (true && (nameB c && ((x.toList.isEmpty) && ((decide (ls.length = 0)) && ((vlsB vs) && ((eqB t default) && (decide (ps.length = 0)))))))) := rfl
  have h0 := @vlsB_nil vs
  rw [e]
  clear e
  generalize (nameB c) = a1 at *
  generalize x.toList.isEmpty = a4 at *
  generalize (decide (vs.length = 0)) = a5 at *
  generalize (decide (ls.length = 0)) = a7 at *
  generalize (decide (ps.length = 0)) = b3 at *
  generalize (eqB t default) = b8 at *
  generalize (vlsB vs) = c1 at *
  revert h0 a1 a4 a5 a7 b3 b8 c1
  decide
theorem okN_0 (k : Int) (c x : ByteArray) (ls : List ByteArray) (vs : List Vl) (t : Ty) (ps : List Pr) (hk : k < 1 ∨ 8 < k) : (Pr.mk k c x ls vs t ps).okN = false := by
  have e : pknK k = false := by unfold pknK; rw [Bool.eq_false_iff]; simp; omega
  have : (Pr.mk k c x ls vs t ps).okN = (pknK k && (Pr.mk k c x ls vs t ps).shp) := rfl
  rw [this, e, Bool.false_and]

end Go.Proofs.YtliijbcgkkiekaaGreatDoor

/- Processes: the reference's node, kind 0. -/
namespace Go.Proofs.YtliijbcgkkiekaaGreatDoor
open Go.RowKit Go.Deep Go.Shelf

set_option maxHeartbeats 8000000 in
set_option maxRecDepth 100000 in
theorem rnode_0 (B : Nat → Prop) (k : Int) (hkk : k < 1 ∨ 8 < k) (c x : ByteArray) (ls : List ByteArray) (vs : List Vl) (t : Ty) (ps : List Pr) (_hsz : t.size ≤ 1000000) (v : Value) (w : World) (hB : Low B w) (hv : PrVal B w v (Pr.mk k c x ls vs t ps)) :
    Calls Tryz.prog 63 #[v] w fun e w' => e = .returned (.bool (Pr.mk k c x ls vs t ps).okN) ∧ Below w.heap.size w w' := by
  have hv0 := hv
  obtain ⟨lv, av, tl, tk, kv, rfl, ⟨hcs, hxs⟩, hl, ha, ht, hk⟩ := hv
  replace hcs : c.size ≤ maxLen := hcs
  replace hxs : x.size ≤ maxLen := hxs
  replace hl : StrSl B w lv ls := hl
  replace ha : VlSl B w av vs := ha
  replace hk : PrSl B w kv ps := hk
  replace ht : TyVal B w (.agg #[.int .i64 t.k, .int .i64 t.p, .string t.n, .int .i64 t.s, tl, tk]) t := ht
  have hlB := fun W (hW : Below w.heap.size w W) => rlabels_any B lv ls W (hB.le hW.size) (hl.keep (hW.keeps'.mono hB))
  obtain ⟨ka, kn, kc, rfl, hkn, hkm, hkg⟩ := hk.open
  obtain ⟨aa, an, ac, rfl, han, ham, hag⟩ := ha.open
  obtain ⟨la, ln, lc, rfl, hln, hlm, hlg⟩ := hl.open
  obtain ⟨⟨ta, tn, tc, rfl⟩, ua, un, uc, rfl⟩ := slices_of ht
  have hs : (Pr.mk k c x ls vs t ps).okN = false := okN_0 k c x ls vs t ps hkk
  have e1 : (k == 1) = false := by simp; omega
  have e2 : (k == 2) = false := by simp; omega
  have e3 : (k == 3) = false := by simp; omega
  have e4 : (k == 4) = false := by simp; omega
  have e5 : (k == 5) = false := by simp; omega
  have e6 : (k == 6) = false := by simp; omega
  have e7 : (k == 7) = false := by simp; omega
  have e8 : (k == 8) = false := by simp; omega
  clear hkk
  have HGV := Lib.hid hag
  have HGK := Lib.hid hkg
  have HGL := Lib.hid hlg
  have HVL := Lib.hid (rfl : vlsB vs = vlsB vs)
  rw [hs]
  have HB := Lib.hid hB
  clear hs hv0 hcs hxs hl ha ht hk hlB hkg hag hlg hB
  go_enter Tryz.func63, Tryz.ntmps63
  go_wp2_with fail
  go_loopw [3] (fun i wr => ∃ (j : Nat), i = .int .i64 j ∧ j ≤ an ∧ Hid (∀ v ∈ vs.take j, vlB v = true) ∧ Below (w.heap.size + 1) (w.alloc (Obj.cells #[.int .i64 k, .string c, .string x, .slice la ln lc, .slice aa an ac, .int .i64 t.k, .int .i64 t.p, .string t.n, .int .i64 t.s, .slice ta tn tc, .slice ua un uc, .slice ka kn kc] 29)) wr) (fun i _ => an - (intOf i).toNat)
  case atStart => exact ⟨0, rfl, by omega, Lib.hid (by simp), Below.refl _ _⟩
  case round =>
    obtain ⟨j, rfl, hj, HT, hb⟩ := hrel
    have hw := blk_below hb
    by_cases hlt : j < an
    · have c4 := blk_cell hb 4 rfl
      obtain ⟨u, hu⟩ : ∃ u, vs[j]? = some u := ⟨_, List.getElem?_eq_getElem (by rw [← han.out]; exact hlt)⟩
      obtain ⟨hun, kb, ko, rfl, hkb, hc⟩ := HGV.out j u hu
      have e0 := (hw.cell (p := ⟨kb, _, none⟩) (HB.out kb hkb)).trans hc.1
      have e1 := (hw.cell (p := ⟨kb, _, none⟩) (HB.out kb hkb)).trans hc.2.1
      have e2 := (hw.cell (p := ⟨kb, _, none⟩) (HB.out kb hkb)).trans hc.2.2
      have HX := Lib.hid hu
      obtain ⟨uk, un', uy⟩ := u
      simp only at e0 e1 e2 hun
      obtain ⟨vb, hvb⟩ : ∃ b, vlB ⟨uk, un', uy⟩ = b := ⟨_, rfl⟩
      have HV := Lib.hid (fun W => rvalue_any uk uy un' vb hvb hun W)
      have HVB := Lib.hid hvb
      clear hc hu hvb hun
      cases vb with
      | false =>
        have hf : Hid (vlsB vs = false) := Lib.hid (by
          unfold vlsB
          rw [decide_eq_false_iff_not]
          intro h
          have := h _ (List.mem_of_getElem? HX.out)
          rw [HVB.out] at this
          cases this)
        go_wp2_with (go_at_call 81; refine (HV.out _).mono ?_; rintro e w2 ⟨rfl, g⟩)
        go_ret
        exact ⟨ret_bool (by rfl), hw.trans (g.mono hw.size)⟩
      | true =>
        have hf : Hid (∀ v ∈ vs.take (j + 1), vlB v = true) := Lib.hid (by
          rw [take_snoc_get HX.out]
          intro q hq
          rcases List.mem_append.1 hq with hq | hq
          · exact HT.out q hq
          · obtain rfl := List.mem_singleton.1 hq
            exact HVB.out)
        go_wp2_with (go_at_call 81; refine (HV.out _).mono ?_; rintro e w2 ⟨rfl, g⟩)
        go_roundw
        case rel => exact ⟨j + 1, by go_num, by omega, hf, gnext hb g⟩
        case measure => simp [intOf]; omega
    · obtain rfl : j = an := by omega
      have HVT : Hid (vlsB vs = true) := Lib.hid (by
        have := HT.out
        rw [List.take_of_length_le (by rw [han.out]; exact Nat.le_refl _)] at this
        unfold vlsB
        rw [decide_eq_true_eq]
        exact this)
      clear HT
      have c0 := blk_cell hb 0 rfl
      have c1 := blk_cell hb 1 rfl
      have c2 := blk_cell hb 2 rfl
      have c3 := blk_cell hb 3 rfl
      have c4 := blk_cell hb 4 rfl
      have c5 := blk_cell hb 5 rfl
      have c6 := blk_cell hb 6 rfl
      have c7 := blk_cell hb 7 rfl
      have c8 := blk_cell hb 8 rfl
      have c9 := blk_cell hb 9 rfl
      have c10 := blk_cell hb 10 rfl
      have c11 := blk_cell hb 11 rfl
      go_wp2_with fail
      go_ret
      exact ⟨rfl, hw⟩

end Go.Proofs.YtliijbcgkkiekaaGreatDoor

/- Processes: the reference's node, kind 1. -/
namespace Go.Proofs.YtliijbcgkkiekaaGreatDoor
open Go.RowKit Go.Deep Go.Shelf

set_option maxHeartbeats 8000000 in
set_option maxRecDepth 100000 in
theorem rnode_1 (B : Nat → Prop) (c x : ByteArray) (ls : List ByteArray) (vs : List Vl) (t : Ty) (ps : List Pr) (_hsz : t.size ≤ 1000000) (v : Value) (w : World) (hB : Low B w) (hv : PrVal B w v (Pr.mk 1 c x ls vs t ps)) :
    Calls Tryz.prog 63 #[v] w fun e w' => e = .returned (.bool (Pr.mk 1 c x ls vs t ps).okN) ∧ Below w.heap.size w w' := by
  have hv0 := hv
  obtain ⟨lv, av, tl, tk, kv, rfl, ⟨hcs, hxs⟩, hl, ha, ht, hk⟩ := hv
  replace hcs : c.size ≤ maxLen := hcs
  replace hxs : x.size ≤ maxLen := hxs
  replace hl : StrSl B w lv ls := hl
  replace ha : VlSl B w av vs := ha
  replace hk : PrSl B w kv ps := hk
  replace ht : TyVal B w (.agg #[.int .i64 t.k, .int .i64 t.p, .string t.n, .int .i64 t.s, tl, tk]) t := ht
  have hlB := fun W (hW : Below w.heap.size w W) => rlabels_any B lv ls W (hB.le hW.size) (hl.keep (hW.keeps'.mono hB))
  obtain ⟨ka, kn, kc, rfl, hkn, hkm, hkg⟩ := hk.open
  obtain ⟨aa, an, ac, rfl, han, ham, hag⟩ := ha.open
  obtain ⟨la, ln, lc, rfl, hln, hlm, hlg⟩ := hl.open
  obtain ⟨⟨ta, tn, tc, rfl⟩, ua, un, uc, rfl⟩ := slices_of ht
  have hs : (Pr.mk 1 c x ls vs t ps).okN = (vlsB vs && (c.toList.isEmpty && (x.toList.isEmpty && (decide (vs.length = 0) && (decide (ls.length = 0) && (decide (ps.length = 0) && eqB t default)))))) := okN_1 c x ls vs t ps
  rw [← han.out, ← hln.out, ← hkn.out] at hs
  obtain ⟨pl, hpl⟩ : ∃ b, eqB t default = b := ⟨_, rfl⟩
  have HPL : Hid (∀ (n1 n2 n3 : Nat), n1 = an → n2 = ln → n3 = kn → ∀ W, Below w.heap.size w W → Calls Tryz.prog 82 #[.agg #[.int .i64 1, .string c, .string x, .slice la n2 lc, .slice aa n1 ac, .int .i64 t.k, .int .i64 t.p, .string t.n, .int .i64 t.s, .slice ta tn tc, .slice ua un uc, .slice ka n3 kc]] W fun e w' => e = .returned (.bool pl) ∧ Below W.heap.size W w') := Lib.hid (by
    rintro _ _ _ rfl rfl rfl
    exact fun W hW => rplain_any B (Pr.mk 1 c x ls vs t ps) pl hpl _ W (hB.le hW.size) (hv0.to hB hW))
  rw [hpl] at hs
  clear hpl
  have HGV := Lib.hid hag
  have HGK := Lib.hid hkg
  have HGL := Lib.hid hlg
  have HVL := Lib.hid (rfl : vlsB vs = vlsB vs)
  rw [hs]
  have HB := Lib.hid hB
  clear hs hv0 hcs hxs hl ha ht hk hlB hkg hag hlg hB
  go_enter Tryz.func63, Tryz.ntmps63
  go_wp2_with fail
  go_loopw [3] (fun i wr => ∃ (j : Nat), i = .int .i64 j ∧ j ≤ an ∧ Hid (∀ v ∈ vs.take j, vlB v = true) ∧ Below (w.heap.size + 1) (w.alloc (Obj.cells #[.int .i64 1, .string c, .string x, .slice la ln lc, .slice aa an ac, .int .i64 t.k, .int .i64 t.p, .string t.n, .int .i64 t.s, .slice ta tn tc, .slice ua un uc, .slice ka kn kc] 29)) wr) (fun i _ => an - (intOf i).toNat)
  case atStart => exact ⟨0, rfl, by omega, Lib.hid (by simp), Below.refl _ _⟩
  case round =>
    obtain ⟨j, rfl, hj, HT, hb⟩ := hrel
    have hw := blk_below hb
    by_cases hlt : j < an
    · have c4 := blk_cell hb 4 rfl
      obtain ⟨u, hu⟩ : ∃ u, vs[j]? = some u := ⟨_, List.getElem?_eq_getElem (by rw [← han.out]; exact hlt)⟩
      obtain ⟨hun, kb, ko, rfl, hkb, hc⟩ := HGV.out j u hu
      have e0 := (hw.cell (p := ⟨kb, _, none⟩) (HB.out kb hkb)).trans hc.1
      have e1 := (hw.cell (p := ⟨kb, _, none⟩) (HB.out kb hkb)).trans hc.2.1
      have e2 := (hw.cell (p := ⟨kb, _, none⟩) (HB.out kb hkb)).trans hc.2.2
      have HX := Lib.hid hu
      obtain ⟨uk, un', uy⟩ := u
      simp only at e0 e1 e2 hun
      obtain ⟨vb, hvb⟩ : ∃ b, vlB ⟨uk, un', uy⟩ = b := ⟨_, rfl⟩
      have HV := Lib.hid (fun W => rvalue_any uk uy un' vb hvb hun W)
      have HVB := Lib.hid hvb
      clear hc hu hvb hun
      cases vb with
      | false =>
        have hf : Hid (vlsB vs = false) := Lib.hid (by
          unfold vlsB
          rw [decide_eq_false_iff_not]
          intro h
          have := h _ (List.mem_of_getElem? HX.out)
          rw [HVB.out] at this
          cases this)
        go_wp2_with (go_at_call 81; refine (HV.out _).mono ?_; rintro e w2 ⟨rfl, g⟩)
        go_ret
        exact ⟨ret_bool (by rw [hf.out, Bool.false_and]), hw.trans (g.mono hw.size)⟩
      | true =>
        have hf : Hid (∀ v ∈ vs.take (j + 1), vlB v = true) := Lib.hid (by
          rw [take_snoc_get HX.out]
          intro q hq
          rcases List.mem_append.1 hq with hq | hq
          · exact HT.out q hq
          · obtain rfl := List.mem_singleton.1 hq
            exact HVB.out)
        go_wp2_with (go_at_call 81; refine (HV.out _).mono ?_; rintro e w2 ⟨rfl, g⟩)
        go_roundw
        case rel => exact ⟨j + 1, by go_num, by omega, hf, gnext hb g⟩
        case measure => simp [intOf]; omega
    · obtain rfl : j = an := by omega
      have HVT : Hid (vlsB vs = true) := Lib.hid (by
        have := HT.out
        rw [List.take_of_length_le (by rw [han.out]; exact Nat.le_refl _)] at this
        unfold vlsB
        rw [decide_eq_true_eq]
        exact this)
      clear HT
      have c0 := blk_cell hb 0 rfl
      have c1 := blk_cell hb 1 rfl
      have c2 := blk_cell hb 2 rfl
      have c3 := blk_cell hb 3 rfl
      have c4 := blk_cell hb 4 rfl
      have c5 := blk_cell hb 5 rfl
      have c6 := blk_cell hb 6 rfl
      have c7 := blk_cell hb 7 rfl
      have c8 := blk_cell hb 8 rfl
      have c9 := blk_cell hb 9 rfl
      have c10 := blk_cell hb 10 rfl
      have c11 := blk_cell hb 11 rfl
      go_wp2_with (first | (go_at_call 82; refine (HPL.out _ _ _ (by omega) (by omega) (by omega) _ (blk_below (by assumption))).mono ?_; rintro e w2 ⟨rfl, g⟩; have gb2 := gnext (by assumption) g))
      all_goals (go_ret; refine ⟨ret_bool ?_, ?_⟩; rotate_left; (first | exact blk_below (by assumption) | exact below_drewN (blk_below (by assumption)) _); rw [HVT.out, Bool.true_and]; (try (first | rw [show decide (j = 0) = true from decide_eq_true (by omega)] | rw [show decide (j = 0) = false from decide_eq_false (by omega)])); (try (first | rw [show decide (ln = 0) = true from decide_eq_true (by omega)] | rw [show decide (ln = 0) = false from decide_eq_false (by omega)])); (try (first | rw [show decide (kn = 0) = true from decide_eq_true (by omega)] | rw [show decide (kn = 0) = false from decide_eq_false (by omega)])); clear HGV HGK HGL HVL HB HPL HVT; (try simp_all); (try (rw [Bool.eq_iff_iff]; simp)); (try omega))

end Go.Proofs.YtliijbcgkkiekaaGreatDoor

/- Processes: the reference's node, kind 2. -/
namespace Go.Proofs.YtliijbcgkkiekaaGreatDoor
open Go.RowKit Go.Deep Go.Shelf

set_option maxHeartbeats 8000000 in
set_option maxRecDepth 100000 in
theorem rnode_2 (B : Nat → Prop) (c x : ByteArray) (ls : List ByteArray) (vs : List Vl) (t : Ty) (ps : List Pr) (_hsz : t.size ≤ 1000000) (v : Value) (w : World) (hB : Low B w) (hv : PrVal B w v (Pr.mk 2 c x ls vs t ps)) :
    Calls Tryz.prog 63 #[v] w fun e w' => e = .returned (.bool (Pr.mk 2 c x ls vs t ps).okN) ∧ Below w.heap.size w w' := by
  have hv0 := hv
  obtain ⟨lv, av, tl, tk, kv, rfl, ⟨hcs, hxs⟩, hl, ha, ht, hk⟩ := hv
  replace hcs : c.size ≤ maxLen := hcs
  replace hxs : x.size ≤ maxLen := hxs
  replace hl : StrSl B w lv ls := hl
  replace ha : VlSl B w av vs := ha
  replace hk : PrSl B w kv ps := hk
  replace ht : TyVal B w (.agg #[.int .i64 t.k, .int .i64 t.p, .string t.n, .int .i64 t.s, tl, tk]) t := ht
  have hlB := fun W (hW : Below w.heap.size w W) => rlabels_any B lv ls W (hB.le hW.size) (hl.keep (hW.keeps'.mono hB))
  obtain ⟨ka, kn, kc, rfl, hkn, hkm, hkg⟩ := hk.open
  obtain ⟨aa, an, ac, rfl, han, ham, hag⟩ := ha.open
  obtain ⟨la, ln, lc, rfl, hln, hlm, hlg⟩ := hl.open
  obtain ⟨⟨ta, tn, tc, rfl⟩, ua, un, uc, rfl⟩ := slices_of ht
  have hs : (Pr.mk 2 c x ls vs t ps).okN = (vlsB vs && (nameB c && (x.toList.isEmpty && (decide (vs.length = 1) && (decide (ls.length = 0) && (decide (ps.length = 1) && eqB t default)))))) := okN_2 c x ls vs t ps
  rw [← han.out, ← hln.out, ← hkn.out] at hs
  obtain ⟨nc, hnc⟩ : ∃ b, nameB c = b := ⟨_, rfl⟩
  have HNC := Lib.hid (fun W => rpname_any c nc hnc hcs W)
  rw [hnc] at hs
  clear hnc
  obtain ⟨pl, hpl⟩ : ∃ b, eqB t default = b := ⟨_, rfl⟩
  have HPL : Hid (∀ (n1 n2 n3 : Nat), n1 = an → n2 = ln → n3 = kn → ∀ W, Below w.heap.size w W → Calls Tryz.prog 82 #[.agg #[.int .i64 2, .string c, .string x, .slice la n2 lc, .slice aa n1 ac, .int .i64 t.k, .int .i64 t.p, .string t.n, .int .i64 t.s, .slice ta tn tc, .slice ua un uc, .slice ka n3 kc]] W fun e w' => e = .returned (.bool pl) ∧ Below W.heap.size W w') := Lib.hid (by
    rintro _ _ _ rfl rfl rfl
    exact fun W hW => rplain_any B (Pr.mk 2 c x ls vs t ps) pl hpl _ W (hB.le hW.size) (hv0.to hB hW))
  rw [hpl] at hs
  clear hpl
  have HGV := Lib.hid hag
  have HGK := Lib.hid hkg
  have HGL := Lib.hid hlg
  have HVL := Lib.hid (rfl : vlsB vs = vlsB vs)
  rw [hs]
  have HB := Lib.hid hB
  clear hs hv0 hcs hxs hl ha ht hk hlB hkg hag hlg hB
  go_enter Tryz.func63, Tryz.ntmps63
  go_wp2_with fail
  go_loopw [3] (fun i wr => ∃ (j : Nat), i = .int .i64 j ∧ j ≤ an ∧ Hid (∀ v ∈ vs.take j, vlB v = true) ∧ Below (w.heap.size + 1) (w.alloc (Obj.cells #[.int .i64 2, .string c, .string x, .slice la ln lc, .slice aa an ac, .int .i64 t.k, .int .i64 t.p, .string t.n, .int .i64 t.s, .slice ta tn tc, .slice ua un uc, .slice ka kn kc] 29)) wr) (fun i _ => an - (intOf i).toNat)
  case atStart => exact ⟨0, rfl, by omega, Lib.hid (by simp), Below.refl _ _⟩
  case round =>
    obtain ⟨j, rfl, hj, HT, hb⟩ := hrel
    have hw := blk_below hb
    by_cases hlt : j < an
    · have c4 := blk_cell hb 4 rfl
      obtain ⟨u, hu⟩ : ∃ u, vs[j]? = some u := ⟨_, List.getElem?_eq_getElem (by rw [← han.out]; exact hlt)⟩
      obtain ⟨hun, kb, ko, rfl, hkb, hc⟩ := HGV.out j u hu
      have e0 := (hw.cell (p := ⟨kb, _, none⟩) (HB.out kb hkb)).trans hc.1
      have e1 := (hw.cell (p := ⟨kb, _, none⟩) (HB.out kb hkb)).trans hc.2.1
      have e2 := (hw.cell (p := ⟨kb, _, none⟩) (HB.out kb hkb)).trans hc.2.2
      have HX := Lib.hid hu
      obtain ⟨uk, un', uy⟩ := u
      simp only at e0 e1 e2 hun
      obtain ⟨vb, hvb⟩ : ∃ b, vlB ⟨uk, un', uy⟩ = b := ⟨_, rfl⟩
      have HV := Lib.hid (fun W => rvalue_any uk uy un' vb hvb hun W)
      have HVB := Lib.hid hvb
      clear hc hu hvb hun
      cases vb with
      | false =>
        have hf : Hid (vlsB vs = false) := Lib.hid (by
          unfold vlsB
          rw [decide_eq_false_iff_not]
          intro h
          have := h _ (List.mem_of_getElem? HX.out)
          rw [HVB.out] at this
          cases this)
        go_wp2_with (go_at_call 81; refine (HV.out _).mono ?_; rintro e w2 ⟨rfl, g⟩)
        go_ret
        exact ⟨ret_bool (by rw [hf.out, Bool.false_and]), hw.trans (g.mono hw.size)⟩
      | true =>
        have hf : Hid (∀ v ∈ vs.take (j + 1), vlB v = true) := Lib.hid (by
          rw [take_snoc_get HX.out]
          intro q hq
          rcases List.mem_append.1 hq with hq | hq
          · exact HT.out q hq
          · obtain rfl := List.mem_singleton.1 hq
            exact HVB.out)
        go_wp2_with (go_at_call 81; refine (HV.out _).mono ?_; rintro e w2 ⟨rfl, g⟩)
        go_roundw
        case rel => exact ⟨j + 1, by go_num, by omega, hf, gnext hb g⟩
        case measure => simp [intOf]; omega
    · obtain rfl : j = an := by omega
      have HVT : Hid (vlsB vs = true) := Lib.hid (by
        have := HT.out
        rw [List.take_of_length_le (by rw [han.out]; exact Nat.le_refl _)] at this
        unfold vlsB
        rw [decide_eq_true_eq]
        exact this)
      clear HT
      have c0 := blk_cell hb 0 rfl
      have c1 := blk_cell hb 1 rfl
      have c2 := blk_cell hb 2 rfl
      have c3 := blk_cell hb 3 rfl
      have c4 := blk_cell hb 4 rfl
      have c5 := blk_cell hb 5 rfl
      have c6 := blk_cell hb 6 rfl
      have c7 := blk_cell hb 7 rfl
      have c8 := blk_cell hb 8 rfl
      have c9 := blk_cell hb 9 rfl
      have c10 := blk_cell hb 10 rfl
      have c11 := blk_cell hb 11 rfl
      go_wp2_with (first | (go_at_call 33; with_reducible refine (HNC.out _).mono ?_; rintro e w2 ⟨rfl, g⟩; have gb2 := gnext (by assumption) g; have c0 := blk_cell gb2 0 rfl; have c1 := blk_cell gb2 1 rfl; have c2 := blk_cell gb2 2 rfl; have c3 := blk_cell gb2 3 rfl; have c4 := blk_cell gb2 4 rfl; have c5 := blk_cell gb2 5 rfl; have c6 := blk_cell gb2 6 rfl; have c7 := blk_cell gb2 7 rfl; have c8 := blk_cell gb2 8 rfl; have c9 := blk_cell gb2 9 rfl; have c10 := blk_cell gb2 10 rfl; have c11 := blk_cell gb2 11 rfl) | (go_at_call 82; refine (HPL.out _ _ _ (by omega) (by omega) (by omega) _ (blk_below (by assumption))).mono ?_; rintro e w2 ⟨rfl, g⟩; have gb2 := gnext (by assumption) g))
      all_goals (go_ret; refine ⟨ret_bool ?_, ?_⟩; rotate_left; (first | exact blk_below (by assumption) | exact below_drewN (blk_below (by assumption)) _); rw [HVT.out, Bool.true_and]; (try (first | rw [show decide (j = 1) = true from decide_eq_true (by omega)] | rw [show decide (j = 1) = false from decide_eq_false (by omega)])); (try (first | rw [show decide (ln = 0) = true from decide_eq_true (by omega)] | rw [show decide (ln = 0) = false from decide_eq_false (by omega)])); (try (first | rw [show decide (kn = 1) = true from decide_eq_true (by omega)] | rw [show decide (kn = 1) = false from decide_eq_false (by omega)])); clear HGV HGK HGL HVL HB HNC HPL HVT; (try simp_all); (try (rw [Bool.eq_iff_iff]; simp)); (try omega))

end Go.Proofs.YtliijbcgkkiekaaGreatDoor

/- Processes: the reference's node, kind 3. -/
namespace Go.Proofs.YtliijbcgkkiekaaGreatDoor
open Go.RowKit Go.Deep Go.Shelf

set_option maxHeartbeats 8000000 in
set_option maxRecDepth 100000 in
theorem rnode_3 (B : Nat → Prop) (c x : ByteArray) (ls : List ByteArray) (vs : List Vl) (t : Ty) (ps : List Pr) (_hsz : t.size ≤ 1000000) (v : Value) (w : World) (hB : Low B w) (hv : PrVal B w v (Pr.mk 3 c x ls vs t ps)) :
    Calls Tryz.prog 63 #[v] w fun e w' => e = .returned (.bool (Pr.mk 3 c x ls vs t ps).okN) ∧ Below w.heap.size w w' := by
  have hv0 := hv
  obtain ⟨lv, av, tl, tk, kv, rfl, ⟨hcs, hxs⟩, hl, ha, ht, hk⟩ := hv
  replace hcs : c.size ≤ maxLen := hcs
  replace hxs : x.size ≤ maxLen := hxs
  replace hl : StrSl B w lv ls := hl
  replace ha : VlSl B w av vs := ha
  replace hk : PrSl B w kv ps := hk
  replace ht : TyVal B w (.agg #[.int .i64 t.k, .int .i64 t.p, .string t.n, .int .i64 t.s, tl, tk]) t := ht
  have hlB := fun W (hW : Below w.heap.size w W) => rlabels_any B lv ls W (hB.le hW.size) (hl.keep (hW.keeps'.mono hB))
  obtain ⟨ka, kn, kc, rfl, hkn, hkm, hkg⟩ := hk.open
  obtain ⟨aa, an, ac, rfl, han, ham, hag⟩ := ha.open
  obtain ⟨la, ln, lc, rfl, hln, hlm, hlg⟩ := hl.open
  obtain ⟨⟨ta, tn, tc, rfl⟩, ua, un, uc, rfl⟩ := slices_of ht
  have hs : (Pr.mk 3 c x ls vs t ps).okN = (vlsB vs && (nameB c && (nameB x && (decide (vs.length = 0) && (decide (ls.length = 0) && (decide (ps.length = 1) && eqB t default)))))) := okN_3 c x ls vs t ps
  rw [← han.out, ← hln.out, ← hkn.out] at hs
  obtain ⟨nc, hnc⟩ : ∃ b, nameB c = b := ⟨_, rfl⟩
  have HNC := Lib.hid (fun W => rpname_any c nc hnc hcs W)
  rw [hnc] at hs
  clear hnc
  obtain ⟨nx, hnx⟩ : ∃ b, nameB x = b := ⟨_, rfl⟩
  have HNX := Lib.hid (fun W => rpname_any x nx hnx hxs W)
  rw [hnx] at hs
  clear hnx
  obtain ⟨pl, hpl⟩ : ∃ b, eqB t default = b := ⟨_, rfl⟩
  have HPL : Hid (∀ (n1 n2 n3 : Nat), n1 = an → n2 = ln → n3 = kn → ∀ W, Below w.heap.size w W → Calls Tryz.prog 82 #[.agg #[.int .i64 3, .string c, .string x, .slice la n2 lc, .slice aa n1 ac, .int .i64 t.k, .int .i64 t.p, .string t.n, .int .i64 t.s, .slice ta tn tc, .slice ua un uc, .slice ka n3 kc]] W fun e w' => e = .returned (.bool pl) ∧ Below W.heap.size W w') := Lib.hid (by
    rintro _ _ _ rfl rfl rfl
    exact fun W hW => rplain_any B (Pr.mk 3 c x ls vs t ps) pl hpl _ W (hB.le hW.size) (hv0.to hB hW))
  rw [hpl] at hs
  clear hpl
  have HGV := Lib.hid hag
  have HGK := Lib.hid hkg
  have HGL := Lib.hid hlg
  have HVL := Lib.hid (rfl : vlsB vs = vlsB vs)
  rw [hs]
  have HB := Lib.hid hB
  clear hs hv0 hcs hxs hl ha ht hk hlB hkg hag hlg hB
  go_enter Tryz.func63, Tryz.ntmps63
  go_wp2_with fail
  go_loopw [3] (fun i wr => ∃ (j : Nat), i = .int .i64 j ∧ j ≤ an ∧ Hid (∀ v ∈ vs.take j, vlB v = true) ∧ Below (w.heap.size + 1) (w.alloc (Obj.cells #[.int .i64 3, .string c, .string x, .slice la ln lc, .slice aa an ac, .int .i64 t.k, .int .i64 t.p, .string t.n, .int .i64 t.s, .slice ta tn tc, .slice ua un uc, .slice ka kn kc] 29)) wr) (fun i _ => an - (intOf i).toNat)
  case atStart => exact ⟨0, rfl, by omega, Lib.hid (by simp), Below.refl _ _⟩
  case round =>
    obtain ⟨j, rfl, hj, HT, hb⟩ := hrel
    have hw := blk_below hb
    by_cases hlt : j < an
    · have c4 := blk_cell hb 4 rfl
      obtain ⟨u, hu⟩ : ∃ u, vs[j]? = some u := ⟨_, List.getElem?_eq_getElem (by rw [← han.out]; exact hlt)⟩
      obtain ⟨hun, kb, ko, rfl, hkb, hc⟩ := HGV.out j u hu
      have e0 := (hw.cell (p := ⟨kb, _, none⟩) (HB.out kb hkb)).trans hc.1
      have e1 := (hw.cell (p := ⟨kb, _, none⟩) (HB.out kb hkb)).trans hc.2.1
      have e2 := (hw.cell (p := ⟨kb, _, none⟩) (HB.out kb hkb)).trans hc.2.2
      have HX := Lib.hid hu
      obtain ⟨uk, un', uy⟩ := u
      simp only at e0 e1 e2 hun
      obtain ⟨vb, hvb⟩ : ∃ b, vlB ⟨uk, un', uy⟩ = b := ⟨_, rfl⟩
      have HV := Lib.hid (fun W => rvalue_any uk uy un' vb hvb hun W)
      have HVB := Lib.hid hvb
      clear hc hu hvb hun
      cases vb with
      | false =>
        have hf : Hid (vlsB vs = false) := Lib.hid (by
          unfold vlsB
          rw [decide_eq_false_iff_not]
          intro h
          have := h _ (List.mem_of_getElem? HX.out)
          rw [HVB.out] at this
          cases this)
        go_wp2_with (go_at_call 81; refine (HV.out _).mono ?_; rintro e w2 ⟨rfl, g⟩)
        go_ret
        exact ⟨ret_bool (by rw [hf.out, Bool.false_and]), hw.trans (g.mono hw.size)⟩
      | true =>
        have hf : Hid (∀ v ∈ vs.take (j + 1), vlB v = true) := Lib.hid (by
          rw [take_snoc_get HX.out]
          intro q hq
          rcases List.mem_append.1 hq with hq | hq
          · exact HT.out q hq
          · obtain rfl := List.mem_singleton.1 hq
            exact HVB.out)
        go_wp2_with (go_at_call 81; refine (HV.out _).mono ?_; rintro e w2 ⟨rfl, g⟩)
        go_roundw
        case rel => exact ⟨j + 1, by go_num, by omega, hf, gnext hb g⟩
        case measure => simp [intOf]; omega
    · obtain rfl : j = an := by omega
      have HVT : Hid (vlsB vs = true) := Lib.hid (by
        have := HT.out
        rw [List.take_of_length_le (by rw [han.out]; exact Nat.le_refl _)] at this
        unfold vlsB
        rw [decide_eq_true_eq]
        exact this)
      clear HT
      have c0 := blk_cell hb 0 rfl
      have c1 := blk_cell hb 1 rfl
      have c2 := blk_cell hb 2 rfl
      have c3 := blk_cell hb 3 rfl
      have c4 := blk_cell hb 4 rfl
      have c5 := blk_cell hb 5 rfl
      have c6 := blk_cell hb 6 rfl
      have c7 := blk_cell hb 7 rfl
      have c8 := blk_cell hb 8 rfl
      have c9 := blk_cell hb 9 rfl
      have c10 := blk_cell hb 10 rfl
      have c11 := blk_cell hb 11 rfl
      go_wp2_with (first | (go_at_call 33; with_reducible refine (HNC.out _).mono ?_; rintro e w2 ⟨rfl, g⟩; have gb2 := gnext (by assumption) g; have c0 := blk_cell gb2 0 rfl; have c1 := blk_cell gb2 1 rfl; have c2 := blk_cell gb2 2 rfl; have c3 := blk_cell gb2 3 rfl; have c4 := blk_cell gb2 4 rfl; have c5 := blk_cell gb2 5 rfl; have c6 := blk_cell gb2 6 rfl; have c7 := blk_cell gb2 7 rfl; have c8 := blk_cell gb2 8 rfl; have c9 := blk_cell gb2 9 rfl; have c10 := blk_cell gb2 10 rfl; have c11 := blk_cell gb2 11 rfl) | (go_at_call 33; with_reducible refine (HNX.out _).mono ?_; rintro e w2 ⟨rfl, g⟩; have gb2 := gnext (by assumption) g; have c0 := blk_cell gb2 0 rfl; have c1 := blk_cell gb2 1 rfl; have c2 := blk_cell gb2 2 rfl; have c3 := blk_cell gb2 3 rfl; have c4 := blk_cell gb2 4 rfl; have c5 := blk_cell gb2 5 rfl; have c6 := blk_cell gb2 6 rfl; have c7 := blk_cell gb2 7 rfl; have c8 := blk_cell gb2 8 rfl; have c9 := blk_cell gb2 9 rfl; have c10 := blk_cell gb2 10 rfl; have c11 := blk_cell gb2 11 rfl) | (go_at_call 82; refine (HPL.out _ _ _ (by omega) (by omega) (by omega) _ (blk_below (by assumption))).mono ?_; rintro e w2 ⟨rfl, g⟩; have gb2 := gnext (by assumption) g))
      all_goals (go_ret; refine ⟨ret_bool ?_, ?_⟩; rotate_left; (first | exact blk_below (by assumption) | exact below_drewN (blk_below (by assumption)) _); rw [HVT.out, Bool.true_and]; (try (first | rw [show decide (j = 0) = true from decide_eq_true (by omega)] | rw [show decide (j = 0) = false from decide_eq_false (by omega)])); (try (first | rw [show decide (ln = 0) = true from decide_eq_true (by omega)] | rw [show decide (ln = 0) = false from decide_eq_false (by omega)])); (try (first | rw [show decide (kn = 1) = true from decide_eq_true (by omega)] | rw [show decide (kn = 1) = false from decide_eq_false (by omega)])); clear HGV HGK HGL HVL HB HNC HNX HPL HVT; (try simp_all); (try (rw [Bool.eq_iff_iff]; simp)); (try omega))

end Go.Proofs.YtliijbcgkkiekaaGreatDoor

/- Processes: the reference's node, kind 4. -/
namespace Go.Proofs.YtliijbcgkkiekaaGreatDoor
open Go.RowKit Go.Deep Go.Shelf

set_option maxHeartbeats 8000000 in
set_option maxRecDepth 100000 in
theorem rnode_4 (B : Nat → Prop) (c x : ByteArray) (ls : List ByteArray) (vs : List Vl) (t : Ty) (ps : List Pr) (_hsz : t.size ≤ 1000000) (v : Value) (w : World) (hB : Low B w) (hv : PrVal B w v (Pr.mk 4 c x ls vs t ps)) :
    Calls Tryz.prog 63 #[v] w fun e w' => e = .returned (.bool (Pr.mk 4 c x ls vs t ps).okN) ∧ Below w.heap.size w w' := by
  have hv0 := hv
  obtain ⟨lv, av, tl, tk, kv, rfl, ⟨hcs, hxs⟩, hl, ha, ht, hk⟩ := hv
  replace hcs : c.size ≤ maxLen := hcs
  replace hxs : x.size ≤ maxLen := hxs
  replace hl : StrSl B w lv ls := hl
  replace ha : VlSl B w av vs := ha
  replace hk : PrSl B w kv ps := hk
  replace ht : TyVal B w (.agg #[.int .i64 t.k, .int .i64 t.p, .string t.n, .int .i64 t.s, tl, tk]) t := ht
  have hlB := fun W (hW : Below w.heap.size w W) => rlabels_any B lv ls W (hB.le hW.size) (hl.keep (hW.keeps'.mono hB))
  obtain ⟨ka, kn, kc, rfl, hkn, hkm, hkg⟩ := hk.open
  obtain ⟨aa, an, ac, rfl, han, ham, hag⟩ := ha.open
  obtain ⟨la, ln, lc, rfl, hln, hlm, hlg⟩ := hl.open
  obtain ⟨⟨ta, tn, tc, rfl⟩, ua, un, uc, rfl⟩ := slices_of ht
  have hs : (Pr.mk 4 c x ls vs t ps).okN = (vlsB vs && (nameB c && (x.toList.isEmpty && (decide (vs.length = 0) && (decide (ls.length = 1) && (labelsB ls && (decide (ps.length = 1) && eqB t default))))))) := okN_4 c x ls vs t ps
  rw [← han.out, ← hln.out, ← hkn.out] at hs
  obtain ⟨nc, hnc⟩ : ∃ b, nameB c = b := ⟨_, rfl⟩
  have HNC := Lib.hid (fun W => rpname_any c nc hnc hcs W)
  rw [hnc] at hs
  clear hnc
  obtain ⟨pl, hpl⟩ : ∃ b, eqB t default = b := ⟨_, rfl⟩
  have HPL : Hid (∀ (n1 n2 n3 : Nat), n1 = an → n2 = ln → n3 = kn → ∀ W, Below w.heap.size w W → Calls Tryz.prog 82 #[.agg #[.int .i64 4, .string c, .string x, .slice la n2 lc, .slice aa n1 ac, .int .i64 t.k, .int .i64 t.p, .string t.n, .int .i64 t.s, .slice ta tn tc, .slice ua un uc, .slice ka n3 kc]] W fun e w' => e = .returned (.bool pl) ∧ Below W.heap.size W w') := Lib.hid (by
    rintro _ _ _ rfl rfl rfl
    exact fun W hW => rplain_any B (Pr.mk 4 c x ls vs t ps) pl hpl _ W (hB.le hW.size) (hv0.to hB hW))
  rw [hpl] at hs
  clear hpl
  have HGV := Lib.hid hag
  have HGK := Lib.hid hkg
  have HGL := Lib.hid hlg
  have HVL := Lib.hid (rfl : vlsB vs = vlsB vs)
  rw [hs]
  have HB := Lib.hid hB
  have HLS := Lib.hid hln.out
  clear hs hv0 hcs hxs hl ha ht hk hlB hkg hag hlg hB
  by_cases hl1 : ln = 1
  · subst hl1
    obtain ⟨z, hz⟩ : ∃ z, ls = [z] := List.length_eq_one_iff.1 HLS.out.symm
    obtain ⟨hzs, lb, lo, rfl, hlb, hlc⟩ := HGL.out 0 z (by rw [hz]; rfl)
    have HLC : Hid (∀ W, Below w.heap.size w W → W.cell? ⟨lb, lo, none⟩ = some (.string z)) := Lib.hid (fun W hW => (hW.cell (p := ⟨lb, lo, none⟩) (HB.out lb hlb)).trans hlc)
    rw [labelsB_one hz]
    obtain ⟨nz, hnz⟩ : ∃ b, nameB z = b := ⟨_, rfl⟩
    have HNS := Lib.hid (fun W => rpname_any z nz hnz hzs W)
    rw [hnz]
    clear hz hnz hzs hlc HLS hlb
    go_enter Tryz.func63, Tryz.ntmps63
    go_wp2_with fail
    go_loopw [3] (fun i wr => ∃ (j : Nat), i = .int .i64 j ∧ j ≤ an ∧ Hid (∀ v ∈ vs.take j, vlB v = true) ∧ Below (w.heap.size + 1) (w.alloc (Obj.cells #[.int .i64 4, .string c, .string x, .slice (some ⟨lb, lo, none⟩) 1 lc, .slice aa an ac, .int .i64 t.k, .int .i64 t.p, .string t.n, .int .i64 t.s, .slice ta tn tc, .slice ua un uc, .slice ka kn kc] 29)) wr) (fun i _ => an - (intOf i).toNat)
    case atStart => exact ⟨0, rfl, by omega, Lib.hid (by simp), Below.refl _ _⟩
    case round =>
      obtain ⟨j, rfl, hj, HT, hb⟩ := hrel
      have hw := blk_below hb
      by_cases hlt : j < an
      · have c4 := blk_cell hb 4 rfl
        obtain ⟨u, hu⟩ : ∃ u, vs[j]? = some u := ⟨_, List.getElem?_eq_getElem (by rw [← han.out]; exact hlt)⟩
        obtain ⟨hun, kb, ko, rfl, hkb, hc⟩ := HGV.out j u hu
        have e0 := (hw.cell (p := ⟨kb, _, none⟩) (HB.out kb hkb)).trans hc.1
        have e1 := (hw.cell (p := ⟨kb, _, none⟩) (HB.out kb hkb)).trans hc.2.1
        have e2 := (hw.cell (p := ⟨kb, _, none⟩) (HB.out kb hkb)).trans hc.2.2
        have HX := Lib.hid hu
        obtain ⟨uk, un', uy⟩ := u
        simp only at e0 e1 e2 hun
        obtain ⟨vb, hvb⟩ : ∃ b, vlB ⟨uk, un', uy⟩ = b := ⟨_, rfl⟩
        have HV := Lib.hid (fun W => rvalue_any uk uy un' vb hvb hun W)
        have HVB := Lib.hid hvb
        clear hc hu hvb hun
        cases vb with
        | false =>
          have hf : Hid (vlsB vs = false) := Lib.hid (by
            unfold vlsB
            rw [decide_eq_false_iff_not]
            intro h
            have := h _ (List.mem_of_getElem? HX.out)
            rw [HVB.out] at this
            cases this)
          go_wp2_with (go_at_call 81; refine (HV.out _).mono ?_; rintro e w2 ⟨rfl, g⟩)
          go_ret
          exact ⟨ret_bool (by rw [hf.out, Bool.false_and]), hw.trans (g.mono hw.size)⟩
        | true =>
          have hf : Hid (∀ v ∈ vs.take (j + 1), vlB v = true) := Lib.hid (by
            rw [take_snoc_get HX.out]
            intro q hq
            rcases List.mem_append.1 hq with hq | hq
            · exact HT.out q hq
            · obtain rfl := List.mem_singleton.1 hq
              exact HVB.out)
          go_wp2_with (go_at_call 81; refine (HV.out _).mono ?_; rintro e w2 ⟨rfl, g⟩)
          go_roundw
          case rel => exact ⟨j + 1, by go_num, by omega, hf, gnext hb g⟩
          case measure => simp [intOf]; omega
      · obtain rfl : j = an := by omega
        have HVT : Hid (vlsB vs = true) := Lib.hid (by
          have := HT.out
          rw [List.take_of_length_le (by rw [han.out]; exact Nat.le_refl _)] at this
          unfold vlsB
          rw [decide_eq_true_eq]
          exact this)
        clear HT
        have c0 := blk_cell hb 0 rfl
        have c1 := blk_cell hb 1 rfl
        have c2 := blk_cell hb 2 rfl
        have c3 := blk_cell hb 3 rfl
        have c4 := blk_cell hb 4 rfl
        have c5 := blk_cell hb 5 rfl
        have c6 := blk_cell hb 6 rfl
        have c7 := blk_cell hb 7 rfl
        have c8 := blk_cell hb 8 rfl
        have c9 := blk_cell hb 9 rfl
        have c10 := blk_cell hb 10 rfl
        have c11 := blk_cell hb 11 rfl
        have el := HLC.out _ hw
        go_wp2_with (first | (go_at_call 33; with_reducible refine (HNC.out _).mono ?_; rintro e w2 ⟨rfl, g⟩; have gb2 := gnext (by assumption) g; have c0 := blk_cell gb2 0 rfl; have c1 := blk_cell gb2 1 rfl; have c2 := blk_cell gb2 2 rfl; have c3 := blk_cell gb2 3 rfl; have c4 := blk_cell gb2 4 rfl; have c5 := blk_cell gb2 5 rfl; have c6 := blk_cell gb2 6 rfl; have c7 := blk_cell gb2 7 rfl; have c8 := blk_cell gb2 8 rfl; have c9 := blk_cell gb2 9 rfl; have c10 := blk_cell gb2 10 rfl; have c11 := blk_cell gb2 11 rfl; have el := HLC.out _ (blk_below gb2)) | (go_at_call 33; with_reducible refine (HNS.out _).mono ?_; rintro e w2 ⟨rfl, g⟩; have gb2 := gnext (by assumption) g; have c0 := blk_cell gb2 0 rfl; have c1 := blk_cell gb2 1 rfl; have c2 := blk_cell gb2 2 rfl; have c3 := blk_cell gb2 3 rfl; have c4 := blk_cell gb2 4 rfl; have c5 := blk_cell gb2 5 rfl; have c6 := blk_cell gb2 6 rfl; have c7 := blk_cell gb2 7 rfl; have c8 := blk_cell gb2 8 rfl; have c9 := blk_cell gb2 9 rfl; have c10 := blk_cell gb2 10 rfl; have c11 := blk_cell gb2 11 rfl; have el := HLC.out _ (blk_below gb2)) | (go_at_call 82; refine (HPL.out _ _ _ (by omega) (by omega) (by omega) _ (blk_below (by assumption))).mono ?_; rintro e w2 ⟨rfl, g⟩; have gb2 := gnext (by assumption) g))
        all_goals (go_ret; refine ⟨ret_bool ?_, ?_⟩; rotate_left; (first | exact blk_below (by assumption) | exact below_drewN (blk_below (by assumption)) _); rw [HVT.out, Bool.true_and]; (try (first | rw [show decide (j = 0) = true from decide_eq_true (by omega)] | rw [show decide (j = 0) = false from decide_eq_false (by omega)])); (try (first | rw [show decide (kn = 1) = true from decide_eq_true (by omega)] | rw [show decide (kn = 1) = false from decide_eq_false (by omega)])); clear HGV HGK HGL HVL HB HNC HPL HNS HLC HVT; (try simp_all); (try (rw [Bool.eq_iff_iff]; simp)); (try omega))
  · have hl2 : ((ln : Int) == 1) = false := by simp; omega
    have HF := Lib.hid (decide_eq_false hl1)
    clear hl1
    go_enter Tryz.func63, Tryz.ntmps63
    go_wp2_with fail
    go_loopw [3] (fun i wr => ∃ (j : Nat), i = .int .i64 j ∧ j ≤ an ∧ Hid (∀ v ∈ vs.take j, vlB v = true) ∧ Below (w.heap.size + 1) (w.alloc (Obj.cells #[.int .i64 4, .string c, .string x, .slice la ln lc, .slice aa an ac, .int .i64 t.k, .int .i64 t.p, .string t.n, .int .i64 t.s, .slice ta tn tc, .slice ua un uc, .slice ka kn kc] 29)) wr) (fun i _ => an - (intOf i).toNat)
    case atStart => exact ⟨0, rfl, by omega, Lib.hid (by simp), Below.refl _ _⟩
    case round =>
      obtain ⟨j, rfl, hj, HT, hb⟩ := hrel
      have hw := blk_below hb
      by_cases hlt : j < an
      · have c4 := blk_cell hb 4 rfl
        obtain ⟨u, hu⟩ : ∃ u, vs[j]? = some u := ⟨_, List.getElem?_eq_getElem (by rw [← han.out]; exact hlt)⟩
        obtain ⟨hun, kb, ko, rfl, hkb, hc⟩ := HGV.out j u hu
        have e0 := (hw.cell (p := ⟨kb, _, none⟩) (HB.out kb hkb)).trans hc.1
        have e1 := (hw.cell (p := ⟨kb, _, none⟩) (HB.out kb hkb)).trans hc.2.1
        have e2 := (hw.cell (p := ⟨kb, _, none⟩) (HB.out kb hkb)).trans hc.2.2
        have HX := Lib.hid hu
        obtain ⟨uk, un', uy⟩ := u
        simp only at e0 e1 e2 hun
        obtain ⟨vb, hvb⟩ : ∃ b, vlB ⟨uk, un', uy⟩ = b := ⟨_, rfl⟩
        have HV := Lib.hid (fun W => rvalue_any uk uy un' vb hvb hun W)
        have HVB := Lib.hid hvb
        clear hc hu hvb hun
        cases vb with
        | false =>
          have hf : Hid (vlsB vs = false) := Lib.hid (by
            unfold vlsB
            rw [decide_eq_false_iff_not]
            intro h
            have := h _ (List.mem_of_getElem? HX.out)
            rw [HVB.out] at this
            cases this)
          go_wp2_with (go_at_call 81; refine (HV.out _).mono ?_; rintro e w2 ⟨rfl, g⟩)
          go_ret
          exact ⟨ret_bool (by rw [hf.out, Bool.false_and]), hw.trans (g.mono hw.size)⟩
        | true =>
          have hf : Hid (∀ v ∈ vs.take (j + 1), vlB v = true) := Lib.hid (by
            rw [take_snoc_get HX.out]
            intro q hq
            rcases List.mem_append.1 hq with hq | hq
            · exact HT.out q hq
            · obtain rfl := List.mem_singleton.1 hq
              exact HVB.out)
          go_wp2_with (go_at_call 81; refine (HV.out _).mono ?_; rintro e w2 ⟨rfl, g⟩)
          go_roundw
          case rel => exact ⟨j + 1, by go_num, by omega, hf, gnext hb g⟩
          case measure => simp [intOf]; omega
      · obtain rfl : j = an := by omega
        have HVT : Hid (vlsB vs = true) := Lib.hid (by
          have := HT.out
          rw [List.take_of_length_le (by rw [han.out]; exact Nat.le_refl _)] at this
          unfold vlsB
          rw [decide_eq_true_eq]
          exact this)
        clear HT
        have c0 := blk_cell hb 0 rfl
        have c1 := blk_cell hb 1 rfl
        have c2 := blk_cell hb 2 rfl
        have c3 := blk_cell hb 3 rfl
        have c4 := blk_cell hb 4 rfl
        have c5 := blk_cell hb 5 rfl
        have c6 := blk_cell hb 6 rfl
        have c7 := blk_cell hb 7 rfl
        have c8 := blk_cell hb 8 rfl
        have c9 := blk_cell hb 9 rfl
        have c10 := blk_cell hb 10 rfl
        have c11 := blk_cell hb 11 rfl
        go_wp2_with (first | (go_at_call 33; with_reducible refine (HNC.out _).mono ?_; rintro e w2 ⟨rfl, g⟩; have gb2 := gnext (by assumption) g; have c0 := blk_cell gb2 0 rfl; have c1 := blk_cell gb2 1 rfl; have c2 := blk_cell gb2 2 rfl; have c3 := blk_cell gb2 3 rfl; have c4 := blk_cell gb2 4 rfl; have c5 := blk_cell gb2 5 rfl; have c6 := blk_cell gb2 6 rfl; have c7 := blk_cell gb2 7 rfl; have c8 := blk_cell gb2 8 rfl; have c9 := blk_cell gb2 9 rfl; have c10 := blk_cell gb2 10 rfl; have c11 := blk_cell gb2 11 rfl) | (go_at_call 82; refine (HPL.out _ _ _ (by omega) (by omega) (by omega) _ (blk_below (by assumption))).mono ?_; rintro e w2 ⟨rfl, g⟩; have gb2 := gnext (by assumption) g))
        all_goals (go_ret; refine ⟨ret_bool ?_, ?_⟩; rotate_left; (first | exact blk_below (by assumption) | exact below_drewN (blk_below (by assumption)) _); rw [HVT.out, Bool.true_and, HF.out, Bool.false_and]; (try (first | rw [show decide (j = 0) = true from decide_eq_true (by omega)] | rw [show decide (j = 0) = false from decide_eq_false (by omega)])); (try (first | rw [show decide (kn = 1) = true from decide_eq_true (by omega)] | rw [show decide (kn = 1) = false from decide_eq_false (by omega)])); clear HF HGV HGK HGL HVL HB HNC HPL HVT; (try simp_all); (try (rw [Bool.eq_iff_iff]; simp)); (try omega))

end Go.Proofs.YtliijbcgkkiekaaGreatDoor
