/- Processes: Prefix and Same. (and what follows from it) -/
import Derived.Test.YtliijbcgkkiekaaDoorPb16
import Derived.Test.YtliijbcgkkiekaaDoorPb17
import Derived.Test.YtliijbcgkkiekaaDoorPb3
import Derived.Test.YtliijbcgkkiekaaDoorPb14
import Derived.Test.YtliijbcgkkiekaaDoorRows
import Derived.LaidLaws
import Derived.LaidMore
import Derived.MakeChecks
import Derived.OpenShut
import Derived.ChangeArms
import Derived.WalkKit
import Derived.ProofKit
import Derived.Deep.DeepHandedRow
import Derived.Deep.Slices
import Derived.Deep.Fields
import Derived.ChangeSame
import Derived.Carry

/- Processes: Prefix and Same. -/
namespace Go.Proofs.YtliijbcgkkiekaaDoor
open Go.RowKit Go.Deep Go.Shelf

theorem pprefix_any (B : Nat → Prop) (p : Pr) (v : Value) (w : World) (hv : PrVal B w v p) :
    Calls Tryd.prog 35 #[v] w fun e w' => e = .returned (.bool (prefixB p.k)) ∧ Below w.heap.size w w' := by
  obtain ⟨lv, av, tl, tk, kv, rfl, _⟩ := hv
  have HP := Lib.hid (prefix_any p.k (w.alloc (cell12 p lv av tl tk kv)))
  obtain ⟨pb, hpb⟩ : ∃ b, prefixB p.k = b := ⟨_, rfl⟩
  rw [hpb] at HP ⊢
  clear hpb
  unfold prAgg
  go_enter Tryd.func35, Tryd.ntmps35
  go_wp2_with (go_at_call 66; refine HP.out.mono ?_; rintro e w2 ⟨rfl, rfl⟩)
  go_ret
  exact ⟨rfl, blkBelow w _ _⟩

theorem psame_any (B : Nat → Prop) (p q : Pr) (v v' : Value) (w : World) (hB : Low B w) (hv : PrVal B w v p) (hv' : PrVal B w v' q) :
    Calls Tryd.prog 31 #[v, v'] w fun e w' => e = .returned (.bool (eqP p q)) ∧ Below w.heap.size w w' := by
  have hv0 := hv
  have hv0' := hv'
  obtain ⟨lv, av, tl, tk, kv, rfl, _⟩ := hv0
  obtain ⟨lv', av', tl', tk', kv', rfl, _⟩ := hv0'
  have hb1 : Below w.heap.size w (w.alloc (cell12 p lv av tl tk kv)) := blkBelow w _ _
  have hb2 : Below (w.heap.size + 1) (w.alloc (cell12 p lv av tl tk kv)) ((w.alloc (cell12 p lv av tl tk kv)).alloc (cell12 q lv' av' tl' tk' kv')) := (Below.refl _ _).alloc (by simp) _
  have hp1 := boxed_prAt (S := fun k => B k ∨ k = w.heap.size ∨ k = w.heap.size + 1) hB hv hb2 (fun _ h => .inl h) (.inr (.inl rfl))
  have hB1 : Low B (w.alloc (cell12 p lv av tl tk kv)) := hB.le hb1.size
  have hp2 := boxed_prAt (S := fun k => B k ∨ k = w.heap.size ∨ k = w.heap.size + 1) hB1 (hv'.to hB hb1) (Below.refl _ ((w.alloc (cell12 p lv av tl tk kv)).alloc (cell12 q lv' av' tl' tk' kv'))) (fun _ h => .inl h) (.inr (.inr (by simp)))
  rw [World.size_alloc] at hp2
  have hS : Low (fun k => B k ∨ k = w.heap.size ∨ k = w.heap.size + 1) ((w.alloc (cell12 p lv av tl tk kv)).alloc (cell12 q lv' av' tl' tk' kv')) := by
    intro k h
    have hs : ((w.alloc (cell12 p lv av tl tk kv)).alloc (cell12 q lv' av' tl' tk' kv')).heap.size = w.heap.size + 2 := by simp
    rw [hs]
    rcases h with h | h | h
    · have := hB k h; omega
    · omega
    · omega
  have HQ := Lib.hid (psameP_any _ p q _ _ _ _ _ hS hp1 hp2)
  have HB := Lib.hid (hb1.trans (hb2.mono (by omega)))
  obtain ⟨r, hr⟩ : ∃ r, eqP p q = r := ⟨_, rfl⟩
  rw [hr] at HQ ⊢
  clear hp1 hp2 hS hB1 hb1 hb2 hv hv' hr
  unfold prAgg
  go_enter Tryd.func31, Tryd.ntmps31
  go_wp2_with (go_at_call 63; refine HQ.out.mono ?_; rintro e w2 ⟨rfl, hb3⟩)
  go_ret
  exact ⟨rfl, HB.out.trans (hb3.mono HB.out.size)⟩

end Go.Proofs.YtliijbcgkkiekaaDoor

/- Processes: the reference's In. -/
namespace Go.Proofs.YtliijbcgkkiekaaDoor
open Go.RowKit

set_option maxHeartbeats 1000000 in
theorem prin_any (B : Nat → Prop) (s : ByteArray) (v : Value) (ls : List ByteArray) (w : World) (h : StrSl B w v ls) :
    Calls Tryd.prog 39 #[.string s, v] w fun e w' => e = .returned (.bool (memB s ls)) ∧ w = w' := by
  obtain ⟨pa, len, c, rfl, hlen, hm, hget⟩ := h.open
  have HG := Lib.hid hget
  clear hget h
  go_enter Tryd.func39, Tryd.ntmps39
  go_wp2_with fail
  go_loop [5] (fun i => ∃ (j : Nat), i = .int .i64 j ∧ j ≤ len ∧ Hid (s ∉ ls.take j)) (fun i => len - (intOf i).toNat)
  case atStart => exact ⟨0, rfl, by omega, Lib.hid (by simp)⟩
  case round =>
    obtain ⟨j, rfl, hj, HT⟩ := hrel
    by_cases hlt : j < len
    · obtain ⟨x, hx⟩ : ∃ x, ls[j]? = some x := ⟨_, List.getElem?_eq_getElem (by rw [← hlen.out]; exact hlt)⟩
      obtain ⟨_, kb, ko, rfl, hkb, hc⟩ := HG.out j x hx
      by_cases he : x = s
      · subst he
        have hin : Hid (x ∈ ls) := Lib.hid (List.mem_of_getElem? hx)
        clear hx
        go_wp2_with fail
        go_ret
        exact ⟨ret_bool (memB_true.2 hin.out).symm, rfl⟩
      · have hn : Hid (s ∉ ls.take (j + 1)) := Lib.hid (by rw [take_snoc_get hx]; simp only [List.mem_append, List.mem_singleton, not_or]; exact ⟨HT.out, fun e => he e.symm⟩)
        have h1 := str_ne he
        have h2 : (x.toList == s.toList) = false := by simpa using h1
        clear hx he
        go_wp2_with fail
        go_round
        case rel => exact ⟨j + 1, by go_num, by omega, hn⟩
        case measure => simp [intOf]; omega
    · obtain rfl : j = len := by omega
      have hn : s ∉ ls := by have := HT.out; rwa [List.take_of_length_le (by rw [hlen.out]; exact Nat.le_refl _)] at this
      have HN := Lib.hid hn
      clear hn
      go_wp2_with fail
      go_ret
      exact ⟨ret_bool (memB_false HN.out).symm, rfl⟩

end Go.Proofs.YtliijbcgkkiekaaDoor

/- Processes: binders. -/
namespace Go.Proofs.YtliijbcgkkiekaaDoor
open Go.RowKit Go.Deep Go.Shelf

/-- The names that a node binds. -/
def Pr.bnd (p : Pr) : List ByteArray := if p.k = 3 then [p.x] else if p.k = 6 then [p.c, p.x] else []
theorem strSl_made {w W : World} (l : List ByteArray) (hb : Below (w.heap.size + 1) (w.alloc (.cells (l.map Value.string).toArray 9)) W) (hs : ∀ s ∈ l, s.size ≤ maxLen) (hl : l.length ≤ maxLen) :
    StrSl (Fresh w.heap.size W.heap.size) W (.slice (some ⟨w.heap.size, 0, none⟩) l.length l.length) l :=
  ⟨.inr ⟨_, _, _, rfl, ⟨Nat.le_refl _, by have := hb.size; rw [World.size_alloc] at this; omega⟩, Nat.le_refl _, fun j s hj => by rw [Nat.zero_add]; exact blk_cell hb j (by simp [hj])⟩, hl, hs⟩
set_option maxHeartbeats 1000000 in
theorem binders_any (S : Nat → Prop) (p : Pr) (b o : Nat) (w : World) (hS : Low S w) (hp : PrAt S w p b o) :
    Calls Tryd.prog 69 #[.pointer (some ⟨b, o, none⟩)] w (StrRet w p.bnd) := by
  obtain ⟨hSb, ⟨hc, hx⟩, ⟨c0, c1, c2⟩, _⟩ := PrAt.eq.1 hp
  have hbl := hS b hSb
  unfold Pr.bnd
  obtain ⟨k, hk⟩ : ∃ k, p.k = k := ⟨_, rfl⟩
  rw [hk] at c0 ⊢
  have HC := Lib.hid hc
  have HX := Lib.hid hx
  clear hp hk hc hx
  by_cases h3 : k = 3
  · subst h3
    rw [if_pos rfl]
    go_enter Tryd.func69, Tryd.ntmps69
    go_wp2_with fail
    go_ret
    exact ⟨_, _, _, rfl, strSl_made [p.x] (Below.refl _ _) (fun s hs => by rw [List.mem_singleton.1 hs]; exact HX.out) (by simp [maxLen]), blkBelow w _ _⟩
  · have h3' : (k == 3) = false := by simpa using h3
    rw [if_neg h3]
    clear h3
    by_cases h6 : k = 6
    · subst h6
      rw [if_pos rfl]
      go_enter Tryd.func69, Tryd.ntmps69
      go_wp2_with fail
      go_region
      all_goals
        go_wp2_with fail
        go_ret
        exact ⟨_, _, _, rfl, strSl_made [p.c, p.x] (Below.refl _ _).drew (fun s hs => by
          rcases List.mem_cons.1 hs with e | hs
          · rw [e]; exact HC.out
          · rw [List.mem_singleton.1 hs]; exact HX.out) (by simp [maxLen]), (blkBelow w _ _).drew⟩
    · have h6' : (k == 6) = false := by simpa using h6
      rw [if_neg h6]
      clear h6
      go_enter Tryd.func69, Tryd.ntmps69
      go_wp2_with fail
      go_ret
      exact ⟨_, _, _, rfl, ⟨.inl ⟨⟨_, _, rfl⟩, rfl⟩, by simp [maxLen]⟩, Below.refl _ _⟩

end Go.Proofs.YtliijbcgkkiekaaDoor

/- Programs: headFits. -/
namespace Go.Proofs.YtliijbcgkkiekaaDoor
open Go.RowKit Go.Deep Go.Shelf

theorem right_is (E : Nat) (B : Nat → Prop) (t : Ty) (hf : t.fine) (hdep : t.depth ≤ 1000) (r : Int) (hr : rightE t = r) (v : Value) (w : World) (hB : Low B w) (he : Env E w) (hv : TyVal B w v t) :
    Calls Tryd.prog 12 #[v] w fun e w' => e = .returned (.int .i64 r) ∧ Below w.heap.size w w' := by
  rw [← hr]; exact tright_any E B t hf hdep v w hB he hv

noncomputable def pmB (a : Pm) : Bool := nameB a.n && rightE a.t == 0
noncomputable def hdB (d : Df) : Bool := d.ms.all pmB && nameB d.n
set_option maxHeartbeats 2000000 in
theorem headFits_any (S : Nat → Prop) (d : Df) (b o E : Nat) (w : World) (hS : Low S w) (he : Env E w) (hSb : S b) (hf : ∀ a ∈ d.ms, a.t.fine ∧ a.t.depth ≤ 1000) (hd : DfAt S w d b o) :
    Calls Tryd.prog 92 #[.pointer (some ⟨b, o, none⟩)] w fun e w' => e = .returned (.bool (hdB d)) ∧ Below w.heap.size w w' := by
  obtain ⟨hn, c0, ⟨mv, c1, hm⟩, _⟩ := hd
  have hbl := hS b hSb
  obtain ⟨pa, len, c, rfl, hlen, hmx, hget⟩ := hm.open
  obtain ⟨ms, hms⟩ : ∃ ms, d.ms = ms := ⟨_, rfl⟩
  obtain ⟨nm, hnm⟩ : ∃ nm, d.n = nm := ⟨_, rfl⟩
  have hhd : hdB d = (ms.all pmB && nameB nm) := by unfold hdB; rw [hms, hnm]
  rw [hhd]
  rw [hms] at hget hlen hf
  rw [hnm] at c0 hn
  have HG := Lib.hid hget
  have HFN := Lib.hid hf
  clear hget hf hm hms hnm hhd
  go_enter Tryd.func92, Tryd.ntmps92
  go_wp2_with fail
  go_loopw [10] (fun i wr => ∃ (j : Nat), i = .int .i64 (j : Int) ∧ j ≤ len ∧ Hid ((ms.take j).all pmB = true) ∧ Below w.heap.size w wr) (fun i _ => len - (intOf i).toNat)
  case atStart => exact ⟨0, rfl, by omega, Lib.hid (by simp), Below.refl _ _⟩
  case round =>
    obtain ⟨j, rfl, hj, HT, hw⟩ := hrel
    by_cases hlt : j < len
    · obtain ⟨x, hx⟩ : ∃ x, ms[j]? = some x := ⟨_, List.getElem?_eq_getElem (by rw [← hlen.out]; exact hlt)⟩
      obtain ⟨kb, ko, rfl, hkb, hxn, a0, hty⟩ := HG.out j x hx
      have hmem := List.mem_of_getElem? hx
      obtain ⟨hfx, hdx⟩ := HFN.out x hmem
      have e0 := (hw.cell (p := ⟨kb, ko + j * 7, none⟩) (hS kb hkb)).trans a0
      obtain ⟨la, ln, lc, ka, kn, kc, ⟨d0, d1, d2, d3, d4, d5⟩, hv⟩ := (hty.keep (hw.keeps'.mono hS)).load'
      have e2 : wr.cell? ⟨kb, ko + j * 7 + 2, none⟩ = some (.int .i64 x.t.p) := d1
      have e3 : wr.cell? ⟨kb, ko + j * 7 + 3, none⟩ = some (.string x.t.n) := d2
      have e4 : wr.cell? ⟨kb, ko + j * 7 + 4, none⟩ = some (.int .i64 x.t.s) := d3
      have e5 : wr.cell? ⟨kb, ko + j * 7 + 5, none⟩ = some (.slice la ln lc) := d4
      have e6 : wr.cell? ⟨kb, ko + j * 7 + 6, none⟩ = some (.slice ka kn kc) := d5
      have hbx := blkBelow wr #[.string x.n, .int .i64 x.t.k, .int .i64 x.t.p, .string x.t.n, .int .i64 x.t.s, .slice la ln lc, .slice ka kn kc] 82
      have hbw := below_seq hw hbx
      obtain ⟨nb, hnb⟩ : ∃ b, nameB x.n = b := ⟨_, rfl⟩
      obtain ⟨r, hr⟩ : ∃ r, rightE x.t = r := ⟨_, rfl⟩
      have HN := Lib.hid (tname_is x.n nb hnb hxn E _ (he.to hbw))
      have HR := Lib.hid (right_is E S x.t hfx hdx r hr _ _ (hS.le hbw.size) (he.to hbw) (hv.to (hS.le hw.size) hbx))
      have HX := Lib.hid hx
      have HPB : Hid (pmB x = (nb && r == 0)) := Lib.hid (by unfold pmB; rw [hnb, hr])
      have HBW := Lib.hid hbw
      have HFA : Hid (pmB x = false → (ms.all pmB && nameB nm) = false) := Lib.hid (fun h => by
        have : ms.all pmB = false := by
          rw [List.all_eq_false]; exact ⟨x, hmem, by rw [h]; simp⟩
        rw [this]; rfl)
      have HTR : Hid (pmB x = true → (ms.take (j + 1)).all pmB = true) := Lib.hid (fun h => by
        rw [take_snoc_get HX.out, List.all_append, HT.out]; simp [h])
      clear hx hmem hfx hdx hty hv d1 d2 d3 d4 d5 hnb hr hbx hbw a0
      cases nb
      · go_wp2_with (go_at_call 124; refine HN.out.mono ?_; rintro e w2 ⟨rfl, rfl⟩)
        go_ret
        exact ⟨ret_bool (HFA.out (by rw [HPB.out]; rfl)).symm, HBW.out⟩
      · by_cases h0 : r = 0
        · subst h0
          go_wp2_with (first | (go_at_call 124; refine HN.out.mono ?_; rintro e w2 ⟨rfl, rfl⟩) | (go_at_call 12; refine HR.out.mono ?_; rintro e w3 ⟨rfl, hb3⟩))
          go_roundw
          case rel => exact ⟨j + 1, by go_num, by omega, Lib.hid (HTR.out (by rw [HPB.out]; rfl)), below_seq HBW.out hb3⟩
          case measure => simp [intOf]; omega
        · have h0' : (r != 0) = true := by simpa using h0
          have h0'' : (r == 0) = false := by simpa using h0
          clear h0
          go_wp2_with (first | (go_at_call 124; refine HN.out.mono ?_; rintro e w2 ⟨rfl, rfl⟩) | (go_at_call 12; refine HR.out.mono ?_; rintro e w3 ⟨rfl, hb3⟩))
          go_ret
          exact ⟨ret_bool (HFA.out (by rw [HPB.out, h0'']; rfl)).symm, below_seq HBW.out hb3⟩
    · obtain rfl : j = len := by omega
      have hall : ms.all pmB = true := by have := HT.out; rwa [List.take_of_length_le (by rw [hlen.out]; exact Nat.le_refl _)] at this
      obtain ⟨nb, hnb⟩ : ∃ b, nameB nm = b := ⟨_, rfl⟩
      have HN := Lib.hid (tname_is nm nb hnb hn E wr (he.to hw))
      have HF : Hid ((ms.all pmB && nameB nm) = nb) := Lib.hid (by rw [hall, hnb, Bool.true_and])
      have e0 := (hw.cell (p := ⟨b, o, none⟩) hbl).trans c0
      clear hall hnb
      go_wp2_with (go_at_call 124; refine HN.out.mono ?_; rintro e w2 ⟨rfl, rfl⟩)
      go_ret
      exact ⟨ret_bool HF.out.symm, hw⟩

end Go.Proofs.YtliijbcgkkiekaaDoor

/- Types: the second law of layer 2. -/
namespace Go.Proofs.YtliijbcgkkiekaaDoor
open Go.RowKit Go.Deep Go.Shelf

theorem sess_l {W : World} {k p s : Int} {n : ByteArray} {lv kv : Value} {b : Bool} (hb : (k != 1 && k != 2) = b) : Calls Tryd.prog 20 #[.agg #[.int .i64 k, .int .i64 p, .string n, .int .i64 s, lv, kv]] W fun e w' => e = .returned (.bool b) ∧ Below W.heap.size W w' := by
  rw [← hb]; exact tsession_any k p s n lv kv W
theorem rsess_l {W : World} {k p s : Int} {n : ByteArray} {lv kv : Value} {b : Bool} (hb : (k != 1 && k != 2) = b) : Calls Tryd.prog 21 #[.agg #[.int .i64 k, .int .i64 p, .string n, .int .i64 s, lv, kv]] W fun e w' => e = .returned (.bool b) ∧ Below W.heap.size W w' := by
  rw [← hb]; exact rsession_any k p s n lv kv W
theorem six_two_below (w : World) (a0 a1 a2 a3 a4 a5 b0 b1 b2 b3 b4 b5 : Value) : Below w.heap.size w ((w.alloc (.cells #[a0, a1, a2, a3, a4, a5] 25)).alloc (.cells #[b0, b1, b2, b3, b4, b5] 25)) := box2_below w _ _

set_option maxHeartbeats 8000000 in
set_option maxRecDepth 100000 in
theorem TypetreeMeasures_any (t u : Ty) (v v' : Value) (E : Nat) (w : World) (he : Env E w) (h : Lies w v t) (h' : Lies w v' u) : Calls Tryd.prog 4 #[v, v'] w fun e w' => e = .returned (.bool true) ∧ Below w.heap.size w w' := by
  obtain ⟨la, ln, lc, ka, kn, kc, rfl⟩ := h.out
  obtain ⟨la', ln', lc', ka', kn', kc', rfl⟩ := h'.out
  have hb0 := six_two_below w (.int .i64 t.k) (.int .i64 t.p) (.string t.n) (.int .i64 t.s) (.slice la ln lc) (.slice ka kn kc) (.int .i64 u.k) (.int .i64 u.p) (.string u.n) (.int .i64 u.s) (.slice la' ln' lc') (.slice ka' kn' kc')
  have h6 := Six.two w (.int .i64 t.k) (.int .i64 t.p) (.string t.n) (.int .i64 t.s) (.slice la ln lc) (.slice ka kn kc) (.int .i64 u.k) (.int .i64 u.p) (.string u.n) (.int .i64 u.s) (.slice la' ln' lc') (.slice ka' kn' kc')
  have L0 := Lib.hid (h.to hb0)
  have L0' := Lib.hid (h'.to hb0)
  have H6 := Lib.hid h6.1
  have H6' := Lib.hid h6.2
  have HB0 := Lib.hid hb0
  have HE := Lib.hid (he.to hb0)
  obtain ⟨k, hk⟩ : ∃ k, t.k = k := ⟨_, rfl⟩
  obtain ⟨p, hp⟩ : ∃ p, t.p = p := ⟨_, rfl⟩
  obtain ⟨n, hn⟩ : ∃ n, t.n = n := ⟨_, rfl⟩
  obtain ⟨s, hs⟩ : ∃ s, t.s = s := ⟨_, rfl⟩
  obtain ⟨k', hk'⟩ : ∃ k, u.k = k := ⟨_, rfl⟩
  obtain ⟨p', hp'⟩ : ∃ p, u.p = p := ⟨_, rfl⟩
  obtain ⟨n', hn'⟩ : ∃ n, u.n = n := ⟨_, rfl⟩
  obtain ⟨s', hs'⟩ : ∃ s, u.s = s := ⟨_, rfl⟩
  rw [hk, hp, hn, hs, hk', hp', hn', hs'] at L0 L0' H6 H6' HB0 HE
  rw [hk, hp, hn, hs, hk', hp', hn', hs']
  clear h h' hb0 h6 he hk hp hn hs hk' hp' hn' hs'
  cases hfew : t.few 2000 with
  | false =>
    have HF := Lib.hid hfew
    clear hfew
    go_enter Tryd.func4, Tryd.ntmps4
    go_wp2_with fail
    refine (awake_any _ _ HE.out).mono ?_
    rintro e w1 ⟨rfl, hb1⟩
    obtain ⟨⟨c0, c1, c2, c3, c4, c5⟩, _⟩ := (H6.out.to hb1).cells
    go_wp2_with fail
    clear c0 c1 c2 c3 c4 c5
    refine (few_l (L0.out.to hb1) (by omega) HF.out).mono ?_
    rintro e w2 ⟨rfl, hb2⟩
    go_wp2_with fail
    refine (awake_any _ _ (HE.out.to (below_seq hb1 hb2))).mono ?_
    rintro e w3 ⟨rfl, hb3⟩
    go_wp2_with fail
    go_ret
    exact ⟨rfl, below_seq HB0.out (below_seq hb1 (below_seq hb2 hb3))⟩
  | true =>
    have HF := Lib.hid hfew
    have HFS := Lib.hid (few_size hfew)
    clear hfew
    cases hfew' : u.few 2000 with
    | false =>
      have HF' := Lib.hid hfew'
      clear hfew'
      go_enter Tryd.func4, Tryd.ntmps4
      go_wp2_with fail
      refine (awake_any _ _ HE.out).mono ?_
      rintro e w1 ⟨rfl, hb1⟩
      obtain ⟨⟨c0, c1, c2, c3, c4, c5⟩, _⟩ := (H6.out.to hb1).cells
      go_wp2_with fail
      clear c0 c1 c2 c3 c4 c5
      refine (few_l (L0.out.to hb1) (by omega) HF.out).mono ?_
      rintro e w2 ⟨rfl, hb2⟩
      have hb12 := below_seq hb1 hb2
      obtain ⟨⟨c0, c1, c2, c3, c4, c5⟩, _⟩ := (H6'.out.to hb12).cells
      go_wp2_with fail
      clear c0 c1 c2 c3 c4 c5
      refine (few_l (L0'.out.to hb12) (by omega) HF'.out).mono ?_
      rintro e w3 ⟨rfl, hb3⟩
      go_wp2_with fail
      refine (awake_any _ _ (HE.out.to (below_seq hb12 hb3))).mono ?_
      rintro e w4 ⟨rfl, hb4⟩
      go_wp2_with fail
      go_ret
      exact ⟨rfl, below_seq HB0.out (below_seq hb12 (below_seq hb3 hb4))⟩
    | true =>
      have HF' := Lib.hid hfew'
      have HFS' := Lib.hid (few_size hfew')
      clear hfew'
      obtain ⟨z, hz⟩ : ∃ z : Int, (t.size : Int) = z := ⟨_, rfl⟩
      obtain ⟨d, hd⟩ : ∃ d : Int, (t.depth : Int) = d := ⟨_, rfl⟩
      obtain ⟨b, hb⟩ : ∃ b, eqB t u = b := ⟨_, rfl⟩
      obtain ⟨c, hc⟩ : ∃ c, (k != 1 && k != 2) = c := ⟨_, rfl⟩
      have HZ := Lib.hid hz
      have HD := Lib.hid hd
      have HQ := Lib.hid hb
      have HC := Lib.hid hc
      clear hz hd hb hc
      go_enter Tryd.func4, Tryd.ntmps4
      go_wp2_with fail
      refine (awake_any _ _ HE.out).mono ?_
      rintro e w1 ⟨rfl, hb1⟩
      obtain ⟨⟨c0, c1, c2, c3, c4, c5⟩, _⟩ := (H6.out.to hb1).cells
      go_wp2_with fail
      clear c0 c1 c2 c3 c4 c5
      refine (few_l (L0.out.to hb1) (by omega) HF.out).mono ?_
      rintro e w2 ⟨rfl, hb2⟩
      have hb12 := below_seq hb1 hb2
      obtain ⟨⟨c0, c1, c2, c3, c4, c5⟩, _⟩ := (H6'.out.to hb12).cells
      go_wp2_with fail
      clear c0 c1 c2 c3 c4 c5
      refine (few_l (L0'.out.to hb12) (by omega) HF'.out).mono ?_
      rintro e w3 ⟨rfl, hb3⟩
      have hb13 := below_seq hb12 hb3
      go_wp2_with fail
      have s6 : ∀ q : Later w3.heap.size w3, Six q.1 w.heap.size (.int .i64 k) (.int .i64 p) (.string n) (.int .i64 s) (.slice la ln lc) (.slice ka kn kc) := fun q => (H6.out.to hb13).to q.2
      have s6' : ∀ q : Later w3.heap.size w3, Six q.1 (w.heap.size + 1) (.int .i64 k') (.int .i64 p') (.string n') (.int .i64 s') (.slice la' ln' lc') (.slice ka' kn' kc') := fun q => (H6'.out.to hb13).to q.2
      have c0 := fun q => (s6 q).cells.1.1
      have c1 := fun q => (s6 q).cells.1.2.1
      have c2 := fun q => (s6 q).cells.1.2.2.1
      have c3 := fun q => (s6 q).cells.1.2.2.2.1
      have c4 := fun q => (s6 q).cells.1.2.2.2.2.1
      have c5 := fun q => (s6 q).cells.1.2.2.2.2.2
      have c0' := fun q => (s6' q).cells.1.1
      have c1' := fun q => (s6' q).cells.1.2.1
      have c2' := fun q => (s6' q).cells.1.2.2.1
      have c3' := fun q => (s6' q).cells.1.2.2.2.1
      have c4' := fun q => (s6' q).cells.1.2.2.2.2.1
      have c5' := fun q => (s6' q).cells.1.2.2.2.2.2
      have HL : Hid (∀ q : Later w3.heap.size w3, Lies q.1 (.agg #[.int .i64 k, .int .i64 p, .string n, .int .i64 s, .slice la ln lc, .slice ka kn kc]) t) := Lib.hid (fun q => (L0.out.to hb13).to q.2)
      have HL' : Hid (∀ q : Later w3.heap.size w3, Lies q.1 (.agg #[.int .i64 k', .int .i64 p', .string n', .int .i64 s', .slice la' ln' lc', .slice ka' kn' kc']) u) := Lib.hid (fun q => (L0'.out.to hb13).to q.2)
      clear s6 s6'
      have HBB := Lib.hid (below_seq HB0.out hb13)
      clear hb1 hb2 hb3 hb12 hb13 HB0 L0 L0' H6 H6' HE HF HF'
      have X1 : Hid (∀ q : Later w3.heap.size w3, _) := Lib.hid (fun q => size_l (HL.out q) (by have := HFS.out; omega) (by have := HFS.out; omega) HZ.out)
      have X2 : Hid (∀ q : Later w3.heap.size w3, _) := Lib.hid (fun q => rsize_l (HL.out q) (by have := HFS.out; omega) HZ.out)
      have X3 : Hid (∀ q : Later w3.heap.size w3, _) := Lib.hid (fun q => depth_l (HL.out q) (by have := HFS.out; omega) HD.out)
      have X4 : Hid (∀ q : Later w3.heap.size w3, _) := Lib.hid (fun q => rdepth_l (HL.out q) (by have := HFS.out; omega) HD.out)
      have X5 : Hid (∀ q : Later w3.heap.size w3, _) := Lib.hid (fun q => same_l (HL.out q) (HL'.out q) HQ.out)
      have X6 : Hid (∀ q : Later w3.heap.size w3, _) := Lib.hid (fun q => same_l (HL'.out q) (HL.out q) ((eqB_comm _ _).trans HQ.out))
      have X7 : Hid (∀ q : Later w3.heap.size w3, _) := Lib.hid (fun q => same_l (HL.out q) (HL.out q) (eqB_self t))
      have X8 : Hid (∀ q : Later w3.heap.size w3, _) := Lib.hid (fun q => rsame_l (HL.out q) (HL'.out q) HQ.out)
      cases b <;> cases c
      all_goals
        refine wp_region_later w3.heap.size w3 (by kernel_rfl) (by kernel_rfl) (Below.refl _ _) ?_
        repeat (go_big_quiet_step (first
          | (go_at_call 14; exact later_call _ (Nat.le_refl _) (X1.out _))
          | (go_at_call 15; exact later_call _ (Nat.le_refl _) (X2.out _))
          | (go_at_call 16; exact later_call _ (Nat.le_refl _) (X3.out _))
          | (go_at_call 17; exact later_call _ (Nat.le_refl _) (X4.out _))
          | (go_at_call 18; first | with_reducible exact later_call _ (Nat.le_refl _) (X5.out _) | with_reducible exact later_call _ (Nat.le_refl _) (X6.out _) | with_reducible exact later_call _ (Nat.le_refl _) (X7.out _))
          | (go_at_call 19; exact later_call _ (Nat.le_refl _) (X8.out _))
          | (go_at_call 20; exact later_call _ (Nat.le_refl _) (sess_l HC.out))
          | (go_at_call 21; exact later_call _ (Nat.le_refl _) (rsess_l HC.out))))
        refine wpQuiet_nil ?_
        rintro _ ⟨⟨w5, hb5⟩, rfl⟩
        clear c0 c1 c2 c3 c4 c5 c0' c1' c2' c3' c4' c5'
        go_wp2_with fail
        go_ret
        exact ⟨rfl, below_seq HBB.out hb5⟩

end Go.Proofs.YtliijbcgkkiekaaDoor

/- From a row's list of package-level variables to what the walks lean on; a world that meets the list. -/
namespace Go.Proofs.YtliijbcgkkiekaaDoor
open Go.RowKit Go.ChangeShapes

/-- The list that all rows of this seat bear. -/
abbrev seatLaid : List (String × DataW Unit) := Rows.typetreeRightRow.laid

theorem one_reads {P : Program} {w : World} : ∀ {l : List (String × DataW Unit)} {ps : List MemPlace}, DataW.LaidVars P w l ps → ∀ n d, (n, d) ∈ l →
    ∃ g t cs fuel p, P.globalNamed n = some g ∧ (P.globals[g]?).map (·.type) = some t ∧ w.var? P n = some cs ∧ DataW.trod (fun _ => ()) P w 0 (fun _ => true) false fuel t cs.toList = some (d, p)
  | [], _, _, _, _, hm => by cases hm
  | (n', d') :: r, ps, h, n, d, hm => by
    obtain ⟨g, t, cs, fuel, p, q, h1, h2, h3, h4, h5, _⟩ := h
    rcases List.mem_cons.1 hm with e | e
    · cases e
      exact ⟨g, t, cs, fuel, p, h1, h2, h3, h4⟩
    · exact one_reads h5 n d e

theorem strs_read {H : Type} {enc : TypeId × Value → H} {P : Program} {w : World} {base : Nat} {sp : Nat → Bool} {held : Bool} {fuel : Nat} {t e : TypeId} {n : Nat} {cs : List Value} {ls : List (List UInt8)} {p : List MemPlace}
    (ht : P.underlying t = some (.array n e)) (he : P.underlying e = some .string) (hce : P.cellsOf e = 1) (hct : P.cellsOf t = n)
    (h : DataW.trod enc P w base sp held fuel t cs = some (.agg (ls.map fun l => .lit (.string l)), p)) : cs = ls.map fun l => Value.string ⟨l.toArray⟩ := by
  obtain ⟨xs, m, _, hx, hlen, hxl, hat⟩ := DataW.trod_array ht h
  have hxs : xs.map (·.1) = ls.map fun l => (DataW.lit (.string l) : DataW H) := by
    have := congrArg Prod.fst hx
    simpa using this.symm
  have hll : ls.length = n := by
    have := congrArg List.length hxs
    simp at this; omega
  apply List.ext_getElem?
  intro i
  by_cases hi : i < n
  · have hf := hat i hi
    rw [hce, Nat.mul_one] at hf
    obtain ⟨x, hxi⟩ : ∃ x, xs[i]? = some x := ⟨_, List.getElem?_eq_getElem (by omega)⟩
    rw [hxi] at hf
    obtain ⟨s, hc, rfl, _⟩ := DataW.trod_string he hf
    have h1 : cs[i]? = some (.string s) := by
      have := congrArg (·[0]?) hc
      simpa [List.getElem?_take, List.getElem?_drop] using this
    have h2 : (xs.map (·.1))[i]? = some (DataW.lit (.string s.data.toList) : DataW H) := by simp [hxi]
    rw [hxs] at h2
    simp only [List.getElem?_map, Option.map_eq_some_iff, DataW.lit.injEq, Lit.string.injEq] at h2
    obtain ⟨l, hl, hls⟩ := h2
    rw [h1, List.getElem?_map, hl, hls]
    rfl
  · rw [List.getElem?_eq_none (by omega), List.getElem?_eq_none (by simp; omega)]

theorem wordsType : (Tryd.prog.globals[0]?).map (·.type) = some 149 := by kernel_rfl
theorem cellsStr : Tryd.prog.cellsOf 9 = 1 := by kernel_rfl
theorem cellsWords : Tryd.prog.cellsOf 149 = 10 := by kernel_rfl
theorem env_of_laid {W : World} (h : laidMetH Tryd.prog seatLaid W) : Env W.heap.size W := by
  rw [MakeChecks.laidMetH_plain _ _ _ (by kernel_rfl)] at h
  obtain ⟨ps, hv, _⟩ := h
  obtain ⟨g', t', cs', fuel', p', hg', ht', hvar', hd'⟩ := one_reads hv "duologue/lex.keywords" Rows.laid_duologue_lex_keywords (by simp [seatLaid, Rows.typetreeRightRow])
  obtain rfl := Option.some.inj (gWords.symm.trans hg')
  obtain rfl := Option.some.inj (wordsType.symm.trans ht')
  have hws := strs_read (ls := [[100, 101, 102], [109, 97, 105, 110], [115, 116, 111, 112], [110, 101, 119], [105, 110, 116], [98, 111, 111, 108], [101, 110, 100], [114, 101, 99], [116, 114, 117, 101], [102, 97, 108, 115, 101]]) kwU Tryd.underlying9 cellsStr cellsWords hd'
  have lt : ∀ {n : String} {g : Nat} {cs : Array Value}, Tryd.prog.globalNamed n = some g → W.var? Tryd.prog n = some cs → g < W.heap.size := by
    intro n g cs hg hv
    unfold World.var? at hv
    simp only [hg, Option.bind_some] at hv
    rcases Nat.lt_or_ge g W.heap.size with h' | h'
    · exact h'
    · rw [Array.getElem?_eq_none h'] at hv; cases hv
  refine ⟨?_, lt gWords hvar', Nat.le_refl _⟩
  rw [hvar']; obtain ⟨l⟩ := cs'; simp only at hws; rw [hws]; rfl

/-- The door's own heap meets the list: closed facts. -/
theorem door_met (os : Os) (args : Array Value) : laidMetH Tryd.prog seatLaid ((World.doorLaid Tryd.prog 4000 os).forCall (fun _ _ => 0) ⟨#[], args, []⟩).memory :=
  laidMetH_of_parts3 (fuel := 10) (laidMet_of_run' 10 (by kernel_rfl) (by kernel_rfl)) (by kernel_rfl) (by kernel_rfl)

end Go.Proofs.YtliijbcgkkiekaaDoor

/- Types: a type that came in as an argument. -/
namespace Go.Proofs.YtliijbcgkkiekaaDoor
open Go.ChangeShapes Go.WideShapes Go.ChangeAt Go.RowKit Go.Deep

theorem choose_list {α : Type} (Q : Nat → α → Prop) : ∀ n : Nat, (∀ i, i < n → ∃ x, Q i x) → ∃ ls : List α, ls.length = n ∧ ∀ i x, ls[i]? = some x → Q i x
  | 0, _ => ⟨[], rfl, fun i x h => by simp at h⟩
  | n + 1, h => by
    obtain ⟨ls, hl, hq⟩ := choose_list Q n (fun i hi => h i (by omega))
    obtain ⟨x, hx⟩ := h n (by omega)
    refine ⟨ls ++ [x], by simp [hl], fun i y hy => ?_⟩
    by_cases hi : i < ls.length
    · rw [List.getElem?_append_left hi] at hy; exact hq i y hy
    · rw [List.getElem?_append_right (by omega)] at hy
      have : i - ls.length = 0 := by
        rcases Nat.eq_zero_or_pos (i - ls.length) with h0 | h0
        · exact h0
        · rw [List.getElem?_eq_none (by simp; omega)] at hy; cases hy
      rw [this] at hy
      simp at hy
      subst hy
      have : i = n := by omega
      subst this
      exact hx
theorem addr_of_cell {w : World} {a : Addr} {v : Value} (h : w.cell? a = some v) : a = ⟨a.block, a.off, none⟩ ∧ a.block < w.heap.size := by
  obtain ⟨b, o, s⟩ := a
  unfold World.cell? at h
  cases hb : w.heap[b]? with
  | none => simp [hb] at h
  | some ob =>
    have hlt := (Array.getElem?_eq_some_iff.1 hb).1
    cases s with
    | none => exact ⟨rfl, hlt⟩
    | some s => cases ob <;> simp [hb] at h
theorem add_block {b o : Nat} (j : Nat) : (⟨b, o, none⟩ : Addr).add j = ⟨b, o + j, none⟩ := by
  unfold Addr.add
  by_cases h : j = 0
  · subst h; simp
  · simp [h]
theorem add_zero' (a : Addr) : a.add 0 = a := by unfold Addr.add; simp
/-- A struct of one-cell fields, field by field. -/
theorem fields_of {H : Type} {enc : TypeId × Value → H} {P : Program} {w : World} {base : Nat} {spare : Nat → Bool} {held : Bool} {e : TypeId} {fs : Array Field} {fuel : Nat} {cs : List Value} {x : DataW H × List MemPlace}
    (he : P.underlying e = some (.struct fs)) (hone : oneCellFields P fs = true) (hC : P.cellsOf e = fs.size) (h : DataW.trod enc P w base spare held fuel e cs = some x) :
    ∃ (ys : List (DataW H × List MemPlace)) (n : Nat), fuel = n + 1 ∧ x = (.agg (ys.map (·.1)), ys.flatMap (·.2)) ∧ cs.length = fs.size ∧ ys.length = fs.size ∧
      ∀ (j : Nat) (f : Field), fs[j]? = some f → ∃ v y, cs[j]? = some v ∧ ys[j]? = some y ∧ DataW.trod enc P w base spare held n f.type [v] = some y := by
  obtain ⟨ys, n, hn, hx, hl, hyl, hf⟩ := DataW.trod_struct he h
  rw [hC] at hl
  refine ⟨ys, n, hn, hx, hl, hyl, fun j f hj => ?_⟩
  have hlt := (Array.getElem?_eq_some_iff.1 hj).1
  obtain ⟨ho, h1⟩ := hone_of hone j f hj
  have h2 := hf j f hj
  obtain ⟨v, hv⟩ : ∃ v, cs[j]? = some v := ⟨_, List.getElem?_eq_getElem (by omega)⟩
  obtain ⟨y, hy⟩ : ∃ y, ys[j]? = some y := ⟨_, List.getElem?_eq_getElem (by omega)⟩
  have ht : (cs.drop j).take 1 = [v] := by
    have hd := List.drop_eq_getElem_cons (l := cs) (i := j) (by omega)
    rw [List.getElem?_eq_getElem (by omega)] at hv
    rw [hd, List.take_succ_cons, List.take_zero]
    simpa using hv
  rw [ho, h1, ht, hy] at h2
  exact ⟨v, y, hv, hy, h2⟩
/-- A slice: nil, or elements that read with less fuel. -/
theorem slice_of {H : Type} {enc : TypeId × Value → H} {P : Program} {w : World} {base : Nat} {spare : Nat → Bool} {held : Bool} {t e : TypeId} {fuel : Nat} {v : Value} {x : DataW H × List MemPlace}
    (he : P.underlying t = some (.slice e)) (h : DataW.trod enc P w base spare held fuel t [v] = some x) :
    ∃ (a : Option Addr) (len cap : Nat), v = .slice a len cap ∧ len ≤ cap ∧ cap ≤ maxLen ∧ ∀ i, i < len → ∃ ad n cs y, a = some ad ∧ n < fuel ∧ w.cells? base (ad.add (i * P.cellsOf e)) (P.cellsOf e) = some cs ∧ DataW.trod enc P w base spare held n e cs = some y := by
  rcases DataW.trod_slice he h with ⟨hc, hx⟩ | ⟨a, len, cap, elems, rest, n, hn, hcs, hx, hb, hl, hm, hlen, hel, _⟩
  · simp only [List.cons.injEq, and_true] at hc
    exact ⟨none, 0, 0, hc, by omega, by simp [maxLen], fun i hi => by omega⟩
  · simp only [List.cons.injEq, and_true] at hcs
    refine ⟨some a, len, cap, hcs, hl, hm, fun i hi => ?_⟩
    have h1 := hel i hi
    obtain ⟨y, hy⟩ : ∃ y, elems[i]? = some y := ⟨_, List.getElem?_eq_getElem (by omega)⟩
    rw [hy] at h1
    cases hq : w.cells? base (a.add (i * P.cellsOf e)) (P.cellsOf e) with
    | none => rw [hq] at h1; simp at h1
    | some cs => rw [hq] at h1; exact ⟨a, n, cs, y, rfl, by omega, hq, by simpa using h1⟩

theorem wf_in {n : Int} (h : (Lit.int .i64 n).wf = true) : In64 n := by
  unfold Lit.wf at h
  rw [Bool.and_eq_true, decide_eq_true_eq, decide_eq_true_eq] at h
  exact h

theorem strs_open {H : Type} {enc : TypeId × Value → H} {W : World} {base : Nat} {spare : Nat → Bool} {held : Bool} {fuel : Nat} {v : Value} {x : DataW H × List MemPlace} (h : DataW.trod enc Tryd.prog W base spare held fuel 22 [v] = some x) :
    ∃ ls, StrSl (fun k => k < W.heap.size) W v ls := by
  obtain ⟨a, len, cap, rfl, hl, hm, hi⟩ := slice_of Tryd.underlying22 h
  rw [show Tryd.prog.cellsOf 9 = 1 from by kernel_rfl] at hi
  have each : ∀ i, i < len → ∃ s : ByteArray, s.size ≤ maxLen ∧ ∃ b o, a = some ⟨b, o, none⟩ ∧ b < W.heap.size ∧ W.cell? ⟨b, o + i, none⟩ = some (.string s) := by
    intro i hin
    obtain ⟨ad, n, cs, y, rfl, _, hc, ht⟩ := hi i hin
    obtain ⟨ad0, n0, cs0, y0, e0, _, hc0, ht0⟩ := hi 0 (by omega)
    obtain rfl := Option.some.inj e0
    obtain ⟨s, rfl, _, hs⟩ := DataW.trod_string Tryd.underlying9 ht
    obtain ⟨s0, rfl, _, _⟩ := DataW.trod_string Tryd.underlying9 ht0
    obtain ⟨_, _, hat⟩ := World.cells?_some hc
    obtain ⟨_, _, hat0⟩ := World.cells?_some hc0
    have h0 := hat0 0 (by omega)
    have h1 := hat 0 (by omega)
    rw [Nat.zero_mul, add_zero', add_zero'] at h0
    obtain ⟨e1, e2⟩ := addr_of_cell h0
    rw [add_zero', e1, add_block] at h1
    exact ⟨s, hs, ad.block, ad.off, by rw [← e1], e2, by simpa using h1⟩
  obtain ⟨ls, hln, hls⟩ := choose_list _ len each
  refine ⟨ls, ?_, by omega, fun s hs => ?_⟩
  · cases ls with
    | nil => exact .inl ⟨⟨a, cap, by rw [← hln]; rfl⟩, rfl⟩
    | cons s0 r =>
      obtain ⟨_, b, o, rfl, hb, _⟩ := hls 0 s0 rfl
      refine .inr ⟨b, o, cap, by rw [hln], hb, by omega, fun j s hj => ?_⟩
      obtain ⟨_, b', o', e, _, hc⟩ := hls j s hj
      simp only [Option.some.injEq, Addr.mk.injEq, and_true] at e
      obtain ⟨rfl, rfl⟩ := e
      exact hc
  · obtain ⟨i, hi'⟩ := List.mem_iff_getElem?.1 hs
    exact (hls i s hi').1

/-- The cells of a type. -/
def tyCells (t : Ty) (lv kv : Value) : List Value := [.int .i64 t.k, .int .i64 t.p, .string t.n, .int .i64 t.s, lv, kv]
theorem tyCellsOf : Tryd.prog.cellsOf 25 = 6 := by kernel_rfl

set_option maxRecDepth 100000 in
theorem ty_open {H : Type} {enc : TypeId × Value → H} {W : World} {base : Nat} {spare : Nat → Bool} {held : Bool} : ∀ (fuel : Nat) (cs : List Value) (x : DataW H × List MemPlace), DataW.trod enc Tryd.prog W base spare held fuel 25 cs = some x →
    ∃ t lv kv, cs = tyCells t lv kv ∧ t.fine ∧ Lies W (.agg (tyCells t lv kv).toArray) t := by
  intro fuel
  induction fuel using Nat.strongRecOn with
  | _ fuel ih =>
  intro cs x h
  obtain ⟨ys, n', hn', hD, hcl, hyl, hf⟩ := fields_of Tryd.underlying25 (by kernel_rfl) (by kernel_rfl) h
  obtain ⟨v0, y0, e0, z0, t0⟩ := hf 0 _ rfl
  obtain ⟨v1, y1, e1, z1, t1⟩ := hf 1 _ rfl
  obtain ⟨v2, y2, e2, z2, t2⟩ := hf 2 _ rfl
  obtain ⟨v3, y3, e3, z3, t3⟩ := hf 3 _ rfl
  obtain ⟨v4, y4, e4, z4, t4⟩ := hf 4 _ rfl
  obtain ⟨v5, y5, e5, z5, t5⟩ := hf 5 _ rfl
  obtain ⟨k, hk, _, wk⟩ := DataW.trod_int Tryd.underlying3 t0
  obtain ⟨p, hp, _, _⟩ := DataW.trod_int Tryd.underlying3 t1
  obtain ⟨nm, hnm, _, hnz⟩ := DataW.trod_string Tryd.underlying9 t2
  obtain ⟨s, hs, _, _⟩ := DataW.trod_int Tryd.underlying3 t3
  simp only [List.cons.injEq, and_true] at hk hp hnm hs
  subst hk hp hnm hs
  obtain ⟨ls, hls⟩ := strs_open t4
  obtain ⟨a, len, cap, rfl, hl, hm, hi⟩ := slice_of Tryd.underlying23 t5
  rw [tyCellsOf] at hi
  have each : ∀ i, i < len → ∃ t : Ty, t.fine ∧ ∃ b o, a = some ⟨b, o, none⟩ ∧ TyAt (fun k => k < W.heap.size) W t b (o + i * 6) := by
    intro i hin
    obtain ⟨ad, n, cs', y, rfl, hlt, hc, ht⟩ := hi i hin
    obtain ⟨ad0, n0, cs0, y0, e0, _, hc0, ht0⟩ := hi 0 (by omega)
    obtain rfl := Option.some.inj e0
    obtain ⟨t, lv, kv, rfl, hfine, hlies⟩ := ih n (by omega) cs' y ht
    obtain ⟨_, hl6, hat⟩ := World.cells?_some hc
    obtain ⟨_, hl0, hat0⟩ := World.cells?_some hc0
    have h0 := hat0 0 (by omega)
    rw [Nat.zero_mul, add_zero', add_zero', List.getElem?_eq_getElem (by omega)] at h0
    obtain ⟨e1, e2⟩ := addr_of_cell h0
    rw [e1] at hat
    simp only [add_block] at hat
    refine ⟨t, hfine, ad.block, ad.off, by rw [← e1], ?_⟩
    refine tyAt_of e2 ?_ ?_ ?_ ?_ ?_ ?_ hlies
    · have := hat 0 (by omega); simpa [tyCells] using this
    · have := hat 1 (by omega); simpa [tyCells] using this
    · have := hat 2 (by omega); simpa [tyCells] using this
    · have := hat 3 (by omega); simpa [tyCells] using this
    · have := hat 4 (by omega); simpa [tyCells] using this
    · have := hat 5 (by omega); simpa [tyCells] using this
  obtain ⟨ts, htn, hts⟩ := choose_list _ len each
  have hcs : cs = [.int .i64 k, .int .i64 p, .string nm, .int .i64 s, v4, .slice a len cap] := by
    match cs, hcl, e0, e1, e2, e3, e4, e5 with
    | [a0, a1, a2, a3, a4, a5], _, e0, e1, e2, e3, e4, e5 =>
      simp at e0 e1 e2 e3 e4 e5
      rw [e0, e1, e2, e3, e4, e5]
  refine ⟨.mk k p nm s ls ts, v4, .slice a len cap, hcs, ⟨wf_in wk, ?_⟩, _, _, rfl, hnz, hls, ?_, by show ts.length ≤ _; omega⟩
  · have : ∀ l : List Ty, (∀ u ∈ l, u.fine) → Ty.fines l := by
      intro l
      induction l with
      | nil => intro _; trivial
      | cons u r ihr => intro hh; exact ⟨hh u (by simp), ihr (fun v hv => hh v (by simp [hv]))⟩
    refine this ts (fun u hu => ?_)
    obtain ⟨i, hi'⟩ := List.mem_iff_getElem?.1 hu
    exact (hts i u hi').1
  · show _ ∨ _
    cases ts with
    | nil => exact .inl ⟨⟨a, cap, by rw [← htn]; rfl⟩, rfl⟩
    | cons u0 r =>
      obtain ⟨_, b, o, rfl, hat0⟩ := hts 0 u0 rfl
      refine .inr ⟨b, o, cap, by show Value.slice _ _ _ = Value.slice _ (u0 :: r).length _; rw [htn], (TyAt.eq.1 hat0).1, ?_⟩
      refine tysAt_of (fun i t hi' => ?_)
      obtain ⟨_, b', o', e, hat⟩ := hts i t hi'
      simp only [Option.some.injEq, Addr.mk.injEq, and_true] at e
      obtain ⟨rfl, rfl⟩ := e
      exact hat

set_option maxRecDepth 100000 in
/-- A type that came in. -/
theorem type_open {H : Type} {enc : TypeId × Value → H} {W : World} {base : Nat} {spare : Nat → Bool} {held : Bool} {v : Value} {d : DataW H} {p : List MemPlace} {b0 : Nat} (hv : Value.okWide Tryd.prog W .any b0 25 v) (h : DataW.Trod enc Tryd.prog W base spare held 25 v d p) :
    ∃ t, t.fine ∧ Lies W v t := by
  obtain ⟨fuel, hf⟩ := h
  unfold Value.okWide at hv
  rw [Tryd.underlying25] at hv
  obtain ⟨cs, rfl, _, _⟩ := hv
  obtain ⟨t, lv, kv, e, hfine, hl⟩ := ty_open fuel _ _ hf
  have e' : cs.toList = tyCells t lv kv := e
  have : cs = (tyCells t lv kv).toArray := by rw [← e']
  rw [this]
  exact ⟨t, hfine, hl⟩

end Go.Proofs.YtliijbcgkkiekaaDoor
