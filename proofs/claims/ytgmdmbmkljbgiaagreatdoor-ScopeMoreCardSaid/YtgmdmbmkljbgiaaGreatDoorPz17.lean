/- Scopes: the law that Check gives the reference's faults. (and what follows from it) -/
import Derived.Test.YtgmdmbmkljbgiaaGreatDoorPz16
import Derived.Test.YtgmdmbmkljbgiaaGreatDoorPz11
import Derived.Test.YtgmdmbmkljbgiaaGreatDoorPz13
import Derived.Test.YtgmdmbmkljbgiaaGreatDoorPz12
import Derived.Deep.RegionHeld
import Derived.Still

/- Scopes: the law that Check gives the reference's faults. -/
namespace Go.Proofs.YtgmdmbmkljbgiaaGreatDoor
open Go.RowKit Go.Deep Go.Shelf

theorem chk_zero {g : Pg} {ca : Nat} (h : g.chk = (0, ca)) : ca = 0 := by
  unfold Pg.chk at h
  split at h
  · next h0 => exact absurd (Prod.mk.inj h).1 h0
  · split at h
    · exact absurd (Prod.mk.inj h).1 (by omega)
    · split at h
      · next i hf =>
        have := List.find?_some hf
        simp at this
        exact absurd (Prod.mk.inj h).1 this
      · exact (Prod.mk.inj h).2.symm
theorem rcheck_l {W : World} {v : Value} {g : Pg} {ce : Int} {ca : Nat} {m : Nat} (h : GLies W v g) (hf : Pg.fine g) (hl : g.little m = true) (hm : m ≤ 100000) (hc : g.chk = (ce, ca)) : Calls Tryz.prog 8 #[v] W fun e w' => e = .returned (.tuple #[.int .i64 ce, .int .i64 ((rAt ce ca g.ds.length : Nat) : Int)]) ∧ Below W.heap.size W w' := by
  obtain ⟨hg, ht⟩ := little_good' hm hf hl
  exact rcheck_any g hg ht (fun d hd => by have := (Df.little_facts ((Pg.little_facts hl).2.2 d hd)).2.1; omega) v W h ce ca hc

set_option maxHeartbeats 8000000 in
set_option maxRecDepth 100000 in
theorem ScopeChecks_any (t0 : Pg) (hf0 : Pg.fine t0) (v0 : Value) (E : Nat) (w : World) (he : Env E w) (h0 : GLies w v0 t0) :
    Calls Tryz.prog 3 #[v0] w fun e w' => e = .returned (.bool true) ∧ Below w.heap.size w w' := by
  have g0 := h0
  obtain ⟨dv, lv, av, tl, tk, kv, rfl, hd, hp⟩ := g0
  obtain ⟨⟨la, ln, lc, rfl⟩, ⟨aa, an, ac, rfl⟩, ⟨ta, tn, tc, rfl⟩, ⟨ua, un, uc, rfl⟩, ka, kn, kc, rfl⟩ := pr_slices hp
  obtain ⟨pa, len, c, rfl, _⟩ := hd.open
  obtain ⟨W0, hW0⟩ : ∃ W0, w.alloc (cell13 t0 (.slice pa len c) (.slice la ln lc) (.slice aa an ac) (.slice ta tn tc) (.slice ua un uc) (.slice ka kn kc)) = W0 := ⟨_, rfl⟩
  have hb0 : Below w.heap.size w W0 := by rw [← hW0]; exact blkBelow w _ _
  have t1 : T13 W0 w.heap.size (cell13 t0 (.slice pa len c) (.slice la ln lc) (.slice aa an ac) (.slice ta tn tc) (.slice ua un uc) (.slice ka kn kc)) := by rw [← hW0]; exact World.alloc_heap_new _ _
  have HT := Lib.hid t1
  have HG : Hid (GLies W0 (pgAgg t0 (.slice pa len c) (.slice la ln lc) (.slice aa an ac) (.slice ta tn tc) (.slice ua un uc) (.slice ka kn kc)) t0) := Lib.hid (h0.to hb0)
  have HE := Lib.hid (he.to hb0)
  have HB0 := Lib.hid hb0
  have HW0 := Lib.hid hW0
  have HF := Lib.hid hf0
  have HAW : Hid (∀ (E : Nat) (w : World), Env E w → Calls Tryz.prog 6 #[] w fun e w' => e = .returned (.bool true) ∧ Below w.heap.size w w') := Lib.hid sawake_any
  obtain ⟨f0, hf⟩ : ∃ x, t0.little 1000 = x := ⟨_, rfl⟩
  have F0 := Lib.hid hf
  unfold pgAgg at HG
  clear h0 hd hp t1 hb0 hW0 he hf0 hf
  cases f0
  · go_enter Tryz.func3, Tryz.ntmps3
    go_wp2_with fail
    refine scalls_at HW0.out ?_
    refine (HAW.out _ _ HE.out).mono ?_
    rintro e w1 ⟨rfl, hb1⟩
    obtain ⟨c0, c1, c2, c3, c4, c5, c6, c7, c8, c9, c10, c11, c12⟩ := (HT.out.to hb1).cells
    go_wp2_with fail
    clear c0 c1 c2 c3 c4 c5 c6 c7 c8 c9 c10 c11 c12
    refine (plittle_l' (m := 1000) (HG.out.to hb1) (by omega) F0.out).mono ?_
    rintro e w2 ⟨rfl, hb2⟩
    have hz2 := below_seq hb1 hb2
    go_wp2_with fail
    refine (HAW.out _ _ (HE.out.to hz2)).mono ?_
    rintro e w9 ⟨rfl, hb9⟩
    go_wp2_with fail
    go_ret
    exact ⟨rfl, below_seq HB0.out (below_seq hz2 hb9)⟩
  · obtain ⟨ce, ca, hc⟩ : ∃ ce ca, t0.chk = (ce, ca) := ⟨_, _, rfl⟩
    obtain ⟨hg, _⟩ := little_good' (m := 1000) (by omega) HF.out F0.out
    have HC := Lib.hid hc
    have HGG := Lib.hid hg
    clear hc hg
    go_enter Tryz.func3, Tryz.ntmps3
    go_wp2_with fail
    refine scalls_at HW0.out ?_
    refine (HAW.out _ _ HE.out).mono ?_
    rintro e w1 ⟨rfl, hb1⟩
    obtain ⟨c0, c1, c2, c3, c4, c5, c6, c7, c8, c9, c10, c11, c12⟩ := (HT.out.to hb1).cells
    go_wp2_with fail
    clear c0 c1 c2 c3 c4 c5 c6 c7 c8 c9 c10 c11 c12
    refine (plittle_l' (m := 1000) (HG.out.to hb1) (by omega) F0.out).mono ?_
    rintro e w2 ⟨rfl, hb2⟩
    have hz2 := below_seq hb1 hb2
    obtain ⟨c0, c1, c2, c3, c4, c5, c6, c7, c8, c9, c10, c11, c12⟩ := (HT.out.to hz2).cells
    clear hb1 hb2
    go_wp2_with fail
    clear c0 c1 c2 c3 c4 c5 c6 c7 c8 c9 c10 c11 c12
    refine (rcheck_l (HG.out.to hz2) HF.out F0.out (by omega) HC.out).mono ?_
    rintro e w3 ⟨rfl, hb3⟩
    have hz3 := below_seq hz2 hb3
    obtain ⟨c0, c1, c2, c3, c4, c5, c6, c7, c8, c9, c10, c11, c12⟩ := (HT.out.to hz3).cells
    clear hz2 hb3
    go_wp2_with fail
    clear c0 c1 c2 c3 c4 c5 c6 c7 c8 c9 c10 c11 c12
    refine (check_l (HE.out.to hz3) (HG.out.to hz3) HGG.out HC.out).mono ?_
    rintro e w4 ⟨rfl, hb4⟩
    have HZ4 := Lib.hid (below_seq hz3 hb4)
    clear hz3 hb4
    by_cases h0 : ce = 0
    · subst h0
      obtain rfl := chk_zero HC.out
      go_wp2_with fail
      go_ret
      exact ⟨rfl, below_seq HB0.out (HZ4.out.alloc HZ4.out.size _)⟩
    · have h1 : (ce == 0) = false := by simpa using h0
      have h2 : (ce != 0) = true := by simpa using h0
      have h3 : rAt ce ca t0.ds.length = ca := by unfold rAt; rw [if_neg h0]
      rw [h3]
      clear h0 h3
      go_wp2_with fail
      go_ret
      exact ⟨ret_bool (by simp), below_seq HB0.out (HZ4.out.alloc HZ4.out.size _)⟩

end Go.Proofs.YtgmdmbmkljbgiaaGreatDoor

/- Processes: the reference's Free. -/
namespace Go.Proofs.YtgmdmbmkljbgiaaGreatDoor
open Go.RowKit Go.Deep Go.Shelf

def adds (l : List ByteArray) (j : Nat) : List ByteArray := (l.take j).foldl addN []
theorem adds_yes {l : List ByteArray} {j : Nat} {s : ByteArray} (h : l[j]? = some s) (hm : memB s (adds l j) = true) : adds l (j + 1) = adds l j := by
  unfold adds at *; rw [take_snoc_get h, List.foldl_append, List.foldl_cons, List.foldl_nil, addN, hm]; rfl
theorem adds_no {l : List ByteArray} {j : Nat} {s : ByteArray} (h : l[j]? = some s) (hm : memB s (adds l j) = false) : adds l (j + 1) = adds l j ++ [s] := by
  unfold adds at *; rw [take_snoc_get h, List.foldl_append, List.foldl_cons, List.foldl_nil, addN, hm]; rfl
theorem adds_len (l : List ByteArray) (j : Nat) : (adds l j).length ≤ l.length := by
  unfold adds; have := foldN_len (l.take j) []; rw [List.length_take] at this; simp at this; omega

set_option maxHeartbeats 4000000 in
set_option maxRecDepth 100000 in
theorem rfree_any (p : Pr) (v : Value) (w : World) (hv : PLies w v p) (hn : p.nms ≤ 900000000) (hd : 2 * p.depth ≤ 1000000) : Calls Tryz.prog 11 #[v] w (StrRet w p.free) := by
  have hv' := hv
  obtain ⟨lv, av, tl, tk, kv, rfl, _⟩ := hv'
  obtain ⟨⟨la, ln, lc, rfl⟩, ⟨aa, an, ac, rfl⟩, ⟨ta, tn, tc, rfl⟩, ⟨ua, un, uc, rfl⟩, ⟨ka, kn, kc, rfl⟩⟩ := pr_slices hv
  have hbx : Below w.heap.size w (w.alloc (cell12 p (.slice la ln lc) (.slice aa an ac) (.slice ta tn tc) (.slice ua un uc) (.slice ka kn kc))) := blkBelow w _ _
  have HU : Hid (Calls Tryz.prog 30 #[prAgg p (.slice la ln lc) (.slice aa an ac) (.slice ta tn tc) (.slice ua un uc) (.slice ka kn kc), .slice none 0 0] (w.alloc (cell12 p (.slice la ln lc) (.slice aa an ac) (.slice ta tn tc) (.slice ua un uc) (.slice ka kn kc))) (StrRet (w.alloc (cell12 p (.slice la ln lc) (.slice aa an ac) (.slice ta tn tc) (.slice ua un uc) (.slice ka kn kc))) (p.uses []))) :=
    Lib.hid (uses_any p _ _ [] _ (hv.to hbx) (nil_strs _ _) hn (by simp; omega))
  have HF : Hid (p.free = (p.uses []).foldl addN []) := Lib.hid p.free_uses
  have hul := p.uses_len []
  have HB0 := Lib.hid hbx
  rw [HF.out]
  obtain ⟨l, hl⟩ : ∃ l, p.uses [] = l := ⟨_, rfl⟩
  rw [hl] at HU hul ⊢
  have HLL : Hid (l.length ≤ 900000000) := Lib.hid (by omega)
  clear hv hn hd hbx hul hl
  unfold prAgg at HU
  go_enter Tryz.func11, Tryz.ntmps11
  go_wp2_with fail
  refine HU.out.mono ?_
  rintro e w1 ⟨ya, yn, yc, rfl, hsl, hb1⟩
  obtain ⟨pa1, len1, cap1, e1, hl1, hm1, hg1⟩ := StrSl.open hsl
  simp only [Value.slice.injEq] at e1
  obtain ⟨rfl, rfl, rfl⟩ := e1
  have HOG : Hid (∀ i s, l[i]? = some s → s.size ≤ maxLen ∧ ∃ kb ko, ya = some ⟨kb, ko, none⟩ ∧ kb < w1.heap.size ∧ ∀ W, Below w1.heap.size w1 W → W.cell? ⟨kb, ko + i, none⟩ = some (.string s)) := Lib.hid (fun i s hi => by
    obtain ⟨h1, kb, ko, e, hkb, hc⟩ := hg1 i s hi
    exact ⟨h1, kb, ko, e, hkb.2, fun W hW => (hW.cell (p := ⟨kb, _, none⟩) hkb.2).trans hc⟩)
  have HLN := Lib.hid hl1.out
  have HB1 := Lib.hid (below_seq HB0.out hb1)
  have HBw : Hid (Below w1.heap.size w1 w1) := Lib.hid (Below.refl _ _)
  clear hsl hl1 hg1 hb1 HU
  go_wp2_with fail
  go_loopw [4, 5] (fun v i wr => ∃ (m : Nat) (a : Option Addr) (n c : Nat), i = .int .i64 m ∧ m ≤ yn ∧ v = .slice a n c ∧ Hid (Row w1.heap.size wr (.slice a n c) (adds l m)) ∧ Hid (Below w1.heap.size w1 wr)) (fun _ i _ => yn - (intOf i).toNat)
  case atStart => exact ⟨0, _, _, _, rfl, by omega, rfl, Lib.hid (Row.nil _ _), HBw⟩
  case round =>
    obtain ⟨m, fa, fn, fc, rfl, hm, rfl, HR, HC⟩ := hrel
    have hz2 : w1.heap.size ≤ wr.heap.size := HC.out.size
    by_cases hlt : m < yn
    · obtain ⟨s, hs⟩ : ∃ s, l[m]? = some s := ⟨_, List.getElem?_eq_getElem (by rw [← HLN.out]; exact hlt)⟩
      obtain ⟨hsz, kb, ko, rfl, hkb, hcl⟩ := HOG.out m s hs
      have q1 := hcl wr HC.out
      obtain ⟨mb, hmb⟩ : ∃ mb, memB s (adds l m) = mb := ⟨_, rfl⟩
      have hal := adds_len l m
      have HIN : Hid (Calls Tryz.prog 16 #[.string s, .slice fa fn fc] wr fun e w' => e = .returned (.bool mb) ∧ wr = w') := Lib.hid (by rw [← hmb]; exact prin_any _ s _ (adds l m) wr (HR.out.strs (by have := HLL.out; unfold maxLen; omega)).2)
      cases mb
      · have HT := Lib.hid (adds_no hs hmb)
        have HSO : Hid (StrSl (Fresh wr.heap.size (wr.alloc (.cells #[.string s] 9)).heap.size) (wr.alloc (.cells #[.string s] 9)) (.slice (some ⟨wr.heap.size, 0, none⟩) 1 1) [s]) := Lib.hid (strSl_made [s] (Below.refl _ _) (fun x hx => by rw [List.mem_singleton.1 hx]; exact hsz) (by simp [maxLen]))
        have HLX : Hid ((adds l m).length + [s].length ≤ 1000000000) := Lib.hid (by have := HLL.out; simp; omega)
        have HBS : Hid (w1.heap.size ≤ (wr.alloc (.cells #[.string s] 9)).heap.size) := Lib.hid (by simp; omega)
        clear hs hsz hcl hmb hal
        go_wp2_with (first | (go_at_call 16; refine HIN.out.mono ?_; rintro e w' ⟨rfl, rfl⟩) | (at_builtin; refine wpList_app rfl _ _ rfl w1.heap.size (adds l m) (.slice fa fn fc) rfl (HR.out.alloc _) _ _ _ _ [s] rfl HSO.out HLX.out HBS.out ?_; intro fa' fn' fc' w2 hrow hgrow _; have HRW := Lib.hid hrow; have HGW := Lib.hid hgrow; clear hrow hgrow))
        go_roundw
        case rel => exact ⟨m + 1, _, _, _, by go_num, by omega, rfl, Lib.hid (by rw [HT.out]; exact HRW.out), Lib.hid ((HC.out.alloc (by omega) _).grown HGW.out (by simp; omega) (fun k e => ((HR.out.alloc (.cells #[.string s] 9)).lt k e).1))⟩
        case measure => simp [intOf]; omega
      · have HT := Lib.hid (adds_yes hs hmb)
        clear hs hsz hcl hmb hal
        go_wp2_with (go_at_call 16; refine HIN.out.mono ?_; rintro e w' ⟨rfl, rfl⟩)
        go_roundw
        case rel => exact ⟨m + 1, _, _, _, by go_num, by omega, rfl, Lib.hid (by rw [HT.out]; exact HR.out), HC⟩
        case measure => simp [intOf]; omega
    · obtain rfl : yn = m := by omega
      have HAL : Hid (adds l yn = l.foldl addN []) := Lib.hid (by unfold adds; rw [List.take_of_length_le (by rw [HLN.out]; exact Nat.le_refl _)])
      have hal := adds_len l yn
      have HA := Lib.hid hal
      clear hal
      go_wp2_with fail
      go_ret
      have h := HR.out
      have h2 := HB1.out.size
      rw [← HAL.out]
      exact ⟨_, _, _, rfl, (h.strs (by have := HA.out; have := HLL.out; unfold maxLen; omega)).2.mono (fun k hk => ⟨by have := hk.1; omega, hk.2⟩), below_seq HB1.out HC.out⟩

end Go.Proofs.YtgmdmbmkljbgiaaGreatDoor

/- Scopes: what follows from a program without a fault. -/
namespace Go.Proofs.YtgmdmbmkljbgiaaGreatDoor
open Go.RowKit Go.Deep Go.Shelf

theorem Pr.nodeE_facts {ar : ByteArray → Option Nat} {sc : List ByteArray} {g : Bool} {p : Pr} (h : p.nodeE ar sc g = 0) : (prefixB p.k && !memB p.c sc) = false ∧ p.vs.any (badArg sc) = false ∧ (p.k = 8 → callE (ar p.c) p.vs.length g = 0) := by
  unfold Pr.nodeE at h
  by_cases h1 : (prefixB p.k && !memB p.c sc) = true
  · rw [if_pos h1] at h; omega
  · rw [if_neg h1] at h
    by_cases h2 : p.vs.any (badArg sc) = true
    · rw [if_pos h2] at h; omega
    · rw [if_neg h2] at h
      by_cases h3 : p.bnd.any (fun s => memB s sc) = true
      · rw [if_pos h3] at h; omega
      · rw [if_neg h3] at h
        refine ⟨by simpa using h1, by simpa using h2, fun h8 => ?_⟩
        rw [if_pos h8] at h; exact h
theorem Pr.scEs_all {ar : ByteArray → Option Nat} {l : List Pr} {sc : List ByteArray} {g : Bool} (h : Pr.scEs ar l sc g = 0) : ∀ u ∈ l, u.scE ar sc g = 0 := by
  induction l with
  | nil => intro u hu; cases hu
  | cons p r ih =>
    rw [Pr.scEs] at h
    by_cases hp : p.scE ar sc g = 0
    · rw [if_pos hp] at h
      intro u hu
      rcases List.mem_cons.1 hu with rfl | hu
      · exact hp
      · exact ih h u hu
    · rw [if_neg hp] at h; exact absurd h hp
theorem Pr.scE_facts {ar : ByteArray → Option Nat} {p : Pr} {sc : List ByteArray} {g : Bool} (h : p.scE ar sc g = 0) : p.nodeE ar sc g = 0 ∧ ∀ u ∈ p.ps, u.scE ar (sc ++ p.bnd) (g || prefixB p.k) = 0 := by
  rw [Pr.scE_eq] at h
  by_cases hn : p.nodeE ar sc g = 0
  · rw [if_pos hn] at h; exact ⟨hn, Pr.scEs_all h⟩
  · rw [if_neg hn] at h; exact absurd h hn
theorem mem_usess {l : List Pr} {bd : List ByteArray} {s : ByteArray} (h : s ∈ Pr.usess l bd) : ∃ u ∈ l, s ∈ u.uses bd := by
  induction l with
  | nil => simp [Pr.usess] at h
  | cons p r ih =>
    rw [Pr.usess, List.mem_append] at h
    rcases h with h | h
    · exact ⟨p, by simp, h⟩
    · obtain ⟨u, hu, hs⟩ := ih h; exact ⟨u, by simp [hu], hs⟩
theorem mem_gaths {sel : Pr → List ByteArray} {l : List Pr} {s : ByteArray} (h : s ∈ Pr.gaths sel l) : ∃ u ∈ l, s ∈ u.gath sel := by
  induction l with
  | nil => simp [Pr.gaths] at h
  | cons p r ih =>
    rw [Pr.gaths, List.mem_append] at h
    rcases h with h | h
    · exact ⟨p, by simp, h⟩
    · obtain ⟨u, hu, hs⟩ := ih h; exact ⟨u, by simp [hu], hs⟩
/-- Names that are used and not bound are in scope. -/
theorem uses_sc (ar : ByteArray → Option Nat) : ∀ (p : Pr) (sc : List ByteArray) (g : Bool) (bd : List ByteArray) (s : ByteArray), p.scE ar sc g = 0 → s ∈ p.uses bd → s ∉ bd ∧ memB s sc = true := by
  refine Pr.ind ?_
  intro k c x ls vs t ps ih sc g bd s h hs
  obtain ⟨h1, h2⟩ := Pr.scE_facts h
  obtain ⟨f1, f2, _⟩ := Pr.nodeE_facts h1
  rw [Pr.uses_eq, List.mem_append] at hs
  rcases hs with hs | hs
  · unfold keepF at hs
    rw [List.mem_filter] at hs
    have hnb : s ∉ bd := fun hm => by have := hs.2; rw [memB_true.2 hm] at this; simp at this
    refine ⟨hnb, ?_⟩
    have ho := hs.1
    unfold Pr.own at ho
    rw [List.mem_append] at ho
    rcases ho with ho | ho
    · by_cases hp : prefixB (Pr.mk k c x ls vs t ps).k = true
      · rw [if_pos hp] at ho
        rw [List.mem_singleton.1 ho]
        rw [hp] at f1
        simpa using f1
      · rw [if_neg hp] at ho; cases ho
    · obtain ⟨a, ha, rfl⟩ := List.mem_map.1 ho
      rw [List.mem_filter] at ha
      have hb := List.any_eq_false.1 f2 a ha.1
      unfold badArg at hb
      have hk : a.k = 1 := by simpa using ha.2
      simpa [hk] using hb
  · obtain ⟨u, hu, hsu⟩ := mem_usess hs
    obtain ⟨q1, q2⟩ := ih u hu _ _ _ s (h2 u hu) hsu
    rw [List.mem_append, not_or] at q1
    rw [memB_append, memB_false q1.2, Bool.or_false] at q2
    exact ⟨q1.1, q2⟩
theorem gath_sc (ar : ByteArray → Option Nat) : ∀ (p : Pr) (sc : List ByteArray) (g : Bool) (s : ByteArray), p.scE ar sc g = 0 → s ∈ p.gath selC → ar s ≠ none := by
  refine Pr.ind ?_
  intro k c x ls vs t ps ih sc g s h hs
  obtain ⟨h1, h2⟩ := Pr.scE_facts h
  obtain ⟨_, _, f3⟩ := Pr.nodeE_facts h1
  rw [Pr.gath_eq, List.mem_append] at hs
  rcases hs with hs | hs
  · unfold selC at hs
    by_cases h8 : (Pr.mk k c x ls vs t ps).k = 8
    · rw [if_pos h8] at hs
      rw [List.mem_singleton.1 hs]
      intro hn
      have := f3 h8
      rw [hn] at this; simp [callE] at this
    · rw [if_neg h8] at hs; cases hs
  · obtain ⟨u, hu, hsu⟩ := mem_gaths hs
    exact ih u hu _ _ s (h2 u hu) hsu
theorem okN_args {p : Pr} (h : p.okN = true) : p.vs.length ≤ 1 ∨ p.k = 8 := by
  obtain ⟨k, c, x, ls, vs, t, ps⟩ := p
  by_cases h8 : k = 8
  · exact .inr h8
  · refine .inl ?_
    have hk : pknK k = true := by unfold Pr.okN at h; rw [Bool.and_eq_true] at h; exact h.1
    have hk2 : k = 1 ∨ k = 2 ∨ k = 3 ∨ k = 4 ∨ k = 5 ∨ k = 6 ∨ k = 7 := by
      unfold pknK at hk; simp at hk; omega
    rcases hk2 with rfl | rfl | rfl | rfl | rfl | rfl | rfl
    · rw [okN_1] at h; simp only [Bool.and_eq_true, decide_eq_true_eq] at h; show vs.length ≤ 1; omega
    · rw [okN_2] at h; simp only [Bool.and_eq_true, decide_eq_true_eq] at h; show vs.length ≤ 1; omega
    · rw [okN_3] at h; simp only [Bool.and_eq_true, decide_eq_true_eq] at h; show vs.length ≤ 1; omega
    · rw [okN_4] at h; simp only [Bool.and_eq_true, decide_eq_true_eq] at h; show vs.length ≤ 1; omega
    · rw [okN_5] at h; simp only [Bool.and_eq_true, decide_eq_true_eq] at h; show vs.length ≤ 1; omega
    · rw [okN_6] at h; simp only [Bool.and_eq_true, decide_eq_true_eq] at h; show vs.length ≤ 1; omega
    · rw [okN_7] at h; simp only [Bool.and_eq_true, decide_eq_true_eq] at h; show vs.length ≤ 1; omega
theorem everys_all {l : List Pr} (h : Pr.everys l = true) : ∀ u ∈ l, u.every = true := by
  induction l with
  | nil => intro u hu; cases hu
  | cons p r ih =>
    rw [Pr.everys, Bool.and_eq_true] at h
    intro u hu
    rcases List.mem_cons.1 hu with rfl | hu
    · exact h.1
    · exact ih h.2 u hu
theorem nmss_le {l : List Pr} (h : ∀ u ∈ l, u.nms ≤ 22 * u.size) : Pr.nmss l ≤ 22 * Pr.sizes l := by
  induction l with
  | nil => simp [Pr.nmss, Pr.sizes]
  | cons p r ih =>
    have h1 := h p (by simp)
    have h2 := ih (fun u hu => h u (by simp [hu]))
    simp only [Pr.nmss, Pr.sizes]; omega
theorem nms_sc (ar : ByteArray → Option Nat) (hal : ∀ s k, ar s = some k → k ≤ 20) : ∀ (p : Pr) (sc : List ByteArray) (g : Bool), p.scE ar sc g = 0 → p.every = true → p.nms ≤ 22 * p.size := by
  refine Pr.ind ?_
  intro k c x ls vs t ps ih sc g h he
  obtain ⟨h1, h2⟩ := Pr.scE_facts h
  obtain ⟨_, _, f3⟩ := Pr.nodeE_facts h1
  rw [Pr.every_eq, Bool.and_eq_true] at he
  have hv : (Pr.mk k c x ls vs t ps).vs.length ≤ 20 := by
    rcases okN_args he.1 with hv | h8
    · omega
    · have hc := f3 h8
      cases ha : ar (Pr.mk k c x ls vs t ps).c with
      | none => rw [ha] at hc; simp [callE] at hc
      | some n =>
        rw [ha] at hc
        have hn := hal _ _ ha
        unfold callE at hc
        by_cases e : n = (Pr.mk k c x ls vs t ps).vs.length
        · omega
        · simp only [if_neg e] at hc; omega
  have hs := nmss_le (l := ps) (fun u hu => ih u hu _ _ (h2 u hu) (everys_all he.2 u hu))
  rw [Pr.nms_eq, Pr.size_eq]
  simp only [Pr.ps] at *
  omega
theorem right_every {p : Pr} (h : prightE p = 0) : p.every = true := by
  unfold prightE at h
  by_cases hl : p.large = true
  · rw [if_pos hl] at h; omega
  · rw [if_neg hl] at h
    by_cases ha : allN (preP 1 p) = true
    · rw [allN_pre] at ha; exact ha
    · rw [if_neg ha] at h; omega
theorem firstR_all {l : List Pr} (h : firstR l = 0) : ∀ p ∈ l, prightE p = 0 := by
  induction l with
  | nil => intro p hp; cases hp
  | cons q r ih =>
    unfold firstR at h
    by_cases hq : prightE q = 0
    · rw [if_pos hq] at h
      intro p hp
      rcases List.mem_cons.1 hp with rfl | hp
      · exact hq
      · exact ih h p hp
    · rw [if_neg hq] at h; exact absurd h hq
theorem prog_all {g : Pg} (h : pprogE g = 0) : ∀ p ∈ g.bodies, p.every = true := by
  intro p hp
  unfold pprogE at h
  by_cases hm : g.many = true
  · rw [if_pos hm] at h; omega
  · rw [if_neg hm] at h
    by_cases hf : firstR g.bodies = 0
    · exact right_every (firstR_all hf p hp)
    · rw [if_neg hf] at h; exact absurd h hf
theorem mem_addN {l : List ByteArray} {s : ByteArray} : ∀ {out : List ByteArray}, s ∈ l.foldl addN out → s ∈ out ∨ s ∈ l := by
  induction l with
  | nil => intro out h; exact .inl h
  | cons x r ih =>
    intro out h
    rw [List.foldl_cons] at h
    rcases ih h with h | h
    · unfold addN at h
      split at h
      · exact .inl h
      · rcases List.mem_append.1 h with h | h
        · exact .inl h
        · rw [List.mem_singleton.1 h]; exact .inr (by simp)
    · exact .inr (by simp [h])
/-- A program without a fault. -/
theorem chk_facts {g : Pg} {ca : Nat} (h : g.chk = (0, ca)) : pprogE g = 0 ∧ twF g.ds = none ∧ ∀ i, i ≤ g.ds.length → g.bE (arOf g.ds) i = 0 := by
  unfold Pg.chk at h
  split at h
  · next h0 => exact absurd (Prod.mk.inj h).1 h0
  · next h0 =>
    split at h
    · exact absurd (Prod.mk.inj h).1 (by omega)
    · next ht =>
      split at h
      · next i hf =>
        have := List.find?_some hf
        simp at this
        exact absurd (Prod.mk.inj h).1 this
      · next hf =>
        refine ⟨by simpa using h0, ht, fun i hi => ?_⟩
        have := List.find?_eq_none.1 hf i (List.mem_range.2 (by omega))
        simpa using this
theorem arOf_le {ds : List Df} (h : ∀ d ∈ ds, d.ms.length ≤ 20) : ∀ s k, arOf ds s = some k → k ≤ 20 := by
  induction ds with
  | nil => intro s k hk; cases hk
  | cons d r ih =>
    intro s k hk
    rw [arOf] at hk
    cases hr : arOf r s with
    | some j => rw [hr] at hk; cases hk; exact ih (fun x hx => h x (by simp [hx])) s _ hr
    | none =>
      rw [hr] at hk
      simp only at hk
      by_cases e : s = d.n
      · rw [if_pos e] at hk; cases hk; exact h d (by simp)
      · rw [if_neg e] at hk; cases hk
theorem fdI_of_ar {ds : List Df} {s : ByteArray} (h : arOf ds s ≠ none) : ∃ i, fdI ds s = some i := by
  cases hf : fdI ds s with
  | some i => exact ⟨i, rfl⟩
  | none =>
    refine absurd (arOf_none (memB_false fun hm => ?_)) h
    obtain ⟨d, hd, e⟩ := List.mem_map.1 hm
    obtain ⟨i, hi, hdi⟩ := List.getElem_of_mem hd
    have := List.find?_eq_none.1 hf i (List.mem_range.2 hi)
    rw [nameAt_some (List.getElem?_eq_some_iff.2 ⟨hi, hdi⟩)] at this
    simp [e] at this
/-- What the law about free names asks of a body. -/
theorem body_facts {g : Pg} {m : Nat} (hl : g.little m = true) (hm : m ≤ 1000000) {ca : Nat} (h : g.chk = (0, ca)) {i : Nat} {d : Df} (hd : g.ds[i]? = some d) : (∀ s ∈ d.b.free, memB s (d.ms.map Pm.n) = true) ∧ (∀ s ∈ d.b.gath selC, ∃ k, fdI g.ds s = some k) ∧ d.b.nms ≤ 22000000 := by
  obtain ⟨h1, h2, h3⟩ := chk_facts h
  have hil : i < g.ds.length := (List.getElem?_eq_some_iff.1 hd).1
  have hb := h3 i (by omega)
  rw [Pg.bE_def hd] at hb
  obtain ⟨l1, l2, l3⟩ := Pg.little_facts hl
  have hmem := List.mem_of_getElem? hd
  have hn := nms_sc _ (arOf_le (fun x hx => (Df.little_facts (l3 x hx)).2.1)) d.b _ _ hb (prog_all h1 d.b (by unfold Pg.bodies; simp; exact .inl ⟨d, hmem, rfl⟩))
  have hsz := (Pr.few_facts (Df.little_facts (l3 d hmem)).1).1
  refine ⟨fun s hs => ?_, fun s hs => fdI_of_ar (gath_sc _ d.b _ _ s hb hs), by omega⟩
  rw [Pr.free_uses] at hs
  rcases mem_addN hs with hs | hs
  · cases hs
  · exact (uses_sc _ d.b _ _ _ s hb hs).2
theorem main_facts {g : Pg} {m : Nat} (hl : g.little m = true) (hm : m ≤ 1000000) {ca : Nat} (h : g.chk = (0, ca)) : g.m.free = [] ∧ g.m.nms ≤ 22000000 := by
  obtain ⟨h1, h2, h3⟩ := chk_facts h
  have hb := h3 g.ds.length (Nat.le_refl _)
  rw [Pg.bE_main] at hb
  obtain ⟨l1, l2, l3⟩ := Pg.little_facts hl
  have hn := nms_sc _ (arOf_le (fun x hx => (Df.little_facts (l3 x hx)).2.1)) g.m _ _ hb (prog_all h1 g.m (by unfold Pg.bodies; simp))
  have hsz := (Pr.few_facts l2).1
  refine ⟨List.eq_nil_iff_forall_not_mem.2 fun s hs => ?_, by omega⟩
  rw [Pr.free_uses] at hs
  rcases mem_addN hs with hs | hs
  · cases hs
  · have := (uses_sc _ g.m _ _ _ s hb hs).2
    cases this

end Go.Proofs.YtgmdmbmkljbgiaaGreatDoor

/- Scopes: the law about free names. -/
namespace Go.Proofs.YtgmdmbmkljbgiaaGreatDoor
open Go.RowKit Go.Deep Go.Shelf

theorem rfree_l {W : World} {v : Value} {p : Pr} {l : List ByteArray} (h : PLies W v p) (hn : p.nms ≤ 900000000) (hd : 2 * p.depth ≤ 1000000) (hl : p.free = l) : Calls Tryz.prog 11 #[v] W fun e w' => ∃ la ln lc, e = .returned (.slice la ln lc) ∧ SLies w' (.slice la ln lc) l ∧ Below W.heap.size W w' := by
  rw [← hl]
  exact (rfree_any p v W h hn hd).mono fun _ _ ⟨la, ln, lc, h1, h2, h3⟩ => ⟨la, ln, lc, h1, h2.mono (fun _ hk => hk.2), h3⟩
theorem rcalls_l {W : World} {v : Value} {p : Pr} {l : List ByteArray} (h : PLies W v p) (hs : p.size ≤ 1000000) (hl : p.gath selC = l) : Calls Tryz.prog 12 #[v] W fun e w' => ∃ la ln lc, e = .returned (.slice la ln lc) ∧ SLies w' (.slice la ln lc) l ∧ Below W.heap.size W w' := by
  rw [← hl]
  exact (rcalls_any p v W h hs).mono fun _ _ ⟨la, ln, lc, h1, h2, h3⟩ => ⟨la, ln, lc, h1, h2.mono (fun _ hk => hk.2), h3⟩
theorem rfind_l {W : World} {v : Value} {g : Pg} {s : ByteArray} {x : Int} (h : GLies W v g) (hx : fdZ (fdI g.ds s) = x) : Calls Tryz.prog 13 #[v, .string s] W fun e w' => e = .returned (.int .i64 x) ∧ Below W.heap.size W w' :=
  rfind_any _ g s v W (plow W) h x hx

set_option maxHeartbeats 4000000 in
set_option maxRecDepth 100000 in
theorem rright6_any (t0 : Pg) (hf0 : Pg.fine t0) (v0 : Value) (w : World) (h0 : GLies w v0 t0) (hl : t0.little 1000 = true) (ce : Int) (ca : Nat) (hc : t0.chk = (ce, ca)) (h1 : ce ≠ 0) :
    Calls Tryz.prog 10 #[v0, .int .i64 1000] w fun e w' => e = .returned (.bool false) ∧ Below w.heap.size w w' := by
  have g0 := h0
  obtain ⟨dv, lv, av, tl, tk, kv, rfl, hd, hp⟩ := g0
  obtain ⟨⟨la, ln, lc, rfl⟩, ⟨aa, an, ac, rfl⟩, ⟨ta, tn, tc, rfl⟩, ⟨ua, un, uc, rfl⟩, ka, kn, kc, rfl⟩ := pr_slices hp
  obtain ⟨pa, len, c, rfl, _⟩ := hd.open
  obtain ⟨W0, hW0⟩ : ∃ W0, w.alloc (cell13 t0 (.slice pa len c) (.slice la ln lc) (.slice aa an ac) (.slice ta tn tc) (.slice ua un uc) (.slice ka kn kc)) = W0 := ⟨_, rfl⟩
  have hb0 : Below w.heap.size w W0 := by rw [← hW0]; exact blkBelow w _ _
  have t1 : T13 W0 w.heap.size (cell13 t0 (.slice pa len c) (.slice la ln lc) (.slice aa an ac) (.slice ta tn tc) (.slice ua un uc) (.slice ka kn kc)) := by rw [← hW0]; exact World.alloc_heap_new _ _
  have HT := Lib.hid t1
  have HG : Hid (GLies W0 (pgAgg t0 (.slice pa len c) (.slice la ln lc) (.slice aa an ac) (.slice ta tn tc) (.slice ua un uc) (.slice ka kn kc)) t0) := Lib.hid (h0.to hb0)
  have HB0 := Lib.hid hb0
  have HW0 := Lib.hid hW0
  have HF := Lib.hid hf0
  have HL := Lib.hid hl
  have HC := Lib.hid hc
  have h2 : (ce == 0) = false := by simpa using h1
  unfold pgAgg at HG
  clear h0 hd hp t1 hb0 hW0 hf0 hl hc h1
  go_enter Tryz.func10, Tryz.ntmps10
  go_wp2_with fail
  refine scalls_at HW0.out ?_
  refine (plittle_l' (m := 1000) HG.out (by omega) HL.out).mono ?_
  rintro e w1 ⟨rfl, hb1⟩
  obtain ⟨c0, c1, c2, c3, c4, c5, c6, c7, c8, c9, c10, c11, c12⟩ := (HT.out.to hb1).cells
  go_wp2_with fail
  clear c0 c1 c2 c3 c4 c5 c6 c7 c8 c9 c10 c11 c12
  refine (rcheck_l (HG.out.to hb1) HF.out HL.out (by omega) HC.out).mono ?_
  rintro e w3 ⟨rfl, hb3⟩
  go_wp2_with fail
  go_ret
  exact ⟨ret_bool (by simp), below_seq HB0.out (below_seq hb1 hb3)⟩

set_option maxHeartbeats 16000000 in
set_option maxRecDepth 100000 in
theorem ScopeFree_any (t0 : Pg) (hf0 : Pg.fine t0) (v0 : Value) (E : Nat) (w : World) (he : Env E w) (h0 : GLies w v0 t0) :
    Calls Tryz.prog 4 #[v0] w fun e w' => e = .returned (.bool true) ∧ Below w.heap.size w w' := by
  have g0 := h0
  obtain ⟨dv, lv, av, tl, tk, kv, rfl, hd, hp⟩ := g0
  have hp0 := hp
  obtain ⟨⟨la, ln, lc, rfl⟩, ⟨aa, an, ac, rfl⟩, ⟨ta, tn, tc, rfl⟩, ⟨ua, un, uc, rfl⟩, ka, kn, kc, rfl⟩ := pr_slices hp
  obtain ⟨pa, len, c, rfl, hlen, hmx, hget⟩ := hd.open
  obtain ⟨W0, hW0⟩ : ∃ W0, w.alloc (cell13 t0 (.slice pa len c) (.slice la ln lc) (.slice aa an ac) (.slice ta tn tc) (.slice ua un uc) (.slice ka kn kc)) = W0 := ⟨_, rfl⟩
  have hb0 : Below w.heap.size w W0 := by rw [← hW0]; exact blkBelow w _ _
  have hs0 : W0.heap.size = w.heap.size + 1 := by rw [← hW0]; simp
  have t1 : T13 W0 w.heap.size (cell13 t0 (.slice pa len c) (.slice la ln lc) (.slice aa an ac) (.slice ta tn tc) (.slice ua un uc) (.slice ka kn kc)) := by rw [← hW0]; exact World.alloc_heap_new _ _
  have HT := Lib.hid t1
  have HG : Hid (GLies W0 (pgAgg t0 (.slice pa len c) (.slice la ln lc) (.slice aa an ac) (.slice ta tn tc) (.slice ua un uc) (.slice ka kn kc)) t0) := Lib.hid (h0.to hb0)
  have HM : Hid (PLies W0 (prAgg t0.m (.slice la ln lc) (.slice aa an ac) (.slice ta tn tc) (.slice ua un uc) (.slice ka kn kc)) t0.m) := Lib.hid (PLies.to hp0 hb0)
  have HD : Hid (∀ (j : Nat) (d : Df), t0.ds[j]? = some d → ∃ kb ko, pa = some ⟨kb, ko, none⟩ ∧ kb < w.heap.size ∧ ∀ W, Below W0.heap.size W0 W → DfAt (fun k => k < w.heap.size) W d kb (ko + j * 14)) := Lib.hid (fun j d hj => by
    obtain ⟨kb, ko, e, hkb, hda⟩ := hget j d hj
    exact ⟨kb, ko, e, hkb, fun W hW => DfAt.keep ((below_seq hb0 hW).keeps'.mono (fun _ h => h)) hkb hda⟩)
  have HE := Lib.hid (he.to hb0)
  have HB0 := Lib.hid hb0
  have HW0 := Lib.hid hW0
  have HF := Lib.hid hf0
  have HLE : Hid (t0.ds.length = len) := Lib.hid hlen.out.symm
  have HAW : Hid (∀ (E : Nat) (w : World), Env E w → Calls Tryz.prog 6 #[] w fun e w' => e = .returned (.bool true) ∧ Below w.heap.size w w') := Lib.hid sawake_any
  have hwz : w.heap.size + 1 ≤ W0.heap.size := by omega
  obtain ⟨f0, hf⟩ : ∃ x, t0.little 1000 = x := ⟨_, rfl⟩
  have F0 := Lib.hid hf
  unfold pgAgg at HG
  unfold prAgg at HM
  clear h0 hd hp hp0 t1 hb0 hs0 hW0 he hf0 hf hlen hget
  cases f0
  · go_enter Tryz.func4, Tryz.ntmps4
    go_wp2_with fail
    refine scalls_at HW0.out ?_
    refine (HAW.out _ _ HE.out).mono ?_
    rintro e w1 ⟨rfl, hb1⟩
    obtain ⟨c0, c1, c2, c3, c4, c5, c6, c7, c8, c9, c10, c11, c12⟩ := (HT.out.to hb1).cells
    go_wp2_with fail
    clear c0 c1 c2 c3 c4 c5 c6 c7 c8 c9 c10 c11 c12
    refine (plittle_l' (m := 1000) (HG.out.to hb1) (by omega) F0.out).mono ?_
    rintro e w2 ⟨rfl, hb2⟩
    have hz2 := below_seq hb1 hb2
    go_wp2_with fail
    refine (HAW.out _ _ (HE.out.to hz2)).mono ?_
    rintro e w9 ⟨rfl, hb9⟩
    go_wp2_with fail
    go_ret
    exact ⟨rfl, below_seq HB0.out (below_seq hz2 hb9)⟩
  · obtain ⟨ce, ca, hc⟩ : ∃ ce ca, t0.chk = (ce, ca) := ⟨_, _, rfl⟩
    obtain ⟨hg, _⟩ := little_good' (m := 1000) (by omega) HF.out F0.out
    have HC := Lib.hid hc
    have HGG := Lib.hid hg
    clear hc hg
    go_enter Tryz.func4, Tryz.ntmps4
    go_wp2_with fail
    refine scalls_at HW0.out ?_
    refine (HAW.out _ _ HE.out).mono ?_
    rintro e w1 ⟨rfl, hb1⟩
    obtain ⟨c0, c1, c2, c3, c4, c5, c6, c7, c8, c9, c10, c11, c12⟩ := (HT.out.to hb1).cells
    go_wp2_with fail
    clear c0 c1 c2 c3 c4 c5 c6 c7 c8 c9 c10 c11 c12
    refine (plittle_l' (m := 1000) (HG.out.to hb1) (by omega) F0.out).mono ?_
    rintro e w2 ⟨rfl, hb2⟩
    have hz2 := below_seq hb1 hb2
    obtain ⟨c0, c1, c2, c3, c4, c5, c6, c7, c8, c9, c10, c11, c12⟩ := (HT.out.to hz2).cells
    clear hb1 hb2
    go_wp2_with fail
    clear c0 c1 c2 c3 c4 c5 c6 c7 c8 c9 c10 c11 c12
    refine (check_l (HE.out.to hz2) (HG.out.to hz2) HGG.out HC.out).mono ?_
    rintro e w3 ⟨rfl, hb3⟩
    have HZ3 := Lib.hid (below_seq hz2 hb3)
    have hfd : ∀ w : World, (Instr.field 39 (.agg #[.int .i64 ce, .int .i64 (ca : Int)]) 0).run Tryz.prog w = .ok (.int .i64 ce) w := fun _ => by kernel_rfl
    clear hz2 hb3
    by_cases h0 : ce = 0
    · subst h0
      go_wp2_with fail
      go_loopw [3] (fun i wr => ∃ j : Nat, i = .int .i64 (j : Int) ∧ j ≤ len ∧ Hid (Below W0.heap.size W0 wr)) (fun i _ => len - (intOf i).toNat)
      case atStart => exact ⟨0, rfl, by omega, HZ3⟩
      case round =>
        obtain ⟨j, rfl, hj, HBj⟩ := hrel
        obtain ⟨wo, hwo⟩ : ∃ wo, wo = wr := ⟨_, rfl⟩
        subst hwo
        have hzo : W0.heap.size ≤ wo.heap.size := HBj.out.size
        have c0 := (HT.out.to HBj.out).cells.1
        by_cases hlt : j < len
        · obtain ⟨d, hdj⟩ : ∃ d, t0.ds[j]? = some d := ⟨_, List.getElem?_eq_getElem (by rw [HLE.out]; exact hlt)⟩
          obtain ⟨kb, ko, rfl, hkl, hda⟩ := HD.out j d hdj
          obtain ⟨_, _, ⟨mv, e1, hms⟩, hpr⟩ := hda wo HBj.out
          obtain ⟨ma, ml, mc, rfl, hml, hmlx, hmg⟩ := hms.open
          obtain ⟨la1, ln1, lc1, aa1, an1, ac1, ta1, tn1, tc1, ua1, un1, uc1, ka1, kn1, kc1, ⟨d0, d1, d2, d3, d4, d5, d6, d7, d8, d9, d10, d11⟩, hval⟩ := hpr.load'
          obtain ⟨bf1, bf2, bf3⟩ := body_facts F0.out (by omega) HC.out hdj
          have hdep := (HGG.out.2.2 d.b (by unfold Pg.bodies; simp; exact .inl ⟨d, List.mem_of_getElem? hdj, rfl⟩)).2
          obtain ⟨fr, hfr⟩ : ∃ x, d.b.free = x := ⟨_, rfl⟩
          obtain ⟨cl, hcl⟩ : ∃ x, d.b.gath selC = x := ⟨_, rfl⟩
          rw [hfr] at bf1
          rw [hcl] at bf2
          have hkw : kb < wo.heap.size := by omega
          have HPL : Hid (∀ W, Below wo.heap.size wo W → PLies W (.agg #[.int .i64 d.b.k, .string d.b.c, .string d.b.x, .slice la1 ln1 lc1, .slice aa1 an1 ac1, .int .i64 d.b.t.k, .int .i64 d.b.t.p, .string d.b.t.n, .int .i64 d.b.t.s, .slice ta1 tn1 tc1, .slice ua1 un1 uc1, .slice ka1 kn1 kc1]) d.b) := Lib.hid (fun W hW => PLies.to (hval.mono (fun k hk => by have hk' : k < w.heap.size := hk; omega)) hW)
          have HKC : Hid (∀ W, Below wo.heap.size wo W → W.cell? ⟨kb, ko + j * 14 + 1, none⟩ = some (.slice ma ml mc) ∧ W.cell? ⟨kb, ko + j * 14 + 2, none⟩ = some (.int .i64 d.b.k) ∧ W.cell? ⟨kb, ko + j * 14 + 3, none⟩ = some (.string d.b.c) ∧ W.cell? ⟨kb, ko + j * 14 + 4, none⟩ = some (.string d.b.x) ∧ W.cell? ⟨kb, ko + j * 14 + 5, none⟩ = some (.slice la1 ln1 lc1) ∧ W.cell? ⟨kb, ko + j * 14 + 6, none⟩ = some (.slice aa1 an1 ac1) ∧ W.cell? ⟨kb, ko + j * 14 + 7, none⟩ = some (.int .i64 d.b.t.k) ∧ W.cell? ⟨kb, ko + j * 14 + 8, none⟩ = some (.int .i64 d.b.t.p) ∧ W.cell? ⟨kb, ko + j * 14 + 9, none⟩ = some (.string d.b.t.n) ∧ W.cell? ⟨kb, ko + j * 14 + 10, none⟩ = some (.int .i64 d.b.t.s) ∧ W.cell? ⟨kb, ko + j * 14 + 11, none⟩ = some (.slice ta1 tn1 tc1) ∧ W.cell? ⟨kb, ko + j * 14 + 12, none⟩ = some (.slice ua1 un1 uc1) ∧ W.cell? ⟨kb, ko + j * 14 + 13, none⟩ = some (.slice ka1 kn1 kc1)) := Lib.hid (fun W hW => by
            have lift : ∀ {i : Nat} {v : Value}, wo.cell? ⟨kb, i, none⟩ = some v → W.cell? ⟨kb, i, none⟩ = some v := fun h => (hW.cell (p := ⟨kb, _, none⟩) hkw).trans h
            exact ⟨lift e1, lift d0, lift d1, lift d2, lift d3, lift d4, lift d5, lift d6, lift d7, lift d8, lift d9, lift d10, lift d11⟩)
          have HMG : Hid (∀ (i : Nat) (a : Pm), d.ms[i]? = some a → ∃ gb go, ma = some ⟨gb, go, none⟩ ∧ ∀ W, Below wo.heap.size wo W → W.cell? ⟨gb, go + i * 7, none⟩ = some (.string a.n)) := Lib.hid (fun i a hi => by
            obtain ⟨gb, go, e, hgb, ha⟩ := hmg i a hi
            have hgb' : gb < w.heap.size := hgb
            exact ⟨gb, go, e, fun W hW => (hW.cell (p := ⟨gb, _, none⟩) (by simp only; omega)).trans ha.2.1⟩)
          have HFR := Lib.hid (rfree_l (HPL.out wo (Below.refl _ _)) (by omega) (by omega) hfr)
          have HCL : Hid (∀ W, Below wo.heap.size wo W → Calls Tryz.prog 12 #[.agg #[.int .i64 d.b.k, .string d.b.c, .string d.b.x, .slice la1 ln1 lc1, .slice aa1 an1 ac1, .int .i64 d.b.t.k, .int .i64 d.b.t.p, .string d.b.t.n, .int .i64 d.b.t.s, .slice ta1 tn1 tc1, .slice ua1 un1 uc1, .slice ka1 kn1 kc1]] W fun e w' => ∃ la ln lc, e = .returned (.slice la ln lc) ∧ SLies w' (.slice la ln lc) cl ∧ Below W.heap.size W w') := Lib.hid (fun W hW => rcalls_l (HPL.out W hW) (by omega) hcl)
          have HML := Lib.hid hml.out
          have HB1 := Lib.hid bf1
          have HB2 := Lib.hid bf2
          clear hdj hda hms hpr hml hmg hval bf1 bf2 bf3 hdep hfr hcl e1 d0 d1 d2 d3 d4 d5 d6 d7 d8 d9 d10 d11
          obtain ⟨_, d0, d1, d2, d3, d4, d5, d6, d7, d8, d9, d10, d11⟩ := HKC.out wo (Below.refl _ _)
          go_wp2_with fail
          clear d0 d1 d2 d3 d4 d5 d6 d7 d8 d9 d10 d11 c0
          refine HFR.out.mono ?_
          rintro e w4 ⟨fa, fn, fc, rfl, hsl, hb4⟩
          have HB4 : Hid (Below wo.heap.size wo w4) := Lib.hid hb4
          obtain ⟨_, _, _, ee, hfl, hfm, hfg⟩ := StrSl.open hsl
          simp only [Value.slice.injEq] at ee
          obtain ⟨rfl, rfl, rfl⟩ := ee
          have HFG : Hid (∀ i s, fr[i]? = some s → ∃ gb go, fa = some ⟨gb, go, none⟩ ∧ ∀ W, Below w4.heap.size w4 W → W.cell? ⟨gb, go + i, none⟩ = some (.string s)) := Lib.hid (fun i s hi => by
            obtain ⟨_, gb, go, e, hgb, hc⟩ := hfg i s hi
            exact ⟨gb, go, e, fun W hW => (hW.cell (p := ⟨gb, _, none⟩) hgb).trans hc⟩)
          have HFL := Lib.hid hfl.out
          have hz4 : wo.heap.size ≤ w4.heap.size := hb4.size
          clear hsl hb4 hfl hfg HFR
          go_wp2_with fail
          go_loopw [5, 6, 7] (fun i _ _ wr => ∃ k : Nat, i = .int .i64 (k : Int) ∧ k ≤ fn ∧ Hid (Below w4.heap.size w4 wr)) (fun i _ _ _ => fn - (intOf i).toNat)
          case atStart => exact ⟨0, rfl, by omega, Lib.hid (Below.refl _ _)⟩
          case round =>
            obtain ⟨k, rfl, hk, HBk⟩ := hrel
            obtain ⟨wk, hwk⟩ : ∃ wk, wk = wr := ⟨_, rfl⟩
            subst hwk
            by_cases hlt2 : k < fn
            · obtain ⟨s, hs⟩ : ∃ s, fr[k]? = some s := ⟨_, List.getElem?_eq_getElem (by rw [← HFL.out]; exact hlt2)⟩
              obtain ⟨gb, go, rfl, hcs⟩ := HFG.out k s hs
              have HS : Hid (memB s (d.ms.map Pm.n) = true) := Lib.hid (HB1.out s (List.mem_of_getElem? hs))
              have HCS := Lib.hid hcs
              clear hs hcs
              go_wp2_with fail
              go_loopw [6, 7] (fun v i wr => ∃ m : Nat, i = .int .i64 (m : Int) ∧ m ≤ ml ∧ v = .bool (memB s ((d.ms.take m).map Pm.n)) ∧ Hid (Below w4.heap.size w4 wr)) (fun _ i _ => ml - (intOf i).toNat)
              case atStart => exact ⟨0, rfl, by omega, rfl, HBk⟩
              case round =>
                obtain ⟨m, rfl, hm, rfl, HBm⟩ := hrel
                obtain ⟨wm, hwm⟩ : ∃ wm, wm = wr := ⟨_, rfl⟩
                subst hwm
                have HBmo : Hid (Below wo.heap.size wo wm) := Lib.hid (HB4.out.trans (HBm.out.mono hz4))
                have HBm0 : Hid (Below W0.heap.size W0 wm) := Lib.hid (HBj.out.trans (HBmo.out.mono hzo))
                have c0 := (HT.out.to HBm0.out).cells.1
                have e1 := (HKC.out wm HBmo.out).1
                by_cases hlt3 : m < ml
                · obtain ⟨a, ha⟩ : ∃ a, d.ms[m]? = some a := ⟨_, List.getElem?_eq_getElem (by rw [← HML.out]; exact hlt3)⟩
                  obtain ⟨gb2, go2, rfl, hca⟩ := HMG.out m a ha
                  have HNT : Hid (memB s ((d.ms.take (m + 1)).map Pm.n) = (memB s ((d.ms.take m).map Pm.n) || decide (a.n = s))) := Lib.hid (by rw [take_snoc_get ha, List.map_append, memB_append]; rw [show (List.map Pm.n [a]) = [a.n] from rfl, memB_one])
                  have HRA : Hid (∀ W, Below wm.heap.size wm W → Below w4.heap.size w4 W) := Lib.hid (fun W hW => HBm.out.trans (hW.mono HBm.out.size))
                  have u0 := fun Q : Later wm.heap.size wm => (HT.out.to (HBm0.out.trans (Below.mono Q.2 HBm0.out.size))).cells.1
                  have u1 := fun Q : Later wm.heap.size wm => (HKC.out Q.1 (HBmo.out.trans (Below.mono Q.2 HBmo.out.size))).1
                  have u2 := fun Q : Later wm.heap.size wm => hca Q.1 (HBmo.out.trans (Below.mono Q.2 HBmo.out.size))
                  have u3 := fun Q : Later wm.heap.size wm => HCS.out Q.1 (HRA.out Q.1 Q.2)
                  obtain ⟨fb, hfb⟩ : ∃ x, memB s ((d.ms.take m).map Pm.n) = x := ⟨_, rfl⟩
                  rw [hfb] at HNT ⊢
                  clear ha hca hfb
                  cases fb
                  · by_cases hes : a.n = s
                    · have HNT2 : Hid (memB s ((d.ms.take (m + 1)).map Pm.n) = true) := Lib.hid (by rw [HNT.out, hes]; simp)
                      rw [hes] at u2
                      clear hes
                      go_wp2_with fail
                      refine wp_region_later wm.heap.size wm (by kernel_rfl) (by kernel_rfl) (Below.refl _ _) ?_
                      repeat (go_big_quiet_step (fail))
                      refine wpQuiet_nil ?_
                      rintro _ ⟨⟨w9, hb9⟩, rfl⟩
                      have HB9 := Lib.hid (HRA.out _ hb9)
                      clear u0 u1 u2 u3 hb9 c0 e1
                      go_wp2_with fail
                      go_roundw
                      case rel => exact ⟨m + 1, by go_num, by omega, by rw [HNT2.out], HB9⟩
                      case measure => simp [intOf]; omega
                    · have s1 := str_ne hes
                      have s2 : (a.n.toList == s.toList) = false := by simpa using s1
                      have HNT2 : Hid (memB s ((d.ms.take (m + 1)).map Pm.n) = false) := Lib.hid (by rw [HNT.out]; simpa using hes)
                      clear hes
                      go_wp2_with fail
                      refine wp_region_later wm.heap.size wm (by kernel_rfl) (by kernel_rfl) (Below.refl _ _) ?_
                      repeat (go_big_quiet_step (fail))
                      refine wpQuiet_nil ?_
                      rintro _ ⟨⟨w9, hb9⟩, rfl⟩
                      have HB9 := Lib.hid (HRA.out _ hb9)
                      clear u0 u1 u2 u3 hb9 c0 e1
                      go_wp2_with fail
                      go_roundw
                      case rel => exact ⟨m + 1, by go_num, by omega, by rw [HNT2.out], HB9⟩
                      case measure => simp [intOf]; omega
                  · have HNT2 : Hid (memB s ((d.ms.take (m + 1)).map Pm.n) = true) := Lib.hid (by rw [HNT.out]; rfl)
                    go_wp2_with fail
                    refine wp_region_later wm.heap.size wm (by kernel_rfl) (by kernel_rfl) (Below.refl _ _) ?_
                    repeat (go_big_quiet_step (fail))
                    refine wpQuiet_nil ?_
                    rintro _ ⟨⟨w9, hb9⟩, rfl⟩
                    have HB9 := Lib.hid (HRA.out _ hb9)
                    clear u0 u1 u2 u3 hb9 c0 e1
                    go_wp2_with fail
                    go_roundw
                    case rel => exact ⟨m + 1, by go_num, by omega, by rw [HNT2.out], HB9⟩
                    case measure => simp [intOf]; omega
                · obtain rfl : ml = m := by omega
                  have hmb : memB s ((d.ms.take ml).map Pm.n) = true := by rw [List.take_of_length_le (by rw [HML.out]; exact Nat.le_refl _)]; exact HS.out
                  rw [hmb]
                  clear hmb
                  go_wp2_with fail
                  go_roundw
                  case rel => exact ⟨k + 1, by go_num, by omega, HBm⟩
                  case measure => simp [intOf]; omega
            · obtain rfl : fn = k := by omega
              have HBko : Hid (Below wo.heap.size wo wk) := Lib.hid (HB4.out.trans (HBk.out.mono hz4))
              have HBk0 : Hid (Below W0.heap.size W0 wk) := Lib.hid (HBj.out.trans (HBko.out.mono hzo))
              have c0 := (HT.out.to HBk0.out).cells.1
              obtain ⟨_, d0, d1, d2, d3, d4, d5, d6, d7, d8, d9, d10, d11⟩ := HKC.out wk HBko.out
              go_wp2_with fail
              clear d0 d1 d2 d3 d4 d5 d6 d7 d8 d9 d10 d11 c0
              refine (HCL.out wk HBko.out).mono ?_
              rintro e w5 ⟨qa, qn, qc, rfl, hsl, hb5⟩
              have HB5 : Hid (Below W0.heap.size W0 w5) := Lib.hid (HBk0.out.trans (hb5.mono HBk0.out.size))
              obtain ⟨_, _, _, ee, hql, hqm, hqg⟩ := StrSl.open hsl
              simp only [Value.slice.injEq] at ee
              obtain ⟨rfl, rfl, rfl⟩ := ee
              have HQG : Hid (∀ i s, cl[i]? = some s → ∃ gb go, qa = some ⟨gb, go, none⟩ ∧ ∀ W, Below w5.heap.size w5 W → W.cell? ⟨gb, go + i, none⟩ = some (.string s)) := Lib.hid (fun i s hi => by
                obtain ⟨_, gb, go, e, hgb, hc⟩ := hqg i s hi
                exact ⟨gb, go, e, fun W hW => (hW.cell (p := ⟨gb, _, none⟩) hgb).trans hc⟩)
              have HQL := Lib.hid hql.out
              have hz5 : W0.heap.size ≤ w5.heap.size := HB5.out.size
              clear hsl hb5 hql hqg
              go_wp2_with fail
              go_loopw [9] (fun i wr => ∃ m : Nat, i = .int .i64 (m : Int) ∧ m ≤ qn ∧ Hid (Below w5.heap.size w5 wr)) (fun i _ => qn - (intOf i).toNat)
              case atStart => exact ⟨0, rfl, by omega, Lib.hid (Below.refl _ _)⟩
              case round =>
                obtain ⟨m, rfl, hm, HBm⟩ := hrel
                obtain ⟨wm, hwm⟩ : ∃ wm, wm = wr := ⟨_, rfl⟩
                subst hwm
                have HBm0 : Hid (Below W0.heap.size W0 wm) := Lib.hid (HB5.out.trans (HBm.out.mono hz5))
                have hz6 : W0.heap.size ≤ wm.heap.size := HBm0.out.size
                by_cases hlt3 : m < qn
                · obtain ⟨s, hs⟩ : ∃ s, cl[m]? = some s := ⟨_, List.getElem?_eq_getElem (by rw [← HQL.out]; exact hlt3)⟩
                  obtain ⟨gb, go, rfl, hcs⟩ := HQG.out m s hs
                  obtain ⟨fi, hfi⟩ := HB2.out s (List.mem_of_getElem? hs)
                  have HFN : Hid (∀ W, Below wm.heap.size wm W → Calls Tryz.prog 13 #[.agg #[.slice (some ⟨kb, ko, none⟩) len c, .int .i64 t0.m.k, .string t0.m.c, .string t0.m.x, .slice la ln lc, .slice aa an ac, .int .i64 t0.m.t.k, .int .i64 t0.m.t.p, .string t0.m.t.n, .int .i64 t0.m.t.s, .slice ta tn tc, .slice ua un uc, .slice ka kn kc], .string s] W fun e w' => e = .returned (.int .i64 (fi : Int)) ∧ Below W.heap.size W w') := Lib.hid (fun W hW => rfind_l (HG.out.to (HBm0.out.trans (hW.mono hz6))) (by rw [hfi]; rfl))
                  have kt := fun Q : Later wm.heap.size wm => (HT.out.to (HBm0.out.trans (Below.mono Q.2 hz6))).cells
                  have u3 := fun Q : Later wm.heap.size wm => hcs Q.1 (HBm.out.trans (Below.mono Q.2 HBm.out.size))
                  have hfn : ¬ ((fi : Int) < 0) := by omega
                  have hfn2 : decide ((fi : Int) < 0) = false := by simp
                  simp only [forall_and] at kt
                  obtain ⟨t0', t1, t2, t3, t4, t5, t6, t7, t8, t9, t10, t11, t12⟩ := kt
                  clear hs hcs hfi
                  go_wp2_with fail
                  refine wp_region_later wm.heap.size wm (by kernel_rfl) (by kernel_rfl) (Below.refl _ _) ?_
                  repeat (go_big_quiet_step ((go_at_call 13; exact later_call _ (Nat.le_refl _) (HFN.out _ (Subtype.property _)))))
                  refine wpQuiet_nil ?_
                  rintro _ ⟨⟨w9, hb9⟩, rfl⟩
                  have HB9 := Lib.hid hb9
                  clear hb9 t0' t1 t2 t3 t4 t5 t6 t7 t8 t9 t10 t11 t12 u3
                  go_wp2_with fail
                  go_roundw
                  case rel => exact ⟨m + 1, by go_num, by omega, Lib.hid (HBm.out.trans (HB9.out.mono HBm.out.size))⟩
                  case measure => simp [intOf]; omega
                · obtain rfl : qn = m := by omega
                  go_wp2_with fail
                  go_roundw
                  case rel => exact ⟨j + 1, by go_num, by omega, HBm0⟩
                  case measure => simp [intOf]; omega
        · obtain rfl : len = j := by omega
          obtain ⟨mf1, mf2⟩ := main_facts F0.out (by omega) HC.out
          have hdep := (HGG.out.2.2 t0.m (by unfold Pg.bodies; simp)).2
          have HFM := Lib.hid (rfree_l (HM.out.to HBj.out) (by omega) (by omega) mf1)
          obtain ⟨_, c1, c2, c3, c4, c5, c6, c7, c8, c9, c10, c11, c12⟩ := (HT.out.to HBj.out).cells
          clear mf1 mf2 hdep
          go_wp2_with fail
          clear c0 c1 c2 c3 c4 c5 c6 c7 c8 c9 c10 c11 c12
          refine HFM.out.mono ?_
          rintro e w4 ⟨fa, fn, fc, rfl, hsl, hb4⟩
          obtain ⟨_, _, _, ee, hfl, _⟩ := StrSl.open hsl
          simp only [Value.slice.injEq] at ee
          obtain ⟨rfl, rfl, rfl⟩ := ee
          obtain rfl : fn = 0 := hfl.out
          have HB4 : Hid (Below W0.heap.size W0 w4) := Lib.hid (HBj.out.trans (hb4.mono HBj.out.size))
          clear hsl hb4 hfl HFM
          go_wp2_with fail
          go_ret
          exact ⟨rfl, below_seq HB0.out HB4.out⟩
    · have h1 : (ce != 0) = true := by simpa using h0
      have H0 := Lib.hid h0
      obtain ⟨c0, c1, c2, c3, c4, c5, c6, c7, c8, c9, c10, c11, c12⟩ := (HT.out.to HZ3.out).cells
      clear h0
      go_wp2_with fail
      clear c0 c1 c2 c3 c4 c5 c6 c7 c8 c9 c10 c11 c12
      refine (rright6_any t0 HF.out _ w3 (HG.out.to HZ3.out) F0.out ce ca HC.out H0.out).mono ?_
      rintro e w4 ⟨rfl, hb4⟩
      go_wp2_with fail
      go_ret
      exact ⟨rfl, below_seq HB0.out (below_seq HZ3.out hb4)⟩

end Go.Proofs.YtgmdmbmkljbgiaaGreatDoor

/- Scopes: the program with one more definition, in memory and as asked. -/
namespace Go.Proofs.YtgmdmbmkljbgiaaGreatDoor
open Go.RowKit Go.Deep Go.Shelf

theorem list_choose {α β : Type} {P : Nat → α → β → Prop} : ∀ (l : List α) (k : Nat), (∀ j d, l[j]? = some d → ∃ e, P (k + j) d e) → ∃ es : List β, es.length = l.length ∧ ∀ j d, l[j]? = some d → ∃ e, es[j]? = some e ∧ P (k + j) d e
  | [], _, _ => ⟨[], rfl, fun j d h => by simp at h⟩
  | x :: r, k, h => by
    obtain ⟨e, he⟩ := h 0 x rfl
    obtain ⟨es, h1, h2⟩ := list_choose r (k + 1) (fun j d hd => by
      have := h (j + 1) d (by simpa using hd)
      rwa [show k + (j + 1) = k + 1 + j by omega] at this)
    refine ⟨e :: es, by simp [h1], fun j d hd => ?_⟩
    cases j with
    | zero => simp at hd; subst hd; exact ⟨e, rfl, he⟩
    | succ j =>
      obtain ⟨e2, h3, h4⟩ := h2 j d (by simpa using hd)
      exact ⟨e2, by simpa using h3, by rwa [show k + (j + 1) = k + 1 + j by omega]⟩
/-- The definitions of a list in memory, with what lies in their cells. -/
theorem dfs_dv {B : Nat → Prop} {w : World} {a : Option Addr} {n c : Nat} {l : List Df} (h : DfSl B w (.slice a n c) l) :
    ∃ es : List DV, es.map DV.d = l ∧ n = es.length ∧ (∀ e ∈ es, e.Ok B w) ∧ (es = [] ∨ ∃ b o, a = some ⟨b, o, none⟩ ∧ B b ∧ ∀ (j : Nat) (e : DV) (i : Nat) (u : Value), es[j]? = some e → e.cells[i]? = some u → w.cell? ⟨b, o + (j * 14 + i), none⟩ = some u) := by
  rcases h.1 with ⟨⟨a', c', e⟩, rfl⟩ | ⟨b, o, c', e, hb, hg⟩
  · injection e with e1 e2 e3
    exact ⟨[], rfl, (by rw [e2]; rfl), (fun e he => by cases he), .inl rfl⟩
  · injection e with e1 e2 e3
    obtain ⟨es, h1, h2⟩ := list_choose (P := fun j d (e : DV) => e.d = d ∧ e.Ok B w ∧ ∀ i u, e.cells[i]? = some u → w.cell? ⟨b, o + j * 14 + i, none⟩ = some u) l 0 (fun j d hd => by
      rw [Nat.zero_add]; exact (hg j d hd).dv)
    have hm : es.map DV.d = l := by
      apply List.ext_getElem?
      intro j
      rw [List.getElem?_map]
      by_cases hj : j < l.length
      · obtain ⟨e, h3, h4, _⟩ := h2 j _ (List.getElem?_eq_getElem hj)
        rw [h3, List.getElem?_eq_getElem hj]; simp [h4]
      · rw [List.getElem?_eq_none (by omega), List.getElem?_eq_none (by omega)]; rfl
    have hat : ∀ j e, es[j]? = some e → e.Ok B w ∧ ∀ i u, e.cells[i]? = some u → w.cell? ⟨b, o + j * 14 + i, none⟩ = some u := fun j e he => by
      have hj : j < l.length := by rw [← h1]; exact (List.getElem?_eq_some_iff.1 he).1
      obtain ⟨e2, h3, _, h5⟩ := h2 j _ (List.getElem?_eq_getElem hj)
      rw [h3] at he; cases he
      rwa [Nat.zero_add] at h5
    refine ⟨es, hm, by rw [e2, h1], fun e he => ?_, .inr ⟨b, o, e1, hb, fun j e i u hj hi => ?_⟩⟩
    · obtain ⟨j, hj⟩ := List.getElem?_of_mem he
      exact (hat j e hj).1
    · rw [show o + (j * 14 + i) = o + j * 14 + i by omega]
      exact (hat j e hj).2 i u hi
abbrev newDV (n : ByteArray) : DV := ⟨newDf n, .slice none 0 0, .slice none 0 0, .slice none 0 0, .slice none 0 0, .slice none 0 0, .slice none 0 0⟩
theorem sstop_val (B : Nat → Prop) (w : World) : PrVal B w (prAgg sStop (.slice none 0 0) (.slice none 0 0) (.slice none 0 0) (.slice none 0 0) (.slice none 0 0)) sStop :=
  ⟨_, _, _, _, _, rfl, ⟨by decide, by decide⟩, nil_strs _ _, nil_vls _ _, val_leaf _ _ 0 0 0 e0 (by decide), nil_prs _ _⟩
theorem newDV_ok (B : Nat → Prop) (w : World) {n : ByteArray} (hn : n.size ≤ maxLen) : (newDV n).Ok B w := by
  refine ⟨hn, ⟨.inl ⟨⟨_, _, rfl⟩, rfl⟩, by simp [maxLen]⟩, sstop_val B w⟩
theorem ggood_more {g : Pg} {n : ByteArray} (h : GGood g) (hl : g.ds.length ≤ 999) : GGood (g.more n) := by
  have hs : PGood sStop ∧ sStop.depth ≤ 1000 ∧ sStop.size ≤ 1000000 := ⟨good_sStop, by decide, by decide⟩
  refine ⟨by show (g.ds ++ [newDf n]).length ≤ 1000; rw [List.length_append, List.length_singleton]; omega, fun d hd => ?_, fun p hp => ?_⟩
  · rcases List.mem_append.1 hd with hd | hd
    · exact h.2.1 d hd
    · rw [List.mem_singleton.1 hd]; intro a ha; cases ha
  · rcases (mem_bodies _ _).1 hp with ⟨d, hd, e⟩ | e
    · rcases List.mem_append.1 hd with hd | hd
      · exact h.2.2 p ((mem_bodies _ _).2 (.inl ⟨d, hd, e⟩))
      · rw [List.mem_singleton.1 hd] at e; rw [← e]; exact hs
    · exact h.2.2 p ((mem_bodies _ _).2 (.inr e))
theorem total_more_le {g : Pg} {n : ByteArray} (h : g.total ≤ 1000000) : (g.more n).total ≤ 1000000000 := by
  rw [Pg.total_eq] at h ⊢
  show g.m.size + g.m.typ + sumN ((g.ds ++ [newDf n]).map Df.all) ≤ _
  rw [List.map_append, sumN_append']
  have : sumN ([newDf n].map Df.all) = (newDf n).all := by simp [sumN]
  rw [this]
  have : (newDf n).all ≤ 100 := by
    have : sStop.size + sStop.typ ≤ 100 := by decide +kernel
    show sStop.size + sStop.typ + sumN (Df.pms (newDf n)) ≤ 100
    simpa [Df.pms, sumN] using this
  omega
theorem rpprogram_l {W : World} {v : Value} {g : Pg} {r : Int} (h : GLies W v g) (hg : GGood g) (ht : g.total ≤ 1000000000) (hr : pprogE g = r) : Calls Tryz.prog 15 #[v] W fun e w' => e = .returned (.int .i64 r) ∧ Below W.heap.size W w' :=
  rpprogram_any rnode_all _ g hg ht r hr v W (plow W) h
theorem rtotal_m {W : World} {v : Value} {g : Pg} {c : Int} (h : GLies W v g) (hg : GGood g) (hs : g.total ≤ 1000000000) (hc : (g.total : Int) = c) : Calls Tryz.prog 14 #[v] W fun e w' => e = .returned (.int .i64 c) ∧ Below W.heap.size W w' := by
  rw [← hc]; exact rptotal_any _ g hg hs v W (plow W) h
theorem rfind_m {W : World} {v : Value} {g : Pg} {s : ByteArray} {x : Int} (h : GLies W v g) (hx : fdZ (fdI g.ds s) = x) : Calls Tryz.prog 13 #[v, .string s] W fun e w' => e = .returned (.int .i64 x) ∧ Below W.heap.size W w' :=
  rfind_any _ g s v W (plow W) h x hx
theorem in_m {W : World} {v : Value} {l : List ByteArray} {s : ByteArray} {b : Bool} (h : SLies W v l) (hb : memB s l = b) : Calls Tryz.prog 16 #[.string s, v] W fun e w' => e = .returned (.bool b) ∧ W = w' := by
  rw [← hb]; exact prin_any _ s v l W h
theorem more_q {z base : Nat} {wc : World} {t0 : Pg} {n : ByteArray} {a : Option Addr} {m c : Nat} {lv av tl tk kv : Value} {es : List DV}
    (hr : DRow base wc (.slice a m c) (es ++ [newDV n])) (he : es.map DV.d = t0.ds) (hok : ∀ e ∈ es, e.Ok (fun k => k < z) wc) (hn : n.size ≤ maxLen) (hm : PrVal (fun k => k < z) wc (prAgg t0.m lv av tl tk kv) t0.m) (hz : z < wc.heap.size) (hl : es.length ≤ 1000) :
    GLies wc (.agg #[.slice a m c, .int .i64 t0.m.k, .string t0.m.c, .string t0.m.x, lv, av, .int .i64 t0.m.t.k, .int .i64 t0.m.t.p, .string t0.m.t.n, .int .i64 t0.m.t.s, tl, tk, kv]) (t0.more n) := by
  have hq := hr.dfs (B := fun k => k < z) (fun e h => by
    rcases List.mem_append.1 h with h | h
    · exact hok e h
    · rw [List.mem_singleton.1 h]; exact newDV_ok _ _ hn) (by rw [List.length_append, List.length_singleton]; unfold maxLen; omega)
  rw [List.map_append, he] at hq
  exact ⟨_, _, _, _, _, _, rfl, hq.mono (fun k hk => by rcases hk with h | h <;> omega), hm.mono (fun k hk => by have : k < z := hk; show k < _; omega)⟩
theorem DRow.ne {base b : Nat} {w : World} {v : Value} {l : List DV} {cs : Array Value} {fr : Nat × Nat} (h : DRow base w v l) (hb : w.heap[b]? = some (.cells cs 32 fr)) : some b ≠ v.ownBlock := by
  intro e
  rcases h.2 with ⟨rfl, _⟩ | ⟨g, cap, cur, rfl, _, hg, _⟩
  · cases e
  · have : b = g := by injection e
    subst this
    rw [hb] at hg
    injection hg with hg
    injection hg with h1 h2 h3
    exact absurd h2 (by decide)
theorem progInfo : (Tryz.prog.info? 32).map (·.size) = some 13 := by kernel_rfl
theorem step_store13 {ops : Array Oper} {o : Oper} {a : Act} {w : World} {K : Act → World → Prop} {Q : Exit → Act → World → Prop} {E : Prop} (hgd : o.guard = none) (p v : Operand)
    (ho : o.op = .store 32 p v) (b : Nat) (old c' : Array Value) (hp : a.eval p = .pointer (some ⟨b, 0, none⟩)) (hv : a.eval v = .agg c') (hb : w.heap[b]? = some (.cells old 32 (0, 0))) (hc : c'.size = 13) (hs : old.size = c'.size) (h1 : c'.all (·.oneCell') = true)
    (h : ∀ w', T13 w' b (.cells c' 32) → w.grownBy w' (some b) → K (a.put o.dst undef) w') :
    if Region.wanted o (yielded ops a.tmps) = true then Oper.wp Tryz.prog o a w K Q else E := by
  have hw : Region.wanted o (yielded ops a.tmps) = true := by simp [Region.wanted, hgd]
  rw [if_pos hw]
  have hr := run_storeVar_row (P := Tryz.prog) w b 32 32 old c' hb (by rw [hc]; exact progInfo) hs h1
  have k := h (w.setRow b c') (by
    unfold T13 World.setRow
    show (w.heap.modify b _)[b]? = _
    rw [Array.getElem?_modify, if_pos rfl, hb]; rfl) ⟨rfl, rfl, rfl, by simp [World.setRow], fun j _ hne => by
      show (w.heap.modify b _)[j]? = _
      rw [Array.getElem?_modify, if_neg (fun e => hne (by rw [e]))]⟩
  unfold Oper.wp execOp
  simp only [ho, Instr.storeAt, Instr.sureAddr, Sem.run_bind, Sem.run_pure, Result.andThen_ok, hp, hv, hr]
  exact k
theorem store13_facts {w : World} {b : Nat} {z c' : Array Value} (hb : w.heap[b]? = some (.cells z 32 (0, 0))) (hc : c'.size = 13) (hs : z.size = c'.size) (h1 : c'.all (·.oneCell') = true) :
    ∃ w', (Instr.storeAt 32 (.pointer (some ⟨b, 0, none⟩)) (.agg c')).run Tryz.prog w = .ok () w' ∧ (storeCells ⟨b, 0, none⟩ c'.toList 0).run Tryz.prog w = .ok () w' ∧ T13 w' b (.cells c' 32) ∧ w.grownBy w' (some b) := by
  have hi : (Tryz.prog.info? 32).map (·.size) = some c'.size := by rw [hc]; exact progInfo
  have hr := run_storeVar_row (P := Tryz.prog) w b 32 32 z c' hb hi hs h1
  refine ⟨w.setRow b c', ?_, ?_, ?_, ⟨rfl, rfl, rfl, by simp [World.setRow], fun j _ hne => ?_⟩⟩
  · simp only [Instr.storeAt, Instr.sureAddr, Sem.run_bind, Sem.run_pure, Result.andThen]
    exact hr
  · cases hq : Tryz.prog.info? 32 with
    | none => simp [hq] at hi
    | some i =>
      have hs2 : c'.size = i.size := by simp [hq] at hi; omega
      simpa [storeVar, sizeOf, typeInfo, hq, Value.cells, hs2] using hr
  · unfold T13 World.setRow
    show (w.heap.modify b _)[b]? = _
    rw [Array.getElem?_modify, if_pos rfl, hb]; rfl
  · show (w.heap.modify b _)[j]? = _
    rw [Array.getElem?_modify, if_neg (fun e => hne (by rw [e]))]
end Go.Proofs.YtgmdmbmkljbgiaaGreatDoor

/- Scopes: append of definitions beside a box that was made before. -/
namespace Go.Proofs.YtgmdmbmkljbgiaaGreatDoor
open Go.RowKit Go.Deep Go.Shelf
theorem step_appD3 {ops : Array Oper} {o : Oper} {a : Act} {w : World} {K : Act → World → Prop} {Q : Exit → Act → World → Prop} {E : Prop} (hgd : o.guard = none) (s x : Operand)
    (ho : o.op = .call { callee := .builtin .append, args := #[s, x], argTypes := #[22, 22] })
    (base : Nat) (l : List DV) (v : Value) (hs : a.eval s = v) (hown : DRow base w v l) (na : Option Addr) (nn nc : Nat) (news : List DV) (hx : a.eval x = .slice na nn nc) (box : Operand) (X : Nat) (_hbox : a.eval box = .pointer (some ⟨X, 0, none⟩)) (z : Array Value) (_hz : z.size = 13)
    (hnn : nn = news.length) (hsrc : news = [] ∨ ∃ b o, na = some ⟨b, o, none⟩ ∧ ∀ (j : Nat) (e : DV) (i : Nat) (u : Value), news[j]? = some e → e.cells[i]? = some u → w.cell? ⟨b, o + (j * 14 + i), none⟩ = some u) (hone : ∀ e ∈ news, ∀ u ∈ e.cells, u.oneCell' = true) (h63 : l.length + news.length ≤ 100000) (hbase : base ≤ w.heap.size)
    (_hXb : base ≤ X) (hX : w.heap[X]? = some (.cells z 32 (0, 0)))
    (m : List DV) (hm : l ++ news = m) (w0 : World) (hb0 : Below base w0 w)
    (h : ∀ ga gn gc w', Below base w0 w' → DRow base w' (.slice ga gn gc) m → T13 w' X (.cells z 32) → K (a.put o.dst (.slice ga gn gc)) w') :
    if Region.wanted o (yielded ops a.tmps) = true then Oper.wp Tryz.prog o a w K Q else E := by
  refine step_appD hgd s x ho base l v hs hown na nn nc news hx hnn hsrc hone h63 hbase m hm ?_
  intro ga gn gc w' hr hg
  have hXlt : X < w.heap.size := (Array.getElem?_eq_some_iff.1 hX).1
  have hX' : w'.heap[X]? = some (.cells z 32 (0, 0)) := (hg.block X hXlt (DRow.ne hown hX)).trans hX
  have hB' : Below base w0 w' := hb0.grown hg hbase (fun k e => (hown.lt k e).1)
  exact h ga gn gc w' hB' hr hX'
set_option maxHeartbeats 2000000 in
/-- Thirteen stores into the box. -/
theorem T13.fill {w : World} {b : Nat} {a0 a1 a2 a3 a4 a5 a6 a7 a8 a9 a10 a11 a12 : Value} {t : TypeId} (h : T13 w b (.cells #[a0, a1, a2, a3, a4, a5, a6, a7, a8, a9, a10, a11, a12] t)) (v0 v1 v2 v3 v4 v5 v6 v7 v8 v9 v10 v11 v12 : Value) :
    T13 (w.setCells b 0 [v0, v1, v2, v3, v4, v5, v6, v7, v8, v9, v10, v11, v12]) b (.cells #[v0, v1, v2, v3, v4, v5, v6, v7, v8, v9, v10, v11, v12] t) := by
  obtain ⟨w0, e0⟩ : ∃ x, w.setCell ⟨b, 0, none⟩ v0 = x := ⟨_, rfl⟩
  have h0 : T13 w0 b (.cells #[v0, a1, a2, a3, a4, a5, a6, a7, a8, a9, a10, a11, a12] t) := by rw [← e0]; exact set_block h 0 v0
  obtain ⟨w1, e1⟩ : ∃ x, w0.setCell ⟨b, 1, none⟩ v1 = x := ⟨_, rfl⟩
  have h1 : T13 w1 b (.cells #[v0, v1, a2, a3, a4, a5, a6, a7, a8, a9, a10, a11, a12] t) := by rw [← e1]; exact set_block h0 1 v1
  obtain ⟨w2, e2⟩ : ∃ x, w1.setCell ⟨b, 2, none⟩ v2 = x := ⟨_, rfl⟩
  have h2 : T13 w2 b (.cells #[v0, v1, v2, a3, a4, a5, a6, a7, a8, a9, a10, a11, a12] t) := by rw [← e2]; exact set_block h1 2 v2
  obtain ⟨w3, e3⟩ : ∃ x, w2.setCell ⟨b, 3, none⟩ v3 = x := ⟨_, rfl⟩
  have h3 : T13 w3 b (.cells #[v0, v1, v2, v3, a4, a5, a6, a7, a8, a9, a10, a11, a12] t) := by rw [← e3]; exact set_block h2 3 v3
  obtain ⟨w4, e4⟩ : ∃ x, w3.setCell ⟨b, 4, none⟩ v4 = x := ⟨_, rfl⟩
  have h4 : T13 w4 b (.cells #[v0, v1, v2, v3, v4, a5, a6, a7, a8, a9, a10, a11, a12] t) := by rw [← e4]; exact set_block h3 4 v4
  obtain ⟨w5, e5⟩ : ∃ x, w4.setCell ⟨b, 5, none⟩ v5 = x := ⟨_, rfl⟩
  have h5 : T13 w5 b (.cells #[v0, v1, v2, v3, v4, v5, a6, a7, a8, a9, a10, a11, a12] t) := by rw [← e5]; exact set_block h4 5 v5
  obtain ⟨w6, e6⟩ : ∃ x, w5.setCell ⟨b, 6, none⟩ v6 = x := ⟨_, rfl⟩
  have h6 : T13 w6 b (.cells #[v0, v1, v2, v3, v4, v5, v6, a7, a8, a9, a10, a11, a12] t) := by rw [← e6]; exact set_block h5 6 v6
  obtain ⟨w7, e7⟩ : ∃ x, w6.setCell ⟨b, 7, none⟩ v7 = x := ⟨_, rfl⟩
  have h7 : T13 w7 b (.cells #[v0, v1, v2, v3, v4, v5, v6, v7, a8, a9, a10, a11, a12] t) := by rw [← e7]; exact set_block h6 7 v7
  obtain ⟨w8, e8⟩ : ∃ x, w7.setCell ⟨b, 8, none⟩ v8 = x := ⟨_, rfl⟩
  have h8 : T13 w8 b (.cells #[v0, v1, v2, v3, v4, v5, v6, v7, v8, a9, a10, a11, a12] t) := by rw [← e8]; exact set_block h7 8 v8
  obtain ⟨w9, e9⟩ : ∃ x, w8.setCell ⟨b, 9, none⟩ v9 = x := ⟨_, rfl⟩
  have h9 : T13 w9 b (.cells #[v0, v1, v2, v3, v4, v5, v6, v7, v8, v9, a10, a11, a12] t) := by rw [← e9]; exact set_block h8 9 v9
  obtain ⟨w10, e10⟩ : ∃ x, w9.setCell ⟨b, 10, none⟩ v10 = x := ⟨_, rfl⟩
  have h10 : T13 w10 b (.cells #[v0, v1, v2, v3, v4, v5, v6, v7, v8, v9, v10, a11, a12] t) := by rw [← e10]; exact set_block h9 10 v10
  obtain ⟨w11, e11⟩ : ∃ x, w10.setCell ⟨b, 11, none⟩ v11 = x := ⟨_, rfl⟩
  have h11 : T13 w11 b (.cells #[v0, v1, v2, v3, v4, v5, v6, v7, v8, v9, v10, v11, a12] t) := by rw [← e11]; exact set_block h10 11 v11
  obtain ⟨w12, e12⟩ : ∃ x, w11.setCell ⟨b, 12, none⟩ v12 = x := ⟨_, rfl⟩
  have h12 : T13 w12 b (.cells #[v0, v1, v2, v3, v4, v5, v6, v7, v8, v9, v10, v11, v12] t) := by rw [← e12]; exact set_block h11 12 v12
  have e : w.setCells b 0 [v0, v1, v2, v3, v4, v5, v6, v7, v8, v9, v10, v11, v12] = w12 := by
    rw [← e12, ← e11, ← e10, ← e9, ← e8, ← e7, ← e6, ← e5, ← e4, ← e3, ← e2, ← e1, ← e0]
    rfl
  rw [e]; exact h12
theorem DRow.set13 {base : Nat} {w : World} {v : Value} {l : List DV} {b : Nat} {cs : Array Value} {fr : Nat × Nat} (h : DRow base w v l) (hb : w.heap[b]? = some (.cells cs 32 fr)) (vs : List Value) : DRow base (w.setCells b 0 vs) v l :=
  h.kept (fun k hk => heap_setCells_other (fun e => DRow.ne h hb (by rw [hk, e])) vs 0 w)
end Go.Proofs.YtgmdmbmkljbgiaaGreatDoor

/- Regions that draw their order: a relation over the set of operations that are done, and one step for each operation, instead of one walk for each order. -/
namespace Go.Proofs.YtgmdmbmkljbgiaaGreatDoor

/-- The slot that an operation writes. -/
def dstAt (ops : Array Oper) (k : Nat) : Option Tmp := (ops[k]?).bind (·.dst)
/-- The slots while the region is under way: those of the operations in L hold vals. -/
def fillSel (ops : Array Oper) (L : Nat → Bool) (vals : Nat → Value) : List Nat → Array Value → Array Value
  | [], t => t
  | k :: r, t => fillSel ops L vals r (match dstAt ops k with | some d => t.setIfInBounds d (if L k = true then vals k else t.getD d undef) | none => t)
def midAct (ops : Array Oper) (a0 : Act) (rem : List Nat) (L : Nat → Bool) (vals : Nat → Value) : Act := ⟨fillSel ops L vals rem a0.tmps, a0.defers⟩
def updL (L : Nat → Bool) (k : Nat) : Nat → Bool := fun j => j == k || L j
def updV (vals : Nat → Value) (k : Nat) (v : Value) : Nat → Value := fun j => if j = k then v else vals j

/-- On which of the operations that are left an operation waits. -/
def depsAt (md : Region.Mode) (ops : Array Oper) (rem : List Nat) (k : Nat) : List Nat :=
  match ops[k]? with
  | some o => ((o.after.toList.filter (Region.binds md)).map (·.on)).filter rem.contains
  | none => []
/-- No two of the operations that are left write one slot; each waits for earlier ones alone; all others are done. -/
def invOk (md : Region.Mode) (ops : Array Oper) (rem : List Nat) (listed : Array Bool) : Bool :=
  decide (listed.size = ops.size) && ((List.range ops.size).all fun i => listed.getD i true == !rem.contains i) && (rem.all fun i => decide (i < ops.size)) &&
  (rem.all fun i => rem.all fun j => i == j || (match dstAt ops i with | some d => !(dstAt ops j == some d) | none => true)) &&
  (rem.all fun k => match ops[k]? with | some o => o.after.all fun e => !Region.binds md e || decide (e.on < k) | none => false) && decide rem.Nodup

section
variable {ops : Array Oper} {vals : Nat → Value}
theorem fillSel_size {L : Nat → Bool} : ∀ (rem : List Nat) (t : Array Value), (fillSel ops L vals rem t).size = t.size
  | [], t => rfl
  | k :: r, t => by
    rw [fillSel, fillSel_size r]
    cases dstAt ops k with
    | none => rfl
    | some d => simp
theorem fillSel_other {L : Nat → Bool} {s : Nat} : ∀ (rem : List Nat) (t : Array Value), (∀ k ∈ rem, L k = true → dstAt ops k ≠ some s) → (fillSel ops L vals rem t)[s]? = t[s]?
  | [], t, _ => rfl
  | k :: r, t, h => by
    rw [fillSel, fillSel_other r _ (fun j hj => h j (by simp [hj]))]
    cases hd : dstAt ops k with
    | none => rfl
    | some d =>
      simp only []
      by_cases hL : L k = true
      · have hne : d ≠ s := fun e => h k (by simp) hL (by rw [hd, e])
        rw [Array.getElem?_setIfInBounds]
        simp [hne]
      · rw [if_neg hL, Array.getElem?_setIfInBounds]
        by_cases e : d = s
        · subst e
          by_cases hlt : d < t.size
          · simp [hlt, Array.getD]
          · simp [hlt]
        · simp [e]
theorem fillSel_at {L : Nat → Bool} {k d : Nat} : ∀ (rem : List Nat) (t : Array Value), k ∈ rem → L k = true → dstAt ops k = some d → d < t.size → (∀ j ∈ rem, j ≠ k → dstAt ops j ≠ some d) → (fillSel ops L vals rem t)[d]? = some (vals k)
  | [], _, h, _, _, _, _ => by cases h
  | j :: r, t, hm, hL, hd, hlt, hne => by
    rw [fillSel]
    by_cases hjr : k ∈ r
    · refine fillSel_at r _ hjr hL hd ?_ (fun i hi => hne i (by simp [hi]))
      cases dstAt ops j with
      | none => exact hlt
      | some e => simpa using hlt
    · have hjk : k = j := by
        rcases List.mem_cons.1 hm with h | h
        · exact h
        · exact absurd h hjr
      subst hjk
      rw [hd]
      simp only [hL, if_true]
      rw [fillSel_other r _ (fun i hi _ => hne i (by simp [hi]) (fun e => hjr (e ▸ hi)))]
      simp [hlt]
theorem midAct_put {a0 : Act} {rem : List Nat} {L : Nat → Bool} {k : Nat} {o : Oper} (hk : k ∈ rem) (ho : ops[k]? = some o)
    (hd : ∀ i ∈ rem, ∀ j ∈ rem, i ≠ j → ∀ d, dstAt ops i = some d → dstAt ops j ≠ some d) (v : Value) :
    (midAct ops a0 rem L vals).put o.dst v = midAct ops a0 rem (updL L k) (updV vals k v) := by
  have hdk : dstAt ops k = o.dst := by simp [dstAt, ho]
  have key : ∀ s : Nat, ((midAct ops a0 rem L vals).put o.dst v).tmps[s]? = (fillSel ops (updL L k) (updV vals k v) rem a0.tmps)[s]? := by
    intro s
    by_cases hs : ∃ j ∈ rem, updL L k j = true ∧ dstAt ops j = some s
    · obtain ⟨j, hj, hLj, hdj⟩ := hs
      by_cases hlt : s < a0.tmps.size
      · rw [fillSel_at rem a0.tmps hj hLj hdj hlt (fun i hi hij => fun e => hd i hi j hj hij s e hdj)]
        by_cases hjk : j = k
        · subst hjk
          rw [hdk] at hdj
          rw [hdj]
          simp only [Act.put, midAct, updV, if_true]
          rw [Array.getElem?_setIfInBounds]
          simp [fillSel_size, hlt]
        · have hL : L j = true := by
            simp only [updL, Bool.or_eq_true, beq_iff_eq] at hLj
            rcases hLj with h | h
            · exact absurd h hjk
            · exact h
          have hne : o.dst ≠ some s := by rw [← hdk]; exact hd j hj k hk hjk s hdj
          have e2 := fillSel_at (vals := vals) rem a0.tmps hj hL hdj hlt (fun i hi hij => fun e => hd i hi j hj hij s e hdj)
          rw [updV, if_neg hjk, ← e2]
          cases hod : o.dst with
          | none => rfl
          | some d =>
            have : d ≠ s := fun e => hne (by rw [hod, e])
            simp [Act.put, midAct, this]
      · have h1 : (fillSel ops (updL L k) (updV vals k v) rem a0.tmps)[s]? = none := by
          rw [Array.getElem?_eq_none]; rw [fillSel_size]; omega
        rw [h1]
        rw [Array.getElem?_eq_none]
        cases o.dst with
        | none => simp [Act.put, midAct, fillSel_size]; omega
        | some d => simp [Act.put, midAct, fillSel_size]; omega
    · have hno : ∀ j ∈ rem, updL L k j = true → dstAt ops j ≠ some s := fun j hj hL he => hs ⟨j, hj, hL, he⟩
      rw [fillSel_other (s := s) rem a0.tmps hno]
      have hne : o.dst ≠ some s := by rw [← hdk]; exact hno k hk (by simp [updL])
      have h2 := fillSel_other (ops := ops) (vals := vals) (L := L) (s := s) rem a0.tmps (fun j hj hL => hno j hj (by simp [updL, hL]))
      rw [← h2]
      cases hod : o.dst with
      | none => rfl
      | some d =>
        have : d ≠ s := fun e => hne (by rw [hod, e])
        simp [Act.put, midAct, this]
  have h1 : ((midAct ops a0 rem L vals).put o.dst v).tmps = fillSel ops (updL L k) (updV vals k v) rem a0.tmps := Array.ext_getElem? key
  have h2 : ((midAct ops a0 rem L vals).put o.dst v).defers = a0.defers := by cases o.dst <;> rfl
  have h3 : midAct ops a0 rem (updL L k) (updV vals k v) = ⟨((midAct ops a0 rem L vals).put o.dst v).tmps, ((midAct ops a0 rem L vals).put o.dst v).defers⟩ := by rw [h1, h2]; rfl
  exact h3.symm
end

/-- One operation's step: from whatever set of operations that may be done before it. -/
def InvStep (P : Program) (md : Region.Mode) (ops : Array Oper) (Q : Exit → Act → World → Prop) (a0 : Act) (rem : List Nat) (R : (Nat → Bool) → (Nat → Value) → World → Prop) (k : Nat) : Prop :=
  ∀ o, ops[k]? = some o → ∀ (L : Nat → Bool) (vals : Nat → Value) (w : World), L k = false → (depsAt md ops rem k).all L = true → R L vals w →
    ∀ K : Act → World → Prop, (∀ v w', R (updL L k) (updV vals k v) w' → K ((midAct ops a0 rem L vals).put o.dst v) w') →
    if Region.wanted o (yielded ops (midAct ops a0 rem L vals).tmps) = true then Oper.wp P o (midAct ops a0 rem L vals) w K Q else K ((midAct ops a0 rem L vals).put o.dst undef) w

theorem filter_upd {L : Nat → Bool} {k : Nat} : ∀ (rem : List Nat), rem.Nodup → k ∈ rem → L k = false → (rem.filter fun j => !updL L k j).length + 1 = (rem.filter fun j => !L j).length
  | [], _, h, _ => by cases h
  | j :: r, hn, hm, hL => by
    have hn' := List.nodup_cons.1 hn
    by_cases hjk : j = k
    · subst hjk
      have h1 : updL L j j = true := by simp [updL]
      have h2 : ∀ i ∈ r, (!updL L j i) = !L i := fun i hi => by
        have : i ≠ j := fun e => hn'.1 (e ▸ hi)
        simp [updL, this]
      simp only [List.filter_cons, h1, hL, Bool.not_true, Bool.not_false, if_true, Bool.false_eq_true, if_false, List.length_cons]
      rw [List.filter_congr h2]
    · have hk : k ∈ r := by
        rcases List.mem_cons.1 hm with h | h
        · exact absurd h.symm hjk
        · exact h
      have h1 : updL L k j = L j := by simp [updL, hjk]
      have ih := filter_upd r hn'.2 hk hL
      simp only [List.filter_cons, h1]
      split <;> (try simp only [List.length_cons]) <;> omega

theorem wpAnyH_inv {P : Program} {md : Region.Mode} {ops : Array Oper} {Q : Exit → Act → World → Prop} {S : World → Prop} (a0 : Act) (rem : List Nat) (listed0 : Array Bool)
    (R : (Nat → Bool) → (Nat → Value) → World → Prop) (hok : invOk md ops rem listed0 = true) (hS : ∀ L vals w, R L vals w → S w)
    (hstep : ∀ k ∈ rem, InvStep P md ops Q a0 rem R k) (hend : ∀ L vals w, (∀ k ∈ rem, L k = true) → R L vals w → Q .normal (midAct ops a0 rem L vals) w) :
    ∀ (fuel : Nat) (listed : Array Bool) (L : Nat → Bool) (vals : Nat → Value) (w : World), listed.size = ops.size → (∀ i < ops.size, listed.getD i true = (!rem.contains i || L i)) → (rem.filter fun j => !L j).length = fuel → R L vals w →
      wpAnyH P md ops Q S fuel listed (midAct ops a0 rem L vals) w := by
  simp only [invOk, Bool.and_eq_true, decide_eq_true_eq, List.all_eq_true, List.mem_range] at hok
  obtain ⟨⟨⟨⟨⟨hsz, hls⟩, hlt⟩, hdd⟩, hor⟩, hnd⟩ := hok
  have hd : ∀ i ∈ rem, ∀ j ∈ rem, i ≠ j → ∀ d, dstAt ops i = some d → dstAt ops j ≠ some d := by
    intro i hi j hj hij d hdi
    have h := hdd i hi j hj
    rw [hdi] at h
    simp only [Bool.or_eq_true, beq_iff_eq, Bool.not_eq_true'] at h
    rcases h with h | h
    · exact absurd h hij
    · intro e; rw [e] at h; simp at h
  have hdone : ∀ L : Nat → Bool, (∀ k ∈ rem, L k = true) → ∀ listed : Array Bool, listed.size = ops.size → (∀ i < ops.size, listed.getD i true = (!rem.contains i || L i)) → Region.ready md ops listed = [] := by
    intro L hL listed hs hli
    rw [List.eq_nil_iff_forall_not_mem]
    intro i hi
    obtain ⟨h1, o, ho, _⟩ := mem_ready.1 hi
    have hilt : i < ops.size := (Array.getElem?_eq_some_iff.1 ho).1
    rw [hli i hilt] at h1
    by_cases hc : i ∈ rem
    · rw [hL i hc] at h1; simp at h1
    · simp [hc] at h1
  intro fuel
  induction fuel with
  | zero =>
    intro listed L vals w hs hli hf hR
    have hL : ∀ k ∈ rem, L k = true := by
      intro k hk
      cases h : L k with
      | true => rfl
      | false =>
        have : k ∈ rem.filter fun j => !L j := List.mem_filter.2 ⟨hk, by simp [h]⟩
        rw [List.length_eq_zero_iff.1 hf] at this
        cases this
    exact ⟨hdone L hL listed hs hli, hend L vals w hL hR⟩
  | succ fuel ih =>
    intro listed L vals w hs hli hf hR
    have hex : ∃ k ∈ rem, L k = false := by
      cases hl : rem.filter fun j => !L j with
      | nil => rw [hl] at hf; cases hf
      | cons k r =>
        have : k ∈ rem.filter fun j => !L j := by rw [hl]; simp
        obtain ⟨h1, h2⟩ := List.mem_filter.1 this
        exact ⟨k, h1, by simpa using h2⟩
    constructor
    · intro hr
      exfalso
      -- the least operation that is left may come up
      have hmin : ∀ n k, k ≤ n → k ∈ rem → L k = false → False := by
        intro n
        induction n with
        | zero =>
          intro k hkn hk hLk
          have h0 : k ∈ Region.ready md ops listed := by
            have ho := hor k hk
            cases hok : ops[k]? with
            | none => rw [hok] at ho; cases ho
            | some o =>
              rw [hok] at ho
              refine mem_ready.2 ⟨?_, o, hok, ?_⟩
              · rw [hli k (hlt k hk)]; simp [hk, hLk]
              · intro e he hb
                have := Array.all_eq_true'.1 ho e he
                simp only [hb, Bool.not_true, Bool.false_or, decide_eq_true_eq] at this
                omega
          rw [hr] at h0; cases h0
        | succ n ihn =>
          intro k hkn hk hLk
          by_cases hall : ∀ j ∈ rem, j < k → L j = true
          · have h0 : k ∈ Region.ready md ops listed := by
              have ho := hor k hk
              cases hok : ops[k]? with
              | none => rw [hok] at ho; cases ho
              | some o =>
                rw [hok] at ho
                refine mem_ready.2 ⟨?_, o, hok, ?_⟩
                · rw [hli k (hlt k hk)]; simp [hk, hLk]
                · intro e he hb
                  have hlt2 := Array.all_eq_true'.1 ho e he
                  simp only [hb, Bool.not_true, Bool.false_or, decide_eq_true_eq] at hlt2
                  have hes : e.on < ops.size := Nat.lt_trans hlt2 (hlt k hk)
                  have h1 := hli e.on hes
                  have h2 : listed.getD e.on true = true := by
                    rw [h1]
                    by_cases hc : e.on ∈ rem
                    · simp [hall e.on hc hlt2]
                    · simp [hc]
                  have h3 : e.on < listed.size := by omega
                  simp [Array.getD, h3] at h2 ⊢
                  exact h2
            rw [hr] at h0; cases h0
          · have : ∃ j, j ∈ rem ∧ j < k ∧ L j = false := by
              refine Classical.byContradiction fun hn => hall fun j hj hjk => ?_
              cases h : L j with
              | true => rfl
              | false => exact absurd ⟨j, hj, hjk, h⟩ hn
            obtain ⟨j, hj, hjk, hLj⟩ := this
            exact ihn j (by omega) hj hLj
      obtain ⟨k, hk, hLk⟩ := hex
      exact hmin k k (Nat.le_refl _) hk hLk
    · intro i hi
      obtain ⟨h1, o, ho, h3⟩ := mem_ready.1 hi
      have hilt : i < ops.size := (Array.getElem?_eq_some_iff.1 ho).1
      rw [hli i hilt] at h1
      have hc : i ∈ rem ∧ L i = false := by
        by_cases hc : i ∈ rem
        · simp [hc] at h1; exact ⟨hc, h1⟩
        · simp [hc] at h1
      have hdeps : (depsAt md ops rem i).all L = true := by
        rw [List.all_eq_true]
        intro j hj
        simp only [depsAt, ho, List.mem_filter, List.mem_map] at hj
        obtain ⟨⟨e, ⟨he, hb⟩, rfl⟩, hcr⟩ := hj
        have hm := h3 e (by simpa using he) hb
        have hlt2 := hor i hc.1
        rw [ho] at hlt2
        have hlt3 := Array.all_eq_true'.1 hlt2 e (by simpa using he)
        simp only [hb, Bool.not_true, Bool.false_or, decide_eq_true_eq] at hlt3
        have hes : e.on < ops.size := by omega
        have h4 := hli e.on hes
        have h5 : e.on < listed.size := by omega
        simp [Array.getD, h5] at hm h4
        rw [hm] at h4
        simpa [List.contains_iff_mem.1 hcr] using h4
      have st := hstep i hc.1 o ho L vals w hc.2 hdeps hR (fun a' w' => S w' ∧ wpAnyH P md ops Q S fuel (listed.setIfInBounds i true) a' w') (fun v w' hR' => by
        rw [midAct_put hc.1 ho hd v]
        refine ⟨hS _ _ _ hR', ih _ _ _ _ (by simpa using hs) ?_ ?_ hR'⟩
        · intro j hj
          by_cases hji : i = j
          · subst hji
            simp [Array.getD, hs, hilt, updL]
          · have := hli j hj
            have h6 : j < listed.size := by omega
            simp [Array.getD, h6] at this
            have hij : (j == i) = false := by simpa using Ne.symm hji
            simp [Array.getD, h6, hji, updL, hij, this]
        · have := filter_upd rem hnd hc.1 hc.2
          omega)
      unfold wpOp
      simp only [ho]
      split at st
      · next hw => rw [if_pos hw]; exact .inl st
      · next hw => rw [if_neg hw]; exact st

/-- The beginning: the slots are as they are, nothing of what is left is done. -/
theorem midAct_zero {ops : Array Oper} {a0 : Act} {vals : Nat → Value} : ∀ (rem : List Nat) (t : Array Value), fillSel ops (fun _ => false) vals rem t = t
  | [], t => rfl
  | k :: r, t => by
    rw [fillSel]
    have : (match dstAt ops k with | some d => t.setIfInBounds d (if (fun _ => false) k = true then vals k else t.getD d undef) | none => t) = t := by
      cases dstAt ops k with
      | none => rfl
      | some d =>
        simp only [Bool.false_eq_true, if_false]
        refine Array.ext_getElem? fun s => ?_
        rw [Array.getElem?_setIfInBounds]
        split
        · next e => subst e; split
                    · next h => simp [h]
                    · next h => simp [h]
        · rfl
    rw [this, midAct_zero (a0 := a0) r t]
theorem wpAnyH_start {P : Program} {md : Region.Mode} {ops : Array Oper} {Q : Exit → Act → World → Prop} {S : World → Prop} {a0 : Act} {w : World} {listed : Array Bool} {fuel : Nat} (rem : List Nat)
    (R : (Nat → Bool) → (Nat → Value) → World → Prop) (hok : invOk md ops rem listed = true) (hf : rem.length = fuel) (hS : ∀ L vals w, R L vals w → S w) (h0 : R (fun _ => false) (fun _ => undef) w)
    (hstep : ∀ k ∈ rem, InvStep P md ops Q a0 rem R k) (hend : ∀ L vals w, (∀ k ∈ rem, L k = true) → R L vals w → Q .normal (midAct ops a0 rem L vals) w) :
    wpAnyH P md ops Q S fuel listed a0 w := by
  have h := wpAnyH_inv a0 rem listed R hok hS hstep hend fuel listed (fun _ => false) (fun _ => undef) w
    (by simp only [invOk, Bool.and_eq_true, decide_eq_true_eq] at hok; exact hok.1.1.1.1.1)
    (fun i hi => by
      simp only [invOk, Bool.and_eq_true, List.all_eq_true, List.mem_range, beq_iff_eq] at hok
      rw [hok.1.1.1.1.2 i hi]; simp)
    (by rw [show (rem.filter fun j => !(fun _ => false) j) = rem from List.filter_eq_self.2 (fun _ _ => rfl)]; exact hf) h0
  have e : midAct ops a0 rem (fun _ => false) (fun _ => undef) = a0 := by rw [midAct, midAct_zero (a0 := a0)]
  rwa [e] at h
/-! ### The frame written out -/
def slotO (L : Nat → Bool) (vals olds : Nat → Value) (k : Nat) : Value := if L k = true then vals k else olds k
theorem slotO_done {L : Nat → Bool} {vals olds : Nat → Value} {k : Nat} (h : L k = true) : slotO L vals olds k = vals k := if_pos h
def fillO (L : Nat → Bool) (vals olds : Nat → Value) : List (Nat × Option Tmp) → Array Value → Array Value
  | [], t => t
  | (k, some d) :: r, t => fillO L vals olds r (t.setIfInBounds d (slotO L vals olds k))
  | (_, none) :: r, t => fillO L vals olds r t
theorem fillO_congr {L : Nat → Bool} {vals olds olds' : Nat → Value} : ∀ (l : List (Nat × Option Tmp)) (t : Array Value), (∀ x ∈ l, olds x.1 = olds' x.1) → fillO L vals olds l t = fillO L vals olds' l t
  | [], _, _ => rfl
  | (k, some d) :: r, t, h => by
    have hk : slotO L vals olds k = slotO L vals olds' k := by unfold slotO; rw [h (k, some d) (by simp)]
    simp only [fillO, hk]; exact fillO_congr r _ (fun x hx => h x (by simp [hx]))
  | (k, none) :: r, t, h => by simp only [fillO]; exact fillO_congr r _ (fun x hx => h x (by simp [hx]))
theorem fillSel_open {ops : Array Oper} (L : Nat → Bool) (vals : Nat → Value) : ∀ (rem : List Nat) (t : Array Value), rem.Nodup → ∃ olds : Nat → Value, fillSel ops L vals rem t = fillO L vals olds (rem.map fun k => (k, dstAt ops k)) t
  | [], t, _ => ⟨fun _ => undef, rfl⟩
  | k :: r, t, hn => by
    have hn' := List.nodup_cons.1 hn
    obtain ⟨olds, e⟩ := fillSel_open (ops := ops) L vals r (match dstAt ops k with | some d => t.setIfInBounds d (if L k = true then vals k else t.getD d undef) | none => t) hn'.2
    cases hd : dstAt ops k with
    | none =>
      refine ⟨olds, ?_⟩
      rw [fillSel, e]; simp only [hd, List.map_cons, fillO]
    | some d =>
      refine ⟨fun j => if j = k then t.getD d undef else olds j, ?_⟩
      have hs : (if L k = true then vals k else t.getD d undef) = slotO L vals (fun j => if j = k then t.getD d undef else olds j) k := by simp [slotO]
      rw [fillSel, e]; simp only [hd, List.map_cons, fillO, ← hs]
      refine fillO_congr _ _ (fun x hx => ?_)
      obtain ⟨j, hj, rfl⟩ := List.mem_map.1 hx
      have : j ≠ k := fun e => hn'.1 (e ▸ hj)
      simp [this]
theorem InvStep.lit {P : Program} {md : Region.Mode} {ops : Array Oper} {Q : Exit → Act → World → Prop} {a0 : Act} {rem : List Nat} {R : (Nat → Bool) → (Nat → Value) → World → Prop} {k : Nat} {o : Oper} (ho : ops[k]? = some o)
    (deps : List Nat) (hdeps : depsAt md ops rem k = deps) (lst : List (Nat × Option Tmp)) (hl : (rem.map fun k => (k, dstAt ops k)) = lst) (hn : rem.Nodup)
    (h : ∀ (L : Nat → Bool) (vals olds : Nat → Value) (w : World), L k = false → deps.all L = true → R L vals w →
      ∀ K : Act → World → Prop, Shut (∀ v w', R (updL L k) (updV vals k v) w' → K (Act.put ⟨fillO L vals olds lst a0.tmps, a0.defers⟩ o.dst v) w') →
      if Region.wanted o (yielded ops (fillO L vals olds lst a0.tmps)) = true then Oper.wp P o ⟨fillO L vals olds lst a0.tmps, a0.defers⟩ w K Q else K (Act.put ⟨fillO L vals olds lst a0.tmps, a0.defers⟩ o.dst undef) w) : InvStep P md ops Q a0 rem R k := by
  intro o' ho' L vals w hL hd hR K hK
  obtain rfl := Option.some.inj (ho.symm.trans ho')
  obtain ⟨olds, e⟩ := fillSel_open (ops := ops) L vals rem a0.tmps hn
  rw [hl] at e
  rw [hdeps] at hd
  have em : midAct ops a0 rem L vals = ⟨fillO L vals olds lst a0.tmps, a0.defers⟩ := by rw [midAct, e]
  rw [em] at hK ⊢
  exact h L vals olds w hL hd hR K hK
/-- The end: every slot holds what its operation yielded. -/
theorem end_lit {ops : Array Oper} {Q : Exit → Act → World → Prop} {a0 : Act} {rem : List Nat} {R : (Nat → Bool) → (Nat → Value) → World → Prop} (lst : List (Nat × Option Tmp)) (hl : (rem.map fun k => (k, dstAt ops k)) = lst) (hn : rem.Nodup)
    (h : ∀ (L : Nat → Bool) (vals olds : Nat → Value) (w : World), rem.all L = true → R L vals w → Q .normal ⟨fillO L vals olds lst a0.tmps, a0.defers⟩ w) :
    ∀ L vals w, (∀ k ∈ rem, L k = true) → R L vals w → Q .normal (midAct ops a0 rem L vals) w := by
  intro L vals w hL hR
  obtain ⟨olds, e⟩ := fillSel_open (ops := ops) L vals rem a0.tmps hn
  rw [hl] at e
  rw [midAct, e]
  exact h L vals olds w (List.all_eq_true.2 hL) hR
theorem updL_same (L : Nat → Bool) (k : Nat) : updL L k k = true := by simp [updL]
theorem updL_ne {L : Nat → Bool} {k j : Nat} (h : (j == k) = false) : updL L k j = L j := by simp [updL, h]
theorem updV_same (vals : Nat → Value) (k : Nat) (v : Value) : updV vals k v k = v := if_pos rfl
theorem updV_ne {vals : Nat → Value} {k j : Nat} {v : Value} (h : j ≠ k) : updV vals k v j = vals j := if_neg h
/-! ### .. as a list -/
def fillL (L : Nat → Bool) (vals olds : Nat → Value) : List (Nat × Option Tmp) → List Value → List Value
  | [], t => t
  | (k, some d) :: r, t => fillL L vals olds r (t.set d (slotO L vals olds k))
  | (_, none) :: r, t => fillL L vals olds r t
def setD (t : List Value) : Option Tmp → Value → List Value
  | some d, v => t.set d v
  | none, _ => t
theorem fillO_list {L : Nat → Bool} {vals olds : Nat → Value} : ∀ (l : List (Nat × Option Tmp)) (t : List Value), fillO L vals olds l t.toArray = (fillL L vals olds l t).toArray
  | [], _ => rfl
  | (k, some d) :: r, t => by rw [fillO, fillL, List.setIfInBounds_toArray, fillO_list r]
  | (k, none) :: r, t => by rw [fillO, fillL, fillO_list r]
theorem put_list (t : List Value) (ds : List Deferred) (d : Option Tmp) (v : Value) : Act.put ⟨t.toArray, ds⟩ d v = ⟨(setD t d v).toArray, ds⟩ := by
  cases d with
  | none => rfl
  | some d => rw [Act.put, setD, List.setIfInBounds_toArray]
theorem wp_wanted {P : Program} {ops : Array Oper} {o : Oper} {a : Act} {w : World} {K : Act → World → Prop} {Q : Exit → Act → World → Prop} (hg : o.guard = none) (h : if Region.wanted o (yielded ops a.tmps) = true then Oper.wp P o a w K Q else False) : Oper.wp P o a w K Q := by
  have hw : Region.wanted o (yielded ops a.tmps) = true := by simp [Region.wanted, hg]
  rwa [if_pos hw] at h
theorem InvStep.plain {P : Program} {md : Region.Mode} {ops : Array Oper} {Q : Exit → Act → World → Prop} {T : List Value} {ds : List Deferred} {rem : List Nat} {R : (Nat → Bool) → (Nat → Value) → World → Prop} {k : Nat} {o : Oper} (ho : ops[k]? = some o) (hg : o.guard = none)
    (deps : List Nat) (hdeps : depsAt md ops rem k = deps) (lst : List (Nat × Option Tmp)) (hl : (rem.map fun k => (k, dstAt ops k)) = lst) (hn : rem.Nodup)
    (h : ∀ (L : Nat → Bool) (vals olds : Nat → Value) (w : World), L k = false → deps.all L = true → R L vals w →
      ∀ K : Act → World → Prop, Shut (∀ v w', R (updL L k) (updV vals k v) w' → K ⟨(setD (fillL L vals olds lst T) o.dst v).toArray, ds⟩ w') →
      Oper.wp P o ⟨(fillL L vals olds lst T).toArray, ds⟩ w K Q) : InvStep P md ops Q ⟨T.toArray, ds⟩ rem R k := by
  refine InvStep.lit ho deps hdeps lst hl hn (fun L vals olds w hL hd hR K hK => ?_)
  have hw : Region.wanted o (yielded ops (fillO L vals olds lst T.toArray)) = true := by simp [Region.wanted, hg]
  rw [if_pos hw]
  have h' := h L vals olds w hL hd hR K
  rw [fillO_list] at hK ⊢
  refine h' (fun v w' hr => ?_)
  rw [← put_list]
  exact hK v w' hr
theorem end_plain {ops : Array Oper} {Q : Exit → Act → World → Prop} {T : List Value} {ds : List Deferred} {rem : List Nat} {R : (Nat → Bool) → (Nat → Value) → World → Prop} (lst : List (Nat × Option Tmp)) (hl : (rem.map fun k => (k, dstAt ops k)) = lst) (hn : rem.Nodup)
    (h : ∀ (L : Nat → Bool) (vals olds : Nat → Value) (w : World), rem.all L = true → R L vals w → Q .normal ⟨(fillL L vals olds lst T).toArray, ds⟩ w) :
    ∀ L vals w, (∀ k ∈ rem, L k = true) → R L vals w → Q .normal (midAct ops ⟨T.toArray, ds⟩ rem L vals) w :=
  end_lit lst hl hn (fun L vals olds w ha hr => by rw [fillO_list]; exact h L vals olds w ha hr)
/-! ### .. over a region that is written out as a list -/
/-- An operation that may be taken first. -/
theorem wpAnyH_take_l {P : Program} {md : Region.Mode} {l : List Oper} {Q : Exit → Act → World → Prop} {S : World → Prop} {fuel : Nat} {B : List Bool} {T : List Value} {ds : List Deferred} {w : World} (i : Nat) {oi : Oper} {v : Value} (hi : l[i]? = some oi) (hg : oi.guard = none)
    (hs : Region.noSelect l.toArray = true) (hf : Region.free md l.toArray B.toArray i = true) (hr : (Region.ready md l.toArray B.toArray).contains i = true)
    (hQ : ∀ c a w, Q (.panic c) (a.put oi.dst v) w → Q (.panic c) a w) (hv : ∀ w, S w → (execOp (Act.eval ⟨T.toArray, ds⟩) oi).run P w = .ok (.value v) w) (hS : S w)
    (h : wpAnyH P md l.toArray Q S fuel (B.set i true).toArray ⟨(setD T oi.dst v).toArray, ds⟩ w) : wpAnyH P md l.toArray Q S (fuel + 1) B.toArray ⟨T.toArray, ds⟩ w := by
  refine wpAnyH_take (i := i) (oi := oi) (v := v) (by simpa using hi) hs hf hr hQ (.inl ⟨by simp [Region.wanted, hg], hv⟩) hS ?_
  rw [put_list, List.setIfInBounds_toArray]
  exact h
theorem InvStep.list {P : Program} {md : Region.Mode} {l : List Oper} {Q : Exit → Act → World → Prop} {T : List Value} {ds : List Deferred} {rem : List Nat} {R : (Nat → Bool) → (Nat → Value) → World → Prop} {k : Nat} {o : Oper} (ho : l[k]? = some o) (hg : o.guard = none)
    (deps : List Nat) (hdeps : (deps.all (depsAt md l.toArray rem k).contains) = true) (lst : List (Nat × Option Tmp)) (hl : (rem.map fun k => (k, dstAt l.toArray k)) = lst) (hn : rem.Nodup)
    (h : ∀ (L : Nat → Bool) (vals olds : Nat → Value) (w : World), L k = false → deps.all L = true → R L vals w →
      ∀ K : Act → World → Prop, Shut (∀ v w', R (updL L k) (updV vals k v) w' → K ⟨(setD (fillL L vals olds lst T) o.dst v).toArray, ds⟩ w') →
      Oper.wp P o ⟨(fillL L vals olds lst T).toArray, ds⟩ w K Q) : InvStep P md l.toArray Q ⟨T.toArray, ds⟩ rem R k :=
  InvStep.plain (by simpa using ho) hg _ rfl lst hl hn (fun L vals olds w h1 h2 => h L vals olds w h1 (by
    rw [List.all_eq_true] at hdeps h2 ⊢
    exact fun j hj => h2 j (by simpa using hdeps j hj)))
end Go.Proofs.YtgmdmbmkljbgiaaGreatDoor
