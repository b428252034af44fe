/- Processes: the reference's Free. (and what follows from it) -/
import Derived.Test.YtmedijheidbmhaaGreatDoorPz9
import Derived.Test.YtmedijheidbmhaaGreatDoorPz16
import Derived.Test.YtmedijheidbmhaaGreatDoorPz14
import Derived.Test.YtmedijheidbmhaaGreatDoorPz8
import Derived.Deep.Cut

/- Processes: the reference's Free. -/
namespace Go.Proofs.YtmedijheidbmhaaGreatDoor
open Go.RowKit Go.Deep Go.Shelf

def adds (l : List ByteArray) (j : Nat) : List ByteArray := (l.take j).foldl addN []
theorem adds_yes {l : List ByteArray} {j : Nat} {s : ByteArray} (h : l[j]? = some s) (hm : memB s (adds l j) = true) : adds l (j + 1) = adds l j := by
  unfold adds at *; rw [take_snoc_get h, List.foldl_append, List.foldl_cons, List.foldl_nil, addN, hm]; rfl
theorem adds_no {l : List ByteArray} {j : Nat} {s : ByteArray} (h : l[j]? = some s) (hm : memB s (adds l j) = false) : adds l (j + 1) = adds l j ++ [s] := by
  unfold adds at *; rw [take_snoc_get h, List.foldl_append, List.foldl_cons, List.foldl_nil, addN, hm]; rfl
theorem adds_len (l : List ByteArray) (j : Nat) : (adds l j).length ≤ l.length := by
  unfold adds; have := foldN_len (l.take j) []; rw [List.length_take] at this; simp at this; omega

set_option maxHeartbeats 4000000 in
set_option maxRecDepth 100000 in
theorem rfree_any (p : Pr) (v : Value) (w : World) (hv : PLies w v p) (hn : p.nms ≤ 900000000) (hd : 2 * p.depth ≤ 1000000) : Calls Tryz.prog 11 #[v] w (StrRet w p.free) := by
  have hv' := hv
  obtain ⟨lv, av, tl, tk, kv, rfl, _⟩ := hv'
  obtain ⟨⟨la, ln, lc, rfl⟩, ⟨aa, an, ac, rfl⟩, ⟨ta, tn, tc, rfl⟩, ⟨ua, un, uc, rfl⟩, ⟨ka, kn, kc, rfl⟩⟩ := pr_slices hv
  have hbx : Below w.heap.size w (w.alloc (cell12 p (.slice la ln lc) (.slice aa an ac) (.slice ta tn tc) (.slice ua un uc) (.slice ka kn kc))) := blkBelow w _ _
  have HU : Hid (Calls Tryz.prog 30 #[prAgg p (.slice la ln lc) (.slice aa an ac) (.slice ta tn tc) (.slice ua un uc) (.slice ka kn kc), .slice none 0 0] (w.alloc (cell12 p (.slice la ln lc) (.slice aa an ac) (.slice ta tn tc) (.slice ua un uc) (.slice ka kn kc))) (StrRet (w.alloc (cell12 p (.slice la ln lc) (.slice aa an ac) (.slice ta tn tc) (.slice ua un uc) (.slice ka kn kc))) (p.uses []))) :=
    Lib.hid (uses_any p _ _ [] _ (hv.to hbx) (nil_strs _ _) hn (by simp; omega))
  have HF : Hid (p.free = (p.uses []).foldl addN []) := Lib.hid p.free_uses
  have hul := p.uses_len []
  have HB0 := Lib.hid hbx
  rw [HF.out]
  obtain ⟨l, hl⟩ : ∃ l, p.uses [] = l := ⟨_, rfl⟩
  rw [hl] at HU hul ⊢
  have HLL : Hid (l.length ≤ 900000000) := Lib.hid (by omega)
  clear hv hn hd hbx hul hl
  unfold prAgg at HU
  go_enter Tryz.func11, Tryz.ntmps11
  go_wp2_with fail
  refine HU.out.mono ?_
  rintro e w1 ⟨ya, yn, yc, rfl, hsl, hb1⟩
  obtain ⟨pa1, len1, cap1, e1, hl1, hm1, hg1⟩ := StrSl.open hsl
  simp only [Value.slice.injEq] at e1
  obtain ⟨rfl, rfl, rfl⟩ := e1
  have HOG : Hid (∀ i s, l[i]? = some s → s.size ≤ maxLen ∧ ∃ kb ko, ya = some ⟨kb, ko, none⟩ ∧ kb < w1.heap.size ∧ ∀ W, Below w1.heap.size w1 W → W.cell? ⟨kb, ko + i, none⟩ = some (.string s)) := Lib.hid (fun i s hi => by
    obtain ⟨h1, kb, ko, e, hkb, hc⟩ := hg1 i s hi
    exact ⟨h1, kb, ko, e, hkb.2, fun W hW => (hW.cell (p := ⟨kb, _, none⟩) hkb.2).trans hc⟩)
  have HLN := Lib.hid hl1.out
  have HB1 := Lib.hid (below_seq HB0.out hb1)
  have HBw : Hid (Below w1.heap.size w1 w1) := Lib.hid (Below.refl _ _)
  clear hsl hl1 hg1 hb1 HU
  go_wp2_with fail
  go_loopw [4, 5] (fun v i wr => ∃ (m : Nat) (a : Option Addr) (n c : Nat), i = .int .i64 m ∧ m ≤ yn ∧ v = .slice a n c ∧ Hid (Row w1.heap.size wr (.slice a n c) (adds l m)) ∧ Hid (Below w1.heap.size w1 wr)) (fun _ i _ => yn - (intOf i).toNat)
  case atStart => exact ⟨0, _, _, _, rfl, by omega, rfl, Lib.hid (Row.nil _ _), HBw⟩
  case round =>
    obtain ⟨m, fa, fn, fc, rfl, hm, rfl, HR, HC⟩ := hrel
    have hz2 : w1.heap.size ≤ wr.heap.size := HC.out.size
    by_cases hlt : m < yn
    · obtain ⟨s, hs⟩ : ∃ s, l[m]? = some s := ⟨_, List.getElem?_eq_getElem (by rw [← HLN.out]; exact hlt)⟩
      obtain ⟨hsz, kb, ko, rfl, hkb, hcl⟩ := HOG.out m s hs
      have q1 := hcl wr HC.out
      obtain ⟨mb, hmb⟩ : ∃ mb, memB s (adds l m) = mb := ⟨_, rfl⟩
      have hal := adds_len l m
      have HIN : Hid (Calls Tryz.prog 16 #[.string s, .slice fa fn fc] wr fun e w' => e = .returned (.bool mb) ∧ wr = w') := Lib.hid (by rw [← hmb]; exact prin_any _ s _ (adds l m) wr (HR.out.strs (by have := HLL.out; unfold maxLen; omega)).2)
      cases mb
      · have HT := Lib.hid (adds_no hs hmb)
        have HSO : Hid (StrSl (Fresh wr.heap.size (wr.alloc (.cells #[.string s] 9)).heap.size) (wr.alloc (.cells #[.string s] 9)) (.slice (some ⟨wr.heap.size, 0, none⟩) 1 1) [s]) := Lib.hid (strSl_made [s] (Below.refl _ _) (fun x hx => by rw [List.mem_singleton.1 hx]; exact hsz) (by simp [maxLen]))
        have HLX : Hid ((adds l m).length + [s].length ≤ 1000000000) := Lib.hid (by have := HLL.out; simp; omega)
        have HBS : Hid (w1.heap.size ≤ (wr.alloc (.cells #[.string s] 9)).heap.size) := Lib.hid (by simp; omega)
        clear hs hsz hcl hmb hal
        go_wp2_with (first | (go_at_call 16; refine HIN.out.mono ?_; rintro e w' ⟨rfl, rfl⟩) | (at_builtin; refine wpList_app rfl _ _ rfl w1.heap.size (adds l m) (.slice fa fn fc) rfl (HR.out.alloc _) _ _ _ _ [s] rfl HSO.out HLX.out HBS.out ?_; intro fa' fn' fc' w2 hrow hgrow _; have HRW := Lib.hid hrow; have HGW := Lib.hid hgrow; clear hrow hgrow))
        go_roundw
        case rel => exact ⟨m + 1, _, _, _, by go_num, by omega, rfl, Lib.hid (by rw [HT.out]; exact HRW.out), Lib.hid ((HC.out.alloc (by omega) _).grown HGW.out (by simp; omega) (fun k e => ((HR.out.alloc (.cells #[.string s] 9)).lt k e).1))⟩
        case measure => simp [intOf]; omega
      · have HT := Lib.hid (adds_yes hs hmb)
        clear hs hsz hcl hmb hal
        go_wp2_with (go_at_call 16; refine HIN.out.mono ?_; rintro e w' ⟨rfl, rfl⟩)
        go_roundw
        case rel => exact ⟨m + 1, _, _, _, by go_num, by omega, rfl, Lib.hid (by rw [HT.out]; exact HR.out), HC⟩
        case measure => simp [intOf]; omega
    · obtain rfl : yn = m := by omega
      have HAL : Hid (adds l yn = l.foldl addN []) := Lib.hid (by unfold adds; rw [List.take_of_length_le (by rw [HLN.out]; exact Nat.le_refl _)])
      have hal := adds_len l yn
      have HA := Lib.hid hal
      clear hal
      go_wp2_with fail
      go_ret
      have h := HR.out
      have h2 := HB1.out.size
      rw [← HAL.out]
      exact ⟨_, _, _, rfl, (h.strs (by have := HA.out; have := HLL.out; unfold maxLen; omega)).2.mono (fun k hk => ⟨by have := hk.1; omega, hk.2⟩), below_seq HB1.out HC.out⟩

end Go.Proofs.YtmedijheidbmhaaGreatDoor

/- Scopes: what follows from a program without a fault. -/
namespace Go.Proofs.YtmedijheidbmhaaGreatDoor
open Go.RowKit Go.Deep Go.Shelf

theorem Pr.nodeE_facts {ar : ByteArray → Option Nat} {sc : List ByteArray} {g : Bool} {p : Pr} (h : p.nodeE ar sc g = 0) : (prefixB p.k && !memB p.c sc) = false ∧ p.vs.any (badArg sc) = false ∧ (p.k = 8 → callE (ar p.c) p.vs.length g = 0) := by
  unfold Pr.nodeE at h
  by_cases h1 : (prefixB p.k && !memB p.c sc) = true
  · rw [if_pos h1] at h; omega
  · rw [if_neg h1] at h
    by_cases h2 : p.vs.any (badArg sc) = true
    · rw [if_pos h2] at h; omega
    · rw [if_neg h2] at h
      by_cases h3 : p.bnd.any (fun s => memB s sc) = true
      · rw [if_pos h3] at h; omega
      · rw [if_neg h3] at h
        refine ⟨by simpa using h1, by simpa using h2, fun h8 => ?_⟩
        rw [if_pos h8] at h; exact h
theorem Pr.scEs_all {ar : ByteArray → Option Nat} {l : List Pr} {sc : List ByteArray} {g : Bool} (h : Pr.scEs ar l sc g = 0) : ∀ u ∈ l, u.scE ar sc g = 0 := by
  induction l with
  | nil => intro u hu; cases hu
  | cons p r ih =>
    rw [Pr.scEs] at h
    by_cases hp : p.scE ar sc g = 0
    · rw [if_pos hp] at h
      intro u hu
      rcases List.mem_cons.1 hu with rfl | hu
      · exact hp
      · exact ih h u hu
    · rw [if_neg hp] at h; exact absurd h hp
theorem Pr.scE_facts {ar : ByteArray → Option Nat} {p : Pr} {sc : List ByteArray} {g : Bool} (h : p.scE ar sc g = 0) : p.nodeE ar sc g = 0 ∧ ∀ u ∈ p.ps, u.scE ar (sc ++ p.bnd) (g || prefixB p.k) = 0 := by
  rw [Pr.scE_eq] at h
  by_cases hn : p.nodeE ar sc g = 0
  · rw [if_pos hn] at h; exact ⟨hn, Pr.scEs_all h⟩
  · rw [if_neg hn] at h; exact absurd h hn
theorem mem_usess {l : List Pr} {bd : List ByteArray} {s : ByteArray} (h : s ∈ Pr.usess l bd) : ∃ u ∈ l, s ∈ u.uses bd := by
  induction l with
  | nil => simp [Pr.usess] at h
  | cons p r ih =>
    rw [Pr.usess, List.mem_append] at h
    rcases h with h | h
    · exact ⟨p, by simp, h⟩
    · obtain ⟨u, hu, hs⟩ := ih h; exact ⟨u, by simp [hu], hs⟩
theorem mem_gaths {sel : Pr → List ByteArray} {l : List Pr} {s : ByteArray} (h : s ∈ Pr.gaths sel l) : ∃ u ∈ l, s ∈ u.gath sel := by
  induction l with
  | nil => simp [Pr.gaths] at h
  | cons p r ih =>
    rw [Pr.gaths, List.mem_append] at h
    rcases h with h | h
    · exact ⟨p, by simp, h⟩
    · obtain ⟨u, hu, hs⟩ := ih h; exact ⟨u, by simp [hu], hs⟩
/-- Names that are used and not bound are in scope. -/
theorem uses_sc (ar : ByteArray → Option Nat) : ∀ (p : Pr) (sc : List ByteArray) (g : Bool) (bd : List ByteArray) (s : ByteArray), p.scE ar sc g = 0 → s ∈ p.uses bd → s ∉ bd ∧ memB s sc = true := by
  refine Pr.ind ?_
  intro k c x ls vs t ps ih sc g bd s h hs
  obtain ⟨h1, h2⟩ := Pr.scE_facts h
  obtain ⟨f1, f2, _⟩ := Pr.nodeE_facts h1
  rw [Pr.uses_eq, List.mem_append] at hs
  rcases hs with hs | hs
  · unfold keepF at hs
    rw [List.mem_filter] at hs
    have hnb : s ∉ bd := fun hm => by have := hs.2; rw [memB_true.2 hm] at this; simp at this
    refine ⟨hnb, ?_⟩
    have ho := hs.1
    unfold Pr.own at ho
    rw [List.mem_append] at ho
    rcases ho with ho | ho
    · by_cases hp : prefixB (Pr.mk k c x ls vs t ps).k = true
      · rw [if_pos hp] at ho
        rw [List.mem_singleton.1 ho]
        rw [hp] at f1
        simpa using f1
      · rw [if_neg hp] at ho; cases ho
    · obtain ⟨a, ha, rfl⟩ := List.mem_map.1 ho
      rw [List.mem_filter] at ha
      have hb := List.any_eq_false.1 f2 a ha.1
      unfold badArg at hb
      have hk : a.k = 1 := by simpa using ha.2
      simpa [hk] using hb
  · obtain ⟨u, hu, hsu⟩ := mem_usess hs
    obtain ⟨q1, q2⟩ := ih u hu _ _ _ s (h2 u hu) hsu
    rw [List.mem_append, not_or] at q1
    rw [memB_append, memB_false q1.2, Bool.or_false] at q2
    exact ⟨q1.1, q2⟩
theorem gath_sc (ar : ByteArray → Option Nat) : ∀ (p : Pr) (sc : List ByteArray) (g : Bool) (s : ByteArray), p.scE ar sc g = 0 → s ∈ p.gath selC → ar s ≠ none := by
  refine Pr.ind ?_
  intro k c x ls vs t ps ih sc g s h hs
  obtain ⟨h1, h2⟩ := Pr.scE_facts h
  obtain ⟨_, _, f3⟩ := Pr.nodeE_facts h1
  rw [Pr.gath_eq, List.mem_append] at hs
  rcases hs with hs | hs
  · unfold selC at hs
    by_cases h8 : (Pr.mk k c x ls vs t ps).k = 8
    · rw [if_pos h8] at hs
      rw [List.mem_singleton.1 hs]
      intro hn
      have := f3 h8
      rw [hn] at this; simp [callE] at this
    · rw [if_neg h8] at hs; cases hs
  · obtain ⟨u, hu, hsu⟩ := mem_gaths hs
    exact ih u hu _ _ s (h2 u hu) hsu
theorem okN_args {p : Pr} (h : p.okN = true) : p.vs.length ≤ 1 ∨ p.k = 8 := by
  obtain ⟨k, c, x, ls, vs, t, ps⟩ := p
  by_cases h8 : k = 8
  · exact .inr h8
  · refine .inl ?_
    have hk : pknK k = true := by unfold Pr.okN at h; rw [Bool.and_eq_true] at h; exact h.1
    have hk2 : k = 1 ∨ k = 2 ∨ k = 3 ∨ k = 4 ∨ k = 5 ∨ k = 6 ∨ k = 7 := by
      unfold pknK at hk; simp at hk; omega
    rcases hk2 with rfl | rfl | rfl | rfl | rfl | rfl | rfl
    · rw [okN_1] at h; simp only [Bool.and_eq_true, decide_eq_true_eq] at h; show vs.length ≤ 1; omega
    · rw [okN_2] at h; simp only [Bool.and_eq_true, decide_eq_true_eq] at h; show vs.length ≤ 1; omega
    · rw [okN_3] at h; simp only [Bool.and_eq_true, decide_eq_true_eq] at h; show vs.length ≤ 1; omega
    · rw [okN_4] at h; simp only [Bool.and_eq_true, decide_eq_true_eq] at h; show vs.length ≤ 1; omega
    · rw [okN_5] at h; simp only [Bool.and_eq_true, decide_eq_true_eq] at h; show vs.length ≤ 1; omega
    · rw [okN_6] at h; simp only [Bool.and_eq_true, decide_eq_true_eq] at h; show vs.length ≤ 1; omega
    · rw [okN_7] at h; simp only [Bool.and_eq_true, decide_eq_true_eq] at h; show vs.length ≤ 1; omega
theorem everys_all {l : List Pr} (h : Pr.everys l = true) : ∀ u ∈ l, u.every = true := by
  induction l with
  | nil => intro u hu; cases hu
  | cons p r ih =>
    rw [Pr.everys, Bool.and_eq_true] at h
    intro u hu
    rcases List.mem_cons.1 hu with rfl | hu
    · exact h.1
    · exact ih h.2 u hu
theorem nmss_le {l : List Pr} (h : ∀ u ∈ l, u.nms ≤ 22 * u.size) : Pr.nmss l ≤ 22 * Pr.sizes l := by
  induction l with
  | nil => simp [Pr.nmss, Pr.sizes]
  | cons p r ih =>
    have h1 := h p (by simp)
    have h2 := ih (fun u hu => h u (by simp [hu]))
    simp only [Pr.nmss, Pr.sizes]; omega
theorem nms_sc (ar : ByteArray → Option Nat) (hal : ∀ s k, ar s = some k → k ≤ 20) : ∀ (p : Pr) (sc : List ByteArray) (g : Bool), p.scE ar sc g = 0 → p.every = true → p.nms ≤ 22 * p.size := by
  refine Pr.ind ?_
  intro k c x ls vs t ps ih sc g h he
  obtain ⟨h1, h2⟩ := Pr.scE_facts h
  obtain ⟨_, _, f3⟩ := Pr.nodeE_facts h1
  rw [Pr.every_eq, Bool.and_eq_true] at he
  have hv : (Pr.mk k c x ls vs t ps).vs.length ≤ 20 := by
    rcases okN_args he.1 with hv | h8
    · omega
    · have hc := f3 h8
      cases ha : ar (Pr.mk k c x ls vs t ps).c with
      | none => rw [ha] at hc; simp [callE] at hc
      | some n =>
        rw [ha] at hc
        have hn := hal _ _ ha
        unfold callE at hc
        by_cases e : n = (Pr.mk k c x ls vs t ps).vs.length
        · omega
        · simp only [if_neg e] at hc; omega
  have hs := nmss_le (l := ps) (fun u hu => ih u hu _ _ (h2 u hu) (everys_all he.2 u hu))
  rw [Pr.nms_eq, Pr.size_eq]
  simp only [Pr.ps] at *
  omega
theorem right_every {p : Pr} (h : prightE p = 0) : p.every = true := by
  unfold prightE at h
  by_cases hl : p.large = true
  · rw [if_pos hl] at h; omega
  · rw [if_neg hl] at h
    by_cases ha : allN (preP 1 p) = true
    · rw [allN_pre] at ha; exact ha
    · rw [if_neg ha] at h; omega
theorem firstR_all {l : List Pr} (h : firstR l = 0) : ∀ p ∈ l, prightE p = 0 := by
  induction l with
  | nil => intro p hp; cases hp
  | cons q r ih =>
    unfold firstR at h
    by_cases hq : prightE q = 0
    · rw [if_pos hq] at h
      intro p hp
      rcases List.mem_cons.1 hp with rfl | hp
      · exact hq
      · exact ih h p hp
    · rw [if_neg hq] at h; exact absurd h hq
theorem prog_all {g : Pg} (h : pprogE g = 0) : ∀ p ∈ g.bodies, p.every = true := by
  intro p hp
  unfold pprogE at h
  by_cases hm : g.many = true
  · rw [if_pos hm] at h; omega
  · rw [if_neg hm] at h
    by_cases hf : firstR g.bodies = 0
    · exact right_every (firstR_all hf p hp)
    · rw [if_neg hf] at h; exact absurd h hf
theorem mem_addN {l : List ByteArray} {s : ByteArray} : ∀ {out : List ByteArray}, s ∈ l.foldl addN out → s ∈ out ∨ s ∈ l := by
  induction l with
  | nil => intro out h; exact .inl h
  | cons x r ih =>
    intro out h
    rw [List.foldl_cons] at h
    rcases ih h with h | h
    · unfold addN at h
      split at h
      · exact .inl h
      · rcases List.mem_append.1 h with h | h
        · exact .inl h
        · rw [List.mem_singleton.1 h]; exact .inr (by simp)
    · exact .inr (by simp [h])
/-- A program without a fault. -/
theorem chk_facts {g : Pg} {ca : Nat} (h : g.chk = (0, ca)) : pprogE g = 0 ∧ twF g.ds = none ∧ ∀ i, i ≤ g.ds.length → g.bE (arOf g.ds) i = 0 := by
  unfold Pg.chk at h
  split at h
  · next h0 => exact absurd (Prod.mk.inj h).1 h0
  · next h0 =>
    split at h
    · exact absurd (Prod.mk.inj h).1 (by omega)
    · next ht =>
      split at h
      · next i hf =>
        have := List.find?_some hf
        simp at this
        exact absurd (Prod.mk.inj h).1 this
      · next hf =>
        refine ⟨by simpa using h0, ht, fun i hi => ?_⟩
        have := List.find?_eq_none.1 hf i (List.mem_range.2 (by omega))
        simpa using this
theorem arOf_le {ds : List Df} (h : ∀ d ∈ ds, d.ms.length ≤ 20) : ∀ s k, arOf ds s = some k → k ≤ 20 := by
  induction ds with
  | nil => intro s k hk; cases hk
  | cons d r ih =>
    intro s k hk
    rw [arOf] at hk
    cases hr : arOf r s with
    | some j => rw [hr] at hk; cases hk; exact ih (fun x hx => h x (by simp [hx])) s _ hr
    | none =>
      rw [hr] at hk
      simp only at hk
      by_cases e : s = d.n
      · rw [if_pos e] at hk; cases hk; exact h d (by simp)
      · rw [if_neg e] at hk; cases hk
theorem fdI_of_ar {ds : List Df} {s : ByteArray} (h : arOf ds s ≠ none) : ∃ i, fdI ds s = some i := by
  cases hf : fdI ds s with
  | some i => exact ⟨i, rfl⟩
  | none =>
    refine absurd (arOf_none (memB_false fun hm => ?_)) h
    obtain ⟨d, hd, e⟩ := List.mem_map.1 hm
    obtain ⟨i, hi, hdi⟩ := List.getElem_of_mem hd
    have := List.find?_eq_none.1 hf i (List.mem_range.2 hi)
    rw [nameAt_some (List.getElem?_eq_some_iff.2 ⟨hi, hdi⟩)] at this
    simp [e] at this
/-- What the law about free names asks of a body. -/
theorem body_facts {g : Pg} {m : Nat} (hl : g.little m = true) (hm : m ≤ 1000000) {ca : Nat} (h : g.chk = (0, ca)) {i : Nat} {d : Df} (hd : g.ds[i]? = some d) : (∀ s ∈ d.b.free, memB s (d.ms.map Pm.n) = true) ∧ (∀ s ∈ d.b.gath selC, ∃ k, fdI g.ds s = some k) ∧ d.b.nms ≤ 22000000 := by
  obtain ⟨h1, h2, h3⟩ := chk_facts h
  have hil : i < g.ds.length := (List.getElem?_eq_some_iff.1 hd).1
  have hb := h3 i (by omega)
  rw [Pg.bE_def hd] at hb
  obtain ⟨l1, l2, l3⟩ := Pg.little_facts hl
  have hmem := List.mem_of_getElem? hd
  have hn := nms_sc _ (arOf_le (fun x hx => (Df.little_facts (l3 x hx)).2.1)) d.b _ _ hb (prog_all h1 d.b (by unfold Pg.bodies; simp; exact .inl ⟨d, hmem, rfl⟩))
  have hsz := (Pr.few_facts (Df.little_facts (l3 d hmem)).1).1
  refine ⟨fun s hs => ?_, fun s hs => fdI_of_ar (gath_sc _ d.b _ _ s hb hs), by omega⟩
  rw [Pr.free_uses] at hs
  rcases mem_addN hs with hs | hs
  · cases hs
  · exact (uses_sc _ d.b _ _ _ s hb hs).2
theorem main_facts {g : Pg} {m : Nat} (hl : g.little m = true) (hm : m ≤ 1000000) {ca : Nat} (h : g.chk = (0, ca)) : g.m.free = [] ∧ g.m.nms ≤ 22000000 := by
  obtain ⟨h1, h2, h3⟩ := chk_facts h
  have hb := h3 g.ds.length (Nat.le_refl _)
  rw [Pg.bE_main] at hb
  obtain ⟨l1, l2, l3⟩ := Pg.little_facts hl
  have hn := nms_sc _ (arOf_le (fun x hx => (Df.little_facts (l3 x hx)).2.1)) g.m _ _ hb (prog_all h1 g.m (by unfold Pg.bodies; simp))
  have hsz := (Pr.few_facts l2).1
  refine ⟨List.eq_nil_iff_forall_not_mem.2 fun s hs => ?_, by omega⟩
  rw [Pr.free_uses] at hs
  rcases mem_addN hs with hs | hs
  · cases hs
  · have := (uses_sc _ g.m _ _ _ s hb hs).2
    cases this

end Go.Proofs.YtmedijheidbmhaaGreatDoor

/- Scopes: the reference's Calls. -/
namespace Go.Proofs.YtmedijheidbmhaaGreatDoor
open Go.RowKit Go.Deep Go.Shelf

abbrev sbox12 (w : World) (p : Pr) (lv av tl tk kv : Value) : World := w.alloc (cell12 p lv av tl tk kv)
def RCallsP (p : Pr) : Prop := ∀ (v : Value) (w : World), PLies w v p → p.size ≤ 1000000 → Calls Tryz.prog 12 #[v] w (StrRet w (p.gath selC))

set_option maxHeartbeats 4000000 in
set_option maxRecDepth 100000 in
theorem rcalls_step (p : Pr) (ih : ∀ u ∈ p.ps, RCallsP u) : RCallsP p := by
  intro v w hv hsz
  obtain ⟨lv, av, tl, tk, kv, rfl, ⟨hcz, hxz⟩, hl, ha, hty, hk⟩ := hv
  obtain ⟨ka, kn, kc, rfl, hkl, hkm, hkg⟩ := hk.open
  have CE : Hid (∀ W, Below (w.heap.size + 1) (sbox12 w p lv av tl tk (.slice ka kn kc)) W → W.cell? ⟨w.heap.size, 0, none⟩ = some (.int .i64 p.k) ∧ W.cell? ⟨w.heap.size, 1, none⟩ = some (.string p.c) ∧ W.cell? ⟨w.heap.size, 11, none⟩ = some (.slice ka kn kc)) :=
    Lib.hid (fun W hW => ⟨blk_cell hW 0 rfl, blk_cell hW 1 rfl, blk_cell hW 11 rfl⟩)
  have HLow : Hid (∀ W, Below (w.heap.size + 1) (sbox12 w p lv av tl tk (.slice ka kn kc)) W → Below w.heap.size w W) := Lib.hid (fun W hW => blk_below hW)
  have HKG : Hid (∀ (i : Nat) (u : Pr), p.ps[i]? = some u → ∃ gb go, ka = some ⟨gb, go, none⟩ ∧ gb < w.heap.size ∧ ∀ W, Below w.heap.size w W → PrAt (fun k => k < w.heap.size) W u gb (go + i * 12)) := Lib.hid (fun i u hi => by
    obtain ⟨gb, go, e, hgb, hu⟩ := hkg i u hi
    exact ⟨gb, go, e, hgb, fun W hW => PrAt.keep (hW.keeps'.mono (fun _ h => h)) _ _ _ hu⟩)
  have HIH := Lib.hid ih
  have hsize := p.size_eq
  have HN := Lib.hid (And.intro hsize hsz)
  have HCX := Lib.hid hcz
  have HKL := Lib.hid hkl.out
  have HB0 : Hid (Below (w.heap.size + 1) (sbox12 w p lv av tl tk (.slice ka kn kc)) (sbox12 w p lv av tl tk (.slice ka kn kc))) := Lib.hid (Below.refl _ _)
  clear hk hkg hkl ha hty hl ih hsize hsz hcz hxz
  go_enter Tryz.func12, Tryz.ntmps12
  go_upto_if 7 with fail
  go_cut [3] from 5 (fun v wc => ∃ sa sn sc, v = .slice sa sn sc ∧ Hid (Row (w.heap.size + 1) wc (.slice sa sn sc) (selC p)) ∧ Hid (Below (w.heap.size + 1) (sbox12 w p lv av tl tk (.slice ka kn kc)) wc))
  case first =>
    obtain ⟨c0, c1, _⟩ := CE.out _ HB0.out
    by_cases h8 : p.k = 8
    · have HSEL : Hid (selC p = [p.c]) := Lib.hid (by unfold selC; rw [if_pos h8])
      have h8' : (p.k == 8) = true := by simpa using h8
      have HSO : Hid (StrSl (Fresh (sbox12 w p lv av tl tk (.slice ka kn kc)).heap.size ((sbox12 w p lv av tl tk (.slice ka kn kc)).alloc (.cells #[.string p.c] 9)).heap.size) ((sbox12 w p lv av tl tk (.slice ka kn kc)).alloc (.cells #[.string p.c] 9)) (.slice (some ⟨(sbox12 w p lv av tl tk (.slice ka kn kc)).heap.size, 0, none⟩) 1 1) [p.c]) := Lib.hid (strSl_made [p.c] (Below.refl _ _) (fun s hs => by rw [List.mem_singleton.1 hs]; exact HCX.out) (by simp [maxLen]))
      rw [World.size_alloc] at HSO
      clear h8
      go_wp2_with (at_builtin; refine wpList_app rfl _ _ rfl (w.heap.size + 1) [] (.slice none 0 0) rfl (Row.nil _ _) _ _ _ _ [p.c] rfl HSO.out (by simp) (by simp) ?_; intro ga gn gc w2 hrow hgrow _)
      go_meet
      case rel => exact ⟨_, _, _, rfl, Lib.hid (by rw [HSEL.out]; exact hrow), Lib.hid ((HB0.out.alloc (by simp) _).grown hgrow (by simp) (fun k e => by cases e))⟩
    · have HSEL : Hid (selC p = []) := Lib.hid (by unfold selC; rw [if_neg h8])
      have h8' : (p.k == 8) = false := by simpa using h8
      clear h8
      go_wp2_with fail
      go_meet
      case rel => exact ⟨_, _, _, rfl, Lib.hid (by rw [HSEL.out]; exact Row.nil _ _), HB0⟩
  case rest =>
    obtain ⟨sa, sn, sc, rfl, HR0, HB1⟩ := hcut
    go_wp2_with fail
    go_loopw [3, 4] (fun v i wr => ∃ (j : Nat) (a : Option Addr) (n c : Nat), i = .int .i64 j ∧ j ≤ kn ∧ v = .slice a n c ∧ Hid (Row (w.heap.size + 1) wr (.slice a n c) (selC p ++ Pr.gaths selC (p.ps.take j))) ∧ Hid (Below (w.heap.size + 1) (sbox12 w p lv av tl tk (.slice ka kn kc)) wr)) (fun _ i _ => kn - (intOf i).toNat)
    case atStart => exact ⟨0, _, _, _, rfl, by omega, rfl, Lib.hid (by simpa [Pr.gaths] using HR0.out), HB1⟩
    case round =>
      obtain ⟨j, ga, gn, gc, rfl, hj, rfl, HR, HB⟩ := hrel
      obtain ⟨_, _, c11⟩ := CE.out _ HB.out
      have hlw := HLow.out _ HB.out
      have hz1 : w.heap.size + 1 ≤ wr.heap.size := by have := HB.out.size; simpa using this
      have hgl := Pr.gaths_len selC_len (p.ps.take j)
      have hsl0 := selC_len p
      by_cases hlt : j < kn
      · obtain ⟨u, hu⟩ : ∃ u, p.ps[j]? = some u := ⟨_, List.getElem?_eq_getElem (by rw [← HKL.out]; exact hlt)⟩
        obtain ⟨kb, ko, rfl, hkb, hpa⟩ := HKG.out j u hu
        obtain ⟨la1, ln1, lc1, aa1, an1, ac1, ta1, tn1, tc1, ua1, un1, uc1, ka1, kn1, kc1, ⟨d0, d1, d2, d3, d4, d5, d6, d7, d8, d9, d10, d11⟩, hval⟩ := (hpa wr hlw).load'
        have hum := List.mem_of_getElem? hu
        have hus := Pr.sizes_take hu
        have husl := Pr.sizes_take_le p.ps (j + 1)
        have hul := Pr.gath_len selC_len u
        have HNN := HN.out
        have HC : Hid (Calls Tryz.prog 12 #[prAgg u (.slice la1 ln1 lc1) (.slice aa1 an1 ac1) (.slice ta1 tn1 tc1) (.slice ua1 un1 uc1) (.slice ka1 kn1 kc1)] wr (StrRet wr (u.gath selC))) := Lib.hid (HIH.out u hum _ wr (hval.mono (fun k hk => Nat.lt_of_lt_of_le hk hlw.size)) (by omega))
        have HT : Hid (selC p ++ Pr.gaths selC (p.ps.take (j + 1)) = (selC p ++ Pr.gaths selC (p.ps.take j)) ++ u.gath selC) := Lib.hid (by rw [Pr.gaths_take hu, List.append_assoc])
        have HLN : Hid ((selC p ++ Pr.gaths selC (p.ps.take j)).length + (u.gath selC).length ≤ 1000000000) := Lib.hid (by rw [List.length_append]; omega)
        unfold prAgg at HC
        clear hu hpa hval hum hus husl hul HNN hgl hsl0
        go_wp2_with (first | (go_at_call 12; refine HC.out.mono ?_; rintro e w5 ⟨ya, yn, yc, rfl, hsl, hb5⟩; have HSL := Lib.hid hsl; have HB6 := Lib.hid hb5; have HR5 := Lib.hid (HR.out.to hb5); have hz6 := hb5.size; clear hsl hb5) | (at_builtin; refine wpList_app rfl _ _ rfl (w.heap.size + 1) (selC p ++ Pr.gaths selC (p.ps.take j)) (.slice ga gn gc) rfl HR5.out _ _ _ _ (u.gath selC) rfl HSL.out HLN.out (Nat.le_trans hz1 hz6) ?_; intro fa' fn' fc' w6 hrow hgrow hat; have HRW := Lib.hid hrow; have HGW := Lib.hid hgrow; clear hrow hgrow hat))
        go_roundw
        case rel => exact ⟨j + 1, _, _, _, by go_num, by omega, rfl, Lib.hid (by rw [HT.out]; exact HRW.out), Lib.hid ((HB.out.trans (HB6.out.mono hz1)).grown HGW.out (Nat.le_trans hz1 hz6) (fun k e => (HR5.out.lt k e).1))⟩
        case measure => simp [intOf]; omega
      · obtain rfl : kn = j := by omega
        have HLE : Hid (selC p ++ Pr.gaths selC (p.ps.take kn) = p.gath selC) := Lib.hid (by rw [List.take_of_length_le (by rw [HKL.out]; exact Nat.le_refl _), Pr.gath_eq])
        have HLL : Hid ((p.gath selC).length ≤ maxLen) := Lib.hid (by have := Pr.gath_len selC_len p; have := HN.out; unfold maxLen; omega)
        clear hgl hsl0
        go_wp2_with fail
        go_ret
        refine ⟨_, _, _, rfl, ?_, hlw⟩
        have h := HR.out
        rw [HLE.out] at h
        exact (h.strs HLL.out).2.mono (fun k hk => ⟨by have := hk.1; omega, hk.2⟩)

theorem rcalls_any : ∀ p : Pr, RCallsP p := by
  refine Pr.ind ?_
  intro k c x ls vs t ps ih
  exact rcalls_step (.mk k c x ls vs t ps) ih

end Go.Proofs.YtmedijheidbmhaaGreatDoor

/- Scopes: the law about free names. -/
namespace Go.Proofs.YtmedijheidbmhaaGreatDoor
open Go.RowKit Go.Deep Go.Shelf

theorem rfree_l {W : World} {v : Value} {p : Pr} {l : List ByteArray} (h : PLies W v p) (hn : p.nms ≤ 900000000) (hd : 2 * p.depth ≤ 1000000) (hl : p.free = l) : Calls Tryz.prog 11 #[v] W fun e w' => ∃ la ln lc, e = .returned (.slice la ln lc) ∧ SLies w' (.slice la ln lc) l ∧ Below W.heap.size W w' := by
  rw [← hl]
  exact (rfree_any p v W h hn hd).mono fun _ _ ⟨la, ln, lc, h1, h2, h3⟩ => ⟨la, ln, lc, h1, h2.mono (fun _ hk => hk.2), h3⟩
theorem rcalls_l {W : World} {v : Value} {p : Pr} {l : List ByteArray} (h : PLies W v p) (hs : p.size ≤ 1000000) (hl : p.gath selC = l) : Calls Tryz.prog 12 #[v] W fun e w' => ∃ la ln lc, e = .returned (.slice la ln lc) ∧ SLies w' (.slice la ln lc) l ∧ Below W.heap.size W w' := by
  rw [← hl]
  exact (rcalls_any p v W h hs).mono fun _ _ ⟨la, ln, lc, h1, h2, h3⟩ => ⟨la, ln, lc, h1, h2.mono (fun _ hk => hk.2), h3⟩
theorem rfind_l {W : World} {v : Value} {g : Pg} {s : ByteArray} {x : Int} (h : GLies W v g) (hx : fdZ (fdI g.ds s) = x) : Calls Tryz.prog 13 #[v, .string s] W fun e w' => e = .returned (.int .i64 x) ∧ Below W.heap.size W w' :=
  rfind_any _ g s v W (plow W) h x hx

set_option maxHeartbeats 4000000 in
set_option maxRecDepth 100000 in
theorem rright6_any (t0 : Pg) (hf0 : Pg.fine t0) (v0 : Value) (w : World) (h0 : GLies w v0 t0) (hl : t0.little 1000 = true) (ce : Int) (ca : Nat) (hc : t0.chk = (ce, ca)) (h1 : ce ≠ 0) :
    Calls Tryz.prog 10 #[v0, .int .i64 1000] w fun e w' => e = .returned (.bool false) ∧ Below w.heap.size w w' := by
  have g0 := h0
  obtain ⟨dv, lv, av, tl, tk, kv, rfl, hd, hp⟩ := g0
  obtain ⟨⟨la, ln, lc, rfl⟩, ⟨aa, an, ac, rfl⟩, ⟨ta, tn, tc, rfl⟩, ⟨ua, un, uc, rfl⟩, ka, kn, kc, rfl⟩ := pr_slices hp
  obtain ⟨pa, len, c, rfl, _⟩ := hd.open
  obtain ⟨W0, hW0⟩ : ∃ W0, w.alloc (cell13 t0 (.slice pa len c) (.slice la ln lc) (.slice aa an ac) (.slice ta tn tc) (.slice ua un uc) (.slice ka kn kc)) = W0 := ⟨_, rfl⟩
  have hb0 : Below w.heap.size w W0 := by rw [← hW0]; exact blkBelow w _ _
  have t1 : T13 W0 w.heap.size (cell13 t0 (.slice pa len c) (.slice la ln lc) (.slice aa an ac) (.slice ta tn tc) (.slice ua un uc) (.slice ka kn kc)) := by rw [← hW0]; exact World.alloc_heap_new _ _
  have HT := Lib.hid t1
  have HG : Hid (GLies W0 (pgAgg t0 (.slice pa len c) (.slice la ln lc) (.slice aa an ac) (.slice ta tn tc) (.slice ua un uc) (.slice ka kn kc)) t0) := Lib.hid (h0.to hb0)
  have HB0 := Lib.hid hb0
  have HW0 := Lib.hid hW0
  have HF := Lib.hid hf0
  have HL := Lib.hid hl
  have HC := Lib.hid hc
  have h2 : (ce == 0) = false := by simpa using h1
  unfold pgAgg at HG
  clear h0 hd hp t1 hb0 hW0 hf0 hl hc h1
  go_enter Tryz.func10, Tryz.ntmps10
  go_wp2_with fail
  refine scalls_at HW0.out ?_
  refine (plittle_l' (m := 1000) HG.out (by omega) HL.out).mono ?_
  rintro e w1 ⟨rfl, hb1⟩
  obtain ⟨c0, c1, c2, c3, c4, c5, c6, c7, c8, c9, c10, c11, c12⟩ := (HT.out.to hb1).cells
  go_wp2_with fail
  clear c0 c1 c2 c3 c4 c5 c6 c7 c8 c9 c10 c11 c12
  refine (rcheck_l (HG.out.to hb1) HF.out HL.out (by omega) HC.out).mono ?_
  rintro e w3 ⟨rfl, hb3⟩
  go_wp2_with fail
  go_ret
  exact ⟨ret_bool (by simp), below_seq HB0.out (below_seq hb1 hb3)⟩

set_option maxHeartbeats 16000000 in
set_option maxRecDepth 100000 in
theorem ScopeFree_any (t0 : Pg) (hf0 : Pg.fine t0) (v0 : Value) (E : Nat) (w : World) (he : Env E w) (h0 : GLies w v0 t0) :
    Calls Tryz.prog 4 #[v0] w fun e w' => e = .returned (.bool true) ∧ Below w.heap.size w w' := by
  have g0 := h0
  obtain ⟨dv, lv, av, tl, tk, kv, rfl, hd, hp⟩ := g0
  have hp0 := hp
  obtain ⟨⟨la, ln, lc, rfl⟩, ⟨aa, an, ac, rfl⟩, ⟨ta, tn, tc, rfl⟩, ⟨ua, un, uc, rfl⟩, ka, kn, kc, rfl⟩ := pr_slices hp
  obtain ⟨pa, len, c, rfl, hlen, hmx, hget⟩ := hd.open
  obtain ⟨W0, hW0⟩ : ∃ W0, w.alloc (cell13 t0 (.slice pa len c) (.slice la ln lc) (.slice aa an ac) (.slice ta tn tc) (.slice ua un uc) (.slice ka kn kc)) = W0 := ⟨_, rfl⟩
  have hb0 : Below w.heap.size w W0 := by rw [← hW0]; exact blkBelow w _ _
  have hs0 : W0.heap.size = w.heap.size + 1 := by rw [← hW0]; simp
  have t1 : T13 W0 w.heap.size (cell13 t0 (.slice pa len c) (.slice la ln lc) (.slice aa an ac) (.slice ta tn tc) (.slice ua un uc) (.slice ka kn kc)) := by rw [← hW0]; exact World.alloc_heap_new _ _
  have HT := Lib.hid t1
  have HG : Hid (GLies W0 (pgAgg t0 (.slice pa len c) (.slice la ln lc) (.slice aa an ac) (.slice ta tn tc) (.slice ua un uc) (.slice ka kn kc)) t0) := Lib.hid (h0.to hb0)
  have HM : Hid (PLies W0 (prAgg t0.m (.slice la ln lc) (.slice aa an ac) (.slice ta tn tc) (.slice ua un uc) (.slice ka kn kc)) t0.m) := Lib.hid (PLies.to hp0 hb0)
  have HD : Hid (∀ (j : Nat) (d : Df), t0.ds[j]? = some d → ∃ kb ko, pa = some ⟨kb, ko, none⟩ ∧ kb < w.heap.size ∧ ∀ W, Below W0.heap.size W0 W → DfAt (fun k => k < w.heap.size) W d kb (ko + j * 14)) := Lib.hid (fun j d hj => by
    obtain ⟨kb, ko, e, hkb, hda⟩ := hget j d hj
    exact ⟨kb, ko, e, hkb, fun W hW => DfAt.keep ((below_seq hb0 hW).keeps'.mono (fun _ h => h)) hkb hda⟩)
  have HE := Lib.hid (he.to hb0)
  have HB0 := Lib.hid hb0
  have HW0 := Lib.hid hW0
  have HF := Lib.hid hf0
  have HLE : Hid (t0.ds.length = len) := Lib.hid hlen.out.symm
  have HAW : Hid (∀ (E : Nat) (w : World), Env E w → Calls Tryz.prog 6 #[] w fun e w' => e = .returned (.bool true) ∧ Below w.heap.size w w') := Lib.hid sawake_any
  have hwz : w.heap.size + 1 ≤ W0.heap.size := by omega
  obtain ⟨f0, hf⟩ : ∃ x, t0.little 1000 = x := ⟨_, rfl⟩
  have F0 := Lib.hid hf
  unfold pgAgg at HG
  unfold prAgg at HM
  clear h0 hd hp hp0 t1 hb0 hs0 hW0 he hf0 hf hlen hget
  cases f0
  · go_enter Tryz.func4, Tryz.ntmps4
    go_wp2_with fail
    refine scalls_at HW0.out ?_
    refine (HAW.out _ _ HE.out).mono ?_
    rintro e w1 ⟨rfl, hb1⟩
    obtain ⟨c0, c1, c2, c3, c4, c5, c6, c7, c8, c9, c10, c11, c12⟩ := (HT.out.to hb1).cells
    go_wp2_with fail
    clear c0 c1 c2 c3 c4 c5 c6 c7 c8 c9 c10 c11 c12
    refine (plittle_l' (m := 1000) (HG.out.to hb1) (by omega) F0.out).mono ?_
    rintro e w2 ⟨rfl, hb2⟩
    have hz2 := below_seq hb1 hb2
    go_wp2_with fail
    refine (HAW.out _ _ (HE.out.to hz2)).mono ?_
    rintro e w9 ⟨rfl, hb9⟩
    go_wp2_with fail
    go_ret
    exact ⟨rfl, below_seq HB0.out (below_seq hz2 hb9)⟩
  · obtain ⟨ce, ca, hc⟩ : ∃ ce ca, t0.chk = (ce, ca) := ⟨_, _, rfl⟩
    obtain ⟨hg, _⟩ := little_good' (m := 1000) (by omega) HF.out F0.out
    have HC := Lib.hid hc
    have HGG := Lib.hid hg
    clear hc hg
    go_enter Tryz.func4, Tryz.ntmps4
    go_wp2_with fail
    refine scalls_at HW0.out ?_
    refine (HAW.out _ _ HE.out).mono ?_
    rintro e w1 ⟨rfl, hb1⟩
    obtain ⟨c0, c1, c2, c3, c4, c5, c6, c7, c8, c9, c10, c11, c12⟩ := (HT.out.to hb1).cells
    go_wp2_with fail
    clear c0 c1 c2 c3 c4 c5 c6 c7 c8 c9 c10 c11 c12
    refine (plittle_l' (m := 1000) (HG.out.to hb1) (by omega) F0.out).mono ?_
    rintro e w2 ⟨rfl, hb2⟩
    have hz2 := below_seq hb1 hb2
    obtain ⟨c0, c1, c2, c3, c4, c5, c6, c7, c8, c9, c10, c11, c12⟩ := (HT.out.to hz2).cells
    clear hb1 hb2
    go_wp2_with fail
    clear c0 c1 c2 c3 c4 c5 c6 c7 c8 c9 c10 c11 c12
    refine (check_l (HE.out.to hz2) (HG.out.to hz2) HGG.out HC.out).mono ?_
    rintro e w3 ⟨rfl, hb3⟩
    have HZ3 := Lib.hid (below_seq hz2 hb3)
    have hfd : ∀ w : World, (Instr.field 39 (.agg #[.int .i64 ce, .int .i64 (ca : Int)]) 0).run Tryz.prog w = .ok (.int .i64 ce) w := fun _ => by kernel_rfl
    clear hz2 hb3
    by_cases h0 : ce = 0
    · subst h0
      go_wp2_with fail
      go_loopw [3] (fun i wr => ∃ j : Nat, i = .int .i64 (j : Int) ∧ j ≤ len ∧ Hid (Below W0.heap.size W0 wr)) (fun i _ => len - (intOf i).toNat)
      case atStart => exact ⟨0, rfl, by omega, HZ3⟩
      case round =>
        obtain ⟨j, rfl, hj, HBj⟩ := hrel
        obtain ⟨wo, hwo⟩ : ∃ wo, wo = wr := ⟨_, rfl⟩
        subst hwo
        have hzo : W0.heap.size ≤ wo.heap.size := HBj.out.size
        have c0 := (HT.out.to HBj.out).cells.1
        by_cases hlt : j < len
        · obtain ⟨d, hdj⟩ : ∃ d, t0.ds[j]? = some d := ⟨_, List.getElem?_eq_getElem (by rw [HLE.out]; exact hlt)⟩
          obtain ⟨kb, ko, rfl, hkl, hda⟩ := HD.out j d hdj
          obtain ⟨_, _, ⟨mv, e1, hms⟩, hpr⟩ := hda wo HBj.out
          obtain ⟨ma, ml, mc, rfl, hml, hmlx, hmg⟩ := hms.open
          obtain ⟨la1, ln1, lc1, aa1, an1, ac1, ta1, tn1, tc1, ua1, un1, uc1, ka1, kn1, kc1, ⟨d0, d1, d2, d3, d4, d5, d6, d7, d8, d9, d10, d11⟩, hval⟩ := hpr.load'
          obtain ⟨bf1, bf2, bf3⟩ := body_facts F0.out (by omega) HC.out hdj
          have hdep := (HGG.out.2.2 d.b (by unfold Pg.bodies; simp; exact .inl ⟨d, List.mem_of_getElem? hdj, rfl⟩)).2
          obtain ⟨fr, hfr⟩ : ∃ x, d.b.free = x := ⟨_, rfl⟩
          obtain ⟨cl, hcl⟩ : ∃ x, d.b.gath selC = x := ⟨_, rfl⟩
          rw [hfr] at bf1
          rw [hcl] at bf2
          have hkw : kb < wo.heap.size := by omega
          have HPL : Hid (∀ W, Below wo.heap.size wo W → PLies W (.agg #[.int .i64 d.b.k, .string d.b.c, .string d.b.x, .slice la1 ln1 lc1, .slice aa1 an1 ac1, .int .i64 d.b.t.k, .int .i64 d.b.t.p, .string d.b.t.n, .int .i64 d.b.t.s, .slice ta1 tn1 tc1, .slice ua1 un1 uc1, .slice ka1 kn1 kc1]) d.b) := Lib.hid (fun W hW => PLies.to (hval.mono (fun k hk => by have hk' : k < w.heap.size := hk; omega)) hW)
          have HKC : Hid (∀ W, Below wo.heap.size wo W → W.cell? ⟨kb, ko + j * 14 + 1, none⟩ = some (.slice ma ml mc) ∧ W.cell? ⟨kb, ko + j * 14 + 2, none⟩ = some (.int .i64 d.b.k) ∧ W.cell? ⟨kb, ko + j * 14 + 3, none⟩ = some (.string d.b.c) ∧ W.cell? ⟨kb, ko + j * 14 + 4, none⟩ = some (.string d.b.x) ∧ W.cell? ⟨kb, ko + j * 14 + 5, none⟩ = some (.slice la1 ln1 lc1) ∧ W.cell? ⟨kb, ko + j * 14 + 6, none⟩ = some (.slice aa1 an1 ac1) ∧ W.cell? ⟨kb, ko + j * 14 + 7, none⟩ = some (.int .i64 d.b.t.k) ∧ W.cell? ⟨kb, ko + j * 14 + 8, none⟩ = some (.int .i64 d.b.t.p) ∧ W.cell? ⟨kb, ko + j * 14 + 9, none⟩ = some (.string d.b.t.n) ∧ W.cell? ⟨kb, ko + j * 14 + 10, none⟩ = some (.int .i64 d.b.t.s) ∧ W.cell? ⟨kb, ko + j * 14 + 11, none⟩ = some (.slice ta1 tn1 tc1) ∧ W.cell? ⟨kb, ko + j * 14 + 12, none⟩ = some (.slice ua1 un1 uc1) ∧ W.cell? ⟨kb, ko + j * 14 + 13, none⟩ = some (.slice ka1 kn1 kc1)) := Lib.hid (fun W hW => by
            have lift : ∀ {i : Nat} {v : Value}, wo.cell? ⟨kb, i, none⟩ = some v → W.cell? ⟨kb, i, none⟩ = some v := fun h => (hW.cell (p := ⟨kb, _, none⟩) hkw).trans h
            exact ⟨lift e1, lift d0, lift d1, lift d2, lift d3, lift d4, lift d5, lift d6, lift d7, lift d8, lift d9, lift d10, lift d11⟩)
          have HMG : Hid (∀ (i : Nat) (a : Pm), d.ms[i]? = some a → ∃ gb go, ma = some ⟨gb, go, none⟩ ∧ ∀ W, Below wo.heap.size wo W → W.cell? ⟨gb, go + i * 7, none⟩ = some (.string a.n)) := Lib.hid (fun i a hi => by
            obtain ⟨gb, go, e, hgb, ha⟩ := hmg i a hi
            have hgb' : gb < w.heap.size := hgb
            exact ⟨gb, go, e, fun W hW => (hW.cell (p := ⟨gb, _, none⟩) (by simp only; omega)).trans ha.2.1⟩)
          have HFR := Lib.hid (rfree_l (HPL.out wo (Below.refl _ _)) (by omega) (by omega) hfr)
          have HCL : Hid (∀ W, Below wo.heap.size wo W → Calls Tryz.prog 12 #[.agg #[.int .i64 d.b.k, .string d.b.c, .string d.b.x, .slice la1 ln1 lc1, .slice aa1 an1 ac1, .int .i64 d.b.t.k, .int .i64 d.b.t.p, .string d.b.t.n, .int .i64 d.b.t.s, .slice ta1 tn1 tc1, .slice ua1 un1 uc1, .slice ka1 kn1 kc1]] W fun e w' => ∃ la ln lc, e = .returned (.slice la ln lc) ∧ SLies w' (.slice la ln lc) cl ∧ Below W.heap.size W w') := Lib.hid (fun W hW => rcalls_l (HPL.out W hW) (by omega) hcl)
          have HML := Lib.hid hml.out
          have HB1 := Lib.hid bf1
          have HB2 := Lib.hid bf2
          clear hdj hda hms hpr hml hmg hval bf1 bf2 bf3 hdep hfr hcl e1 d0 d1 d2 d3 d4 d5 d6 d7 d8 d9 d10 d11
          obtain ⟨_, d0, d1, d2, d3, d4, d5, d6, d7, d8, d9, d10, d11⟩ := HKC.out wo (Below.refl _ _)
          go_wp2_with fail
          clear d0 d1 d2 d3 d4 d5 d6 d7 d8 d9 d10 d11 c0
          refine HFR.out.mono ?_
          rintro e w4 ⟨fa, fn, fc, rfl, hsl, hb4⟩
          have HB4 : Hid (Below wo.heap.size wo w4) := Lib.hid hb4
          obtain ⟨_, _, _, ee, hfl, hfm, hfg⟩ := StrSl.open hsl
          simp only [Value.slice.injEq] at ee
          obtain ⟨rfl, rfl, rfl⟩ := ee
          have HFG : Hid (∀ i s, fr[i]? = some s → ∃ gb go, fa = some ⟨gb, go, none⟩ ∧ ∀ W, Below w4.heap.size w4 W → W.cell? ⟨gb, go + i, none⟩ = some (.string s)) := Lib.hid (fun i s hi => by
            obtain ⟨_, gb, go, e, hgb, hc⟩ := hfg i s hi
            exact ⟨gb, go, e, fun W hW => (hW.cell (p := ⟨gb, _, none⟩) hgb).trans hc⟩)
          have HFL := Lib.hid hfl.out
          have hz4 : wo.heap.size ≤ w4.heap.size := hb4.size
          clear hsl hb4 hfl hfg HFR
          go_wp2_with fail
          go_loopw [5, 6, 7] (fun i _ _ wr => ∃ k : Nat, i = .int .i64 (k : Int) ∧ k ≤ fn ∧ Hid (Below w4.heap.size w4 wr)) (fun i _ _ _ => fn - (intOf i).toNat)
          case atStart => exact ⟨0, rfl, by omega, Lib.hid (Below.refl _ _)⟩
          case round =>
            obtain ⟨k, rfl, hk, HBk⟩ := hrel
            obtain ⟨wk, hwk⟩ : ∃ wk, wk = wr := ⟨_, rfl⟩
            subst hwk
            by_cases hlt2 : k < fn
            · obtain ⟨s, hs⟩ : ∃ s, fr[k]? = some s := ⟨_, List.getElem?_eq_getElem (by rw [← HFL.out]; exact hlt2)⟩
              obtain ⟨gb, go, rfl, hcs⟩ := HFG.out k s hs
              have HS : Hid (memB s (d.ms.map Pm.n) = true) := Lib.hid (HB1.out s (List.mem_of_getElem? hs))
              have HCS := Lib.hid hcs
              clear hs hcs
              go_wp2_with fail
              go_loopw [6, 7] (fun v i wr => ∃ m : Nat, i = .int .i64 (m : Int) ∧ m ≤ ml ∧ v = .bool (memB s ((d.ms.take m).map Pm.n)) ∧ Hid (Below w4.heap.size w4 wr)) (fun _ i _ => ml - (intOf i).toNat)
              case atStart => exact ⟨0, rfl, by omega, rfl, HBk⟩
              case round =>
                obtain ⟨m, rfl, hm, rfl, HBm⟩ := hrel
                obtain ⟨wm, hwm⟩ : ∃ wm, wm = wr := ⟨_, rfl⟩
                subst hwm
                have HBmo : Hid (Below wo.heap.size wo wm) := Lib.hid (HB4.out.trans (HBm.out.mono hz4))
                have HBm0 : Hid (Below W0.heap.size W0 wm) := Lib.hid (HBj.out.trans (HBmo.out.mono hzo))
                have c0 := (HT.out.to HBm0.out).cells.1
                have e1 := (HKC.out wm HBmo.out).1
                by_cases hlt3 : m < ml
                · obtain ⟨a, ha⟩ : ∃ a, d.ms[m]? = some a := ⟨_, List.getElem?_eq_getElem (by rw [← HML.out]; exact hlt3)⟩
                  obtain ⟨gb2, go2, rfl, hca⟩ := HMG.out m a ha
                  have HNT : Hid (memB s ((d.ms.take (m + 1)).map Pm.n) = (memB s ((d.ms.take m).map Pm.n) || decide (a.n = s))) := Lib.hid (by rw [take_snoc_get ha, List.map_append, memB_append]; rw [show (List.map Pm.n [a]) = [a.n] from rfl, memB_one])
                  have HRA : Hid (∀ W, Below wm.heap.size wm W → Below w4.heap.size w4 W) := Lib.hid (fun W hW => HBm.out.trans (hW.mono HBm.out.size))
                  have u0 := fun Q : Later wm.heap.size wm => (HT.out.to (HBm0.out.trans (Below.mono Q.2 HBm0.out.size))).cells.1
                  have u1 := fun Q : Later wm.heap.size wm => (HKC.out Q.1 (HBmo.out.trans (Below.mono Q.2 HBmo.out.size))).1
                  have u2 := fun Q : Later wm.heap.size wm => hca Q.1 (HBmo.out.trans (Below.mono Q.2 HBmo.out.size))
                  have u3 := fun Q : Later wm.heap.size wm => HCS.out Q.1 (HRA.out Q.1 Q.2)
                  obtain ⟨fb, hfb⟩ : ∃ x, memB s ((d.ms.take m).map Pm.n) = x := ⟨_, rfl⟩
                  rw [hfb] at HNT ⊢
                  clear ha hca hfb
                  cases fb
                  · by_cases hes : a.n = s
                    · have HNT2 : Hid (memB s ((d.ms.take (m + 1)).map Pm.n) = true) := Lib.hid (by rw [HNT.out, hes]; simp)
                      rw [hes] at u2
                      clear hes
                      go_wp2_with fail
                      refine wp_region_later wm.heap.size wm (by kernel_rfl) (by kernel_rfl) (Below.refl _ _) ?_
                      repeat (go_big_quiet_step (fail))
                      refine wpQuiet_nil ?_
                      rintro _ ⟨⟨w9, hb9⟩, rfl⟩
                      have HB9 := Lib.hid (HRA.out _ hb9)
                      clear u0 u1 u2 u3 hb9 c0 e1
                      go_wp2_with fail
                      go_roundw
                      case rel => exact ⟨m + 1, by go_num, by omega, by rw [HNT2.out], HB9⟩
                      case measure => simp [intOf]; omega
                    · have s1 := str_ne hes
                      have s2 : (a.n.toList == s.toList) = false := by simpa using s1
                      have HNT2 : Hid (memB s ((d.ms.take (m + 1)).map Pm.n) = false) := Lib.hid (by rw [HNT.out]; simpa using hes)
                      clear hes
                      go_wp2_with fail
                      refine wp_region_later wm.heap.size wm (by kernel_rfl) (by kernel_rfl) (Below.refl _ _) ?_
                      repeat (go_big_quiet_step (fail))
                      refine wpQuiet_nil ?_
                      rintro _ ⟨⟨w9, hb9⟩, rfl⟩
                      have HB9 := Lib.hid (HRA.out _ hb9)
                      clear u0 u1 u2 u3 hb9 c0 e1
                      go_wp2_with fail
                      go_roundw
                      case rel => exact ⟨m + 1, by go_num, by omega, by rw [HNT2.out], HB9⟩
                      case measure => simp [intOf]; omega
                  · have HNT2 : Hid (memB s ((d.ms.take (m + 1)).map Pm.n) = true) := Lib.hid (by rw [HNT.out]; rfl)
                    go_wp2_with fail
                    refine wp_region_later wm.heap.size wm (by kernel_rfl) (by kernel_rfl) (Below.refl _ _) ?_
                    repeat (go_big_quiet_step (fail))
                    refine wpQuiet_nil ?_
                    rintro _ ⟨⟨w9, hb9⟩, rfl⟩
                    have HB9 := Lib.hid (HRA.out _ hb9)
                    clear u0 u1 u2 u3 hb9 c0 e1
                    go_wp2_with fail
                    go_roundw
                    case rel => exact ⟨m + 1, by go_num, by omega, by rw [HNT2.out], HB9⟩
                    case measure => simp [intOf]; omega
                · obtain rfl : ml = m := by omega
                  have hmb : memB s ((d.ms.take ml).map Pm.n) = true := by rw [List.take_of_length_le (by rw [HML.out]; exact Nat.le_refl _)]; exact HS.out
                  rw [hmb]
                  clear hmb
                  go_wp2_with fail
                  go_roundw
                  case rel => exact ⟨k + 1, by go_num, by omega, HBm⟩
                  case measure => simp [intOf]; omega
            · obtain rfl : fn = k := by omega
              have HBko : Hid (Below wo.heap.size wo wk) := Lib.hid (HB4.out.trans (HBk.out.mono hz4))
              have HBk0 : Hid (Below W0.heap.size W0 wk) := Lib.hid (HBj.out.trans (HBko.out.mono hzo))
              have c0 := (HT.out.to HBk0.out).cells.1
              obtain ⟨_, d0, d1, d2, d3, d4, d5, d6, d7, d8, d9, d10, d11⟩ := HKC.out wk HBko.out
              go_wp2_with fail
              clear d0 d1 d2 d3 d4 d5 d6 d7 d8 d9 d10 d11 c0
              refine (HCL.out wk HBko.out).mono ?_
              rintro e w5 ⟨qa, qn, qc, rfl, hsl, hb5⟩
              have HB5 : Hid (Below W0.heap.size W0 w5) := Lib.hid (HBk0.out.trans (hb5.mono HBk0.out.size))
              obtain ⟨_, _, _, ee, hql, hqm, hqg⟩ := StrSl.open hsl
              simp only [Value.slice.injEq] at ee
              obtain ⟨rfl, rfl, rfl⟩ := ee
              have HQG : Hid (∀ i s, cl[i]? = some s → ∃ gb go, qa = some ⟨gb, go, none⟩ ∧ ∀ W, Below w5.heap.size w5 W → W.cell? ⟨gb, go + i, none⟩ = some (.string s)) := Lib.hid (fun i s hi => by
                obtain ⟨_, gb, go, e, hgb, hc⟩ := hqg i s hi
                exact ⟨gb, go, e, fun W hW => (hW.cell (p := ⟨gb, _, none⟩) hgb).trans hc⟩)
              have HQL := Lib.hid hql.out
              have hz5 : W0.heap.size ≤ w5.heap.size := HB5.out.size
              clear hsl hb5 hql hqg
              go_wp2_with fail
              go_loopw [9] (fun i wr => ∃ m : Nat, i = .int .i64 (m : Int) ∧ m ≤ qn ∧ Hid (Below w5.heap.size w5 wr)) (fun i _ => qn - (intOf i).toNat)
              case atStart => exact ⟨0, rfl, by omega, Lib.hid (Below.refl _ _)⟩
              case round =>
                obtain ⟨m, rfl, hm, HBm⟩ := hrel
                obtain ⟨wm, hwm⟩ : ∃ wm, wm = wr := ⟨_, rfl⟩
                subst hwm
                have HBm0 : Hid (Below W0.heap.size W0 wm) := Lib.hid (HB5.out.trans (HBm.out.mono hz5))
                have hz6 : W0.heap.size ≤ wm.heap.size := HBm0.out.size
                by_cases hlt3 : m < qn
                · obtain ⟨s, hs⟩ : ∃ s, cl[m]? = some s := ⟨_, List.getElem?_eq_getElem (by rw [← HQL.out]; exact hlt3)⟩
                  obtain ⟨gb, go, rfl, hcs⟩ := HQG.out m s hs
                  obtain ⟨fi, hfi⟩ := HB2.out s (List.mem_of_getElem? hs)
                  have HFN : Hid (∀ W, Below wm.heap.size wm W → Calls Tryz.prog 13 #[.agg #[.slice (some ⟨kb, ko, none⟩) len c, .int .i64 t0.m.k, .string t0.m.c, .string t0.m.x, .slice la ln lc, .slice aa an ac, .int .i64 t0.m.t.k, .int .i64 t0.m.t.p, .string t0.m.t.n, .int .i64 t0.m.t.s, .slice ta tn tc, .slice ua un uc, .slice ka kn kc], .string s] W fun e w' => e = .returned (.int .i64 (fi : Int)) ∧ Below W.heap.size W w') := Lib.hid (fun W hW => rfind_l (HG.out.to (HBm0.out.trans (hW.mono hz6))) (by rw [hfi]; rfl))
                  have kt := fun Q : Later wm.heap.size wm => (HT.out.to (HBm0.out.trans (Below.mono Q.2 hz6))).cells
                  have u3 := fun Q : Later wm.heap.size wm => hcs Q.1 (HBm.out.trans (Below.mono Q.2 HBm.out.size))
                  have hfn : ¬ ((fi : Int) < 0) := by omega
                  have hfn2 : decide ((fi : Int) < 0) = false := by simp
                  simp only [forall_and] at kt
                  obtain ⟨t0', t1, t2, t3, t4, t5, t6, t7, t8, t9, t10, t11, t12⟩ := kt
                  clear hs hcs hfi
                  go_wp2_with fail
                  refine wp_region_later wm.heap.size wm (by kernel_rfl) (by kernel_rfl) (Below.refl _ _) ?_
                  repeat (go_big_quiet_step ((go_at_call 13; exact later_call _ (Nat.le_refl _) (HFN.out _ (Subtype.property _)))))
                  refine wpQuiet_nil ?_
                  rintro _ ⟨⟨w9, hb9⟩, rfl⟩
                  have HB9 := Lib.hid hb9
                  clear hb9 t0' t1 t2 t3 t4 t5 t6 t7 t8 t9 t10 t11 t12 u3
                  go_wp2_with fail
                  go_roundw
                  case rel => exact ⟨m + 1, by go_num, by omega, Lib.hid (HBm.out.trans (HB9.out.mono HBm.out.size))⟩
                  case measure => simp [intOf]; omega
                · obtain rfl : qn = m := by omega
                  go_wp2_with fail
                  go_roundw
                  case rel => exact ⟨j + 1, by go_num, by omega, HBm0⟩
                  case measure => simp [intOf]; omega
        · obtain rfl : len = j := by omega
          obtain ⟨mf1, mf2⟩ := main_facts F0.out (by omega) HC.out
          have hdep := (HGG.out.2.2 t0.m (by unfold Pg.bodies; simp)).2
          have HFM := Lib.hid (rfree_l (HM.out.to HBj.out) (by omega) (by omega) mf1)
          obtain ⟨_, c1, c2, c3, c4, c5, c6, c7, c8, c9, c10, c11, c12⟩ := (HT.out.to HBj.out).cells
          clear mf1 mf2 hdep
          go_wp2_with fail
          clear c0 c1 c2 c3 c4 c5 c6 c7 c8 c9 c10 c11 c12
          refine HFM.out.mono ?_
          rintro e w4 ⟨fa, fn, fc, rfl, hsl, hb4⟩
          obtain ⟨_, _, _, ee, hfl, _⟩ := StrSl.open hsl
          simp only [Value.slice.injEq] at ee
          obtain ⟨rfl, rfl, rfl⟩ := ee
          obtain rfl : fn = 0 := hfl.out
          have HB4 : Hid (Below W0.heap.size W0 w4) := Lib.hid (HBj.out.trans (hb4.mono HBj.out.size))
          clear hsl hb4 hfl HFM
          go_wp2_with fail
          go_ret
          exact ⟨rfl, below_seq HB0.out HB4.out⟩
    · have h1 : (ce != 0) = true := by simpa using h0
      have H0 := Lib.hid h0
      obtain ⟨c0, c1, c2, c3, c4, c5, c6, c7, c8, c9, c10, c11, c12⟩ := (HT.out.to HZ3.out).cells
      clear h0
      go_wp2_with fail
      clear c0 c1 c2 c3 c4 c5 c6 c7 c8 c9 c10 c11 c12
      refine (rright6_any t0 HF.out _ w3 (HG.out.to HZ3.out) F0.out ce ca HC.out H0.out).mono ?_
      rintro e w4 ⟨rfl, hb4⟩
      go_wp2_with fail
      go_ret
      exact ⟨rfl, below_seq HB0.out (below_seq HZ3.out hb4)⟩

end Go.Proofs.YtmedijheidbmhaaGreatDoor
