/- Processes: the walk of Free. (and what follows from it) -/
import Derived.Test.YtliijbcgkkiekaaDoorPb24
import Derived.Deep.RegionWith

/- Processes: the walk of Free. -/
namespace Go.Proofs.YtliijbcgkkiekaaDoor
open Go.RowKit Go.Deep Go.Shelf

/-! ### What it gives -/
def add1 (cnt : ByteArray → Int) (s : ByteArray) : ByteArray → Int := fun y => if y = s then cnt s + 1 else cnt y
def sub1 (cnt : ByteArray → Int) (s : ByteArray) : ByteArray → Int := fun y => if y = s then cnt s - 1 else cnt y
noncomputable def cntOf (y : ByteArray) : List ByteArray → Int
  | [] => 0
  | s :: r => (if y = s then 1 else 0) + cntOf y r
theorem foldl_add1 (l : List ByteArray) : ∀ (cnt : ByteArray → Int) (y : ByteArray), l.foldl add1 cnt y = cnt y + cntOf y l := by
  induction l with
  | nil => intro cnt y; simp [cntOf]
  | cons s r ih =>
    intro cnt y
    rw [List.foldl_cons, ih, cntOf]
    unfold add1
    by_cases e : y = s
    · subst e; rw [if_pos rfl, if_pos rfl]; omega
    · rw [if_neg e, if_neg e]; omega
theorem foldl_sub1 (l : List ByteArray) : ∀ (cnt : ByteArray → Int) (y : ByteArray), l.foldl sub1 cnt y = cnt y - cntOf y l := by
  induction l with
  | nil => intro cnt y; simp [cntOf]
  | cons s r ih =>
    intro cnt y
    rw [List.foldl_cons, ih, cntOf]
    unfold sub1
    by_cases e : y = s
    · subst e; rw [if_pos rfl, if_pos rfl]; omega
    · rw [if_neg e, if_neg e]; omega
theorem cntOf_bound (y : ByteArray) (l : List ByteArray) : 0 ≤ cntOf y l ∧ cntOf y l ≤ l.length := by
  induction l with
  | nil => simp [cntOf]
  | cons s r ih => rw [cntOf]; split <;> simp <;> omega
theorem sub_add (cnt : ByteArray → Int) (l : List ByteArray) : l.foldl sub1 (l.foldl add1 cnt) = cnt := by
  funext y; rw [foldl_sub1, foldl_add1]; omega
noncomputable def occV (cnt : ByteArray → Int) (out : List ByteArray) (v : Vl) : List ByteArray := if v.k = 1 then occ cnt out v.n else out
/-- The names that a node has itself. -/
noncomputable def Pr.here (p : Pr) (cnt : ByteArray → Int) (out : List ByteArray) : List ByteArray := p.vs.foldl (occV cnt) (if prefixB p.k then occ cnt out p.c else out)
mutual
/-- The names that are free, behind those that are there. -/
noncomputable def Pr.fw : Pr → (ByteArray → Int) → List ByteArray → List ByteArray
  | .mk k c x ls vs t ps, cnt, out => Pr.fws ps ((Pr.mk k c x ls vs t ps).bnd.foldl add1 cnt) ((Pr.mk k c x ls vs t ps).here cnt out)
noncomputable def Pr.fws : List Pr → (ByteArray → Int) → List ByteArray → List ByteArray
  | [], _, out => out
  | p :: r, cnt, out => Pr.fws r cnt (p.fw cnt out)
end
theorem Pr.fw_eq (p : Pr) (cnt : ByteArray → Int) (out : List ByteArray) : p.fw cnt out = Pr.fws p.ps (p.bnd.foldl add1 cnt) (p.here cnt out) := by cases p; simp [Pr.fw, Pr.ps]
theorem Pr.fws_snoc (cnt : ByteArray → Int) (p : Pr) : ∀ (l : List Pr) (out : List ByteArray), Pr.fws (l ++ [p]) cnt out = p.fw cnt (Pr.fws l cnt out)
  | [], out => by simp [Pr.fws]
  | u :: r, out => by rw [List.cons_append, Pr.fws, Pr.fws_snoc cnt p r, Pr.fws]
mutual
/-- How many names there can be. -/
def Pr.nms : Pr → Nat
  | .mk _ _ _ _ vs _ ps => 1 + vs.length + Pr.nmss ps
def Pr.nmss : List Pr → Nat
  | [] => 0
  | p :: r => p.nms + Pr.nmss r
end
theorem Pr.nms_eq (p : Pr) : p.nms = 1 + p.vs.length + Pr.nmss p.ps := by cases p; simp [Pr.nms, Pr.vs, Pr.ps]
theorem Pr.nmss_append (l r : List Pr) : Pr.nmss (l ++ r) = Pr.nmss l + Pr.nmss r := by
  induction l with
  | nil => simp [Pr.nmss]
  | cons t l ih => simp only [List.cons_append, Pr.nmss, ih]; omega
theorem Pr.nmss_take {l : List Pr} {i : Nat} {p : Pr} (h : l[i]? = some p) : Pr.nmss (l.take (i + 1)) = Pr.nmss (l.take i) + p.nms := by
  rw [take_snoc_get h, Pr.nmss_append]; simp [Pr.nmss]
theorem Pr.nmss_take_le (l : List Pr) (i : Nat) : Pr.nmss (l.take i) ≤ Pr.nmss l := by
  have := Pr.nmss_append (l.take i) (l.drop i); rw [List.take_append_drop] at this; omega
theorem occV_len (cnt : ByteArray → Int) (out : List ByteArray) (v : Vl) : (occV cnt out v).length ≤ out.length + 1 := by
  unfold occV; split
  · exact occ_len _ _ _
  · omega
theorem foldV_len (cnt : ByteArray → Int) (l : List Vl) : ∀ out, (l.foldl (occV cnt) out).length ≤ out.length + l.length := by
  induction l with
  | nil => intro out; simp
  | cons v r ih => intro out; rw [List.foldl_cons, List.length_cons]; have := ih (occV cnt out v); have := occV_len cnt out v; omega
mutual
theorem Pr.fw_len : ∀ (p : Pr) (cnt : ByteArray → Int) (out : List ByteArray), (p.fw cnt out).length ≤ out.length + p.nms
  | .mk k c x ls vs t ps, cnt, out => by
    have h1 := Pr.fws_len ps ((Pr.mk k c x ls vs t ps).bnd.foldl add1 cnt) ((Pr.mk k c x ls vs t ps).here cnt out)
    have h2 : ((Pr.mk k c x ls vs t ps).here cnt out).length ≤ out.length + 1 + vs.length := by
      unfold Pr.here
      refine Nat.le_trans (foldV_len _ _ _) ?_
      show (if prefixB k then occ cnt out c else out).length + vs.length ≤ _
      split
      · have := occ_len cnt out c; omega
      · omega
    simp only [Pr.fw, Pr.nms]; omega
theorem Pr.fws_len : ∀ (l : List Pr) (cnt : ByteArray → Int) (out : List ByteArray), (Pr.fws l cnt out).length ≤ out.length + Pr.nmss l
  | [], cnt, out => by simp [Pr.fws, Pr.nmss]
  | p :: r, cnt, out => by
    have h1 := Pr.fws_len r cnt (p.fw cnt out)
    have h2 := Pr.fw_len p cnt out
    simp only [Pr.fws, Pr.nmss]; omega
end
theorem Pr.bnd_len (p : Pr) : p.bnd.length ≤ 2 := by unfold Pr.bnd; split <;> (try split) <;> simp

/-- What is asked of the walk at a node. -/
def WalkP (z : Nat) (S : Nat → Prop) (p : Pr) : Prop := ∀ (cnt : ByteArray → Int) (out : List ByteArray) (na b o : Nat) (W : World), FrSt z W cnt out na → PrAt S W p b o → (∀ y, 0 ≤ cnt y ∧ cnt y + 2 * p.depth ≤ 1000000) → out.length + p.nms ≤ 1000000000 → na + 4 * p.size ≤ 1000000000 →
  Calls Tryd.prog 68 #[.pointer (some ⟨b, o, none⟩), ptr (z + 6), ptr (z + 5), ptr (z + 7)] W fun e W' => (∃ v, e = .returned v) ∧ (∃ na', na' ≤ na + 4 * p.size ∧ FrSt z W' cnt (p.fw cnt out) na') ∧ Below (z + 1) W W'

set_option maxHeartbeats 8000000 in
set_option maxRecDepth 100000 in
theorem walk_step (z : Nat) (S : Nat → Prop) (hS : ∀ k, S k → k < z + 1) (p : Pr) (ih : ∀ u ∈ p.ps, WalkP z S u) : WalkP z S p := by
  intro cnt out na b o W hst hp hcnt hout hna
  obtain ⟨hSb, ⟨hcz, hxz⟩, ⟨c0, c1, c2⟩, hty, lv, av, kv, c3, c4, c11, hl, ha, hk⟩ := PrAt.eq.1 hp
  obtain ⟨ka, kn, kc, rfl, hkl, hkm, hkg⟩ := hk.open
  obtain ⟨aa, an, ac, rfl, hal, ham, hag⟩ := ha.open
  have hbz := hS b hSb
  have HP : Hid (∀ A, Below (z + 1) W A → PrAt S A p b o ∧ (A.cell? ⟨b, o, none⟩ = some (.int .i64 p.k) ∧ A.cell? ⟨b, o + 1, none⟩ = some (.string p.c) ∧ A.cell? ⟨b, o + 4, none⟩ = some (.slice aa an ac) ∧ A.cell? ⟨b, o + 11, none⟩ = some (.slice ka kn kc))) := Lib.hid (fun A hA => ⟨PrAt.keep (hA.keeps'.mono hS) _ _ _ hp, (hA.cell (p := ⟨b, _, none⟩) hbz).trans c0, (hA.cell (p := ⟨b, _, none⟩) hbz).trans c1, (hA.cell (p := ⟨b, _, none⟩) hbz).trans c4, (hA.cell (p := ⟨b, _, none⟩) hbz).trans c11⟩)
  have HAG : Hid (∀ (i : Nat) (a : Vl) (A : World), p.vs[i]? = some a → Below (z + 1) W A → a.n.size ≤ maxLen ∧ ∃ gb go, aa = some ⟨gb, go, none⟩ ∧ gb < z + 1 ∧ A.cell? ⟨gb, go + i * 3, none⟩ = some (.int .i64 a.k) ∧ A.cell? ⟨gb, go + i * 3 + 1, none⟩ = some (.string a.n) ∧ A.cell? ⟨gb, go + i * 3 + 2, none⟩ = some (.int .i64 a.x)) := Lib.hid (fun i a A hi hA => by
    obtain ⟨h1, gb, go, e, hgb, q0, q1, q2⟩ := hag i a hi
    have hg := hS gb hgb
    exact ⟨h1, gb, go, e, hg, (hA.cell (p := ⟨gb, _, none⟩) hg).trans q0, (hA.cell (p := ⟨gb, _, none⟩) hg).trans q1, (hA.cell (p := ⟨gb, _, none⟩) hg).trans q2⟩)
  have HKG : Hid (∀ (i : Nat) (u : Pr) (A : World), p.ps[i]? = some u → Below (z + 1) W A → ∃ gb go, ka = some ⟨gb, go, none⟩ ∧ gb < z + 1 ∧ PrAt S A u gb (go + i * 12)) := Lib.hid (fun i u A hi hA => by
    obtain ⟨gb, go, e, hgb, hu⟩ := hkg i u hi
    exact ⟨gb, go, e, hS gb hgb, PrAt.keep (hA.keeps'.mono hS) _ _ _ hu⟩)
  have HIH := Lib.hid ih
  have HST := Lib.hid hst
  have HCN := Lib.hid hcnt
  have hnms := p.nms_eq
  have hsize := p.size_eq
  have hdep := p.depth_eq
  obtain ⟨_, _, x6, x7⟩ := hst.cells
  have hzs := hst.size
  have eg1 := enters_occurs
  have eg2 := enters_walk
  have HN := Lib.hid (And.intro hnms (And.intro hsize (And.intro hdep (And.intro hout hna))))
  have HXZ := Lib.hid hcz
  obtain ⟨pb, hpb⟩ : ∃ pb, prefixB p.k = pb := ⟨_, rfl⟩
  have HPX := Lib.hid (prefix_any p.k W)
  rw [hpb] at HPX
  have HPB := Lib.hid hpb
  -- the node's own name
  have HOC : Hid (Calls Tryd.prog 67 #[.string p.c, ptr (z + 5), ptr (z + 3), ptr (z + 1)] W.drew fun e W' => (∃ v, e = .returned v) ∧ FrSt z W' cnt (occ cnt out p.c) na ∧ Below (z + 1) W.drew W') := Lib.hid (occurs_any z cnt out na p.c hcz (by omega) W.drew (hst.to (Below.refl _ _).drew))
  clear ih hst hcnt hp hty hl ha hk hag hkg hnms hsize hdep hout hna hpb c0 c1 c2 c3 c4 c11 hcz hxz
  obtain ⟨c0, c1, c4, c11⟩ := (HP.out W (Below.refl _ _)).2
  have hbW : b < W.heap.size := by omega
  go_enter Tryd.func68, Tryd.ntmps68
  cases pb
  · have HS0 : Hid (FrSt z W cnt out na) := HST
    have HB0 : Hid (Below (z + 1) W W) := Lib.hid (Below.refl _ _)
    have HO0 : Hid (p.here cnt out = p.vs.foldl (occV cnt) out) := Lib.hid (by unfold Pr.here; rw [HPB.out]; rfl)
    have hol : out.length ≤ out.length + 1 := by omega
    go_wp2_with (go_at_call 66; refine HPX.out.mono ?_; rintro e w1 ⟨rfl, rfl⟩)
    clear c0 c1 c4 c11 hbW x6 x7
    go_loopw [28] (fun i wr => ∃ j : Nat, i = .int .i64 (j : Int) ∧ j ≤ an ∧ Hid (FrSt z wr cnt ((p.vs.take j).foldl (occV cnt) out) na) ∧ Hid (Below (z + 1) W wr)) (fun i _ => an - (intOf i).toNat)
    case atStart => exact ⟨0, rfl, by omega, Lib.hid (by simpa using HS0.out), HB0⟩
    case round =>
      obtain ⟨j, rfl, hj, HSj, HBj⟩ := hrel
      obtain ⟨wo, hwo⟩ : ∃ wo, wo = wr := ⟨_, rfl⟩
      subst hwo
      have hzs := HSj.out.size
      by_cases hlt : j < an
      · obtain ⟨a, haj⟩ : ∃ a, p.vs[j]? = some a := ⟨_, List.getElem?_eq_getElem (by rw [← hal.out]; exact hlt)⟩
        obtain ⟨has, gb, go, rfl, hgz, q0, q1, q2⟩ := HAG.out j a wo haj HBj.out
        have hgs : gb < wo.heap.size := by omega
        have hz6 : z + 6 < wo.heap.size := by omega
        obtain ⟨_, _, x6, _⟩ := HSj.out.cells
        have HFO : Hid ((p.vs.take (j + 1)).foldl (occV cnt) out = occV cnt ((p.vs.take j).foldl (occV cnt) out) a) := Lib.hid (by rw [take_snoc_get haj, List.foldl_append]; rfl)
        have hfl := foldV_len cnt (p.vs.take j) out
        have hlv : (p.vs.take j).length = j := by rw [List.length_take]; have := hal.out; omega
        have hbx := (Below.refl (z + 1) wo).alloc (by omega) (.cells #[.int .i64 a.k, .string a.n, .int .i64 a.x] 74)
        have HST1 := Lib.hid (HSj.out.to (blkBelow wo #[.int .i64 a.k, .string a.n, .int .i64 a.x] 74))
        have HBX := Lib.hid hbx
        obtain ⟨ak, hak⟩ : ∃ ak, a.k = ak := ⟨_, rfl⟩
        rw [hak] at q0 HST1 HBX
        have HAK := Lib.hid hak
        have hnn := HN.out
        have hao := hal.out
        have HLEN : ((p.vs.take j).foldl (occV cnt) out).length + 1 ≤ 1000000000 := by omega
        have HOC := Lib.hid (occurs_any z cnt _ na a.n has HLEN _ HST1.out)
        clear hfl hlv haj hbx hak hnn hao HLEN has
        by_cases h1 : ak = 1
        · subst h1
          go_wp2_with (go_at_call 67; refine HOC.out.mono ?_; rintro e w3 ⟨⟨vv, rfl⟩, hs3, hb3⟩; replace hs3 := Lib.hid hs3; replace hb3 := Lib.hid hb3)
          go_roundw
          case rel => exact ⟨j + 1, by go_num, by omega, Lib.hid (by rw [HFO.out]; unfold occV; rw [if_pos HAK.out]; exact hs3.out), Lib.hid ((HBj.out.trans HBX.out).trans hb3.out)⟩
          case measure => simp [intOf]; omega
        · have h1' : (ak == 1) = false := by simpa using h1
          have H1 := Lib.hid h1
          clear h1
          go_wp2_with fail
          go_roundw
          case rel => exact ⟨j + 1, by go_num, by omega, Lib.hid (by rw [HFO.out]; unfold occV; rw [if_neg (by rw [HAK.out]; exact H1.out)]; exact HST1.out), Lib.hid (HBj.out.trans HBX.out)⟩
          case measure => simp [intOf]; omega
      · obtain rfl : j = an := by omega
        have HSH : Hid (FrSt z wo cnt (p.here cnt out) na) := Lib.hid (by
          rw [HO0.out]
          have h := HSj.out
          rwa [List.take_of_length_le (by rw [hal.out]; exact Nat.le_refl _)] at h)
        have hloww : Low S wo := fun k hk => by have := hS k hk; omega
        have HBI := Lib.hid (binders_any S p b o wo hloww (HP.out wo HBj.out).1)
        have hbl := p.bnd_len
        clear hloww
        go_wp2_with (go_at_call 69; refine HBI.out.mono ?_; rintro e w4 ⟨la, ln, lc, rfl, hsl, hb4⟩; replace hsl := Lib.hid hsl; replace hb4 := Lib.hid hb4)
        have hln : ln ≤ 2 := by
          obtain ⟨_, _, _, e, h, _⟩ := hsl.out.open
          simp only [Value.slice.injEq] at e
          have := h.out; omega
        have HS4 : Hid (FrSt z w4 cnt (p.here cnt out) na) := Lib.hid (HSH.out.to hb4.out)
        have HB4 : Hid (Below (z + 1) W w4) := Lib.hid (HBj.out.trans (hb4.out.mono (by omega)))
        have HSL4 : Hid (StrSl (fun k => z + 8 ≤ k) w4 (.slice la ln lc) p.bnd) := Lib.hid (hsl.out.mono (fun k hk => by have := hk.1; omega))
        clear hsl hb4 HBI
        go_loopw [43] (fun i wr => ∃ j : Nat, i = .int .i64 (j : Int) ∧ j ≤ ln ∧ Hid (FrSt z wr ((p.bnd.take j).foldl add1 cnt) (p.here cnt out) (na + j)) ∧ Hid (Below (z + 1) W wr) ∧ Hid (StrSl (fun k => z + 8 ≤ k) wr (.slice la ln lc) p.bnd)) (fun i _ => ln - (intOf i).toNat)
        case atStart => exact ⟨0, rfl, by omega, Lib.hid (by simpa using HS4.out), HB4, HSL4⟩
        case round =>
          obtain ⟨j2, rfl, hj2, HS5, HB5, HSL5⟩ := hrel
          obtain ⟨w5, hw5⟩ : ∃ w5, w5 = wr := ⟨_, rfl⟩
          subst hw5
          have hz5 := HS5.out.size
          obtain ⟨_, _, _, e, hln5, _, hg5⟩ := HSL5.out.open
          simp only [Value.slice.injEq] at e
          obtain ⟨rfl, rfl, rfl⟩ := e
          by_cases hlt2 : j2 < ln
          · obtain ⟨s, hsj⟩ : ∃ s, p.bnd[j2]? = some s := ⟨_, List.getElem?_eq_getElem (by rw [← hln5.out]; exact hlt2)⟩
            obtain ⟨hss, gb, go, rfl, _, y0⟩ := hg5 j2 s hsj
            obtain ⟨_, x5, _, _⟩ := HS5.out.cells
            have hlk := HS5.out.cnts.look hss
            have hcb := HCN.out s
            have hco := cntOf_bound s (p.bnd.take j2)
            have hct : (p.bnd.take j2).length ≤ 2 := by rw [List.length_take]; omega
            have hcv := foldl_add1 (p.bnd.take j2) cnt s
            have hdp := p.depth_pos
            obtain ⟨q, hq⟩ : ∃ q, (p.bnd.take j2).foldl add1 cnt s = q := ⟨_, rfl⟩
            have hnn := HN.out
            obtain ⟨w6, hu, hs6, hg6⟩ := HS5.out.count (by unfold maxLen; omega) hss (q + 1)
            rw [hq] at hlk hcv
            have hq1 : 0 ≤ q := by omega
            have hq2 : q ≤ 1000002 := by omega
            have HFO : Hid ((p.bnd.take (j2 + 1)).foldl add1 cnt = fun y => if y = s then q + 1 else (p.bnd.take j2).foldl add1 cnt y) := Lib.hid (by rw [take_snoc_get hsj, List.foldl_append, ← hq]; rfl)
            have HS6 := Lib.hid hs6
            have HG6 := Lib.hid hg6
            clear hcb hco hct hcv hdp hq hnn hs6 hg6 hg5 hsj hss
            go_wp2_with fail
            go_roundw
            case rel => exact ⟨j2 + 1, by go_num, by omega, Lib.hid (by rw [HFO.out]; exact HS6.out), Lib.hid (HB5.out.grown HG6.out (by omega) (fun k e => by cases e; omega)), Lib.hid (HSL5.out.keep (fun k o' hk ho _ => box_kept HG6.out ho (fun e => by cases e; omega)))⟩
            case measure => simp [intOf]; omega
          · obtain rfl : j2 = ln := by omega
            have HS7 : Hid (FrSt z w5 (p.bnd.foldl add1 cnt) (p.here cnt out) (na + j2)) := Lib.hid (by
              have h := HS5.out
              rwa [List.take_of_length_le (by rw [hln5.out]; exact Nat.le_refl _)] at h)
            obtain ⟨d0, d1, d4, d11⟩ := (HP.out w5 HB5.out).2
            have hbw5 : b < w5.heap.size := by omega
            clear hg5 d0 d1 d4
            go_wp2_with fail
            clear d11
            have hdp := p.depth_pos
            have HCB : Hid (∀ y, 0 ≤ p.bnd.foldl add1 cnt y ∧ p.bnd.foldl add1 cnt y ≤ cnt y + 2) := Lib.hid (fun y => by
              have h1 := foldl_add1 p.bnd cnt y
              have h2 := cntOf_bound y p.bnd
              have h3 := HCN.out y
              omega)
            obtain ⟨cb, hcb⟩ : ∃ cb, p.bnd.foldl add1 cnt = cb := ⟨_, rfl⟩
            rw [hcb] at HS7 HCB
            have HCBE := Lib.hid hcb
            have hhl : (p.here cnt out).length ≤ out.length + 1 + p.vs.length := by
              unfold Pr.here
              refine Nat.le_trans (foldV_len _ _ _) ?_
              split
              · have := occ_len cnt out p.c; omega
              · omega
            obtain ⟨hh, hhe⟩ : ∃ hh, p.here cnt out = hh := ⟨_, rfl⟩
            rw [hhe] at HS7 hhl
            have HHE := Lib.hid hhe
            clear hcb hhe
            go_loopw [57] (fun i wr => ∃ j : Nat, i = .int .i64 (j : Int) ∧ j ≤ kn ∧ Hid (∃ n3, n3 ≤ na + 2 + 4 * Pr.sizes (p.ps.take j) ∧ FrSt z wr cb (Pr.fws (p.ps.take j) cb hh) n3) ∧ Hid (Below (z + 1) W wr)) (fun i _ => kn - (intOf i).toNat)
            case atStart => exact ⟨0, rfl, by omega, Lib.hid ⟨na + j2, by simp [Pr.sizes]; omega, by simpa [Pr.fws] using HS7.out⟩, HB5⟩
            case round =>
              obtain ⟨j3, rfl, hj3, HS8, HB8⟩ := hrel
              obtain ⟨w8, hw8⟩ : ∃ w8, w8 = wr := ⟨_, rfl⟩
              subst hw8
              obtain ⟨n3, hn3, hst8⟩ := HS8.out
              have hz8 := hst8.size
              obtain ⟨e0, e1, e4, e11⟩ := (HP.out w8 HB8.out).2
              have hbw8 : b < w8.heap.size := by omega
              by_cases hlt3 : j3 < kn
              · obtain ⟨u, huj⟩ : ∃ u, p.ps[j3]? = some u := ⟨_, List.getElem?_eq_getElem (by rw [← hkl.out]; exact hlt3)⟩
                obtain ⟨gb, go, rfl, hgz, hu⟩ := HKG.out j3 u w8.drew huj HB8.out.drew
                obtain ⟨_, _, _, x7⟩ := hst8.cells
                have hmem := List.mem_of_getElem? huj
                have hud := Pr.depth_mem hmem
                have hus := Pr.sizes_take huj
                have husl := Pr.sizes_take_le p.ps (j3 + 1)
                have hun := Pr.nmss_take huj
                have hunl := Pr.nmss_take_le p.ps (j3 + 1)
                have hfl := Pr.fws_len (p.ps.take j3) cb hh
                have hnn := HN.out
                have HFO : Hid (Pr.fws (p.ps.take (j3 + 1)) cb hh = u.fw cb (Pr.fws (p.ps.take j3) cb hh)) := Lib.hid (by rw [take_snoc_get huj, Pr.fws_snoc])
                have HIU := Lib.hid (HIH.out u hmem cb (Pr.fws (p.ps.take j3) cb hh) n3 gb (go + j3 * 12) w8.drew (hst8.to (Below.refl _ _).drew) hu (fun y => by have := HCB.out y; have := HCN.out y; omega) (by omega) (by omega))
                have HUS : Hid (n3 + 4 * u.size ≤ na + 2 + 4 * Pr.sizes (p.ps.take (j3 + 1))) := Lib.hid (by omega)
                have hgw : gb < w8.heap.size := by omega
                clear huj hu hmem hud hus husl hun hunl hfl hnn hst8
                go_wp2_with fail
                go_region_with (go_at_call 68; refine HIU.out.mono ?_; rintro e w9 ⟨⟨vv, rfl⟩, hs9, hb9⟩; replace hs9 := Lib.hid hs9; replace hb9 := Lib.hid hb9)
                all_goals
                  go_wp2_with fail
                  go_roundw
                  case rel =>
                    obtain ⟨n9, hn9, hst9⟩ := hs9.out
                    exact ⟨j3 + 1, by go_num, by omega, Lib.hid ⟨n9, by have := HUS.out; omega, by rw [HFO.out]; exact hst9⟩, Lib.hid (HB8.out.drew.trans hb9.out)⟩
                  case measure => simp [intOf]; omega
              · obtain rfl : j3 = kn := by omega
                have HFW : Hid (Pr.fws (p.ps.take j3) cb hh = p.fw cnt out) := Lib.hid (by
                  rw [List.take_of_length_le (by rw [hkl.out]; exact Nat.le_refl _), Pr.fw_eq, HCBE.out, HHE.out])
                have hstk : p.ps.take j3 = p.ps := List.take_of_length_le (by rw [hkl.out]; exact Nat.le_refl _)
                rw [hstk] at hn3
                rw [HFW.out] at hst8
                have hloww : Low S w8 := fun k hk => by have := hS k hk; omega
                have HBI := Lib.hid (binders_any S p b o w8 hloww (HP.out w8 HB8.out).1)
                have HST8 := Lib.hid hst8
                clear hloww e0 e1 e4 e11 hst8 hstk
                go_wp2_with (go_at_call 69; refine HBI.out.mono ?_; rintro e w10 ⟨la2, ln2, lc2, rfl, hsl2, hb10⟩; replace hsl2 := Lib.hid hsl2; replace hb10 := Lib.hid hb10)
                have hln2 : ln2 ≤ 2 := by
                  obtain ⟨_, _, _, e, h, _⟩ := hsl2.out.open
                  simp only [Value.slice.injEq] at e
                  have := h.out; omega
                have HS10 : Hid (FrSt z w10 cb (p.fw cnt out) n3) := Lib.hid (HST8.out.to hb10.out)
                have HB10 : Hid (Below (z + 1) W w10) := Lib.hid (HB8.out.trans (hb10.out.mono (by omega)))
                have HSL10 : Hid (StrSl (fun k => z + 8 ≤ k) w10 (.slice la2 ln2 lc2) p.bnd) := Lib.hid (hsl2.out.mono (fun k hk => by have := hk.1; omega))
                clear hsl2 hb10 HBI
                go_loopw [72] (fun i wr => ∃ j : Nat, i = .int .i64 (j : Int) ∧ j ≤ ln2 ∧ Hid (FrSt z wr ((p.bnd.take j).foldl sub1 cb) (p.fw cnt out) (n3 + j)) ∧ Hid (Below (z + 1) W wr) ∧ Hid (StrSl (fun k => z + 8 ≤ k) wr (.slice la2 ln2 lc2) p.bnd)) (fun i _ => ln2 - (intOf i).toNat)
                case atStart => exact ⟨0, rfl, by omega, Lib.hid (by simpa using HS10.out), HB10, HSL10⟩
                case round =>
                  obtain ⟨j4, rfl, hj4, HS11, HB11, HSL11⟩ := hrel
                  obtain ⟨w11, hw11⟩ : ∃ w11, w11 = wr := ⟨_, rfl⟩
                  subst hw11
                  have hz11 := HS11.out.size
                  obtain ⟨_, _, _, e, hln11, _, hg11⟩ := HSL11.out.open
                  simp only [Value.slice.injEq] at e
                  obtain ⟨rfl, rfl, rfl⟩ := e
                  by_cases hlt4 : j4 < ln2
                  · obtain ⟨s, hsj⟩ : ∃ s, p.bnd[j4]? = some s := ⟨_, List.getElem?_eq_getElem (by rw [← hln11.out]; exact hlt4)⟩
                    obtain ⟨hss, gb, go, rfl, _, y0⟩ := hg11 j4 s hsj
                    obtain ⟨_, x5, _, _⟩ := HS11.out.cells
                    have hlk := HS11.out.cnts.look hss
                    have hcb2 := HCB.out s
                    have hcn2 := HCN.out s
                    have hco := cntOf_bound s (p.bnd.take j4)
                    have hct : (p.bnd.take j4).length ≤ 2 := by rw [List.length_take]; omega
                    have hcv := foldl_sub1 (p.bnd.take j4) cb s
                    obtain ⟨q, hq⟩ : ∃ q, (p.bnd.take j4).foldl sub1 cb s = q := ⟨_, rfl⟩
                    have hnn := HN.out
                    obtain ⟨w12, hu, hs12, hg12⟩ := HS11.out.count (by unfold maxLen; omega) hss (q - 1)
                    rw [hq] at hlk hcv
                    have hq1 : -2 ≤ q := by omega
                    have hq2 : q ≤ 1000002 := by omega
                    have HFO : Hid ((p.bnd.take (j4 + 1)).foldl sub1 cb = fun y => if y = s then q - 1 else (p.bnd.take j4).foldl sub1 cb y) := Lib.hid (by rw [take_snoc_get hsj, List.foldl_append, ← hq]; rfl)
                    have HS12 := Lib.hid hs12
                    have HG12 := Lib.hid hg12
                    clear hcb2 hcn2 hco hct hcv hq hnn hs12 hg12 hg11 hsj hss
                    go_wp2_with fail
                    go_roundw
                    case rel => exact ⟨j4 + 1, by go_num, by omega, Lib.hid (by rw [HFO.out]; exact HS12.out), Lib.hid (HB11.out.grown HG12.out (by omega) (fun k e => by cases e; omega)), Lib.hid (HSL11.out.keep (fun k o' hk ho _ => box_kept HG12.out ho (fun e => by cases e; omega)))⟩
                    case measure => simp [intOf]; omega
                  · obtain rfl : j4 = ln2 := by omega
                    have HFIN : Hid (FrSt z w11 cnt (p.fw cnt out) (n3 + j4)) := Lib.hid (by
                      have h := HS11.out
                      rw [List.take_of_length_le (by rw [hln11.out]; exact Nat.le_refl _), ← HCBE.out, sub_add] at h
                      exact h)
                    clear hg11
                    go_wp2_with fail
                    go_end0
                    have hnn := HN.out
                    exact ⟨⟨_, rfl⟩, ⟨n3 + j4, by omega, HFIN.out⟩, HB11.out⟩
  · go_wp2_with (go_at_call 66; refine HPX.out.mono ?_; rintro e w1 ⟨rfl, rfl⟩)
    go_region_with (go_at_call 67; refine HOC.out.mono ?_; rintro e w2 ⟨⟨vv, rfl⟩, hs2, hb2⟩)
    all_goals
      have HS0' := Lib.hid hs2
      have HB0 : Hid (Below (z + 1) W w2) := Lib.hid (((Below.refl (z + 1) W).drew).trans hb2)
      have HO0' : Hid (p.here cnt out = p.vs.foldl (occV cnt) (occ cnt out p.c)) := Lib.hid (by unfold Pr.here; rw [HPB.out]; rfl)
      have hol := occ_len cnt out p.c
      obtain ⟨out0, hout0⟩ : ∃ o, occ cnt out p.c = o := ⟨_, rfl⟩
      rw [hout0] at HS0' HO0' hol
      have HS0 := HS0'
      have HO0 := HO0'
      clear HS0' HO0' hout0 hs2 hb2 c0 c1 c4 c11 hbW x6 x7 HOC
      obtain ⟨d0, d1, d4, d11⟩ := (HP.out w2 HB0.out).2
      have hw2s := HS0.out.size
      have hbw2 : b < w2.heap.size := by omega
      go_wp2_with fail
      clear d0 d1 d4 d11
      go_loopw [28] (fun i wr => ∃ j : Nat, i = .int .i64 (j : Int) ∧ j ≤ an ∧ Hid (FrSt z wr cnt ((p.vs.take j).foldl (occV cnt) out0) na) ∧ Hid (Below (z + 1) W wr)) (fun i _ => an - (intOf i).toNat)
      case atStart => exact ⟨0, rfl, by omega, Lib.hid (by simpa using HS0.out), HB0⟩
      case round =>
        obtain ⟨j, rfl, hj, HSj, HBj⟩ := hrel
        obtain ⟨wo, hwo⟩ : ∃ wo, wo = wr := ⟨_, rfl⟩
        subst hwo
        have hzs := HSj.out.size
        by_cases hlt : j < an
        · obtain ⟨a, haj⟩ : ∃ a, p.vs[j]? = some a := ⟨_, List.getElem?_eq_getElem (by rw [← hal.out]; exact hlt)⟩
          obtain ⟨has, gb, go, rfl, hgz, q0, q1, q2⟩ := HAG.out j a wo haj HBj.out
          have hgs : gb < wo.heap.size := by omega
          have hz6 : z + 6 < wo.heap.size := by omega
          obtain ⟨_, _, x6, _⟩ := HSj.out.cells
          have HFO : Hid ((p.vs.take (j + 1)).foldl (occV cnt) out0 = occV cnt ((p.vs.take j).foldl (occV cnt) out0) a) := Lib.hid (by rw [take_snoc_get haj, List.foldl_append]; rfl)
          have hfl := foldV_len cnt (p.vs.take j) out0
          have hlv : (p.vs.take j).length = j := by rw [List.length_take]; have := hal.out; omega
          have hbx := (Below.refl (z + 1) wo).alloc (by omega) (.cells #[.int .i64 a.k, .string a.n, .int .i64 a.x] 74)
          have HST1 := Lib.hid (HSj.out.to (blkBelow wo #[.int .i64 a.k, .string a.n, .int .i64 a.x] 74))
          have HBX := Lib.hid hbx
          obtain ⟨ak, hak⟩ : ∃ ak, a.k = ak := ⟨_, rfl⟩
          rw [hak] at q0 HST1 HBX
          have HAK := Lib.hid hak
          have hnn := HN.out
          have hao := hal.out
          have HLEN : ((p.vs.take j).foldl (occV cnt) out0).length + 1 ≤ 1000000000 := by omega
          have HOC := Lib.hid (occurs_any z cnt _ na a.n has HLEN _ HST1.out)
          clear hfl hlv haj hbx hak hnn hao HLEN has
          by_cases h1 : ak = 1
          · subst h1
            go_wp2_with (go_at_call 67; refine HOC.out.mono ?_; rintro e w3 ⟨⟨vv, rfl⟩, hs3, hb3⟩; replace hs3 := Lib.hid hs3; replace hb3 := Lib.hid hb3)
            go_roundw
            case rel => exact ⟨j + 1, by go_num, by omega, Lib.hid (by rw [HFO.out]; unfold occV; rw [if_pos HAK.out]; exact hs3.out), Lib.hid ((HBj.out.trans HBX.out).trans hb3.out)⟩
            case measure => simp [intOf]; omega
          · have h1' : (ak == 1) = false := by simpa using h1
            have H1 := Lib.hid h1
            clear h1
            go_wp2_with fail
            go_roundw
            case rel => exact ⟨j + 1, by go_num, by omega, Lib.hid (by rw [HFO.out]; unfold occV; rw [if_neg (by rw [HAK.out]; exact H1.out)]; exact HST1.out), Lib.hid (HBj.out.trans HBX.out)⟩
            case measure => simp [intOf]; omega
        · obtain rfl : j = an := by omega
          have HSH : Hid (FrSt z wo cnt (p.here cnt out) na) := Lib.hid (by
            rw [HO0.out]
            have h := HSj.out
            rwa [List.take_of_length_le (by rw [hal.out]; exact Nat.le_refl _)] at h)
          have hloww : Low S wo := fun k hk => by have := hS k hk; omega
          have HBI := Lib.hid (binders_any S p b o wo hloww (HP.out wo HBj.out).1)
          have hbl := p.bnd_len
          clear hloww
          go_wp2_with (go_at_call 69; refine HBI.out.mono ?_; rintro e w4 ⟨la, ln, lc, rfl, hsl, hb4⟩; replace hsl := Lib.hid hsl; replace hb4 := Lib.hid hb4)
          have hln : ln ≤ 2 := by
            obtain ⟨_, _, _, e, h, _⟩ := hsl.out.open
            simp only [Value.slice.injEq] at e
            have := h.out; omega
          have HS4 : Hid (FrSt z w4 cnt (p.here cnt out) na) := Lib.hid (HSH.out.to hb4.out)
          have HB4 : Hid (Below (z + 1) W w4) := Lib.hid (HBj.out.trans (hb4.out.mono (by omega)))
          have HSL4 : Hid (StrSl (fun k => z + 8 ≤ k) w4 (.slice la ln lc) p.bnd) := Lib.hid (hsl.out.mono (fun k hk => by have := hk.1; omega))
          clear hsl hb4 HBI
          go_loopw [43] (fun i wr => ∃ j : Nat, i = .int .i64 (j : Int) ∧ j ≤ ln ∧ Hid (FrSt z wr ((p.bnd.take j).foldl add1 cnt) (p.here cnt out) (na + j)) ∧ Hid (Below (z + 1) W wr) ∧ Hid (StrSl (fun k => z + 8 ≤ k) wr (.slice la ln lc) p.bnd)) (fun i _ => ln - (intOf i).toNat)
          case atStart => exact ⟨0, rfl, by omega, Lib.hid (by simpa using HS4.out), HB4, HSL4⟩
          case round =>
            obtain ⟨j2, rfl, hj2, HS5, HB5, HSL5⟩ := hrel
            obtain ⟨w5, hw5⟩ : ∃ w5, w5 = wr := ⟨_, rfl⟩
            subst hw5
            have hz5 := HS5.out.size
            obtain ⟨_, _, _, e, hln5, _, hg5⟩ := HSL5.out.open
            simp only [Value.slice.injEq] at e
            obtain ⟨rfl, rfl, rfl⟩ := e
            by_cases hlt2 : j2 < ln
            · obtain ⟨s, hsj⟩ : ∃ s, p.bnd[j2]? = some s := ⟨_, List.getElem?_eq_getElem (by rw [← hln5.out]; exact hlt2)⟩
              obtain ⟨hss, gb, go, rfl, _, y0⟩ := hg5 j2 s hsj
              obtain ⟨_, x5, _, _⟩ := HS5.out.cells
              have hlk := HS5.out.cnts.look hss
              have hcb := HCN.out s
              have hco := cntOf_bound s (p.bnd.take j2)
              have hct : (p.bnd.take j2).length ≤ 2 := by rw [List.length_take]; omega
              have hcv := foldl_add1 (p.bnd.take j2) cnt s
              have hdp := p.depth_pos
              obtain ⟨q, hq⟩ : ∃ q, (p.bnd.take j2).foldl add1 cnt s = q := ⟨_, rfl⟩
              have hnn := HN.out
              obtain ⟨w6, hu, hs6, hg6⟩ := HS5.out.count (by unfold maxLen; omega) hss (q + 1)
              rw [hq] at hlk hcv
              have hq1 : 0 ≤ q := by omega
              have hq2 : q ≤ 1000002 := by omega
              have HFO : Hid ((p.bnd.take (j2 + 1)).foldl add1 cnt = fun y => if y = s then q + 1 else (p.bnd.take j2).foldl add1 cnt y) := Lib.hid (by rw [take_snoc_get hsj, List.foldl_append, ← hq]; rfl)
              have HS6 := Lib.hid hs6
              have HG6 := Lib.hid hg6
              clear hcb hco hct hcv hdp hq hnn hs6 hg6 hg5 hsj hss
              go_wp2_with fail
              go_roundw
              case rel => exact ⟨j2 + 1, by go_num, by omega, Lib.hid (by rw [HFO.out]; exact HS6.out), Lib.hid (HB5.out.grown HG6.out (by omega) (fun k e => by cases e; omega)), Lib.hid (HSL5.out.keep (fun k o' hk ho _ => box_kept HG6.out ho (fun e => by cases e; omega)))⟩
              case measure => simp [intOf]; omega
            · obtain rfl : j2 = ln := by omega
              have HS7 : Hid (FrSt z w5 (p.bnd.foldl add1 cnt) (p.here cnt out) (na + j2)) := Lib.hid (by
                have h := HS5.out
                rwa [List.take_of_length_le (by rw [hln5.out]; exact Nat.le_refl _)] at h)
              obtain ⟨d0, d1, d4, d11⟩ := (HP.out w5 HB5.out).2
              have hbw5 : b < w5.heap.size := by omega
              clear hg5 d0 d1 d4
              go_wp2_with fail
              clear d11
              have hdp := p.depth_pos
              have HCB : Hid (∀ y, 0 ≤ p.bnd.foldl add1 cnt y ∧ p.bnd.foldl add1 cnt y ≤ cnt y + 2) := Lib.hid (fun y => by
                have h1 := foldl_add1 p.bnd cnt y
                have h2 := cntOf_bound y p.bnd
                have h3 := HCN.out y
                omega)
              obtain ⟨cb, hcb⟩ : ∃ cb, p.bnd.foldl add1 cnt = cb := ⟨_, rfl⟩
              rw [hcb] at HS7 HCB
              have HCBE := Lib.hid hcb
              have hhl : (p.here cnt out).length ≤ out.length + 1 + p.vs.length := by
                unfold Pr.here
                refine Nat.le_trans (foldV_len _ _ _) ?_
                split
                · have := occ_len cnt out p.c; omega
                · omega
              obtain ⟨hh, hhe⟩ : ∃ hh, p.here cnt out = hh := ⟨_, rfl⟩
              rw [hhe] at HS7 hhl
              have HHE := Lib.hid hhe
              clear hcb hhe
              go_loopw [57] (fun i wr => ∃ j : Nat, i = .int .i64 (j : Int) ∧ j ≤ kn ∧ Hid (∃ n3, n3 ≤ na + 2 + 4 * Pr.sizes (p.ps.take j) ∧ FrSt z wr cb (Pr.fws (p.ps.take j) cb hh) n3) ∧ Hid (Below (z + 1) W wr)) (fun i _ => kn - (intOf i).toNat)
              case atStart => exact ⟨0, rfl, by omega, Lib.hid ⟨na + j2, by simp [Pr.sizes]; omega, by simpa [Pr.fws] using HS7.out⟩, HB5⟩
              case round =>
                obtain ⟨j3, rfl, hj3, HS8, HB8⟩ := hrel
                obtain ⟨w8, hw8⟩ : ∃ w8, w8 = wr := ⟨_, rfl⟩
                subst hw8
                obtain ⟨n3, hn3, hst8⟩ := HS8.out
                have hz8 := hst8.size
                obtain ⟨e0, e1, e4, e11⟩ := (HP.out w8 HB8.out).2
                have hbw8 : b < w8.heap.size := by omega
                by_cases hlt3 : j3 < kn
                · obtain ⟨u, huj⟩ : ∃ u, p.ps[j3]? = some u := ⟨_, List.getElem?_eq_getElem (by rw [← hkl.out]; exact hlt3)⟩
                  obtain ⟨gb, go, rfl, hgz, hu⟩ := HKG.out j3 u w8.drew huj HB8.out.drew
                  obtain ⟨_, _, _, x7⟩ := hst8.cells
                  have hmem := List.mem_of_getElem? huj
                  have hud := Pr.depth_mem hmem
                  have hus := Pr.sizes_take huj
                  have husl := Pr.sizes_take_le p.ps (j3 + 1)
                  have hun := Pr.nmss_take huj
                  have hunl := Pr.nmss_take_le p.ps (j3 + 1)
                  have hfl := Pr.fws_len (p.ps.take j3) cb hh
                  have hnn := HN.out
                  have HFO : Hid (Pr.fws (p.ps.take (j3 + 1)) cb hh = u.fw cb (Pr.fws (p.ps.take j3) cb hh)) := Lib.hid (by rw [take_snoc_get huj, Pr.fws_snoc])
                  have HIU := Lib.hid (HIH.out u hmem cb (Pr.fws (p.ps.take j3) cb hh) n3 gb (go + j3 * 12) w8.drew (hst8.to (Below.refl _ _).drew) hu (fun y => by have := HCB.out y; have := HCN.out y; omega) (by omega) (by omega))
                  have HUS : Hid (n3 + 4 * u.size ≤ na + 2 + 4 * Pr.sizes (p.ps.take (j3 + 1))) := Lib.hid (by omega)
                  have hgw : gb < w8.heap.size := by omega
                  clear huj hu hmem hud hus husl hun hunl hfl hnn hst8
                  go_wp2_with fail
                  go_region_with (go_at_call 68; refine HIU.out.mono ?_; rintro e w9 ⟨⟨vv, rfl⟩, hs9, hb9⟩; replace hs9 := Lib.hid hs9; replace hb9 := Lib.hid hb9)
                  all_goals
                    go_wp2_with fail
                    go_roundw
                    case rel =>
                      obtain ⟨n9, hn9, hst9⟩ := hs9.out
                      exact ⟨j3 + 1, by go_num, by omega, Lib.hid ⟨n9, by have := HUS.out; omega, by rw [HFO.out]; exact hst9⟩, Lib.hid (HB8.out.drew.trans hb9.out)⟩
                    case measure => simp [intOf]; omega
                · obtain rfl : j3 = kn := by omega
                  have HFW : Hid (Pr.fws (p.ps.take j3) cb hh = p.fw cnt out) := Lib.hid (by
                    rw [List.take_of_length_le (by rw [hkl.out]; exact Nat.le_refl _), Pr.fw_eq, HCBE.out, HHE.out])
                  have hstk : p.ps.take j3 = p.ps := List.take_of_length_le (by rw [hkl.out]; exact Nat.le_refl _)
                  rw [hstk] at hn3
                  rw [HFW.out] at hst8
                  have hloww : Low S w8 := fun k hk => by have := hS k hk; omega
                  have HBI := Lib.hid (binders_any S p b o w8 hloww (HP.out w8 HB8.out).1)
                  have HST8 := Lib.hid hst8
                  clear hloww e0 e1 e4 e11 hst8 hstk
                  go_wp2_with (go_at_call 69; refine HBI.out.mono ?_; rintro e w10 ⟨la2, ln2, lc2, rfl, hsl2, hb10⟩; replace hsl2 := Lib.hid hsl2; replace hb10 := Lib.hid hb10)
                  have hln2 : ln2 ≤ 2 := by
                    obtain ⟨_, _, _, e, h, _⟩ := hsl2.out.open
                    simp only [Value.slice.injEq] at e
                    have := h.out; omega
                  have HS10 : Hid (FrSt z w10 cb (p.fw cnt out) n3) := Lib.hid (HST8.out.to hb10.out)
                  have HB10 : Hid (Below (z + 1) W w10) := Lib.hid (HB8.out.trans (hb10.out.mono (by omega)))
                  have HSL10 : Hid (StrSl (fun k => z + 8 ≤ k) w10 (.slice la2 ln2 lc2) p.bnd) := Lib.hid (hsl2.out.mono (fun k hk => by have := hk.1; omega))
                  clear hsl2 hb10 HBI
                  go_loopw [72] (fun i wr => ∃ j : Nat, i = .int .i64 (j : Int) ∧ j ≤ ln2 ∧ Hid (FrSt z wr ((p.bnd.take j).foldl sub1 cb) (p.fw cnt out) (n3 + j)) ∧ Hid (Below (z + 1) W wr) ∧ Hid (StrSl (fun k => z + 8 ≤ k) wr (.slice la2 ln2 lc2) p.bnd)) (fun i _ => ln2 - (intOf i).toNat)
                  case atStart => exact ⟨0, rfl, by omega, Lib.hid (by simpa using HS10.out), HB10, HSL10⟩
                  case round =>
                    obtain ⟨j4, rfl, hj4, HS11, HB11, HSL11⟩ := hrel
                    obtain ⟨w11, hw11⟩ : ∃ w11, w11 = wr := ⟨_, rfl⟩
                    subst hw11
                    have hz11 := HS11.out.size
                    obtain ⟨_, _, _, e, hln11, _, hg11⟩ := HSL11.out.open
                    simp only [Value.slice.injEq] at e
                    obtain ⟨rfl, rfl, rfl⟩ := e
                    by_cases hlt4 : j4 < ln2
                    · obtain ⟨s, hsj⟩ : ∃ s, p.bnd[j4]? = some s := ⟨_, List.getElem?_eq_getElem (by rw [← hln11.out]; exact hlt4)⟩
                      obtain ⟨hss, gb, go, rfl, _, y0⟩ := hg11 j4 s hsj
                      obtain ⟨_, x5, _, _⟩ := HS11.out.cells
                      have hlk := HS11.out.cnts.look hss
                      have hcb2 := HCB.out s
                      have hcn2 := HCN.out s
                      have hco := cntOf_bound s (p.bnd.take j4)
                      have hct : (p.bnd.take j4).length ≤ 2 := by rw [List.length_take]; omega
                      have hcv := foldl_sub1 (p.bnd.take j4) cb s
                      obtain ⟨q, hq⟩ : ∃ q, (p.bnd.take j4).foldl sub1 cb s = q := ⟨_, rfl⟩
                      have hnn := HN.out
                      obtain ⟨w12, hu, hs12, hg12⟩ := HS11.out.count (by unfold maxLen; omega) hss (q - 1)
                      rw [hq] at hlk hcv
                      have hq1 : -2 ≤ q := by omega
                      have hq2 : q ≤ 1000002 := by omega
                      have HFO : Hid ((p.bnd.take (j4 + 1)).foldl sub1 cb = fun y => if y = s then q - 1 else (p.bnd.take j4).foldl sub1 cb y) := Lib.hid (by rw [take_snoc_get hsj, List.foldl_append, ← hq]; rfl)
                      have HS12 := Lib.hid hs12
                      have HG12 := Lib.hid hg12
                      clear hcb2 hcn2 hco hct hcv hq hnn hs12 hg12 hg11 hsj hss
                      go_wp2_with fail
                      go_roundw
                      case rel => exact ⟨j4 + 1, by go_num, by omega, Lib.hid (by rw [HFO.out]; exact HS12.out), Lib.hid (HB11.out.grown HG12.out (by omega) (fun k e => by cases e; omega)), Lib.hid (HSL11.out.keep (fun k o' hk ho _ => box_kept HG12.out ho (fun e => by cases e; omega)))⟩
                      case measure => simp [intOf]; omega
                    · obtain rfl : j4 = ln2 := by omega
                      have HFIN : Hid (FrSt z w11 cnt (p.fw cnt out) (n3 + j4)) := Lib.hid (by
                        have h := HS11.out
                        rw [List.take_of_length_le (by rw [hln11.out]; exact Nat.le_refl _), ← HCBE.out, sub_add] at h
                        exact h)
                      clear hg11
                      go_wp2_with fail
                      go_end0
                      have hnn := HN.out
                      exact ⟨⟨_, rfl⟩, ⟨n3 + j4, by omega, HFIN.out⟩, HB11.out⟩

end Go.Proofs.YtliijbcgkkiekaaDoor
