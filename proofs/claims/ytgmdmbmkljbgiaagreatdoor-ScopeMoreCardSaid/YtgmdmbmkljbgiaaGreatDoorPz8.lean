/- Programs: Program. (and what follows from it) -/
import Derived.Test.YtgmdmbmkljbgiaaGreatDoorPz6
import Derived.Test.YtgmdmbmkljbgiaaGreatDoorPz7
import Derived.Test.YtgmdmbmkljbgiaaGreatDoorPz4
import Derived.Test.YtgmdmbmkljbgiaaGreatDoorTyQ
import Derived.Test.YtgmdmbmkljbgiaaGreatDoorPz5
import Derived.OwnWalk
import Derived.Deep.RegionWith
import Derived.Deep.RegionHeld3

/- Programs: Program. -/
namespace Go.Proofs.YtgmdmbmkljbgiaaGreatDoor
open Go.RowKit Go.Deep Go.Shelf

/-- The first error of some processes. -/
noncomputable def firstR : List Pr → Int
  | [] => 0
  | p :: r => if prightE p = 0 then firstR r else prightE p
theorem firstR_append (l r : List Pr) (h : firstR l = 0) : firstR (l ++ r) = firstR r := by
  induction l with
  | nil => rfl
  | cons p l ih =>
    unfold firstR at h
    by_cases hp : prightE p = 0
    · rw [if_pos hp] at h
      rw [List.cons_append, firstR, if_pos hp]; exact ih h
    · rw [if_neg hp] at h; exact absurd h hp
noncomputable def pprogE (g : Pg) : Int := if g.many then 2 else if firstR g.bodies = 0 then (if g.ds.all hdB then 0 else 3) else firstR g.bodies
theorem pright_is (E : Nat) (B : Nat → Prop) (p : Pr) (hg : PGood p) (hdep : p.depth ≤ 99999) (r : Int) (hr : prightE p = r) (v : Value) (w : World) (hB : Low B w) (he : Env E w) (hv : PrVal B w v p) :
    Calls Tryz.prog 47 #[v] w fun e w' => e = .returned (.int .i64 r) ∧ Below w.heap.size w w' := by
  rw [← hr]; exact pright_any E B p hg hdep v w hB he hv
theorem pmany_is (S : Nat → Prop) (g : Pg) (hg : GGood g) (bt o : Nat) (m : Bool) (hm : g.many = m) (w : World) (hS : Low S w) (hgp : PgAt S w g bt o) :
    Calls Tryz.prog 45 #[.pointer (some ⟨bt, o, none⟩)] w fun e w' => e = .returned (.bool m) ∧ Below w.heap.size w w' := by
  rw [← hm]; exact pmany_any S g hg bt o w hS hgp
theorem headFits_is (S : Nat → Prop) (d : Df) (b o E : Nat) (m : Bool) (hm : hdB d = m) (w : World) (hS : Low S w) (he : Env E w) (hSb : S b) (hf : ∀ a ∈ d.ms, a.t.fine ∧ a.t.depth ≤ 1000) (hd : DfAt S w d b o) :
    Calls Tryz.prog 48 #[.pointer (some ⟨b, o, none⟩)] w fun e w' => e = .returned (.bool m) ∧ Below w.heap.size w w' := by
  rw [← hm]; exact headFits_any S d b o E w hS he hSb hf hd

set_option maxHeartbeats 4000000 in
set_option maxRecDepth 100000 in
theorem pprogram_any (E : Nat) (B : Nat → Prop) (g : Pg) (hg : GGood g) (v : Value) (w : World) (hB : Low B w) (he : Env E w) (hv : PgVal B w v g) :
    Calls Tryz.prog 24 #[v] w fun e w' => e = .returned (.int .i64 (pprogE g)) ∧ Below w.heap.size w w' := by
  obtain ⟨dv, lv, av, tl, tk, kv, rfl, hd, hp⟩ := hv
  obtain ⟨pa, len, c, rfl, hlen, hmx, hget⟩ := hd.open
  have hb1 : Below w.heap.size w (w.alloc (cell13 g (.slice pa len c) lv av tl tk kv)) := blkBelow w _ _
  have hpg := boxed_pgAt (S := fun k => B k ∨ k = w.heap.size) hB hd hp (Below.refl _ (w.alloc (cell13 g (.slice pa len c) lv av tl tk kv))) (fun _ h => .inl h) (.inr rfl)
  have hS : Low (fun k => B k ∨ k = w.heap.size) (w.alloc (cell13 g (.slice pa len c) lv av tl tk kv)) := fun k h => h.elim (fun h => by have := hB k h; simp; omega) (fun h => by simp; omega)
  have cd : (w.alloc (cell13 g (.slice pa len c) lv av tl tk kv)).cell? ⟨w.heap.size, 0, none⟩ = some (.slice pa len c) := blk_cell (Below.refl _ _) 0 rfl
  have hs1 : (w.alloc (cell13 g (.slice pa len c) lv av tl tk kv)).heap.size = w.heap.size + 1 := by simp
  obtain ⟨m, hm⟩ : ∃ m, g.many = m := ⟨_, rfl⟩
  obtain ⟨w1, hw1⟩ : ∃ w1, w.alloc (cell13 g (.slice pa len c) lv av tl tk kv) = w1 := ⟨_, rfl⟩
  rw [hw1] at hb1 hpg hS cd hs1
  obtain ⟨S, hSS⟩ : ∃ S : Nat → Prop, (fun k => B k ∨ k = w.heap.size) = S := ⟨_, rfl⟩
  have hBS : ∀ k, B k → S k := fun k hk => by rw [← hSS]; exact .inl hk
  rw [hSS] at hpg hS
  have HMA := Lib.hid (pmany_is S g hg w.heap.size 0 m hm w1 hS hpg)
  have HE1 := Lib.hid (he.to hb1)
  have HB1 := Lib.hid hb1
  have HPG : Hid (∀ W, Below w1.heap.size w1 W → PgAt S W g w.heap.size 0 ∧ W.cell? ⟨w.heap.size, 0, none⟩ = some (.slice pa len c) ∧ Low S W) := Lib.hid (fun W hW => ⟨hpg.keep (hW.keeps'.mono hS), (hW.cell (p := ⟨w.heap.size, 0, none⟩) (by simp; omega)).trans cd, hS.le hW.size⟩)
  have HD : Hid (∀ (j : Nat) (d : Df), g.ds[j]? = some d → ∃ kb ko, pa = some ⟨kb, ko, none⟩ ∧ S kb ∧ (∀ W, Below w1.heap.size w1 W → DfAt S W d kb (ko + j * 14)) ∧ ∀ a ∈ d.ms, a.t.fine ∧ a.t.depth ≤ 1000) := Lib.hid (fun j d hj => by
    obtain ⟨kb, ko, e, hkb, hda⟩ := hget j d hj
    have hmem := List.mem_of_getElem? hj
    exact ⟨kb, ko, e, hBS kb hkb, fun W hW => ((hda.keep (hb1.keeps'.mono hB) hkb).mono hBS).keep (hW.keeps'.mono hS) (hBS kb hkb), fun a ha => ⟨(hg.2.1 d hmem a ha).1, by have := (hg.pm hmem ha).2; omega⟩⟩)
  have HG := Lib.hid hg
  obtain ⟨rv, hrv⟩ : ∃ rv, pprogE g = rv := ⟨_, rfl⟩
  have HRV : Hid (rv = if m then 2 else if firstR g.bodies = 0 then (if g.ds.all hdB then 0 else 3) else firstR g.bodies) := Lib.hid (by rw [← hrv, ← hm]; rfl)
  have HW1 := Lib.hid hw1
  have hlen20 : len ≤ 1000 := by have := hlen.out; have := hg.1; omega
  rw [hrv]
  clear hrv hm hg hpg hS cd hd hp hget hB he hSS hBS hw1 hb1
  cases m
  · have HRV2 : Hid (rv = if firstR g.bodies = 0 then (if g.ds.all hdB then 0 else 3) else firstR g.bodies) := Lib.hid (by rw [HRV.out]; rfl)
    clear HRV
    have hw1 := HW1.out
    simp only [cell13] at hw1
    go_enter Tryz.func24, Tryz.ntmps24
    go_wp2_with (go_at_call 45; refine HMA.out.mono ?_; rintro e w2 ⟨rfl, hb2⟩; replace hb2 := Lib.hid hb2)
    have hw12 : w1.heap.size ≤ w2.heap.size := hb2.out.size
    have HBo := Lib.hid (bodies_any S g w.heap.size 0 w2 (HPG.out w2 hb2.out).2.2 (HPG.out w2 hb2.out).1 (by have := HG.out.1; omega))
    clear hw1
    go_wp2_with (go_at_call 46; refine HBo.out.mono ?_; rintro e w3 ⟨r, cp, rfl, hrow, hr1, hr2, hb3⟩; replace hrow := Lib.hid hrow; replace hb3 := Lib.hid hb3)
    obtain ⟨nb, hnb⟩ : ∃ nb, g.bodies.length = nb := ⟨_, rfl⟩
    have hnbb : nb ≤ 1001 := by rw [← hnb]; unfold Pg.bodies; have := HG.out.1; simp; omega
    rw [hnb]
    have HNB := Lib.hid hnb
    have HB13 := Lib.hid (hb2.out.trans (hb3.out.mono hw12))
    have hw13 : w1.heap.size ≤ w3.heap.size := HB13.out.size
    clear hnb HBo
    go_loopw [10] (fun i wr => ∃ (j : Nat), i = .int .i64 (j : Int) ∧ j ≤ nb ∧ Hid (firstR (g.bodies.take j) = 0) ∧ Below w3.heap.size w3 wr) (fun i _ => nb - (intOf i).toNat)
    case atStart => exact ⟨0, rfl, by omega, Lib.hid (by simp [firstR]), Below.refl _ _⟩
    case round =>
      obtain ⟨j, rfl, hj, HT, hw⟩ := hrel
      have hw1r : Below w1.heap.size w1 wr := HB13.out.trans (hw.mono hw13)
      by_cases hlt : j < nb
      · obtain ⟨p, hpj⟩ : ∃ p, g.bodies[j]? = some p := ⟨_, List.getElem?_eq_getElem (by rw [HNB.out]; exact hlt)⟩
        obtain ⟨kb, ko, hcell, hpr⟩ := hrow.out j p hpj
        have cj := (hw.cell (p := ⟨r, j, none⟩) hr2).trans hcell
        have hgd := HG.out.2.2 p (List.mem_of_getElem? hpj)
        have hlow3 : Low S w3 := (HPG.out w3 HB13.out).2.2
        obtain ⟨la, ln, lc, aa, an, ac, ta, tn, tc, ua, un, uc, ka, kn, kc, ⟨d0, d1, d2, d3, d4, d5, d6, d7, d8, d9, d10, d11⟩, hval⟩ := (PrAt.keep (hw.keeps'.mono hlow3) _ _ _ hpr).load'
        obtain ⟨x, hx⟩ : ∃ x, prightE p = x := ⟨_, rfl⟩
        have HR := Lib.hid (pright_is E S p hgd.1 (by have := hgd.2.1; omega) x hx _ wr (hlow3.le hw.size) (HE1.out.to hw1r) hval)
        have HST : Hid (firstR (g.bodies.take (j + 1)) = x) := Lib.hid (by
          rw [take_snoc_get hpj, firstR_append _ _ HT.out, firstR, hx]
          by_cases h0 : x = 0
          · rw [if_pos h0, h0]; rfl
          · rw [if_neg h0])
        have HFB : Hid (x ≠ 0 → firstR g.bodies = x) := Lib.hid (fun h0 => by
          have e : g.bodies = g.bodies.take j ++ p :: g.bodies.drop (j + 1) := by
            have hjl : j < g.bodies.length := (List.getElem?_eq_some_iff.1 hpj).1
            conv => lhs; rw [← List.take_append_drop j g.bodies, List.drop_eq_getElem_cons hjl]
            congr 2
            exact (List.getElem?_eq_some_iff.1 hpj).2
          rw [e, firstR_append _ _ HT.out, firstR, hx, if_neg h0])
        unfold prAgg at HR
        clear hpj hcell hpr hgd hlow3 hval hx
        by_cases h0 : x = 0
        · subst h0
          go_wp2_with (go_at_call 47; refine HR.out.mono ?_; rintro e w4 ⟨rfl, hb4⟩)
          go_roundw
          case rel => exact ⟨j + 1, by go_num, by omega, HST, hw.trans (hb4.mono hw.size)⟩
          case measure => simp [intOf]; omega
        · have h0' : (x != 0) = true := by simpa using h0
          have HFB1 := Lib.hid (HFB.out h0)
          have H0 := Lib.hid h0
          clear h0 HFB
          go_wp2_with (go_at_call 47; refine HR.out.mono ?_; rintro e w4 ⟨rfl, hb4⟩)
          go_ret
          exact ⟨ret_int (by rw [HRV2.out, HFB1.out, if_neg H0.out]), below_seq HB1.out (hw1r.trans (hb4.mono hw1r.size))⟩
      · obtain rfl : j = nb := by omega
        have HFB : Hid (firstR g.bodies = 0) := Lib.hid (by have h := HT.out; rwa [List.take_of_length_le (by rw [HNB.out]; exact Nat.le_refl _)] at h)
        have HRV3 : Hid (rv = if g.ds.all hdB then 0 else 3) := Lib.hid (by rw [HRV2.out, if_pos HFB.out])
        have cdr := (HPG.out wr hw1r).2.1
        have HW1R := Lib.hid hw1r
        have hwrs : w1.heap.size ≤ wr.heap.size := hw1r.size
        clear HRV2 hw hw1r HT
        go_wp2_with fail
        clear cdr
        obtain ⟨wo, hwo⟩ : ∃ wo, wo = wr := ⟨_, rfl⟩
        subst hwo
        go_loopw [25] (fun i wr => ∃ (k : Nat), i = .int .i64 (k : Int) ∧ k ≤ len ∧ Hid ((g.ds.take k).all hdB = true) ∧ Below wo.heap.size wo wr) (fun i _ => len - (intOf i).toNat)
        case atStart => exact ⟨0, rfl, by omega, Lib.hid (by simp), Below.refl _ _⟩
        case round =>
          obtain ⟨k, rfl, hk, HT, hw⟩ := hrel
          have hw1r : Below w1.heap.size w1 wr := HW1R.out.trans (hw.mono hwrs)
          obtain ⟨_, cdr, hlowr⟩ := HPG.out wr hw1r
          by_cases hlt : k < len
          · obtain ⟨d, hdk⟩ : ∃ d, g.ds[k]? = some d := ⟨_, List.getElem?_eq_getElem (by rw [← hlen.out]; exact hlt)⟩
            obtain ⟨kb, ko, rfl, hkS, hda, hdm⟩ := HD.out k d hdk
            obtain ⟨x, hx⟩ : ∃ x, hdB d = x := ⟨_, rfl⟩
            have HH := Lib.hid (headFits_is S d kb (ko + k * 14) E x hx wr hlowr (HE1.out.to hw1r) hkS hdm (hda wr hw1r))
            have HST : Hid ((g.ds.take (k + 1)).all hdB = x) := Lib.hid (by rw [take_snoc_get hdk, List.all_append, HT.out]; simp [hx])
            have HFB : Hid (x = false → g.ds.all hdB = false) := Lib.hid (fun h0 => by
              rw [List.all_eq_false]; exact ⟨d, List.mem_of_getElem? hdk, by rw [hx, h0]; simp⟩)
            clear hdk hx hda hdm
            cases x
            · have HFB1 := Lib.hid (HFB.out rfl)
              clear HFB
              go_wp2_with (go_at_call 48; refine HH.out.mono ?_; rintro e w4 ⟨rfl, hb4⟩)
              go_ret
              exact ⟨ret_int (by rw [HRV3.out, HFB1.out]; rfl), below_seq HB1.out (hw1r.trans (hb4.mono hw1r.size))⟩
            · go_wp2_with (go_at_call 48; refine HH.out.mono ?_; rintro e w4 ⟨rfl, hb4⟩)
              go_roundw
              case rel => exact ⟨k + 1, by go_num, by omega, HST, hw.trans (hb4.mono hw.size)⟩
              case measure => simp [intOf]; omega
          · obtain rfl : k = len := by omega
            have HA : Hid (g.ds.all hdB = true) := Lib.hid (by have h := HT.out; rwa [List.take_of_length_le (by rw [hlen.out]; exact Nat.le_refl _)] at h)
            go_wp2_with fail
            go_ret
            exact ⟨ret_int (by rw [HRV3.out, HA.out]; rfl), below_seq HB1.out hw1r⟩
  · have HRV2 : Hid (rv = 2) := Lib.hid (by rw [HRV.out]; rfl)
    clear HRV
    have hw1 := HW1.out
    simp only [cell13] at hw1
    go_enter Tryz.func24, Tryz.ntmps24
    go_wp2_with (go_at_call 45; refine HMA.out.mono ?_; rintro e w2 ⟨rfl, hb2⟩; replace hb2 := Lib.hid hb2)
    go_ret
    exact ⟨by rw [HRV2.out]; rfl, below_seq HB1.out hb2.out⟩

end Go.Proofs.YtgmdmbmkljbgiaaGreatDoor

/- Processes: the state of Free, and occurs. -/
namespace Go.Proofs.YtgmdmbmkljbgiaaGreatDoor
open Go.RowKit Go.Deep Go.Shelf

/-- A map that tells how often a text is bound. -/
def CntIs (w : World) (b n : Nat) (cnt : ByteArray → Int) : Prop := ∃ f : Lit → Option Value, MapIs w 9 b n f ∧ ∀ s : ByteArray, (f (.string s.data.toList)).getD (.int .i64 0) = .int .i64 (cnt s)
theorem intInfo' : (Tryz.prog.info? 3).map (fun i => (i.zero, i.size, i.bytes)) = some (some (.int .i64 0), 1, 8) := by kernel_rfl
theorem zero_int (w : World) : (zeroValue 3).run Tryz.prog w = .ok (.int .i64 0) w := by
  obtain ⟨i0, hi, hz0, hz1, hz2⟩ := info_parts intInfo'
  simp [zeroValue, typeInfo, hi, hz0]
theorem CntIs.look {w : World} {b n : Nat} {cnt : ByteArray → Int} (h : CntIs w b n cnt) {s : ByteArray} (hs : s.size ≤ maxLen) : (Instr.lookup 62 (.map (some b)) (.string s) false).run Tryz.prog w = .ok (.int .i64 (cnt s)) w := by
  obtain ⟨f, hm, hf⟩ := h
  rw [hm.look (Maps.string_keyed Tryz.underlying9) Tryz.underlying62 (zero_int w) (Go.WideMaps.keyOf_string_mk Tryz.underlying9 hs), hf]
theorem CntIs.put {w : World} {b n : Nat} {cnt : ByteArray → Int} (h : CntIs w b n cnt) (hn : n < maxLen) {s : ByteArray} (hs : s.size ≤ maxLen) (x : Int) :
    ∃ w', (Instr.mapUpdate 62 (.map (some b)) (.string s) (.int .i64 x)).run Tryz.prog w = .ok () w' ∧ CntIs w' b (n + 1) (fun y => if y = s then x else cnt y) ∧ w.grownBy w' (some b) := by
  obtain ⟨f, hm, hf⟩ := h
  obtain ⟨w', hr, hm', hg⟩ := hm.put (Maps.string_keyed Tryz.underlying9) Tryz.underlying62 hn (Go.WideMaps.keyOf_string_mk Tryz.underlying9 hs) (by first | trivial | simp [WideAt.IsKeyLit]) (val := .int .i64 x)
  refine ⟨w', hr, ⟨_, hm', fun y => ?_⟩, hg⟩
  by_cases e : y = s
  · subst e; simp
  · have e' : ¬ (Lit.string y.data.toList = Lit.string s.data.toList) := fun h => e (by
      have := Lit.string.inj h
      cases y; cases s; simp at this; congr 1)
    simp only [if_neg e', if_neg e]
    exact hf y
theorem CntIs.kept {w w' : World} {b n : Nat} {cnt : ByteArray → Int} (h : CntIs w b n cnt) {row : Option Nat} (hg : w.grownBy w' row) (hne : some b ≠ row) : CntIs w' b n cnt := by
  obtain ⟨f, hm, hf⟩ := h; exact ⟨f, hm.kept hg hne, hf⟩
theorem CntIs.lt {w : World} {b n : Nat} {cnt : ByteArray → Int} (h : CntIs w b n cnt) : b < w.heap.size := by obtain ⟨f, hm, _⟩ := h; exact hm.lt
theorem Seen.kept {w w' : World} {b j : Nat} {l : List ByteArray} (h : Seen w b j l) {row : Option Nat} (hg : w.grownBy w' row) (hne : some b ≠ row) : Seen w' b j l := by
  obtain ⟨D, ho, hf⟩ := h; exact ⟨D, ho.kept hg hne, hf⟩
theorem row_kept {W W' : World} {base : Nat} {e : TypeId} {size n : Nat} {v : Value} {xs : List Value} (h : W.ownsRow base e size v n xs) {row : Option Nat} (hg : W.grownBy W' row) (hne : ∀ k, row = some k → k < base) : W'.ownsRow base e size v n xs := by
  refine ⟨h.1, ?_⟩
  rcases h.2 with h0 | ⟨g, cap, cur, rfl, hb, hgg, r⟩
  · exact .inl h0
  · exact .inr ⟨g, cap, cur, rfl, hb, (hg.block g (Array.getElem?_eq_some_iff.1 hgg).1 (fun e => by have := hne g e.symm; omega)).trans hgg, r⟩

abbrev ptr (b : Nat) : Value := .pointer (some ⟨b, 0, none⟩)
theorem box_kept {W W' : World} {row : Option Nat} (hg : W.grownBy W' row) {k : Nat} {o : Obj} (h : W.heap[k]? = some o) (hne : some k ≠ row) : W'.heap[k]? = some o := (hg.block k (Array.getElem?_eq_some_iff.1 h).1 hne).trans h
/-- A name occurs. -/
noncomputable def occ (cnt : ByteArray → Int) (out : List ByteArray) (s : ByteArray) : List ByteArray := if cnt s = 0 ∧ memB s out = false then out ++ [s] else out
theorem occ_len (cnt : ByteArray → Int) (out : List ByteArray) (s : ByteArray) : (occ cnt out s).length ≤ out.length + 1 := by
  unfold occ; split <;> simp
end Go.Proofs.YtgmdmbmkljbgiaaGreatDoor

/- Scopes: the walk over a body, bodyError, placeOfBody. -/
namespace Go.Proofs.YtgmdmbmkljbgiaaGreatDoor
open Go.RowKit Go.Deep Go.Shelf

/-- What lies in the blocks of a call of bodyError, from block z on. -/
structure BSt (z ab nn : Nat) (ar : ByteArray → Option Nat) (W : World) : Prop where
  abox : W.heap[z + 1]? = some (.cells #[.map (some ab)] 62 (0, 0))
  wbox : W.heap[z + 2]? = some (.cells #[.func (.func 49) #[] #[ptr (z + 1), ptr (z + 2)]] 87 (0, 0))
  ars : ArIs W ab nn ar
theorem BSt.size {z ab nn : Nat} {ar : ByteArray → Option Nat} {W : World} (h : BSt z ab nn ar W) : z + 3 ≤ W.heap.size := (Array.getElem?_eq_some_iff.1 h.wbox).1
theorem BSt.to {z ab nn : Nat} {ar : ByteArray → Option Nat} {W W' : World} (h : BSt z ab nn ar W) (hb : Below W.heap.size W W') : BSt z ab nn ar W' :=
  ⟨(hb.block _ (Array.getElem?_eq_some_iff.1 h.abox).1).trans h.abox, (hb.block _ (Array.getElem?_eq_some_iff.1 h.wbox).1).trans h.wbox, h.ars.to hb⟩
theorem BSt.cells {z ab nn : Nat} {ar : ByteArray → Option Nat} {W : World} (h : BSt z ab nn ar W) : W.cell? ⟨z + 1, 0, none⟩ = some (.map (some ab)) ∧ W.cell? ⟨z + 2, 0, none⟩ = some (.func (.func 49) #[] #[ptr (z + 1), ptr (z + 2)]) := by
  refine ⟨?_, ?_⟩
  · simp [World.cell?, h.abox]
  · simp [World.cell?, h.wbox]
theorem enters_swalk : ∀ args w, (callFunc 49 args).run Tryz.prog w = .ok (.enter 49 args) w := enters_of Tryz.func49 (by kernel_rfl) rfl

/-- What is asked of the walk at a node. -/
def SWalk (z ab nn : Nat) (ar : ByteArray → Option Nat) (p : Pr) : Prop := ∀ (S : Nat → Prop) (pq aq : Option Nat) (g : Bool) (sc : List ByteArray) (n b o : Nat) (W : World) (r : Int), BSt z ab nn ar W → PrAt S W p b o → Low S W → Plc W pq aq sc n → n + 2 * p.depth ≤ 100000000 → p.scE ar sc g = r →
  Calls Tryz.prog 49 #[.pointer (some ⟨b, o, none⟩), .agg #[.map pq, .map aq, .bool g], ptr (z + 1), ptr (z + 2)] W fun e W' => e = .returned (.int .i64 r) ∧ Below W.heap.size W W'

set_option maxHeartbeats 8000000 in
set_option maxRecDepth 100000 in
theorem swalk_step (z ab nn : Nat) (ar : ByteArray → Option Nat) (p : Pr) (ih : ∀ u ∈ p.ps, SWalk z ab nn ar u) : SWalk z ab nn ar p := by
  intro S pq aq g sc n b o w r hst hp hS hpl hn hr
  have hb0 : Below w.heap.size w (w.alloc (cell3 pq aq g)) := blkBelow w _ _
  obtain ⟨hSb, _, _, _, lv, av, kv, _, _, c11, _, _, hk⟩ := PrAt.eq.1 hp
  obtain ⟨ka, kn, kc, rfl, hkl, hkm, hkg⟩ := hk.open
  have hbl := hS b hSb
  have hzs := hst.size
  have hz1 : z + 1 < w.heap.size := by omega
  have hz2 : z + 2 < w.heap.size := by omega
  obtain ⟨x1, _⟩ := hst.cells
  have HP : Hid (∀ W, Below w.heap.size w W → PrAt S W p b o ∧ Low S W ∧ Plc W pq aq sc n ∧ BSt z ab nn ar W ∧ W.cell? ⟨b, o + 11, none⟩ = some (.slice ka kn kc)) := Lib.hid (fun W hW => ⟨PrAt.keep (hW.keeps'.mono hS) _ _ _ hp, hS.le hW.size, hpl.to hW, hst.to hW, (hW.cell (p := ⟨b, _, none⟩) hbl).trans c11⟩)
  have CZ : Hid (∀ W, Below (w.heap.size + 1) (w.alloc (cell3 pq aq g)) W → W.cell? ⟨w.heap.size, 0, none⟩ = some (.map pq) ∧ W.cell? ⟨w.heap.size, 1, none⟩ = some (.map aq) ∧ W.cell? ⟨w.heap.size, 2, none⟩ = some (.bool g)) := Lib.hid (fun W hW => ⟨blk_cell hW 0 rfl, blk_cell hW 1 rfl, blk_cell hW 2 rfl⟩)
  have HKG : Hid (∀ (i : Nat) (u : Pr), p.ps[i]? = some u → ∃ gb go, ka = some ⟨gb, go, none⟩ ∧ gb < w.heap.size ∧ ∀ W, Below w.heap.size w W → PrAt S W u gb (go + i * 12)) := Lib.hid (fun i u hi => by
    obtain ⟨gb, go, e, hgb, hu⟩ := hkg i u hi
    exact ⟨gb, go, e, hS gb hgb, fun W hW => PrAt.keep (hW.keeps'.mono hS) _ _ _ hu⟩)
  obtain ⟨ne, hne⟩ : ∃ x, p.nodeE ar sc g = x := ⟨_, rfl⟩
  obtain ⟨gb, hgb⟩ : ∃ x, (g || prefixB p.k) = x := ⟨_, rfl⟩
  have HR : Hid (r = if ne = 0 then Pr.scEs ar p.ps (sc ++ p.bnd) gb else ne) := Lib.hid (by rw [← hr, Pr.scE_eq, hne, hgb])
  have HNE : Hid (∀ W, Below w.heap.size w W → Calls Tryz.prog 50 #[.pointer (some ⟨b, o, none⟩), .agg #[.map pq, .map aq, .bool g], .map (some ab)] W fun e w' => e = .returned (.int .i64 ne) ∧ Below W.heap.size W w') := Lib.hid (fun W hW => by
    obtain ⟨q1, q2, q3, q4, _⟩ := HP.out W hW
    exact snodeError_any S p b o pq aq g sc n ab nn ar W q2 q1 q3 q4.ars ne hne)
  have HBL : Hid (∀ W, Below w.heap.size w W → Calls Tryz.prog 51 #[.agg #[.map pq, .map aq, .bool g], .pointer (some ⟨b, o, none⟩)] W fun e w' => ∃ cq, e = .returned (.agg #[.map pq, .map cq, .bool gb]) ∧ Plc w' pq cq (sc ++ p.bnd) (n + 2) ∧ Below W.heap.size W w') := Lib.hid (fun W hW => by
    obtain ⟨q1, q2, q3, _, _⟩ := HP.out W hW
    rw [← hgb]
    exact below_any S p b o pq aq g sc n (by omega) W q2 q1 q3)
  have hdep := p.depth_eq
  have HN := Lib.hid (And.intro hdep hn)
  have HIH := Lib.hid ih
  have HB0 := Lib.hid hb0
  have eg2 := enters_swalk
  clear ih hst hp hS hpl hn hr hb0 hSb c11 hk hkg hne hgb hdep
  go_enter Tryz.func49, Tryz.ntmps49
  by_cases h0 : ne = 0
  · subst h0
    have HR2 : Hid (r = Pr.scEs ar p.ps (sc ++ p.bnd) gb) := Lib.hid (by rw [HR.out, if_pos rfl])
    clear HR
    go_wp2_with fail
    refine (HNE.out _ HB0.out).mono ?_
    rintro e w2 ⟨rfl, hb2⟩
    have HB2 : Hid (Below w.heap.size w w2) := Lib.hid (HB0.out.trans (hb2.mono (by simp)))
    have hb2' : Below (w.heap.size + 1) (w.alloc (cell3 pq aq g)) w2 := hb2.mono (by simp)
    obtain ⟨z0, z1, z2⟩ := CZ.out w2 hb2'
    clear hb2 hb2' x1
    go_wp2_with fail
    refine (HBL.out w2 HB2.out).mono ?_
    rintro e w3 ⟨cq, rfl, hpl3, hb3⟩
    have HB3 : Hid (Below w.heap.size w w3) := Lib.hid (HB2.out.trans (hb3.mono HB2.out.size))
    have HB4 : Hid (Below w.heap.size w (w3.alloc (cell3 pq cq gb))) := Lib.hid (HB3.out.alloc HB3.out.size _)
    have HPL : Hid (∀ W, Below w3.heap.size w3 W → Plc W pq cq (sc ++ p.bnd) (n + 2)) := Lib.hid (fun W hW => hpl3.to hW)
    have hws : w.heap.size ≤ w3.heap.size := HB3.out.size
    obtain ⟨_, _, _, _, d11⟩ := HP.out w3 HB3.out
    have hbl3 : b < w3.heap.size := by omega
    clear hb3 hpl3 z0 z1 z2
    go_wp2_with fail
    clear d11
    go_loopw [26] (fun i wr => ∃ j : Nat, i = .int .i64 (j : Int) ∧ j ≤ kn ∧ Hid (Pr.scEs ar (p.ps.take j) (sc ++ p.bnd) gb = 0) ∧ Hid (Below (w3.heap.size + 1) (w3.alloc (cell3 pq cq gb)) wr)) (fun i _ => kn - (intOf i).toNat)
    case atStart => exact ⟨0, rfl, by omega, Lib.hid rfl, Lib.hid (Below.refl _ _)⟩
    case round =>
      obtain ⟨j, rfl, hj, HT, HBj⟩ := hrel
      obtain ⟨wo, hwo⟩ : ∃ wo, wo = wr := ⟨_, rfl⟩
      subst hwo
      have HL3 : Hid (Below w3.heap.size w3 wo) := Lib.hid (blk_below HBj.out)
      have HLW : Hid (Below w.heap.size w wo) := Lib.hid (HB3.out.trans (HL3.out.mono hws))
      have hso : w3.heap.size + 1 ≤ wo.heap.size := by have := HBj.out.size; simpa using this
      obtain ⟨_, _, _, st4, d11⟩ := HP.out wo HLW.out
      by_cases hlt : j < kn
      · obtain ⟨u, huj⟩ : ∃ u, p.ps[j]? = some u := ⟨_, List.getElem?_eq_getElem (by rw [← hkl.out]; exact hlt)⟩
        obtain ⟨kb, ko, rfl, hkb, hpa⟩ := HKG.out j u huj
        have hum := List.mem_of_getElem? huj
        have hud := Pr.depth_mem hum
        obtain ⟨x, hx⟩ : ∃ x, u.scE ar (sc ++ p.bnd) gb = x := ⟨_, rfl⟩
        obtain ⟨hn1, hn2⟩ := Pr.scEs_next huj HT.out hx
        obtain ⟨_, x2⟩ := st4.cells
        obtain ⟨y0, y1, y2⟩ : wo.cell? ⟨w3.heap.size, 0, none⟩ = some (.map pq) ∧ wo.cell? ⟨w3.heap.size, 1, none⟩ = some (.map cq) ∧ wo.cell? ⟨w3.heap.size, 2, none⟩ = some (.bool gb) := ⟨blk_cell HBj.out 0 rfl, blk_cell HBj.out 1 rfl, blk_cell HBj.out 2 rfl⟩
        have hlw : Below w.heap.size w wo.drew := HLW.out.drew
        obtain ⟨_, q2, _, q4, _⟩ := HP.out wo.drew hlw
        have hnn := HN.out
        have HIU := Lib.hid (HIH.out u hum S pq cq gb (sc ++ p.bnd) (n + 2) kb (ko + j * 12) wo.drew x q4 (hpa _ hlw) q2 (HPL.out _ HL3.out.drew) (by omega) hx)
        have HN1 := Lib.hid hn1
        have HN2 := Lib.hid hn2
        have hbo : b < wo.heap.size := by omega
        have hz3 : z + 2 < wo.heap.size := by omega
        have hz4 : w3.heap.size < wo.heap.size := by omega
        have hkw : kb < wo.heap.size := by omega
        clear huj hpa hum hud hx hn1 hn2 st4 hlw q2 q4 hnn
        by_cases h0 : x = 0
        · subst h0
          go_wp2_with fail
          go_region_with (go_at_call 49; refine HIU.out.mono ?_; rintro e w9 ⟨rfl, hb9⟩; replace hb9 := Lib.hid hb9)
          all_goals
            go_wp2_with fail
            go_roundw
            case rel => exact ⟨j + 1, by go_num, by omega, HN1, Lib.hid (HBj.out.drew.trans (hb9.out.mono (by simpa using hso)))⟩
            case measure => simp [intOf]; omega
        · have h0' : (x != 0) = true := by simpa using h0
          have HF : Hid (r = x) := Lib.hid (by rw [HR2.out]; exact HN2.out h0)
          clear h0
          go_wp2_with fail
          go_region_with (go_at_call 49; refine HIU.out.mono ?_; rintro e w9 ⟨rfl, hb9⟩; replace hb9 := Lib.hid hb9)
          all_goals
            go_wp2_with fail
            go_ret
            exact ⟨by rw [HF.out]; rfl, HLW.out.drew.trans (hb9.out.mono (by have := HLW.out.size; simpa using this))⟩
      · obtain rfl : kn = j := by omega
        have HF : Hid (r = 0) := Lib.hid (by
          have h := HT.out
          rw [List.take_of_length_le (by rw [hkl.out]; exact Nat.le_refl _)] at h
          rw [HR2.out, h])
        clear st4 d11
        go_wp2_with fail
        go_ret
        exact ⟨by rw [HF.out]; rfl, HLW.out⟩
  · have h0' : (ne != 0) = true := by simpa using h0
    have HF : Hid (r = ne) := Lib.hid (by rw [HR.out, if_neg h0])
    clear h0
    go_wp2_with fail
    refine (HNE.out _ HB0.out).mono ?_
    rintro e w2 ⟨rfl, hb2⟩
    go_wp2_with fail
    go_ret
    exact ⟨by rw [HF.out]; rfl, HB0.out.trans (hb2.mono (by simp))⟩

theorem swalk_any (z ab nn : Nat) (ar : ByteArray → Option Nat) : ∀ p : Pr, SWalk z ab nn ar p := by
  refine Pr.ind ?_
  intro k c x ls vs t ps ih
  exact swalk_step z ab nn ar (.mk k c x ls vs t ps) ih

end Go.Proofs.YtgmdmbmkljbgiaaGreatDoor

/- Scopes: bodyError, placeOfBody. -/
namespace Go.Proofs.YtgmdmbmkljbgiaaGreatDoor
open Go.RowKit Go.Deep Go.Shelf

set_option maxHeartbeats 4000000 in
set_option maxRecDepth 100000 in
theorem bodyError_any (S : Nat → Prop) (p : Pr) (b o : Nat) (pq aq : Option Nat) (g : Bool) (sc : List ByteArray) (n ab nn : Nat) (ar : ByteArray → Option Nat) (w : World) (hS : Low S w) (hp : PrAt S w p b o) (hpl : Plc w pq aq sc n) (ha : ArIs w ab nn ar) (hn : n + 2 * p.depth ≤ 100000000) (r : Int) (hr : p.scE ar sc g = r) :
    Calls Tryz.prog 27 #[.pointer (some ⟨b, o, none⟩), .agg #[.map pq, .map aq, .bool g], .map (some ab)] w fun e w' => e = .returned (.int .i64 r) ∧ Below w.heap.size w w' := by
  obtain ⟨W0, hW0⟩ : ∃ W0, ((w.alloc (cell3 pq aq g)).alloc (.cells #[.map (some ab)] 62)).alloc (.cells #[.func (.func 49) #[] #[.pointer (some ⟨w.heap.size + 1, 0, none⟩), .pointer (some ⟨w.heap.size + 1 + 1, 0, none⟩)]] 87) = W0 := ⟨_, rfl⟩
  have hb0 : Below w.heap.size w W0 := by rw [← hW0]; exact (((Below.refl _ _).alloc (by simp) _).alloc (by simp) _).alloc (by simp; omega) _
  have k1 : W0.heap[w.heap.size + 1]? = some (.cells #[.map (some ab)] 62 (0, 0)) := by rw [← hW0]; simp only [World.alloc, Array.getElem?_push, Array.size_push]; simp
  have k2 : W0.heap[w.heap.size + 2]? = some (.cells #[.func (.func 49) #[] #[ptr (w.heap.size + 1), ptr (w.heap.size + 2)]] 87 (0, 0)) := by rw [← hW0]; simp only [World.alloc, Array.getElem?_push, Array.size_push]; simp
  have HSW := Lib.hid (swalk_any w.heap.size ab nn ar p S pq aq g sc n b o W0 r ⟨k1, k2, ha.to hb0⟩ (PrAt.keep (hb0.keeps'.mono hS) _ _ _ hp) (hS.le hb0.size) (hpl.to hb0) hn hr)
  have HW0 := Lib.hid hW0
  have HB0 := Lib.hid hb0
  have eg2 := enters_swalk
  have hsf : ∀ (w : World) (a : Addr) (m : Mode) (f : Fn) (t : Array Value) (b : Array Value), (store a (.func f t b) m).run Tryz.prog w = stored Tryz.prog w a (.func f t b) m := fun w a m f t b => run_store _ w a _ m rfl
  clear hS hp hpl ha hn hr hW0 hb0 k1 k2
  go_enter Tryz.func27, Tryz.ntmps27
  go_wp2_with fail
  refine scalls_at HW0.out ?_
  refine HSW.out.mono ?_
  rintro e w2 ⟨rfl, hb2⟩
  go_wp2_with fail
  go_ret
  exact ⟨rfl, HB0.out.trans (hb2.mono HB0.out.size)⟩

theorem run_makeMap_bS (w : World) : (Instr.makeMap 67 none).run Tryz.prog w = .ok (.map (some w.heap.size)) (w.alloc (.map #[] 0)) := by simp [Instr.makeMap]

set_option maxHeartbeats 2000000 in
theorem placeOfBody_any (q : Option Nat) (ps : List ByteArray) (g : Bool) (w : World) (h : NSet w q ps) :
    Calls Tryz.prog 28 #[.map q, .bool g] w fun e w' => ∃ aq, e = .returned (.agg #[.map q, .map aq, .bool g]) ∧ Plc w' q aq ps 0 ∧ Below w.heap.size w w' := by
  have t0 := three_new w (.map none) (.map none) (.bool false)
  have hmk := run_makeMap_bS
  have HQ := Lib.hid h
  have HT := Lib.hid t0
  clear h t0
  go_enter Tryz.func28, Tryz.ntmps28
  go_wp2_with fail
  obtain ⟨W9, h9⟩ : ∃ W9, (w.alloc (.cells #[.map q, .map (some (w.heap.size + 1)), .bool g] 69)).alloc (.map #[] 0) = W9 := ⟨_, rfl⟩
  have b9 : Below w.heap.size w W9 := by rw [← h9]; exact (blkBelow w _ _).alloc (by simp) _
  have t9 : Three W9 w.heap.size (.map q) (.map (some (w.heap.size + 1))) (.bool g) := by rw [← h9]; exact (three_new w _ _ _).to ((Below.refl _ _).alloc (Nat.le_refl _) _)
  have s9 : SetIs W9 (w.heap.size + 1) 0 [] := by rw [← h9]; have h := SetIs.made (w.alloc (.cells #[.map q, .map (some (w.heap.size + 1)), .bool g] 69)); rwa [World.size_alloc] at h
  rw [h9]
  obtain ⟨⟨q0, q1, q2⟩, _⟩ := t9.cells
  refine bodyPost_ret (v := .agg #[.map q, .map (some (w.heap.size + 1)), .bool g]) (by simp [results, Tryz.results28, go_sem, q0, q1, q2]) rfl ⟨some (w.heap.size + 1), rfl, ⟨⟨ps, [], HQ.out.to b9, .inr ⟨_, rfl, s9⟩, rfl, Nat.le_refl _, fun s => by rw [memB_nil, Bool.or_false]⟩⟩, b9⟩

end Go.Proofs.YtgmdmbmkljbgiaaGreatDoor

/- Scopes: paramNames, firstTwice, aritiesOf. -/
namespace Go.Proofs.YtgmdmbmkljbgiaaGreatDoor
open Go.RowKit Go.Deep Go.Shelf

theorem run_makeMap_hintI (n : Int) (w : World) : (Instr.makeMap 62 (some (.int .i64 n))).run Tryz.prog w = .ok (.map (some w.heap.size)) (w.alloc (.map #[] 0)) := by
  have ht := Tryz.underlying62
  simp [Instr.makeMap, run_underlying ht, asInt, asIntOf]
theorem SetIs.len' {w : World} {b n : Nat} {l : List ByteArray} (h : SetIs w b n l) :
    ∃ q : Nat, (∀ ty, (Builtin.len_ #[67] ty #[.map (some b)]).run Tryz.prog w = .ok (.int .i64 q) w) ∧ q ≤ l.length ∧ (q < l.length ↔ dups l = true) := by
  obtain ⟨D, ho, hf, h1, h2⟩ := h
  exact ⟨_, fun ty => ho.len Tryz.underlying67 ty, h1, h2⟩
theorem names_take {ms : List Pm} {j : Nat} {a : Pm} (h : ms[j]? = some a) : (ms.take (j + 1)).map Pm.n = (ms.take j).map Pm.n ++ [a.n] := by rw [take_snoc_get h, List.map_append]; rfl
theorem dnames_take {ds : List Df} {j : Nat} {d : Df} (h : ds[j]? = some d) : (ds.take (j + 1)).map Df.n = (ds.take j).map Df.n ++ [d.n] := by rw [take_snoc_get h, List.map_append]; rfl

set_option maxHeartbeats 2000000 in
theorem paramNames_any (S : Nat → Prop) (d : Df) (b o : Nat) (w : World) (hS : Low S w) (hSb : S b) (hd : DfAt S w d b o) :
    Calls Tryz.prog 29 #[.pointer (some ⟨b, o, none⟩)] w fun e w' => ∃ mb, e = .returned (.map (some mb)) ∧ w.heap.size ≤ mb ∧ SetIs w' mb d.ms.length (d.ms.map Pm.n) ∧ Below w.heap.size w w' := by
  obtain ⟨_, _, ⟨mv, c1, hm⟩, _⟩ := hd
  have hbl := hS b hSb
  obtain ⟨pa, len, c, rfl, hlen, hmx, hget⟩ := hm.open
  have HC1 : Hid (∀ W, Below w.heap.size w W → W.cell? ⟨b, o + 1, none⟩ = some (.slice pa len c)) := Lib.hid (fun W hW => (hW.cell (p := ⟨b, _, none⟩) hbl).trans c1)
  have HG : Hid (∀ (j : Nat) (a : Pm), d.ms[j]? = some a → a.n.size ≤ maxLen ∧ ∃ kb ko, pa = some ⟨kb, ko, none⟩ ∧ ∀ W, Below w.heap.size w W → W.cell? ⟨kb, ko + j * 7, none⟩ = some (.string a.n)) := Lib.hid (fun j a hj => by
    obtain ⟨kb, ko, e, hkb, ha⟩ := hget j a hj
    exact ⟨ha.1, kb, ko, e, fun W hW => (hW.cell (p := ⟨kb, _, none⟩) (hS kb hkb)).trans ha.2.1⟩)
  have hmk := run_makeMap_hint
  clear hm hget hSb
  go_enter Tryz.func29, Tryz.ntmps29
  go_wp2_with fail
  clear c1
  go_loopw [16] (fun i wr => ∃ (j : Nat), i = .int .i64 (j : Int) ∧ j ≤ len ∧ Hid (SetIs wr w.heap.size j ((d.ms.take j).map Pm.n)) ∧ Below w.heap.size w wr) (fun i _ => len - (intOf i).toNat)
  case atStart => exact ⟨0, rfl, by omega, Lib.hid (SetIs.made w), (Below.refl _ _).alloc (Nat.le_refl _) _⟩
  case round =>
    obtain ⟨j, rfl, hj, HSE, hw⟩ := hrel
    have c1 := HC1.out wr hw
    by_cases hlt : j < len
    · obtain ⟨a, ha⟩ : ∃ a, d.ms[j]? = some a := ⟨_, List.getElem?_eq_getElem (by rw [← hlen.out]; exact hlt)⟩
      obtain ⟨has, kb, ko, rfl, hc⟩ := HG.out j a ha
      replace hc := hc wr hw
      obtain ⟨w1, hup, hse1, hgr⟩ := HSE.out.put (by unfold maxLen; omega) has
      have HS2 : Hid (SetIs w1 w.heap.size (j + 1) ((d.ms.take (j + 1)).map Pm.n)) := Lib.hid (by rw [names_take ha]; exact hse1)
      have HW1 : Hid (Below w.heap.size w w1) := Lib.hid (hw.grown hgr hw.size (fun k e => by cases e; exact Nat.le_refl _))
      clear ha has hse1 hgr
      go_wp2_with fail
      go_roundw
      case rel => exact ⟨j + 1, by go_num, by omega, HS2, HW1.out⟩
      case measure => simp [intOf]; omega
    · obtain rfl : j = len := by omega
      have HF : Hid (SetIs wr w.heap.size d.ms.length (d.ms.map Pm.n)) := Lib.hid (by
        have h := HSE.out
        rw [List.take_of_length_le (by rw [hlen.out]; exact Nat.le_refl _)] at h
        rw [← hlen.out]; exact h)
      go_wp2_with fail
      go_ret
      exact ⟨_, rfl, Nat.le_refl _, HF.out, hw⟩

set_option maxHeartbeats 4000000 in
set_option maxRecDepth 100000 in
theorem firstTwice_any (S : Nat → Prop) (v : Value) (ds : List Df) (w : World) (hS : Low S w) (hv : DfSl S w v ds) (r : Option Nat) (hr : twF ds = r) :
    Calls Tryz.prog 25 #[v] w fun e w' => e = .returned (.tuple #[.int .i64 ((r.getD 0 : Nat) : Int), .bool r.isSome]) ∧ Below w.heap.size w w' := by
  obtain ⟨pa, len, c, rfl, hlen, hmx, hget⟩ := hv.open
  have HS := Lib.hid hS
  have HG : Hid (∀ (j : Nat) (d : Df), ds[j]? = some d → d.n.size ≤ maxLen ∧ ∃ kb ko, pa = some ⟨kb, ko, none⟩ ∧ S kb ∧ kb < w.heap.size ∧ ∀ W, Below w.heap.size w W → DfAt S W d kb (ko + j * 14)) := Lib.hid (fun j d hj => by
    obtain ⟨kb, ko, e, hkb, ha⟩ := hget j d hj
    exact ⟨ha.1, kb, ko, e, hkb, hS kb hkb, fun W hW => DfAt.keep (hW.keeps'.mono hS) hkb ha⟩)
  have hmk := run_makeMap_hint
  have HR := Lib.hid hr
  clear hv hget hr hS
  go_enter Tryz.func25, Tryz.ntmps25
  go_wp2_with fail
  go_loopw [12] (fun i wr => ∃ (j : Nat), i = .int .i64 (j : Int) ∧ j ≤ len ∧ Hid (∀ i, i < j → twiceAt ds i = false) ∧ Hid (SetIs wr w.heap.size j ((ds.take j).map Df.n)) ∧ Below w.heap.size w wr) (fun i _ => len - (intOf i).toNat)
  case atStart => exact ⟨0, rfl, by omega, Lib.hid (fun i hi => by omega), Lib.hid (SetIs.made w), (Below.refl _ _).alloc (Nat.le_refl _) _⟩
  case round =>
    obtain ⟨j, rfl, hj, HT, HSE, hw⟩ := hrel
    by_cases hlt : j < len
    · obtain ⟨d, hd⟩ : ∃ d, ds[j]? = some d := ⟨_, List.getElem?_eq_getElem (by rw [← hlen.out]; exact hlt)⟩
      obtain ⟨hdn, kb, ko, rfl, hkS, hkl, hda⟩ := HG.out j d hd
      have c0 := (hda wr hw).2.1
      obtain ⟨mv, c1, hmv⟩ := (hda wr hw).2.2.1
      obtain ⟨ma, ml, mc, rfl, hml, _⟩ := hmv.open
      have hkw : kb < wr.heap.size := Nat.lt_of_lt_of_le hkl hw.size
      have hwd : Below w.heap.size w wr.drew := hw.drew
      obtain ⟨m, hm⟩ : ∃ m, memB d.n ((ds.take j).map Df.n) = m := ⟨_, rfl⟩
      have hsd : SetIs wr.drew w.heap.size j ((ds.take j).map Df.n) := HSE.out.below (Below.refl (w.heap.size + 1) wr).drew (Nat.lt_succ_self _)
      have hlk := hsd.look hdn
      rw [hm] at hlk
      have HTA : Hid (twiceAt ds j = (m || dups (d.ms.map Pm.n))) := Lib.hid (by unfold twiceAt; rw [hd]; simp only; rw [hm])
      have HJL : Hid (j < ds.length) := Lib.hid (List.getElem?_eq_some_iff.1 hd).1
      cases m
      · have HML := Lib.hid hml.out
        have HD : Hid (ds[j]? = some d) := Lib.hid hd
        have HDN := Lib.hid hdn
        have HKS := Lib.hid hkS
        have HSL : Hid (∀ W, Below wr.heap.size wr W → Low S W) := Lib.hid (fun W hW k hk => Nat.lt_of_lt_of_le (HS.out k hk) (Nat.le_trans hw.size hW.size))
        have HDA : Hid (∀ W, Below wr.heap.size wr W → DfAt S W d kb (ko + j * 14)) := Lib.hid (fun W hW => hda W (hw.trans (hW.mono hw.size)))
        have HSF : Hid (∀ W, Below wr.heap.size wr W → W.cell? ⟨kb, ko + j * 14, none⟩ = some (.string d.n) ∧ W.cell? ⟨kb, ko + j * 14 + 1, none⟩ = some (.slice ma ml mc) ∧ (Instr.lookup 67 (.map (some w.heap.size)) (.string d.n) false).run Tryz.prog W = .ok (.bool false) W) := Lib.hid (fun W hW => ⟨(hW.cell (p := ⟨kb, _, none⟩) hkw).trans c0, (hW.cell (p := ⟨kb, _, none⟩) hkw).trans c1, by have h := (HSE.out.below hW HSE.out.lt).look HDN.out; rwa [hm] at h⟩)
        have HB := Lib.hid (Below.refl wr.heap.size wr).drew
        clear hd hda hmv hml hm hsd hdn hkS hlk
        go_wp2_with fail
        have hlk := (HSF.out _ HB.out).2.2
        have hkw' := hkw
        go_region_with (go_at_call 29; with_reducible refine (paramNames_any S d kb (ko + j * 14) _ (HSL.out _ HB.out) HKS.out (HDA.out _ HB.out)).mono ?_; rintro e y ⟨mb, rfl, hmb, hset, hh⟩; obtain ⟨q, hq, hq1, hq2⟩ := hset.len'; rw [List.length_map, ← HML.out] at hq1 hq2; have HQ := Lib.hid (And.intro hq1 hq2); replace HB := Lib.hid (below_seq HB.out hh); obtain ⟨x0, x1, _⟩ := HSF.out _ HB.out; clear hset hh hq1 hq2 hmb)
        all_goals
          by_cases hql : q < ml
          · have hqd : decide ((q : Int) < (ml : Int)) = true := by simp; omega
            have HDU : Hid (dups (d.ms.map Pm.n) = true) := Lib.hid (HQ.out.2.1 hql)
            have HRR : Hid (r = some j) := Lib.hid (by rw [← HR.out]; exact range_find HJL.out HT.out (by rw [HTA.out, HDU.out]; rfl))
            have hqn : decide (q < ml) = true := by simpa using hql
            go_wp2_with fail
            go_ret2
            exact ⟨by rw [HRR.out]; rfl, hw.trans (HB.out.mono hw.size)⟩
          · have hqd : decide ((q : Int) < (ml : Int)) = false := by simp; omega
            have HDU : Hid (dups (d.ms.map Pm.n) = false) := Lib.hid (by
              cases h : dups (d.ms.map Pm.n) with
              | false => rfl
              | true => exact absurd (HQ.out.2.2 h) hql)
            have hst := HSE.out.below HB.out HSE.out.lt
            obtain ⟨x0, x1, _⟩ := HSF.out _ HB.out
            obtain ⟨w3, hup, hse3, hgr3⟩ := hst.put (by unfold maxLen; omega) HDN.out
            have HS3 : Hid (SetIs w3 w.heap.size (j + 1) ((ds.take (j + 1)).map Df.n)) := Lib.hid (by rw [dnames_take HD.out]; exact hse3)
            have HW3 : Hid (Below w.heap.size w w3) := Lib.hid ((hw.trans (HB.out.mono hw.size)).grown hgr3 (Nat.le_trans hw.size HB.out.size) (fun k e => by cases e; exact Nat.le_refl _))
            have HT' : Hid (∀ i, i < j + 1 → twiceAt ds i = false) := Lib.hid (fun i hi => by
              rcases Nat.lt_succ_iff_lt_or_eq.1 hi with h | rfl
              · exact HT.out i h
              · rw [HTA.out, HDU.out]; rfl)
            have hqn : decide (q < ml) = false := by simpa using hql
            clear hst hse3 hgr3
            go_wp2_with fail
            exact ⟨⟨j + 1, by go_num, by omega, HT', HS3, HW3.out⟩, by simp [intOf]; omega⟩
      · have HRR : Hid (r = some j) := Lib.hid (by rw [← HR.out]; exact range_find HJL.out HT.out (by rw [HTA.out]; rfl))
        have p0 : ∀ q : Later wr.heap.size wr, q.1.cell? ⟨kb, ko + j * 14, none⟩ = some (.string d.n) := fun q => (q.2.cell (p := ⟨kb, _, none⟩) hkw).trans c0
        have p1 : ∀ q : Later wr.heap.size wr, (Instr.lookup 67 (.map (some w.heap.size)) (.string d.n) false).run Tryz.prog q.1 = .ok (.bool true) q.1 := fun q => by have h := (HSE.out.below q.2 HSE.out.lt).look hdn; rwa [hm] at h
        clear hd hda hmv hml hm hsd hdn hlk c0 c1
        go_wp2_with fail
        refine wp_region_later wr.heap.size wr (by kernel_rfl) (by kernel_rfl) (Below.refl _ _) ?_
        repeat (go_big_quiet_step (fail))
        refine wpQuiet_nil ?_
        rintro _ ⟨⟨w5, hb5⟩, rfl⟩
        go_wp2_with fail
        go_ret2
        exact ⟨by rw [HRR.out]; rfl, hw.trans (hb5.mono hw.size)⟩
    · obtain rfl : j = len := by omega
      have HRR : Hid (r = none) := Lib.hid (by rw [← HR.out]; exact range_find_none (fun i hi => HT.out i (by rw [hlen.out]; exact hi)))
      go_wp2_with fail
      go_ret2
      exact ⟨by rw [HRR.out]; rfl, hw⟩

set_option maxHeartbeats 4000000 in
set_option maxRecDepth 100000 in
theorem aritiesOf_any (S : Nat → Prop) (v : Value) (ds : List Df) (w : World) (hS : Low S w) (hv : DfSl S w v ds) :
    Calls Tryz.prog 26 #[v] w fun e w' => ∃ mb, e = .returned (.map (some mb)) ∧ w.heap.size ≤ mb ∧ ArIs w' mb ds.length (arOf ds) ∧ Below w.heap.size w w' := by
  obtain ⟨pa, len, c, rfl, hlen, hmx, hget⟩ := hv.open
  have HG : Hid (∀ (j : Nat) (d : Df), ds[j]? = some d → d.n.size ≤ maxLen ∧ ∃ kb ko, pa = some ⟨kb, ko, none⟩ ∧ kb < w.heap.size ∧ ∀ W, Below w.heap.size w W → DfAt S W d kb (ko + j * 14)) := Lib.hid (fun j d hj => by
    obtain ⟨kb, ko, e, hkb, ha⟩ := hget j d hj
    exact ⟨ha.1, kb, ko, e, hS kb hkb, fun W hW => DfAt.keep (hW.keeps'.mono hS) hkb ha⟩)
  have hmk := run_makeMap_hintI
  clear hv hget hS
  go_enter Tryz.func26, Tryz.ntmps26
  go_wp2_with fail
  go_loopw [10] (fun i wr => ∃ (j : Nat), i = .int .i64 (j : Int) ∧ j ≤ len ∧ Hid (ArIs wr w.heap.size j (arOf (ds.take j))) ∧ Below w.heap.size w wr) (fun i _ => len - (intOf i).toNat)
  case atStart => exact ⟨0, rfl, by omega, Lib.hid (ArIs.made w), (Below.refl _ _).alloc (Nat.le_refl _) _⟩
  case round =>
    obtain ⟨j, rfl, hj, HSE, hw⟩ := hrel
    by_cases hlt : j < len
    · obtain ⟨d, hd⟩ : ∃ d, ds[j]? = some d := ⟨_, List.getElem?_eq_getElem (by rw [← hlen.out]; exact hlt)⟩
      obtain ⟨hdn, kb, ko, rfl, hkl, hda⟩ := HG.out j d hd
      have c0 := (hda wr hw).2.1
      obtain ⟨mv, c1, hmv⟩ := (hda wr hw).2.2.1
      obtain ⟨ma, ml, mc, rfl, hml, _⟩ := hmv.open
      have hkw : kb < wr.heap.size := Nat.lt_of_lt_of_le hkl hw.size
      have hsd : ArIs wr.drew w.heap.size j (arOf (ds.take j)) := HSE.out.below (Below.refl (w.heap.size + 1) wr).drew (Nat.lt_succ_self _)
      obtain ⟨w1, hup, hse1, hgr⟩ := hsd.put (by unfold maxLen; omega) hdn ml
      have HS2 : Hid (ArIs w1 w.heap.size (j + 1) (arOf (ds.take (j + 1)))) := Lib.hid (by
        obtain ⟨f, h1, h2⟩ := hse1
        exact ⟨f, h1, fun s => by rw [h2, take_snoc_get hd, arOf_snoc, hml.out]⟩)
      have HW1 : Hid (Below w.heap.size w w1) := Lib.hid (hw.drew.grown hgr (by simpa using hw.size) (fun k e => by cases e; exact Nat.le_refl _))
      clear hd hda hmv hml hsd hdn hse1 hgr
      go_wp2_with fail
      go_region_with fail
      all_goals
        go_wp2_with fail
        go_roundw
        case rel => exact ⟨j + 1, by go_num, by omega, HS2, HW1.out⟩
        case measure => simp [intOf]; omega
    · obtain rfl : j = len := by omega
      have HF : Hid (ArIs wr w.heap.size ds.length (arOf ds)) := Lib.hid (by
        have h := HSE.out
        rw [List.take_of_length_le (by rw [hlen.out]; exact Nat.le_refl _)] at h
        rw [← hlen.out]; exact h)
      go_wp2_with fail
      go_ret
      exact ⟨_, rfl, Nat.le_refl _, HF.out, hw⟩

end Go.Proofs.YtgmdmbmkljbgiaaGreatDoor

/- Scopes: the fault of a program. -/
namespace Go.Proofs.YtgmdmbmkljbgiaaGreatDoor
open Go.RowKit Go.Deep Go.Shelf

/-- The fault of a program: its error and its place. -/
noncomputable def Pg.chk (g : Pg) : Int × Nat :=
  if pprogE g ≠ 0 then (pprogE g, 0) else match twF g.ds with
    | some i => (5, i)
    | none => match g.bF with
      | some i => (g.bE (arOf g.ds) i, i)
      | none => (0, 0)
theorem Pg.chk_1 {g : Pg} (h : pprogE g ≠ 0) : g.chk = (pprogE g, 0) := by unfold Pg.chk; rw [if_pos h]
theorem Pg.chk_2 {g : Pg} {i : Nat} (h : pprogE g = 0) (h2 : twF g.ds = some i) : g.chk = (5, i) := by unfold Pg.chk; rw [if_neg (by simpa using h), h2]
theorem Pg.chk_3 {g : Pg} {i : Nat} (h : pprogE g = 0) (h2 : twF g.ds = none) (hi : i ≤ g.ds.length) (hl : ∀ j, j < i → g.bE (arOf g.ds) j = 0) {x : Int} (hx : g.bE (arOf g.ds) i = x) (h0 : x ≠ 0) : g.chk = (x, i) := by
  have hf : g.bF = some i := range_find (by omega) (fun j hj => by simp [hl j hj]) (by rw [hx]; simpa using h0)
  unfold Pg.chk; rw [if_neg (by simpa using h), h2]; simp only; rw [hf]; simp only; rw [hx]
theorem Pg.chk_4 {g : Pg} (h : pprogE g = 0) (h2 : twF g.ds = none) (hl : ∀ j, j ≤ g.ds.length → g.bE (arOf g.ds) j = 0) : g.chk = (0, 0) := by
  have hf : g.bF = none := range_find_none (fun j hj => by simp [hl j (by omega)])
  unfold Pg.chk; rw [if_neg (by simpa using h), h2]; simp only; rw [hf]
theorem Pg.bE_def {g : Pg} {ar : ByteArray → Option Nat} {i : Nat} {d : Df} (h : g.ds[i]? = some d) : g.bE ar i = d.b.scE ar (d.ms.map Pm.n) false := by unfold Pg.bE; rw [h]
theorem Pg.bE_main {g : Pg} {ar : ByteArray → Option Nat} : g.bE ar g.ds.length = g.m.scE ar [] true := by unfold Pg.bE; rw [List.getElem?_eq_none (Nat.le_refl _)]

end Go.Proofs.YtgmdmbmkljbgiaaGreatDoor

/- Programs: the reference's Total. -/
namespace Go.Proofs.YtgmdmbmkljbgiaaGreatDoor
open Go.RowKit Go.Deep Go.Shelf

theorem sumN_take {α : Type} {l : List α} {j : Nat} {x : α} (f : α → Nat) (h : l[j]? = some x) : sumN ((l.take (j + 1)).map f) = sumN ((l.take j).map f) + f x := by
  rw [map_take_snoc f h, sumN_append]; simp [sumN]
theorem sumN_take_le {α : Type} (l : List α) (j : Nat) (f : α → Nat) : sumN ((l.take j).map f) ≤ sumN (l.map f) := sumN_le_of_prefix (map_prefix l j f)
theorem pr_slices {B : Nat → Prop} {w : World} {p : Pr} {lv av tl tk kv : Value} (h : PrVal B w (prAgg p lv av tl tk kv) p) :
    (∃ (a : Option Addr) (n c : Nat), lv = .slice a n c) ∧ (∃ (a : Option Addr) (n c : Nat), av = .slice a n c) ∧ (∃ (a : Option Addr) (n c : Nat), tl = .slice a n c) ∧ (∃ (a : Option Addr) (n c : Nat), tk = .slice a n c) ∧ ∃ (a : Option Addr) (n c : Nat), kv = .slice a n c := by
  obtain ⟨lv', av', tl', tk', kv', e, _, hl, ha, ht, hk⟩ := h
  simp only [prAgg, Value.agg.injEq, Array.mk.injEq, List.cons.injEq, and_true, true_and] at e
  obtain ⟨rfl, rfl, rfl, rfl, rfl⟩ := e
  obtain ⟨a1, n1, c1, e1, _⟩ := hl.open
  obtain ⟨a2, n2, c2, e2, _⟩ := ha.open
  obtain ⟨a3, n3, c3, e3, _⟩ := hk.open
  obtain ⟨s1, s2⟩ := slices_of ht
  exact ⟨⟨_, _, _, e1⟩, ⟨_, _, _, e2⟩, s1, s2, ⟨_, _, _, e3⟩⟩

set_option maxHeartbeats 4000000 in
set_option maxRecDepth 100000 in
theorem rptotal_any (B : Nat → Prop) (g : Pg) (hg : GGood g) (hsz : g.total ≤ 1000000000) (v : Value) (w : World) (hB : Low B w) (hv : PgVal B w v g) :
    Calls Tryz.prog 14 #[v] w fun e w' => e = .returned (.int .i64 g.total) ∧ Below w.heap.size w w' := by
  obtain ⟨dv, lv, av, tl, tk, kv, rfl, hd, hp⟩ := hv
  obtain ⟨⟨la, ln, lc, rfl⟩, ⟨aa, an, ac, rfl⟩, ⟨ta, tn, tc, rfl⟩, ⟨ua, un, uc, rfl⟩, ka, kn, kc, rfl⟩ := pr_slices hp
  obtain ⟨pa, len, c, rfl, hlen, hmx, hget⟩ := hd.open
  have hgm := (hg.2.2 g.m g.main_mem)
  obtain ⟨w1, hw1⟩ : ∃ w1, w.alloc (cell13 g (.slice pa len c) (.slice la ln lc) (.slice aa an ac) (.slice ta tn tc) (.slice ua un uc) (.slice ka kn kc)) = w1 := ⟨_, rfl⟩
  have hb01 : Below w.heap.size w w1 := by rw [← hw1]; exact blkBelow w _ _
  have hs1 : w1.heap.size = w.heap.size + 1 := by rw [← hw1]; simp
  have cell1 : ∀ (W : World), Below (w.heap.size + 1) w1 W → ∀ (j : Nat) (v : Value), #[.slice pa len c, .int .i64 g.m.k, .string g.m.c, .string g.m.x, .slice la ln lc, .slice aa an ac, .int .i64 g.m.t.k, .int .i64 g.m.t.p, .string g.m.t.n, .int .i64 g.m.t.s, .slice ta tn tc, .slice ua un uc, .slice ka kn kc][j]? = some v → W.cell? ⟨w.heap.size, j, none⟩ = some v := fun W hW j v hj => blk_cell (by rw [hw1]; exact hW) j hj
  have hlow : ∀ W, Below (w.heap.size + 1) w1 W → Below w.heap.size w W := fun W hW => hb01.trans (hW.mono (by omega))
  have HSz : Hid (∀ q : Later (w.heap.size + 1) w1, Calls Tryz.prog 31 #[prAgg g.m (.slice la ln lc) (.slice aa an ac) (.slice ta tn tc) (.slice ua un uc) (.slice ka kn kc)] q.1 fun e w' => e = .returned (.int .i64 g.m.size) ∧ Below q.1.heap.size q.1 w') := Lib.hid (fun q => prsize_any B g.m hgm.2.2 _ q.1 (hB.le (hlow _ q.2).size) (hp.to hB (hlow _ q.2)))
  have HTy : Hid (∀ q : Later (w.heap.size + 1) w1, Calls Tryz.prog 32 #[prAgg g.m (.slice la ln lc) (.slice aa an ac) (.slice ta tn tc) (.slice ua un uc) (.slice ka kn kc)] q.1 fun e w' => e = .returned (.int .i64 g.m.typ) ∧ Below q.1.heap.size q.1 w') := Lib.hid (fun q => prtyp_any B g.m hgm.1.2 (by have := g.total_eq; omega) _ q.1 (hB.le (hlow _ q.2).size) (hp.to hB (hlow _ q.2)))
  have htot := g.total_eq
  have hle0 : g.m.size + g.m.typ + sumN (g.ds.map Df.all) ≤ 1000000000 := by omega
  have HTot := Lib.hid htot
  rw [htot]
  have HD : Hid (∀ (j : Nat) (d : Df), g.ds[j]? = some d → ∃ kb ko, pa = some ⟨kb, ko, none⟩ ∧ kb < w.heap.size ∧ (∀ W, Below w.heap.size w W → DfAt B W d kb (ko + j * 14)) ∧ PGood d.b ∧ d.b.size ≤ 1000000 ∧ d.b.typ ≤ 1000000000 ∧ (∀ a ∈ d.ms, a.t.size ≤ 300)) := Lib.hid (fun j d hj => by
    obtain ⟨kb, ko, e, hkb, hda⟩ := hget j d hj
    have hmem := List.mem_of_getElem? hj
    have h1 := hg.2.2 d.b (Pg.body_mem hmem)
    have h2 : d.b.typ ≤ 1000000000 := by
      have h3 := sumN_take Df.all hj
      have h4 := sumN_take_le g.ds (j + 1) Df.all
      unfold Df.all at h3
      unfold Df.all at h4 hle0
      omega
    exact ⟨kb, ko, e, hB kb hkb, fun W hW => hda.keep (hW.keeps'.mono hB) hkb, h1.1, h1.2.2, h2, fun a ha => (hg.pm hmem ha).1⟩)
  obtain ⟨ds, hds⟩ : ∃ ds, g.ds = ds := ⟨_, rfl⟩
  rw [hds] at hlen HD hle0 ⊢
  clear hget hd hp hgm hsz hg htot hds
  unfold prAgg at HSz HTy
  obtain ⟨z1, hz1⟩ : ∃ z, g.m.size = z := ⟨_, rfl⟩
  obtain ⟨z2, hz2⟩ : ∃ z, g.m.typ = z := ⟨_, rfl⟩
  rw [hz1] at HSz hle0 ⊢
  rw [hz2] at HTy hle0 ⊢
  have hz12 : z1 + z2 ≤ 1000000000 := by omega
  clear hz1 hz2
  have CE := Lib.hid cell1
  have HL := Lib.hid hlow
  have HW1 := Lib.hid hw1
  have HLE := Lib.hid hle0
  have e0 := fun q : Later (w.heap.size + 1) w1 => cell1 q.1 q.2 0 _ rfl
  have e1 := fun q : Later (w.heap.size + 1) w1 => cell1 q.1 q.2 1 _ rfl
  have e2 := fun q : Later (w.heap.size + 1) w1 => cell1 q.1 q.2 2 _ rfl
  have e3 := fun q : Later (w.heap.size + 1) w1 => cell1 q.1 q.2 3 _ rfl
  have e4 := fun q : Later (w.heap.size + 1) w1 => cell1 q.1 q.2 4 _ rfl
  have e5 := fun q : Later (w.heap.size + 1) w1 => cell1 q.1 q.2 5 _ rfl
  have e6 := fun q : Later (w.heap.size + 1) w1 => cell1 q.1 q.2 6 _ rfl
  have e7 := fun q : Later (w.heap.size + 1) w1 => cell1 q.1 q.2 7 _ rfl
  have e8 := fun q : Later (w.heap.size + 1) w1 => cell1 q.1 q.2 8 _ rfl
  have e9 := fun q : Later (w.heap.size + 1) w1 => cell1 q.1 q.2 9 _ rfl
  have e10 := fun q : Later (w.heap.size + 1) w1 => cell1 q.1 q.2 10 _ rfl
  have e11 := fun q : Later (w.heap.size + 1) w1 => cell1 q.1 q.2 11 _ rfl
  have e12 := fun q : Later (w.heap.size + 1) w1 => cell1 q.1 q.2 12 _ rfl
  clear cell1 hlow hle0 hb01
  simp only [cell13] at hw1
  go_enter Tryz.func14, Tryz.ntmps14
  go_wp2_with fail
  clear hw1
  refine wp_region_later (w.heap.size + 1) w1 (by kernel_rfl) (by kernel_rfl) (Below.refl _ _) ?_
  repeat (go_big_quiet_step (first | (go_at_call 31; exact later_call _ (by omega) (HSz.out _)) | (go_at_call 32; exact later_call _ (by omega) (HTy.out _))))
  refine wpQuiet_nil ?_
  rintro _ ⟨⟨w5, hb5⟩, rfl⟩
  clear e0 e1 e2 e3 e4 e5 e6 e7 e8 e9 e10 e11 e12
  go_wp2_with fail
  go_loopw [3, 4] (fun a i wr => ∃ j : Nat, i = .int .i64 j ∧ j ≤ len ∧ a = .int .i64 ((z1 + z2 + sumN ((ds.take j).map Df.all) : Nat) : Int) ∧ Below (w.heap.size + 1) w1 wr) (fun _ i _ => len - (intOf i).toNat)
  case atStart => exact ⟨0, rfl, by omega, by simp [sumN], hb5⟩
  case round =>
    obtain ⟨j, rfl, hj, rfl, hb⟩ := hrel
    obtain ⟨wo, hwo⟩ : ∃ wo, wo = wr := ⟨_, rfl⟩
    subst hwo
    have c0 := CE.out wo hb 0 _ rfl
    have hw := HL.out wo hb
    by_cases hlt : j < len
    · obtain ⟨d, hdj⟩ : ∃ d, ds[j]? = some d := ⟨_, List.getElem?_eq_getElem (by rw [← hlen.out]; exact hlt)⟩
      obtain ⟨kb, ko, rfl, hkb, hda, hdg, hds, hdt, hpm⟩ := HD.out j d hdj
      have hst := sumN_take Df.all hdj
      have hsl := sumN_take_le ds (j + 1) Df.all
      have hle := HLE.out
      obtain ⟨a0, ha0⟩ : ∃ a0, z1 + z2 + sumN ((ds.take j).map Df.all) = a0 := ⟨_, rfl⟩
      have hall : d.all = d.b.size + d.b.typ + sumN d.pms := rfl
      have hbnd : a0 + (d.b.size + d.b.typ + sumN d.pms) ≤ 1000000000 := by omega
      have HST := Lib.hid hst
      have HA0 := Lib.hid ha0
      have HALL := Lib.hid hall
      rw [ha0]
      obtain ⟨ma, mn, mc, la', ln', lc', aa', an', ac', ta', tn', tc', ua', un', uc', ka', kn', kc', ⟨d0, d1, d2, d3, d4, d5, d6, d7, d8, d9, d10, d11, d12, d13⟩, hms, hval⟩ := (hda wo hw).load'
      have hBr : Low B wo := hB.le hw.size
      have hkr := hw.size
      have HS2 : Hid (∀ q : Later wo.heap.size wo, Calls Tryz.prog 31 #[prAgg d.b (.slice la' ln' lc') (.slice aa' an' ac') (.slice ta' tn' tc') (.slice ua' un' uc') (.slice ka' kn' kc')] q.1 fun e w' => e = .returned (.int .i64 d.b.size) ∧ Below q.1.heap.size q.1 w') := Lib.hid (fun q => prsize_any B d.b hds _ q.1 (hBr.le q.2.size) (hval.to hBr q.2))
      have HT2 : Hid (∀ q : Later wo.heap.size wo, Calls Tryz.prog 32 #[prAgg d.b (.slice la' ln' lc') (.slice aa' an' ac') (.slice ta' tn' tc') (.slice ua' un' uc') (.slice ka' kn' kc')] q.1 fun e w' => e = .returned (.int .i64 d.b.typ) ∧ Below q.1.heap.size q.1 w') := Lib.hid (fun q => prtyp_any B d.b hdg.2 hdt _ q.1 (hBr.le q.2.size) (hval.to hBr q.2))
      have lift : ∀ {v : Value} {x : Nat}, wo.cell? ⟨kb, x, none⟩ = some v → ∀ q : Later wo.heap.size wo, q.1.cell? ⟨kb, x, none⟩ = some v := fun h q => (q.2.cell (p := ⟨kb, _, none⟩) (by simp; omega)).trans h
      obtain ⟨pma, pmn, pmc, hpe, hmlen, hmmx, hmget⟩ := hms.open
      simp only [Value.slice.injEq] at hpe
      obtain ⟨rfl, rfl, rfl⟩ := hpe
      have HMG : Hid (∀ (k : Nat) (a : Pm), d.ms[k]? = some a → ∃ pb po, ma = some ⟨pb, po, none⟩ ∧ pb < wo.heap.size ∧ (∀ W, Below wo.heap.size wo W → PmAt B W a pb (po + k * 7)) ∧ a.t.size ≤ 300) := Lib.hid (fun k a hk => by
        obtain ⟨pb, po, e, hpb, hpa⟩ := hmget k a hk
        exact ⟨pb, po, e, hBr pb hpb, fun W hW => hpa.keep (hW.keeps'.mono hBr) hpb, hpm a (List.mem_of_getElem? hk)⟩)
      have HML := Lib.hid hmlen.out
      unfold prAgg at HS2 HT2
      obtain ⟨y1, hy1⟩ : ∃ y, d.b.size = y := ⟨_, rfl⟩
      obtain ⟨y2, hy2⟩ : ∃ y, d.b.typ = y := ⟨_, rfl⟩
      rw [hy1] at HS2 hbnd HALL
      rw [hy2] at HT2 hbnd HALL
      have f0 : ∀ q : Later wo.heap.size wo, q.1.cell? ⟨w.heap.size, 0, none⟩ = some (.slice (some ⟨kb, ko, none⟩) len c) := fun q => CE.out q.1 (hb.trans (q.2.mono (by have := hb.size; omega))) 0 _ rfl
      have g2 := lift d2
      have g3 := lift d3
      have g4 := lift d4
      have g5 := lift d5
      have g6 := lift d6
      have g7 := lift d7
      have g8 := lift d8
      have g9 := lift d9
      have g10 := lift d10
      have g11 := lift d11
      have g12 := lift d12
      have g13 := lift d13
      have h12 : a0 + y1 + y2 ≤ 1000000000 := by omega
      have h11 : a0 + y1 ≤ 1000000000 := by omega
      have HBND := Lib.hid hbnd
      clear hst hsl hle ha0 hall hda hval hms hmget hpm hdg hds hdt hy1 hy2 lift d2 d3 d4 d5 d6 d7 d8 d9 d10 d11 d12 d13 d0 hdj hbnd hmlen
      go_wp2_with fail
      refine wp_region_later wo.heap.size wo (by kernel_rfl) (by kernel_rfl) (Below.refl _ _) ?_
      repeat (go_big_quiet_step (first | (go_at_call 31; exact later_call _ (Nat.le_refl _) (HS2.out _)) | (go_at_call 32; exact later_call _ (Nat.le_refl _) (HT2.out _))))
      refine wpQuiet_nil ?_
      rintro _ ⟨⟨w6, hb6⟩, rfl⟩
      clear f0 g2 g3 g4 g5 g6 g7 g8 g9 g10 g11 g12 g13
      go_wp2_with fail
      go_loopw [3, 5] (fun a i wr => ∃ k : Nat, i = .int .i64 k ∧ k ≤ mn ∧ a = .int .i64 ((a0 + y1 + y2 + sumN (d.pms.take k) : Nat) : Int) ∧ Below wo.heap.size wo wr) (fun _ i _ => mn - (intOf i).toNat)
      case atStart => exact ⟨0, rfl, by omega, by simp [sumN], hb6⟩
      case round =>
        obtain ⟨k, rfl, hk, rfl, hb7⟩ := hrel
        have hsw := hb.size
        have p0 := CE.out wr (hb.trans (hb7.mono (by omega))) 0 _ rfl
        have p1 := (hb7.cell (p := ⟨kb, ko + j * 14 + 1, none⟩) (by simp; omega)).trans d1
        by_cases hlt2 : k < mn
        · obtain ⟨a, hak⟩ : ∃ a, d.ms[k]? = some a := ⟨_, List.getElem?_eq_getElem (by rw [← HML.out]; exact hlt2)⟩
          obtain ⟨pb, po, rfl, hpb, hpa, has⟩ := HMG.out k a hak
          obtain ⟨la3, ln3, lc3, ka3, kn3, kc3, ⟨q0, q1, q2, q3, q4, q5, q6⟩, htv⟩ := (hpa wr hb7).load'
          have hst2 : sumN (d.pms.take (k + 1)) = sumN (d.pms.take k) + a.t.size := by
            unfold Df.pms; rw [← List.map_take, ← List.map_take]; exact sumN_take _ hak
          have hsl2 : sumN (d.pms.take (k + 1)) ≤ sumN d.pms := sumN_le_of_prefix (List.take_prefix _ _)
          have HT3 := Lib.hid (rsize_any B a.t (by omega) _ wr (hBr.le hb7.size) htv)
          obtain ⟨s1, hs1⟩ : ∃ s, a.t.size = s := ⟨_, rfl⟩
          obtain ⟨s0, hs0⟩ : ∃ s, a0 + y1 + y2 + sumN (d.pms.take k) = s := ⟨_, rfl⟩
          rw [hs1] at HT3 hst2
          have hs01 : s0 + s1 ≤ 1000000000 := by have := HBND.out; omega
          have HX : Hid (a0 + y1 + y2 + sumN (d.pms.take (k + 1)) = s0 + s1) := Lib.hid (by omega)
          rw [hs0]
          clear hst2 hsl2 hs0 hs1 htv hpa has hak q0
          go_wp2_with (go_at_call 33; refine HT3.out.mono ?_; rintro e w8 ⟨rfl, hb8⟩)
          go_roundw
          case rel => exact ⟨k + 1, by go_num, by omega, ret_val (by rw [HX.out]; omega), below_seq hb7 hb8⟩
          case measure => simp [intOf]; omega
        · obtain rfl : k = mn := by omega
          have HX : Hid (a0 + y1 + y2 + sumN (d.pms.take k) = z1 + z2 + sumN ((ds.take (j + 1)).map Df.all)) := Lib.hid (by
            have h1 : d.pms.take k = d.pms := List.take_of_length_le (by unfold Df.pms; rw [List.length_map, HML.out]; exact Nat.le_refl _)
            rw [h1, HST.out, HALL.out]; have := HA0.out; omega)
          rw [HX.out]
          go_wp2_with fail
          go_roundw
          case rel => exact ⟨j + 1, by go_num, by omega, rfl, hb.trans (hb7.mono (by omega))⟩
          case measure => simp [intOf]; omega
    · obtain rfl : j = len := by omega
      go_wp2_with fail
      go_ret
      exact ⟨ret_int (by rw [List.take_of_length_le (by rw [hlen.out]; exact Nat.le_refl _)]), hw⟩

end Go.Proofs.YtgmdmbmkljbgiaaGreatDoor

/- Scopes: Check. -/
namespace Go.Proofs.YtgmdmbmkljbgiaaGreatDoor
open Go.RowKit Go.Deep Go.Shelf

/-- A block with the two cells of a fault. -/
def Two2 (W : World) (b : Nat) (a0 a1 : Value) : Prop := W.heap[b]? = some (.cells #[a0, a1] 39 (0, 0))
section
variable {W W' : World} {b : Nat} {a0 a1 : Value}
theorem Two2.cells (h : Two2 W b a0 a1) : (W.cell? ⟨b, 0, none⟩ = some a0 ∧ W.cell? ⟨b, 1, none⟩ = some a1) ∧ W.frozen? ⟨b, 0, none⟩ = false ∧ W.frozen? ⟨b, 1, none⟩ = false := by
  unfold Two2 at h
  refine ⟨⟨?_, ?_⟩, ?_, ?_⟩ <;> simp [World.cell?, World.frozen?, h]
theorem Two2.lt (h : Two2 W b a0 a1) : b < W.heap.size := (Array.getElem?_eq_some_iff.1 h).1
theorem Two2.to (h : Two2 W b a0 a1) (hb : Below W.heap.size W W') : Two2 W' b a0 a1 := (hb.block b h.lt).trans h
theorem Two2.set0 (h : Two2 W b a0 a1) (v : Value) : Two2 (W.setCell ⟨b, 0, none⟩ v) b v a1 := set_block h 0 v
theorem Two2.set1 (h : Two2 W b a0 a1) (v : Value) : Two2 (W.setCell ⟨b, 1, none⟩ v) b a0 v := set_block h 1 v
end
theorem end_fault {b : Nat} {w W : World} {x y : Value} (hz : b = w.heap.size + 1) (hb : Below w.heap.size w W) (ht : Two2 W b (.int .i64 0) (.int .i64 0)) :
    Two2 ((W.setCell ⟨b, 0, none⟩ x).setCell ⟨b, 1, none⟩ y) b x y ∧ Below w.heap.size w ((W.setCell ⟨b, 0, none⟩ x).setCell ⟨b, 1, none⟩ y) := by
  subst hz
  exact ⟨(ht.set0 _).set1 _, (hb.setCell (p := ⟨w.heap.size + 1, 0, none⟩) (by simp) _).setCell (p := ⟨w.heap.size + 1, 1, none⟩) (by simp) _⟩

theorem pair_eq {a : Int × Nat} {ce x : Int} {ca i : Nat} (h : a = (ce, ca)) (k : a = (x, i)) : ce = x ∧ ca = i := by rw [h] at k; exact Prod.mk.inj k
theorem nset_names {w : World} {mb : Nat} {d : Df} (h : SetIs w mb d.ms.length (d.ms.map Pm.n)) : NSet w (some mb) (d.ms.map Pm.n) := .inr ⟨mb, rfl, by rw [List.length_map]; exact h⟩

set_option maxHeartbeats 8000000 in
set_option maxRecDepth 100000 in
theorem check_any (E : Nat) (B : Nat → Prop) (g : Pg) (hg : GGood g) (v : Value) (w : World) (hB : Low B w) (he : Env E w) (hv : PgVal B w v g) (ce : Int) (ca : Nat) (hc : g.chk = (ce, ca)) :
    Calls Tryz.prog 9 #[v] w fun e w' => e = .returned (.agg #[.int .i64 ce, .int .i64 (ca : Int)]) ∧ Below w.heap.size w w' := by
  obtain ⟨dv, lv, av, tl, tk, kv, rfl, hd, hp⟩ := hv
  have hd0 := hd
  obtain ⟨⟨la, ln, lc, rfl⟩, ⟨aa, an, ac, rfl⟩, ⟨ta, tn, tc, rfl⟩, ⟨ua, un, uc, rfl⟩, ka, kn, kc, rfl⟩ := pr_slices hp
  obtain ⟨pa, len, c, rfl, hlen, hmx, hget⟩ := hd.open
  obtain ⟨W0, hW0⟩ : ∃ W0, (w.alloc (cell13 g (.slice pa len c) (.slice la ln lc) (.slice aa an ac) (.slice ta tn tc) (.slice ua un uc) (.slice ka kn kc))).alloc (.cells #[.int .i64 0, .int .i64 0] 39) = W0 := ⟨_, rfl⟩
  have hb0 : Below w.heap.size w W0 := by rw [← hW0]; exact (blkBelow w _ _).alloc (by simp) _
  have hb1 : Below (w.heap.size + 1) (w.alloc (cell13 g (.slice pa len c) (.slice la ln lc) (.slice aa an ac) (.slice ta tn tc) (.slice ua un uc) (.slice ka kn kc))) W0 := by rw [← hW0]; exact (Below.refl _ _).alloc (by simp) _
  have hpg := boxed_pgAt (S := fun k => B k ∨ k = w.heap.size) hB hd hp hb1 (fun _ h => .inl h) (.inr rfl)
  have hsz : W0.heap.size = w.heap.size + 2 := by rw [← hW0]; simp
  have hS : Low (fun k => B k ∨ k = w.heap.size) W0 := fun k h => h.elim (fun h => by have := hB k h; omega) (fun h => by omega)
  have ht0 : Two2 W0 (w.heap.size + 1) (.int .i64 0) (.int .i64 0) := by rw [← hW0]; have h := World.alloc_heap_new (w.alloc (cell13 g (.slice pa len c) (.slice la ln lc) (.slice aa an ac) (.slice ta tn tc) (.slice ua un uc) (.slice ka kn kc))) (.cells #[.int .i64 0, .int .i64 0] 39); rwa [World.size_alloc] at h
  have HW : Hid (∀ W, Below W0.heap.size W0 W → PgAt (fun k => B k ∨ k = w.heap.size) W g w.heap.size 0 ∧ Low (fun k => B k ∨ k = w.heap.size) W ∧ Two2 W (w.heap.size + 1) (.int .i64 0) (.int .i64 0) ∧ DfSl (fun k => B k ∨ k = w.heap.size) W (.slice pa len c) g.ds ∧ W.cell? ⟨w.heap.size, 0, none⟩ = some (.slice pa len c) ∧ Below w.heap.size w W) := Lib.hid (fun W hW => by
    refine ⟨hpg.keep (hW.keeps'.mono hS), hS.le hW.size, ht0.to hW, ?_, ?_, below_seq hb0 hW⟩
    · exact (hd0.keep ((below_seq hb0 hW).keeps'.mono hB)).mono (fun _ h => .inl h)
    · exact (hW.cell (p := ⟨w.heap.size, 0, none⟩) (by simp only; omega)).trans (blk_cell hb1 0 rfl))
  have HD : Hid (∀ (j : Nat) (d : Df), g.ds[j]? = some d → ∃ kb ko, pa = some ⟨kb, ko, none⟩ ∧ B kb ∧ kb < w.heap.size ∧ d.b.depth ≤ 1000 ∧ ∀ W, Below W0.heap.size W0 W → DfAt (fun k => B k ∨ k = w.heap.size) W d kb (ko + j * 14)) := Lib.hid (fun j d hj => by
    obtain ⟨kb, ko, e, hkb, hda⟩ := hget j d hj
    refine ⟨kb, ko, e, hkb, hB kb hkb, ?_, fun W hW => (DfAt.keep ((below_seq hb0 hW).keeps'.mono hB) hkb hda).mono (fun _ h => .inl h)⟩
    exact (hg.2.2 d.b (by unfold Pg.bodies; simp; exact .inl ⟨d, List.mem_of_getElem? hj, rfl⟩)).2.1)
  have hmd : g.m.depth ≤ 1000 := (hg.2.2 g.m (by unfold Pg.bodies; simp)).2.1
  obtain ⟨x, hx⟩ : ∃ x, pprogE g = x := ⟨_, rfl⟩
  have HP : Hid (Calls Tryz.prog 24 #[pgAgg g (.slice pa len c) (.slice la ln lc) (.slice aa an ac) (.slice ta tn tc) (.slice ua un uc) (.slice ka kn kc)] W0 fun e w' => e = .returned (.int .i64 x) ∧ Below W0.heap.size W0 w') := Lib.hid (by
    rw [← hx]
    exact pprogram_any E B g hg _ W0 (fun k hk => by have := hB k hk; omega) (he.to hb0) (PgVal.to hB hb0 ⟨_, _, _, _, _, _, rfl, hd0, hp⟩))
  have HW0 := Lib.hid hW0
  have HC := Lib.hid hc
  have HX := Lib.hid hx
  have hwz : w.heap.size + 2 ≤ W0.heap.size := by omega
  obtain ⟨S, hSS⟩ : ∃ S : Nat → Prop, (fun k => B k ∨ k = w.heap.size) = S := ⟨_, rfl⟩
  have hBS : ∀ k, B k → S k := fun k hk => by rw [← hSS]; exact .inl hk
  have HBS := Lib.hid hBS
  rw [hSS] at HW HD
  unfold pgAgg at HP
  clear hp hd hd0 hget hg hB he hW0 hb0 hb1 hpg hsz hS ht0 hc hx hSS hBS
  go_enter Tryz.func9, Tryz.ntmps9
  go_wp2_with fail
  refine scalls_at HW0.out ?_
  refine HP.out.mono ?_
  rintro e w2 ⟨rfl, hb2⟩
  have HB2 := Lib.hid hb2
  clear hb2
  by_cases h0 : x = 0
  · subst h0
    obtain ⟨_, hS2, ht2, hdf2, cz, _⟩ := HW.out w2 HB2.out
    have hzw : w.heap.size < w2.heap.size := by have := HB2.out.size; omega
    obtain ⟨tw, htw⟩ : ∃ x, twF g.ds = x := ⟨_, rfl⟩
    have HFT := Lib.hid (firstTwice_any S _ g.ds w2 hS2 hdf2 tw htw)
    have HTW := Lib.hid htw
    clear hS2 ht2 hdf2 htw
    cases tw with
    | some i =>
      obtain ⟨rfl, rfl⟩ := pair_eq HC.out (Pg.chk_2 HX.out HTW.out)
      simp only [Option.getD, Option.isSome] at HFT
      go_wp2_with fail
      refine HFT.out.mono ?_
      rintro e w3 ⟨rfl, hb3⟩
      have HB3 : Hid (Below W0.heap.size W0 w3) := Lib.hid (below_seq HB2.out hb3)
      obtain ⟨_, _, ht3, _, _, hbb⟩ := HW.out w3 HB3.out
      obtain ⟨⟨q0, q1⟩, f0, f1⟩ := ht3.cells
      have HT3 := Lib.hid (And.intro hbb ht3)
      clear ht3 hb3 cz hbb
      go_wp2_with fail
      obtain ⟨t9, b9⟩ := end_fault (x := .int .i64 5) (y := .int .i64 (ca : Int)) rfl HT3.out.1 HT3.out.2
      obtain ⟨⟨r0, r1⟩, _⟩ := t9.cells
      clear q0 q1 f0 f1
      refine bodyPost_ret (v := .agg #[.int .i64 5, .int .i64 (ca : Int)]) (by simp [results, Tryz.results9, go_sem, r0, r1]) rfl ⟨rfl, b9⟩
    | none =>
      simp only [Option.getD, Option.isSome] at HFT
      go_wp2_with fail
      refine HFT.out.mono ?_
      rintro e w3 ⟨rfl, hb3⟩
      have HB3 : Hid (Below W0.heap.size W0 w3) := Lib.hid (below_seq HB2.out hb3)
      obtain ⟨_, hS3, _, hdf3, cz, _⟩ := HW.out w3 HB3.out
      have hzw3 : w.heap.size < w3.heap.size := by have := HB3.out.size; omega
      have HAR := Lib.hid (aritiesOf_any S _ g.ds w3 hS3 hdf3)
      clear hS3 hdf3 hb3
      go_wp2_with fail
      refine HAR.out.mono ?_
      rintro e w4 ⟨mb, rfl, hmb, har, hb4⟩
      have HB4 : Hid (Below W0.heap.size W0 w4) := Lib.hid (below_seq HB3.out hb4)
      have HAR4 := Lib.hid har
      obtain ⟨_, _, _, _, cz, _⟩ := HW.out w4 HB4.out
      have hzw4 : w.heap.size + 2 ≤ w4.heap.size := by have := HB4.out.size; omega
      clear hb4 har hmb HAR HFT
      go_wp2_with fail
      clear cz
      go_loopw [32] (fun i wr => ∃ j : Nat, i = .int .i64 (j : Int) ∧ j ≤ len ∧ Hid (∀ k, k < j → g.bE (arOf g.ds) k = 0) ∧ Hid (Below w4.heap.size w4 wr)) (fun i _ => len - (intOf i).toNat)
      case atStart => exact ⟨0, rfl, by omega, Lib.hid (fun k hk => by omega), Lib.hid (Below.refl _ _)⟩
      case round =>
        obtain ⟨j, rfl, hj, HT, HBj⟩ := hrel
        obtain ⟨wo, hwo⟩ : ∃ wo, wo = wr := ⟨_, rfl⟩
        subst hwo
        have HBW : Hid (∀ W, Below wo.heap.size wo W → Below W0.heap.size W0 W ∧ ArIs W mb g.ds.length (arOf g.ds)) := Lib.hid (fun W hW => ⟨below_seq (below_seq HB4.out HBj.out) hW, HAR4.out.to (below_seq HBj.out hW)⟩)
        have HB := Lib.hid (Below.refl wo.heap.size wo)
        obtain ⟨hpgo, _, _, _, cz, _⟩ := HW.out wo (HBW.out wo HB.out).1
        have hzo : w.heap.size + 2 ≤ wo.heap.size := by have := HBj.out.size; omega
        have hzo1 : w.heap.size < wo.heap.size := by omega
        by_cases hlt : j < len
        · obtain ⟨d, hdj⟩ : ∃ d, g.ds[j]? = some d := ⟨_, List.getElem?_eq_getElem (by rw [← hlen.out]; exact hlt)⟩
          obtain ⟨kb, ko, rfl, hkB, hkl, hdep, hda⟩ := HD.out j d hdj
          obtain ⟨y, hy⟩ : ∃ y, d.b.scE (arOf g.ds) (d.ms.map Pm.n) false = y := ⟨_, rfl⟩
          have HBE : Hid (g.bE (arOf g.ds) j = y) := Lib.hid (by rw [Pg.bE_def hdj]; exact hy)
          have HY := Lib.hid hy
          have HDA := Lib.hid hda
          have HKB := Lib.hid hkB
          have HDP := Lib.hid hdep
          have hkw : kb < wo.heap.size := by omega
          have HJ : Hid (j ≤ g.ds.length) := Lib.hid (by rw [← hlen.out]; exact hj)
          replace HB := Lib.hid (Below.refl wo.heap.size wo).drew
          clear hdj hkB hdep hda hy hpgo
          go_wp2_with fail
          go_region_with (first
            | (go_at_call 29; refine (paramNames_any S d kb (ko + j * 14) _ (HW.out _ (HBW.out _ HB.out).1).2.1 (HBS.out _ HKB.out) (HDA.out _ (HBW.out _ HB.out).1)).mono ?_; rintro e y1 ⟨mb1, rfl, hmb1, hset1, hh1⟩; have HS1 := Lib.hid hset1; replace HB := Lib.hid (below_seq HB.out hh1); clear hset1 hh1 hmb1)
            | (go_at_call 28; refine (placeOfBody_any (some mb1) (d.ms.map Pm.n) false _ (nset_names HS1.out)).mono ?_; rintro e y2 ⟨aq, rfl, hpl, hh2⟩; have HPL := Lib.hid hpl; replace HB := Lib.hid (below_seq HB.out hh2); clear hpl hh2)
            | (go_at_call 27; refine (bodyError_any S d.b kb (ko + j * 14 + 2) (some mb1) aq false (d.ms.map Pm.n) 0 mb g.ds.length (arOf g.ds) _ (HW.out _ (HBW.out _ HB.out).1).2.1 (HDA.out _ (HBW.out _ HB.out).1).2.2.2 HPL.out (HBW.out _ HB.out).2 (by have := HDP.out; omega) y HY.out).mono ?_; rintro e y3 ⟨rfl, hh3⟩; replace HB := Lib.hid (below_seq HB.out hh3); clear hh3))
          all_goals
            by_cases hy0 : y = 0
            · subst hy0
              have HT' : Hid (∀ k, k < j + 1 → g.bE (arOf g.ds) k = 0) := Lib.hid (fun k hk => by
                rcases Nat.lt_succ_iff_lt_or_eq.1 hk with h | rfl
                · exact HT.out k h
                · exact HBE.out)
              go_wp2_with fail
              go_roundw
              case rel => exact ⟨j + 1, by go_num, by omega, HT', Lib.hid (below_seq HBj.out HB.out)⟩
              case measure => simp [intOf]; omega
            · have hy1 : (y != 0) = true := by simpa using hy0
              obtain ⟨rfl, rfl⟩ := pair_eq HC.out (Pg.chk_3 HX.out HTW.out HJ.out HT.out HBE.out hy0)
              obtain ⟨_, _, ht3, _, _, hbb⟩ := HW.out _ (HBW.out _ HB.out).1
              obtain ⟨⟨q0, q1⟩, f0, f1⟩ := ht3.cells
              have HT3 := Lib.hid (And.intro hbb ht3)
              clear hy0 ht3 hbb cz
              go_wp2_with fail
              obtain ⟨t9, b9⟩ := end_fault (x := .int .i64 ce) (y := .int .i64 (ca : Int)) rfl HT3.out.1 HT3.out.2
              obtain ⟨⟨r0, r1⟩, _⟩ := t9.cells
              clear q0 q1 f0 f1
              refine bodyPost_ret (v := .agg #[.int .i64 ce, .int .i64 (ca : Int)]) (by simp [results, Tryz.results9, go_sem, r0, r1]) rfl ⟨rfl, b9⟩
        · obtain rfl : j = len := by omega
          have HPM : Hid (∀ W, Below wo.heap.size wo W → PrAt S W g.m w.heap.size 1) := Lib.hid (fun W hW => (HW.out W (HBW.out W hW).1).1.2.2)
          obtain ⟨y, hy⟩ : ∃ y, g.m.scE (arOf g.ds) [] true = y := ⟨_, rfl⟩
          have HBE : Hid (g.bE (arOf g.ds) g.ds.length = y) := Lib.hid (by rw [Pg.bE_main]; exact hy)
          have HY := Lib.hid hy
          have HMD := Lib.hid hmd
          clear hpgo hy cz
          have hn0 : NSet wo none [] := .inl ⟨rfl, rfl⟩
          have HN0 := Lib.hid hn0
          clear hn0
          go_wp2_with fail
          refine (placeOfBody_any none [] true wo HN0.out).mono ?_
          rintro e w6 ⟨aq, rfl, hpl, hh6⟩
          have HB6 := Lib.hid hh6
          have HPL := Lib.hid hpl
          clear hpl hh6
          go_wp2_with fail
          refine (bodyError_any S g.m w.heap.size 1 none aq true [] 0 mb g.ds.length (arOf g.ds) w6 (HW.out _ (HBW.out _ HB6.out).1).2.1 (HPM.out _ HB6.out) HPL.out (HBW.out _ HB6.out).2 (by have := HMD.out; omega) y HY.out).mono ?_
          rintro e w7 ⟨rfl, hh7⟩
          have HB7 := Lib.hid (below_seq HB6.out hh7)
          clear hh7
          obtain ⟨_, _, ht3, _, cz, hbb⟩ := HW.out _ (HBW.out _ HB7.out).1
          obtain ⟨⟨q0, q1⟩, f0, f1⟩ := ht3.cells
          have HT3 := Lib.hid (And.intro hbb ht3)
          clear ht3 hbb
          have HTL : Hid (∀ k, k < g.ds.length → g.bE (arOf g.ds) k = 0) := Lib.hid (fun k hk => HT.out k (by rw [hlen.out]; exact hk))
          by_cases hy0 : y = 0
          · subst hy0
            obtain ⟨rfl, rfl⟩ := pair_eq HC.out (Pg.chk_4 HX.out HTW.out (fun k hk => by
              rcases Nat.lt_or_eq_of_le hk with h | rfl
              · exact HTL.out k h
              · exact HBE.out))
            clear cz
            go_wp2_with fail
            obtain ⟨t9, b9⟩ := end_fault (x := .int .i64 0) (y := .int .i64 0) rfl HT3.out.1 HT3.out.2
            obtain ⟨⟨r0, r1⟩, _⟩ := t9.cells
            clear q0 q1 f0 f1
            refine bodyPost_ret (v := .agg #[.int .i64 0, .int .i64 0]) (by simp [results, Tryz.results9, go_sem, r0, r1]) rfl ⟨rfl, b9⟩
          · have hy1 : (y != 0) = true := by simpa using hy0
            obtain ⟨rfl, hca⟩ := pair_eq HC.out (Pg.chk_3 HX.out HTW.out (Nat.le_refl _) HTL.out HBE.out hy0)
            obtain rfl : ca = j := by rw [hca, hlen.out]
            clear hy0 hca
            go_wp2_with fail
            obtain ⟨t9, b9⟩ := end_fault (x := .int .i64 ce) (y := .int .i64 (ca : Int)) rfl HT3.out.1 HT3.out.2
            obtain ⟨⟨r0, r1⟩, _⟩ := t9.cells
            clear q0 q1 f0 f1
            refine bodyPost_ret (v := .agg #[.int .i64 ce, .int .i64 (ca : Int)]) (by simp [results, Tryz.results9, go_sem, r0, r1]) rfl ⟨rfl, b9⟩
  · have h1 : (x != 0) = true := by simpa using h0
    obtain ⟨rfl, rfl⟩ := pair_eq HC.out (by rw [Pg.chk_1 (by rw [HX.out]; exact h0), HX.out])
    obtain ⟨_, _, ht3, _, _, hbb⟩ := HW.out _ HB2.out
    obtain ⟨⟨q0, q1⟩, f0, f1⟩ := ht3.cells
    have HT3 := Lib.hid (And.intro hbb ht3)
    clear ht3 hbb h0
    go_wp2_with fail
    obtain ⟨t9, b9⟩ := end_fault (x := .int .i64 ce) (y := .int .i64 0) rfl HT3.out.1 HT3.out.2
    obtain ⟨⟨r0, r1⟩, _⟩ := t9.cells
    clear q0 q1 f0 f1
    refine bodyPost_ret (v := .agg #[.int .i64 ce, .int .i64 0]) (by simp [results, Tryz.results9, go_sem, r0, r1]) rfl ⟨rfl, b9⟩

end Go.Proofs.YtgmdmbmkljbgiaaGreatDoor

/- Processes: the walk of Free. -/
namespace Go.Proofs.YtgmdmbmkljbgiaaGreatDoor
open Go.RowKit Go.Deep Go.Shelf

/-! ### What it gives -/
def add1 (cnt : ByteArray → Int) (s : ByteArray) : ByteArray → Int := fun y => if y = s then cnt s + 1 else cnt y
def sub1 (cnt : ByteArray → Int) (s : ByteArray) : ByteArray → Int := fun y => if y = s then cnt s - 1 else cnt y
noncomputable def cntOf (y : ByteArray) : List ByteArray → Int
  | [] => 0
  | s :: r => (if y = s then 1 else 0) + cntOf y r
theorem foldl_add1 (l : List ByteArray) : ∀ (cnt : ByteArray → Int) (y : ByteArray), l.foldl add1 cnt y = cnt y + cntOf y l := by
  induction l with
  | nil => intro cnt y; simp [cntOf]
  | cons s r ih =>
    intro cnt y
    rw [List.foldl_cons, ih, cntOf]
    unfold add1
    by_cases e : y = s
    · subst e; rw [if_pos rfl, if_pos rfl]; omega
    · rw [if_neg e, if_neg e]; omega
theorem foldl_sub1 (l : List ByteArray) : ∀ (cnt : ByteArray → Int) (y : ByteArray), l.foldl sub1 cnt y = cnt y - cntOf y l := by
  induction l with
  | nil => intro cnt y; simp [cntOf]
  | cons s r ih =>
    intro cnt y
    rw [List.foldl_cons, ih, cntOf]
    unfold sub1
    by_cases e : y = s
    · subst e; rw [if_pos rfl, if_pos rfl]; omega
    · rw [if_neg e, if_neg e]; omega
theorem cntOf_bound (y : ByteArray) (l : List ByteArray) : 0 ≤ cntOf y l ∧ cntOf y l ≤ l.length := by
  induction l with
  | nil => simp [cntOf]
  | cons s r ih => rw [cntOf]; split <;> simp <;> omega
theorem sub_add (cnt : ByteArray → Int) (l : List ByteArray) : l.foldl sub1 (l.foldl add1 cnt) = cnt := by
  funext y; rw [foldl_sub1, foldl_add1]; omega
noncomputable def occV (cnt : ByteArray → Int) (out : List ByteArray) (v : Vl) : List ByteArray := if v.k = 1 then occ cnt out v.n else out
/-- The names that a node has itself. -/
noncomputable def Pr.here (p : Pr) (cnt : ByteArray → Int) (out : List ByteArray) : List ByteArray := p.vs.foldl (occV cnt) (if prefixB p.k then occ cnt out p.c else out)
mutual
/-- The names that are free, behind those that are there. -/
noncomputable def Pr.fw : Pr → (ByteArray → Int) → List ByteArray → List ByteArray
  | .mk k c x ls vs t ps, cnt, out => Pr.fws ps ((Pr.mk k c x ls vs t ps).bnd.foldl add1 cnt) ((Pr.mk k c x ls vs t ps).here cnt out)
noncomputable def Pr.fws : List Pr → (ByteArray → Int) → List ByteArray → List ByteArray
  | [], _, out => out
  | p :: r, cnt, out => Pr.fws r cnt (p.fw cnt out)
end
theorem Pr.fw_eq (p : Pr) (cnt : ByteArray → Int) (out : List ByteArray) : p.fw cnt out = Pr.fws p.ps (p.bnd.foldl add1 cnt) (p.here cnt out) := by cases p; simp [Pr.fw, Pr.ps]
theorem Pr.fws_snoc (cnt : ByteArray → Int) (p : Pr) : ∀ (l : List Pr) (out : List ByteArray), Pr.fws (l ++ [p]) cnt out = p.fw cnt (Pr.fws l cnt out)
  | [], out => by simp [Pr.fws]
  | u :: r, out => by rw [List.cons_append, Pr.fws, Pr.fws_snoc cnt p r, Pr.fws]
mutual
/-- How many names there can be. -/
def Pr.nms : Pr → Nat
  | .mk _ _ _ _ vs _ ps => 1 + vs.length + Pr.nmss ps
def Pr.nmss : List Pr → Nat
  | [] => 0
  | p :: r => p.nms + Pr.nmss r
end
theorem Pr.nms_eq (p : Pr) : p.nms = 1 + p.vs.length + Pr.nmss p.ps := by cases p; simp [Pr.nms, Pr.vs, Pr.ps]
theorem Pr.nmss_append (l r : List Pr) : Pr.nmss (l ++ r) = Pr.nmss l + Pr.nmss r := by
  induction l with
  | nil => simp [Pr.nmss]
  | cons t l ih => simp only [List.cons_append, Pr.nmss, ih]; omega
theorem Pr.nmss_take {l : List Pr} {i : Nat} {p : Pr} (h : l[i]? = some p) : Pr.nmss (l.take (i + 1)) = Pr.nmss (l.take i) + p.nms := by
  rw [take_snoc_get h, Pr.nmss_append]; simp [Pr.nmss]
theorem Pr.nmss_take_le (l : List Pr) (i : Nat) : Pr.nmss (l.take i) ≤ Pr.nmss l := by
  have := Pr.nmss_append (l.take i) (l.drop i); rw [List.take_append_drop] at this; omega
theorem occV_len (cnt : ByteArray → Int) (out : List ByteArray) (v : Vl) : (occV cnt out v).length ≤ out.length + 1 := by
  unfold occV; split
  · exact occ_len _ _ _
  · omega
theorem foldV_len (cnt : ByteArray → Int) (l : List Vl) : ∀ out, (l.foldl (occV cnt) out).length ≤ out.length + l.length := by
  induction l with
  | nil => intro out; simp
  | cons v r ih => intro out; rw [List.foldl_cons, List.length_cons]; have := ih (occV cnt out v); have := occV_len cnt out v; omega
mutual
theorem Pr.fw_len : ∀ (p : Pr) (cnt : ByteArray → Int) (out : List ByteArray), (p.fw cnt out).length ≤ out.length + p.nms
  | .mk k c x ls vs t ps, cnt, out => by
    have h1 := Pr.fws_len ps ((Pr.mk k c x ls vs t ps).bnd.foldl add1 cnt) ((Pr.mk k c x ls vs t ps).here cnt out)
    have h2 : ((Pr.mk k c x ls vs t ps).here cnt out).length ≤ out.length + 1 + vs.length := by
      unfold Pr.here
      refine Nat.le_trans (foldV_len _ _ _) ?_
      show (if prefixB k then occ cnt out c else out).length + vs.length ≤ _
      split
      · have := occ_len cnt out c; omega
      · omega
    simp only [Pr.fw, Pr.nms]; omega
theorem Pr.fws_len : ∀ (l : List Pr) (cnt : ByteArray → Int) (out : List ByteArray), (Pr.fws l cnt out).length ≤ out.length + Pr.nmss l
  | [], cnt, out => by simp [Pr.fws, Pr.nmss]
  | p :: r, cnt, out => by
    have h1 := Pr.fws_len r cnt (p.fw cnt out)
    have h2 := Pr.fw_len p cnt out
    simp only [Pr.fws, Pr.nmss]; omega
end
theorem Pr.bnd_len (p : Pr) : p.bnd.length ≤ 2 := by unfold Pr.bnd; split <;> (try split) <;> simp

end Go.Proofs.YtgmdmbmkljbgiaaGreatDoor

/- Processes: Free. -/
namespace Go.Proofs.YtgmdmbmkljbgiaaGreatDoor
open Go.RowKit Go.Deep Go.Shelf

noncomputable def Pr.free (p : Pr) : List ByteArray := p.fw (fun _ => 0) []

theorem run_makeMap_b (w : World) : (Instr.makeMap 67 none).run Tryz.prog w = .ok (.map (some w.heap.size)) (w.alloc (.map #[] 0)) := by simp [Instr.makeMap]
theorem run_makeMap_i (w : World) : (Instr.makeMap 62 none).run Tryz.prog w = .ok (.map (some w.heap.size)) (w.alloc (.map #[] 0)) := by simp [Instr.makeMap]

theorem strSl_row2 {W : World} {base : Nat} {v : Value} {l : List ByteArray} (h : W.ownsRow base 9 1 v l.length (l.map .string)) (hs : ∀ s ∈ l, s.size ≤ maxLen) (hl : l.length ≤ maxLen) :
    (∃ a n c, v = .slice a n c) ∧ StrSl (Fresh base W.heap.size) W v l := by
  rcases h.2 with ⟨rfl, h0⟩ | ⟨g, cap, cur, rfl, hb, hg, hnc, _⟩
  · have : l = [] := List.length_eq_zero_iff.1 h0
    subst this
    exact ⟨⟨_, _, _, rfl⟩, nil_strs _ _⟩
  · refine ⟨⟨_, _, _, rfl⟩, .inr ⟨_, _, _, rfl, ⟨hb, (h.lt g rfl).2⟩, hnc, fun j s hj => ?_⟩, hl, hs⟩
    rw [Nat.zero_add, h.cellAt j (by have := (List.getElem?_eq_some_iff.1 hj).1; omega), List.getElem?_map, hj]
    rfl

theorem heap_push (w : World) (o : Obj) : (w.alloc o).heap = w.heap.push o := rfl

end Go.Proofs.YtgmdmbmkljbgiaaGreatDoor
