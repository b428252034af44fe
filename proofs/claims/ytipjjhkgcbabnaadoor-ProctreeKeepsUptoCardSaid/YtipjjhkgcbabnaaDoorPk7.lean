/- Programs: Program. (and what follows from it) -/
import Derived.Test.YtipjjhkgcbabnaaDoorPk5
import Derived.Test.YtipjjhkgcbabnaaDoorPk6
import Derived.Test.YtipjjhkgcbabnaaDoorPk4
import Derived.OwnWalk
import Derived.Deep.RegionWith

/- Programs: Program. -/
namespace Go.Proofs.YtipjjhkgcbabnaaDoor
open Go.RowKit Go.Deep Go.Shelf

/-- The first error of some processes. -/
noncomputable def firstR : List Pr → Int
  | [] => 0
  | p :: r => if prightE p = 0 then firstR r else prightE p
theorem firstR_append (l r : List Pr) (h : firstR l = 0) : firstR (l ++ r) = firstR r := by
  induction l with
  | nil => rfl
  | cons p l ih =>
    unfold firstR at h
    by_cases hp : prightE p = 0
    · rw [if_pos hp] at h
      rw [List.cons_append, firstR, if_pos hp]; exact ih h
    · rw [if_neg hp] at h; exact absurd h hp
noncomputable def pprogE (g : Pg) : Int := if g.many then 2 else if firstR g.bodies = 0 then (if g.ds.all hdB then 0 else 3) else firstR g.bodies
theorem pright_is (E : Nat) (B : Nat → Prop) (p : Pr) (hg : PGood p) (hdep : p.depth ≤ 99999) (r : Int) (hr : prightE p = r) (v : Value) (w : World) (hB : Low B w) (he : Env E w) (hv : PrVal B w v p) :
    Calls Tryd.prog 57 #[v] w fun e w' => e = .returned (.int .i64 r) ∧ Below w.heap.size w w' := by
  rw [← hr]; exact pright_any E B p hg hdep v w hB he hv
theorem pmany_is (S : Nat → Prop) (g : Pg) (hg : GGood g) (bt o : Nat) (m : Bool) (hm : g.many = m) (w : World) (hS : Low S w) (hgp : PgAt S w g bt o) :
    Calls Tryd.prog 90 #[.pointer (some ⟨bt, o, none⟩)] w fun e w' => e = .returned (.bool m) ∧ Below w.heap.size w w' := by
  rw [← hm]; exact pmany_any S g hg bt o w hS hgp
theorem headFits_is (S : Nat → Prop) (d : Df) (b o E : Nat) (m : Bool) (hm : hdB d = m) (w : World) (hS : Low S w) (he : Env E w) (hSb : S b) (hf : ∀ a ∈ d.ms, a.t.fine ∧ a.t.depth ≤ 1000) (hd : DfAt S w d b o) :
    Calls Tryd.prog 92 #[.pointer (some ⟨b, o, none⟩)] w fun e w' => e = .returned (.bool m) ∧ Below w.heap.size w w' := by
  rw [← hm]; exact headFits_any S d b o E w hS he hSb hf hd

set_option maxHeartbeats 4000000 in
set_option maxRecDepth 100000 in
theorem pprogram_any (E : Nat) (B : Nat → Prop) (g : Pg) (hg : GGood g) (v : Value) (w : World) (hB : Low B w) (he : Env E w) (hv : PgVal B w v g) :
    Calls Tryd.prog 58 #[v] w fun e w' => e = .returned (.int .i64 (pprogE g)) ∧ Below w.heap.size w w' := by
  obtain ⟨dv, lv, av, tl, tk, kv, rfl, hd, hp⟩ := hv
  obtain ⟨pa, len, c, rfl, hlen, hmx, hget⟩ := hd.open
  have hb1 : Below w.heap.size w (w.alloc (cell13 g (.slice pa len c) lv av tl tk kv)) := blkBelow w _ _
  have hpg := boxed_pgAt (S := fun k => B k ∨ k = w.heap.size) hB hd hp (Below.refl _ (w.alloc (cell13 g (.slice pa len c) lv av tl tk kv))) (fun _ h => .inl h) (.inr rfl)
  have hS : Low (fun k => B k ∨ k = w.heap.size) (w.alloc (cell13 g (.slice pa len c) lv av tl tk kv)) := fun k h => h.elim (fun h => by have := hB k h; simp; omega) (fun h => by simp; omega)
  have cd : (w.alloc (cell13 g (.slice pa len c) lv av tl tk kv)).cell? ⟨w.heap.size, 0, none⟩ = some (.slice pa len c) := blk_cell (Below.refl _ _) 0 rfl
  have hs1 : (w.alloc (cell13 g (.slice pa len c) lv av tl tk kv)).heap.size = w.heap.size + 1 := by simp
  obtain ⟨m, hm⟩ : ∃ m, g.many = m := ⟨_, rfl⟩
  obtain ⟨w1, hw1⟩ : ∃ w1, w.alloc (cell13 g (.slice pa len c) lv av tl tk kv) = w1 := ⟨_, rfl⟩
  rw [hw1] at hb1 hpg hS cd hs1
  obtain ⟨S, hSS⟩ : ∃ S : Nat → Prop, (fun k => B k ∨ k = w.heap.size) = S := ⟨_, rfl⟩
  have hBS : ∀ k, B k → S k := fun k hk => by rw [← hSS]; exact .inl hk
  rw [hSS] at hpg hS
  have HMA := Lib.hid (pmany_is S g hg w.heap.size 0 m hm w1 hS hpg)
  have HE1 := Lib.hid (he.to hb1)
  have HB1 := Lib.hid hb1
  have HPG : Hid (∀ W, Below w1.heap.size w1 W → PgAt S W g w.heap.size 0 ∧ W.cell? ⟨w.heap.size, 0, none⟩ = some (.slice pa len c) ∧ Low S W) := Lib.hid (fun W hW => ⟨hpg.keep (hW.keeps'.mono hS), (hW.cell (p := ⟨w.heap.size, 0, none⟩) (by simp; omega)).trans cd, hS.le hW.size⟩)
  have HD : Hid (∀ (j : Nat) (d : Df), g.ds[j]? = some d → ∃ kb ko, pa = some ⟨kb, ko, none⟩ ∧ S kb ∧ (∀ W, Below w1.heap.size w1 W → DfAt S W d kb (ko + j * 14)) ∧ ∀ a ∈ d.ms, a.t.fine ∧ a.t.depth ≤ 1000) := Lib.hid (fun j d hj => by
    obtain ⟨kb, ko, e, hkb, hda⟩ := hget j d hj
    have hmem := List.mem_of_getElem? hj
    exact ⟨kb, ko, e, hBS kb hkb, fun W hW => ((hda.keep (hb1.keeps'.mono hB) hkb).mono hBS).keep (hW.keeps'.mono hS) (hBS kb hkb), fun a ha => ⟨(hg.2.1 d hmem a ha).1, by have := (hg.pm hmem ha).2; omega⟩⟩)
  have HG := Lib.hid hg
  obtain ⟨rv, hrv⟩ : ∃ rv, pprogE g = rv := ⟨_, rfl⟩
  have HRV : Hid (rv = if m then 2 else if firstR g.bodies = 0 then (if g.ds.all hdB then 0 else 3) else firstR g.bodies) := Lib.hid (by rw [← hrv, ← hm]; rfl)
  have HW1 := Lib.hid hw1
  have hlen20 : len ≤ 1000 := by have := hlen.out; have := hg.1; omega
  rw [hrv]
  clear hrv hm hg hpg hS cd hd hp hget hB he hSS hBS hw1 hb1
  cases m
  · have HRV2 : Hid (rv = if firstR g.bodies = 0 then (if g.ds.all hdB then 0 else 3) else firstR g.bodies) := Lib.hid (by rw [HRV.out]; rfl)
    clear HRV
    have hw1 := HW1.out
    simp only [cell13] at hw1
    go_enter Tryd.func58, Tryd.ntmps58
    go_wp2_with (go_at_call 90; refine HMA.out.mono ?_; rintro e w2 ⟨rfl, hb2⟩; replace hb2 := Lib.hid hb2)
    have hw12 : w1.heap.size ≤ w2.heap.size := hb2.out.size
    have HBo := Lib.hid (bodies_any S g w.heap.size 0 w2 (HPG.out w2 hb2.out).2.2 (HPG.out w2 hb2.out).1 (by have := HG.out.1; omega))
    clear hw1
    go_wp2_with (go_at_call 91; refine HBo.out.mono ?_; rintro e w3 ⟨r, cp, rfl, hrow, hr1, hr2, hb3⟩; replace hrow := Lib.hid hrow; replace hb3 := Lib.hid hb3)
    obtain ⟨nb, hnb⟩ : ∃ nb, g.bodies.length = nb := ⟨_, rfl⟩
    have hnbb : nb ≤ 1001 := by rw [← hnb]; unfold Pg.bodies; have := HG.out.1; simp; omega
    rw [hnb]
    have HNB := Lib.hid hnb
    have HB13 := Lib.hid (hb2.out.trans (hb3.out.mono hw12))
    have hw13 : w1.heap.size ≤ w3.heap.size := HB13.out.size
    clear hnb HBo
    go_loopw [10] (fun i wr => ∃ (j : Nat), i = .int .i64 (j : Int) ∧ j ≤ nb ∧ Hid (firstR (g.bodies.take j) = 0) ∧ Below w3.heap.size w3 wr) (fun i _ => nb - (intOf i).toNat)
    case atStart => exact ⟨0, rfl, by omega, Lib.hid (by simp [firstR]), Below.refl _ _⟩
    case round =>
      obtain ⟨j, rfl, hj, HT, hw⟩ := hrel
      have hw1r : Below w1.heap.size w1 wr := HB13.out.trans (hw.mono hw13)
      by_cases hlt : j < nb
      · obtain ⟨p, hpj⟩ : ∃ p, g.bodies[j]? = some p := ⟨_, List.getElem?_eq_getElem (by rw [HNB.out]; exact hlt)⟩
        obtain ⟨kb, ko, hcell, hpr⟩ := hrow.out j p hpj
        have cj := (hw.cell (p := ⟨r, j, none⟩) hr2).trans hcell
        have hgd := HG.out.2.2 p (List.mem_of_getElem? hpj)
        have hlow3 : Low S w3 := (HPG.out w3 HB13.out).2.2
        obtain ⟨la, ln, lc, aa, an, ac, ta, tn, tc, ua, un, uc, ka, kn, kc, ⟨d0, d1, d2, d3, d4, d5, d6, d7, d8, d9, d10, d11⟩, hval⟩ := (PrAt.keep (hw.keeps'.mono hlow3) _ _ _ hpr).load'
        obtain ⟨x, hx⟩ : ∃ x, prightE p = x := ⟨_, rfl⟩
        have HR := Lib.hid (pright_is E S p hgd.1 (by have := hgd.2.1; omega) x hx _ wr (hlow3.le hw.size) (HE1.out.to hw1r) hval)
        have HST : Hid (firstR (g.bodies.take (j + 1)) = x) := Lib.hid (by
          rw [take_snoc_get hpj, firstR_append _ _ HT.out, firstR, hx]
          by_cases h0 : x = 0
          · rw [if_pos h0, h0]; rfl
          · rw [if_neg h0])
        have HFB : Hid (x ≠ 0 → firstR g.bodies = x) := Lib.hid (fun h0 => by
          have e : g.bodies = g.bodies.take j ++ p :: g.bodies.drop (j + 1) := by
            have hjl : j < g.bodies.length := (List.getElem?_eq_some_iff.1 hpj).1
            conv => lhs; rw [← List.take_append_drop j g.bodies, List.drop_eq_getElem_cons hjl]
            congr 2
            exact (List.getElem?_eq_some_iff.1 hpj).2
          rw [e, firstR_append _ _ HT.out, firstR, hx, if_neg h0])
        unfold prAgg at HR
        clear hpj hcell hpr hgd hlow3 hval hx
        by_cases h0 : x = 0
        · subst h0
          go_wp2_with (go_at_call 57; refine HR.out.mono ?_; rintro e w4 ⟨rfl, hb4⟩)
          go_roundw
          case rel => exact ⟨j + 1, by go_num, by omega, HST, hw.trans (hb4.mono hw.size)⟩
          case measure => simp [intOf]; omega
        · have h0' : (x != 0) = true := by simpa using h0
          have HFB1 := Lib.hid (HFB.out h0)
          have H0 := Lib.hid h0
          clear h0 HFB
          go_wp2_with (go_at_call 57; refine HR.out.mono ?_; rintro e w4 ⟨rfl, hb4⟩)
          go_ret
          exact ⟨ret_int (by rw [HRV2.out, HFB1.out, if_neg H0.out]), below_seq HB1.out (hw1r.trans (hb4.mono hw1r.size))⟩
      · obtain rfl : j = nb := by omega
        have HFB : Hid (firstR g.bodies = 0) := Lib.hid (by have h := HT.out; rwa [List.take_of_length_le (by rw [HNB.out]; exact Nat.le_refl _)] at h)
        have HRV3 : Hid (rv = if g.ds.all hdB then 0 else 3) := Lib.hid (by rw [HRV2.out, if_pos HFB.out])
        have cdr := (HPG.out wr hw1r).2.1
        have HW1R := Lib.hid hw1r
        have hwrs : w1.heap.size ≤ wr.heap.size := hw1r.size
        clear HRV2 hw hw1r HT
        go_wp2_with fail
        clear cdr
        obtain ⟨wo, hwo⟩ : ∃ wo, wo = wr := ⟨_, rfl⟩
        subst hwo
        go_loopw [25] (fun i wr => ∃ (k : Nat), i = .int .i64 (k : Int) ∧ k ≤ len ∧ Hid ((g.ds.take k).all hdB = true) ∧ Below wo.heap.size wo wr) (fun i _ => len - (intOf i).toNat)
        case atStart => exact ⟨0, rfl, by omega, Lib.hid (by simp), Below.refl _ _⟩
        case round =>
          obtain ⟨k, rfl, hk, HT, hw⟩ := hrel
          have hw1r : Below w1.heap.size w1 wr := HW1R.out.trans (hw.mono hwrs)
          obtain ⟨_, cdr, hlowr⟩ := HPG.out wr hw1r
          by_cases hlt : k < len
          · obtain ⟨d, hdk⟩ : ∃ d, g.ds[k]? = some d := ⟨_, List.getElem?_eq_getElem (by rw [← hlen.out]; exact hlt)⟩
            obtain ⟨kb, ko, rfl, hkS, hda, hdm⟩ := HD.out k d hdk
            obtain ⟨x, hx⟩ : ∃ x, hdB d = x := ⟨_, rfl⟩
            have HH := Lib.hid (headFits_is S d kb (ko + k * 14) E x hx wr hlowr (HE1.out.to hw1r) hkS hdm (hda wr hw1r))
            have HST : Hid ((g.ds.take (k + 1)).all hdB = x) := Lib.hid (by rw [take_snoc_get hdk, List.all_append, HT.out]; simp [hx])
            have HFB : Hid (x = false → g.ds.all hdB = false) := Lib.hid (fun h0 => by
              rw [List.all_eq_false]; exact ⟨d, List.mem_of_getElem? hdk, by rw [hx, h0]; simp⟩)
            clear hdk hx hda hdm
            cases x
            · have HFB1 := Lib.hid (HFB.out rfl)
              clear HFB
              go_wp2_with (go_at_call 92; refine HH.out.mono ?_; rintro e w4 ⟨rfl, hb4⟩)
              go_ret
              exact ⟨ret_int (by rw [HRV3.out, HFB1.out]; rfl), below_seq HB1.out (hw1r.trans (hb4.mono hw1r.size))⟩
            · go_wp2_with (go_at_call 92; refine HH.out.mono ?_; rintro e w4 ⟨rfl, hb4⟩)
              go_roundw
              case rel => exact ⟨k + 1, by go_num, by omega, HST, hw.trans (hb4.mono hw.size)⟩
              case measure => simp [intOf]; omega
          · obtain rfl : k = len := by omega
            have HA : Hid (g.ds.all hdB = true) := Lib.hid (by have h := HT.out; rwa [List.take_of_length_le (by rw [hlen.out]; exact Nat.le_refl _)] at h)
            go_wp2_with fail
            go_ret
            exact ⟨ret_int (by rw [HRV3.out, HA.out]; rfl), below_seq HB1.out hw1r⟩
  · have HRV2 : Hid (rv = 2) := Lib.hid (by rw [HRV.out]; rfl)
    clear HRV
    have hw1 := HW1.out
    simp only [cell13] at hw1
    go_enter Tryd.func58, Tryd.ntmps58
    go_wp2_with (go_at_call 90; refine HMA.out.mono ?_; rintro e w2 ⟨rfl, hb2⟩; replace hb2 := Lib.hid hb2)
    go_ret
    exact ⟨by rw [HRV2.out]; rfl, below_seq HB1.out hb2.out⟩

end Go.Proofs.YtipjjhkgcbabnaaDoor

/- Processes: the state of Free, and occurs. -/
namespace Go.Proofs.YtipjjhkgcbabnaaDoor
open Go.RowKit Go.Deep Go.Shelf

/-- A map that tells how often a text is bound. -/
def CntIs (w : World) (b n : Nat) (cnt : ByteArray → Int) : Prop := ∃ f : Lit → Option Value, MapIs w 9 b n f ∧ ∀ s : ByteArray, (f (.string s.data.toList)).getD (.int .i64 0) = .int .i64 (cnt s)
theorem intInfo' : (Tryd.prog.info? 3).map (fun i => (i.zero, i.size, i.bytes)) = some (some (.int .i64 0), 1, 8) := by kernel_rfl
theorem zero_int (w : World) : (zeroValue 3).run Tryd.prog w = .ok (.int .i64 0) w := by
  obtain ⟨i0, hi, hz0, hz1, hz2⟩ := info_parts intInfo'
  simp [zeroValue, typeInfo, hi, hz0]
theorem CntIs.look {w : World} {b n : Nat} {cnt : ByteArray → Int} (h : CntIs w b n cnt) {s : ByteArray} (hs : s.size ≤ maxLen) : (Instr.lookup 96 (.map (some b)) (.string s) false).run Tryd.prog w = .ok (.int .i64 (cnt s)) w := by
  obtain ⟨f, hm, hf⟩ := h
  rw [hm.look (Maps.string_keyed Tryd.underlying9) Tryd.underlying96 (zero_int w) (Go.WideMaps.keyOf_string_mk Tryd.underlying9 hs), hf]
theorem CntIs.put {w : World} {b n : Nat} {cnt : ByteArray → Int} (h : CntIs w b n cnt) (hn : n < maxLen) {s : ByteArray} (hs : s.size ≤ maxLen) (x : Int) :
    ∃ w', (Instr.mapUpdate 96 (.map (some b)) (.string s) (.int .i64 x)).run Tryd.prog w = .ok () w' ∧ CntIs w' b (n + 1) (fun y => if y = s then x else cnt y) ∧ w.grownBy w' (some b) := by
  obtain ⟨f, hm, hf⟩ := h
  obtain ⟨w', hr, hm', hg⟩ := hm.put (Maps.string_keyed Tryd.underlying9) Tryd.underlying96 hn (Go.WideMaps.keyOf_string_mk Tryd.underlying9 hs) (by first | trivial | simp [WideAt.IsKeyLit]) (val := .int .i64 x)
  refine ⟨w', hr, ⟨_, hm', fun y => ?_⟩, hg⟩
  by_cases e : y = s
  · subst e; simp
  · have e' : ¬ (Lit.string y.data.toList = Lit.string s.data.toList) := fun h => e (by
      have := Lit.string.inj h
      cases y; cases s; simp at this; congr 1)
    simp only [if_neg e', if_neg e]
    exact hf y
theorem CntIs.kept {w w' : World} {b n : Nat} {cnt : ByteArray → Int} (h : CntIs w b n cnt) {row : Option Nat} (hg : w.grownBy w' row) (hne : some b ≠ row) : CntIs w' b n cnt := by
  obtain ⟨f, hm, hf⟩ := h; exact ⟨f, hm.kept hg hne, hf⟩
theorem CntIs.lt {w : World} {b n : Nat} {cnt : ByteArray → Int} (h : CntIs w b n cnt) : b < w.heap.size := by obtain ⟨f, hm, _⟩ := h; exact hm.lt
theorem Seen.kept {w w' : World} {b j : Nat} {l : List ByteArray} (h : Seen w b j l) {row : Option Nat} (hg : w.grownBy w' row) (hne : some b ≠ row) : Seen w' b j l := by
  obtain ⟨D, ho, hf⟩ := h; exact ⟨D, ho.kept hg hne, hf⟩
theorem row_kept {W W' : World} {base : Nat} {e : TypeId} {size n : Nat} {v : Value} {xs : List Value} (h : W.ownsRow base e size v n xs) {row : Option Nat} (hg : W.grownBy W' row) (hne : ∀ k, row = some k → k < base) : W'.ownsRow base e size v n xs := by
  refine ⟨h.1, ?_⟩
  rcases h.2 with h0 | ⟨g, cap, cur, rfl, hb, hgg, r⟩
  · exact .inl h0
  · exact .inr ⟨g, cap, cur, rfl, hb, (hg.block g (Array.getElem?_eq_some_iff.1 hgg).1 (fun e => by have := hne g e.symm; omega)).trans hgg, r⟩

abbrev ptr (b : Nat) : Value := .pointer (some ⟨b, 0, none⟩)
/-- What lies in the blocks of a call of Free, from block z on. -/
structure FrSt (z : Nat) (W : World) (cnt : ByteArray → Int) (out : List ByteArray) (na : Nat) : Prop where
  free : ∃ v, W.heap[z + 1]? = some (.cells #[v] 22 (0, 0)) ∧ W.ownsRow (z + 8) 9 1 v out.length (out.map .string)
  seen : Seen W (z + 2) out.length out
  sbox : W.heap[z + 3]? = some (.cells #[.map (some (z + 2))] 95 (0, 0))
  cnts : CntIs W (z + 4) na cnt
  abox : W.heap[z + 5]? = some (.cells #[.map (some (z + 4))] 96 (0, 0))
  obox : W.heap[z + 6]? = some (.cells #[.func (.func 67) #[] #[ptr (z + 5), ptr (z + 3), ptr (z + 1)]] 97 (0, 0))
  wbox : W.heap[z + 7]? = some (.cells #[.func (.func 68) #[] #[ptr (z + 6), ptr (z + 5), ptr (z + 7)]] 98 (0, 0))
  size : z + 8 ≤ W.heap.size
  texts : ∀ s ∈ out, s.size ≤ maxLen
theorem box_kept {W W' : World} {row : Option Nat} (hg : W.grownBy W' row) {k : Nat} {o : Obj} (h : W.heap[k]? = some o) (hne : some k ≠ row) : W'.heap[k]? = some o := (hg.block k (Array.getElem?_eq_some_iff.1 h).1 hne).trans h
/-- Whatever touches only one block beyond those leaves the state. -/
theorem FrSt.grown {z : Nat} {W W' : World} {cnt : ByteArray → Int} {out : List ByteArray} {na : Nat} (h : FrSt z W cnt out na) (hg : W.grownBy W' none) : FrSt z W' cnt out na := by
  obtain ⟨⟨v, h1, h2⟩, h3, h4, h5, h6, h7, h8, h9, h10⟩ := h
  exact ⟨⟨v, box_kept hg h1 (by simp), row_kept h2 hg (fun k e => by cases e)⟩, h3.kept hg (by simp), box_kept hg h4 (by simp), h5.kept hg (by simp), box_kept hg h6 (by simp), box_kept hg h7 (by simp), box_kept hg h8 (by simp), Nat.le_trans h9 hg.size, h10⟩
theorem FrSt.to {z : Nat} {W W' : World} {cnt : ByteArray → Int} {out : List ByteArray} {na : Nat} (h : FrSt z W cnt out na) (hb : Below W.heap.size W W') : FrSt z W' cnt out na :=
  h.grown ⟨hb.os, hb.tape, hb.output, hb.size, fun k hk _ => hb.block k hk⟩
theorem FrSt.cells {z : Nat} {W : World} {cnt : ByteArray → Int} {out : List ByteArray} {na : Nat} (h : FrSt z W cnt out na) :
    W.cell? ⟨z + 3, 0, none⟩ = some (.map (some (z + 2))) ∧ W.cell? ⟨z + 5, 0, none⟩ = some (.map (some (z + 4))) ∧ W.cell? ⟨z + 6, 0, none⟩ = some (.func (.func 67) #[] #[ptr (z + 5), ptr (z + 3), ptr (z + 1)]) ∧ W.cell? ⟨z + 7, 0, none⟩ = some (.func (.func 68) #[] #[ptr (z + 6), ptr (z + 5), ptr (z + 7)]) := by
  refine ⟨?_, ?_, ?_, ?_⟩
  · simp [World.cell?, h.sbox]
  · simp [World.cell?, h.abox]
  · simp [World.cell?, h.obox]
  · simp [World.cell?, h.wbox]
theorem FrSt.count {z : Nat} {W : World} {cnt : ByteArray → Int} {out : List ByteArray} {na : Nat} (h : FrSt z W cnt out na) (hn : na < maxLen) {s : ByteArray} (hs : s.size ≤ maxLen) (x : Int) :
    ∃ W', (Instr.mapUpdate 96 (.map (some (z + 4))) (.string s) (.int .i64 x)).run Tryd.prog W = .ok () W' ∧ FrSt z W' (fun y => if y = s then x else cnt y) out (na + 1) ∧ W.grownBy W' (some (z + 4)) := by
  obtain ⟨⟨v, h1, h2⟩, h3, h4, h5, h6, h7, h8, h9, h10⟩ := h
  obtain ⟨W', hr, hc, hg⟩ := h5.put hn hs x
  exact ⟨W', hr, ⟨⟨v, box_kept hg h1 (by simp), row_kept h2 hg (fun k e => by cases e; omega)⟩, h3.kept hg (by simp), box_kept hg h4 (by simp), hc, box_kept hg h6 (by simp), box_kept hg h7 (by simp), box_kept hg h8 (by simp), Nat.le_trans h9 hg.size, h10⟩, hg⟩

/-- A name occurs. -/
noncomputable def occ (cnt : ByteArray → Int) (out : List ByteArray) (s : ByteArray) : List ByteArray := if cnt s = 0 ∧ memB s out = false then out ++ [s] else out
theorem occ_len (cnt : ByteArray → Int) (out : List ByteArray) (s : ByteArray) : (occ cnt out s).length ≤ out.length + 1 := by
  unfold occ; split <;> simp
theorem enters_occurs : ∀ args w, (callFunc 67 args).run Tryd.prog w = .ok (.enter 67 args) w := enters_of Tryd.func67 (by kernel_rfl) rfl
theorem enters_walk : ∀ args w, (callFunc 68 args).run Tryd.prog w = .ok (.enter 68 args) w := enters_of Tryd.func68 (by kernel_rfl) rfl

set_option maxHeartbeats 2000000 in
set_option maxRecDepth 100000 in
theorem occurs_any (z : Nat) (cnt : ByteArray → Int) (out : List ByteArray) (na : Nat) (s : ByteArray) (hs : s.size ≤ maxLen) (hb : out.length + 1 ≤ 1000000000) (W : World) (h : FrSt z W cnt out na) :
    Calls Tryd.prog 67 #[.string s, ptr (z + 5), ptr (z + 3), ptr (z + 1)] W fun e W' => (∃ v, e = .returned v) ∧ FrSt z W' cnt (occ cnt out s) na ∧ Below (z + 1) W W' := by
  obtain ⟨c3, c5, _, _⟩ := h.cells
  have hlk := h.cnts.look hs
  have hls := h.seen.look hs
  obtain ⟨q, hq⟩ : ∃ q, cnt s = q := ⟨_, rfl⟩
  obtain ⟨m, hm⟩ : ∃ m, memB s out = m := ⟨_, rfl⟩
  have HO : Hid (occ cnt out s = if q = 0 ∧ m = false then out ++ [s] else out) := Lib.hid (by unfold occ; rw [hq, hm])
  rw [hq] at hlk
  rw [hm] at hls
  have HH := Lib.hid h
  clear h hq hm
  by_cases h0 : q = 0
  · subst h0
    cases m
    · have h := HH.out
      obtain ⟨W1, hu, hs1, hg1⟩ := h.seen.put (by unfold maxLen; omega) hs
      have st1 : FrSt z W1 cnt out na ∨ True := .inr trivial
      obtain ⟨⟨v, h1, h2⟩, h3, h4, h5, h6, h7, h8, h9, h10⟩ := h
      have b1 := box_kept hg1 h1 (by simp)
      have r1 := row_kept h2 hg1 (fun k e => by cases e; omega)
      have v1 : W1.cell? ⟨z + 1, 0, none⟩ = some v := by simp [World.cell?, b1]
      have f1 : W1.frozen? ⟨z + 1, 0, none⟩ = false := by simp [World.frozen?, b1]
      have b4 := box_kept hg1 h4 (by simp)
      have b5 := h5.kept hg1 (by simp)
      have b6 := box_kept hg1 h6 (by simp)
      have b7 := box_kept hg1 h7 (by simp)
      have b8 := box_kept hg1 h8 (by simp)
      have hz1 : z + 8 ≤ W1.heap.size := Nat.le_trans h9 hg1.size
      obtain ⟨n, hn⟩ : ∃ n, out.length = n := ⟨_, rfl⟩
      rw [hn] at r1 hb
      obtain ⟨i0, hi, hz0, hzz1, hz2⟩ := info_parts strInfo'
      have HP := Lib.hid (And.intro b1 (And.intro b4 (And.intro b5 (And.intro b6 (And.intro b7 (And.intro b8 (And.intro hs1 (And.intro hg1 (And.intro h10 (And.intro hn r1))))))))))
      have HR := Lib.hid r1
      clear h1 h2 h3 h4 h5 h6 h7 h8 h10 b1 b4 b5 b6 b7 b8 hs1 hg1 hn st1 r1
      go_enter Tryd.func67, Tryd.ntmps67
      have HQ : Hid (∀ W2, (W1.alloc (.cells #[.string s] 9)).grownBy W2 v.ownBlock → W2.heap[z + 1]? = some (.cells #[v] 22 (0, 0))) := Lib.hid (fun W2 hgr => (hgr.block (z + 1) (by simp; omega) (fun e => by have := (HR.out.lt (z + 1) e.symm).1; omega)).trans ((Below.heap_alloc W1 _ (z + 1) (by omega)).trans HP.out.1))
      have a1 : ∀ u ∈ [Value.string s], u.oneCell' = true := fun u hu => by
        cases hu with
        | head => rfl
        | tail _ h => cases h
      have a2 : n + 1 ≤ maxLen := by unfold maxLen; omega
      have a3 : (n + 1) * 16 ≤ 140737488355328 := by omega
      have a4 : z + 8 ≤ (W1.alloc (.cells #[.string s] 9)).heap.size := Nat.le_trans hz1 (by simp)
      have a5 := HR.out.alloc (.cells #[.string s] 9)
      have HA := Lib.hid (And.intro a1 (And.intro a2 (And.intro a3 (And.intro a4 a5))))
      clear a1 a2 a3 a4 a5
      go_wp2_with (at_builtin; refine wpList_append_own _ rfl _ _ 22 rfl (z + 8) 9 i0 (.string ⟨#[]⟩) 1 16 Tryd.underlying22 hi hz0 hzz1 hz2 rfl (by decide) _ _ _ rfl HA.out.2.2.2.2 ⟨W1.heap.size, 0, none⟩ 1 1 [.string s] rfl rfl (news1 W1 _ _) HA.out.1 HA.out.2.1 HA.out.2.2.1 HA.out.2.2.2.1 ?_; intro v' W2 hown' hgrow _; obtain ⟨g, cap, rfl⟩ := ownsRow_succ hown'; have k1 := HQ.out W2 hgrow; have v2 := Boxed.cell k1; have f2 := Boxed.frozen k1; replace k1 := Lib.hid k1)
      go_end0
      obtain ⟨b1, b4, b5, b6, b7, b8, hs1, hg1, h10, hn, _⟩ := HP.out
      have hgA : W1.grownBy (W1.alloc (.cells #[.string s] 9)) none := World.grownBy_alloc W1 _ none
      have hne : ∀ j, j < z + 8 → some j ≠ v.ownBlock := fun j hj e => by have := (HR.out.lt j e.symm).1; omega
      have k4 := box_kept hgrow (box_kept hgA b4 (by simp)) (hne _ (by omega))
      have k6 := box_kept hgrow (box_kept hgA b6 (by simp)) (hne _ (by omega))
      have k7 := box_kept hgrow (box_kept hgA b7 (by simp)) (hne _ (by omega))
      have k8 := box_kept hgrow (box_kept hgA b8 (by simp)) (hne _ (by omega))
      have kc := (b5.kept hgA (by simp)).kept hgrow (hne _ (by omega))
      have ks := (hs1.kept hgA (by simp)).kept hgrow (hne _ (by omega))
      have hg3 : W2.grownBy (W2.setCell ⟨z + 1, 0, none⟩ (.slice (some ⟨g, 0, none⟩) (n + 1) cap)) (some (z + 1)) := grownBy_setCell' W2 (z + 1) _
      have hsz2 : W1.heap.size ≤ W2.heap.size := Nat.le_trans hgA.size hgrow.size
      have hOO : occ cnt out s = out ++ [s] := by rw [HO.out]; simp
      refine ⟨⟨_, rfl⟩, ?_, ?_⟩
      · rw [hOO]
        refine ⟨⟨_, set_block k1.out 0 _, ?_⟩, ?_, box_kept hg3 k4 (by simp), kc.kept hg3 (by simp), box_kept hg3 k6 (by simp), box_kept hg3 k7 (by simp), box_kept hg3 k8 (by simp), by simp; omega, fun t ht => ?_⟩
        · have h := row_kept hown' hg3 (fun k e => by cases e; omega)
          rw [List.length_append, List.map_append, hn]
          exact h
        · have h := ks.kept hg3 (by simp)
          rw [List.length_append]
          exact h
        · rcases List.mem_append.1 ht with ht | ht
          · exact h10 t ht
          · rw [List.mem_singleton.1 ht]; exact hs
      · refine ((((Below.refl (z + 1) W).grown hg1 (by omega) (fun j e => by cases e; omega)).alloc (by omega) _).grown hgrow (by simp; omega) (fun j e => by have := (HR.out.lt j e).1; omega)).setCell (p := ⟨z + 1, 0, none⟩) (by simp) _
    · have hOO : occ cnt out s = out := by rw [HO.out, if_neg (by simp)]
      rw [hOO]
      go_enter Tryd.func67, Tryd.ntmps67
      go_wp2_with fail
      go_end0
      exact ⟨⟨_, rfl⟩, HH.out, Below.refl _ _⟩
  · have hOO : occ cnt out s = out := by rw [HO.out, if_neg (fun e => h0 e.1)]
    have h0' : (q == 0) = false := by simpa using h0
    rw [hOO]
    clear h0
    go_enter Tryd.func67, Tryd.ntmps67
    go_wp2_with fail
    go_end0
    exact ⟨⟨_, rfl⟩, HH.out, Below.refl _ _⟩

end Go.Proofs.YtipjjhkgcbabnaaDoor

/- Processes: the walk of Free. -/
namespace Go.Proofs.YtipjjhkgcbabnaaDoor
open Go.RowKit Go.Deep Go.Shelf

/-! ### What it gives -/
def add1 (cnt : ByteArray → Int) (s : ByteArray) : ByteArray → Int := fun y => if y = s then cnt s + 1 else cnt y
def sub1 (cnt : ByteArray → Int) (s : ByteArray) : ByteArray → Int := fun y => if y = s then cnt s - 1 else cnt y
noncomputable def cntOf (y : ByteArray) : List ByteArray → Int
  | [] => 0
  | s :: r => (if y = s then 1 else 0) + cntOf y r
theorem foldl_add1 (l : List ByteArray) : ∀ (cnt : ByteArray → Int) (y : ByteArray), l.foldl add1 cnt y = cnt y + cntOf y l := by
  induction l with
  | nil => intro cnt y; simp [cntOf]
  | cons s r ih =>
    intro cnt y
    rw [List.foldl_cons, ih, cntOf]
    unfold add1
    by_cases e : y = s
    · subst e; rw [if_pos rfl, if_pos rfl]; omega
    · rw [if_neg e, if_neg e]; omega
theorem foldl_sub1 (l : List ByteArray) : ∀ (cnt : ByteArray → Int) (y : ByteArray), l.foldl sub1 cnt y = cnt y - cntOf y l := by
  induction l with
  | nil => intro cnt y; simp [cntOf]
  | cons s r ih =>
    intro cnt y
    rw [List.foldl_cons, ih, cntOf]
    unfold sub1
    by_cases e : y = s
    · subst e; rw [if_pos rfl, if_pos rfl]; omega
    · rw [if_neg e, if_neg e]; omega
theorem cntOf_bound (y : ByteArray) (l : List ByteArray) : 0 ≤ cntOf y l ∧ cntOf y l ≤ l.length := by
  induction l with
  | nil => simp [cntOf]
  | cons s r ih => rw [cntOf]; split <;> simp <;> omega
theorem sub_add (cnt : ByteArray → Int) (l : List ByteArray) : l.foldl sub1 (l.foldl add1 cnt) = cnt := by
  funext y; rw [foldl_sub1, foldl_add1]; omega
noncomputable def occV (cnt : ByteArray → Int) (out : List ByteArray) (v : Vl) : List ByteArray := if v.k = 1 then occ cnt out v.n else out
/-- The names that a node has itself. -/
noncomputable def Pr.here (p : Pr) (cnt : ByteArray → Int) (out : List ByteArray) : List ByteArray := p.vs.foldl (occV cnt) (if prefixB p.k then occ cnt out p.c else out)
mutual
/-- The names that are free, behind those that are there. -/
noncomputable def Pr.fw : Pr → (ByteArray → Int) → List ByteArray → List ByteArray
  | .mk k c x ls vs t ps, cnt, out => Pr.fws ps ((Pr.mk k c x ls vs t ps).bnd.foldl add1 cnt) ((Pr.mk k c x ls vs t ps).here cnt out)
noncomputable def Pr.fws : List Pr → (ByteArray → Int) → List ByteArray → List ByteArray
  | [], _, out => out
  | p :: r, cnt, out => Pr.fws r cnt (p.fw cnt out)
end
theorem Pr.fw_eq (p : Pr) (cnt : ByteArray → Int) (out : List ByteArray) : p.fw cnt out = Pr.fws p.ps (p.bnd.foldl add1 cnt) (p.here cnt out) := by cases p; simp [Pr.fw, Pr.ps]
theorem Pr.fws_snoc (cnt : ByteArray → Int) (p : Pr) : ∀ (l : List Pr) (out : List ByteArray), Pr.fws (l ++ [p]) cnt out = p.fw cnt (Pr.fws l cnt out)
  | [], out => by simp [Pr.fws]
  | u :: r, out => by rw [List.cons_append, Pr.fws, Pr.fws_snoc cnt p r, Pr.fws]
mutual
/-- How many names there can be. -/
def Pr.nms : Pr → Nat
  | .mk _ _ _ _ vs _ ps => 1 + vs.length + Pr.nmss ps
def Pr.nmss : List Pr → Nat
  | [] => 0
  | p :: r => p.nms + Pr.nmss r
end
theorem Pr.nms_eq (p : Pr) : p.nms = 1 + p.vs.length + Pr.nmss p.ps := by cases p; simp [Pr.nms, Pr.vs, Pr.ps]
theorem Pr.nmss_append (l r : List Pr) : Pr.nmss (l ++ r) = Pr.nmss l + Pr.nmss r := by
  induction l with
  | nil => simp [Pr.nmss]
  | cons t l ih => simp only [List.cons_append, Pr.nmss, ih]; omega
theorem Pr.nmss_take {l : List Pr} {i : Nat} {p : Pr} (h : l[i]? = some p) : Pr.nmss (l.take (i + 1)) = Pr.nmss (l.take i) + p.nms := by
  rw [take_snoc_get h, Pr.nmss_append]; simp [Pr.nmss]
theorem Pr.nmss_take_le (l : List Pr) (i : Nat) : Pr.nmss (l.take i) ≤ Pr.nmss l := by
  have := Pr.nmss_append (l.take i) (l.drop i); rw [List.take_append_drop] at this; omega
theorem occV_len (cnt : ByteArray → Int) (out : List ByteArray) (v : Vl) : (occV cnt out v).length ≤ out.length + 1 := by
  unfold occV; split
  · exact occ_len _ _ _
  · omega
theorem foldV_len (cnt : ByteArray → Int) (l : List Vl) : ∀ out, (l.foldl (occV cnt) out).length ≤ out.length + l.length := by
  induction l with
  | nil => intro out; simp
  | cons v r ih => intro out; rw [List.foldl_cons, List.length_cons]; have := ih (occV cnt out v); have := occV_len cnt out v; omega
mutual
theorem Pr.fw_len : ∀ (p : Pr) (cnt : ByteArray → Int) (out : List ByteArray), (p.fw cnt out).length ≤ out.length + p.nms
  | .mk k c x ls vs t ps, cnt, out => by
    have h1 := Pr.fws_len ps ((Pr.mk k c x ls vs t ps).bnd.foldl add1 cnt) ((Pr.mk k c x ls vs t ps).here cnt out)
    have h2 : ((Pr.mk k c x ls vs t ps).here cnt out).length ≤ out.length + 1 + vs.length := by
      unfold Pr.here
      refine Nat.le_trans (foldV_len _ _ _) ?_
      show (if prefixB k then occ cnt out c else out).length + vs.length ≤ _
      split
      · have := occ_len cnt out c; omega
      · omega
    simp only [Pr.fw, Pr.nms]; omega
theorem Pr.fws_len : ∀ (l : List Pr) (cnt : ByteArray → Int) (out : List ByteArray), (Pr.fws l cnt out).length ≤ out.length + Pr.nmss l
  | [], cnt, out => by simp [Pr.fws, Pr.nmss]
  | p :: r, cnt, out => by
    have h1 := Pr.fws_len r cnt (p.fw cnt out)
    have h2 := Pr.fw_len p cnt out
    simp only [Pr.fws, Pr.nmss]; omega
end
theorem Pr.bnd_len (p : Pr) : p.bnd.length ≤ 2 := by unfold Pr.bnd; split <;> (try split) <;> simp

/-- What is asked of the walk at a node. -/
def WalkP (z : Nat) (S : Nat → Prop) (p : Pr) : Prop := ∀ (cnt : ByteArray → Int) (out : List ByteArray) (na b o : Nat) (W : World), FrSt z W cnt out na → PrAt S W p b o → (∀ y, 0 ≤ cnt y ∧ cnt y + 2 * p.depth ≤ 1000000) → out.length + p.nms ≤ 1000000000 → na + 4 * p.size ≤ 1000000000 →
  Calls Tryd.prog 68 #[.pointer (some ⟨b, o, none⟩), ptr (z + 6), ptr (z + 5), ptr (z + 7)] W fun e W' => (∃ v, e = .returned v) ∧ (∃ na', na' ≤ na + 4 * p.size ∧ FrSt z W' cnt (p.fw cnt out) na') ∧ Below (z + 1) W W'

set_option maxHeartbeats 8000000 in
set_option maxRecDepth 100000 in
theorem walk_step (z : Nat) (S : Nat → Prop) (hS : ∀ k, S k → k < z + 1) (p : Pr) (ih : ∀ u ∈ p.ps, WalkP z S u) : WalkP z S p := by
  intro cnt out na b o W hst hp hcnt hout hna
  obtain ⟨hSb, ⟨hcz, hxz⟩, ⟨c0, c1, c2⟩, hty, lv, av, kv, c3, c4, c11, hl, ha, hk⟩ := PrAt.eq.1 hp
  obtain ⟨ka, kn, kc, rfl, hkl, hkm, hkg⟩ := hk.open
  obtain ⟨aa, an, ac, rfl, hal, ham, hag⟩ := ha.open
  have hbz := hS b hSb
  have HP : Hid (∀ A, Below (z + 1) W A → PrAt S A p b o ∧ (A.cell? ⟨b, o, none⟩ = some (.int .i64 p.k) ∧ A.cell? ⟨b, o + 1, none⟩ = some (.string p.c) ∧ A.cell? ⟨b, o + 4, none⟩ = some (.slice aa an ac) ∧ A.cell? ⟨b, o + 11, none⟩ = some (.slice ka kn kc))) := Lib.hid (fun A hA => ⟨PrAt.keep (hA.keeps'.mono hS) _ _ _ hp, (hA.cell (p := ⟨b, _, none⟩) hbz).trans c0, (hA.cell (p := ⟨b, _, none⟩) hbz).trans c1, (hA.cell (p := ⟨b, _, none⟩) hbz).trans c4, (hA.cell (p := ⟨b, _, none⟩) hbz).trans c11⟩)
  have HAG : Hid (∀ (i : Nat) (a : Vl) (A : World), p.vs[i]? = some a → Below (z + 1) W A → a.n.size ≤ maxLen ∧ ∃ gb go, aa = some ⟨gb, go, none⟩ ∧ gb < z + 1 ∧ A.cell? ⟨gb, go + i * 3, none⟩ = some (.int .i64 a.k) ∧ A.cell? ⟨gb, go + i * 3 + 1, none⟩ = some (.string a.n) ∧ A.cell? ⟨gb, go + i * 3 + 2, none⟩ = some (.int .i64 a.x)) := Lib.hid (fun i a A hi hA => by
    obtain ⟨h1, gb, go, e, hgb, q0, q1, q2⟩ := hag i a hi
    have hg := hS gb hgb
    exact ⟨h1, gb, go, e, hg, (hA.cell (p := ⟨gb, _, none⟩) hg).trans q0, (hA.cell (p := ⟨gb, _, none⟩) hg).trans q1, (hA.cell (p := ⟨gb, _, none⟩) hg).trans q2⟩)
  have HKG : Hid (∀ (i : Nat) (u : Pr) (A : World), p.ps[i]? = some u → Below (z + 1) W A → ∃ gb go, ka = some ⟨gb, go, none⟩ ∧ gb < z + 1 ∧ PrAt S A u gb (go + i * 12)) := Lib.hid (fun i u A hi hA => by
    obtain ⟨gb, go, e, hgb, hu⟩ := hkg i u hi
    exact ⟨gb, go, e, hS gb hgb, PrAt.keep (hA.keeps'.mono hS) _ _ _ hu⟩)
  have HIH := Lib.hid ih
  have HST := Lib.hid hst
  have HCN := Lib.hid hcnt
  have hnms := p.nms_eq
  have hsize := p.size_eq
  have hdep := p.depth_eq
  obtain ⟨_, _, x6, x7⟩ := hst.cells
  have hzs := hst.size
  have eg1 := enters_occurs
  have eg2 := enters_walk
  have HN := Lib.hid (And.intro hnms (And.intro hsize (And.intro hdep (And.intro hout hna))))
  have HXZ := Lib.hid hcz
  obtain ⟨pb, hpb⟩ : ∃ pb, prefixB p.k = pb := ⟨_, rfl⟩
  have HPX := Lib.hid (prefix_any p.k W)
  rw [hpb] at HPX
  have HPB := Lib.hid hpb
  -- the node's own name
  have HOC : Hid (Calls Tryd.prog 67 #[.string p.c, ptr (z + 5), ptr (z + 3), ptr (z + 1)] W.drew fun e W' => (∃ v, e = .returned v) ∧ FrSt z W' cnt (occ cnt out p.c) na ∧ Below (z + 1) W.drew W') := Lib.hid (occurs_any z cnt out na p.c hcz (by omega) W.drew (hst.to (Below.refl _ _).drew))
  clear ih hst hcnt hp hty hl ha hk hag hkg hnms hsize hdep hout hna hpb c0 c1 c2 c3 c4 c11 hcz hxz
  obtain ⟨c0, c1, c4, c11⟩ := (HP.out W (Below.refl _ _)).2
  have hbW : b < W.heap.size := by omega
  go_enter Tryd.func68, Tryd.ntmps68
  cases pb
  · have HS0 : Hid (FrSt z W cnt out na) := HST
    have HB0 : Hid (Below (z + 1) W W) := Lib.hid (Below.refl _ _)
    have HO0 : Hid (p.here cnt out = p.vs.foldl (occV cnt) out) := Lib.hid (by unfold Pr.here; rw [HPB.out]; rfl)
    have hol : out.length ≤ out.length + 1 := by omega
    go_wp2_with (go_at_call 66; refine HPX.out.mono ?_; rintro e w1 ⟨rfl, rfl⟩)
    clear c0 c1 c4 c11 hbW x6 x7
    go_loopw [28] (fun i wr => ∃ j : Nat, i = .int .i64 (j : Int) ∧ j ≤ an ∧ Hid (FrSt z wr cnt ((p.vs.take j).foldl (occV cnt) out) na) ∧ Hid (Below (z + 1) W wr)) (fun i _ => an - (intOf i).toNat)
    case atStart => exact ⟨0, rfl, by omega, Lib.hid (by simpa using HS0.out), HB0⟩
    case round =>
      obtain ⟨j, rfl, hj, HSj, HBj⟩ := hrel
      obtain ⟨wo, hwo⟩ : ∃ wo, wo = wr := ⟨_, rfl⟩
      subst hwo
      have hzs := HSj.out.size
      by_cases hlt : j < an
      · obtain ⟨a, haj⟩ : ∃ a, p.vs[j]? = some a := ⟨_, List.getElem?_eq_getElem (by rw [← hal.out]; exact hlt)⟩
        obtain ⟨has, gb, go, rfl, hgz, q0, q1, q2⟩ := HAG.out j a wo haj HBj.out
        have hgs : gb < wo.heap.size := by omega
        have hz6 : z + 6 < wo.heap.size := by omega
        obtain ⟨_, _, x6, _⟩ := HSj.out.cells
        have HFO : Hid ((p.vs.take (j + 1)).foldl (occV cnt) out = occV cnt ((p.vs.take j).foldl (occV cnt) out) a) := Lib.hid (by rw [take_snoc_get haj, List.foldl_append]; rfl)
        have hfl := foldV_len cnt (p.vs.take j) out
        have hlv : (p.vs.take j).length = j := by rw [List.length_take]; have := hal.out; omega
        have hbx := (Below.refl (z + 1) wo).alloc (by omega) (.cells #[.int .i64 a.k, .string a.n, .int .i64 a.x] 74)
        have HST1 := Lib.hid (HSj.out.to (blkBelow wo #[.int .i64 a.k, .string a.n, .int .i64 a.x] 74))
        have HBX := Lib.hid hbx
        obtain ⟨ak, hak⟩ : ∃ ak, a.k = ak := ⟨_, rfl⟩
        rw [hak] at q0 HST1 HBX
        have HAK := Lib.hid hak
        have hnn := HN.out
        have hao := hal.out
        have HLEN : ((p.vs.take j).foldl (occV cnt) out).length + 1 ≤ 1000000000 := by omega
        have HOC := Lib.hid (occurs_any z cnt _ na a.n has HLEN _ HST1.out)
        clear hfl hlv haj hbx hak hnn hao HLEN has
        by_cases h1 : ak = 1
        · subst h1
          go_wp2_with (go_at_call 67; refine HOC.out.mono ?_; rintro e w3 ⟨⟨vv, rfl⟩, hs3, hb3⟩; replace hs3 := Lib.hid hs3; replace hb3 := Lib.hid hb3)
          go_roundw
          case rel => exact ⟨j + 1, by go_num, by omega, Lib.hid (by rw [HFO.out]; unfold occV; rw [if_pos HAK.out]; exact hs3.out), Lib.hid ((HBj.out.trans HBX.out).trans hb3.out)⟩
          case measure => simp [intOf]; omega
        · have h1' : (ak == 1) = false := by simpa using h1
          have H1 := Lib.hid h1
          clear h1
          go_wp2_with fail
          go_roundw
          case rel => exact ⟨j + 1, by go_num, by omega, Lib.hid (by rw [HFO.out]; unfold occV; rw [if_neg (by rw [HAK.out]; exact H1.out)]; exact HST1.out), Lib.hid (HBj.out.trans HBX.out)⟩
          case measure => simp [intOf]; omega
      · obtain rfl : j = an := by omega
        have HSH : Hid (FrSt z wo cnt (p.here cnt out) na) := Lib.hid (by
          rw [HO0.out]
          have h := HSj.out
          rwa [List.take_of_length_le (by rw [hal.out]; exact Nat.le_refl _)] at h)
        have hloww : Low S wo := fun k hk => by have := hS k hk; omega
        have HBI := Lib.hid (binders_any S p b o wo hloww (HP.out wo HBj.out).1)
        have hbl := p.bnd_len
        clear hloww
        go_wp2_with (go_at_call 69; refine HBI.out.mono ?_; rintro e w4 ⟨la, ln, lc, rfl, hsl, hb4⟩; replace hsl := Lib.hid hsl; replace hb4 := Lib.hid hb4)
        have hln : ln ≤ 2 := by
          obtain ⟨_, _, _, e, h, _⟩ := hsl.out.open
          simp only [Value.slice.injEq] at e
          have := h.out; omega
        have HS4 : Hid (FrSt z w4 cnt (p.here cnt out) na) := Lib.hid (HSH.out.to hb4.out)
        have HB4 : Hid (Below (z + 1) W w4) := Lib.hid (HBj.out.trans (hb4.out.mono (by omega)))
        have HSL4 : Hid (StrSl (fun k => z + 8 ≤ k) w4 (.slice la ln lc) p.bnd) := Lib.hid (hsl.out.mono (fun k hk => by have := hk.1; omega))
        clear hsl hb4 HBI
        go_loopw [43] (fun i wr => ∃ j : Nat, i = .int .i64 (j : Int) ∧ j ≤ ln ∧ Hid (FrSt z wr ((p.bnd.take j).foldl add1 cnt) (p.here cnt out) (na + j)) ∧ Hid (Below (z + 1) W wr) ∧ Hid (StrSl (fun k => z + 8 ≤ k) wr (.slice la ln lc) p.bnd)) (fun i _ => ln - (intOf i).toNat)
        case atStart => exact ⟨0, rfl, by omega, Lib.hid (by simpa using HS4.out), HB4, HSL4⟩
        case round =>
          obtain ⟨j2, rfl, hj2, HS5, HB5, HSL5⟩ := hrel
          obtain ⟨w5, hw5⟩ : ∃ w5, w5 = wr := ⟨_, rfl⟩
          subst hw5
          have hz5 := HS5.out.size
          obtain ⟨_, _, _, e, hln5, _, hg5⟩ := HSL5.out.open
          simp only [Value.slice.injEq] at e
          obtain ⟨rfl, rfl, rfl⟩ := e
          by_cases hlt2 : j2 < ln
          · obtain ⟨s, hsj⟩ : ∃ s, p.bnd[j2]? = some s := ⟨_, List.getElem?_eq_getElem (by rw [← hln5.out]; exact hlt2)⟩
            obtain ⟨hss, gb, go, rfl, _, y0⟩ := hg5 j2 s hsj
            obtain ⟨_, x5, _, _⟩ := HS5.out.cells
            have hlk := HS5.out.cnts.look hss
            have hcb := HCN.out s
            have hco := cntOf_bound s (p.bnd.take j2)
            have hct : (p.bnd.take j2).length ≤ 2 := by rw [List.length_take]; omega
            have hcv := foldl_add1 (p.bnd.take j2) cnt s
            have hdp := p.depth_pos
            obtain ⟨q, hq⟩ : ∃ q, (p.bnd.take j2).foldl add1 cnt s = q := ⟨_, rfl⟩
            have hnn := HN.out
            obtain ⟨w6, hu, hs6, hg6⟩ := HS5.out.count (by unfold maxLen; omega) hss (q + 1)
            rw [hq] at hlk hcv
            have hq1 : 0 ≤ q := by omega
            have hq2 : q ≤ 1000002 := by omega
            have HFO : Hid ((p.bnd.take (j2 + 1)).foldl add1 cnt = fun y => if y = s then q + 1 else (p.bnd.take j2).foldl add1 cnt y) := Lib.hid (by rw [take_snoc_get hsj, List.foldl_append, ← hq]; rfl)
            have HS6 := Lib.hid hs6
            have HG6 := Lib.hid hg6
            clear hcb hco hct hcv hdp hq hnn hs6 hg6 hg5 hsj hss
            go_wp2_with fail
            go_roundw
            case rel => exact ⟨j2 + 1, by go_num, by omega, Lib.hid (by rw [HFO.out]; exact HS6.out), Lib.hid (HB5.out.grown HG6.out (by omega) (fun k e => by cases e; omega)), Lib.hid (HSL5.out.keep (fun k o' hk ho _ => box_kept HG6.out ho (fun e => by cases e; omega)))⟩
            case measure => simp [intOf]; omega
          · obtain rfl : j2 = ln := by omega
            have HS7 : Hid (FrSt z w5 (p.bnd.foldl add1 cnt) (p.here cnt out) (na + j2)) := Lib.hid (by
              have h := HS5.out
              rwa [List.take_of_length_le (by rw [hln5.out]; exact Nat.le_refl _)] at h)
            obtain ⟨d0, d1, d4, d11⟩ := (HP.out w5 HB5.out).2
            have hbw5 : b < w5.heap.size := by omega
            clear hg5 d0 d1 d4
            go_wp2_with fail
            clear d11
            have hdp := p.depth_pos
            have HCB : Hid (∀ y, 0 ≤ p.bnd.foldl add1 cnt y ∧ p.bnd.foldl add1 cnt y ≤ cnt y + 2) := Lib.hid (fun y => by
              have h1 := foldl_add1 p.bnd cnt y
              have h2 := cntOf_bound y p.bnd
              have h3 := HCN.out y
              omega)
            obtain ⟨cb, hcb⟩ : ∃ cb, p.bnd.foldl add1 cnt = cb := ⟨_, rfl⟩
            rw [hcb] at HS7 HCB
            have HCBE := Lib.hid hcb
            have hhl : (p.here cnt out).length ≤ out.length + 1 + p.vs.length := by
              unfold Pr.here
              refine Nat.le_trans (foldV_len _ _ _) ?_
              split
              · have := occ_len cnt out p.c; omega
              · omega
            obtain ⟨hh, hhe⟩ : ∃ hh, p.here cnt out = hh := ⟨_, rfl⟩
            rw [hhe] at HS7 hhl
            have HHE := Lib.hid hhe
            clear hcb hhe
            go_loopw [57] (fun i wr => ∃ j : Nat, i = .int .i64 (j : Int) ∧ j ≤ kn ∧ Hid (∃ n3, n3 ≤ na + 2 + 4 * Pr.sizes (p.ps.take j) ∧ FrSt z wr cb (Pr.fws (p.ps.take j) cb hh) n3) ∧ Hid (Below (z + 1) W wr)) (fun i _ => kn - (intOf i).toNat)
            case atStart => exact ⟨0, rfl, by omega, Lib.hid ⟨na + j2, by simp [Pr.sizes]; omega, by simpa [Pr.fws] using HS7.out⟩, HB5⟩
            case round =>
              obtain ⟨j3, rfl, hj3, HS8, HB8⟩ := hrel
              obtain ⟨w8, hw8⟩ : ∃ w8, w8 = wr := ⟨_, rfl⟩
              subst hw8
              obtain ⟨n3, hn3, hst8⟩ := HS8.out
              have hz8 := hst8.size
              obtain ⟨e0, e1, e4, e11⟩ := (HP.out w8 HB8.out).2
              have hbw8 : b < w8.heap.size := by omega
              by_cases hlt3 : j3 < kn
              · obtain ⟨u, huj⟩ : ∃ u, p.ps[j3]? = some u := ⟨_, List.getElem?_eq_getElem (by rw [← hkl.out]; exact hlt3)⟩
                obtain ⟨gb, go, rfl, hgz, hu⟩ := HKG.out j3 u w8.drew huj HB8.out.drew
                obtain ⟨_, _, _, x7⟩ := hst8.cells
                have hmem := List.mem_of_getElem? huj
                have hud := Pr.depth_mem hmem
                have hus := Pr.sizes_take huj
                have husl := Pr.sizes_take_le p.ps (j3 + 1)
                have hun := Pr.nmss_take huj
                have hunl := Pr.nmss_take_le p.ps (j3 + 1)
                have hfl := Pr.fws_len (p.ps.take j3) cb hh
                have hnn := HN.out
                have HFO : Hid (Pr.fws (p.ps.take (j3 + 1)) cb hh = u.fw cb (Pr.fws (p.ps.take j3) cb hh)) := Lib.hid (by rw [take_snoc_get huj, Pr.fws_snoc])
                have HIU := Lib.hid (HIH.out u hmem cb (Pr.fws (p.ps.take j3) cb hh) n3 gb (go + j3 * 12) w8.drew (hst8.to (Below.refl _ _).drew) hu (fun y => by have := HCB.out y; have := HCN.out y; omega) (by omega) (by omega))
                have HUS : Hid (n3 + 4 * u.size ≤ na + 2 + 4 * Pr.sizes (p.ps.take (j3 + 1))) := Lib.hid (by omega)
                have hgw : gb < w8.heap.size := by omega
                clear huj hu hmem hud hus husl hun hunl hfl hnn hst8
                go_wp2_with fail
                go_region_with (go_at_call 68; refine HIU.out.mono ?_; rintro e w9 ⟨⟨vv, rfl⟩, hs9, hb9⟩; replace hs9 := Lib.hid hs9; replace hb9 := Lib.hid hb9)
                all_goals
                  go_wp2_with fail
                  go_roundw
                  case rel =>
                    obtain ⟨n9, hn9, hst9⟩ := hs9.out
                    exact ⟨j3 + 1, by go_num, by omega, Lib.hid ⟨n9, by have := HUS.out; omega, by rw [HFO.out]; exact hst9⟩, Lib.hid (HB8.out.drew.trans hb9.out)⟩
                  case measure => simp [intOf]; omega
              · obtain rfl : j3 = kn := by omega
                have HFW : Hid (Pr.fws (p.ps.take j3) cb hh = p.fw cnt out) := Lib.hid (by
                  rw [List.take_of_length_le (by rw [hkl.out]; exact Nat.le_refl _), Pr.fw_eq, HCBE.out, HHE.out])
                have hstk : p.ps.take j3 = p.ps := List.take_of_length_le (by rw [hkl.out]; exact Nat.le_refl _)
                rw [hstk] at hn3
                rw [HFW.out] at hst8
                have hloww : Low S w8 := fun k hk => by have := hS k hk; omega
                have HBI := Lib.hid (binders_any S p b o w8 hloww (HP.out w8 HB8.out).1)
                have HST8 := Lib.hid hst8
                clear hloww e0 e1 e4 e11 hst8 hstk
                go_wp2_with (go_at_call 69; refine HBI.out.mono ?_; rintro e w10 ⟨la2, ln2, lc2, rfl, hsl2, hb10⟩; replace hsl2 := Lib.hid hsl2; replace hb10 := Lib.hid hb10)
                have hln2 : ln2 ≤ 2 := by
                  obtain ⟨_, _, _, e, h, _⟩ := hsl2.out.open
                  simp only [Value.slice.injEq] at e
                  have := h.out; omega
                have HS10 : Hid (FrSt z w10 cb (p.fw cnt out) n3) := Lib.hid (HST8.out.to hb10.out)
                have HB10 : Hid (Below (z + 1) W w10) := Lib.hid (HB8.out.trans (hb10.out.mono (by omega)))
                have HSL10 : Hid (StrSl (fun k => z + 8 ≤ k) w10 (.slice la2 ln2 lc2) p.bnd) := Lib.hid (hsl2.out.mono (fun k hk => by have := hk.1; omega))
                clear hsl2 hb10 HBI
                go_loopw [72] (fun i wr => ∃ j : Nat, i = .int .i64 (j : Int) ∧ j ≤ ln2 ∧ Hid (FrSt z wr ((p.bnd.take j).foldl sub1 cb) (p.fw cnt out) (n3 + j)) ∧ Hid (Below (z + 1) W wr) ∧ Hid (StrSl (fun k => z + 8 ≤ k) wr (.slice la2 ln2 lc2) p.bnd)) (fun i _ => ln2 - (intOf i).toNat)
                case atStart => exact ⟨0, rfl, by omega, Lib.hid (by simpa using HS10.out), HB10, HSL10⟩
                case round =>
                  obtain ⟨j4, rfl, hj4, HS11, HB11, HSL11⟩ := hrel
                  obtain ⟨w11, hw11⟩ : ∃ w11, w11 = wr := ⟨_, rfl⟩
                  subst hw11
                  have hz11 := HS11.out.size
                  obtain ⟨_, _, _, e, hln11, _, hg11⟩ := HSL11.out.open
                  simp only [Value.slice.injEq] at e
                  obtain ⟨rfl, rfl, rfl⟩ := e
                  by_cases hlt4 : j4 < ln2
                  · obtain ⟨s, hsj⟩ : ∃ s, p.bnd[j4]? = some s := ⟨_, List.getElem?_eq_getElem (by rw [← hln11.out]; exact hlt4)⟩
                    obtain ⟨hss, gb, go, rfl, _, y0⟩ := hg11 j4 s hsj
                    obtain ⟨_, x5, _, _⟩ := HS11.out.cells
                    have hlk := HS11.out.cnts.look hss
                    have hcb2 := HCB.out s
                    have hcn2 := HCN.out s
                    have hco := cntOf_bound s (p.bnd.take j4)
                    have hct : (p.bnd.take j4).length ≤ 2 := by rw [List.length_take]; omega
                    have hcv := foldl_sub1 (p.bnd.take j4) cb s
                    obtain ⟨q, hq⟩ : ∃ q, (p.bnd.take j4).foldl sub1 cb s = q := ⟨_, rfl⟩
                    have hnn := HN.out
                    obtain ⟨w12, hu, hs12, hg12⟩ := HS11.out.count (by unfold maxLen; omega) hss (q - 1)
                    rw [hq] at hlk hcv
                    have hq1 : -2 ≤ q := by omega
                    have hq2 : q ≤ 1000002 := by omega
                    have HFO : Hid ((p.bnd.take (j4 + 1)).foldl sub1 cb = fun y => if y = s then q - 1 else (p.bnd.take j4).foldl sub1 cb y) := Lib.hid (by rw [take_snoc_get hsj, List.foldl_append, ← hq]; rfl)
                    have HS12 := Lib.hid hs12
                    have HG12 := Lib.hid hg12
                    clear hcb2 hcn2 hco hct hcv hq hnn hs12 hg12 hg11 hsj hss
                    go_wp2_with fail
                    go_roundw
                    case rel => exact ⟨j4 + 1, by go_num, by omega, Lib.hid (by rw [HFO.out]; exact HS12.out), Lib.hid (HB11.out.grown HG12.out (by omega) (fun k e => by cases e; omega)), Lib.hid (HSL11.out.keep (fun k o' hk ho _ => box_kept HG12.out ho (fun e => by cases e; omega)))⟩
                    case measure => simp [intOf]; omega
                  · obtain rfl : j4 = ln2 := by omega
                    have HFIN : Hid (FrSt z w11 cnt (p.fw cnt out) (n3 + j4)) := Lib.hid (by
                      have h := HS11.out
                      rw [List.take_of_length_le (by rw [hln11.out]; exact Nat.le_refl _), ← HCBE.out, sub_add] at h
                      exact h)
                    clear hg11
                    go_wp2_with fail
                    go_end0
                    have hnn := HN.out
                    exact ⟨⟨_, rfl⟩, ⟨n3 + j4, by omega, HFIN.out⟩, HB11.out⟩
  · go_wp2_with (go_at_call 66; refine HPX.out.mono ?_; rintro e w1 ⟨rfl, rfl⟩)
    go_region_with (go_at_call 67; refine HOC.out.mono ?_; rintro e w2 ⟨⟨vv, rfl⟩, hs2, hb2⟩)
    all_goals
      have HS0' := Lib.hid hs2
      have HB0 : Hid (Below (z + 1) W w2) := Lib.hid (((Below.refl (z + 1) W).drew).trans hb2)
      have HO0' : Hid (p.here cnt out = p.vs.foldl (occV cnt) (occ cnt out p.c)) := Lib.hid (by unfold Pr.here; rw [HPB.out]; rfl)
      have hol := occ_len cnt out p.c
      obtain ⟨out0, hout0⟩ : ∃ o, occ cnt out p.c = o := ⟨_, rfl⟩
      rw [hout0] at HS0' HO0' hol
      have HS0 := HS0'
      have HO0 := HO0'
      clear HS0' HO0' hout0 hs2 hb2 c0 c1 c4 c11 hbW x6 x7 HOC
      obtain ⟨d0, d1, d4, d11⟩ := (HP.out w2 HB0.out).2
      have hw2s := HS0.out.size
      have hbw2 : b < w2.heap.size := by omega
      go_wp2_with fail
      clear d0 d1 d4 d11
      go_loopw [28] (fun i wr => ∃ j : Nat, i = .int .i64 (j : Int) ∧ j ≤ an ∧ Hid (FrSt z wr cnt ((p.vs.take j).foldl (occV cnt) out0) na) ∧ Hid (Below (z + 1) W wr)) (fun i _ => an - (intOf i).toNat)
      case atStart => exact ⟨0, rfl, by omega, Lib.hid (by simpa using HS0.out), HB0⟩
      case round =>
        obtain ⟨j, rfl, hj, HSj, HBj⟩ := hrel
        obtain ⟨wo, hwo⟩ : ∃ wo, wo = wr := ⟨_, rfl⟩
        subst hwo
        have hzs := HSj.out.size
        by_cases hlt : j < an
        · obtain ⟨a, haj⟩ : ∃ a, p.vs[j]? = some a := ⟨_, List.getElem?_eq_getElem (by rw [← hal.out]; exact hlt)⟩
          obtain ⟨has, gb, go, rfl, hgz, q0, q1, q2⟩ := HAG.out j a wo haj HBj.out
          have hgs : gb < wo.heap.size := by omega
          have hz6 : z + 6 < wo.heap.size := by omega
          obtain ⟨_, _, x6, _⟩ := HSj.out.cells
          have HFO : Hid ((p.vs.take (j + 1)).foldl (occV cnt) out0 = occV cnt ((p.vs.take j).foldl (occV cnt) out0) a) := Lib.hid (by rw [take_snoc_get haj, List.foldl_append]; rfl)
          have hfl := foldV_len cnt (p.vs.take j) out0
          have hlv : (p.vs.take j).length = j := by rw [List.length_take]; have := hal.out; omega
          have hbx := (Below.refl (z + 1) wo).alloc (by omega) (.cells #[.int .i64 a.k, .string a.n, .int .i64 a.x] 74)
          have HST1 := Lib.hid (HSj.out.to (blkBelow wo #[.int .i64 a.k, .string a.n, .int .i64 a.x] 74))
          have HBX := Lib.hid hbx
          obtain ⟨ak, hak⟩ : ∃ ak, a.k = ak := ⟨_, rfl⟩
          rw [hak] at q0 HST1 HBX
          have HAK := Lib.hid hak
          have hnn := HN.out
          have hao := hal.out
          have HLEN : ((p.vs.take j).foldl (occV cnt) out0).length + 1 ≤ 1000000000 := by omega
          have HOC := Lib.hid (occurs_any z cnt _ na a.n has HLEN _ HST1.out)
          clear hfl hlv haj hbx hak hnn hao HLEN has
          by_cases h1 : ak = 1
          · subst h1
            go_wp2_with (go_at_call 67; refine HOC.out.mono ?_; rintro e w3 ⟨⟨vv, rfl⟩, hs3, hb3⟩; replace hs3 := Lib.hid hs3; replace hb3 := Lib.hid hb3)
            go_roundw
            case rel => exact ⟨j + 1, by go_num, by omega, Lib.hid (by rw [HFO.out]; unfold occV; rw [if_pos HAK.out]; exact hs3.out), Lib.hid ((HBj.out.trans HBX.out).trans hb3.out)⟩
            case measure => simp [intOf]; omega
          · have h1' : (ak == 1) = false := by simpa using h1
            have H1 := Lib.hid h1
            clear h1
            go_wp2_with fail
            go_roundw
            case rel => exact ⟨j + 1, by go_num, by omega, Lib.hid (by rw [HFO.out]; unfold occV; rw [if_neg (by rw [HAK.out]; exact H1.out)]; exact HST1.out), Lib.hid (HBj.out.trans HBX.out)⟩
            case measure => simp [intOf]; omega
        · obtain rfl : j = an := by omega
          have HSH : Hid (FrSt z wo cnt (p.here cnt out) na) := Lib.hid (by
            rw [HO0.out]
            have h := HSj.out
            rwa [List.take_of_length_le (by rw [hal.out]; exact Nat.le_refl _)] at h)
          have hloww : Low S wo := fun k hk => by have := hS k hk; omega
          have HBI := Lib.hid (binders_any S p b o wo hloww (HP.out wo HBj.out).1)
          have hbl := p.bnd_len
          clear hloww
          go_wp2_with (go_at_call 69; refine HBI.out.mono ?_; rintro e w4 ⟨la, ln, lc, rfl, hsl, hb4⟩; replace hsl := Lib.hid hsl; replace hb4 := Lib.hid hb4)
          have hln : ln ≤ 2 := by
            obtain ⟨_, _, _, e, h, _⟩ := hsl.out.open
            simp only [Value.slice.injEq] at e
            have := h.out; omega
          have HS4 : Hid (FrSt z w4 cnt (p.here cnt out) na) := Lib.hid (HSH.out.to hb4.out)
          have HB4 : Hid (Below (z + 1) W w4) := Lib.hid (HBj.out.trans (hb4.out.mono (by omega)))
          have HSL4 : Hid (StrSl (fun k => z + 8 ≤ k) w4 (.slice la ln lc) p.bnd) := Lib.hid (hsl.out.mono (fun k hk => by have := hk.1; omega))
          clear hsl hb4 HBI
          go_loopw [43] (fun i wr => ∃ j : Nat, i = .int .i64 (j : Int) ∧ j ≤ ln ∧ Hid (FrSt z wr ((p.bnd.take j).foldl add1 cnt) (p.here cnt out) (na + j)) ∧ Hid (Below (z + 1) W wr) ∧ Hid (StrSl (fun k => z + 8 ≤ k) wr (.slice la ln lc) p.bnd)) (fun i _ => ln - (intOf i).toNat)
          case atStart => exact ⟨0, rfl, by omega, Lib.hid (by simpa using HS4.out), HB4, HSL4⟩
          case round =>
            obtain ⟨j2, rfl, hj2, HS5, HB5, HSL5⟩ := hrel
            obtain ⟨w5, hw5⟩ : ∃ w5, w5 = wr := ⟨_, rfl⟩
            subst hw5
            have hz5 := HS5.out.size
            obtain ⟨_, _, _, e, hln5, _, hg5⟩ := HSL5.out.open
            simp only [Value.slice.injEq] at e
            obtain ⟨rfl, rfl, rfl⟩ := e
            by_cases hlt2 : j2 < ln
            · obtain ⟨s, hsj⟩ : ∃ s, p.bnd[j2]? = some s := ⟨_, List.getElem?_eq_getElem (by rw [← hln5.out]; exact hlt2)⟩
              obtain ⟨hss, gb, go, rfl, _, y0⟩ := hg5 j2 s hsj
              obtain ⟨_, x5, _, _⟩ := HS5.out.cells
              have hlk := HS5.out.cnts.look hss
              have hcb := HCN.out s
              have hco := cntOf_bound s (p.bnd.take j2)
              have hct : (p.bnd.take j2).length ≤ 2 := by rw [List.length_take]; omega
              have hcv := foldl_add1 (p.bnd.take j2) cnt s
              have hdp := p.depth_pos
              obtain ⟨q, hq⟩ : ∃ q, (p.bnd.take j2).foldl add1 cnt s = q := ⟨_, rfl⟩
              have hnn := HN.out
              obtain ⟨w6, hu, hs6, hg6⟩ := HS5.out.count (by unfold maxLen; omega) hss (q + 1)
              rw [hq] at hlk hcv
              have hq1 : 0 ≤ q := by omega
              have hq2 : q ≤ 1000002 := by omega
              have HFO : Hid ((p.bnd.take (j2 + 1)).foldl add1 cnt = fun y => if y = s then q + 1 else (p.bnd.take j2).foldl add1 cnt y) := Lib.hid (by rw [take_snoc_get hsj, List.foldl_append, ← hq]; rfl)
              have HS6 := Lib.hid hs6
              have HG6 := Lib.hid hg6
              clear hcb hco hct hcv hdp hq hnn hs6 hg6 hg5 hsj hss
              go_wp2_with fail
              go_roundw
              case rel => exact ⟨j2 + 1, by go_num, by omega, Lib.hid (by rw [HFO.out]; exact HS6.out), Lib.hid (HB5.out.grown HG6.out (by omega) (fun k e => by cases e; omega)), Lib.hid (HSL5.out.keep (fun k o' hk ho _ => box_kept HG6.out ho (fun e => by cases e; omega)))⟩
              case measure => simp [intOf]; omega
            · obtain rfl : j2 = ln := by omega
              have HS7 : Hid (FrSt z w5 (p.bnd.foldl add1 cnt) (p.here cnt out) (na + j2)) := Lib.hid (by
                have h := HS5.out
                rwa [List.take_of_length_le (by rw [hln5.out]; exact Nat.le_refl _)] at h)
              obtain ⟨d0, d1, d4, d11⟩ := (HP.out w5 HB5.out).2
              have hbw5 : b < w5.heap.size := by omega
              clear hg5 d0 d1 d4
              go_wp2_with fail
              clear d11
              have hdp := p.depth_pos
              have HCB : Hid (∀ y, 0 ≤ p.bnd.foldl add1 cnt y ∧ p.bnd.foldl add1 cnt y ≤ cnt y + 2) := Lib.hid (fun y => by
                have h1 := foldl_add1 p.bnd cnt y
                have h2 := cntOf_bound y p.bnd
                have h3 := HCN.out y
                omega)
              obtain ⟨cb, hcb⟩ : ∃ cb, p.bnd.foldl add1 cnt = cb := ⟨_, rfl⟩
              rw [hcb] at HS7 HCB
              have HCBE := Lib.hid hcb
              have hhl : (p.here cnt out).length ≤ out.length + 1 + p.vs.length := by
                unfold Pr.here
                refine Nat.le_trans (foldV_len _ _ _) ?_
                split
                · have := occ_len cnt out p.c; omega
                · omega
              obtain ⟨hh, hhe⟩ : ∃ hh, p.here cnt out = hh := ⟨_, rfl⟩
              rw [hhe] at HS7 hhl
              have HHE := Lib.hid hhe
              clear hcb hhe
              go_loopw [57] (fun i wr => ∃ j : Nat, i = .int .i64 (j : Int) ∧ j ≤ kn ∧ Hid (∃ n3, n3 ≤ na + 2 + 4 * Pr.sizes (p.ps.take j) ∧ FrSt z wr cb (Pr.fws (p.ps.take j) cb hh) n3) ∧ Hid (Below (z + 1) W wr)) (fun i _ => kn - (intOf i).toNat)
              case atStart => exact ⟨0, rfl, by omega, Lib.hid ⟨na + j2, by simp [Pr.sizes]; omega, by simpa [Pr.fws] using HS7.out⟩, HB5⟩
              case round =>
                obtain ⟨j3, rfl, hj3, HS8, HB8⟩ := hrel
                obtain ⟨w8, hw8⟩ : ∃ w8, w8 = wr := ⟨_, rfl⟩
                subst hw8
                obtain ⟨n3, hn3, hst8⟩ := HS8.out
                have hz8 := hst8.size
                obtain ⟨e0, e1, e4, e11⟩ := (HP.out w8 HB8.out).2
                have hbw8 : b < w8.heap.size := by omega
                by_cases hlt3 : j3 < kn
                · obtain ⟨u, huj⟩ : ∃ u, p.ps[j3]? = some u := ⟨_, List.getElem?_eq_getElem (by rw [← hkl.out]; exact hlt3)⟩
                  obtain ⟨gb, go, rfl, hgz, hu⟩ := HKG.out j3 u w8.drew huj HB8.out.drew
                  obtain ⟨_, _, _, x7⟩ := hst8.cells
                  have hmem := List.mem_of_getElem? huj
                  have hud := Pr.depth_mem hmem
                  have hus := Pr.sizes_take huj
                  have husl := Pr.sizes_take_le p.ps (j3 + 1)
                  have hun := Pr.nmss_take huj
                  have hunl := Pr.nmss_take_le p.ps (j3 + 1)
                  have hfl := Pr.fws_len (p.ps.take j3) cb hh
                  have hnn := HN.out
                  have HFO : Hid (Pr.fws (p.ps.take (j3 + 1)) cb hh = u.fw cb (Pr.fws (p.ps.take j3) cb hh)) := Lib.hid (by rw [take_snoc_get huj, Pr.fws_snoc])
                  have HIU := Lib.hid (HIH.out u hmem cb (Pr.fws (p.ps.take j3) cb hh) n3 gb (go + j3 * 12) w8.drew (hst8.to (Below.refl _ _).drew) hu (fun y => by have := HCB.out y; have := HCN.out y; omega) (by omega) (by omega))
                  have HUS : Hid (n3 + 4 * u.size ≤ na + 2 + 4 * Pr.sizes (p.ps.take (j3 + 1))) := Lib.hid (by omega)
                  have hgw : gb < w8.heap.size := by omega
                  clear huj hu hmem hud hus husl hun hunl hfl hnn hst8
                  go_wp2_with fail
                  go_region_with (go_at_call 68; refine HIU.out.mono ?_; rintro e w9 ⟨⟨vv, rfl⟩, hs9, hb9⟩; replace hs9 := Lib.hid hs9; replace hb9 := Lib.hid hb9)
                  all_goals
                    go_wp2_with fail
                    go_roundw
                    case rel =>
                      obtain ⟨n9, hn9, hst9⟩ := hs9.out
                      exact ⟨j3 + 1, by go_num, by omega, Lib.hid ⟨n9, by have := HUS.out; omega, by rw [HFO.out]; exact hst9⟩, Lib.hid (HB8.out.drew.trans hb9.out)⟩
                    case measure => simp [intOf]; omega
                · obtain rfl : j3 = kn := by omega
                  have HFW : Hid (Pr.fws (p.ps.take j3) cb hh = p.fw cnt out) := Lib.hid (by
                    rw [List.take_of_length_le (by rw [hkl.out]; exact Nat.le_refl _), Pr.fw_eq, HCBE.out, HHE.out])
                  have hstk : p.ps.take j3 = p.ps := List.take_of_length_le (by rw [hkl.out]; exact Nat.le_refl _)
                  rw [hstk] at hn3
                  rw [HFW.out] at hst8
                  have hloww : Low S w8 := fun k hk => by have := hS k hk; omega
                  have HBI := Lib.hid (binders_any S p b o w8 hloww (HP.out w8 HB8.out).1)
                  have HST8 := Lib.hid hst8
                  clear hloww e0 e1 e4 e11 hst8 hstk
                  go_wp2_with (go_at_call 69; refine HBI.out.mono ?_; rintro e w10 ⟨la2, ln2, lc2, rfl, hsl2, hb10⟩; replace hsl2 := Lib.hid hsl2; replace hb10 := Lib.hid hb10)
                  have hln2 : ln2 ≤ 2 := by
                    obtain ⟨_, _, _, e, h, _⟩ := hsl2.out.open
                    simp only [Value.slice.injEq] at e
                    have := h.out; omega
                  have HS10 : Hid (FrSt z w10 cb (p.fw cnt out) n3) := Lib.hid (HST8.out.to hb10.out)
                  have HB10 : Hid (Below (z + 1) W w10) := Lib.hid (HB8.out.trans (hb10.out.mono (by omega)))
                  have HSL10 : Hid (StrSl (fun k => z + 8 ≤ k) w10 (.slice la2 ln2 lc2) p.bnd) := Lib.hid (hsl2.out.mono (fun k hk => by have := hk.1; omega))
                  clear hsl2 hb10 HBI
                  go_loopw [72] (fun i wr => ∃ j : Nat, i = .int .i64 (j : Int) ∧ j ≤ ln2 ∧ Hid (FrSt z wr ((p.bnd.take j).foldl sub1 cb) (p.fw cnt out) (n3 + j)) ∧ Hid (Below (z + 1) W wr) ∧ Hid (StrSl (fun k => z + 8 ≤ k) wr (.slice la2 ln2 lc2) p.bnd)) (fun i _ => ln2 - (intOf i).toNat)
                  case atStart => exact ⟨0, rfl, by omega, Lib.hid (by simpa using HS10.out), HB10, HSL10⟩
                  case round =>
                    obtain ⟨j4, rfl, hj4, HS11, HB11, HSL11⟩ := hrel
                    obtain ⟨w11, hw11⟩ : ∃ w11, w11 = wr := ⟨_, rfl⟩
                    subst hw11
                    have hz11 := HS11.out.size
                    obtain ⟨_, _, _, e, hln11, _, hg11⟩ := HSL11.out.open
                    simp only [Value.slice.injEq] at e
                    obtain ⟨rfl, rfl, rfl⟩ := e
                    by_cases hlt4 : j4 < ln2
                    · obtain ⟨s, hsj⟩ : ∃ s, p.bnd[j4]? = some s := ⟨_, List.getElem?_eq_getElem (by rw [← hln11.out]; exact hlt4)⟩
                      obtain ⟨hss, gb, go, rfl, _, y0⟩ := hg11 j4 s hsj
                      obtain ⟨_, x5, _, _⟩ := HS11.out.cells
                      have hlk := HS11.out.cnts.look hss
                      have hcb2 := HCB.out s
                      have hcn2 := HCN.out s
                      have hco := cntOf_bound s (p.bnd.take j4)
                      have hct : (p.bnd.take j4).length ≤ 2 := by rw [List.length_take]; omega
                      have hcv := foldl_sub1 (p.bnd.take j4) cb s
                      obtain ⟨q, hq⟩ : ∃ q, (p.bnd.take j4).foldl sub1 cb s = q := ⟨_, rfl⟩
                      have hnn := HN.out
                      obtain ⟨w12, hu, hs12, hg12⟩ := HS11.out.count (by unfold maxLen; omega) hss (q - 1)
                      rw [hq] at hlk hcv
                      have hq1 : -2 ≤ q := by omega
                      have hq2 : q ≤ 1000002 := by omega
                      have HFO : Hid ((p.bnd.take (j4 + 1)).foldl sub1 cb = fun y => if y = s then q - 1 else (p.bnd.take j4).foldl sub1 cb y) := Lib.hid (by rw [take_snoc_get hsj, List.foldl_append, ← hq]; rfl)
                      have HS12 := Lib.hid hs12
                      have HG12 := Lib.hid hg12
                      clear hcb2 hcn2 hco hct hcv hq hnn hs12 hg12 hg11 hsj hss
                      go_wp2_with fail
                      go_roundw
                      case rel => exact ⟨j4 + 1, by go_num, by omega, Lib.hid (by rw [HFO.out]; exact HS12.out), Lib.hid (HB11.out.grown HG12.out (by omega) (fun k e => by cases e; omega)), Lib.hid (HSL11.out.keep (fun k o' hk ho _ => box_kept HG12.out ho (fun e => by cases e; omega)))⟩
                      case measure => simp [intOf]; omega
                    · obtain rfl : j4 = ln2 := by omega
                      have HFIN : Hid (FrSt z w11 cnt (p.fw cnt out) (n3 + j4)) := Lib.hid (by
                        have h := HS11.out
                        rw [List.take_of_length_le (by rw [hln11.out]; exact Nat.le_refl _), ← HCBE.out, sub_add] at h
                        exact h)
                      clear hg11
                      go_wp2_with fail
                      go_end0
                      have hnn := HN.out
                      exact ⟨⟨_, rfl⟩, ⟨n3 + j4, by omega, HFIN.out⟩, HB11.out⟩

end Go.Proofs.YtipjjhkgcbabnaaDoor

/- Programs: the reference's Total. -/
namespace Go.Proofs.YtipjjhkgcbabnaaDoor
open Go.RowKit Go.Deep Go.Shelf

theorem sumN_take {α : Type} {l : List α} {j : Nat} {x : α} (f : α → Nat) (h : l[j]? = some x) : sumN ((l.take (j + 1)).map f) = sumN ((l.take j).map f) + f x := by
  rw [map_take_snoc f h, sumN_append]; simp [sumN]
theorem sumN_take_le {α : Type} (l : List α) (j : Nat) (f : α → Nat) : sumN ((l.take j).map f) ≤ sumN (l.map f) := sumN_le_of_prefix (map_prefix l j f)
theorem pr_slices {B : Nat → Prop} {w : World} {p : Pr} {lv av tl tk kv : Value} (h : PrVal B w (prAgg p lv av tl tk kv) p) :
    (∃ (a : Option Addr) (n c : Nat), lv = .slice a n c) ∧ (∃ (a : Option Addr) (n c : Nat), av = .slice a n c) ∧ (∃ (a : Option Addr) (n c : Nat), tl = .slice a n c) ∧ (∃ (a : Option Addr) (n c : Nat), tk = .slice a n c) ∧ ∃ (a : Option Addr) (n c : Nat), kv = .slice a n c := by
  obtain ⟨lv', av', tl', tk', kv', e, _, hl, ha, ht, hk⟩ := h
  simp only [prAgg, Value.agg.injEq, Array.mk.injEq, List.cons.injEq, and_true, true_and] at e
  obtain ⟨rfl, rfl, rfl, rfl, rfl⟩ := e
  obtain ⟨a1, n1, c1, e1, _⟩ := hl.open
  obtain ⟨a2, n2, c2, e2, _⟩ := ha.open
  obtain ⟨a3, n3, c3, e3, _⟩ := hk.open
  obtain ⟨s1, s2⟩ := slices_of ht
  exact ⟨⟨_, _, _, e1⟩, ⟨_, _, _, e2⟩, s1, s2, ⟨_, _, _, e3⟩⟩

set_option maxHeartbeats 4000000 in
set_option maxRecDepth 100000 in
theorem rptotal_any (B : Nat → Prop) (g : Pg) (hg : GGood g) (hsz : g.total ≤ 1000000000) (v : Value) (w : World) (hB : Low B w) (hv : PgVal B w v g) :
    Calls Tryd.prog 30 #[v] w fun e w' => e = .returned (.int .i64 g.total) ∧ Below w.heap.size w w' := by
  obtain ⟨dv, lv, av, tl, tk, kv, rfl, hd, hp⟩ := hv
  obtain ⟨⟨la, ln, lc, rfl⟩, ⟨aa, an, ac, rfl⟩, ⟨ta, tn, tc, rfl⟩, ⟨ua, un, uc, rfl⟩, ka, kn, kc, rfl⟩ := pr_slices hp
  obtain ⟨pa, len, c, rfl, hlen, hmx, hget⟩ := hd.open
  have hgm := (hg.2.2 g.m g.main_mem)
  obtain ⟨w1, hw1⟩ : ∃ w1, w.alloc (cell13 g (.slice pa len c) (.slice la ln lc) (.slice aa an ac) (.slice ta tn tc) (.slice ua un uc) (.slice ka kn kc)) = w1 := ⟨_, rfl⟩
  have hb01 : Below w.heap.size w w1 := by rw [← hw1]; exact blkBelow w _ _
  have hs1 : w1.heap.size = w.heap.size + 1 := by rw [← hw1]; simp
  have cell1 : ∀ (W : World), Below (w.heap.size + 1) w1 W → ∀ (j : Nat) (v : Value), #[.slice pa len c, .int .i64 g.m.k, .string g.m.c, .string g.m.x, .slice la ln lc, .slice aa an ac, .int .i64 g.m.t.k, .int .i64 g.m.t.p, .string g.m.t.n, .int .i64 g.m.t.s, .slice ta tn tc, .slice ua un uc, .slice ka kn kc][j]? = some v → W.cell? ⟨w.heap.size, j, none⟩ = some v := fun W hW j v hj => blk_cell (by rw [hw1]; exact hW) j hj
  have hlow : ∀ W, Below (w.heap.size + 1) w1 W → Below w.heap.size w W := fun W hW => hb01.trans (hW.mono (by omega))
  have HSz : Hid (∀ q : Later (w.heap.size + 1) w1, Calls Tryd.prog 26 #[prAgg g.m (.slice la ln lc) (.slice aa an ac) (.slice ta tn tc) (.slice ua un uc) (.slice ka kn kc)] q.1 fun e w' => e = .returned (.int .i64 g.m.size) ∧ Below q.1.heap.size q.1 w') := Lib.hid (fun q => prsize_any B g.m hgm.2.2 _ q.1 (hB.le (hlow _ q.2).size) (hp.to hB (hlow _ q.2)))
  have HTy : Hid (∀ q : Later (w.heap.size + 1) w1, Calls Tryd.prog 62 #[prAgg g.m (.slice la ln lc) (.slice aa an ac) (.slice ta tn tc) (.slice ua un uc) (.slice ka kn kc)] q.1 fun e w' => e = .returned (.int .i64 g.m.typ) ∧ Below q.1.heap.size q.1 w') := Lib.hid (fun q => prtyp_any B g.m hgm.1.2 (by have := g.total_eq; omega) _ q.1 (hB.le (hlow _ q.2).size) (hp.to hB (hlow _ q.2)))
  have htot := g.total_eq
  have hle0 : g.m.size + g.m.typ + sumN (g.ds.map Df.all) ≤ 1000000000 := by omega
  have HTot := Lib.hid htot
  rw [htot]
  have HD : Hid (∀ (j : Nat) (d : Df), g.ds[j]? = some d → ∃ kb ko, pa = some ⟨kb, ko, none⟩ ∧ kb < w.heap.size ∧ (∀ W, Below w.heap.size w W → DfAt B W d kb (ko + j * 14)) ∧ PGood d.b ∧ d.b.size ≤ 1000000 ∧ d.b.typ ≤ 1000000000 ∧ (∀ a ∈ d.ms, a.t.size ≤ 300)) := Lib.hid (fun j d hj => by
    obtain ⟨kb, ko, e, hkb, hda⟩ := hget j d hj
    have hmem := List.mem_of_getElem? hj
    have h1 := hg.2.2 d.b (Pg.body_mem hmem)
    have h2 : d.b.typ ≤ 1000000000 := by
      have h3 := sumN_take Df.all hj
      have h4 := sumN_take_le g.ds (j + 1) Df.all
      unfold Df.all at h3
      unfold Df.all at h4 hle0
      omega
    exact ⟨kb, ko, e, hB kb hkb, fun W hW => hda.keep (hW.keeps'.mono hB) hkb, h1.1, h1.2.2, h2, fun a ha => (hg.pm hmem ha).1⟩)
  obtain ⟨ds, hds⟩ : ∃ ds, g.ds = ds := ⟨_, rfl⟩
  rw [hds] at hlen HD hle0 ⊢
  clear hget hd hp hgm hsz hg htot hds
  unfold prAgg at HSz HTy
  obtain ⟨z1, hz1⟩ : ∃ z, g.m.size = z := ⟨_, rfl⟩
  obtain ⟨z2, hz2⟩ : ∃ z, g.m.typ = z := ⟨_, rfl⟩
  rw [hz1] at HSz hle0 ⊢
  rw [hz2] at HTy hle0 ⊢
  have hz12 : z1 + z2 ≤ 1000000000 := by omega
  clear hz1 hz2
  have CE := Lib.hid cell1
  have HL := Lib.hid hlow
  have HW1 := Lib.hid hw1
  have HLE := Lib.hid hle0
  have e0 := fun q : Later (w.heap.size + 1) w1 => cell1 q.1 q.2 0 _ rfl
  have e1 := fun q : Later (w.heap.size + 1) w1 => cell1 q.1 q.2 1 _ rfl
  have e2 := fun q : Later (w.heap.size + 1) w1 => cell1 q.1 q.2 2 _ rfl
  have e3 := fun q : Later (w.heap.size + 1) w1 => cell1 q.1 q.2 3 _ rfl
  have e4 := fun q : Later (w.heap.size + 1) w1 => cell1 q.1 q.2 4 _ rfl
  have e5 := fun q : Later (w.heap.size + 1) w1 => cell1 q.1 q.2 5 _ rfl
  have e6 := fun q : Later (w.heap.size + 1) w1 => cell1 q.1 q.2 6 _ rfl
  have e7 := fun q : Later (w.heap.size + 1) w1 => cell1 q.1 q.2 7 _ rfl
  have e8 := fun q : Later (w.heap.size + 1) w1 => cell1 q.1 q.2 8 _ rfl
  have e9 := fun q : Later (w.heap.size + 1) w1 => cell1 q.1 q.2 9 _ rfl
  have e10 := fun q : Later (w.heap.size + 1) w1 => cell1 q.1 q.2 10 _ rfl
  have e11 := fun q : Later (w.heap.size + 1) w1 => cell1 q.1 q.2 11 _ rfl
  have e12 := fun q : Later (w.heap.size + 1) w1 => cell1 q.1 q.2 12 _ rfl
  clear cell1 hlow hle0 hb01
  simp only [cell13] at hw1
  go_enter Tryd.func30, Tryd.ntmps30
  go_wp2_with fail
  clear hw1
  refine wp_region_later (w.heap.size + 1) w1 (by kernel_rfl) (by kernel_rfl) (Below.refl _ _) ?_
  repeat (go_big_quiet_step (first | (go_at_call 26; exact later_call _ (by omega) (HSz.out _)) | (go_at_call 62; exact later_call _ (by omega) (HTy.out _))))
  refine wpQuiet_nil ?_
  rintro _ ⟨⟨w5, hb5⟩, rfl⟩
  clear e0 e1 e2 e3 e4 e5 e6 e7 e8 e9 e10 e11 e12
  go_wp2_with fail
  go_loopw [3, 4] (fun a i wr => ∃ j : Nat, i = .int .i64 j ∧ j ≤ len ∧ a = .int .i64 ((z1 + z2 + sumN ((ds.take j).map Df.all) : Nat) : Int) ∧ Below (w.heap.size + 1) w1 wr) (fun _ i _ => len - (intOf i).toNat)
  case atStart => exact ⟨0, rfl, by omega, by simp [sumN], hb5⟩
  case round =>
    obtain ⟨j, rfl, hj, rfl, hb⟩ := hrel
    obtain ⟨wo, hwo⟩ : ∃ wo, wo = wr := ⟨_, rfl⟩
    subst hwo
    have c0 := CE.out wo hb 0 _ rfl
    have hw := HL.out wo hb
    by_cases hlt : j < len
    · obtain ⟨d, hdj⟩ : ∃ d, ds[j]? = some d := ⟨_, List.getElem?_eq_getElem (by rw [← hlen.out]; exact hlt)⟩
      obtain ⟨kb, ko, rfl, hkb, hda, hdg, hds, hdt, hpm⟩ := HD.out j d hdj
      have hst := sumN_take Df.all hdj
      have hsl := sumN_take_le ds (j + 1) Df.all
      have hle := HLE.out
      obtain ⟨a0, ha0⟩ : ∃ a0, z1 + z2 + sumN ((ds.take j).map Df.all) = a0 := ⟨_, rfl⟩
      have hall : d.all = d.b.size + d.b.typ + sumN d.pms := rfl
      have hbnd : a0 + (d.b.size + d.b.typ + sumN d.pms) ≤ 1000000000 := by omega
      have HST := Lib.hid hst
      have HA0 := Lib.hid ha0
      have HALL := Lib.hid hall
      rw [ha0]
      obtain ⟨ma, mn, mc, la', ln', lc', aa', an', ac', ta', tn', tc', ua', un', uc', ka', kn', kc', ⟨d0, d1, d2, d3, d4, d5, d6, d7, d8, d9, d10, d11, d12, d13⟩, hms, hval⟩ := (hda wo hw).load'
      have hBr : Low B wo := hB.le hw.size
      have hkr := hw.size
      have HS2 : Hid (∀ q : Later wo.heap.size wo, Calls Tryd.prog 26 #[prAgg d.b (.slice la' ln' lc') (.slice aa' an' ac') (.slice ta' tn' tc') (.slice ua' un' uc') (.slice ka' kn' kc')] q.1 fun e w' => e = .returned (.int .i64 d.b.size) ∧ Below q.1.heap.size q.1 w') := Lib.hid (fun q => prsize_any B d.b hds _ q.1 (hBr.le q.2.size) (hval.to hBr q.2))
      have HT2 : Hid (∀ q : Later wo.heap.size wo, Calls Tryd.prog 62 #[prAgg d.b (.slice la' ln' lc') (.slice aa' an' ac') (.slice ta' tn' tc') (.slice ua' un' uc') (.slice ka' kn' kc')] q.1 fun e w' => e = .returned (.int .i64 d.b.typ) ∧ Below q.1.heap.size q.1 w') := Lib.hid (fun q => prtyp_any B d.b hdg.2 hdt _ q.1 (hBr.le q.2.size) (hval.to hBr q.2))
      have lift : ∀ {v : Value} {x : Nat}, wo.cell? ⟨kb, x, none⟩ = some v → ∀ q : Later wo.heap.size wo, q.1.cell? ⟨kb, x, none⟩ = some v := fun h q => (q.2.cell (p := ⟨kb, _, none⟩) (by simp; omega)).trans h
      obtain ⟨pma, pmn, pmc, hpe, hmlen, hmmx, hmget⟩ := hms.open
      simp only [Value.slice.injEq] at hpe
      obtain ⟨rfl, rfl, rfl⟩ := hpe
      have HMG : Hid (∀ (k : Nat) (a : Pm), d.ms[k]? = some a → ∃ pb po, ma = some ⟨pb, po, none⟩ ∧ pb < wo.heap.size ∧ (∀ W, Below wo.heap.size wo W → PmAt B W a pb (po + k * 7)) ∧ a.t.size ≤ 300) := Lib.hid (fun k a hk => by
        obtain ⟨pb, po, e, hpb, hpa⟩ := hmget k a hk
        exact ⟨pb, po, e, hBr pb hpb, fun W hW => hpa.keep (hW.keeps'.mono hBr) hpb, hpm a (List.mem_of_getElem? hk)⟩)
      have HML := Lib.hid hmlen.out
      unfold prAgg at HS2 HT2
      obtain ⟨y1, hy1⟩ : ∃ y, d.b.size = y := ⟨_, rfl⟩
      obtain ⟨y2, hy2⟩ : ∃ y, d.b.typ = y := ⟨_, rfl⟩
      rw [hy1] at HS2 hbnd HALL
      rw [hy2] at HT2 hbnd HALL
      have f0 : ∀ q : Later wo.heap.size wo, q.1.cell? ⟨w.heap.size, 0, none⟩ = some (.slice (some ⟨kb, ko, none⟩) len c) := fun q => CE.out q.1 (hb.trans (q.2.mono (by have := hb.size; omega))) 0 _ rfl
      have g2 := lift d2
      have g3 := lift d3
      have g4 := lift d4
      have g5 := lift d5
      have g6 := lift d6
      have g7 := lift d7
      have g8 := lift d8
      have g9 := lift d9
      have g10 := lift d10
      have g11 := lift d11
      have g12 := lift d12
      have g13 := lift d13
      have h12 : a0 + y1 + y2 ≤ 1000000000 := by omega
      have h11 : a0 + y1 ≤ 1000000000 := by omega
      have HBND := Lib.hid hbnd
      clear hst hsl hle ha0 hall hda hval hms hmget hpm hdg hds hdt hy1 hy2 lift d2 d3 d4 d5 d6 d7 d8 d9 d10 d11 d12 d13 d0 hdj hbnd hmlen
      go_wp2_with fail
      refine wp_region_later wo.heap.size wo (by kernel_rfl) (by kernel_rfl) (Below.refl _ _) ?_
      repeat (go_big_quiet_step (first | (go_at_call 26; exact later_call _ (Nat.le_refl _) (HS2.out _)) | (go_at_call 62; exact later_call _ (Nat.le_refl _) (HT2.out _))))
      refine wpQuiet_nil ?_
      rintro _ ⟨⟨w6, hb6⟩, rfl⟩
      clear f0 g2 g3 g4 g5 g6 g7 g8 g9 g10 g11 g12 g13
      go_wp2_with fail
      go_loopw [3, 5] (fun a i wr => ∃ k : Nat, i = .int .i64 k ∧ k ≤ mn ∧ a = .int .i64 ((a0 + y1 + y2 + sumN (d.pms.take k) : Nat) : Int) ∧ Below wo.heap.size wo wr) (fun _ i _ => mn - (intOf i).toNat)
      case atStart => exact ⟨0, rfl, by omega, by simp [sumN], hb6⟩
      case round =>
        obtain ⟨k, rfl, hk, rfl, hb7⟩ := hrel
        have hsw := hb.size
        have p0 := CE.out wr (hb.trans (hb7.mono (by omega))) 0 _ rfl
        have p1 := (hb7.cell (p := ⟨kb, ko + j * 14 + 1, none⟩) (by simp; omega)).trans d1
        by_cases hlt2 : k < mn
        · obtain ⟨a, hak⟩ : ∃ a, d.ms[k]? = some a := ⟨_, List.getElem?_eq_getElem (by rw [← HML.out]; exact hlt2)⟩
          obtain ⟨pb, po, rfl, hpb, hpa, has⟩ := HMG.out k a hak
          obtain ⟨la3, ln3, lc3, ka3, kn3, kc3, ⟨q0, q1, q2, q3, q4, q5, q6⟩, htv⟩ := (hpa wr hb7).load'
          have hst2 : sumN (d.pms.take (k + 1)) = sumN (d.pms.take k) + a.t.size := by
            unfold Df.pms; rw [← List.map_take, ← List.map_take]; exact sumN_take _ hak
          have hsl2 : sumN (d.pms.take (k + 1)) ≤ sumN d.pms := sumN_le_of_prefix (List.take_prefix _ _)
          have HT3 := Lib.hid (rsize_any B a.t (by omega) _ wr (hBr.le hb7.size) htv)
          obtain ⟨s1, hs1⟩ : ∃ s, a.t.size = s := ⟨_, rfl⟩
          obtain ⟨s0, hs0⟩ : ∃ s, a0 + y1 + y2 + sumN (d.pms.take k) = s := ⟨_, rfl⟩
          rw [hs1] at HT3 hst2
          have hs01 : s0 + s1 ≤ 1000000000 := by have := HBND.out; omega
          have HX : Hid (a0 + y1 + y2 + sumN (d.pms.take (k + 1)) = s0 + s1) := Lib.hid (by omega)
          rw [hs0]
          clear hst2 hsl2 hs0 hs1 htv hpa has hak q0
          go_wp2_with (go_at_call 15; refine HT3.out.mono ?_; rintro e w8 ⟨rfl, hb8⟩)
          go_roundw
          case rel => exact ⟨k + 1, by go_num, by omega, ret_val (by rw [HX.out]; omega), below_seq hb7 hb8⟩
          case measure => simp [intOf]; omega
        · obtain rfl : k = mn := by omega
          have HX : Hid (a0 + y1 + y2 + sumN (d.pms.take k) = z1 + z2 + sumN ((ds.take (j + 1)).map Df.all)) := Lib.hid (by
            have h1 : d.pms.take k = d.pms := List.take_of_length_le (by unfold Df.pms; rw [List.length_map, HML.out]; exact Nat.le_refl _)
            rw [h1, HST.out, HALL.out]; have := HA0.out; omega)
          rw [HX.out]
          go_wp2_with fail
          go_roundw
          case rel => exact ⟨j + 1, by go_num, by omega, rfl, hb.trans (hb7.mono (by omega))⟩
          case measure => simp [intOf]; omega
    · obtain rfl : j = len := by omega
      go_wp2_with fail
      go_ret
      exact ⟨ret_int (by rw [List.take_of_length_le (by rw [hlen.out]; exact Nat.le_refl _)]), hw⟩

end Go.Proofs.YtipjjhkgcbabnaaDoor

/- Processes: Free. -/
namespace Go.Proofs.YtipjjhkgcbabnaaDoor
open Go.RowKit Go.Deep Go.Shelf

theorem walk_any (z : Nat) (S : Nat → Prop) (hS : ∀ k, S k → k < z + 1) : ∀ p : Pr, WalkP z S p := by
  refine Pr.ind ?_
  intro k c x ls vs t ps ih
  exact walk_step z S hS (.mk k c x ls vs t ps) ih
noncomputable def Pr.free (p : Pr) : List ByteArray := p.fw (fun _ => 0) []

theorem run_makeMap_b (w : World) : (Instr.makeMap 95 none).run Tryd.prog w = .ok (.map (some w.heap.size)) (w.alloc (.map #[] 0)) := by simp [Instr.makeMap]
theorem run_makeMap_i (w : World) : (Instr.makeMap 96 none).run Tryd.prog w = .ok (.map (some w.heap.size)) (w.alloc (.map #[] 0)) := by simp [Instr.makeMap]

theorem strSl_row2 {W : World} {base : Nat} {v : Value} {l : List ByteArray} (h : W.ownsRow base 9 1 v l.length (l.map .string)) (hs : ∀ s ∈ l, s.size ≤ maxLen) (hl : l.length ≤ maxLen) :
    (∃ a n c, v = .slice a n c) ∧ StrSl (Fresh base W.heap.size) W v l := by
  rcases h.2 with ⟨rfl, h0⟩ | ⟨g, cap, cur, rfl, hb, hg, hnc, _⟩
  · have : l = [] := List.length_eq_zero_iff.1 h0
    subst this
    exact ⟨⟨_, _, _, rfl⟩, nil_strs _ _⟩
  · refine ⟨⟨_, _, _, rfl⟩, .inr ⟨_, _, _, rfl, ⟨hb, (h.lt g rfl).2⟩, hnc, fun j s hj => ?_⟩, hl, hs⟩
    rw [Nat.zero_add, h.cellAt j (by have := (List.getElem?_eq_some_iff.1 hj).1; omega), List.getElem?_map, hj]
    rfl

theorem heap_push (w : World) (o : Obj) : (w.alloc o).heap = w.heap.push o := rfl

/-- The state at the start. -/
theorem frSt_made (w : World) (o : Obj) (W : World)
    (hW : ((((((((w.alloc o).alloc (.cells #[.slice none 0 0] 22)).alloc (.map #[] 0)).alloc (.cells #[.map (some (w.heap.size + 1 + 1))] 95)).alloc (.map #[] 0)).alloc (.cells #[.map (some (w.heap.size + 1 + 1 + 1 + 1))] 96)).alloc
      (.cells #[.func (.func 67) #[] #[.pointer (some ⟨w.heap.size + 1 + 1 + 1 + 1 + 1, 0, none⟩), .pointer (some ⟨w.heap.size + 1 + 1 + 1, 0, none⟩), .pointer (some ⟨w.heap.size + 1, 0, none⟩)]] 97)).alloc
      (.cells #[.func (.func 68) #[] #[.pointer (some ⟨w.heap.size + 1 + 1 + 1 + 1 + 1 + 1, 0, none⟩), .pointer (some ⟨w.heap.size + 1 + 1 + 1 + 1 + 1, 0, none⟩), .pointer (some ⟨w.heap.size + 1 + 1 + 1 + 1 + 1 + 1 + 1, 0, none⟩)]] 98)) = W) :
    FrSt w.heap.size W (fun _ => 0) [] 0 ∧ Below (w.heap.size + 1) (w.alloc o) W := by
  obtain ⟨W1, h1⟩ : ∃ W1, (w.alloc o).alloc (.cells #[.slice none 0 0] 22) = W1 := ⟨_, rfl⟩
  have s1 : W1.heap.size = w.heap.size + 2 := by rw [← h1]; simp
  have b1 : Below (w.heap.size + 1) (w.alloc o) W1 := by rw [← h1]; exact (Below.refl _ _).alloc (by simp) _
  have k1 : W1.heap[w.heap.size + 1]? = some (.cells #[.slice none 0 0] 22 (0, 0)) := by
    have h := World.alloc_heap_new (w.alloc o) (.cells #[.slice none 0 0] 22)
    rw [World.size_alloc, h1] at h; exact h
  rw [h1] at hW
  obtain ⟨W2, h2⟩ : ∃ W2, W1.alloc (.map #[] 0) = W2 := ⟨_, rfl⟩
  have s2 : W2.heap.size = w.heap.size + 3 := by rw [← h2, World.size_alloc, s1]
  have b2 : Below (w.heap.size + 2) W1 W2 := by rw [← h2]; exact (Below.refl _ _).alloc (by omega) _
  have m2 : ∃ D : DataW Unit, W2.ownsMap Tryd.prog 9 (plainElem Tryd.prog 4) (w.heap.size + 2) 0 D ∧ ∀ s : ByteArray, D.atKey (.string s.data.toList) (.lit (.bool false)) = .lit (.bool (memB s [])) := by
    rw [← h2, ← s1]; exact ⟨_, World.ownsMap_made W1 _ _ _, fun s => rfl⟩
  rw [h2] at hW
  obtain ⟨W3, h3⟩ : ∃ W3, W2.alloc (.cells #[.map (some (w.heap.size + 1 + 1))] 95) = W3 := ⟨_, rfl⟩
  have s3 : W3.heap.size = w.heap.size + 4 := by rw [← h3, World.size_alloc, s2]
  have b3 : Below (w.heap.size + 3) W2 W3 := by rw [← h3]; exact (Below.refl _ _).alloc (by omega) _
  have k3 : W3.heap[w.heap.size + 3]? = some (.cells #[.map (some (w.heap.size + 2))] 95 (0, 0)) := by
    rw [← h3, ← s2]; exact World.alloc_heap_new _ _
  rw [h3] at hW
  obtain ⟨W4, h4⟩ : ∃ W4, W3.alloc (.map #[] 0) = W4 := ⟨_, rfl⟩
  have s4 : W4.heap.size = w.heap.size + 5 := by rw [← h4, World.size_alloc, s3]
  have b4 : Below (w.heap.size + 4) W3 W4 := by rw [← h4]; exact (Below.refl _ _).alloc (by omega) _
  have m4 : CntIs W4 (w.heap.size + 4) 0 (fun _ => 0) := by
    rw [← h4, ← s3]; exact ⟨_, MapIs.made _ _, fun s => rfl⟩
  rw [h4] at hW
  obtain ⟨W5, h5⟩ : ∃ W5, W4.alloc (.cells #[.map (some (w.heap.size + 1 + 1 + 1 + 1))] 96) = W5 := ⟨_, rfl⟩
  have s5 : W5.heap.size = w.heap.size + 6 := by rw [← h5, World.size_alloc, s4]
  have b5 : Below (w.heap.size + 5) W4 W5 := by rw [← h5]; exact (Below.refl _ _).alloc (by omega) _
  have k5 : W5.heap[w.heap.size + 5]? = some (.cells #[.map (some (w.heap.size + 4))] 96 (0, 0)) := by
    rw [← h5, ← s4]; exact World.alloc_heap_new _ _
  rw [h5] at hW
  obtain ⟨W6, h6⟩ : ∃ W6, W5.alloc (.cells #[.func (.func 67) #[] #[.pointer (some ⟨w.heap.size + 1 + 1 + 1 + 1 + 1, 0, none⟩), .pointer (some ⟨w.heap.size + 1 + 1 + 1, 0, none⟩), .pointer (some ⟨w.heap.size + 1, 0, none⟩)]] 97) = W6 := ⟨_, rfl⟩
  have s6 : W6.heap.size = w.heap.size + 7 := by rw [← h6, World.size_alloc, s5]
  have b6 : Below (w.heap.size + 6) W5 W6 := by rw [← h6]; exact (Below.refl _ _).alloc (by omega) _
  have k6 : W6.heap[w.heap.size + 6]? = some (.cells #[.func (.func 67) #[] #[ptr (w.heap.size + 5), ptr (w.heap.size + 3), ptr (w.heap.size + 1)]] 97 (0, 0)) := by
    rw [← h6, ← s5]; exact World.alloc_heap_new _ _
  rw [h6] at hW
  have s7 : W.heap.size = w.heap.size + 8 := by rw [← hW, World.size_alloc, s6]
  have b7 : Below (w.heap.size + 7) W6 W := by rw [← hW]; exact (Below.refl _ _).alloc (by omega) _
  have k7 : W.heap[w.heap.size + 7]? = some (.cells #[.func (.func 68) #[] #[ptr (w.heap.size + 6), ptr (w.heap.size + 5), ptr (w.heap.size + 7)]] 98 (0, 0)) := by
    rw [← hW, ← s6]; exact World.alloc_heap_new _ _
  have b67 : Below (w.heap.size + 6) W5 W := b6.trans (b7.mono (by omega))
  have b57 : Below (w.heap.size + 5) W4 W := b5.trans (b67.mono (by omega))
  have b47 : Below (w.heap.size + 4) W3 W := b4.trans (b57.mono (by omega))
  have b37 : Below (w.heap.size + 3) W2 W := b3.trans (b47.mono (by omega))
  have b27 : Below (w.heap.size + 2) W1 W := b2.trans (b37.mono (by omega))
  refine ⟨⟨⟨_, (b27.block _ (by omega)).trans k1, World.ownsRow_nil _ _ _ _⟩, ?_, (b47.block _ (by omega)).trans k3, ?_, (b67.block _ (by omega)).trans k5, (b7.block _ (by omega)).trans k6, k7, by omega, fun s h => by cases h⟩, b1.trans (b27.mono (by omega))⟩
  · obtain ⟨D, ho, hf⟩ := m2
    exact ⟨D, ho.kept (⟨b37.os, b37.tape, b37.output, b37.size, fun k hk _ => b37.block k (by omega)⟩ : W2.grownBy W none) (by simp), hf⟩
  · exact m4.kept (⟨b57.os, b57.tape, b57.output, b57.size, fun k hk _ => b57.block k (by omega)⟩ : W4.grownBy W none) (by simp)

set_option maxHeartbeats 2000000 in
set_option maxRecDepth 100000 in
theorem pfree_any (B : Nat → Prop) (p : Pr) (hdep : p.depth ≤ 100000) (hsz : p.size ≤ 1000000) (hnm : p.nms ≤ 1000000000) (v : Value) (w : World) (hB : Low B w) (hv : PrVal B w v p) :
    Calls Tryd.prog 37 #[v] w (StrRet w p.free) := by
  have hv' := hv
  obtain ⟨lv, av, tl, tk, kv, rfl, _⟩ := hv'
  obtain ⟨⟨la, ln, lc, rfl⟩, ⟨aa, an, ac, rfl⟩, ⟨ta, tn, tc, rfl⟩, ⟨ua, un, uc, rfl⟩, ⟨ka, kn, kc, rfl⟩⟩ := pr_slices hv
  have hmb := run_makeMap_b
  have hmi := run_makeMap_i
  have eg2 := enters_walk
  have hsf : ∀ (w : World) (a : Addr) (m : Mode) (f : Fn) (t : Array Value) (b : Array Value), (store a (.func f t b) m).run Tryd.prog w = stored Tryd.prog w a (.func f t b) m := fun w a m f t b => run_store _ w a _ m rfl
  have HV := Lib.hid hv
  have HB := Lib.hid hB
  clear hv hB
  go_enter Tryd.func37, Tryd.ntmps37
  go_wp2_with fail
  obtain ⟨W0, hW0⟩ : ∃ W0, _ = W0 := ⟨_, rfl⟩
  have hm := frSt_made w (cell12 p (.slice la ln lc) (.slice aa an ac) (.slice ta tn tc) (.slice ua un uc) (.slice ka kn kc)) W0 hW0
  obtain ⟨hst, hbel⟩ := hm
  have hp := boxed_prAt (S := fun k => B k ∨ k = w.heap.size) HB.out HV.out hbel (fun k h => .inl h) (.inr rfl)
  have hw := walk_any w.heap.size (fun k => B k ∨ k = w.heap.size) (fun k h => h.elim (fun h => by have := HB.out k h; omega) (fun h => by omega)) p (fun _ => 0) [] 0 w.heap.size 0 W0 hst hp (fun y => ⟨Int.le_refl _, by omega⟩) (by simpa using hnm) (by omega)
  have hb0 : Below w.heap.size w W0 := ((Below.refl w.heap.size w).alloc (Nat.le_refl _) _).trans (hbel.mono (by omega))
  have hlen := Pr.fw_len p (fun _ => 0) []
  rw [hW0]
  clear hW0 hst hp hbel hmb hmi eg2 hsf
  refine hw.mono ?_
  rintro e w1 ⟨⟨vv, rfl⟩, ⟨na, _, hst⟩, hb1⟩
  obtain ⟨⟨v1, c1, hrow⟩, _, _, _, _, _, _, hsz1, htx⟩ := hst
  obtain ⟨⟨a1, n1, x1, rfl⟩, hsl⟩ := strSl_row2 hrow htx (by simp at hlen; unfold maxLen; omega)
  have v2 := Boxed.cell c1
  have hbb := Lib.hid (hb0.trans (hb1.mono (by omega)))
  have HSL := Lib.hid hsl
  clear hrow htx hsl hb0 hb1 c1 hw hlen
  go_wp2_with fail
  go_ret
  exact ⟨_, _, _, rfl, HSL.out.mono (fun k hk => ⟨by have := hk.1; omega, hk.2⟩), hbb.out⟩

end Go.Proofs.YtipjjhkgcbabnaaDoor
