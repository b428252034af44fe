/- Programs: Program. (and what follows from it) -/
import Derived.Test.YtliijbcgkkiekaaGreatDoorPz8
import Derived.Test.YtliijbcgkkiekaaGreatDoorPz9
import Derived.OwnWalk

/- Programs: Program. -/
namespace Go.Proofs.YtliijbcgkkiekaaGreatDoor
open Go.RowKit Go.Deep Go.Shelf

/-- The first error of some processes. -/
noncomputable def firstR : List Pr → Int
  | [] => 0
  | p :: r => if prightE p = 0 then firstR r else prightE p
theorem firstR_append (l r : List Pr) (h : firstR l = 0) : firstR (l ++ r) = firstR r := by
  induction l with
  | nil => rfl
  | cons p l ih =>
    unfold firstR at h
    by_cases hp : prightE p = 0
    · rw [if_pos hp] at h
      rw [List.cons_append, firstR, if_pos hp]; exact ih h
    · rw [if_neg hp] at h; exact absurd h hp
noncomputable def pprogE (g : Pg) : Int := if g.many then 2 else if firstR g.bodies = 0 then (if g.ds.all hdB then 0 else 3) else firstR g.bodies
theorem pright_is (E : Nat) (B : Nat → Prop) (p : Pr) (hg : PGood p) (hdep : p.depth ≤ 99999) (r : Int) (hr : prightE p = r) (v : Value) (w : World) (hB : Low B w) (he : Env E w) (hv : PrVal B w v p) :
    Calls Tryz.prog 7 #[v] w fun e w' => e = .returned (.int .i64 r) ∧ Below w.heap.size w w' := by
  rw [← hr]; exact pright_any E B p hg hdep v w hB he hv
theorem pmany_is (S : Nat → Prop) (g : Pg) (hg : GGood g) (bt o : Nat) (m : Bool) (hm : g.many = m) (w : World) (hS : Low S w) (hgp : PgAt S w g bt o) :
    Calls Tryz.prog 29 #[.pointer (some ⟨bt, o, none⟩)] w fun e w' => e = .returned (.bool m) ∧ Below w.heap.size w w' := by
  rw [← hm]; exact pmany_any S g hg bt o w hS hgp
theorem headFits_is (S : Nat → Prop) (d : Df) (b o E : Nat) (m : Bool) (hm : hdB d = m) (w : World) (hS : Low S w) (he : Env E w) (hSb : S b) (hf : ∀ a ∈ d.ms, a.t.fine ∧ a.t.depth ≤ 1000) (hd : DfAt S w d b o) :
    Calls Tryz.prog 31 #[.pointer (some ⟨b, o, none⟩)] w fun e w' => e = .returned (.bool m) ∧ Below w.heap.size w w' := by
  rw [← hm]; exact headFits_any S d b o E w hS he hSb hf hd

set_option maxHeartbeats 4000000 in
set_option maxRecDepth 100000 in
theorem pprogram_any (E : Nat) (B : Nat → Prop) (g : Pg) (hg : GGood g) (v : Value) (w : World) (hB : Low B w) (he : Env E w) (hv : PgVal B w v g) :
    Calls Tryz.prog 9 #[v] w fun e w' => e = .returned (.int .i64 (pprogE g)) ∧ Below w.heap.size w w' := by
  obtain ⟨dv, lv, av, tl, tk, kv, rfl, hd, hp⟩ := hv
  obtain ⟨pa, len, c, rfl, hlen, hmx, hget⟩ := hd.open
  have hb1 : Below w.heap.size w (w.alloc (cell13 g (.slice pa len c) lv av tl tk kv)) := blkBelow w _ _
  have hpg := boxed_pgAt (S := fun k => B k ∨ k = w.heap.size) hB hd hp (Below.refl _ (w.alloc (cell13 g (.slice pa len c) lv av tl tk kv))) (fun _ h => .inl h) (.inr rfl)
  have hS : Low (fun k => B k ∨ k = w.heap.size) (w.alloc (cell13 g (.slice pa len c) lv av tl tk kv)) := fun k h => h.elim (fun h => by have := hB k h; simp; omega) (fun h => by simp; omega)
  have cd : (w.alloc (cell13 g (.slice pa len c) lv av tl tk kv)).cell? ⟨w.heap.size, 0, none⟩ = some (.slice pa len c) := blk_cell (Below.refl _ _) 0 rfl
  have hs1 : (w.alloc (cell13 g (.slice pa len c) lv av tl tk kv)).heap.size = w.heap.size + 1 := by simp
  obtain ⟨m, hm⟩ : ∃ m, g.many = m := ⟨_, rfl⟩
  obtain ⟨w1, hw1⟩ : ∃ w1, w.alloc (cell13 g (.slice pa len c) lv av tl tk kv) = w1 := ⟨_, rfl⟩
  rw [hw1] at hb1 hpg hS cd hs1
  obtain ⟨S, hSS⟩ : ∃ S : Nat → Prop, (fun k => B k ∨ k = w.heap.size) = S := ⟨_, rfl⟩
  have hBS : ∀ k, B k → S k := fun k hk => by rw [← hSS]; exact .inl hk
  rw [hSS] at hpg hS
  have HMA := Lib.hid (pmany_is S g hg w.heap.size 0 m hm w1 hS hpg)
  have HE1 := Lib.hid (he.to hb1)
  have HB1 := Lib.hid hb1
  have HPG : Hid (∀ W, Below w1.heap.size w1 W → PgAt S W g w.heap.size 0 ∧ W.cell? ⟨w.heap.size, 0, none⟩ = some (.slice pa len c) ∧ Low S W) := Lib.hid (fun W hW => ⟨hpg.keep (hW.keeps'.mono hS), (hW.cell (p := ⟨w.heap.size, 0, none⟩) (by simp; omega)).trans cd, hS.le hW.size⟩)
  have HD : Hid (∀ (j : Nat) (d : Df), g.ds[j]? = some d → ∃ kb ko, pa = some ⟨kb, ko, none⟩ ∧ S kb ∧ (∀ W, Below w1.heap.size w1 W → DfAt S W d kb (ko + j * 14)) ∧ ∀ a ∈ d.ms, a.t.fine ∧ a.t.depth ≤ 1000) := Lib.hid (fun j d hj => by
    obtain ⟨kb, ko, e, hkb, hda⟩ := hget j d hj
    have hmem := List.mem_of_getElem? hj
    exact ⟨kb, ko, e, hBS kb hkb, fun W hW => ((hda.keep (hb1.keeps'.mono hB) hkb).mono hBS).keep (hW.keeps'.mono hS) (hBS kb hkb), fun a ha => ⟨(hg.2.1 d hmem a ha).1, by have := (hg.pm hmem ha).2; omega⟩⟩)
  have HG := Lib.hid hg
  obtain ⟨rv, hrv⟩ : ∃ rv, pprogE g = rv := ⟨_, rfl⟩
  have HRV : Hid (rv = if m then 2 else if firstR g.bodies = 0 then (if g.ds.all hdB then 0 else 3) else firstR g.bodies) := Lib.hid (by rw [← hrv, ← hm]; rfl)
  have HW1 := Lib.hid hw1
  have hlen20 : len ≤ 1000 := by have := hlen.out; have := hg.1; omega
  rw [hrv]
  clear hrv hm hg hpg hS cd hd hp hget hB he hSS hBS hw1 hb1
  cases m
  · have HRV2 : Hid (rv = if firstR g.bodies = 0 then (if g.ds.all hdB then 0 else 3) else firstR g.bodies) := Lib.hid (by rw [HRV.out]; rfl)
    clear HRV
    have hw1 := HW1.out
    simp only [cell13] at hw1
    go_enter Tryz.func9, Tryz.ntmps9
    go_wp2_with (go_at_call 29; refine HMA.out.mono ?_; rintro e w2 ⟨rfl, hb2⟩; replace hb2 := Lib.hid hb2)
    have hw12 : w1.heap.size ≤ w2.heap.size := hb2.out.size
    have HBo := Lib.hid (bodies_any S g w.heap.size 0 w2 (HPG.out w2 hb2.out).2.2 (HPG.out w2 hb2.out).1 (by have := HG.out.1; omega))
    clear hw1
    go_wp2_with (go_at_call 30; refine HBo.out.mono ?_; rintro e w3 ⟨r, cp, rfl, hrow, hr1, hr2, hb3⟩; replace hrow := Lib.hid hrow; replace hb3 := Lib.hid hb3)
    obtain ⟨nb, hnb⟩ : ∃ nb, g.bodies.length = nb := ⟨_, rfl⟩
    have hnbb : nb ≤ 1001 := by rw [← hnb]; unfold Pg.bodies; have := HG.out.1; simp; omega
    rw [hnb]
    have HNB := Lib.hid hnb
    have HB13 := Lib.hid (hb2.out.trans (hb3.out.mono hw12))
    have hw13 : w1.heap.size ≤ w3.heap.size := HB13.out.size
    clear hnb HBo
    go_loopw [10] (fun i wr => ∃ (j : Nat), i = .int .i64 (j : Int) ∧ j ≤ nb ∧ Hid (firstR (g.bodies.take j) = 0) ∧ Below w3.heap.size w3 wr) (fun i _ => nb - (intOf i).toNat)
    case atStart => exact ⟨0, rfl, by omega, Lib.hid (by simp [firstR]), Below.refl _ _⟩
    case round =>
      obtain ⟨j, rfl, hj, HT, hw⟩ := hrel
      have hw1r : Below w1.heap.size w1 wr := HB13.out.trans (hw.mono hw13)
      by_cases hlt : j < nb
      · obtain ⟨p, hpj⟩ : ∃ p, g.bodies[j]? = some p := ⟨_, List.getElem?_eq_getElem (by rw [HNB.out]; exact hlt)⟩
        obtain ⟨kb, ko, hcell, hpr⟩ := hrow.out j p hpj
        have cj := (hw.cell (p := ⟨r, j, none⟩) hr2).trans hcell
        have hgd := HG.out.2.2 p (List.mem_of_getElem? hpj)
        have hlow3 : Low S w3 := (HPG.out w3 HB13.out).2.2
        obtain ⟨la, ln, lc, aa, an, ac, ta, tn, tc, ua, un, uc, ka, kn, kc, ⟨d0, d1, d2, d3, d4, d5, d6, d7, d8, d9, d10, d11⟩, hval⟩ := (PrAt.keep (hw.keeps'.mono hlow3) _ _ _ hpr).load'
        obtain ⟨x, hx⟩ : ∃ x, prightE p = x := ⟨_, rfl⟩
        have HR := Lib.hid (pright_is E S p hgd.1 (by have := hgd.2.1; omega) x hx _ wr (hlow3.le hw.size) (HE1.out.to hw1r) hval)
        have HST : Hid (firstR (g.bodies.take (j + 1)) = x) := Lib.hid (by
          rw [take_snoc_get hpj, firstR_append _ _ HT.out, firstR, hx]
          by_cases h0 : x = 0
          · rw [if_pos h0, h0]; rfl
          · rw [if_neg h0])
        have HFB : Hid (x ≠ 0 → firstR g.bodies = x) := Lib.hid (fun h0 => by
          have e : g.bodies = g.bodies.take j ++ p :: g.bodies.drop (j + 1) := by
            have hjl : j < g.bodies.length := (List.getElem?_eq_some_iff.1 hpj).1
            conv => lhs; rw [← List.take_append_drop j g.bodies, List.drop_eq_getElem_cons hjl]
            congr 2
            exact (List.getElem?_eq_some_iff.1 hpj).2
          rw [e, firstR_append _ _ HT.out, firstR, hx, if_neg h0])
        unfold prAgg at HR
        clear hpj hcell hpr hgd hlow3 hval hx
        by_cases h0 : x = 0
        · subst h0
          go_wp2_with (go_at_call 7; refine HR.out.mono ?_; rintro e w4 ⟨rfl, hb4⟩)
          go_roundw
          case rel => exact ⟨j + 1, by go_num, by omega, HST, hw.trans (hb4.mono hw.size)⟩
          case measure => simp [intOf]; omega
        · have h0' : (x != 0) = true := by simpa using h0
          have HFB1 := Lib.hid (HFB.out h0)
          have H0 := Lib.hid h0
          clear h0 HFB
          go_wp2_with (go_at_call 7; refine HR.out.mono ?_; rintro e w4 ⟨rfl, hb4⟩)
          go_ret
          exact ⟨ret_int (by rw [HRV2.out, HFB1.out, if_neg H0.out]), below_seq HB1.out (hw1r.trans (hb4.mono hw1r.size))⟩
      · obtain rfl : j = nb := by omega
        have HFB : Hid (firstR g.bodies = 0) := Lib.hid (by have h := HT.out; rwa [List.take_of_length_le (by rw [HNB.out]; exact Nat.le_refl _)] at h)
        have HRV3 : Hid (rv = if g.ds.all hdB then 0 else 3) := Lib.hid (by rw [HRV2.out, if_pos HFB.out])
        have cdr := (HPG.out wr hw1r).2.1
        have HW1R := Lib.hid hw1r
        have hwrs : w1.heap.size ≤ wr.heap.size := hw1r.size
        clear HRV2 hw hw1r HT
        go_wp2_with fail
        clear cdr
        obtain ⟨wo, hwo⟩ : ∃ wo, wo = wr := ⟨_, rfl⟩
        subst hwo
        go_loopw [25] (fun i wr => ∃ (k : Nat), i = .int .i64 (k : Int) ∧ k ≤ len ∧ Hid ((g.ds.take k).all hdB = true) ∧ Below wo.heap.size wo wr) (fun i _ => len - (intOf i).toNat)
        case atStart => exact ⟨0, rfl, by omega, Lib.hid (by simp), Below.refl _ _⟩
        case round =>
          obtain ⟨k, rfl, hk, HT, hw⟩ := hrel
          have hw1r : Below w1.heap.size w1 wr := HW1R.out.trans (hw.mono hwrs)
          obtain ⟨_, cdr, hlowr⟩ := HPG.out wr hw1r
          by_cases hlt : k < len
          · obtain ⟨d, hdk⟩ : ∃ d, g.ds[k]? = some d := ⟨_, List.getElem?_eq_getElem (by rw [← hlen.out]; exact hlt)⟩
            obtain ⟨kb, ko, rfl, hkS, hda, hdm⟩ := HD.out k d hdk
            obtain ⟨x, hx⟩ : ∃ x, hdB d = x := ⟨_, rfl⟩
            have HH := Lib.hid (headFits_is S d kb (ko + k * 14) E x hx wr hlowr (HE1.out.to hw1r) hkS hdm (hda wr hw1r))
            have HST : Hid ((g.ds.take (k + 1)).all hdB = x) := Lib.hid (by rw [take_snoc_get hdk, List.all_append, HT.out]; simp [hx])
            have HFB : Hid (x = false → g.ds.all hdB = false) := Lib.hid (fun h0 => by
              rw [List.all_eq_false]; exact ⟨d, List.mem_of_getElem? hdk, by rw [hx, h0]; simp⟩)
            clear hdk hx hda hdm
            cases x
            · have HFB1 := Lib.hid (HFB.out rfl)
              clear HFB
              go_wp2_with (go_at_call 31; refine HH.out.mono ?_; rintro e w4 ⟨rfl, hb4⟩)
              go_ret
              exact ⟨ret_int (by rw [HRV3.out, HFB1.out]; rfl), below_seq HB1.out (hw1r.trans (hb4.mono hw1r.size))⟩
            · go_wp2_with (go_at_call 31; refine HH.out.mono ?_; rintro e w4 ⟨rfl, hb4⟩)
              go_roundw
              case rel => exact ⟨k + 1, by go_num, by omega, HST, hw.trans (hb4.mono hw.size)⟩
              case measure => simp [intOf]; omega
          · obtain rfl : k = len := by omega
            have HA : Hid (g.ds.all hdB = true) := Lib.hid (by have h := HT.out; rwa [List.take_of_length_le (by rw [hlen.out]; exact Nat.le_refl _)] at h)
            go_wp2_with fail
            go_ret
            exact ⟨ret_int (by rw [HRV3.out, HA.out]; rfl), below_seq HB1.out hw1r⟩
  · have HRV2 : Hid (rv = 2) := Lib.hid (by rw [HRV.out]; rfl)
    clear HRV
    have hw1 := HW1.out
    simp only [cell13] at hw1
    go_enter Tryz.func9, Tryz.ntmps9
    go_wp2_with (go_at_call 29; refine HMA.out.mono ?_; rintro e w2 ⟨rfl, hb2⟩; replace hb2 := Lib.hid hb2)
    go_ret
    exact ⟨by rw [HRV2.out]; rfl, below_seq HB1.out hb2.out⟩

end Go.Proofs.YtliijbcgkkiekaaGreatDoor

/- Processes: the state of Free, and occurs. -/
namespace Go.Proofs.YtliijbcgkkiekaaGreatDoor
open Go.RowKit Go.Deep Go.Shelf

/-- A map that tells how often a text is bound. -/
def CntIs (w : World) (b n : Nat) (cnt : ByteArray → Int) : Prop := ∃ f : Lit → Option Value, MapIs w 9 b n f ∧ ∀ s : ByteArray, (f (.string s.data.toList)).getD (.int .i64 0) = .int .i64 (cnt s)
theorem intInfo' : (Tryz.prog.info? 3).map (fun i => (i.zero, i.size, i.bytes)) = some (some (.int .i64 0), 1, 8) := by kernel_rfl
theorem zero_int (w : World) : (zeroValue 3).run Tryz.prog w = .ok (.int .i64 0) w := by
  obtain ⟨i0, hi, hz0, hz1, hz2⟩ := info_parts intInfo'
  simp [zeroValue, typeInfo, hi, hz0]
theorem CntIs.look {w : World} {b n : Nat} {cnt : ByteArray → Int} (h : CntIs w b n cnt) {s : ByteArray} (hs : s.size ≤ maxLen) : (Instr.lookup 75 (.map (some b)) (.string s) false).run Tryz.prog w = .ok (.int .i64 (cnt s)) w := by
  obtain ⟨f, hm, hf⟩ := h
  rw [hm.look (Maps.string_keyed Tryz.underlying9) Tryz.underlying75 (zero_int w) (Go.WideMaps.keyOf_string_mk Tryz.underlying9 hs), hf]
theorem CntIs.put {w : World} {b n : Nat} {cnt : ByteArray → Int} (h : CntIs w b n cnt) (hn : n < maxLen) {s : ByteArray} (hs : s.size ≤ maxLen) (x : Int) :
    ∃ w', (Instr.mapUpdate 75 (.map (some b)) (.string s) (.int .i64 x)).run Tryz.prog w = .ok () w' ∧ CntIs w' b (n + 1) (fun y => if y = s then x else cnt y) ∧ w.grownBy w' (some b) := by
  obtain ⟨f, hm, hf⟩ := h
  obtain ⟨w', hr, hm', hg⟩ := hm.put (Maps.string_keyed Tryz.underlying9) Tryz.underlying75 hn (Go.WideMaps.keyOf_string_mk Tryz.underlying9 hs) (by first | trivial | simp [WideAt.IsKeyLit]) (val := .int .i64 x)
  refine ⟨w', hr, ⟨_, hm', fun y => ?_⟩, hg⟩
  by_cases e : y = s
  · subst e; simp
  · have e' : ¬ (Lit.string y.data.toList = Lit.string s.data.toList) := fun h => e (by
      have := Lit.string.inj h
      cases y; cases s; simp at this; congr 1)
    simp only [if_neg e', if_neg e]
    exact hf y
theorem CntIs.kept {w w' : World} {b n : Nat} {cnt : ByteArray → Int} (h : CntIs w b n cnt) {row : Option Nat} (hg : w.grownBy w' row) (hne : some b ≠ row) : CntIs w' b n cnt := by
  obtain ⟨f, hm, hf⟩ := h; exact ⟨f, hm.kept hg hne, hf⟩
theorem CntIs.lt {w : World} {b n : Nat} {cnt : ByteArray → Int} (h : CntIs w b n cnt) : b < w.heap.size := by obtain ⟨f, hm, _⟩ := h; exact hm.lt
theorem Seen.kept {w w' : World} {b j : Nat} {l : List ByteArray} (h : Seen w b j l) {row : Option Nat} (hg : w.grownBy w' row) (hne : some b ≠ row) : Seen w' b j l := by
  obtain ⟨D, ho, hf⟩ := h; exact ⟨D, ho.kept hg hne, hf⟩
theorem row_kept {W W' : World} {base : Nat} {e : TypeId} {size n : Nat} {v : Value} {xs : List Value} (h : W.ownsRow base e size v n xs) {row : Option Nat} (hg : W.grownBy W' row) (hne : ∀ k, row = some k → k < base) : W'.ownsRow base e size v n xs := by
  refine ⟨h.1, ?_⟩
  rcases h.2 with h0 | ⟨g, cap, cur, rfl, hb, hgg, r⟩
  · exact .inl h0
  · exact .inr ⟨g, cap, cur, rfl, hb, (hg.block g (Array.getElem?_eq_some_iff.1 hgg).1 (fun e => by have := hne g e.symm; omega)).trans hgg, r⟩

abbrev ptr (b : Nat) : Value := .pointer (some ⟨b, 0, none⟩)
/-- What lies in the blocks of a call of Free, from block z on. -/
structure FrSt (z : Nat) (W : World) (cnt : ByteArray → Int) (out : List ByteArray) (na : Nat) : Prop where
  free : ∃ v, W.heap[z + 1]? = some (.cells #[v] 22 (0, 0)) ∧ W.ownsRow (z + 8) 9 1 v out.length (out.map .string)
  seen : Seen W (z + 2) out.length out
  sbox : W.heap[z + 3]? = some (.cells #[.map (some (z + 2))] 74 (0, 0))
  cnts : CntIs W (z + 4) na cnt
  abox : W.heap[z + 5]? = some (.cells #[.map (some (z + 4))] 75 (0, 0))
  obox : W.heap[z + 6]? = some (.cells #[.func (.func 35) #[] #[ptr (z + 5), ptr (z + 3), ptr (z + 1)]] 76 (0, 0))
  wbox : W.heap[z + 7]? = some (.cells #[.func (.func 36) #[] #[ptr (z + 6), ptr (z + 5), ptr (z + 7)]] 77 (0, 0))
  size : z + 8 ≤ W.heap.size
  texts : ∀ s ∈ out, s.size ≤ maxLen
theorem box_kept {W W' : World} {row : Option Nat} (hg : W.grownBy W' row) {k : Nat} {o : Obj} (h : W.heap[k]? = some o) (hne : some k ≠ row) : W'.heap[k]? = some o := (hg.block k (Array.getElem?_eq_some_iff.1 h).1 hne).trans h
/-- Whatever touches only one block beyond those leaves the state. -/
theorem FrSt.grown {z : Nat} {W W' : World} {cnt : ByteArray → Int} {out : List ByteArray} {na : Nat} (h : FrSt z W cnt out na) (hg : W.grownBy W' none) : FrSt z W' cnt out na := by
  obtain ⟨⟨v, h1, h2⟩, h3, h4, h5, h6, h7, h8, h9, h10⟩ := h
  exact ⟨⟨v, box_kept hg h1 (by simp), row_kept h2 hg (fun k e => by cases e)⟩, h3.kept hg (by simp), box_kept hg h4 (by simp), h5.kept hg (by simp), box_kept hg h6 (by simp), box_kept hg h7 (by simp), box_kept hg h8 (by simp), Nat.le_trans h9 hg.size, h10⟩
theorem FrSt.to {z : Nat} {W W' : World} {cnt : ByteArray → Int} {out : List ByteArray} {na : Nat} (h : FrSt z W cnt out na) (hb : Below W.heap.size W W') : FrSt z W' cnt out na :=
  h.grown ⟨hb.os, hb.tape, hb.output, hb.size, fun k hk _ => hb.block k hk⟩
theorem FrSt.cells {z : Nat} {W : World} {cnt : ByteArray → Int} {out : List ByteArray} {na : Nat} (h : FrSt z W cnt out na) :
    W.cell? ⟨z + 3, 0, none⟩ = some (.map (some (z + 2))) ∧ W.cell? ⟨z + 5, 0, none⟩ = some (.map (some (z + 4))) ∧ W.cell? ⟨z + 6, 0, none⟩ = some (.func (.func 35) #[] #[ptr (z + 5), ptr (z + 3), ptr (z + 1)]) ∧ W.cell? ⟨z + 7, 0, none⟩ = some (.func (.func 36) #[] #[ptr (z + 6), ptr (z + 5), ptr (z + 7)]) := by
  refine ⟨?_, ?_, ?_, ?_⟩
  · simp [World.cell?, h.sbox]
  · simp [World.cell?, h.abox]
  · simp [World.cell?, h.obox]
  · simp [World.cell?, h.wbox]
theorem FrSt.count {z : Nat} {W : World} {cnt : ByteArray → Int} {out : List ByteArray} {na : Nat} (h : FrSt z W cnt out na) (hn : na < maxLen) {s : ByteArray} (hs : s.size ≤ maxLen) (x : Int) :
    ∃ W', (Instr.mapUpdate 75 (.map (some (z + 4))) (.string s) (.int .i64 x)).run Tryz.prog W = .ok () W' ∧ FrSt z W' (fun y => if y = s then x else cnt y) out (na + 1) ∧ W.grownBy W' (some (z + 4)) := by
  obtain ⟨⟨v, h1, h2⟩, h3, h4, h5, h6, h7, h8, h9, h10⟩ := h
  obtain ⟨W', hr, hc, hg⟩ := h5.put hn hs x
  exact ⟨W', hr, ⟨⟨v, box_kept hg h1 (by simp), row_kept h2 hg (fun k e => by cases e; omega)⟩, h3.kept hg (by simp), box_kept hg h4 (by simp), hc, box_kept hg h6 (by simp), box_kept hg h7 (by simp), box_kept hg h8 (by simp), Nat.le_trans h9 hg.size, h10⟩, hg⟩

/-- A name occurs. -/
noncomputable def occ (cnt : ByteArray → Int) (out : List ByteArray) (s : ByteArray) : List ByteArray := if cnt s = 0 ∧ memB s out = false then out ++ [s] else out
theorem occ_len (cnt : ByteArray → Int) (out : List ByteArray) (s : ByteArray) : (occ cnt out s).length ≤ out.length + 1 := by
  unfold occ; split <;> simp
theorem enters_occurs : ∀ args w, (callFunc 35 args).run Tryz.prog w = .ok (.enter 35 args) w := enters_of Tryz.func35 (by kernel_rfl) rfl
theorem enters_walk : ∀ args w, (callFunc 36 args).run Tryz.prog w = .ok (.enter 36 args) w := enters_of Tryz.func36 (by kernel_rfl) rfl

set_option maxHeartbeats 2000000 in
set_option maxRecDepth 100000 in
theorem occurs_any (z : Nat) (cnt : ByteArray → Int) (out : List ByteArray) (na : Nat) (s : ByteArray) (hs : s.size ≤ maxLen) (hb : out.length + 1 ≤ 1000000000) (W : World) (h : FrSt z W cnt out na) :
    Calls Tryz.prog 35 #[.string s, ptr (z + 5), ptr (z + 3), ptr (z + 1)] W fun e W' => (∃ v, e = .returned v) ∧ FrSt z W' cnt (occ cnt out s) na ∧ Below (z + 1) W W' := by
  obtain ⟨c3, c5, _, _⟩ := h.cells
  have hlk := h.cnts.look hs
  have hls := h.seen.look hs
  obtain ⟨q, hq⟩ : ∃ q, cnt s = q := ⟨_, rfl⟩
  obtain ⟨m, hm⟩ : ∃ m, memB s out = m := ⟨_, rfl⟩
  have HO : Hid (occ cnt out s = if q = 0 ∧ m = false then out ++ [s] else out) := Lib.hid (by unfold occ; rw [hq, hm])
  rw [hq] at hlk
  rw [hm] at hls
  have HH := Lib.hid h
  clear h hq hm
  by_cases h0 : q = 0
  · subst h0
    cases m
    · have h := HH.out
      obtain ⟨W1, hu, hs1, hg1⟩ := h.seen.put (by unfold maxLen; omega) hs
      have st1 : FrSt z W1 cnt out na ∨ True := .inr trivial
      obtain ⟨⟨v, h1, h2⟩, h3, h4, h5, h6, h7, h8, h9, h10⟩ := h
      have b1 := box_kept hg1 h1 (by simp)
      have r1 := row_kept h2 hg1 (fun k e => by cases e; omega)
      have v1 : W1.cell? ⟨z + 1, 0, none⟩ = some v := by simp [World.cell?, b1]
      have f1 : W1.frozen? ⟨z + 1, 0, none⟩ = false := by simp [World.frozen?, b1]
      have b4 := box_kept hg1 h4 (by simp)
      have b5 := h5.kept hg1 (by simp)
      have b6 := box_kept hg1 h6 (by simp)
      have b7 := box_kept hg1 h7 (by simp)
      have b8 := box_kept hg1 h8 (by simp)
      have hz1 : z + 8 ≤ W1.heap.size := Nat.le_trans h9 hg1.size
      obtain ⟨n, hn⟩ : ∃ n, out.length = n := ⟨_, rfl⟩
      rw [hn] at r1 hb
      obtain ⟨i0, hi, hz0, hzz1, hz2⟩ := info_parts strInfo'
      have HP := Lib.hid (And.intro b1 (And.intro b4 (And.intro b5 (And.intro b6 (And.intro b7 (And.intro b8 (And.intro hs1 (And.intro hg1 (And.intro h10 (And.intro hn r1))))))))))
      have HR := Lib.hid r1
      clear h1 h2 h3 h4 h5 h6 h7 h8 h10 b1 b4 b5 b6 b7 b8 hs1 hg1 hn st1 r1
      go_enter Tryz.func35, Tryz.ntmps35
      have HQ : Hid (∀ W2, (W1.alloc (.cells #[.string s] 9)).grownBy W2 v.ownBlock → W2.heap[z + 1]? = some (.cells #[v] 22 (0, 0))) := Lib.hid (fun W2 hgr => (hgr.block (z + 1) (by simp; omega) (fun e => by have := (HR.out.lt (z + 1) e.symm).1; omega)).trans ((Below.heap_alloc W1 _ (z + 1) (by omega)).trans HP.out.1))
      have a1 : ∀ u ∈ [Value.string s], u.oneCell' = true := fun u hu => by
        cases hu with
        | head => rfl
        | tail _ h => cases h
      have a2 : n + 1 ≤ maxLen := by unfold maxLen; omega
      have a3 : (n + 1) * 16 ≤ 140737488355328 := by omega
      have a4 : z + 8 ≤ (W1.alloc (.cells #[.string s] 9)).heap.size := Nat.le_trans hz1 (by simp)
      have a5 := HR.out.alloc (.cells #[.string s] 9)
      have HA := Lib.hid (And.intro a1 (And.intro a2 (And.intro a3 (And.intro a4 a5))))
      clear a1 a2 a3 a4 a5
      go_wp2_with (at_builtin; refine wpList_append_own _ rfl _ _ 22 rfl (z + 8) 9 i0 (.string ⟨#[]⟩) 1 16 Tryz.underlying22 hi hz0 hzz1 hz2 rfl (by decide) _ _ _ rfl HA.out.2.2.2.2 ⟨W1.heap.size, 0, none⟩ 1 1 [.string s] rfl rfl (news1 W1 _ _) HA.out.1 HA.out.2.1 HA.out.2.2.1 HA.out.2.2.2.1 ?_; intro v' W2 hown' hgrow _; obtain ⟨g, cap, rfl⟩ := ownsRow_succ hown'; have k1 := HQ.out W2 hgrow; have v2 := Boxed.cell k1; have f2 := Boxed.frozen k1; replace k1 := Lib.hid k1)
      go_end0
      obtain ⟨b1, b4, b5, b6, b7, b8, hs1, hg1, h10, hn, _⟩ := HP.out
      have hgA : W1.grownBy (W1.alloc (.cells #[.string s] 9)) none := World.grownBy_alloc W1 _ none
      have hne : ∀ j, j < z + 8 → some j ≠ v.ownBlock := fun j hj e => by have := (HR.out.lt j e.symm).1; omega
      have k4 := box_kept hgrow (box_kept hgA b4 (by simp)) (hne _ (by omega))
      have k6 := box_kept hgrow (box_kept hgA b6 (by simp)) (hne _ (by omega))
      have k7 := box_kept hgrow (box_kept hgA b7 (by simp)) (hne _ (by omega))
      have k8 := box_kept hgrow (box_kept hgA b8 (by simp)) (hne _ (by omega))
      have kc := (b5.kept hgA (by simp)).kept hgrow (hne _ (by omega))
      have ks := (hs1.kept hgA (by simp)).kept hgrow (hne _ (by omega))
      have hg3 : W2.grownBy (W2.setCell ⟨z + 1, 0, none⟩ (.slice (some ⟨g, 0, none⟩) (n + 1) cap)) (some (z + 1)) := grownBy_setCell' W2 (z + 1) _
      have hsz2 : W1.heap.size ≤ W2.heap.size := Nat.le_trans hgA.size hgrow.size
      have hOO : occ cnt out s = out ++ [s] := by rw [HO.out]; simp
      refine ⟨⟨_, rfl⟩, ?_, ?_⟩
      · rw [hOO]
        refine ⟨⟨_, set_block k1.out 0 _, ?_⟩, ?_, box_kept hg3 k4 (by simp), kc.kept hg3 (by simp), box_kept hg3 k6 (by simp), box_kept hg3 k7 (by simp), box_kept hg3 k8 (by simp), by simp; omega, fun t ht => ?_⟩
        · have h := row_kept hown' hg3 (fun k e => by cases e; omega)
          rw [List.length_append, List.map_append, hn]
          exact h
        · have h := ks.kept hg3 (by simp)
          rw [List.length_append]
          exact h
        · rcases List.mem_append.1 ht with ht | ht
          · exact h10 t ht
          · rw [List.mem_singleton.1 ht]; exact hs
      · refine ((((Below.refl (z + 1) W).grown hg1 (by omega) (fun j e => by cases e; omega)).alloc (by omega) _).grown hgrow (by simp; omega) (fun j e => by have := (HR.out.lt j e).1; omega)).setCell (p := ⟨z + 1, 0, none⟩) (by simp) _
    · have hOO : occ cnt out s = out := by rw [HO.out, if_neg (by simp)]
      rw [hOO]
      go_enter Tryz.func35, Tryz.ntmps35
      go_wp2_with fail
      go_end0
      exact ⟨⟨_, rfl⟩, HH.out, Below.refl _ _⟩
  · have hOO : occ cnt out s = out := by rw [HO.out, if_neg (fun e => h0 e.1)]
    have h0' : (q == 0) = false := by simpa using h0
    rw [hOO]
    clear h0
    go_enter Tryz.func35, Tryz.ntmps35
    go_wp2_with fail
    go_end0
    exact ⟨⟨_, rfl⟩, HH.out, Below.refl _ _⟩

end Go.Proofs.YtliijbcgkkiekaaGreatDoor
