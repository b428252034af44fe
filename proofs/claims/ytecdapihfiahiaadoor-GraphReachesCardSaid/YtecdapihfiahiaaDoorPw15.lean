/- Graphs: the reference's Build. (and what follows from it) -/
import Derived.Test.YtecdapihfiahiaaDoorPw14
import Derived.Test.YtecdapihfiahiaaDoorPw6

/- Graphs: the reference's Build. -/
namespace Go.Proofs.YtecdapihfiahiaaDoor
open Go.RowKit Go.Deep Go.Shelf

theorem gnod_right {t : Ty} (h : nodeR [] 0 false t = 0) (i : Nat) : t.gnod i [] = t.pnod i (fun _ => 0) ∧ t.gref i [] = t.pref i (fun _ => 0) ∧ (t.gnod i []).length = t.gcnt := by
  have h1 : t.pnod i (fun _ => 0) = t.gnod i [] := gnod_eq t [] 0 false i (fun _ => 0) [] (Nat.le_refl _) h (fun x hx => absurd hx (varR_nil 0 x)) (fun _ x hx => by cases hx)
  have h2 : t.pref i (fun _ => 0) = t.gref i [] := gref_eq t [] 0 false i (fun _ => 0) [] (Nat.le_refl _) h (fun x hx => absurd hx (varR_nil 0 x))
  exact ⟨h1.symm, h2.symm, by rw [← h1, pnod_len t [] 0 false i _ h]⟩
theorem gnods_right : ∀ (ts : List Ty) (i : Nat), (∀ t ∈ ts, nodeR [] 0 false t = 0) → Ty.gnods i [] ts = Ty.pnods i (fun _ => 0) ts ∧ Ty.grefs i [] ts = Ty.prefs i (fun _ => 0) ts ∧ (Ty.gnods i [] ts).length = Ty.gcnts ts
  | [], _, _ => ⟨by rw [Ty.gnods, Ty.pnods], rfl, by rw [Ty.gnods, Ty.gcnts]; rfl⟩
  | t :: r, i, h => by
    obtain ⟨h1, h2, h3⟩ := gnod_right (h t (by simp)) i
    obtain ⟨g1, g2, g3⟩ := gnods_right r (i + t.gcnt) (fun u hu => h u (by simp [hu]))
    exact ⟨by rw [Ty.gnods, Ty.pnods, h1, g1], by rw [Ty.grefs, Ty.prefs, h2, g2], by rw [Ty.gnods, Ty.gcnts, List.length_append, h3, g3]⟩
theorem strs_nil (w : World) : StrSl (fun k => k < w.heap.size) w (.slice none 0 0) (([] : GEnv).map (·.1)) := ⟨.inl ⟨⟨_, _, rfl⟩, rfl⟩, by simp [maxLen], fun s hs => by cases hs⟩
theorem refs_nil (w : World) : RefSl (fun k => k < w.heap.size) w (.slice none 0 0) (([] : GEnv).map (·.2)) := ⟨.inl ⟨⟨_, _, rfl⟩, rfl⟩, by simp [maxLen]⟩

set_option maxHeartbeats 8000000 in
set_option maxRecDepth 100000 in
theorem rbuild_any (ts : List Ty) (v : Value) (w : World) (hts : TySl (fun k => k < w.heap.size) w v ts) (hs : Ty.sizes ts ≤ 100000) (hd : ∀ t ∈ ts, t.depth ≤ 800) (hok : ∀ t ∈ ts, nodeR [] 0 false t = 0) :
    Calls Tryd.prog 10 #[v] w fun en w' => ∃ (na : Option Addr) (nn nc : Nat) (ra : Option Addr) (rn rc : Nat), en = .returned (.tuple #[.slice na nn nc, .slice ra rn rc]) ∧ NodeSl (fun k => k < w'.heap.size) w' (.slice na nn nc) (gNodes ts) ∧ RefSl (fun k => k < w'.heap.size) w' (.slice ra rn rc) (gRefs ts) ∧ Below w.heap.size w w' := by
  obtain ⟨pa, len, c, rfl, hlen, hmx, hget⟩ := hts.open
  have HG := Lib.hid hget
  have HL := Lib.hid hlen.out
  have HD := Lib.hid hd
  have HOK := Lib.hid hok
  have HSZ := Lib.hid hs
  have hlb : len ≤ 100000 := by have := Ty.length_sizes ts; have := hlen.out; omega
  have hgr := gnods_right ts 0 hok
  have HGR := Lib.hid hgr
  clear hget hts hlen hd hok hs hgr
  go_enter Tryd.func10, Tryd.ntmps10
  go_wp2_with fail
  go_loopw [4, 5, 6] (fun ov rv iv wr => ∃ (j : Nat) (oa : Option Addr) (on oc : Nat) (ra : Option Addr) (rn rc : Nat) (xs : List NV), ov = .slice oa on oc ∧ rv = .slice ra rn rc ∧ iv = .int .i64 j ∧ j ≤ len ∧ Hid (GRow 58 4 w.heap.size wr (.slice oa on oc) (xs.map NV.cells)) ∧ Hid (∀ x ∈ xs, x.Ok (fun k => k < wr.heap.size ∧ some k ≠ (Value.slice oa on oc).ownBlock ∧ some k ≠ (Value.slice ra rn rc).ownBlock) wr) ∧ Hid (xs.map NV.g = Ty.gnods 0 [] (ts.take j)) ∧ Hid (GRow 38 2 w.heap.size wr (.slice ra rn rc) ((Ty.grefs 0 [] (ts.take j)).map refCells)) ∧ Hid (Below w.heap.size w wr)) (fun _ _ iv _ => len - (intOf iv).toNat)
  case atStart => exact ⟨0, _, _, _, _, _, _, [], rfl, rfl, rfl, by omega, Lib.hid (by simpa using GRow.nil _ _ _ _), Lib.hid (fun x hx => by cases hx), Lib.hid (by simp [Ty.gnods]), Lib.hid (by simpa [Ty.grefs] using GRow.nil _ _ _ _), Lib.hid (Below.refl _ _)⟩
  case round =>
    rename World => V
    obtain ⟨j, oa, on, oc, ra, rn, rc, xs, rfl, rfl, rfl, hj, HO, HX, HM, HR, HBV⟩ := hrel
    have hszV : w.heap.size ≤ V.heap.size := HBV.out.size
    by_cases hlt : j < len
    · obtain ⟨u, hu⟩ : ∃ u, ts[j]? = some u := ⟨_, List.getElem?_eq_getElem (by rw [← HL.out]; exact hlt)⟩
      have hum := List.mem_of_getElem? hu
      obtain ⟨kb, ko, rfl, hkb, hty⟩ := HG.out j u hu
      obtain ⟨lv', kv', ⟨d0, d1, d2, d3, d4, d5⟩, hval⟩ := (hty.keep (HBV.out.keeps'.mono (fun k hk => hk))).load
      have hur := HOK.out u hum
      have hsok := sok_of u [] 0 false hur
      have hdu := HD.out u hum
      have hsu := Ty.size_mem hum
      obtain ⟨fr, hfr⟩ : ∃ fr, Ty.gcnts (ts.take j) = fr := ⟨_, rfl⟩
      have hxl : xs.length = fr := by
        have h := congrArg List.length HM.out
        rw [List.length_map, (gnods_right (ts.take j) 0 (fun t ht => HOK.out t (List.mem_of_mem_take ht))).2.2, hfr] at h
        exact h
      have hfb : fr + u.size ≤ 100000 := by
        have h1 := Ty.gcnts_le (ts.take j)
        have h2 := Ty.sizes_take hu
        have h3 := Ty.sizes_take_le ts (j + 1)
        have := HSZ.out
        omega
      obtain rfl : on = fr := by
        obtain ⟨_, _, _, e, hnn, _⟩ := HO.out.src
        simp only [Value.slice.injEq] at e
        rw [e.2.1, hnn, List.length_map, hxl]
      have hgr := grefs_snoc [] ts 0 j hu
      have hgs := gnods_snoc [] ts 0 j hu
      rw [hfr, Nat.zero_add] at hgr hgs
      obtain ⟨r, hrr⟩ : ∃ r, u.gref on [] = r := ⟨_, rfl⟩
      rw [hrr] at hgr
      have HGRS := Lib.hid hgr
      have HGS := Lib.hid hgs
      have HXL := Lib.hid hxl
      have HUL := Lib.hid (show (u.gnod on []).length ≤ 100000 from Nat.le_trans (gnod_len u on []) (by omega))
      have HRC := Lib.hid (rref_any u hsok on [] (.agg #[.int .i64 u.k, .int .i64 u.p, .string u.n, .int .i64 u.s, lv', kv']) (.slice none 0 0) (.slice none 0 0) V (by omega) (TyVal.mono (C := fun k => k < V.heap.size) (fun k hk => Nat.lt_of_lt_of_le hk hszV) hval) (strs_nil V) (refs_nil V) (fun r hr => by cases hr))
      rw [hrr] at HRC
      have HKID : Hid (∀ W, Below w.heap.size w W → (W.cell? ⟨kb, ko + j * 6, none⟩ = some (.int .i64 u.k) ∧ W.cell? ⟨kb, ko + j * 6 + 1, none⟩ = some (.int .i64 u.p) ∧ W.cell? ⟨kb, ko + j * 6 + 2, none⟩ = some (.string u.n) ∧ W.cell? ⟨kb, ko + j * 6 + 3, none⟩ = some (.int .i64 u.s) ∧ W.cell? ⟨kb, ko + j * 6 + 4, none⟩ = some lv' ∧ W.cell? ⟨kb, ko + j * 6 + 5, none⟩ = some kv') ∧ TyVal (fun k => k < w.heap.size) W (.agg #[.int .i64 u.k, .int .i64 u.p, .string u.n, .int .i64 u.s, lv', kv']) u) := Lib.hid (fun W hW => by
        have hc : ∀ o x, V.cell? ⟨kb, o, none⟩ = some x → W.cell? ⟨kb, o, none⟩ = some x := fun o x h => (hW.cell (p := ⟨kb, o, none⟩) hkb).trans ((HBV.out.cell (p := ⟨kb, o, none⟩) hkb).symm.trans h)
        exact ⟨⟨hc _ _ d0, hc _ _ d1, hc _ _ d2, hc _ _ d3, hc _ _ d4, hc _ _ d5⟩, hval.keep (fun k _ hk ho _ => (hW.block k hk).trans ((HBV.out.block k hk).symm.trans ho))⟩)
      have HPL : Hid ((Ty.grefs 0 [] (ts.take j)).length ≤ 1000000) := Lib.hid (by rw [grefs_len, List.length_take]; omega)
      have HNC : Hid (∀ W, Below w.heap.size w W → Calls Tryd.prog 22 #[.agg #[.int .i64 u.k, .int .i64 u.p, .string u.n, .int .i64 u.s, lv', kv'], .int .i64 (on : Int), .slice none 0 0, .slice none 0 0] W fun e w' => ∃ v', e = .returned v' ∧ NodRes w.heap.size W.heap.size (u.gnod on []) w' v' ∧ Below W.heap.size W w') := Lib.hid (fun W hW => rnod_any u hsok w.heap.size on [] _ _ _ W hW.size (by omega) (by simp; omega) (HKID.out W hW).2 (strs_nil W) (refs_nil W) (fun r hr => by cases hr))
      clear hu hum hty hval hur hgr hgs hrr hxl hdu hsok
      go_upto_region 7 with (first | (go_at_call 21; go_loud (refine HRC.out.mono ?_; rintro en w5 ⟨rfl, hb5⟩; have HB5 := Lib.hid hb5; have HR5 := Lib.hid (HR.out.to hb5); clear hb5)) | (at_builtin; refine wpList_appG rrefElem rfl _ _ rfl rfl (HR5.out.alloc _) (some ⟨w5.heap.size, 0, none⟩) 1 1 [refCells r] rfl rfl ?_ ?_ ?_ ?_ ?_ ?_))
      · intro e he; rw [List.mem_singleton.1 he]; rfl
      · exact src_new w5 (refCells r) _
      · intro e he u hu
        rw [List.mem_singleton.1 he] at hu
        simp only [refCells, List.mem_cons, List.not_mem_nil, or_false] at hu
        rcases hu with rfl | rfl <;> rfl
      · have := HPL.out
        simp only [List.length_map, List.length_singleton]
        omega
      · rw [World.size_alloc]; have := HB5.out.size; omega
      intro ga gn gc w6 hr6 hg6 hq6
      have h5s := HB5.out.size
      have h6s := hg6.size
      rw [World.size_alloc] at h6s
      have hro : ∀ k, (Value.slice ra rn rc).ownBlock = some k → w.heap.size ≤ k ∧ k < V.heap.size := fun k hk => HR.out.lt k hk
      have hoo : ∀ k, (Value.slice oa on oc).ownBlock = some k → w.heap.size ≤ k ∧ k < V.heap.size := fun k hk => HO.out.lt k hk
      have hkeep : ∀ k, k < V.heap.size → some k ≠ (Value.slice ra rn rc).ownBlock → w6.heap[k]? = V.heap[k]? := fun k hk hn => (hg6.block k (by rw [World.size_alloc]; omega) hn).trans ((Below.heap_alloc _ _ _ (by omega)).trans (HB5.out.block k hk))
      have HO6 : Hid (GRow 58 4 w.heap.size w6 (.slice oa on oc) (xs.map NV.cells)) := Lib.hid (HO.out.kept (fun k hk => hkeep k (hoo k hk).2 (by
        obtain ⟨cs, hc⟩ := HO.out.obj hk
        exact HR.out.ne hc (by decide))))
      have HR6 : Hid (GRow 38 2 w.heap.size w6 (.slice ga gn gc) ((Ty.grefs 0 [] (ts.take (j + 1))).map refCells)) := Lib.hid (by rw [HGRS.out]; simpa using hr6)
      have HX6 : Hid (∀ x ∈ xs, x.Ok (fun k => k < w6.heap.size ∧ some k ≠ (Value.slice oa on oc).ownBlock ∧ some k ≠ (Value.slice ga gn gc).ownBlock) w6) := Lib.hid (fun x hx => ((HX.out x hx).keep (fun k _ hk ho _ => (hkeep k hk.1 hk.2.2).trans ho)).mono (fun k hk => ⟨by omega, hk.2.1, fun e => by
        rcases hq6 with h | h
        · exact hk.2.2 (e.trans h)
        · have := Option.some.inj (e.trans h); omega⟩))
      have HB6 : Hid (Below w.heap.size w w6) := Lib.hid (((HBV.out.trans (HB5.out.mono hszV)).alloc (by omega) _).grown hg6 (by rw [World.size_alloc]; omega) (fun k hk => (hro k hk).1))
      have HNC6 := Lib.hid (HNC.out w6 HB6.out)
      have hq6' : ∀ k, (Value.slice ga gn gc).ownBlock = some k → k < w6.heap.size := fun k hk => (HR6.out.lt k hk).2
      obtain ⟨⟨d0, d1, d2, d3, d4, d5⟩, _⟩ := HKID.out w6 HB6.out
      clear hr6 hg6 hq6 hkeep
      go_wp2_with (first | (go_at_call 22; go_loud (refine HNC6.out.mono ?_; rintro en w7 ⟨v7, rfl, ⟨za, zn, zc, zs, rfl, hrow7, hok7, hmap7⟩, hb7⟩; have HB7 := Lib.hid hb7; have HZ7 := Lib.hid hrow7; have HZO := Lib.hid hok7; have HZM := Lib.hid hmap7; have HO7 := Lib.hid (HO6.out.to hb7); clear hb7 hrow7 hok7 hmap7)) | (at_builtin; refine wpList_appG rnodeElem rfl _ _ rfl rfl HO7.out za zn zc (zs.map NV.cells) rfl ?_ ?_ ?_ ?_ ?_ ?_ ?_))
      · obtain ⟨_, _, _, e, hnn, _⟩ := HZ7.out.src
        simp only [Value.slice.injEq] at e
        rw [e.2.1]; exact hnn
      · intro e he
        obtain ⟨x, _, rfl⟩ := List.mem_map.1 he; rfl
      · obtain ⟨_, _, _, e, _, hsrc⟩ := HZ7.out.src
        simp only [Value.slice.injEq] at e
        rw [e.1]; exact hsrc
      · intro e he u hu
        obtain ⟨x, hx, rfl⟩ := List.mem_map.1 he
        exact (HZO.out x hx).one u hu
      · have h := congrArg List.length HZM.out
        rw [List.length_map] at h
        have := HUL.out
        have := HXL.out
        simp only [List.length_map]
        omega
      · have := HB7.out.size; omega
      intro ha hn hc w8 hr8 hg8 hq8
      have h7s := HB7.out.size
      have h8s := hg8.size
      have HR8 : Hid (GRow 38 2 w.heap.size w8 (.slice ga gn gc) ((Ty.grefs 0 [] (ts.take (j + 1))).map refCells)) := Lib.hid ((HR6.out.to HB7.out).kept (fun k hk => by
        obtain ⟨cs, hc⟩ := (HR6.out.to HB7.out).obj hk
        exact hg8.block k (Array.getElem?_eq_some_iff.1 hc).1 (HO7.out.ne hc (by decide))))
      have HO8 : Hid (GRow 58 4 w.heap.size w8 (.slice ha hn hc) ((xs ++ zs).map NV.cells)) := Lib.hid (by rw [List.map_append]; exact hr8)
      have HM8 : Hid ((xs ++ zs).map NV.g = Ty.gnods 0 [] (ts.take (j + 1))) := Lib.hid (by rw [List.map_append, HM.out, HZM.out, HGS.out])
      have HB8 : Hid (Below w.heap.size w w8) := Lib.hid ((HB6.out.trans (HB7.out.mono (by omega))).grown hg8 (by omega) (fun k hk => (hoo k hk).1))
      have HX8 : Hid (∀ x ∈ xs ++ zs, x.Ok (fun k => k < w8.heap.size ∧ some k ≠ (Value.slice ha hn hc).ownBlock ∧ some k ≠ (Value.slice ga gn gc).ownBlock) w8) := Lib.hid (by
        have hqn : ∀ k, k < w7.heap.size → some k ≠ (Value.slice oa on oc).ownBlock → some k ≠ (Value.slice ha hn hc).ownBlock := fun k hk hne e => by
          rcases hq8 with h | h
          · exact hne (e.trans h)
          · have := Option.some.inj (e.trans h); omega
        have hrg : ∀ k, (Value.slice ga gn gc).ownBlock = some k → w.heap.size ≤ k := fun k hk => (HR6.out.lt k hk).1
        intro x hx
        rcases List.mem_append.1 hx with hx | hx
        · have h1 := (HX6.out x hx).keep (HB7.out.keeps'.mono (fun k hk => hk.1))
          exact (h1.keep (Keeps.grown hg8 (fun k hk => hk.2.1))).mono (fun k hk => ⟨by omega, hqn k (by omega) hk.2.1, hk.2.2⟩)
        · have h1 := HZO.out x hx
          have hne : ∀ k, (k < w.heap.size ∨ (w6.heap.size ≤ k ∧ k < w7.heap.size ∧ some k ≠ (Value.slice za zn zc).ownBlock)) → some k ≠ (Value.slice oa on oc).ownBlock := fun k hk e => by
            have := hoo k e.symm
            rcases hk with hk | hk <;> omega
          refine (h1.keep (Keeps.grown hg8 hne)).mono (fun k hk => ⟨by rcases hk with hk | hk <;> omega, hqn k (by rcases hk with hk | hk <;> omega) (hne k hk), fun e => ?_⟩)
          have a1 := hrg k e.symm
          have a2 := hq6' k e.symm
          rcases hk with hk | hk <;> omega)
      clear hr8 hg8 hq8 d0 d1 d2 d3 d4 d5
      go_wp2_with fail
      go_roundw
      case rel => exact ⟨j + 1, ha, hn, hc, ga, gn, gc, xs ++ zs, rfl, rfl, by go_num, by omega, HO8, HX8, HM8, HR8, HB8⟩
      case measure => simp [intOf]; omega
    · obtain rfl : j = len := by omega
      have hlen : ts.take j = ts := List.take_of_length_le (by rw [HL.out]; exact Nat.le_refl _)
      have hM := HM.out
      have hR := HR.out
      rw [hlen] at hM hR
      have hxl : xs.length ≤ 100000 := by
        have h := congrArg List.length hM
        rw [List.length_map, HGR.out.2.2] at h
        have := Ty.gcnts_le ts
        have := HSZ.out
        omega
      have hn1 := HO.out.nodes HX.out (by simp only [maxLen]; omega)
      rw [hM, HGR.out.1] at hn1
      have hr1 := hR.refs (by rw [grefs_len, ← HL.out]; simp only [maxLen]; omega)
      rw [HGR.out.2.1] at hr1
      have HN1 := Lib.hid (hn1.mono (C := fun k => k < V.heap.size) (fun k hk => by
        rcases hk with hk | hk
        · exact hk.1
        · exact hk.2))
      have HR1 := Lib.hid (hr1.mono (C := fun k => k < V.heap.size) (fun k hk => hk.2))
      clear hn1 hr1 hM hR hlen hxl
      go_wp2_with fail
      go_ret2
      exact ⟨oa, on, oc, ra, rn, rc, rfl, HN1.out, HR1.out, HBV.out⟩
end Go.Proofs.YtecdapihfiahiaaDoor

/- Processes: the reference's Texts and Same. -/
namespace Go.Proofs.YtecdapihfiahiaaDoor
open Go.RowKit Go.Deep Go.Shelf

set_option maxHeartbeats 1000000 in
/-- Lists of texts, compared by the reference. -/
theorem ptexts_any (B : Nat → Prop) (v v' : Value) (ls ls' : List ByteArray) (w : World) (h : StrSl B w v ls) (h' : StrSl B w v' ls') :
    Calls Tryd.prog 23 #[v, v'] w fun e w' => e = .returned (.bool (decide (ls = ls'))) ∧ Drew w w' := by
  obtain ⟨pa, len, c, rfl, hlen, hm, hget⟩ := h.open
  obtain ⟨pa', len', c', rfl, hlen', hm', hget'⟩ := h'.open
  have HG := Lib.hid hget
  have HG' := Lib.hid hget'
  clear hget hget' h h'
  by_cases hl : len = len'
  · subst hl
    go_enter Tryd.func23, Tryd.ntmps23
    go_wp2_with fail
    go_loopw [5] (fun i wr => ∃ (j : Nat), i = .int .i64 j ∧ j ≤ len ∧ Hid (ls.take j = ls'.take j) ∧ Drew w wr) (fun i _ => len - (intOf i).toNat)
    case atStart => exact ⟨0, rfl, by omega, Lib.hid (by simp), Drew.refl _⟩
    case round =>
      obtain ⟨j, rfl, hj, HT, hd⟩ := hrel
      by_cases hlt : j < len
      · obtain ⟨s, hs⟩ : ∃ s, ls[j]? = some s := ⟨_, List.getElem?_eq_getElem (by rw [← hlen.out]; exact hlt)⟩
        obtain ⟨s', hs'⟩ : ∃ s', ls'[j]? = some s' := ⟨_, List.getElem?_eq_getElem (by rw [← hlen'.out]; exact hlt)⟩
        obtain ⟨_, kb, ko, rfl, hkb, hc⟩ := HG.out j s hs
        obtain ⟨_, kb', ko', rfl, hkb', hc'⟩ := HG'.out j s' hs'
        replace hc : wr.cell? ⟨kb, ko + j, none⟩ = some (.string s) := by obtain ⟨m, rfl⟩ := hd; exact hc
        replace hc' : wr.cell? ⟨kb', ko' + j, none⟩ = some (.string s') := by obtain ⟨m, rfl⟩ := hd; exact hc'
        by_cases hss : s = s'
        · subst hss
          have hn : Hid (ls.take (j + 1) = ls'.take (j + 1)) := Lib.hid (by rw [take_snoc_get hs, take_snoc_get hs', HT.out])
          clear hs hs'
          go_wp2_with fail
          go_quiet (fail)
          go_wp2_with fail
          go_roundw
          case rel => exact ⟨j + 1, by go_num, by omega, hn, hd.more _⟩
          case measure => simp [intOf]; omega
        · have hne : Hid (ls ≠ ls') := Lib.hid (fun e => hss (by rw [e, hs'] at hs; exact (Option.some.inj hs).symm))
          have hb1 := str_ne hss
          have hb2 : (s.toList == s'.toList) = false := by simpa using hb1
          clear hs hs' hss
          go_wp2_with fail
          go_quiet (fail)
          go_wp2_with fail
          go_ret
          exact ⟨ret_bool (by simp [hne.out]), hd.more _⟩
      · obtain rfl : j = len := by omega
        go_wp2_with fail
        go_ret
        refine ⟨ret_bool ?_, hd⟩
        have := HT.out
        rw [List.take_of_length_le (by rw [hlen.out]; exact Nat.le_refl _), List.take_of_length_le (by rw [hlen'.out]; exact Nat.le_refl _)] at this
        simp [this]
  · have hl' : (len != len') = true := by simpa using hl
    have hne : ls ≠ ls' := fun e => hl (by rw [hlen.out, hlen'.out, e])
    have HN := Lib.hid hne
    clear hne
    go_enter Tryd.func23, Tryd.ntmps23
    go_wp2_with fail
    go_ret
    exact ⟨ret_bool (by simp [HN.out]), Drew.refl _⟩

end Go.Proofs.YtecdapihfiahiaaDoor
