/- Contexts: the law ContextSplits. (and what follows from it) -/
import Derived.Test.YticdkbcfahjpnaaPt16

/- Contexts: the law ContextSplits. -/
namespace Go.Proofs.Yticdkbcfahjpnaa
open Go.RowKit Go.Deep Go.Shelf

/-! ### Parts are found -/
theorem zs_inj {zs : ZS} (hd : Diff (zs.map Prod.fst)) {z y : PV × Ent} (hz : z ∈ zs) (hy : y ∈ zs) (he : z.1.m.n = y.1.m.n) : z = y := by
  obtain ⟨i, hi⟩ := List.getElem?_of_mem hz
  obtain ⟨j, hj⟩ := List.getElem?_of_mem hy
  have hi' : (zs.map Prod.fst)[i]? = some z.1 := by rw [List.getElem?_map, hi]; rfl
  have hj' : (zs.map Prod.fst)[j]? = some y.1 := by rw [List.getElem?_map, hj]; rfl
  rcases Nat.lt_trichotomy i j with hij | rfl | hij
  · exact absurd he (hd j i _ _ hij hj' hi')
  · exact Option.some.inj (hi.symm.trans hj)
  · exact absurd he.symm (hd i j _ _ hij hi' hj')
theorem find_part {ns : List GNode} {zs : ZS} (hF : ∀ z ∈ zs, Fit ns z) (hd : Diff (zs.map Prod.fst)) (f : PV × Ent → Bool) {z : PV × Ent} (hz : z ∈ zs) :
    ((zs.filter f).map Prod.snd).find? (entIs z.1.m.n) = if f z = true then some z.2 else none := by
  have key : ∀ e ∈ (zs.filter f).map Prod.snd, entIs z.1.m.n e = true → e = z.2 ∧ f z = true := by
    intro e he hn
    obtain ⟨y, hy, rfl⟩ := List.mem_map.1 he
    obtain ⟨hy1, hy2⟩ := List.mem_filter.1 hy
    have hyn : y.1.m.n = z.1.m.n := by
      simp only [entIs, decide_eq_true_eq] at hn
      rw [← (hF y hy1).name]; exact hn
    obtain rfl := zs_inj hd hy1 hz hyn
    exact ⟨rfl, hy2⟩
  cases hq : ((zs.filter f).map Prod.snd).find? (entIs z.1.m.n) with
  | none =>
    cases hf : f z with
    | false => rfl
    | true =>
      have h := List.find?_eq_none.1 hq z.2 (List.mem_map.2 ⟨z, List.mem_filter.2 ⟨hz, hf⟩, rfl⟩)
      rw [entIs, (hF z hz).name] at h
      simp at h
  | some e =>
    obtain ⟨rfl, hf⟩ := key e (List.mem_of_find?_eq_some hq) (List.find?_some hq)
    rw [if_pos hf]
theorem find_whole {ns : List GNode} {zs : ZS} (hF : ∀ z ∈ zs, Fit ns z) (hd : Diff (zs.map Prod.fst)) {z : PV × Ent} (hz : z ∈ zs) : (zs.map Prod.snd).find? (entIs z.1.m.n) = some z.2 := by
  have h := find_part hF hd (fun _ => true) hz
  rw [List.filter_eq_self.2 (fun _ _ => rfl)] at h
  exact h
theorem fnd_is (o : Option Ent) : ∃ a b : Int, fndR o = .tuple #[.agg #[.int .i64 a, .int .i64 b], .bool o.isSome] := by
  cases o with
  | none => exact ⟨0, 0, rfl⟩
  | some e => exact ⟨e.a, e.s, rfl⟩
theorem if_some {b : Bool} {e : Ent} : (if b = true then some e else none).isSome = b := by cases b <;> rfl
theorem wpAnyH_skip_h {P : Program} {md : Region.Mode} {l : List Oper} {Q : Exit → Act → World → Prop} {S : World → Prop} {fuel : Nat} {B : List Bool} {T : List Value} {ds : List Deferred} {w : World} (i : Nat) {oi : Oper} (hi : l[i]? = some oi) (hw : Region.wanted oi (yielded l.toArray T.toArray) = false)
    (hs : Region.noSelect l.toArray = true) (hf : Region.free md l.toArray B.toArray i = true) (hr : (Region.ready md l.toArray B.toArray).contains i = true)
    (hQ : ∀ c a w, Q (.panic c) (a.put oi.dst undef) w → Q (.panic c) a w) (hS : S w)
    (h : wpAnyH P md l.toArray Q S fuel (B.set i true).toArray ⟨(setD T oi.dst undef).toArray, ds⟩ w) : wpAnyH P md l.toArray Q S (fuel + 1) B.toArray ⟨T.toArray, ds⟩ w := by
  refine wpAnyH_take (i := i) (oi := oi) (v := undef) (by simpa using hi) hs hf hr hQ (.inr ⟨hw, rfl⟩) hS ?_
  rw [put_list, List.setIfInBounds_toArray]
  exact h

set_option maxHeartbeats 16000000 in
set_option maxRecDepth 100000 in
theorem ContextSplitsW (ps : List PV) (ls : List ByteArray) (pa : Option Addr) (len c : Nat) (sv : Value) (w : World) (hk : PvSl w pa len ps) (hlen : len * 88 ≤ 140737488355328) (hs : StrSl (fun k => k < w.heap.size) w sv ls) :
    Calls Try.prog 4 #[.slice pa len c, sv] w fun e w' => e = .returned (.bool true) ∧ Below w.heap.size w w' := by
  have HAW := Lib.hid (fun (W : World) (_ : Below w.heap.size w W) => cawake_any W)
  have HPV : Hid (∀ W, Below w.heap.size w W → PvSl W pa len ps) := Lib.hid (fun W hW => hk.to hW)
  have HSV : Hid (∀ W, Below w.heap.size w W → StrSl (fun k => k < W.heap.size) W sv ls) := Lib.hid (fun W hW => (hs.keep (hW.keeps'.mono (fun k hk => hk))).mono (fun k hk => Nat.lt_of_lt_of_le hk hW.size))
  have HNS : Hid (∀ p ∈ ps, p.m.n.size ≤ maxLen) := Lib.hid (fun p hp => by
    obtain ⟨j, hj⟩ := List.getElem?_of_mem hp
    exact (hk.at_ j p hj).1)
  have HL : Hid (len = ps.length) := Lib.hid hk.len
  have HPT : Hid (∀ (j : Nat) (p : PV), ps[j]? = some p → ∃ kb ko, pa = some ⟨kb, ko, none⟩ ∧ ∀ W, Below w.heap.size w W → PvAt W kb (ko + j * 7) p ∧ TyVal (fun k => k < w.heap.size) W (tyV p) p.m.t) := Lib.hid (fun j p hj => by
    obtain ⟨_, kb, ko, e, _, hW⟩ := hk.at_ j p hj
    exact ⟨kb, ko, e, hW⟩)
  obtain ⟨sa, sn, sc, rfl, hsn, _⟩ := hs.open
  have HSN := Lib.hid hsn.out
  clear hk hs hsn
  by_cases hr : Rgt ps
  case neg =>
    have HRT := Lib.hid (fun (W : World) (hW : Below w.heap.size w W) => right_no ps pa len c W (HPV.out W hW) hlen hr)
    clear hr
    go_enter Try.func4, Try.ntmps4
    go_upto_region 2 with (first | (go_at_call 7; refine (HAW.out _ (Below.refl _ _)).mono ?_; rintro en w3 ⟨rfl, hb3⟩; have HB3 := Lib.hid hb3; clear hb3) | (go_at_call 11; refine (HRT.out _ HB3.out).mono ?_; rintro en w4 ⟨rfl, hb4⟩; have HB4 := Lib.hid (below_seq HB3.out hb4); clear hb4))
    go_wp2_with (go_at_call 7; refine (HAW.out _ HB4.out).mono ?_; rintro en w5 ⟨rfl, hb5⟩)
    go_ret
    exact ⟨rfl, below_seq HB4.out hb5⟩
  have HRT := Lib.hid (fun (W : World) (hW : Below w.heap.size w W) => right_yes ps pa len c W (HPV.out W hW) hlen hr)
  by_cases hn : sn ≤ 100
  case neg =>
    have hd : decide ((100 : Int) < (sn : Int)) = true := by simp; omega
    have hd2 : decide (100 < sn) = true := by simp; omega
    clear hr
    go_enter Try.func4, Try.ntmps4
    go_upto_region 2 with (first | (go_at_call 7; refine (HAW.out _ (Below.refl _ _)).mono ?_; rintro en w3 ⟨rfl, hb3⟩; have HB3 := Lib.hid hb3; clear hb3) | (go_at_call 11; refine (HRT.out _ HB3.out).mono ?_; rintro en w4 ⟨rfl, hb4⟩; have HB4 := Lib.hid (below_seq HB3.out hb4); clear hb4))
    go_wp2_with (go_at_call 7; refine (HAW.out _ HB4.out).mono ?_; rintro en w5 ⟨rfl, hb5⟩)
    go_ret
    exact ⟨rfl, below_seq HB4.out hb5⟩
  have hd : decide ((100 : Int) < (sn : Int)) = false := by simp; omega
  have hd2 : decide (100 < sn) = false := by simp; omega
  have hf := hr.facts
  have HBU := Lib.hid (fun (W : World) (hW : Below w.heap.size w W) => build_any ps pa len c W (HPV.out W hW) hf)
  obtain ⟨zs, hz1, hz2, hF⟩ := hf.zs HNS.out
  have hel : (esOf ps).length ≤ 12 := by rw [hf.elen]; exact hf.len
  obtain ⟨ns, hns⟩ : ∃ ns, gNodes (tsOf ps) = ns := ⟨_, rfl⟩
  have hsm := hf.small
  have hnl := hf.nlen
  have hl12 : len ≤ 12 := by rw [HL.out]; exact hf.len
  have hufo := hf.ufo
  have HRS := Lib.hid (fun (W : World) (hW : Below w.heap.size w W) => rsplit_any ps ls pa len c (.slice sa sn sc) W (HPV.out W hW) hf.ufo (HSV.out W hW) (by omega))
  have hdf : Diff (zs.map Prod.fst) := by rw [hz1]; exact hf.diff
  rw [hns] at HBU hF hsm hnl
  rw [← hz2] at HBU hel
  have hokA := ents_ok hF
  -- the lists of priorities
  have hfa : (zs.map Prod.snd).filter (fun e => memB e.n ls || !livB ns e) = (zs.filter (fun z => inN ls z || !z.1.m.t.pri.isSome)).map Prod.snd :=
    zs_filter hF _ (fun p => memB p.m.n ls || !p.m.t.pri.isSome) (fun z h => by rw [h.name, fit_live z h])
  have hfb : (zs.map Prod.snd).filter (fun e => !memB e.n ls || !livB ns e) = (zs.filter (fun z => !inN ls z || !z.1.m.t.pri.isSome)).map Prod.snd :=
    zs_filter hF _ (fun p => !memB p.m.n ls || !p.m.t.pri.isSome) (fun z h => by rw [h.name, fit_live z h])
  obtain ⟨za, hza⟩ : ∃ za, zs.filter (fun z => inN ls z || !z.1.m.t.pri.isSome) = za := ⟨_, rfl⟩
  obtain ⟨zb, hzb⟩ : ∃ zb, zs.filter (fun z => !inN ls z || !z.1.m.t.pri.isSome) = zb := ⟨_, rfl⟩
  have hFa : ∀ z ∈ za, Fit ns z := by rw [← hza]; exact fit_filter hF _
  have hFb : ∀ z ∈ zb, Fit ns z := by rw [← hzb]; exact fit_filter hF _
  rw [hza] at hfa
  rw [hzb] at hfb
  have hla : (za.map Prod.snd).length ≤ 12 := by rw [← hfa]; exact Nat.le_trans (List.length_filter_le _ _) hel
  have hlb : (zb.map Prod.snd).length ≤ 12 := by rw [← hfb]; exact Nat.le_trans (List.length_filter_le _ _) hel
  have hwa : ps.filter (inA ls) = za.map Prod.fst := by
    rw [← hz1, zs_filter1, ← hza]
    congr 1
    refine List.filter_congr fun z _ => ?_
    rw [inA, inN, Bool.or_comm]
  have hwb : ps.filter (inB' ls) = zb.map Prod.fst := by
    rw [← hz1, zs_filter1, ← hzb]
    congr 1
    refine List.filter_congr fun z _ => ?_
    rw [inB', inN, Bool.or_comm]
  rw [hwa, hwb] at HRS
  have hfind : ∀ z ∈ zs, (zs.map Prod.snd).find? (entIs z.1.m.n) = some z.2 := fun z hz => find_whole hF hdf hz
  have hfnA : ∀ z ∈ zs, (za.map Prod.snd).find? (entIs z.1.m.n) = if (inN ls z || !z.1.m.t.pri.isSome) = true then some z.2 else none := fun z hz => by
    rw [← hza]; exact find_part hF hdf _ hz
  have hfnB : ∀ z ∈ zs, (zb.map Prod.snd).find? (entIs z.1.m.n) = if (!inN ls z || !z.1.m.t.pri.isSome) = true then some z.2 else none := fun z hz => by
    rw [← hzb]; exact find_part hF hdf _ hz
  have hsA : ∀ z ∈ za, z ∈ zs := fun z hz => by rw [← hza] at hz; exact (List.mem_filter.1 hz).1
  have hsB : ∀ z ∈ zb, z ∈ zs := fun z hz => by rw [← hzb] at hz; exact (List.mem_filter.1 hz).1
  have hsm1 : ∀ (zc : ZS), (∀ z ∈ zc, z ∈ zs) → ∀ (j : Nat) (e : Ent) (p : PV), (zc.map Prod.snd)[j]? = some e → (zc.map Prod.fst)[j]? = some p → e.n = p.m.n ∧ (zs.map Prod.snd).find? (entIs p.m.n) = some e := by
    intro zc hzc j e p he hp
    rw [List.getElem?_map] at he hp
    obtain ⟨z, hz, rfl⟩ := Option.map_eq_some_iff.1 he
    rw [hz] at hp
    obtain rfl := Option.some.inj hp
    have hm := hzc z (List.mem_of_getElem? hz)
    exact ⟨(hF z hm).name, hfind z hm⟩
  have hnA := hsm1 za hsA
  have hnB := hsm1 zb hsB
  have HZ : Hid (∀ (j : Nat), j < len → ∃ z, ps[j]? = some z.1 ∧ (zs.map Prod.snd)[j]? = some z.2 ∧ (za.map Prod.snd).find? (entIs z.1.m.n) = (if (inN ls z || !z.1.m.t.pri.isSome) = true then some z.2 else none) ∧ (zb.map Prod.snd).find? (entIs z.1.m.n) = (if (!inN ls z || !z.1.m.t.pri.isSome) = true then some z.2 else none)) := Lib.hid (fun j hj => by
    have hl : j < zs.length := by
      have h := congrArg List.length hz1
      rw [List.length_map] at h
      rw [h, ← HL.out]; exact hj
    obtain ⟨z, hz⟩ : ∃ z, zs[j]? = some z := ⟨_, List.getElem?_eq_getElem hl⟩
    have hm := List.mem_of_getElem? hz
    exact ⟨z, by rw [← hz1, List.getElem?_map, hz]; rfl, by rw [List.getElem?_map, hz]; rfl, hfnA z hm, hfnB z hm⟩)
  obtain ⟨wA, hwA⟩ : ∃ x, za.map Prod.fst = x := ⟨_, rfl⟩
  obtain ⟨wB, hwB⟩ : ∃ x, zb.map Prod.fst = x := ⟨_, rfl⟩
  have hlA : (za.map Prod.snd).length = wA.length := by rw [← hwA, List.length_map, List.length_map]
  have hlB : (zb.map Prod.snd).length = wB.length := by rw [← hwB, List.length_map, List.length_map]
  rw [hwA] at HRS hnA
  rw [hwB] at HRS hnB
  obtain ⟨es, hes⟩ : ∃ es, zs.map Prod.snd = es := ⟨_, rfl⟩
  obtain ⟨ea, hea⟩ : ∃ es, za.map Prod.snd = es := ⟨_, rfl⟩
  obtain ⟨eb, heb⟩ : ∃ es, zb.map Prod.snd = es := ⟨_, rfl⟩
  rw [hes] at HBU hel hokA hfa hfb hnA hnB HZ
  rw [hea] at hfa hla hlA hnA HZ
  rw [heb] at hfb hlb hlB hnB HZ
  have HCS : Hid (∀ (na : Option Addr) (nn nc : Nat) (v : Value) (W : World), Below w.heap.size w W → NodeSl (fun k => k < W.heap.size) W (.slice na nn nc) ns → EnSl (fun k => k < W.heap.size) W v es → Calls Try.prog 13 #[grV na nn nc, v, .slice sa sn sc] W fun en w' => ∃ a n c a' n' c', en = .returned (.tuple #[.slice a n c, .slice a' n' c']) ∧ GRow 30 3 W.heap.size w' (.slice a n c) (ea.map entCells) ∧ GRow 30 3 W.heap.size w' (.slice a' n' c') (eb.map entCells) ∧ Below W.heap.size W w') := Lib.hid (fun na nn nc v W hW h1 h2 => by
    have h := csplit_any ns na nn nc es ls v (.slice sa sn sc) W h1 (by omega) hsm hokA h2 (by omega) (HSV.out W hW) (by rw [← HSN.out]; omega)
    rw [hfa, hfb] at h
    exact h)
  have HSA : Hid (∀ (base : Nat) (v av : Value) (wa : Option Addr) (wn wc : Nat) (W : World), EnSl (fun k => k < W.heap.size) W v ea → EnSl (fun k => k < W.heap.size) W av es → GRow 49 7 base W (.slice wa wn wc) (wA.map pvC) → Calls Try.prog 15 #[v, .slice wa wn wc, av] W fun e w' => e = .returned (.bool true) ∧ Below W.heap.size W w') := Lib.hid (fun base v av wa wn wc W h1 h2 h3 => same_any ea wA es base v av wa wn wc W h1 h2 h3 hlA hnA)
  have HSB : Hid (∀ (base : Nat) (v av : Value) (wa : Option Addr) (wn wc : Nat) (W : World), EnSl (fun k => k < W.heap.size) W v eb → EnSl (fun k => k < W.heap.size) W av es → GRow 49 7 base W (.slice wa wn wc) (wB.map pvC) → Calls Try.prog 15 #[v, .slice wa wn wc, av] W fun e w' => e = .returned (.bool true) ∧ Below W.heap.size W w') := Lib.hid (fun base v av wa wn wc W h1 h2 h3 => same_any eb wB es base v av wa wn wc W h1 h2 h3 hlB hnB)
  have HUF := Lib.hid hufo
  have HEL := Lib.hid hel
  have HLEA := Lib.hid hla
  have HLEB := Lib.hid hlb
  have HFD := Lib.hid (fun (l : List Ent) (nm : ByteArray) (v : Value) (W : World) (h : EnSl (fun k => k < W.heap.size) W v l) => lfind_any l nm v W h)
  clear hr hf hz1 hz2 hF hel hns hsm hnl hokA hfa hfb hza hzb hFa hFb hla hlb hufo hwa hwb hfind hfnA hfnB hsA hsB hsm1 hnA hnB hwA hwB hlA hlB hes hea heb hdf HNS HSV
  go_enter Try.func4, Try.ntmps4
  go_upto_region 3 with (first | (go_at_call 7; refine (HAW.out _ (Below.refl _ _)).mono ?_; rintro en w3 ⟨rfl, hb3⟩; have HB3 := Lib.hid hb3; clear hb3) | (go_at_call 11; refine (HRT.out _ HB3.out).mono ?_; rintro en w4 ⟨rfl, hb4⟩; have HB4 := Lib.hid (below_seq HB3.out hb4); clear hb4))
  clear hd hd2
  go_upto_region 4 with (go_at_call 12; go_loud (refine (HBU.out _ HB4.out).mono ?_; rintro en w6 ⟨na, nn, nc, la, ln, lc, rfl, hn6, hr6, hb6⟩; have HN6 := Lib.hid hn6; have HR6 := Lib.hid hr6; have HB6 := Lib.hid (below_seq HB4.out hb6); clear hn6 hr6 hb6))
  obtain ⟨W7, hW7⟩ : ∃ W7, w6.alloc (.cells #[.slice na nn nc] 37) = W7 := ⟨_, rfl⟩
  have hb7 : Below w6.heap.size w6 W7 := by rw [← hW7]; exact blkBelow w6 _ _
  have x7 : W7.heap[w6.heap.size]? = some (.cells #[.slice na nn nc] 37 (0, 0)) := by rw [← hW7]; exact World.alloc_heap_new _ _
  have hs7 : w6.heap.size < W7.heap.size := (Array.getElem?_eq_some_iff.1 x7).1
  have HBX := Lib.hid (fun (W : World) (hW : Below W7.heap.size W7 W) => show W.cell? ⟨w6.heap.size, 0, none⟩ = some (.slice na nn nc) from by
    have a1 : W.heap[w6.heap.size]? = _ := (hW.block _ hs7).trans x7
    simp [World.cell?, a1])
  have HB7 : Hid (Below w.heap.size w W7) := Lib.hid (below_seq HB6.out hb7)
  have HNG : Hid (∀ W, Below W7.heap.size W7 W → NodeSl (fun k => k < W.heap.size) W (.slice na nn nc) ns) := Lib.hid (fun W hW => by
    have b1 := below_seq hb7 hW
    exact (HN6.out.keep (b1.keeps'.mono (fun k hk => hk))).mono (fun k hk => Nat.lt_of_lt_of_le hk b1.size))
  have HEN : Hid (EnSl (fun k => k < W7.heap.size) W7 (.slice la ln lc) es) := Lib.hid (((HR6.out.to hb7).ents (by have := HEL.out; unfold maxLen; omega)).mono (fun k hk => hk.2))
  obtain rfl : nn = ns.length := by
    obtain ⟨_, _, _, e, hl, _⟩ := (HNG.out W7 (Below.refl _ _)).open
    simp only [Value.slice.injEq] at e
    rw [e.2.1]; exact hl.out
  rw [hW7]
  clear hb7 x7 hs7 hW7 HN6 HR6
  have hsrc := HEN.out.src
  have HSRC := Lib.hid hsrc
  clear hsrc
  go_upto_region 5 with (at_builtin; refine wpList_appG entElem rfl _ _ rfl rfl (GRow.empty 30 3 W7.heap.size W7 _ rfl (Nat.le_refl _)) la ln lc (es.map entCells) rfl HSRC.out.1 (one_ents es).1 ?_ (one_ents es).2 ?_ ?_ ?_)
  · rcases HSRC.out.2 with h | ⟨b, o, e, h⟩
    · exact .inl h
    · exact .inr ⟨b, o, e, fun j e i u hj hi => Lib.cell?_alloc_some _ (h j e i u hj hi)⟩
  · have := HEL.out; simp; omega
  · simp
  intro oa on oc wo hrow hgrow _
  have hbo : Below W7.heap.size W7 wo := ((Below.refl _ W7).alloc (Nat.le_refl _) _).grown hgrow (by simp) (fun k hk => by cases hk; exact Nat.le_refl _)
  have HOW := Lib.hid hrow
  have HBO := Lib.hid hbo
  have hoe : EnSl (fun k => k < wo.heap.size) wo (.slice oa on oc) es := (hrow.ents (by have := HEL.out; unfold maxLen; omega)).mono (fun k hk => hk.2)
  have HSP := Lib.hid (HCS.out na ns.length nc _ wo (below_seq HB7.out hbo) (HNG.out wo hbo) hoe)
  have HOE := Lib.hid hoe
  have b0 := HBX.out wo hbo
  unfold grV at HSP
  clear hrow hgrow hbo hoe HSRC
  go_upto_region 6 with (go_at_call 13; go_loud (refine HSP.out.mono ?_; rintro en w8 ⟨ga, gn, gc, ha, hn, hc, rfl, hr8, hq8, hb8⟩; have HR8 := Lib.hid hr8; have HQ8 := Lib.hid hq8; have HB8 := Lib.hid (below_seq HBO.out hb8); have HB8o := Lib.hid hb8; clear hr8 hq8 hb8))
  have HEA : Hid (∀ W, Below w8.heap.size w8 W → EnSl (fun k => k < W.heap.size) W (.slice ga gn gc) ea ∧ EnSl (fun k => k < W.heap.size) W (.slice ha hn hc) eb) := Lib.hid (fun W hW => ⟨((HR8.out.to hW).ents (by have := HLEA.out; unfold maxLen; omega)).mono (fun k hk => hk.2), ((HQ8.out.to hW).ents (by have := HLEB.out; unfold maxLen; omega)).mono (fun k hk => hk.2)⟩)
  have HRSC := Lib.hid (HRS.out w8 (below_seq HB7.out HB8.out))
  clear b0
  go_upto_region 7 with (go_at_call 14; go_loud (refine HRSC.out.mono ?_; rintro en w9 ⟨xa, xn, xc, ya, yn, yc, rfl, hr9, hq9, hb9⟩; have HR9 := Lib.hid hr9; have HQ9 := Lib.hid hq9; have HB9 := Lib.hid hb9; clear hr9 hq9 hb9))
  have HC1 := Lib.hid (HSA.out _ _ _ _ _ _ w9 (HEA.out w9 HB9.out).1 (HEN.out.to (below_seq HB8.out HB9.out)) HR9.out)
  have HC2 : Hid (∀ W, Below w9.heap.size w9 W → Calls Try.prog 15 #[.slice ha hn hc, .slice ya yn yc, .slice la ln lc] W fun e w' => e = .returned (.bool true) ∧ Below W.heap.size W w') := Lib.hid (fun W hW => HSB.out _ _ _ _ _ _ W (HEA.out W (below_seq HB9.out hW)).2 (HEN.out.to (below_seq HB8.out (below_seq HB9.out hW))) (HQ9.out.to hW))
  have mk1 : True := trivial
  go_upto_region 9 with (first | (have hone := mk1; clear hone; go_at_call 15; go_loud (refine HC1.out.mono ?_; rintro en w10 ⟨rfl, hb10⟩; have HB10 := Lib.hid hb10; clear hb10 mk1)) | (go_at_call 15; go_loud (refine (HC2.out w10 HB10.out).mono ?_; rintro en w11 ⟨rfl, hb11⟩; have HB11 := Lib.hid (below_seq HB9.out (below_seq HB10.out hb11)); clear hb11)))
  have HFA : Hid (∀ (nm : ByteArray) (W : World), Below w8.heap.size w8 W → Calls Try.prog 9 #[.slice ga gn gc, .string nm] W fun e w' => e = .returned (fndR (ea.find? (entIs nm))) ∧ Below W.heap.size W w') := Lib.hid (fun nm W hW => HFD.out ea nm _ W (HEA.out W hW).1)
  have HFB : Hid (∀ (nm : ByteArray) (W : World), Below w8.heap.size w8 W → Calls Try.prog 9 #[.slice ha hn hc, .string nm] W fun e w' => e = .returned (fndR (eb.find? (entIs nm))) ∧ Below W.heap.size W w') := Lib.hid (fun nm W hW => HFD.out eb nm _ W (HEA.out W hW).2)
  have HOL : Hid (∀ (j : Nat) (e : Ent), es[j]? = some e → (∃ kb ko, oa = some ⟨kb, ko, none⟩ ∧ ∀ W, Below w8.heap.size w8 W → EnAt W kb (ko + j * 3) e) ∧ (∃ kb ko, la = some ⟨kb, ko, none⟩ ∧ ∀ W, Below w8.heap.size w8 W → EnAt W kb (ko + j * 3) e)) := Lib.hid (fun j e he => by
    obtain ⟨_, _, _, e1, _, _, hg1⟩ := HOE.out.open
    obtain ⟨_, _, _, e2, _, _, hg2⟩ := HEN.out.open
    simp only [Value.slice.injEq] at e1 e2
    obtain ⟨kb, ko, e3, hkb, h1⟩ := hg1 j e he
    obtain ⟨kb', ko', e4, hkb', h2⟩ := hg2 j e he
    exact ⟨⟨kb, ko, e1.1.trans e3, fun W hW => h1.keep ((below_seq HB8o.out hW).keeps'.mono (fun k hk => hk)) hkb⟩, ⟨kb', ko', e2.1.trans e4, fun W hW => h2.keep ((below_seq HB8.out hW).keeps'.mono (fun k hk => hk)) hkb'⟩⟩)
  obtain ⟨hon, hln⟩ : on = es.length ∧ ln = es.length := by
    obtain ⟨_, _, _, e1, hl1, _, _⟩ := HOE.out.open
    obtain ⟨_, _, _, e2, hl2, _, _⟩ := HEN.out.open
    simp only [Value.slice.injEq] at e1 e2
    exact ⟨e1.2.1.trans hl1.out, e2.2.1.trans hl2.out⟩
  have HON := Lib.hid hon
  have HLN := Lib.hid hln
  have HWB : Hid (Below w.heap.size w w8) := Lib.hid (below_seq HB7.out HB8.out)
  clear hon hln
  go_wp2_with fail
  go_loopw [12] (fun i wr => ∃ j : Nat, i = .int .i64 j ∧ j ≤ len ∧ Hid (Below w8.heap.size w8 wr)) (fun i _ => len - (intOf i).toNat)
  case atStart => exact ⟨0, rfl, Nat.zero_le _, HB11⟩
  case round =>
    obtain ⟨j, rfl, hj, HBW⟩ := hrel
    by_cases hlt : j < len
    · obtain ⟨z, hp, he, hfa, hfb⟩ := HZ.out j hlt
      have hjl : j < es.length := (List.getElem?_eq_some_iff.1 he).1
      have hjo : j < on := by rw [HON.out]; exact hjl
      have hjn : j < ln := by rw [HLN.out]; exact hjl
      obtain ⟨kb, ko, rfl, hW⟩ := HPT.out j z.1 hp
      obtain ⟨⟨ob, oo, rfl, hO⟩, ⟨lb, lo, rfl, hLL⟩⟩ := HOL.out j z.2 he
      obtain ⟨L, hL⟩ : ∃ L, z.1.m.t.pri.isSome = L := ⟨_, rfl⟩
      obtain ⟨M, hM⟩ : ∃ M, inN ls z = M := ⟨_, rfl⟩
      obtain ⟨u1, u2, hu⟩ := fnd_is (ea.find? (entIs z.1.m.n))
      obtain ⟨t1, t2, ht⟩ := fnd_is (eb.find? (entIs z.1.m.n))
      rw [hfa, if_some, hL, hM] at hu
      rw [hfb, if_some, hL, hM] at ht
      have HIL : Hid (∀ W, Below w8.heap.size w8 W → Calls Try.prog 16 #[tyV z.1] W fun e w' => e = .returned (.bool L) ∧ Below W.heap.size W w') := Lib.hid (fun W hB => by
        have hm : z.1 ∈ ps := List.mem_of_getElem? hp
        have h := isLive_any z.1.m.t (HUF.out _ hm) _ (tyV z.1) W (fun k hk => hk) ((hW W (below_seq HWB.out hB)).2.mono (fun k hk => Nat.lt_of_lt_of_le hk (below_seq HWB.out hB).size))
        rw [hL] at h
        exact h)
      obtain ⟨yk, hyk⟩ : ∃ x, z.1.m.t.k = x := ⟨_, rfl⟩
      obtain ⟨yp, hyp⟩ : ∃ x, z.1.m.t.p = x := ⟨_, rfl⟩
      obtain ⟨yz, hyn⟩ : ∃ x, z.1.m.t.n = x := ⟨_, rfl⟩
      obtain ⟨ys, hys⟩ : ∃ x, z.1.m.t.s = x := ⟨_, rfl⟩
      obtain ⟨pn, hpn⟩ : ∃ x, z.1.m.n = x := ⟨_, rfl⟩
      obtain ⟨ne, hne⟩ : ∃ x, z.2.n = x := ⟨_, rfl⟩
      obtain ⟨ae, hae⟩ : ∃ x, z.2.a = x := ⟨_, rfl⟩
      obtain ⟨se, hse⟩ : ∃ x, z.2.s = x := ⟨_, rfl⟩
      have HF1 : Hid (∀ W, Below w8.heap.size w8 W → Calls Try.prog 9 #[.slice ga gn gc, .string pn] W fun e w' => e = .returned (.tuple #[.agg #[.int .i64 u1, .int .i64 u2], .bool (M || !L)]) ∧ Below W.heap.size W w') := Lib.hid (fun W hB => by
        have h := HFA.out pn W hB
        rw [← hpn, hfa, hL, hM, hu, hpn] at h
        exact h)
      have HF2 : Hid (∀ W, Below w8.heap.size w8 W → Calls Try.prog 9 #[.slice ha hn hc, .string pn] W fun e w' => e = .returned (.tuple #[.agg #[.int .i64 t1, .int .i64 t2], .bool (!M || !L)]) ∧ Below W.heap.size W w') := Lib.hid (fun W hB => by
        have h := HFB.out pn W hB
        rw [← hpn, hfb, hL, hM, ht, hpn] at h
        exact h)
      have HTV : Hid (tyV z.1 = .agg #[.int .i64 yk, .int .i64 yp, .string yz, .int .i64 ys, .slice z.1.la z.1.ln z.1.lc, .slice z.1.ka z.1.kn z.1.kc]) := Lib.hid (by rw [tyV, hyk, hyp, hyn, hys])
      rw [HTV.out] at HIL
      have HRD : Hid (∀ W, Below w8.heap.size w8 W → (W.cell? ⟨kb, ko + j * 7, none⟩ = some (.string pn) ∧ W.cell? ⟨kb, ko + j * 7 + 1, none⟩ = some (.int .i64 yk) ∧ W.cell? ⟨kb, ko + j * 7 + 2, none⟩ = some (.int .i64 yp) ∧ W.cell? ⟨kb, ko + j * 7 + 3, none⟩ = some (.string yz) ∧ W.cell? ⟨kb, ko + j * 7 + 4, none⟩ = some (.int .i64 ys) ∧ W.cell? ⟨kb, ko + j * 7 + 5, none⟩ = some (.slice z.1.la z.1.ln z.1.lc) ∧ W.cell? ⟨kb, ko + j * 7 + 6, none⟩ = some (.slice z.1.ka z.1.kn z.1.kc)) ∧ (W.cell? ⟨ob, oo + j * 3, none⟩ = some (.string ne) ∧ W.cell? ⟨ob, oo + j * 3 + 1, none⟩ = some (.int .i64 ae) ∧ W.cell? ⟨ob, oo + j * 3 + 2, none⟩ = some (.int .i64 se)) ∧ W.cell? ⟨lb, lo + j * 3, none⟩ = some (.string ne) ∧ W.cell? ⟨lb, lo + j * 3 + 1, none⟩ = some (.int .i64 ae) ∧ W.cell? ⟨lb, lo + j * 3 + 2, none⟩ = some (.int .i64 se)) := Lib.hid (fun W hB => by
        have h1 := (hW W (below_seq HWB.out hB)).1
        have h2 := hO W hB
        have h3 := hLL W hB
        rw [PvAt, hpn, hyk, hyp, hyn, hys] at h1
        rw [EnAt, hne, hae, hse] at h2 h3
        exact ⟨h1, h2, h3⟩)
      have d0 := (HRD.out wr HBW.out).1.1
      clear hp he hfa hfb hW hO hLL hL hM hu ht hyk hyp hyn hys hpn hne hae hse hjl
      go_upto_region 13 with (go_at_call 9; go_loud (refine (HF1.out wr HBW.out).mono ?_; rintro en w12 ⟨rfl, hb12⟩; have HB12 := Lib.hid (below_seq HBW.out hb12); clear hb12))
      obtain ⟨W13, hW13⟩ : ∃ W13, w12.alloc (.cells #[.int .i64 u1, .int .i64 u2] 24) = W13 := ⟨_, rfl⟩
      have HB13 : Hid (Below w8.heap.size w8 W13) := Lib.hid (by rw [← hW13]; exact HB12.out.alloc HB12.out.size _)
      rw [hW13]
      clear hW13 d0
      have d0 := (HRD.out W13 HB13.out).1.1
      go_upto_region 14 with (go_at_call 9; go_loud (refine (HF2.out W13 HB13.out).mono ?_; rintro en w14 ⟨rfl, hb14⟩; have HB14 := Lib.hid (below_seq HB13.out hb14); clear hb14))
      obtain ⟨W15, hW15⟩ : ∃ W15, w14.alloc (.cells #[.int .i64 t1, .int .i64 t2] 24) = W15 := ⟨_, rfl⟩
      have HB15 : Hid (Below w8.heap.size w8 W15) := Lib.hid (by rw [← hW15]; exact HB14.out.alloc HB14.out.size _)
      rw [hW15]
      clear hW15 d0
      cases L with
      | false =>
        simp only [Bool.not_false, Bool.or_true]
        refine wp_region_held_drew (S := (fun W => (W.cell? ⟨kb, ko + j * 7, none⟩ = some (.string pn) ∧ W.cell? ⟨kb, ko + j * 7 + 1, none⟩ = some (.int .i64 yk) ∧ W.cell? ⟨kb, ko + j * 7 + 2, none⟩ = some (.int .i64 yp) ∧ W.cell? ⟨kb, ko + j * 7 + 3, none⟩ = some (.string yz) ∧ W.cell? ⟨kb, ko + j * 7 + 4, none⟩ = some (.int .i64 ys) ∧ W.cell? ⟨kb, ko + j * 7 + 5, none⟩ = some (.slice z.1.la z.1.ln z.1.lc) ∧ W.cell? ⟨kb, ko + j * 7 + 6, none⟩ = some (.slice z.1.ka z.1.kn z.1.kc)) ∧ (W.cell? ⟨ob, oo + j * 3, none⟩ = some (.string ne) ∧ W.cell? ⟨ob, oo + j * 3 + 1, none⟩ = some (.int .i64 ae) ∧ W.cell? ⟨ob, oo + j * 3 + 2, none⟩ = some (.int .i64 se)) ∧ W.cell? ⟨lb, lo + j * 3, none⟩ = some (.string ne) ∧ W.cell? ⟨lb, lo + j * 3 + 1, none⟩ = some (.int .i64 ae) ∧ W.cell? ⟨lb, lo + j * 3 + 2, none⟩ = some (.int .i64 se))) (by kernel_rfl) (HRD.out W15.drew HB15.out.drew) (fun hHeld => ?_)
        refine wpAnyH_take_h 0 (v := ?ec0) rfl rfl (by kernel_rfl) (by kernel_rfl) (by kernel_rfl) (fun _ _ _ h => h) ?gc0 (by assumption) ?kc0
        case gc0 => (intro w hSw; (try dsimp only at hSw); go_simp; try rfl)
        case' kc0 => simp only [setD, List.set_cons_succ, List.set_cons_zero]
        refine wpAnyH_take_h 1 (v := ?ec1) rfl rfl (by kernel_rfl) (by kernel_rfl) (by kernel_rfl) (fun _ _ _ h => h) ?gc1 (by assumption) ?kc1
        case gc1 => (intro w hSw; (try dsimp only at hSw); go_simp; try rfl)
        case' kc1 => simp only [setD, List.set_cons_succ, List.set_cons_zero]
        refine wpAnyH_take_h 2 (v := ?ec2) rfl rfl (by kernel_rfl) (by kernel_rfl) (by kernel_rfl) (fun _ _ _ h => h) ?gc2 (by assumption) ?kc2
        case gc2 => (intro w hSw; (try dsimp only at hSw); go_simp; try rfl)
        case' kc2 => simp only [setD, List.set_cons_succ, List.set_cons_zero]
        refine wpAnyH_take_h 3 (v := ?ec3) rfl rfl (by kernel_rfl) (by kernel_rfl) (by kernel_rfl) (fun _ _ _ h => h) ?gc3 (by assumption) ?kc3
        case gc3 => (intro w hSw; (try dsimp only at hSw); go_simp; try rfl)
        case' kc3 => simp only [setD, List.set_cons_succ, List.set_cons_zero]
        refine wpAnyH_take_h 4 (v := ?ec4) rfl rfl (by kernel_rfl) (by kernel_rfl) (by kernel_rfl) (fun _ _ _ h => h) ?gc4 (by assumption) ?kc4
        case gc4 => (intro w hSw; (try dsimp only at hSw); go_simp; try rfl)
        case' kc4 => simp only [setD, List.set_cons_succ, List.set_cons_zero]
        refine wpAnyH_take_h 5 (v := ?ec5) rfl rfl (by kernel_rfl) (by kernel_rfl) (by kernel_rfl) (fun _ _ _ h => h) ?gc5 (by assumption) ?kc5
        case gc5 => (intro w hSw; (try dsimp only at hSw); go_simp; try rfl)
        case' kc5 => simp only [setD, List.set_cons_succ, List.set_cons_zero]
        refine wpAnyH_take_h 6 (v := ?ec6) rfl rfl (by kernel_rfl) (by kernel_rfl) (by kernel_rfl) (fun _ _ _ h => h) ?gc6 (by assumption) ?kc6
        case gc6 => (intro w hSw; (try dsimp only at hSw); go_simp; try rfl)
        case' kc6 => simp only [setD, List.set_cons_succ, List.set_cons_zero]
        refine wpAnyH_take_h 7 (v := ?ec7) rfl rfl (by kernel_rfl) (by kernel_rfl) (by kernel_rfl) (fun _ _ _ h => h) ?gc7 (by assumption) ?kc7
        case gc7 => (intro w hSw; (try dsimp only at hSw); go_simp; try rfl)
        case' kc7 => simp only [setD, List.set_cons_succ, List.set_cons_zero]
        refine wpAnyH_take_h 8 (v := ?ec8) rfl rfl (by kernel_rfl) (by kernel_rfl) (by kernel_rfl) (fun _ _ _ h => h) ?gc8 (by assumption) ?kc8
        case gc8 => (intro w hSw; (try dsimp only at hSw); go_simp; try rfl)
        case' kc8 => simp only [setD, List.set_cons_succ, List.set_cons_zero]
        refine wpAnyH_take_h 9 (v := ?ec9) rfl rfl (by kernel_rfl) (by kernel_rfl) (by kernel_rfl) (fun _ _ _ h => h) ?gc9 (by assumption) ?kc9
        case gc9 => (intro w hSw; (try dsimp only at hSw); go_simp; try rfl)
        case' kc9 => simp only [setD, List.set_cons_succ, List.set_cons_zero]
        refine wpAnyH_take_h 10 (v := ?ec10) rfl rfl (by kernel_rfl) (by kernel_rfl) (by kernel_rfl) (fun _ _ _ h => h) ?gc10 (by assumption) ?kc10
        case gc10 => (intro w hSw; (try dsimp only at hSw); go_simp; try rfl)
        case' kc10 => simp only [setD, List.set_cons_succ, List.set_cons_zero]
        refine wpAnyH_take_h 11 (v := ?ec11) rfl rfl (by kernel_rfl) (by kernel_rfl) (by kernel_rfl) (fun _ _ _ h => h) ?gc11 (by assumption) ?kc11
        case gc11 => (intro w hSw; (try dsimp only at hSw); go_simp; try rfl)
        case' kc11 => simp only [setD, List.set_cons_succ, List.set_cons_zero]
        refine wpAnyH_take_h 12 (v := ?ec12) rfl rfl (by kernel_rfl) (by kernel_rfl) (by kernel_rfl) (fun _ _ _ h => h) ?gc12 (by assumption) ?kc12
        case gc12 => (intro w hSw; (try dsimp only at hSw); go_simp; try rfl)
        case' kc12 => simp only [setD, List.set_cons_succ, List.set_cons_zero]
        refine wpAnyH_take_h 13 (v := ?ec13) rfl rfl (by kernel_rfl) (by kernel_rfl) (by kernel_rfl) (fun _ _ _ h => h) ?gc13 (by assumption) ?kc13
        case gc13 => (intro w hSw; (try dsimp only at hSw); go_simp; try rfl)
        case' kc13 => simp only [setD, List.set_cons_succ, List.set_cons_zero]
        refine wpAnyH_take_h 14 (v := ?ec14) rfl rfl (by kernel_rfl) (by kernel_rfl) (by kernel_rfl) (fun _ _ _ h => h) ?gc14 (by assumption) ?kc14
        case gc14 => (intro w hSw; (try dsimp only at hSw); go_simp; try rfl)
        case' kc14 => simp only [setD, List.set_cons_succ, List.set_cons_zero]
        refine wpAnyH_take_h 16 (v := ?ec16) rfl rfl (by kernel_rfl) (by kernel_rfl) (by kernel_rfl) (fun _ _ _ h => h) ?gc16 (by assumption) ?kc16
        case gc16 => (intro w hSw; (try dsimp only at hSw); go_simp; try rfl)
        case' kc16 => simp only [setD, List.set_cons_succ, List.set_cons_zero]
        refine wpAnyH_one_h 15 rfl rfl (by kernel_rfl) (fun K hK => ?_)
        have hK2 := hK.out
        clear hK
        simp only [setD, List.set_cons_succ, List.set_cons_zero] at hK2 ⊢
        go_simp
        refine (HIL.out _ HB15.out.drew).mono ?_
        rintro en w16 ⟨rfl, hb16⟩
        dsimp only
        have HB16 := Lib.hid (below_seq HB15.out.drew hb16)
        refine hK2 _ _ (HRD.out w16 HB16.out) (fun _ => ?_)
        clear hK2 K hb16
        refine wpAnyH_take_h 17 (v := ?ec17) rfl rfl (by kernel_rfl) (by kernel_rfl) (by kernel_rfl) (fun _ _ _ h => h) ?gc17 (by assumption) ?kc17
        case gc17 => (intro w hSw; (try dsimp only at hSw); go_simp; try rfl)
        case' kc17 => simp only [setD, List.set_cons_succ, List.set_cons_zero]
        refine wpAnyH_take_h 18 (v := ?ec18) rfl rfl (by kernel_rfl) (by kernel_rfl) (by kernel_rfl) (fun _ _ _ h => h) ?gc18 (by assumption) ?kc18
        case gc18 => (intro w hSw; (try dsimp only at hSw); go_simp; try rfl)
        case' kc18 => simp only [setD, List.set_cons_succ, List.set_cons_zero]
        refine wpAnyH_take_h 19 (v := ?ec19) rfl rfl (by kernel_rfl) (by kernel_rfl) (by kernel_rfl) (fun _ _ _ h => h) ?gc19 (by assumption) ?kc19
        case gc19 => (intro w hSw; (try dsimp only at hSw); go_simp; try rfl)
        case' kc19 => simp only [setD, List.set_cons_succ, List.set_cons_zero]
        refine wpAnyH_take_h 20 (v := ?ec20) rfl rfl (by kernel_rfl) (by kernel_rfl) (by kernel_rfl) (fun _ _ _ h => h) ?gc20 (by assumption) ?kc20
        case gc20 => (intro w hSw; (try dsimp only at hSw); go_simp; try rfl)
        case' kc20 => simp only [setD, List.set_cons_succ, List.set_cons_zero]
        refine wpAnyH_take_h 21 (v := ?ec21) rfl rfl (by kernel_rfl) (by kernel_rfl) (by kernel_rfl) (fun _ _ _ h => h) ?gc21 (by assumption) ?kc21
        case gc21 => (intro w hSw; (try dsimp only at hSw); go_simp; try rfl)
        case' kc21 => simp only [setD, List.set_cons_succ, List.set_cons_zero]
        refine wpAnyH_take_h 22 (v := ?ec22) rfl rfl (by kernel_rfl) (by kernel_rfl) (by kernel_rfl) (fun _ _ _ h => h) ?gc22 (by assumption) ?kc22
        case gc22 => (intro w hSw; (try dsimp only at hSw); go_simp; try rfl)
        case' kc22 => simp only [setD, List.set_cons_succ, List.set_cons_zero]
        refine wpAnyH_take_h 23 (v := ?ec23) rfl rfl (by kernel_rfl) (by kernel_rfl) (by kernel_rfl) (fun _ _ _ h => h) ?gc23 (by assumption) ?kc23
        case gc23 => (intro w hSw; (try dsimp only at hSw); go_simp; try rfl)
        case' kc23 => simp only [setD, List.set_cons_succ, List.set_cons_zero]
        refine wpAnyH_take_h 24 (v := ?ec24) rfl rfl (by kernel_rfl) (by kernel_rfl) (by kernel_rfl) (fun _ _ _ h => h) ?gc24 (by assumption) ?kc24
        case gc24 => (intro w hSw; (try dsimp only at hSw); go_simp; try rfl)
        case' kc24 => simp only [setD, List.set_cons_succ, List.set_cons_zero]
        refine wpAnyH_take_h 25 (v := ?ec25) rfl rfl (by kernel_rfl) (by kernel_rfl) (by kernel_rfl) (fun _ _ _ h => h) ?gc25 (by assumption) ?kc25
        case gc25 => (intro w hSw; (try dsimp only at hSw); go_simp; try rfl)
        case' kc25 => simp only [setD, List.set_cons_succ, List.set_cons_zero]
        refine wpAnyH_skip_h 26 rfl rfl (by kernel_rfl) (by kernel_rfl) (by kernel_rfl) (fun _ _ _ h => h) (by assumption) ?_
        simp only [setD, List.set_cons_succ, List.set_cons_zero]
        refine wpAnyH_skip_h 27 rfl rfl (by kernel_rfl) (by kernel_rfl) (by kernel_rfl) (fun _ _ _ h => h) (by assumption) ?_
        simp only [setD, List.set_cons_succ, List.set_cons_zero]
        refine wpAnyH_take_h 28 (v := ?ec28) rfl rfl (by kernel_rfl) (by kernel_rfl) (by kernel_rfl) (fun _ _ _ h => h) ?gc28 (by assumption) ?kc28
        case gc28 => (intro w hSw; (try dsimp only at hSw); go_simp; try rfl)
        case' kc28 => simp only [setD, List.set_cons_succ, List.set_cons_zero]
        refine wpAnyH_take_h 29 (v := ?ec29) rfl rfl (by kernel_rfl) (by kernel_rfl) (by kernel_rfl) (fun _ _ _ h => h) ?gc29 (by assumption) ?kc29
        case gc29 => (intro w hSw; (try dsimp only at hSw); go_simp; try rfl)
        case' kc29 => simp only [setD, List.set_cons_succ, List.set_cons_zero]
        refine wpAnyH_done (by kernel_rfl) ?_ _
        clear hHeld
        go_wp2_with fail
        go_roundw
        case rel => exact ⟨j + 1, by go_num, by omega, HB16⟩
        case measure => simp [intOf]; omega
      | true =>
        simp only [Bool.not_true, Bool.or_false]
        cases M with
        | true =>
          refine wp_region_held_drew (S := (fun W => (W.cell? ⟨kb, ko + j * 7, none⟩ = some (.string pn) ∧ W.cell? ⟨kb, ko + j * 7 + 1, none⟩ = some (.int .i64 yk) ∧ W.cell? ⟨kb, ko + j * 7 + 2, none⟩ = some (.int .i64 yp) ∧ W.cell? ⟨kb, ko + j * 7 + 3, none⟩ = some (.string yz) ∧ W.cell? ⟨kb, ko + j * 7 + 4, none⟩ = some (.int .i64 ys) ∧ W.cell? ⟨kb, ko + j * 7 + 5, none⟩ = some (.slice z.1.la z.1.ln z.1.lc) ∧ W.cell? ⟨kb, ko + j * 7 + 6, none⟩ = some (.slice z.1.ka z.1.kn z.1.kc)) ∧ (W.cell? ⟨ob, oo + j * 3, none⟩ = some (.string ne) ∧ W.cell? ⟨ob, oo + j * 3 + 1, none⟩ = some (.int .i64 ae) ∧ W.cell? ⟨ob, oo + j * 3 + 2, none⟩ = some (.int .i64 se)) ∧ W.cell? ⟨lb, lo + j * 3, none⟩ = some (.string ne) ∧ W.cell? ⟨lb, lo + j * 3 + 1, none⟩ = some (.int .i64 ae) ∧ W.cell? ⟨lb, lo + j * 3 + 2, none⟩ = some (.int .i64 se))) (by kernel_rfl) (HRD.out W15.drew HB15.out.drew) (fun hHeld => ?_)
          refine wpAnyH_take_h 0 (v := ?ea0) rfl rfl (by kernel_rfl) (by kernel_rfl) (by kernel_rfl) (fun _ _ _ h => h) ?ga0 (by assumption) ?ka0
          case ga0 => (intro w hSw; (try dsimp only at hSw); go_simp; try rfl)
          case' ka0 => simp only [setD, List.set_cons_succ, List.set_cons_zero]
          refine wpAnyH_take_h 1 (v := ?ea1) rfl rfl (by kernel_rfl) (by kernel_rfl) (by kernel_rfl) (fun _ _ _ h => h) ?ga1 (by assumption) ?ka1
          case ga1 => (intro w hSw; (try dsimp only at hSw); go_simp; try rfl)
          case' ka1 => simp only [setD, List.set_cons_succ, List.set_cons_zero]
          refine wpAnyH_take_h 2 (v := ?ea2) rfl rfl (by kernel_rfl) (by kernel_rfl) (by kernel_rfl) (fun _ _ _ h => h) ?ga2 (by assumption) ?ka2
          case ga2 => (intro w hSw; (try dsimp only at hSw); go_simp; try rfl)
          case' ka2 => simp only [setD, List.set_cons_succ, List.set_cons_zero]
          refine wpAnyH_take_h 3 (v := ?ea3) rfl rfl (by kernel_rfl) (by kernel_rfl) (by kernel_rfl) (fun _ _ _ h => h) ?ga3 (by assumption) ?ka3
          case ga3 => (intro w hSw; (try dsimp only at hSw); go_simp; try rfl)
          case' ka3 => simp only [setD, List.set_cons_succ, List.set_cons_zero]
          refine wpAnyH_take_h 4 (v := ?ea4) rfl rfl (by kernel_rfl) (by kernel_rfl) (by kernel_rfl) (fun _ _ _ h => h) ?ga4 (by assumption) ?ka4
          case ga4 => (intro w hSw; (try dsimp only at hSw); go_simp; try rfl)
          case' ka4 => simp only [setD, List.set_cons_succ, List.set_cons_zero]
          refine wpAnyH_take_h 5 (v := ?ea5) rfl rfl (by kernel_rfl) (by kernel_rfl) (by kernel_rfl) (fun _ _ _ h => h) ?ga5 (by assumption) ?ka5
          case ga5 => (intro w hSw; (try dsimp only at hSw); go_simp; try rfl)
          case' ka5 => simp only [setD, List.set_cons_succ, List.set_cons_zero]
          refine wpAnyH_take_h 6 (v := ?ea6) rfl rfl (by kernel_rfl) (by kernel_rfl) (by kernel_rfl) (fun _ _ _ h => h) ?ga6 (by assumption) ?ka6
          case ga6 => (intro w hSw; (try dsimp only at hSw); go_simp; try rfl)
          case' ka6 => simp only [setD, List.set_cons_succ, List.set_cons_zero]
          refine wpAnyH_take_h 7 (v := ?ea7) rfl rfl (by kernel_rfl) (by kernel_rfl) (by kernel_rfl) (fun _ _ _ h => h) ?ga7 (by assumption) ?ka7
          case ga7 => (intro w hSw; (try dsimp only at hSw); go_simp; try rfl)
          case' ka7 => simp only [setD, List.set_cons_succ, List.set_cons_zero]
          refine wpAnyH_take_h 8 (v := ?ea8) rfl rfl (by kernel_rfl) (by kernel_rfl) (by kernel_rfl) (fun _ _ _ h => h) ?ga8 (by assumption) ?ka8
          case ga8 => (intro w hSw; (try dsimp only at hSw); go_simp; try rfl)
          case' ka8 => simp only [setD, List.set_cons_succ, List.set_cons_zero]
          refine wpAnyH_take_h 9 (v := ?ea9) rfl rfl (by kernel_rfl) (by kernel_rfl) (by kernel_rfl) (fun _ _ _ h => h) ?ga9 (by assumption) ?ka9
          case ga9 => (intro w hSw; (try dsimp only at hSw); go_simp; try rfl)
          case' ka9 => simp only [setD, List.set_cons_succ, List.set_cons_zero]
          refine wpAnyH_take_h 10 (v := ?ea10) rfl rfl (by kernel_rfl) (by kernel_rfl) (by kernel_rfl) (fun _ _ _ h => h) ?ga10 (by assumption) ?ka10
          case ga10 => (intro w hSw; (try dsimp only at hSw); go_simp; try rfl)
          case' ka10 => simp only [setD, List.set_cons_succ, List.set_cons_zero]
          refine wpAnyH_take_h 11 (v := ?ea11) rfl rfl (by kernel_rfl) (by kernel_rfl) (by kernel_rfl) (fun _ _ _ h => h) ?ga11 (by assumption) ?ka11
          case ga11 => (intro w hSw; (try dsimp only at hSw); go_simp; try rfl)
          case' ka11 => simp only [setD, List.set_cons_succ, List.set_cons_zero]
          refine wpAnyH_take_h 12 (v := ?ea12) rfl rfl (by kernel_rfl) (by kernel_rfl) (by kernel_rfl) (fun _ _ _ h => h) ?ga12 (by assumption) ?ka12
          case ga12 => (intro w hSw; (try dsimp only at hSw); go_simp; try rfl)
          case' ka12 => simp only [setD, List.set_cons_succ, List.set_cons_zero]
          refine wpAnyH_take_h 13 (v := ?ea13) rfl rfl (by kernel_rfl) (by kernel_rfl) (by kernel_rfl) (fun _ _ _ h => h) ?ga13 (by assumption) ?ka13
          case ga13 => (intro w hSw; (try dsimp only at hSw); go_simp; try rfl)
          case' ka13 => simp only [setD, List.set_cons_succ, List.set_cons_zero]
          refine wpAnyH_take_h 14 (v := ?ea14) rfl rfl (by kernel_rfl) (by kernel_rfl) (by kernel_rfl) (fun _ _ _ h => h) ?ga14 (by assumption) ?ka14
          case ga14 => (intro w hSw; (try dsimp only at hSw); go_simp; try rfl)
          case' ka14 => simp only [setD, List.set_cons_succ, List.set_cons_zero]
          refine wpAnyH_take_h 16 (v := ?ea16) rfl rfl (by kernel_rfl) (by kernel_rfl) (by kernel_rfl) (fun _ _ _ h => h) ?ga16 (by assumption) ?ka16
          case ga16 => (intro w hSw; (try dsimp only at hSw); go_simp; try rfl)
          case' ka16 => simp only [setD, List.set_cons_succ, List.set_cons_zero]
          refine wpAnyH_one_h 15 rfl rfl (by kernel_rfl) (fun K hK => ?_)
          have hK2 := hK.out
          clear hK
          simp only [setD, List.set_cons_succ, List.set_cons_zero] at hK2 ⊢
          go_simp
          refine (HIL.out _ HB15.out.drew).mono ?_
          rintro en w16 ⟨rfl, hb16⟩
          dsimp only
          have HB16 := Lib.hid (below_seq HB15.out.drew hb16)
          refine hK2 _ _ (HRD.out w16 HB16.out) (fun _ => ?_)
          clear hK2 K hb16
          refine wpAnyH_take_h 17 (v := ?ea17) rfl rfl (by kernel_rfl) (by kernel_rfl) (by kernel_rfl) (fun _ _ _ h => h) ?ga17 (by assumption) ?ka17
          case ga17 => (intro w hSw; (try dsimp only at hSw); go_simp; try rfl)
          case' ka17 => simp only [setD, List.set_cons_succ, List.set_cons_zero]
          refine wpAnyH_take_h 18 (v := ?ea18) rfl rfl (by kernel_rfl) (by kernel_rfl) (by kernel_rfl) (fun _ _ _ h => h) ?ga18 (by assumption) ?ka18
          case ga18 => (intro w hSw; (try dsimp only at hSw); go_simp; try rfl)
          case' ka18 => simp only [setD, List.set_cons_succ, List.set_cons_zero]
          refine wpAnyH_take_h 19 (v := ?ea19) rfl rfl (by kernel_rfl) (by kernel_rfl) (by kernel_rfl) (fun _ _ _ h => h) ?ga19 (by assumption) ?ka19
          case ga19 => (intro w hSw; (try dsimp only at hSw); go_simp; try rfl)
          case' ka19 => simp only [setD, List.set_cons_succ, List.set_cons_zero]
          refine wpAnyH_take_h 20 (v := ?ea20) rfl rfl (by kernel_rfl) (by kernel_rfl) (by kernel_rfl) (fun _ _ _ h => h) ?ga20 (by assumption) ?ka20
          case ga20 => (intro w hSw; (try dsimp only at hSw); go_simp; try rfl)
          case' ka20 => simp only [setD, List.set_cons_succ, List.set_cons_zero]
          refine wpAnyH_take_h 21 (v := ?ea21) rfl rfl (by kernel_rfl) (by kernel_rfl) (by kernel_rfl) (fun _ _ _ h => h) ?ga21 (by assumption) ?ka21
          case ga21 => (intro w hSw; (try dsimp only at hSw); go_simp; try rfl)
          case' ka21 => simp only [setD, List.set_cons_succ, List.set_cons_zero]
          refine wpAnyH_take_h 22 (v := ?ea22) rfl rfl (by kernel_rfl) (by kernel_rfl) (by kernel_rfl) (fun _ _ _ h => h) ?ga22 (by assumption) ?ka22
          case ga22 => (intro w hSw; (try dsimp only at hSw); go_simp; try rfl)
          case' ka22 => simp only [setD, List.set_cons_succ, List.set_cons_zero]
          refine wpAnyH_take_h 23 (v := ?ea23) rfl rfl (by kernel_rfl) (by kernel_rfl) (by kernel_rfl) (fun _ _ _ h => h) ?ga23 (by assumption) ?ka23
          case ga23 => (intro w hSw; (try dsimp only at hSw); go_simp; try rfl)
          case' ka23 => simp only [setD, List.set_cons_succ, List.set_cons_zero]
          refine wpAnyH_take_h 24 (v := ?ea24) rfl rfl (by kernel_rfl) (by kernel_rfl) (by kernel_rfl) (fun _ _ _ h => h) ?ga24 (by assumption) ?ka24
          case ga24 => (intro w hSw; (try dsimp only at hSw); go_simp; try rfl)
          case' ka24 => simp only [setD, List.set_cons_succ, List.set_cons_zero]
          refine wpAnyH_take_h 25 (v := ?ea25) rfl rfl (by kernel_rfl) (by kernel_rfl) (by kernel_rfl) (fun _ _ _ h => h) ?ga25 (by assumption) ?ka25
          case ga25 => (intro w hSw; (try dsimp only at hSw); go_simp; try rfl)
          case' ka25 => simp only [setD, List.set_cons_succ, List.set_cons_zero]
          refine wpAnyH_skip_h 26 rfl rfl (by kernel_rfl) (by kernel_rfl) (by kernel_rfl) (fun _ _ _ h => h) (by assumption) ?_
          simp only [setD, List.set_cons_succ, List.set_cons_zero]
          refine wpAnyH_skip_h 27 rfl rfl (by kernel_rfl) (by kernel_rfl) (by kernel_rfl) (fun _ _ _ h => h) (by assumption) ?_
          simp only [setD, List.set_cons_succ, List.set_cons_zero]
          refine wpAnyH_take_h 28 (v := ?ea28) rfl rfl (by kernel_rfl) (by kernel_rfl) (by kernel_rfl) (fun _ _ _ h => h) ?ga28 (by assumption) ?ka28
          case ga28 => (intro w hSw; (try dsimp only at hSw); go_simp; try rfl)
          case' ka28 => simp only [setD, List.set_cons_succ, List.set_cons_zero]
          refine wpAnyH_take_h 29 (v := ?ea29) rfl rfl (by kernel_rfl) (by kernel_rfl) (by kernel_rfl) (fun _ _ _ h => h) ?ga29 (by assumption) ?ka29
          case ga29 => (intro w hSw; (try dsimp only at hSw); go_simp; try rfl)
          case' ka29 => simp only [setD, List.set_cons_succ, List.set_cons_zero]
          refine wpAnyH_done (by kernel_rfl) ?_ _
          clear hHeld
          go_wp2_with fail
          go_roundw
          case rel => exact ⟨j + 1, by go_num, by omega, HB16⟩
          case measure => simp [intOf]; omega
        | false =>
          refine wp_region_held_drew (S := (fun W => (W.cell? ⟨kb, ko + j * 7, none⟩ = some (.string pn) ∧ W.cell? ⟨kb, ko + j * 7 + 1, none⟩ = some (.int .i64 yk) ∧ W.cell? ⟨kb, ko + j * 7 + 2, none⟩ = some (.int .i64 yp) ∧ W.cell? ⟨kb, ko + j * 7 + 3, none⟩ = some (.string yz) ∧ W.cell? ⟨kb, ko + j * 7 + 4, none⟩ = some (.int .i64 ys) ∧ W.cell? ⟨kb, ko + j * 7 + 5, none⟩ = some (.slice z.1.la z.1.ln z.1.lc) ∧ W.cell? ⟨kb, ko + j * 7 + 6, none⟩ = some (.slice z.1.ka z.1.kn z.1.kc)) ∧ (W.cell? ⟨ob, oo + j * 3, none⟩ = some (.string ne) ∧ W.cell? ⟨ob, oo + j * 3 + 1, none⟩ = some (.int .i64 ae) ∧ W.cell? ⟨ob, oo + j * 3 + 2, none⟩ = some (.int .i64 se)) ∧ W.cell? ⟨lb, lo + j * 3, none⟩ = some (.string ne) ∧ W.cell? ⟨lb, lo + j * 3 + 1, none⟩ = some (.int .i64 ae) ∧ W.cell? ⟨lb, lo + j * 3 + 2, none⟩ = some (.int .i64 se))) (by kernel_rfl) (HRD.out W15.drew HB15.out.drew) (fun hHeld => ?_)
          refine wpAnyH_take_h 0 (v := ?eb0) rfl rfl (by kernel_rfl) (by kernel_rfl) (by kernel_rfl) (fun _ _ _ h => h) ?gb0 (by assumption) ?kb0
          case gb0 => (intro w hSw; (try dsimp only at hSw); go_simp; try rfl)
          case' kb0 => simp only [setD, List.set_cons_succ, List.set_cons_zero]
          refine wpAnyH_take_h 1 (v := ?eb1) rfl rfl (by kernel_rfl) (by kernel_rfl) (by kernel_rfl) (fun _ _ _ h => h) ?gb1 (by assumption) ?kb1
          case gb1 => (intro w hSw; (try dsimp only at hSw); go_simp; try rfl)
          case' kb1 => simp only [setD, List.set_cons_succ, List.set_cons_zero]
          refine wpAnyH_take_h 2 (v := ?eb2) rfl rfl (by kernel_rfl) (by kernel_rfl) (by kernel_rfl) (fun _ _ _ h => h) ?gb2 (by assumption) ?kb2
          case gb2 => (intro w hSw; (try dsimp only at hSw); go_simp; try rfl)
          case' kb2 => simp only [setD, List.set_cons_succ, List.set_cons_zero]
          refine wpAnyH_take_h 3 (v := ?eb3) rfl rfl (by kernel_rfl) (by kernel_rfl) (by kernel_rfl) (fun _ _ _ h => h) ?gb3 (by assumption) ?kb3
          case gb3 => (intro w hSw; (try dsimp only at hSw); go_simp; try rfl)
          case' kb3 => simp only [setD, List.set_cons_succ, List.set_cons_zero]
          refine wpAnyH_take_h 4 (v := ?eb4) rfl rfl (by kernel_rfl) (by kernel_rfl) (by kernel_rfl) (fun _ _ _ h => h) ?gb4 (by assumption) ?kb4
          case gb4 => (intro w hSw; (try dsimp only at hSw); go_simp; try rfl)
          case' kb4 => simp only [setD, List.set_cons_succ, List.set_cons_zero]
          refine wpAnyH_take_h 5 (v := ?eb5) rfl rfl (by kernel_rfl) (by kernel_rfl) (by kernel_rfl) (fun _ _ _ h => h) ?gb5 (by assumption) ?kb5
          case gb5 => (intro w hSw; (try dsimp only at hSw); go_simp; try rfl)
          case' kb5 => simp only [setD, List.set_cons_succ, List.set_cons_zero]
          refine wpAnyH_take_h 6 (v := ?eb6) rfl rfl (by kernel_rfl) (by kernel_rfl) (by kernel_rfl) (fun _ _ _ h => h) ?gb6 (by assumption) ?kb6
          case gb6 => (intro w hSw; (try dsimp only at hSw); go_simp; try rfl)
          case' kb6 => simp only [setD, List.set_cons_succ, List.set_cons_zero]
          refine wpAnyH_take_h 7 (v := ?eb7) rfl rfl (by kernel_rfl) (by kernel_rfl) (by kernel_rfl) (fun _ _ _ h => h) ?gb7 (by assumption) ?kb7
          case gb7 => (intro w hSw; (try dsimp only at hSw); go_simp; try rfl)
          case' kb7 => simp only [setD, List.set_cons_succ, List.set_cons_zero]
          refine wpAnyH_take_h 8 (v := ?eb8) rfl rfl (by kernel_rfl) (by kernel_rfl) (by kernel_rfl) (fun _ _ _ h => h) ?gb8 (by assumption) ?kb8
          case gb8 => (intro w hSw; (try dsimp only at hSw); go_simp; try rfl)
          case' kb8 => simp only [setD, List.set_cons_succ, List.set_cons_zero]
          refine wpAnyH_take_h 9 (v := ?eb9) rfl rfl (by kernel_rfl) (by kernel_rfl) (by kernel_rfl) (fun _ _ _ h => h) ?gb9 (by assumption) ?kb9
          case gb9 => (intro w hSw; (try dsimp only at hSw); go_simp; try rfl)
          case' kb9 => simp only [setD, List.set_cons_succ, List.set_cons_zero]
          refine wpAnyH_take_h 10 (v := ?eb10) rfl rfl (by kernel_rfl) (by kernel_rfl) (by kernel_rfl) (fun _ _ _ h => h) ?gb10 (by assumption) ?kb10
          case gb10 => (intro w hSw; (try dsimp only at hSw); go_simp; try rfl)
          case' kb10 => simp only [setD, List.set_cons_succ, List.set_cons_zero]
          refine wpAnyH_take_h 11 (v := ?eb11) rfl rfl (by kernel_rfl) (by kernel_rfl) (by kernel_rfl) (fun _ _ _ h => h) ?gb11 (by assumption) ?kb11
          case gb11 => (intro w hSw; (try dsimp only at hSw); go_simp; try rfl)
          case' kb11 => simp only [setD, List.set_cons_succ, List.set_cons_zero]
          refine wpAnyH_take_h 12 (v := ?eb12) rfl rfl (by kernel_rfl) (by kernel_rfl) (by kernel_rfl) (fun _ _ _ h => h) ?gb12 (by assumption) ?kb12
          case gb12 => (intro w hSw; (try dsimp only at hSw); go_simp; try rfl)
          case' kb12 => simp only [setD, List.set_cons_succ, List.set_cons_zero]
          refine wpAnyH_take_h 13 (v := ?eb13) rfl rfl (by kernel_rfl) (by kernel_rfl) (by kernel_rfl) (fun _ _ _ h => h) ?gb13 (by assumption) ?kb13
          case gb13 => (intro w hSw; (try dsimp only at hSw); go_simp; try rfl)
          case' kb13 => simp only [setD, List.set_cons_succ, List.set_cons_zero]
          refine wpAnyH_take_h 14 (v := ?eb14) rfl rfl (by kernel_rfl) (by kernel_rfl) (by kernel_rfl) (fun _ _ _ h => h) ?gb14 (by assumption) ?kb14
          case gb14 => (intro w hSw; (try dsimp only at hSw); go_simp; try rfl)
          case' kb14 => simp only [setD, List.set_cons_succ, List.set_cons_zero]
          refine wpAnyH_take_h 16 (v := ?eb16) rfl rfl (by kernel_rfl) (by kernel_rfl) (by kernel_rfl) (fun _ _ _ h => h) ?gb16 (by assumption) ?kb16
          case gb16 => (intro w hSw; (try dsimp only at hSw); go_simp; try rfl)
          case' kb16 => simp only [setD, List.set_cons_succ, List.set_cons_zero]
          refine wpAnyH_one_h 15 rfl rfl (by kernel_rfl) (fun K hK => ?_)
          have hK2 := hK.out
          clear hK
          simp only [setD, List.set_cons_succ, List.set_cons_zero] at hK2 ⊢
          go_simp
          refine (HIL.out _ HB15.out.drew).mono ?_
          rintro en w16 ⟨rfl, hb16⟩
          dsimp only
          have HB16 := Lib.hid (below_seq HB15.out.drew hb16)
          refine hK2 _ _ (HRD.out w16 HB16.out) (fun _ => ?_)
          clear hK2 K hb16
          refine wpAnyH_take_h 17 (v := ?eb17) rfl rfl (by kernel_rfl) (by kernel_rfl) (by kernel_rfl) (fun _ _ _ h => h) ?gb17 (by assumption) ?kb17
          case gb17 => (intro w hSw; (try dsimp only at hSw); go_simp; try rfl)
          case' kb17 => simp only [setD, List.set_cons_succ, List.set_cons_zero]
          refine wpAnyH_skip_h 18 rfl rfl (by kernel_rfl) (by kernel_rfl) (by kernel_rfl) (fun _ _ _ h => h) (by assumption) ?_
          simp only [setD, List.set_cons_succ, List.set_cons_zero]
          refine wpAnyH_take_h 19 (v := ?eb19) rfl rfl (by kernel_rfl) (by kernel_rfl) (by kernel_rfl) (fun _ _ _ h => h) ?gb19 (by assumption) ?kb19
          case gb19 => (intro w hSw; (try dsimp only at hSw); go_simp; try rfl)
          case' kb19 => simp only [setD, List.set_cons_succ, List.set_cons_zero]
          refine wpAnyH_take_h 20 (v := ?eb20) rfl rfl (by kernel_rfl) (by kernel_rfl) (by kernel_rfl) (fun _ _ _ h => h) ?gb20 (by assumption) ?kb20
          case gb20 => (intro w hSw; (try dsimp only at hSw); go_simp; try rfl)
          case' kb20 => simp only [setD, List.set_cons_succ, List.set_cons_zero]
          refine wpAnyH_take_h 21 (v := ?eb21) rfl rfl (by kernel_rfl) (by kernel_rfl) (by kernel_rfl) (fun _ _ _ h => h) ?gb21 (by assumption) ?kb21
          case gb21 => (intro w hSw; (try dsimp only at hSw); go_simp; try rfl)
          case' kb21 => simp only [setD, List.set_cons_succ, List.set_cons_zero]
          refine wpAnyH_take_h 22 (v := ?eb22) rfl rfl (by kernel_rfl) (by kernel_rfl) (by kernel_rfl) (fun _ _ _ h => h) ?gb22 (by assumption) ?kb22
          case gb22 => (intro w hSw; (try dsimp only at hSw); go_simp; try rfl)
          case' kb22 => simp only [setD, List.set_cons_succ, List.set_cons_zero]
          refine wpAnyH_take_h 23 (v := ?eb23) rfl rfl (by kernel_rfl) (by kernel_rfl) (by kernel_rfl) (fun _ _ _ h => h) ?gb23 (by assumption) ?kb23
          case gb23 => (intro w hSw; (try dsimp only at hSw); go_simp; try rfl)
          case' kb23 => simp only [setD, List.set_cons_succ, List.set_cons_zero]
          refine wpAnyH_take_h 24 (v := ?eb24) rfl rfl (by kernel_rfl) (by kernel_rfl) (by kernel_rfl) (fun _ _ _ h => h) ?gb24 (by assumption) ?kb24
          case gb24 => (intro w hSw; (try dsimp only at hSw); go_simp; try rfl)
          case' kb24 => simp only [setD, List.set_cons_succ, List.set_cons_zero]
          refine wpAnyH_take_h 25 (v := ?eb25) rfl rfl (by kernel_rfl) (by kernel_rfl) (by kernel_rfl) (fun _ _ _ h => h) ?gb25 (by assumption) ?kb25
          case gb25 => (intro w hSw; (try dsimp only at hSw); go_simp; try rfl)
          case' kb25 => simp only [setD, List.set_cons_succ, List.set_cons_zero]
          refine wpAnyH_take_h 26 (v := ?eb26) rfl rfl (by kernel_rfl) (by kernel_rfl) (by kernel_rfl) (fun _ _ _ h => h) ?gb26 (by assumption) ?kb26
          case gb26 => (intro w hSw; (try dsimp only at hSw); go_simp; try rfl)
          case' kb26 => simp only [setD, List.set_cons_succ, List.set_cons_zero]
          refine wpAnyH_take_h 27 (v := ?eb27) rfl rfl (by kernel_rfl) (by kernel_rfl) (by kernel_rfl) (fun _ _ _ h => h) ?gb27 (by assumption) ?kb27
          case gb27 => (intro w hSw; (try dsimp only at hSw); go_simp; try rfl)
          case' kb27 => simp only [setD, List.set_cons_succ, List.set_cons_zero]
          refine wpAnyH_take_h 28 (v := ?eb28) rfl rfl (by kernel_rfl) (by kernel_rfl) (by kernel_rfl) (fun _ _ _ h => h) ?gb28 (by assumption) ?kb28
          case gb28 => (intro w hSw; (try dsimp only at hSw); go_simp; try rfl)
          case' kb28 => simp only [setD, List.set_cons_succ, List.set_cons_zero]
          refine wpAnyH_take_h 29 (v := ?eb29) rfl rfl (by kernel_rfl) (by kernel_rfl) (by kernel_rfl) (fun _ _ _ h => h) ?gb29 (by assumption) ?kb29
          case gb29 => (intro w hSw; (try dsimp only at hSw); go_simp; try rfl)
          case' kb29 => simp only [setD, List.set_cons_succ, List.set_cons_zero]
          refine wpAnyH_done (by kernel_rfl) ?_ _
          clear hHeld
          go_wp2_with fail
          go_roundw
          case rel => exact ⟨j + 1, by go_num, by omega, HB16⟩
          case measure => simp [intOf]; omega
    · obtain rfl : len = j := by omega
      go_wp2_with fail
      go_ret
      exact ⟨rfl, below_seq HWB.out HBW.out⟩
theorem ContextSplitsV (ms : List Pm) (v : Value) (ls : List ByteArray) (sv : Value) (w : World) (hk : PmSl (fun k => k < w.heap.size) w v ms) (hlen : ∀ (pa : Option Addr) (len c : Nat), v = .slice pa len c → len * 88 ≤ 140737488355328) (hs : StrSl (fun k => k < w.heap.size) w sv ls) :
    Calls Try.prog 4 #[v, sv] w fun e w' => e = .returned (.bool true) ∧ Below w.heap.size w w' := by
  obtain ⟨pa, len, c, ps, rfl, _, _, hp⟩ := hk.pv
  exact ContextSplitsW ps ls pa len c sv w hp (hlen _ _ _ rfl) hs
end Go.Proofs.Yticdkbcfahjpnaa
