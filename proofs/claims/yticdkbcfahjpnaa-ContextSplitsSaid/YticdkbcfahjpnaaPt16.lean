/- Contexts: the law's build. (and what follows from it) -/
import Derived.Test.YticdkbcfahjpnaaPt15
import Derived.Test.YticdkbcfahjpnaaPt10
import Derived.Test.YticdkbcfahjpnaaPt8
import Derived.Test.YticdkbcfahjpnaaPt11

/- Contexts: the law's build. -/
namespace Go.Proofs.Yticdkbcfahjpnaa
open Go.RowKit Go.Deep Go.Shelf

/-! ### Entries of types -/
def tsOf (ps : List PV) : List Ty := ps.map (fun q => q.m.t)
def mkE (p : PV) (r : GRef) : Ent := ⟨p.m.n, (r.n : Int), r.s⟩
def esOf (ps : List PV) : List Ent := List.zipWith mkE ps (gRefs (tsOf ps))
/-- An entry of the reference, and its entry in the graph. -/
structure Fit (ns : List GNode) (z : PV × Ent) : Prop where
  name : z.2.n = z.1.m.n
  pri : prioE ns z.2.r = z.1.m.t.pri
  ok : EntOk ns z.2
/-- What is known of a right context. -/
structure RgtF (ps : List PV) : Prop where
  len : ps.length ≤ 12
  diff : Diff ps
  each : ∀ (j : Nat) (p : PV), ps[j]? = some p → ∃ r, (gRefs (tsOf ps))[j]? = some r ∧ (esOf ps)[j]? = some (mkE p r) ∧ prioE (gNodes (tsOf ps)) r = p.m.t.pri ∧ r.n < (gNodes (tsOf ps)).length ∧ -1000000 ≤ r.s ∧ r.s ≤ 1000000
  elen : (esOf ps).length = ps.length
  small : smallG (gNodes (tsOf ps))
  nlen : (gNodes (tsOf ps)).length ≤ 2000
  ufo : ∀ p ∈ ps, p.m.t.ufo
  nx : ∀ g ∈ gNodes (tsOf ps), g.nx.length ≤ 1000000 ∧ g.ls.length ≤ 400000000
  ok : ∀ t ∈ tsOf ps, nodeR [] 0 false t = 0
  dep : ∀ t ∈ tsOf ps, t.depth ≤ 800
  size : Ty.sizes (tsOf ps) ≤ 2000
theorem Rgt.facts {ps : List PV} (h : Rgt ps) : RgtF ps := by
  obtain ⟨hd, hf⟩ := h
  obtain ⟨hl, hsz, hdp, hok, hnr, hd8⟩ := few_facts hf (by decide)
  have hl' : ps.length ≤ 12 := by rw [List.length_map] at hl; exact hl
  have hz : ∀ t ∈ tsOf ps, t.size ≤ 60 := fun t ht => ((fewB_all hf).2 t ht).1
  have hnl : (gNodes (tsOf ps)).length ≤ 2000 := by
    have h := pnods_ok (e := fun _ => 0) (tsOf ps) 0 hok
    have := Ty.gcnts_le (tsOf ps)
    unfold gNodes
    unfold tsOf at *
    omega
  have hrl : (gRefs (tsOf ps)).length = ps.length := by unfold gRefs; rw [prefs_len, tsOf, List.length_map]
  have hokg : ∀ t ∈ tsOf ps, nodeR [] 0 false t = 0 ∧ t.okg := fun t ht => ⟨hnr t ht, okg_of t [] 0 false (hnr t ht) (by have := hz t ht; omega)⟩
  refine ⟨hl', hd, fun j p hp => ?_, by rw [esOf, List.length_zipWith, hrl, Nat.min_self], small_all hnr, hnl, fun p hp => ?_, fun g hg => ?_, hnr, hd8, by unfold tsOf; omega⟩
  · have ht : (tsOf ps)[j]? = some p.m.t := by rw [tsOf, List.getElem?_map, hp]; rfl
    obtain ⟨r, hr, hpr⟩ := pri_at hokg ht
    obtain ⟨h1, h2, h3⟩ := refs_all hnr hok r (List.mem_of_getElem? hr)
    refine ⟨r, hr, ?_, hpr, h1, h2, h3⟩
    rw [esOf, List.getElem?_zipWith, hp, hr]
  · have ht : p.m.t ∈ tsOf ps := List.mem_map.2 ⟨p, hp, rfl⟩
    exact ufo_of (hnr _ ht) (by have := hz _ ht; omega)
  · have h1 := pnods_nx (fun _ => 0) (tsOf ps) 0 g hg
    have h2 := labels_all hnr g hg
    unfold tsOf at *
    exact ⟨by omega, by omega⟩
theorem RgtF.zs {ps : List PV} (h : RgtF ps) (hn : ∀ p ∈ ps, p.m.n.size ≤ maxLen) : ∃ zs : List (PV × Ent), zs.map Prod.fst = ps ∧ zs.map Prod.snd = esOf ps ∧ ∀ z ∈ zs, Fit (gNodes (tsOf ps)) z := by
  obtain ⟨zs, hl, hz⟩ := choose_list (fun j (z : PV × Ent) => ps[j]? = some z.1 ∧ (esOf ps)[j]? = some z.2 ∧ Fit (gNodes (tsOf ps)) z) ps.length (fun j hj => by
    obtain ⟨p, hp⟩ : ∃ p, ps[j]? = some p := ⟨_, List.getElem?_eq_getElem hj⟩
    obtain ⟨r, _, he, hpr, h1, h2, h3⟩ := h.each j p hp
    refine ⟨(p, mkE p r), hp, he, rfl, ?_, ?_⟩
    · rw [← hpr]
      show prioE _ (⟨((r.n : Int)).toNat, r.s⟩ : GRef) = _
      rw [Int.toNat_natCast]
    · refine ⟨Int.natCast_nonneg _, ?_, ?_, hn p (List.mem_of_getElem? hp)⟩
      · show ((r.n : Int)).toNat < _
        rw [Int.toNat_natCast]; exact h1
      · show -1000000000 ≤ r.s ∧ r.s ≤ 1000000000
        omega)
  refine ⟨zs, List.ext_getElem? fun j => ?_, List.ext_getElem? fun j => ?_, fun z hzz => ?_⟩
  · rw [List.getElem?_map]
    cases e : zs[j]? with
    | none => rw [Option.map_none, List.getElem?_eq_none (by rw [← hl]; exact List.getElem?_eq_none_iff.1 e)]
    | some z => exact (hz j z e).1.symm
  · rw [List.getElem?_map]
    cases e : zs[j]? with
    | none => rw [Option.map_none, List.getElem?_eq_none (by rw [h.elen, ← hl]; exact List.getElem?_eq_none_iff.1 e)]
    | some z => exact (hz j z e).2.1.symm
  · obtain ⟨j, hj⟩ := List.getElem?_of_mem hzz
    exact (hz j z hj).2.2

/-! ### What is not in a box -/
section
variable {w : World} {c : Nat} {B : Nat → Prop}
def Box1 (w : World) (c : Nat) : Prop := ∀ i u, w.cell? ⟨c, i, none⟩ = some u → i = 0 ∧ ∃ a n k, u = .slice a n k
theorem StrSl.off (hc : Box1 w c) {v : Value} {ls : List ByteArray} (h : StrSl B w v ls) : StrSl (fun k => B k ∧ k ≠ c) w v ls := by
  refine ⟨?_, h.2⟩
  rcases h.1 with h1 | ⟨b, o, cc, h1, h2, h3, h4⟩
  · exact .inl h1
  · cases ls with
    | nil => exact .inl ⟨⟨_, _, h1⟩, rfl⟩
    | cons s r =>
      refine .inr ⟨b, o, cc, h1, ⟨h2, fun e => ?_⟩, h3, h4⟩
      obtain ⟨_, _, _, _, hu⟩ := hc _ _ (e ▸ h4 0 s rfl)
      cases hu
theorem RefSl.off (hc : Box1 w c) {v : Value} {rs : List GRef} (h : RefSl B w v rs) : RefSl (fun k => B k ∧ k ≠ c) w v rs := by
  refine ⟨?_, h.2⟩
  rcases h.1 with h1 | ⟨b, o, cc, h1, h2, h4⟩
  · exact .inl h1
  · cases rs with
    | nil => exact .inl ⟨⟨_, _, h1⟩, rfl⟩
    | cons s r =>
      refine .inr ⟨b, o, cc, h1, ⟨h2, fun e => ?_⟩, h4⟩
      obtain ⟨_, _, _, _, hu⟩ := hc _ _ (e ▸ (h4 0 s rfl).1)
      cases hu
theorem NodeSl.off (hc : Box1 w c) {v : Value} {ns : List GNode} (h : NodeSl B w v ns) : NodeSl (fun k => B k ∧ k ≠ c) w v ns := by
  refine ⟨?_, h.2⟩
  rcases h.1 with h1 | ⟨b, o, cc, h1, h2, h4⟩
  · exact .inl h1
  · cases ns with
    | nil => exact .inl ⟨⟨_, _, h1⟩, rfl⟩
    | cons s r =>
      refine .inr ⟨b, o, cc, h1, ⟨h2, fun e => ?_⟩, fun j n hj => ?_⟩
      · obtain ⟨_, _, _, _, hu⟩ := hc _ _ (e ▸ (h4 0 s rfl).1)
        cases hu
      · obtain ⟨h5, h6, lv, nv, h7, h8, h9, h10⟩ := h4 j n hj
        exact ⟨h5, h6, lv, nv, h7, h8, h9.off hc, h10.off hc⟩
end
theorem box1_of {w : World} {c : Nat} {a : Option Addr} {n k : Nat} {t : TypeId} {fr : Nat × Nat} (h : w.heap[c]? = some (.cells #[.slice a n k] t fr)) : Box1 w c := by
  intro i u hu
  simp only [World.cell?, h] at hu
  cases i with
  | zero => simp at hu; exact ⟨rfl, a, n, k, hu.symm⟩
  | succ i => simp at hu

set_option maxHeartbeats 16000000 in
set_option maxRecDepth 100000 in
theorem build_any (ps : List PV) (pa : Option Addr) (len c : Nat) (w : World) (hk : PvSl w pa len ps) (hr : RgtF ps) :
    Calls Try.prog 12 #[.slice pa len c] w fun e w' => ∃ (na : Option Addr) (nn nc : Nat) (ea : Option Addr) (en ec : Nat), e = .returned (.tuple #[grV na nn nc, .slice ea en ec]) ∧ NodeSl (fun k => k < w'.heap.size) w' (.slice na nn nc) (gNodes (tsOf ps)) ∧ GRow 30 3 w.heap.size w' (.slice ea en ec) ((esOf ps).map entCells) ∧ Below w.heap.size w w' := by
  obtain ⟨W1, hW1⟩ : ∃ W1, w.alloc (grO none 0 0) = W1 := ⟨_, rfl⟩
  have hb1 : Below w.heap.size w W1 := by rw [← hW1]; exact blkBelow w _ _
  have x1 : W1.heap[w.heap.size]? = some (grO none 0 0) := by rw [← hW1]; exact World.alloc_heap_new _ _
  have hs1 : W1.heap.size = w.heap.size + 1 := by rw [← hW1]; simp
  have HG : Hid (∀ (j : Nat) (p : PV), ps[j]? = some p → ∃ kb ko, pa = some ⟨kb, ko, none⟩ ∧ ∀ W, Below W1.heap.size W1 W → PvAt W kb (ko + j * 7) p ∧ TyVal (fun k => k < W1.heap.size) W (tyV p) p.m.t) := Lib.hid (fun j p hj => by
    obtain ⟨_, kb, ko, e, _, hW⟩ := hk.at_ j p hj
    exact ⟨kb, ko, e, fun W hb => ⟨(hW W (below_seq hb1 hb)).1, (hW W (below_seq hb1 hb)).2.mono (fun k hk => by omega)⟩⟩)
  have HL : Hid (len = ps.length) := Lib.hid hk.len
  have HLE : Hid (len ≤ 12) := Lib.hid (by rw [hk.len]; exact hr.len)
  have hl12 := HLE.out
  have HR := Lib.hid hr
  obtain ⟨ts, hts⟩ : ∃ ts, tsOf ps = ts := ⟨_, rfl⟩
  have HTS : Hid (ps.map (fun q => q.m.t) = ts) := Lib.hid hts
  have HGR : Hid (∀ (v : Value) (W : World), TySl (fun k => k < W.heap.size) W v ts → Calls Try.prog 22 #[v] W fun en w' => ∃ (na : Option Addr) (nn nc : Nat) (ra : Option Addr) (rn rc : Nat), en = .returned (.tuple #[grV na nn nc, .slice ra rn rc]) ∧ NodeSl (fun k => k < w'.heap.size) w' (.slice na nn nc) (gNodes ts) ∧ RefSl (fun k => k < w'.heap.size) w' (.slice ra rn rc) (gRefs ts) ∧ Below W.heap.size W w') := Lib.hid (fun v W h => graph_any ts v W h (by rw [← hts]; exact hr.size) (by rw [← hts]; exact hr.dep) (by rw [← hts]; exact hr.ok) (by rw [← hts]; exact hr.nlen) (by rw [← hts]; exact hr.nx) (by
    have : (gRefs ts).length = ps.length := by unfold gRefs; rw [prefs_len, ← hts, tsOf, List.length_map]
    have := hr.len
    omega))
  have HE : Hid (∀ (j : Nat) (p : PV), ps[j]? = some p → ∃ r, (gRefs ts)[j]? = some r ∧ (esOf ps)[j]? = some (mkE p r)) := Lib.hid (fun j p hj => by
    obtain ⟨r, h1, h2, _⟩ := hr.each j p hj
    exact ⟨r, by rw [← hts]; exact h1, h2⟩)
  have HEL : Hid ((esOf ps).length = len) := Lib.hid (by rw [hr.elen, hk.len])
  obtain ⟨es, hes⟩ : ∃ es, esOf ps = es := ⟨_, rfl⟩
  obtain ⟨rs, hrs⟩ : ∃ rs, gRefs ts = rs := ⟨_, rfl⟩
  obtain ⟨ns, hns⟩ : ∃ ns, gNodes ts = ns := ⟨_, rfl⟩
  rw [hes] at HE HEL ⊢
  rw [hrs] at HGR HE
  rw [hns] at HGR
  rw [hts, hns]
  have HW1 := Lib.hid hW1
  have HB1 := Lib.hid hb1
  have HX1 := Lib.hid x1
  have HS1 := Lib.hid hs1
  clear hk hr hW1 hb1 x1 hs1 hts hes hrs hns HR
  go_enter Try.func12, Try.ntmps12
  go_upto_region 1 with fail
  rw [show w.alloc (.cells #[.slice none 0 0] 37) = W1 from HW1.out]
  go_wp2_with fail
  go_loopw [4, 5] (fun rv i wr => ∃ (j : Nat) (xa : Option Addr) (xn xc : Nat), i = .int .i64 j ∧ j ≤ len ∧ rv = .slice xa xn xc ∧ Hid (GRow 47 6 W1.heap.size wr (.slice xa xn xc) ((ps.take j).map tyC)) ∧ Hid (Below W1.heap.size W1 wr)) (fun _ i _ => len - (intOf i).toNat)
  case atStart => exact ⟨0, none, 0, 0, rfl, Nat.zero_le _, rfl, Lib.hid (by simpa using GRow.nil _ _ _ _), Lib.hid (Below.refl _ _)⟩
  case round =>
    obtain ⟨j, xa, xn, xc, rfl, hj, rfl, HRW, HBW⟩ := hrel
    by_cases hlt : j < len
    · obtain ⟨p, hp⟩ : ∃ p, ps[j]? = some p := ⟨_, List.getElem?_eq_getElem (by rw [← HL.out]; exact hlt)⟩
      obtain ⟨kb, ko, rfl, hW⟩ := HG.out j p hp
      obtain ⟨⟨d0, d1, d2, d3, d4, d5, d6⟩, _⟩ := hW wr HBW.out
      have HSN : Hid ((ps.take (j + 1)).map tyC = (ps.take j).map tyC ++ [tyC p]) := Lib.hid (by rw [take_snoc_get hp, List.map_append]; rfl)
      have hlr : ((ps.take j).map tyC).length ≤ 12 := by
        have := HL.out
        have := HLE.out
        rw [List.length_map, List.length_take]; omega
      obtain ⟨rr, hrr⟩ : ∃ rr, (ps.take j).map tyC = rr := ⟨_, rfl⟩
      rw [hrr] at HRW HSN hlr
      obtain ⟨yk, hyk⟩ : ∃ x, p.m.t.k = x := ⟨_, rfl⟩
      obtain ⟨yp, hyp⟩ : ∃ x, p.m.t.p = x := ⟨_, rfl⟩
      obtain ⟨yn, hyn⟩ : ∃ x, p.m.t.n = x := ⟨_, rfl⟩
      obtain ⟨ys, hys⟩ : ∃ x, p.m.t.s = x := ⟨_, rfl⟩
      have HTC : Hid (tyC p = [.int .i64 yk, .int .i64 yp, .string yn, .int .i64 ys, .slice p.la p.ln p.lc, .slice p.ka p.kn p.kc]) := Lib.hid (by rw [tyC, hyk, hyp, hyn, hys])
      rw [hyk] at d1
      rw [hyp] at d2
      rw [hyn] at d3
      rw [hys] at d4
      have HLR := Lib.hid hlr
      clear hW hp hlr hrr hyk hyp hyn hys
      go_upto_region 5 with fail
      go_wp2_with (at_builtin; refine wpList_appG typElem rfl _ _ rfl rfl (HRW.out.alloc _) (some ⟨wr.heap.size, 0, none⟩) 1 1 [tyC p] rfl rfl (by intro e' he'; rw [List.mem_singleton.1 he']; rfl) (src_one (cs := tyC p) (by rw [HTC.out]; exact World.alloc_heap_new _ _)) (one_ty _) ?_ ?_ ?_)
      · have := HLR.out
        simp only [List.length_singleton]
        omega
      · have := HBW.out.size
        simp
        omega
      · intro ga gn gc w5 hrow hgrow _
        have hb : Below W1.heap.size W1 w5 := (HBW.out.alloc HBW.out.size _).grown hgrow (by have := HBW.out.size; simp; omega) (fun k hk => (HRW.out.lt k hk).1)
        have HRN := Lib.hid hrow
        have HBN := Lib.hid hb
        clear hrow hb hgrow
        go_wp2_with fail
        go_roundw
        case rel => exact ⟨j + 1, _, _, _, by go_num, by omega, rfl, Lib.hid (by rw [HSN.out]; exact HRN.out), HBN⟩
        case measure => simp [intOf]; omega
    · obtain rfl : len = j := by omega
      obtain ⟨wo, ho⟩ : ∃ wo, wo = wr := ⟨_, rfl⟩
      subst ho
      have h := HRW.out
      rw [List.take_of_length_le (by rw [HL.out]; exact Nat.le_refl _)] at h
      have hts : TySl (fun k => k < wo.heap.size) wo (.slice xa xn xc) ts := by
        rw [← HTS.out]
        exact h.tysOf (by have := HL.out; have := HLE.out; unfold maxLen; omega) (fun q hq => by
          obtain ⟨i, hi⟩ := List.getElem?_of_mem hq
          obtain ⟨_, _, _, hW⟩ := HG.out i q hi
          exact (hW wo HBW.out).2.mono (fun k hk => Nat.lt_of_lt_of_le hk HBW.out.size))
      have HGC := Lib.hid (HGR.out _ wo hts)
      clear h hts
      go_upto_region 7 with (go_at_call 22; go_loud (refine HGC.out.mono ?_; rintro en w6 ⟨na, nn, nc, ra, rn, rc, rfl, hn6, hr6, hb6⟩; have HN6 := Lib.hid hn6; have HR6 := Lib.hid hr6; have HB6 := Lib.hid (below_seq HBW.out hb6); clear hn6 hr6 hb6))
      obtain ⟨W7, hW7⟩ : ∃ W7, w6.alloc (.cells #[.slice na nn nc] 37) = W7 := ⟨_, rfl⟩
      have hb7 : Below w6.heap.size w6 W7 := by rw [← hW7]; exact blkBelow w6 _ _
      have x7 : W7.heap[w6.heap.size]? = some (.cells #[.slice na nn nc] 37 (0, 0)) := by rw [← hW7]; exact World.alloc_heap_new _ _
      have hs7 : w6.heap.size < W7.heap.size := (Array.getElem?_eq_some_iff.1 x7).1
      have HBX := Lib.hid (fun (W : World) (hW : Below W7.heap.size W7 W) => show W.cell? ⟨w6.heap.size, 0, none⟩ = some (.slice na nn nc) from by
        have a1 : W.heap[w6.heap.size]? = _ := (hW.block _ hs7).trans x7
        simp [World.cell?, a1])
      have HB7 : Hid (Below W1.heap.size W1 W7) := Lib.hid (below_seq HB6.out hb7)
      have HN7 : Hid (NodeSl (fun k => k < W7.heap.size) W7 (.slice na nn nc) ns) := Lib.hid ((HN6.out.keep (hb7.keeps'.mono (fun k hk => hk))).mono (fun k hk => Nat.lt_of_lt_of_le hk hb7.size))
      have HR7 : Hid (RefSl (fun k => k < W7.heap.size) W7 (.slice ra rn rc) rs) := Lib.hid ((HR6.out.keep (hb7.keeps'.mono (fun k hk => hk))).mono (fun k hk => Nat.lt_of_lt_of_le hk hb7.size))
      have HRC : Hid (rn = rs.length ∧ ∀ (i : Nat) (r : GRef), rs[i]? = some r → ∃ kb ko, ra = some ⟨kb, ko, none⟩ ∧ ∀ W, Below W7.heap.size W7 W → W.cell? ⟨kb, ko + i * 2, none⟩ = some (.int .i64 r.n) ∧ W.cell? ⟨kb, ko + i * 2 + 1, none⟩ = some (.int .i64 r.s)) := Lib.hid (by
        obtain ⟨pa', len', c', e, hl, _, hg⟩ := HR7.out.open
        simp only [Value.slice.injEq] at e
        obtain ⟨rfl, rfl, rfl⟩ := e
        refine ⟨hl.out, fun i r hi => ?_⟩
        obtain ⟨kb, ko, e, hkb, h1, h2⟩ := hg i r hi
        exact ⟨kb, ko, e, fun W hW => ⟨(hW.cell (p := ⟨kb, _, none⟩) hkb).trans h1, (hW.cell (p := ⟨kb, _, none⟩) hkb).trans h2⟩⟩)
      rw [hW7]
      clear hb7 x7 hs7 hW7 HN6 HR6 HR7
      go_wp2_with fail
      go_loopw [8, 9] (fun rv i wr => ∃ (j : Nat) (xa : Option Addr) (xn xc : Nat), i = .int .i64 j ∧ j ≤ len ∧ rv = .slice xa xn xc ∧ Hid (GRow 30 3 W7.heap.size wr (.slice xa xn xc) ((es.take j).map entCells)) ∧ Hid (Below W7.heap.size W7 wr)) (fun _ i _ => len - (intOf i).toNat)
      case atStart => exact ⟨0, none, 0, 0, rfl, Nat.zero_le _, rfl, Lib.hid (by simpa using GRow.nil _ _ _ _), Lib.hid (Below.refl _ _)⟩
      case round =>
        obtain ⟨j, xa, xn, xc, rfl, hj, rfl, HRE, HBE⟩ := hrel
        by_cases hlt : j < len
        · obtain ⟨p, hp⟩ : ∃ p, ps[j]? = some p := ⟨_, List.getElem?_eq_getElem (by rw [← HL.out]; exact hlt)⟩
          obtain ⟨r, hr, he⟩ := HE.out j p hp
          obtain ⟨kb, ko, rfl, hW⟩ := HG.out j p hp
          obtain ⟨rb, ro, rfl, hV⟩ := HRC.out.2 j r hr
          have hrn : j < rn := by rw [HRC.out.1]; exact (List.getElem?_eq_some_iff.1 hr).1
          obtain ⟨pn, hpn⟩ : ∃ x, p.m.n = x := ⟨_, rfl⟩
          obtain ⟨r0, hr0⟩ : ∃ x, (r.n : Int) = x := ⟨_, rfl⟩
          obtain ⟨r1, hr1⟩ : ∃ x, r.s = x := ⟨_, rfl⟩
          have HSX : Hid (∀ W, Below W7.heap.size W7 W → W.cell? ⟨kb, ko + j * 7, none⟩ = some (.string pn) ∧ W.cell? ⟨rb, ro + j * 2, none⟩ = some (.int .i64 r0) ∧ W.cell? ⟨rb, ro + j * 2 + 1, none⟩ = some (.int .i64 r1)) := Lib.hid (fun W hb => by
            have h1 := (hW W (below_seq HB7.out hb)).1.1
            have h2 := hV W hb
            rw [hpn] at h1
            rw [hr0, hr1] at h2
            exact ⟨h1, h2⟩)
          have HCE : Hid ((es.take (j + 1)).map entCells = (es.take j).map entCells ++ [[.string pn, .int .i64 r0, .int .i64 r1]]) := Lib.hid (by
            rw [take_snoc_get he, List.map_append, ← hpn, ← hr0, ← hr1]; rfl)
          have hlr : ((es.take j).map entCells).length ≤ 12 := by
            have := HEL.out
            have := HLE.out
            rw [List.length_map, List.length_take]; omega
          obtain ⟨rr, hrr⟩ : ∃ rr, (es.take j).map entCells = rr := ⟨_, rfl⟩
          rw [hrr] at HRE HCE hlr
          have HLR := Lib.hid hlr
          clear hp hr he hW hV hpn hr0 hr1 hlr hrr
          go_upto_region 11 with fail
          refine wp_region_held_drew (S := fun W => W.cell? ⟨kb, ko + j * 7, none⟩ = some (.string pn) ∧ W.cell? ⟨rb, ro + j * 2, none⟩ = some (.int .i64 r0) ∧ W.cell? ⟨rb, ro + j * 2 + 1, none⟩ = some (.int .i64 r1)) (by kernel_rfl) (HSX.out wr.drew HBE.out.drew) (fun hHeld => ?_)
          refine wpAnyH_take_l 0 (v := ?v0) rfl rfl (by kernel_rfl) (by kernel_rfl) (by kernel_rfl) (fun _ _ _ h => h) ?h0 (by assumption) ?r0
          case h0 => (intro w hSw; (try dsimp only at hSw); go_simp; try rfl)
          case' r0 => simp only [setD, List.set_cons_succ, List.set_cons_zero]
          refine wpAnyH_take_l 1 (v := ?v1) rfl rfl (by kernel_rfl) (by kernel_rfl) (by kernel_rfl) (fun _ _ _ h => h) ?h1 (by assumption) ?r1
          case h1 => (intro w hSw; (try dsimp only at hSw); go_simp; try rfl)
          case' r1 => simp only [setD, List.set_cons_succ, List.set_cons_zero]
          refine wpAnyH_take_l 2 (v := ?v2) rfl rfl (by kernel_rfl) (by kernel_rfl) (by kernel_rfl) (fun _ _ _ h => h) ?h2 (by assumption) ?r2
          case h2 => (intro w hSw; (try dsimp only at hSw); go_simp; try rfl)
          case' r2 => simp only [setD, List.set_cons_succ, List.set_cons_zero]
          refine wpAnyH_take_l 3 (v := ?v3) rfl rfl (by kernel_rfl) (by kernel_rfl) (by kernel_rfl) (fun _ _ _ h => h) ?h3 (by assumption) ?r3
          case h3 => (intro w hSw; (try dsimp only at hSw); go_simp; try rfl)
          case' r3 => simp only [setD, List.set_cons_succ, List.set_cons_zero]
          refine wpAnyH_take_l 4 (v := ?v4) rfl rfl (by kernel_rfl) (by kernel_rfl) (by kernel_rfl) (fun _ _ _ h => h) ?h4 (by assumption) ?r4
          case h4 => (intro w hSw; (try dsimp only at hSw); go_simp; try rfl)
          case' r4 => simp only [setD, List.set_cons_succ, List.set_cons_zero]
          refine wpAnyH_take_l 5 (v := ?v5) rfl rfl (by kernel_rfl) (by kernel_rfl) (by kernel_rfl) (fun _ _ _ h => h) ?h5 (by assumption) ?r5
          case h5 => (intro w hSw; (try dsimp only at hSw); go_simp; try rfl)
          case' r5 => simp only [setD, List.set_cons_succ, List.set_cons_zero]
          refine wpAnyH_take_l 6 (v := ?v6) rfl rfl (by kernel_rfl) (by kernel_rfl) (by kernel_rfl) (fun _ _ _ h => h) ?h6 (by assumption) ?r6
          case h6 => (intro w hSw; (try dsimp only at hSw); go_simp; try rfl)
          case' r6 => simp only [setD, List.set_cons_succ, List.set_cons_zero]
          refine wpAnyH_take_l 7 (v := ?v7) rfl rfl (by kernel_rfl) (by kernel_rfl) (by kernel_rfl) (fun _ _ _ h => h) ?h7 (by assumption) ?r7
          case h7 => (intro w hSw; (try dsimp only at hSw); go_simp; try rfl)
          case' r7 => simp only [setD, List.set_cons_succ, List.set_cons_zero]
          refine wpAnyH_take_l 8 (v := ?v8) rfl rfl (by kernel_rfl) (by kernel_rfl) (by kernel_rfl) (fun _ _ _ h => h) ?h8 (by assumption) ?r8
          case h8 => (intro w hSw; (try dsimp only at hSw); go_simp; try rfl)
          case' r8 => simp only [setD, List.set_cons_succ, List.set_cons_zero]
          refine wpAnyH_take_l 9 (v := ?v9) rfl rfl (by kernel_rfl) (by kernel_rfl) (by kernel_rfl) (fun _ _ _ h => h) ?h9 (by assumption) ?r9
          case h9 => (intro w hSw; (try dsimp only at hSw); go_simp; try rfl)
          case' r9 => simp only [setD, List.set_cons_succ, List.set_cons_zero]
          refine wpAnyH_take_l 10 (v := ?v10) rfl rfl (by kernel_rfl) (by kernel_rfl) (by kernel_rfl) (fun _ _ _ h => h) ?h10 (by assumption) ?r10
          case h10 => (intro w hSw; (try dsimp only at hSw); go_simp; try rfl)
          case' r10 => simp only [setD, List.set_cons_succ, List.set_cons_zero]
          refine wpAnyH_one 11 rfl rfl (by kernel_rfl) (fun K hK => ?_)
          have hK2 := hK.out
          clear hK
          simp only [setD, List.set_cons_succ, List.set_cons_zero] at hK2 ⊢
          go_simp
          have hba : ∀ o, Below W7.heap.size W7 (wr.drew.alloc o) := fun o => HBE.out.drew.alloc (by have := HBE.out.size; show W7.heap.size ≤ wr.heap.size; omega) o
          refine hK2 _ _ (HSX.out _ (hba _)) (fun _ => ?_)
          clear hK2 K
          refine wpAnyH_one 12 rfl rfl (by kernel_rfl) (fun K hK => ?_)
          have hK2 := hK.out
          clear hK
          simp only [setD, List.set_cons_succ, List.set_cons_zero] at hK2 ⊢
          refine wp_wanted (ops := #[]) rfl (step_appG entElem (by rfl) _ _ (by rfl) (by rfl) (HRE.out.drew.alloc _) (some ⟨wr.heap.size, 0, none⟩) 1 1 [[.string pn, .int .i64 r0, .int .i64 r1]] (by rfl) rfl (fun e he => by rw [List.mem_singleton.1 he]; rfl) (src_new wr.drew [.string pn, .int .i64 r0, .int .i64 r1] _) (fun e he u hu => by
            rw [List.mem_singleton.1 he] at hu
            simp only [List.mem_cons, List.not_mem_nil, or_false] at hu
            rcases hu with rfl | rfl | rfl <;> rfl) (by have := HLR.out
                                                        simp only [List.length_singleton]; omega) (by have := HBE.out.size; show W7.heap.size ≤ (wr.alloc _).heap.size; rw [World.size_alloc]; omega) _ rfl ?_)
          intro ga gn gc w8 hr8 hg8 hq8
          have hb8 : Below W7.heap.size W7 w8 := (hba _).grown hg8 (by have := HBE.out.size; show W7.heap.size ≤ (wr.alloc _).heap.size; rw [World.size_alloc]; omega) (fun k hk => (HRE.out.lt k hk).1)
          refine hK2 _ _ (HSX.out _ hb8) (fun _ => ?_)
          clear hK2 K hg8 hq8 hba
          have HB8 := Lib.hid hb8
          have HR8 := Lib.hid hr8
          clear hb8 hr8
          refine wpAnyH_take_l 13 (v := ?v13) rfl rfl (by kernel_rfl) (by kernel_rfl) (by kernel_rfl) (fun _ _ _ h => h) ?h13 (by assumption) ?r13
          case h13 => (intro w hSw; (try dsimp only at hSw); go_simp; try rfl)
          case' r13 => simp only [setD, List.set_cons_succ, List.set_cons_zero]
          refine wpAnyH_done (by kernel_rfl) ?_ _
          clear hHeld
          go_wp2_with fail
          go_roundw
          case rel => exact ⟨j + 1, _, _, _, by go_num, by omega, rfl, Lib.hid (by rw [HCE.out]; exact HR8.out), HB8⟩
          case measure => simp [intOf]; omega
        · obtain rfl : len = j := by omega
          have h := HRE.out
          rw [List.take_of_length_le (by rw [HEL.out]; exact Nat.le_refl _)] at h
          have HRE2 := Lib.hid h
          have b0 := HBX.out wr HBE.out
          have hb17 : Below W1.heap.size W1 wr := below_seq HB7.out HBE.out
          have hxw : wr.heap[w.heap.size]? = some (grO none 0 0) := (hb17.block _ (by have := HS1.out; omega)).trans HX1.out
          have x0 : wr.cell? ⟨w.heap.size, 0, none⟩ = some (.slice none 0 0) := by simp [World.cell?, hxw]
          have x1 : wr.frozen? ⟨w.heap.size, 0, none⟩ = false := frozen_of_block hxw 0
          have HXW := Lib.hid hxw
          have HB17 := Lib.hid hb17
          clear h hxw hb17
          go_wp2_with fail
          clear x0 x1 b0
          obtain ⟨W9, hW9⟩ : ∃ W9, wr.setCell ⟨w.heap.size, 0, none⟩ (.slice na nn nc) = W9 := ⟨_, rfl⟩
          have hx9 : W9.heap[w.heap.size]? = some (grO na nn nc) := by rw [← hW9]; exact set_block HXW.out 0 _
          have hk9 : ∀ k, k ≠ w.heap.size → W9.heap[k]? = wr.heap[k]? := fun k hk => by rw [← hW9]; exact set_oth _ _ _ hk
          have hs9 : W9.heap.size = wr.heap.size := by rw [← hW9]; simp [World.setCell]
          have hbe : Below w.heap.size w W9 := by
            rw [← hW9]
            exact (below_seq HB1.out HB17.out).setCell (p := ⟨w.heap.size, 0, none⟩) (Nat.le_refl _) _
          rw [hW9]
          clear hW9
          have c9 : W9.cell? ⟨w.heap.size, 0, none⟩ = some (.slice na nn nc) := by simp [World.cell?, hx9]
          refine bodyPost_ret (v := .tuple #[grV na nn nc, .slice xa xn xc]) (by simp [results, Try.results12, go_sem, c9, grV]) rfl ?_
          refine ⟨na, nn, nc, xa, xn, xc, rfl, ?_, ?_, hbe⟩
          · have h1 : NodeSl (fun k => k < wr.heap.size) wr (.slice na nn nc) ns := (HN7.out.keep (HBE.out.keeps'.mono (fun k hk => hk))).mono (fun k hk => Nat.lt_of_lt_of_le hk HBE.out.size)
            exact ((h1.off (box1_of HXW.out)).keep (fun k _ hk ho _ => (hk9 k hk.2).trans ho)).mono (fun k hk => by rw [hs9]; exact hk.1)
          · have h7 := HB7.out.size
            have := HS1.out
            exact (HRE2.out.kept (fun k hk => hk9 k (by have := (HRE2.out.lt k hk).1; omega))).mono (by omega)
end Go.Proofs.Yticdkbcfahjpnaa

/- Contexts: the law's inside and same. -/
namespace Go.Proofs.Yticdkbcfahjpnaa
open Go.RowKit Go.Deep Go.Shelf

set_option maxHeartbeats 4000000 in
set_option maxRecDepth 100000 in
theorem inside_any (es : List Ent) (n : Nat) (v : Value) (w : World) (hk : EnSl (fun k => k < w.heap.size) w v es) (h : ∀ e ∈ es, 0 ≤ e.a ∧ e.a < n) :
    Calls Try.prog 20 #[v, .int .i64 (n : Int)] w fun e w' => e = .returned (.bool true) ∧ Below w.heap.size w w' := by
  obtain ⟨pa, len, c, rfl, hlen, hmx, hg⟩ := hk.open
  have HG : Hid (∀ (j : Nat) (e : Ent), es[j]? = some e → ∃ kb ko, pa = some ⟨kb, ko, none⟩ ∧ w.cell? ⟨kb, ko + j * 3 + 1, none⟩ = some (.int .i64 e.a) ∧ 0 ≤ e.a ∧ e.a < n) := Lib.hid (fun j e hj => by
    obtain ⟨kb, ko, e', _, h1, h2, h3⟩ := hg j e hj
    exact ⟨kb, ko, e', h2, h e (List.mem_of_getElem? hj)⟩)
  have HL := Lib.hid hlen.out
  clear hk hg h hlen
  go_enter Try.func20, Try.ntmps20
  go_wp2_with fail
  go_loopw [5] (fun i wr => ∃ j : Nat, i = .int .i64 j ∧ j ≤ len ∧ Hid (wr = w)) (fun i _ => len - (intOf i).toNat)
  case atStart => exact ⟨0, rfl, Nat.zero_le _, Lib.hid rfl⟩
  case round =>
    obtain ⟨j, rfl, hj, HBW⟩ := hrel
    obtain rfl := HBW.out
    by_cases hlt : j < len
    · obtain ⟨e, he⟩ : ∃ e, es[j]? = some e := ⟨_, List.getElem?_eq_getElem (by rw [← HL.out]; exact hlt)⟩
      obtain ⟨kb, ko, rfl, d1, h0, h1⟩ := HG.out j e he
      obtain ⟨ya, hya⟩ : ∃ x, e.a = x := ⟨_, rfl⟩
      rw [hya] at d1 h0 h1
      have e0 : decide (ya < 0) = false := by simp; omega
      have e1 : decide ((n : Int) ≤ ya) = false := by simp; omega
      clear he hya
      go_wp2_with fail
      go_roundw
      case rel => exact ⟨j + 1, by go_num, by omega, Lib.hid (by trivial)⟩
      case measure => simp [intOf]; omega
    · obtain rfl : len = j := by omega
      go_wp2_with fail
      go_ret
      exact ⟨rfl, Below.refl _ _⟩

set_option maxHeartbeats 8000000 in
set_option maxRecDepth 100000 in
theorem same_any (es : List Ent) (want : List PV) (all : List Ent) (base : Nat) (v av : Value) (wa : Option Addr) (wn wc : Nat) (w : World) (hk : EnSl (fun k => k < w.heap.size) w v es) (ha : EnSl (fun k => k < w.heap.size) w av all)
    (hw : GRow 49 7 base w (.slice wa wn wc) (want.map pvC)) (hlw : es.length = want.length)
    (hn : ∀ (j : Nat) (e : Ent) (p : PV), es[j]? = some e → want[j]? = some p → e.n = p.m.n ∧ all.find? (entIs p.m.n) = some e) :
    Calls Try.prog 15 #[v, .slice wa wn wc, av] w fun e w' => e = .returned (.bool true) ∧ Below w.heap.size w w' := by
  obtain ⟨pa, len, c, rfl, hlen, hmx, hg⟩ := hk.open
  have hwn : wn = want.length := by
    obtain ⟨a, n, c, e, hn, _⟩ := hw.src
    simp only [Value.slice.injEq] at e
    rw [e.2.1, hn, List.length_map]
  obtain rfl : len = wn := by rw [hlen.out, hwn, hlw]
  have HE : Hid (∀ (j : Nat) (e : Ent) (p : PV), es[j]? = some e → want[j]? = some p → ∃ kb ko gb, pa = some ⟨kb, ko, none⟩ ∧ wa = some ⟨gb, 0, none⟩ ∧ e.n = p.m.n ∧ all.find? (entIs e.n) = some e ∧ ∀ W, Below w.heap.size w W → EnAt W kb (ko + j * 3) e ∧ W.cell? ⟨gb, j * 7, none⟩ = some (.string e.n)) := Lib.hid (fun j e p hj hp => by
    obtain ⟨h1, h2⟩ := hn j e p hj hp
    obtain ⟨kb, ko, e', hkb, he⟩ := hg j e hj
    have hp2 : (want.map pvC)[j]? = some (pvC p) := by rw [List.getElem?_map, hp]; rfl
    obtain ⟨gb, cap, e2, hc⟩ := hw.cell hp2 (i := 0) (u := .string p.m.n) rfl
    have hgb : gb < w.heap.size := (hw.lt gb (by rw [e2]; rfl)).2
    simp only [Value.slice.injEq] at e2
    refine ⟨kb, ko, gb, e', e2.1, h1, by rw [h1]; exact h2, fun W hW => ⟨?_, ?_⟩⟩
    · exact he.keep (hW.keeps'.mono (fun k hk => hk)) hkb
    · rw [h1]; exact (hW.cell (p := ⟨gb, _, none⟩) hgb).trans hc)
  have HF : Hid (∀ (nm : ByteArray) (W : World), Below w.heap.size w W → Calls Try.prog 9 #[av, .string nm] W fun e w' => e = .returned (fndR (all.find? (entIs nm))) ∧ Below W.heap.size W w') := Lib.hid (fun nm W hW => lfind_any all nm av W (ha.to hW))
  obtain ⟨aa, an, ac, rfl, _⟩ := ha.open
  have HL := Lib.hid hlen.out
  have HLW := Lib.hid hlw
  clear hk hg hlen hn hw ha hlw hwn
  go_enter Try.func15, Try.ntmps15
  go_wp2_with fail
  go_loopw [7] (fun i wr => ∃ j : Nat, i = .int .i64 j ∧ j ≤ len ∧ Hid (Below w.heap.size w wr)) (fun i _ => len - (intOf i).toNat)
  case atStart => exact ⟨0, rfl, Nat.zero_le _, Lib.hid (Below.refl _ _)⟩
  case round =>
    obtain ⟨j, rfl, hj, HBW⟩ := hrel
    by_cases hlt : j < len
    · obtain ⟨e, he⟩ : ∃ e, es[j]? = some e := ⟨_, List.getElem?_eq_getElem (by rw [← HL.out]; exact hlt)⟩
      obtain ⟨p, hp⟩ : ∃ p, want[j]? = some p := ⟨_, List.getElem?_eq_getElem (by rw [← HLW.out, ← HL.out]; exact hlt)⟩
      obtain ⟨kb, ko, gb, rfl, rfl, _, hfe, hW⟩ := HE.out j e p he hp
      have HW := Lib.hid hW
      have HFE := Lib.hid hfe
      obtain ⟨_, d0⟩ := hW wr HBW.out
      obtain ⟨ne, hne⟩ : ∃ x, e.n = x := ⟨_, rfl⟩
      obtain ⟨ae, hae⟩ : ∃ x, e.a = x := ⟨_, rfl⟩
      obtain ⟨se, hse⟩ : ∃ x, e.s = x := ⟨_, rfl⟩
      have HFC : Hid (Calls Try.prog 9 #[.slice aa an ac, .string ne] wr fun e w' => e = .returned (.tuple #[.agg #[.int .i64 ae, .int .i64 se], .bool true]) ∧ Below wr.heap.size wr w') := Lib.hid (by
        have h := HF.out ne wr HBW.out
        rw [← hne, hfe, fndR, hae, hse, hne] at h
        exact h)
      have HRD : Hid (∀ W, Below w.heap.size w W → W.cell? ⟨kb, ko + j * 3, none⟩ = some (.string ne) ∧ W.cell? ⟨kb, ko + j * 3 + 1, none⟩ = some (.int .i64 ae) ∧ W.cell? ⟨kb, ko + j * 3 + 2, none⟩ = some (.int .i64 se) ∧ W.cell? ⟨gb, j * 7, none⟩ = some (.string ne)) := Lib.hid (fun W hb => by
        obtain ⟨⟨h1, h2, h3⟩, h4⟩ := hW W hb
        rw [hne] at h1 h4
        rw [hae] at h2
        rw [hse] at h3
        exact ⟨h1, h2, h3, h4⟩)
      rw [hne] at d0
      clear he hp hfe hW hne hae hse HW HFE
      go_upto_region 7 with (go_at_call 9; go_loud (refine HFC.out.mono ?_; rintro en w3 ⟨rfl, hb3⟩; have HB3 := Lib.hid (below_seq HBW.out hb3); clear hb3))
      obtain ⟨W5, hW5⟩ : ∃ W5, w3.alloc (.cells #[.int .i64 ae, .int .i64 se] 24) = W5 := ⟨_, rfl⟩
      have hb5 : Below w.heap.size w W5 := by rw [← hW5]; exact HB3.out.alloc HB3.out.size _
      have x5 : W5.heap[w3.heap.size]? = some (.cells #[.int .i64 ae, .int .i64 se] 24 (0, 0)) := by rw [← hW5]; exact World.alloc_heap_new _ _
      have z0 : W5.cell? ⟨w3.heap.size, 0, none⟩ = some (.int .i64 ae) := by simp [World.cell?, x5]
      have z1 : W5.cell? ⟨w3.heap.size, 1, none⟩ = some (.int .i64 se) := by simp [World.cell?, x5]
      obtain ⟨f0, f1, f2, f3⟩ := HRD.out W5 hb5
      have HB5 := Lib.hid hb5
      rw [hW5]
      clear hW5 x5 hb5 d0
      go_quiet (fail)
      go_wp2_with fail
      go_roundw
      case rel => exact ⟨j + 1, by go_num, by omega, Lib.hid (below_drewN HB5.out _)⟩
      case measure => simp [intOf]; omega
    · obtain rfl : len = j := by omega
      go_wp2_with fail
      go_ret
      exact ⟨rfl, HBW.out⟩
end Go.Proofs.Yticdkbcfahjpnaa

/- Contexts: priorities of the parts of a context. -/
namespace Go.Proofs.Yticdkbcfahjpnaa
open Go.RowKit Go.Deep Go.Shelf

abbrev ZS := List (PV × Ent)
def zpri (z : PV × Ent) : Option Int := z.1.m.t.pri
def zP (zs : ZS) : List Int := zs.filterMap zpri
theorem zs_filter {ns : List GNode} {zs : ZS} (hF : ∀ z ∈ zs, Fit ns z) (f : Ent → Bool) (g : PV → Bool) (h : ∀ z, Fit ns z → f z.2 = g z.1) :
    (zs.map Prod.snd).filter f = (zs.filter (fun z => g z.1)).map Prod.snd := by
  rw [List.filter_map]
  congr 1
  refine List.filter_congr fun z hz => ?_
  exact h z (hF z hz)
theorem zs_filter1 {zs : ZS} (g : PV → Bool) : (zs.map Prod.fst).filter g = (zs.filter (fun z => g z.1)).map Prod.fst := by
  rw [List.filter_map]
  rfl
theorem fit_filter {ns : List GNode} {zs : ZS} (hF : ∀ z ∈ zs, Fit ns z) (g : PV × Ent → Bool) : ∀ z ∈ zs.filter g, Fit ns z := fun z hz => hF z (List.mem_filter.1 hz).1
theorem prios_zs {ns : List GNode} : ∀ {zs : ZS}, (∀ z ∈ zs, Fit ns z) → priosE ns ((zs.map Prod.snd).map Ent.r) = zP zs
  | [], _ => rfl
  | z :: r, h => by
    have ih := prios_zs (zs := r) (fun y hy => h y (List.mem_cons_of_mem _ hy))
    have hz := (h z (List.mem_cons_self)).pri
    unfold priosE zP at *
    simp only [List.map_cons, List.filterMap_cons, hz, zpri, ih]
theorem refs_zs (zs : ZS) : ((zs.map Prod.fst).map (fun q => q.m.t)).filterMap Ty.pri = zP zs := by
  rw [List.filterMap_map, List.filterMap_map]
  rfl
theorem fit_is {ns : List GNode} (nm : ByteArray) (z : PV × Ent) (h : Fit ns z) : entIs nm z.2 = pvIs nm z.1 := by
  unfold entIs pvIs
  rw [h.name]
theorem fit_live {ns : List GNode} (z : PV × Ent) (h : Fit ns z) : livB ns z.2 = z.1.m.t.pri.isSome := by
  unfold livB
  rw [h.pri]
theorem ents_ok {ns : List GNode} {zs : ZS} (hF : ∀ z ∈ zs, Fit ns z) : ∀ e ∈ zs.map Prod.snd, EntOk ns e := fun e he => by
  obtain ⟨z, hz, rfl⟩ := List.mem_map.1 he
  exact (hF z hz).ok

/-! ### Least numbers -/
theorem foldl_min_le : ∀ (l : List Int) (x : Int), l.foldl min x ≤ x ∧ ∀ y ∈ l, l.foldl min x ≤ y
  | [], x => ⟨Int.le_refl _, fun y h => by cases h⟩
  | z :: r, x => by
    obtain ⟨h1, h2⟩ := foldl_min_le r (min x z)
    rw [List.foldl_cons]
    refine ⟨by omega, fun y hy => ?_⟩
    rcases List.mem_cons.1 hy with rfl | hy
    · omega
    · exact h2 y hy
theorem minF_le {l : List Int} {x : Int} (h : x ∈ l) : minF l ≤ x := by
  match l with
  | y :: r =>
    simp only [minF]
    obtain ⟨h1, h2⟩ := foldl_min_le r y
    rcases List.mem_cons.1 h with rfl | h
    · exact h1
    · exact h2 x h
theorem low_sub {P Q : List Int} (h : ∀ x ∈ Q, x ∈ P) (hq : Q ≠ []) : P ≠ [] ∧ minF P ≤ minF Q := by
  have h1 := h _ (minF_mem hq)
  exact ⟨fun e => (by rw [e] at h1; cases h1), minF_le h1⟩
theorem low_two {P A B : List Int} (h : ∀ x, x ∈ P ↔ x ∈ A ∨ x ∈ B) (ha : A ≠ []) (hb : B ≠ []) : P ≠ [] ∧ minF P = min (minF A) (minF B) := by
  have h1 := low_sub (P := P) (fun x hx => (h x).2 (.inl hx)) ha
  have h2 := low_sub (P := P) (fun x hx => (h x).2 (.inr hx)) hb
  refine ⟨h1.1, ?_⟩
  rcases (h _).1 (minF_mem h1.1) with hm | hm
  · have := minF_le hm; omega
  · have := minF_le hm; omega
theorem low_one {P A B : List Int} (h : ∀ x, x ∈ P ↔ x ∈ A ∨ x ∈ B) (hb : B = []) : (P = [] ↔ A = []) ∧ minF P = minF A := by
  subst hb
  have h' : ∀ x, x ∈ P ↔ x ∈ A := fun x => (h x).trans ⟨fun h => h.elim id (fun h => by cases h), .inl⟩
  have h1 : P = [] ↔ A = [] := by
    constructor
    · intro e
      refine List.eq_nil_iff_forall_not_mem.2 fun x hx => ?_
      have := (h' x).2 hx
      rw [e] at this; cases this
    · intro e
      refine List.eq_nil_iff_forall_not_mem.2 fun x hx => ?_
      have := (h' x).1 hx
      rw [e] at this; cases this
  refine ⟨h1, ?_⟩
  by_cases ha : A = []
  · rw [ha, h1.2 ha]
  · have hp : P ≠ [] := fun e => ha (h1.1 e)
    have a1 := minF_le ((h' _).2 (minF_mem ha))
    have a2 := minF_le ((h' _).1 (minF_mem hp))
    omega
theorem zP_mem {zs : ZS} {x : Int} : x ∈ zP zs ↔ ∃ z ∈ zs, z.1.m.t.pri = some x := by
  unfold zP zpri
  rw [List.mem_filterMap]
theorem zP_sub {zs : ZS} {f g : PV × Ent → Bool} (h : ∀ z, f z = true → g z = true) : ∀ x ∈ zP (zs.filter f), x ∈ zP (zs.filter g) := fun x hx => by
  obtain ⟨z, hz, he⟩ := zP_mem.1 hx
  obtain ⟨h1, h2⟩ := List.mem_filter.1 hz
  exact zP_mem.2 ⟨z, List.mem_filter.2 ⟨h1, h z h2⟩, he⟩
/-- What has no priority does not count. -/
theorem zP_dead : ∀ {zs : ZS} {f g : PV × Ent → Bool}, (∀ z ∈ zs, f z = g z ∨ z.1.m.t.pri = none) → zP (zs.filter f) = zP (zs.filter g)
  | [], _, _, _ => rfl
  | z :: r, f, g, h => by
    have ih := zP_dead (zs := r) (f := f) (g := g) (fun y hy => h y (List.mem_cons_of_mem _ hy))
    unfold zP at *
    rw [List.filter_cons, List.filter_cons]
    rcases h z List.mem_cons_self with he | he
    · rw [he]
      cases g z
      · exact ih
      · simp only [if_true, List.filterMap_cons, ih]
    · have hz : zpri z = none := he
      cases f z <;> cases g z <;> simp [hz, ih]
/-- The parts of a context have its priorities. -/
theorem parts_mem {zs : ZS} {k a : PV × Ent → Bool} : ∀ x, x ∈ zP (zs.filter k) ↔ x ∈ zP ((zs.filter (fun z => a z || !z.1.m.t.pri.isSome)).filter k) ∨ x ∈ zP ((zs.filter (fun z => !a z || !z.1.m.t.pri.isSome)).filter k) := by
  intro x
  rw [zP_mem, zP_mem, zP_mem]
  constructor
  · rintro ⟨z, hz, he⟩
    obtain ⟨h1, h2⟩ := List.mem_filter.1 hz
    cases ha : a z with
    | true => exact .inl ⟨z, List.mem_filter.2 ⟨List.mem_filter.2 ⟨h1, by simp [ha]⟩, h2⟩, he⟩
    | false => exact .inr ⟨z, List.mem_filter.2 ⟨List.mem_filter.2 ⟨h1, by simp [ha]⟩, h2⟩, he⟩
  · rintro (⟨z, hz, he⟩ | ⟨z, hz, he⟩)
    · obtain ⟨h1, h2⟩ := List.mem_filter.1 hz
      exact ⟨z, List.mem_filter.2 ⟨(List.mem_filter.1 h1).1, h2⟩, he⟩
    · obtain ⟨h1, h2⟩ := List.mem_filter.1 hz
      exact ⟨z, List.mem_filter.2 ⟨(List.mem_filter.1 h1).1, h2⟩, he⟩
theorem Diff.same {ps : List PV} (h : Diff ps) {p q : PV} (hp : p ∈ ps) (hq : q ∈ ps) (he : p.m.n = q.m.n) : p = q := by
  obtain ⟨i, hi⟩ := List.getElem?_of_mem hp
  obtain ⟨j, hj⟩ := List.getElem?_of_mem hq
  rcases Nat.lt_trichotomy i j with hij | rfl | hij
  · exact absurd he (h j i q p hij hj hi)
  · exact Option.some.inj (hi.symm.trans hj)
  · exact absurd he.symm (h i j p q hij hi hj)
end Go.Proofs.Yticdkbcfahjpnaa

/- Contexts: the law ContextParts. -/
namespace Go.Proofs.Yticdkbcfahjpnaa
open Go.RowKit Go.Deep Go.Shelf

def keepN (nm : ByteArray) (z : PV × Ent) : Bool := !pvIs nm z.1
def inN (ls : List ByteArray) (z : PV × Ent) : Bool := memB z.1.m.n ls
/-- What the law compares. -/
def PartsFit (fa fb fp : Int) (xa xb xp : Bool) : Prop :=
  (xa = true ∧ xb = true ∧ xp = true ∧ fp = min fa fb) ∨ (xa = true ∧ xb = false ∧ xp = true ∧ fp = fa ∧ fb = 0) ∨ (xa = false ∧ xb = true ∧ xp = true ∧ fp = fb ∧ fa = 0) ∨ (xa = false ∧ xb = false ∧ xp = false ∧ fp = 0 ∧ fa = 0 ∧ fb = 0)
theorem isE {l : List Int} : ((!l.isEmpty) = true ↔ l ≠ []) ∧ ((!l.isEmpty) = false ↔ l = []) := by cases l <;> simp
theorem parts_fit {P A B : List Int} (h : ∀ x, x ∈ P ↔ x ∈ A ∨ x ∈ B) : PartsFit (minF A) (minF B) (minF P) (!A.isEmpty) (!B.isEmpty) (!P.isEmpty) := by
  have h' : ∀ x, x ∈ P ↔ x ∈ B ∨ x ∈ A := fun x => (h x).trans Or.comm
  by_cases ha : A = []
  · obtain ⟨h1, h2⟩ := low_one h' ha
    by_cases hb : B = []
    · have hp := h1.2 hb
      subst ha hb hp
      exact .inr (.inr (.inr ⟨rfl, rfl, rfl, rfl, rfl, rfl⟩))
    · have hp : P ≠ [] := fun e => hb (h1.1 e)
      exact .inr (.inr (.inl ⟨isE.2.2 ha, isE.1.2 hb, isE.1.2 hp, h2, by rw [ha]; rfl⟩))
  · by_cases hb : B = []
    · obtain ⟨h1, h2⟩ := low_one h hb
      have hp : P ≠ [] := fun e => ha (h1.1 e)
      exact .inr (.inl ⟨isE.1.2 ha, isE.2.2 hb, isE.1.2 hp, h2, by rw [hb]; rfl⟩)
    · obtain ⟨h1, h2⟩ := low_two h ha hb
      exact .inl ⟨isE.1.2 ha, isE.1.2 hb, isE.1.2 h1, h2⟩
theorem minF_bd {l : List Int} (h : ∀ x ∈ l, -2000000000 ≤ x ∧ x ≤ 2000000000) : -2000000000 ≤ minF l ∧ minF l ≤ 2000000000 := by
  by_cases he : l = []
  · subst he; simp [minF]
  · exact h _ (minF_mem he)
theorem priosE_bd {ns : List GNode} (hs : smallG ns) {es : List Ent} (he : ∀ e ∈ es, EntOk ns e) : ∀ x ∈ priosE ns (es.map Ent.r), -2000000000 ≤ x ∧ x ≤ 2000000000 := by
  intro x hx
  obtain ⟨r, hm, h⟩ := List.mem_filterMap.1 hx
  obtain ⟨e, hem, rfl⟩ := List.mem_map.1 hm
  unfold prioE at h
  split at h
  · next g hg =>
    split at h
    · have h0 := Option.some.inj h
      have h1 := (hs g (List.mem_of_getElem? hg)).1
      have h2 := (he e hem).2.2.1
      have h3 : (Ent.r e).s = e.s := rfl
      omega
    · cases h
  · cases h

set_option maxHeartbeats 16000000 in
set_option maxRecDepth 100000 in
theorem ContextPartsW (ps : List PV) (ls : List ByteArray) (pa : Option Addr) (len c : Nat) (sv : Value) (w : World) (hk : PvSl w pa len ps) (hlen : len * 88 ≤ 140737488355328) (hs : StrSl (fun k => k < w.heap.size) w sv ls) :
    Calls Try.prog 6 #[.slice pa len c, sv] w fun e w' => e = .returned (.bool true) ∧ Below w.heap.size w w' := by
  have HAW := Lib.hid (fun (W : World) (_ : Below w.heap.size w W) => cawake_any W)
  have HPV : Hid (∀ W, Below w.heap.size w W → PvSl W pa len ps) := Lib.hid (fun W hW => hk.to hW)
  have HSV : Hid (∀ W, Below w.heap.size w W → StrSl (fun k => k < W.heap.size) W sv ls) := Lib.hid (fun W hW => (hs.keep (hW.keeps'.mono (fun k hk => hk))).mono (fun k hk => Nat.lt_of_lt_of_le hk hW.size))
  have HNS : Hid (∀ p ∈ ps, p.m.n.size ≤ maxLen) := Lib.hid (fun p hp => by
    obtain ⟨j, hj⟩ := List.getElem?_of_mem hp
    exact (hk.at_ j p hj).1)
  have HL : Hid (len = ps.length) := Lib.hid hk.len
  obtain ⟨sa, sn, sc, rfl, hsn, _⟩ := hs.open
  have HSN := Lib.hid hsn.out
  clear hk hs hsn
  by_cases hr : Rgt ps
  case neg =>
    have HRT := Lib.hid (fun (W : World) (hW : Below w.heap.size w W) => right_no ps pa len c W (HPV.out W hW) hlen hr)
    clear hr
    go_enter Try.func6, Try.ntmps6
    go_upto_region 2 with (first | (go_at_call 7; refine (HAW.out _ (Below.refl _ _)).mono ?_; rintro en w3 ⟨rfl, hb3⟩; have HB3 := Lib.hid hb3; clear hb3) | (go_at_call 11; refine (HRT.out _ HB3.out).mono ?_; rintro en w4 ⟨rfl, hb4⟩; have HB4 := Lib.hid (below_seq HB3.out hb4); clear hb4))
    go_wp2_with (go_at_call 7; refine (HAW.out _ HB4.out).mono ?_; rintro en w5 ⟨rfl, hb5⟩)
    go_ret
    exact ⟨rfl, below_seq HB4.out hb5⟩
  have HRT := Lib.hid (fun (W : World) (hW : Below w.heap.size w W) => right_yes ps pa len c W (HPV.out W hW) hlen hr)
  by_cases hn : sn ≤ 100
  case neg =>
    have hd : decide ((100 : Int) < (sn : Int)) = true := by simp; omega
    have hd2 : decide (100 < sn) = true := by simp; omega
    clear hr
    go_enter Try.func6, Try.ntmps6
    go_upto_region 2 with (first | (go_at_call 7; refine (HAW.out _ (Below.refl _ _)).mono ?_; rintro en w3 ⟨rfl, hb3⟩; have HB3 := Lib.hid hb3; clear hb3) | (go_at_call 11; refine (HRT.out _ HB3.out).mono ?_; rintro en w4 ⟨rfl, hb4⟩; have HB4 := Lib.hid (below_seq HB3.out hb4); clear hb4))
    go_wp2_with (go_at_call 7; refine (HAW.out _ HB4.out).mono ?_; rintro en w5 ⟨rfl, hb5⟩)
    go_ret
    exact ⟨rfl, below_seq HB4.out hb5⟩
  have hd : decide ((100 : Int) < (sn : Int)) = false := by simp; omega
  have hd2 : decide (100 < sn) = false := by simp; omega
  have hf := hr.facts
  have HBU := Lib.hid (fun (W : World) (hW : Below w.heap.size w W) => build_any ps pa len c W (HPV.out W hW) hf)
  obtain ⟨zs, hz1, hz2, hF⟩ := hf.zs HNS.out
  have hel : (esOf ps).length ≤ 12 := by rw [hf.elen]; exact hf.len
  obtain ⟨ns, hns⟩ : ∃ ns, gNodes (tsOf ps) = ns := ⟨_, rfl⟩
  have hsm := hf.small
  have hnl := hf.nlen
  have hl12 : len ≤ 12 := by rw [HL.out]; exact hf.len
  have HRL := Lib.hid (fun (W : World) (hW : Below w.heap.size w W) => rlowest13_any ps ⟨#[]⟩ pa len c W (HPV.out W hW) hf.ufo (by omega))
  rw [hns] at HBU hF hsm hnl
  rw [← hz2] at HBU hel
  have hokA := ents_ok hF
  -- the lists of priorities
  have hfa : (zs.map Prod.snd).filter (fun e => memB e.n ls || !livB ns e) = (zs.filter (fun z => inN ls z || !z.1.m.t.pri.isSome)).map Prod.snd :=
    zs_filter hF _ (fun p => memB p.m.n ls || !p.m.t.pri.isSome) (fun z h => by rw [h.name, fit_live z h])
  have hfb : (zs.map Prod.snd).filter (fun e => !memB e.n ls || !livB ns e) = (zs.filter (fun z => !inN ls z || !z.1.m.t.pri.isSome)).map Prod.snd :=
    zs_filter hF _ (fun p => !memB p.m.n ls || !p.m.t.pri.isSome) (fun z h => by rw [h.name, fit_live z h])
  obtain ⟨za, hza⟩ : ∃ za, zs.filter (fun z => inN ls z || !z.1.m.t.pri.isSome) = za := ⟨_, rfl⟩
  obtain ⟨zb, hzb⟩ : ∃ zb, zs.filter (fun z => !inN ls z || !z.1.m.t.pri.isSome) = zb := ⟨_, rfl⟩
  have hFa : ∀ z ∈ za, Fit ns z := by rw [← hza]; exact fit_filter hF _
  have hFb : ∀ z ∈ zb, Fit ns z := by rw [← hzb]; exact fit_filter hF _
  rw [hza] at hfa
  rw [hzb] at hfb
  have hla : (za.map Prod.snd).length ≤ 12 := by rw [← hfa]; exact Nat.le_trans (List.length_filter_le _ _) hel
  have hlb : (zb.map Prod.snd).length ≤ 12 := by rw [← hfb]; exact Nat.le_trans (List.length_filter_le _ _) hel
  have hPa : priosE ns (((za.map Prod.snd).filter (fun e => !entIs ⟨#[]⟩ e)).map Ent.r) = zP (za.filter (keepN ⟨#[]⟩)) := by
    rw [zs_filter hFa _ (fun p => !pvIs ⟨#[]⟩ p) (fun z h => by rw [fit_is _ z h])]
    exact prios_zs (fit_filter hFa _)
  have hPb : priosE ns (((zb.map Prod.snd).filter (fun e => !entIs ⟨#[]⟩ e)).map Ent.r) = zP (zb.filter (keepN ⟨#[]⟩)) := by
    rw [zs_filter hFb _ (fun p => !pvIs ⟨#[]⟩ p) (fun z h => by rw [fit_is _ z h])]
    exact prios_zs (fit_filter hFb _)
  have hPp : ((ps.filter (fun p => !pvIs ⟨#[]⟩ p)).map (fun q => q.m.t)).filterMap Ty.pri = zP (zs.filter (keepN ⟨#[]⟩)) := by
    rw [← hz1, zs_filter1]
    exact refs_zs _
  have hbA := minF_bd (priosE_bd hsm (es := (za.map Prod.snd).filter (fun e => !entIs ⟨#[]⟩ e)) (fun e he => ents_ok hFa e (List.mem_filter.1 he).1))
  have hbB := minF_bd (priosE_bd hsm (es := (zb.map Prod.snd).filter (fun e => !entIs ⟨#[]⟩ e)) (fun e he => ents_ok hFb e (List.mem_filter.1 he).1))
  have hfit := parts_fit (parts_mem (zs := zs) (k := keepN ⟨#[]⟩) (a := inN ls))
  rw [hza, hzb] at hfit
  rw [hPa] at hbA
  rw [hPb] at hbB
  rw [hPp] at HRL
  unfold lowV at HRL
  obtain ⟨fa, hfa'⟩ : ∃ x, minF (zP (za.filter (keepN ⟨#[]⟩))) = x := ⟨_, rfl⟩
  obtain ⟨fb, hfb'⟩ : ∃ x, minF (zP (zb.filter (keepN ⟨#[]⟩))) = x := ⟨_, rfl⟩
  obtain ⟨fp, hfp'⟩ : ∃ x, minF (zP (zs.filter (keepN ⟨#[]⟩))) = x := ⟨_, rfl⟩
  obtain ⟨xa, hxa'⟩ : ∃ x, (!(zP (za.filter (keepN ⟨#[]⟩))).isEmpty) = x := ⟨_, rfl⟩
  obtain ⟨xb, hxb'⟩ : ∃ x, (!(zP (zb.filter (keepN ⟨#[]⟩))).isEmpty) = x := ⟨_, rfl⟩
  obtain ⟨xp, hxp'⟩ : ∃ x, (!(zP (zs.filter (keepN ⟨#[]⟩))).isEmpty) = x := ⟨_, rfl⟩
  rw [hfa'] at hbA
  rw [hfb'] at hbB
  rw [hfa', hfb', hfp', hxa', hxb', hxp'] at hfit
  rw [hfp', hxp'] at HRL
  obtain ⟨es, hes⟩ : ∃ es, zs.map Prod.snd = es := ⟨_, rfl⟩
  obtain ⟨ea, hea⟩ : ∃ es, za.map Prod.snd = es := ⟨_, rfl⟩
  obtain ⟨eb, heb⟩ : ∃ es, zb.map Prod.snd = es := ⟨_, rfl⟩
  have hokB := ents_ok hFa
  have hokC := ents_ok hFb
  rw [hes] at HBU hel hokA hfa hfb
  rw [hea] at hfa hla hPa hokB
  rw [heb] at hfb hlb hPb hokC
  have HCS : Hid (∀ (na : Option Addr) (nn nc : Nat) (v : Value) (W : World), Below w.heap.size w W → NodeSl (fun k => k < W.heap.size) W (.slice na nn nc) ns → EnSl (fun k => k < W.heap.size) W v es → Calls Try.prog 13 #[grV na nn nc, v, .slice sa sn sc] W fun en w' => ∃ a n c a' n' c', en = .returned (.tuple #[.slice a n c, .slice a' n' c']) ∧ GRow 30 3 W.heap.size w' (.slice a n c) (ea.map entCells) ∧ GRow 30 3 W.heap.size w' (.slice a' n' c') (eb.map entCells) ∧ Below W.heap.size W w') := Lib.hid (fun na nn nc v W hW h1 h2 => by
    have h := csplit_any ns na nn nc es ls v (.slice sa sn sc) W h1 (by omega) hsm hokA h2 (by omega) (HSV.out W hW) (by rw [← HSN.out]; omega)
    rw [hfa, hfb] at h
    exact h)
  have HIA : Hid (∀ (v : Value) (W : World), EnSl (fun k => k < W.heap.size) W v ea → Calls Try.prog 20 #[v, .int .i64 (ns.length : Int)] W fun e w' => e = .returned (.bool true) ∧ Below W.heap.size W w') := Lib.hid (fun v W h => inside_any ea ns.length v W h (fun e he => by
    have := hokB e he
    exact ⟨this.1, by have := this.2.1; have := this; omega⟩))
  have HIB : Hid (∀ (v : Value) (W : World), EnSl (fun k => k < W.heap.size) W v eb → Calls Try.prog 20 #[v, .int .i64 (ns.length : Int)] W fun e w' => e = .returned (.bool true) ∧ Below W.heap.size W w') := Lib.hid (fun v W h => inside_any eb ns.length v W h (fun e he => by
    have := hokC e he
    exact ⟨this.1, by have := this.2.1; have := this; omega⟩))
  have HLA : Hid (∀ (na : Option Addr) (nn nc : Nat) (v : Value) (W : World), NodeSl (fun k => k < W.heap.size) W (.slice na nn nc) ns → EnSl (fun k => k < W.heap.size) W v ea → Calls Try.prog 18 #[grV na nn nc, v, .string ⟨#[]⟩] W fun en w' => en = .returned (.tuple #[.int .i64 fa, .bool xa]) ∧ Below W.heap.size W w') := Lib.hid (fun na nn nc v W h1 h2 => by
    have h := clowest_any ns na nn nc ea ⟨#[]⟩ v W h1 (by omega) hsm hokB h2 (by omega)
    rw [hPa, lowV, hfa', hxa'] at h
    exact h)
  have HLB : Hid (∀ (na : Option Addr) (nn nc : Nat) (v : Value) (W : World), NodeSl (fun k => k < W.heap.size) W (.slice na nn nc) ns → EnSl (fun k => k < W.heap.size) W v eb → Calls Try.prog 18 #[grV na nn nc, v, .string ⟨#[]⟩] W fun en w' => en = .returned (.tuple #[.int .i64 fb, .bool xb]) ∧ Below W.heap.size W w') := Lib.hid (fun na nn nc v W h1 h2 => by
    have h := clowest_any ns na nn nc eb ⟨#[]⟩ v W h1 (by omega) hsm hokC h2 (by omega)
    rw [hPb, lowV, hfb', hxb'] at h
    exact h)
  have HFIT := Lib.hid hfit
  have HEL := Lib.hid hel
  have HLEA := Lib.hid hla
  have HLEB := Lib.hid hlb
  have HBD := Lib.hid (And.intro hbA hbB)
  clear hr hf hz1 hz2 hF hel hns hsm hnl hokA hfa hfb hza hzb hFa hFb hla hlb hPa hPb hPp hbA hbB hfit hfa' hfb' hfp' hxa' hxb' hxp' hes hea heb hokB hokC HNS HL HSV
  go_enter Try.func6, Try.ntmps6
  go_upto_region 3 with (first | (go_at_call 7; refine (HAW.out _ (Below.refl _ _)).mono ?_; rintro en w3 ⟨rfl, hb3⟩; have HB3 := Lib.hid hb3; clear hb3) | (go_at_call 11; refine (HRT.out _ HB3.out).mono ?_; rintro en w4 ⟨rfl, hb4⟩; have HB4 := Lib.hid (below_seq HB3.out hb4); clear hb4))
  clear hd hd2
  go_upto_region 4 with (go_at_call 12; go_loud (refine (HBU.out _ HB4.out).mono ?_; rintro en w6 ⟨na, nn, nc, la, ln, lc, rfl, hn6, hr6, hb6⟩; have HN6 := Lib.hid hn6; have HR6 := Lib.hid hr6; have HB6 := Lib.hid (below_seq HB4.out hb6); clear hn6 hr6 hb6))
  obtain ⟨W7, hW7⟩ : ∃ W7, w6.alloc (.cells #[.slice na nn nc] 37) = W7 := ⟨_, rfl⟩
  have hb7 : Below w6.heap.size w6 W7 := by rw [← hW7]; exact blkBelow w6 _ _
  have x7 : W7.heap[w6.heap.size]? = some (.cells #[.slice na nn nc] 37 (0, 0)) := by rw [← hW7]; exact World.alloc_heap_new _ _
  have hs7 : w6.heap.size < W7.heap.size := (Array.getElem?_eq_some_iff.1 x7).1
  have HBX := Lib.hid (fun (W : World) (hW : Below W7.heap.size W7 W) => show W.cell? ⟨w6.heap.size, 0, none⟩ = some (.slice na nn nc) from by
    have a1 : W.heap[w6.heap.size]? = _ := (hW.block _ hs7).trans x7
    simp [World.cell?, a1])
  have HB7 : Hid (Below w.heap.size w W7) := Lib.hid (below_seq HB6.out hb7)
  have HNG : Hid (∀ W, Below W7.heap.size W7 W → NodeSl (fun k => k < W.heap.size) W (.slice na nn nc) ns) := Lib.hid (fun W hW => by
    have b1 := below_seq hb7 hW
    exact (HN6.out.keep (b1.keeps'.mono (fun k hk => hk))).mono (fun k hk => Nat.lt_of_lt_of_le hk b1.size))
  have HEN : Hid (EnSl (fun k => k < W7.heap.size) W7 (.slice la ln lc) es) := Lib.hid (((HR6.out.to hb7).ents (by have := HEL.out; unfold maxLen; omega)).mono (fun k hk => hk.2))
  obtain rfl : nn = ns.length := by
    obtain ⟨_, _, _, e, hl, _⟩ := (HNG.out W7 (Below.refl _ _)).open
    simp only [Value.slice.injEq] at e
    rw [e.2.1]; exact hl.out
  have b0 := HBX.out W7 (Below.refl _ _)
  have HSP := Lib.hid (HCS.out na ns.length nc _ W7 HB7.out (HNG.out W7 (Below.refl _ _)) HEN.out)
  unfold grV at HSP HLA HLB
  rw [hW7]
  clear hb7 x7 hs7 hW7 HN6 HR6
  go_upto_region 5 with (go_at_call 13; go_loud (refine HSP.out.mono ?_; rintro en w8 ⟨ga, gn, gc, ha, hn, hc, rfl, hr8, hq8, hb8⟩; have HR8 := Lib.hid hr8; have HQ8 := Lib.hid hq8; have HB8 := Lib.hid hb8; clear hr8 hq8 hb8))
  have HEA : Hid (∀ W, Below w8.heap.size w8 W → EnSl (fun k => k < W.heap.size) W (.slice ga gn gc) ea ∧ EnSl (fun k => k < W.heap.size) W (.slice ha hn hc) eb) := Lib.hid (fun W hW => ⟨((HR8.out.to hW).ents (by have := HLEA.out; unfold maxLen; omega)).mono (fun k hk => hk.2), ((HQ8.out.to hW).ents (by have := HLEB.out; unfold maxLen; omega)).mono (fun k hk => hk.2)⟩)
  have b1 := HBX.out w8 HB8.out
  clear b0
  go_upto_region 7 with (first | (have hone := b1; clear hone; go_at_call 20; go_loud (refine (HIA.out _ w8 (HEA.out w8 (Below.refl _ _)).1).mono ?_; rintro en w9 ⟨rfl, hb9⟩; have HB9 := Lib.hid hb9; have c1 := HBX.out w9 (below_seq HB8.out HB9.out); clear hb9 b1)) | (go_at_call 20; go_loud (refine (HIB.out _ w9 (HEA.out w9 HB9.out).2).mono ?_; rintro en w10 ⟨rfl, hb10⟩; have HB10 := Lib.hid (below_seq HB9.out hb10); have b2 := HBX.out w10 (below_seq HB8.out HB10.out); clear hb10 c1)))
  go_upto_region 8 with (go_at_call 18; go_loud (refine (HLA.out na ns.length nc _ w10 (HNG.out w10 (below_seq HB8.out HB10.out)) (HEA.out w10 HB10.out).1).mono ?_; rintro en w11 ⟨rfl, hb11⟩; have HB11 := Lib.hid (below_seq HB10.out hb11); have b3 := HBX.out w11 (below_seq HB8.out HB11.out); clear hb11 b2))
  go_upto_region 9 with (go_at_call 18; go_loud (refine (HLB.out na ns.length nc _ w11 (HNG.out w11 (below_seq HB8.out HB11.out)) (HEA.out w11 HB11.out).2).mono ?_; rintro en w12 ⟨rfl, hb12⟩; have HB12 := Lib.hid (below_seq HB11.out hb12); clear hb12 b3))
  go_upto_region 10 with (go_at_call 21; go_loud (refine (HRL.out w12 (below_seq HB7.out (below_seq HB8.out HB12.out))).mono ?_; rintro en w13 ⟨rfl, hb13⟩; have HBE := Lib.hid (below_seq (below_seq HB7.out (below_seq HB8.out HB12.out)) hb13); clear hb13))
  obtain ⟨⟨ha1, ha2⟩, hb1, hb2⟩ := HBD.out
  rcases HFIT.out with ⟨rfl, rfl, rfl, rfl⟩ | ⟨rfl, rfl, rfl, rfl, rfl⟩ | ⟨rfl, rfl, rfl, rfl, rfl⟩ | ⟨rfl, rfl, rfl, rfl, rfl, rfl⟩
  · go_wp2_with fail
    all_goals go_ret
    all_goals refine ⟨?_, HBE.out⟩
    all_goals first | rw [show (min fa fb == fb) = true by simp; omega] | rw [show (min fa fb == fa) = true by simp; omega]
    all_goals rfl
  · go_wp2_with fail
    go_ret
    exact ⟨rfl, HBE.out⟩
  · go_wp2_with fail
    go_ret
    exact ⟨rfl, HBE.out⟩
  · go_wp2_with fail
    go_ret
    exact ⟨rfl, HBE.out⟩
theorem ContextPartsV (ms : List Pm) (v : Value) (ls : List ByteArray) (sv : Value) (w : World) (hk : PmSl (fun k => k < w.heap.size) w v ms) (hlen : ∀ (pa : Option Addr) (len c : Nat), v = .slice pa len c → len * 88 ≤ 140737488355328) (hs : StrSl (fun k => k < w.heap.size) w sv ls) :
    Calls Try.prog 6 #[v, sv] w fun e w' => e = .returned (.bool true) ∧ Below w.heap.size w w' := by
  obtain ⟨pa, len, c, ps, rfl, _, _, hp⟩ := hk.pv
  exact ContextPartsW ps ls pa len c sv w hp (hlen _ _ _ rfl) hs
end Go.Proofs.Yticdkbcfahjpnaa
