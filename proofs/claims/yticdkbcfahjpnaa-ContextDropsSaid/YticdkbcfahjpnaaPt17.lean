/- Contexts: the law ContextDrops. (and what follows from it) -/
import Derived.Test.YticdkbcfahjpnaaPt16

/- Contexts: the law ContextDrops. -/
namespace Go.Proofs.Yticdkbcfahjpnaa
open Go.RowKit Go.Deep Go.Shelf

/-- What the law compares: all priorities, and those of what is left. -/
def DropsFit (fl fd : Int) (xl xd : Bool) : Prop :=
  (xl = true ∧ xd = true ∧ fl ≤ fd) ∨ (xd = false)
theorem drops_fit {P Q : List Int} (h : ∀ x ∈ Q, x ∈ P) : DropsFit (minF P) (minF Q) (!P.isEmpty) (!Q.isEmpty) := by
  by_cases hq : Q = []
  · exact .inr (isE.2.2 hq)
  · obtain ⟨h1, h2⟩ := low_sub h hq
    exact .inl ⟨isE.1.2 h1, isE.1.2 hq, h2⟩
theorem find_filter_no (nm : ByteArray) (es : List Ent) : (es.filter (fun e => !entIs nm e)).find? (entIs nm) = none := by
  rw [List.find?_eq_none]
  intro e he
  have := (List.mem_filter.1 he).2
  simpa using this
theorem filter_all {es : List Ent} {nm : ByteArray} (h : ∀ e ∈ es, entIs nm e = false) : es.filter (fun e => !entIs nm e) = es :=
  List.filter_eq_self.2 fun e he => by rw [h e he]; rfl

set_option maxHeartbeats 16000000 in
set_option maxRecDepth 100000 in
theorem ContextDropsW (ps : List PV) (nm : ByteArray) (pa : Option Addr) (len c : Nat) (w : World) (hk : PvSl w pa len ps) (hlen : len * 88 ≤ 140737488355328) (hmx : len ≤ 9223372036854775807) :
    Calls Try.prog 5 #[.slice pa len c, .string nm] w fun e w' => e = .returned (.bool true) ∧ Below w.heap.size w w' := by
  have HAW := Lib.hid (fun (W : World) (_ : Below w.heap.size w W) => cawake_any W)
  have HPV : Hid (∀ W, Below w.heap.size w W → PvSl W pa len ps) := Lib.hid (fun W hW => hk.to hW)
  have HNS : Hid (∀ p ∈ ps, p.m.n.size ≤ maxLen) := Lib.hid (fun p hp => by
    obtain ⟨j, hj⟩ := List.getElem?_of_mem hp
    exact (hk.at_ j p hj).1)
  have HL : Hid (len = ps.length) := Lib.hid hk.len
  have HPT : Hid (∀ p ∈ ps, ∀ W, Below w.heap.size w W → TyVal (fun k => k < W.heap.size) W (tyV p) p.m.t) := Lib.hid (fun p hp W hW => by
    obtain ⟨j, hj⟩ := List.getElem?_of_mem hp
    obtain ⟨_, _, _, _, _, h⟩ := hk.at_ j p hj
    exact (h W hW).2.mono (fun k hk => Nat.lt_of_lt_of_le hk hW.size))
  clear hk
  by_cases hr : Rgt ps
  case neg =>
    have HRT := Lib.hid (fun (W : World) (hW : Below w.heap.size w W) => right_no ps pa len c W (HPV.out W hW) hlen hr)
    clear hr
    go_enter Try.func5, Try.ntmps5
    go_upto_region 2 with (first | (go_at_call 7; refine (HAW.out _ (Below.refl _ _)).mono ?_; rintro en w3 ⟨rfl, hb3⟩; have HB3 := Lib.hid hb3; clear hb3) | (go_at_call 11; refine (HRT.out _ HB3.out).mono ?_; rintro en w4 ⟨rfl, hb4⟩; have HB4 := Lib.hid (below_seq HB3.out hb4); clear hb4))
    go_wp2_with (go_at_call 7; refine (HAW.out _ HB4.out).mono ?_; rintro en w5 ⟨rfl, hb5⟩)
    go_ret
    exact ⟨rfl, below_seq HB4.out hb5⟩
  have HRT := Lib.hid (fun (W : World) (hW : Below w.heap.size w W) => right_yes ps pa len c W (HPV.out W hW) hlen hr)
  have hf := hr.facts
  have HBU := Lib.hid (fun (W : World) (hW : Below w.heap.size w W) => build_any ps pa len c W (HPV.out W hW) hf)
  have HRF := Lib.hid (fun (W : World) (hW : Below w.heap.size w W) => rfind13_any ps nm pa len c W (HPV.out W hW) hmx)
  obtain ⟨zs, hz1, hz2, hF⟩ := hf.zs HNS.out
  have hel : (esOf ps).length ≤ 12 := by rw [hf.elen]; exact hf.len
  obtain ⟨ns, hns⟩ : ∃ ns, gNodes (tsOf ps) = ns := ⟨_, rfl⟩
  have hsm := hf.small
  have hnl := hf.nlen
  have hufo := hf.ufo
  rw [hns] at HBU hF hsm hnl
  rw [← hz2] at HBU hel
  have hokA := ents_ok hF
  have hfd : (zs.map Prod.snd).filter (fun e => !entIs nm e) = (zs.filter (keepN nm)).map Prod.snd :=
    zs_filter hF _ (fun p => !pvIs nm p) (fun z h => by rw [fit_is _ z h])
  obtain ⟨zd, hzd⟩ : ∃ zd, zs.filter (keepN nm) = zd := ⟨_, rfl⟩
  have hFd : ∀ z ∈ zd, Fit ns z := by rw [← hzd]; exact fit_filter hF _
  rw [hzd] at hfd
  have hld : (zd.map Prod.snd).length ≤ 12 := by rw [← hfd]; exact Nat.le_trans (List.length_filter_le _ _) hel
  have hPl : priosE ns (((zs.map Prod.snd).filter (fun e => !entIs ⟨#[]⟩ e)).map Ent.r) = zP (zs.filter (keepN ⟨#[]⟩)) := by
    rw [zs_filter hF _ (fun p => !pvIs ⟨#[]⟩ p) (fun z h => by rw [fit_is _ z h])]
    exact prios_zs (fit_filter hF _)
  have hPd : priosE ns (((zd.map Prod.snd).filter (fun e => !entIs ⟨#[]⟩ e)).map Ent.r) = zP (zd.filter (keepN ⟨#[]⟩)) := by
    rw [zs_filter hFd _ (fun p => !pvIs ⟨#[]⟩ p) (fun z h => by rw [fit_is _ z h])]
    exact prios_zs (fit_filter hFd _)
  have hsub : ∀ x ∈ zP (zd.filter (keepN ⟨#[]⟩)), x ∈ zP (zs.filter (keepN ⟨#[]⟩)) := by
    intro x hx
    obtain ⟨z, hz, he⟩ := zP_mem.1 hx
    obtain ⟨h1, h2⟩ := List.mem_filter.1 hz
    rw [← hzd] at h1
    exact zP_mem.2 ⟨z, List.mem_filter.2 ⟨(List.mem_filter.1 h1).1, h2⟩, he⟩
  have hnod : (zd.map Prod.snd).find? (entIs nm) = none := by rw [← hfd]; exact find_filter_no _ _
  have hfit := drops_fit hsub
  -- what is dropped
  have hdead : ∀ p, ps.find? (pvIs nm) = some p → p.m.t.pri = none → zP (zs.filter (keepN ⟨#[]⟩)) = zP (zd.filter (keepN ⟨#[]⟩)) := by
    intro p hp hpr
    rw [← hzd, List.filter_filter]
    refine zP_dead fun z hz => ?_
    by_cases hn : pvIs nm z.1 = true
    · right
      have h1 : z.1 ∈ ps := by rw [← hz1]; exact List.mem_map.2 ⟨z, hz, rfl⟩
      have h2 := List.mem_of_find?_eq_some hp
      have h3 := List.find?_some hp
      have h4 : z.1 = p := hf.diff.same h1 h2 (by simp only [pvIs, decide_eq_true_eq] at hn h3; rw [hn, h3])
      rw [h4]; exact hpr
    · left
      simp [keepN, hn]
  have hgone : ps.find? (pvIs nm) = none → (zd.map Prod.snd).length = (zs.map Prod.snd).length := by
    intro hp
    rw [← hfd, filter_all]
    intro e he
    obtain ⟨z, hz, rfl⟩ := List.mem_map.1 he
    rw [fit_is _ z (hF z hz)]
    have h1 : z.1 ∈ ps := by rw [← hz1]; exact List.mem_map.2 ⟨z, hz, rfl⟩
    have := List.find?_eq_none.1 hp z.1 h1
    simpa using this
  have hlz : (zs.map Prod.snd).length = len := by rw [hz2, hf.elen, HL.out]
  obtain ⟨P, hP⟩ : ∃ P, zP (zs.filter (keepN ⟨#[]⟩)) = P := ⟨_, rfl⟩
  obtain ⟨Q, hQ⟩ : ∃ Q, zP (zd.filter (keepN ⟨#[]⟩)) = Q := ⟨_, rfl⟩
  rw [hP] at hPl hfit hdead
  rw [hQ] at hPd hfit hdead
  obtain ⟨es, hes⟩ : ∃ es, zs.map Prod.snd = es := ⟨_, rfl⟩
  obtain ⟨ed, hed⟩ : ∃ es, zd.map Prod.snd = es := ⟨_, rfl⟩
  have hokD := ents_ok hFd
  rw [hes] at HBU hel hokA hfd hPl hgone hlz
  rw [hed] at hfd hld hPd hokD hnod hgone
  have hdl : ed.length ≤ es.length := by rw [← hfd]; exact List.length_filter_le _ _
  obtain ⟨q, hq⟩ : ∃ q, ps.find? (pvIs nm) = q := ⟨_, rfl⟩
  rw [hq] at HRF hdead hgone
  have HIL : Hid (∀ p, q = some p → ∀ W, Below w.heap.size w W → Calls Try.prog 16 #[tyV p] W fun e w' => e = .returned (.bool p.m.t.pri.isSome) ∧ Below W.heap.size W w') := Lib.hid (fun p hp W hW => by
    have hm : p ∈ ps := List.mem_of_find?_eq_some (hq.trans hp)
    exact isLive_any p.m.t (hufo p hm) _ (tyV p) W (fun k hk => hk) (HPT.out p hm W hW))
  have HCD : Hid (∀ (v : Value) (W : World), EnSl (fun k => k < W.heap.size) W v es → Calls Try.prog 17 #[v, .string nm] W (RowRet 30 3 W (ed.map entCells))) := Lib.hid (fun v W h => by
    have h := cdrop_any es nm v W h (by omega)
    rw [hfd] at h
    exact h)
  have HCF : Hid (∀ (v : Value) (W : World), EnSl (fun k => k < W.heap.size) W v ed → Calls Try.prog 10 #[v, .string nm] W fun e w' => e = .returned (.tuple #[.agg #[.int .i64 0, .int .i64 0], .bool false]) ∧ Below W.heap.size W w') := Lib.hid (fun v W h => by
    have h := cfind_any ed nm v W h
    rw [hnod] at h
    exact h)
  have HLA : Hid (∀ (na : Option Addr) (nn nc : Nat) (v : Value) (W : World), NodeSl (fun k => k < W.heap.size) W (.slice na nn nc) ns → EnSl (fun k => k < W.heap.size) W v es → Calls Try.prog 18 #[grV na nn nc, v, .string ⟨#[]⟩] W fun en w' => en = .returned (.tuple #[.int .i64 (minF P), .bool (!P.isEmpty)]) ∧ Below W.heap.size W w') := Lib.hid (fun na nn nc v W h1 h2 => by
    have h := clowest_any ns na nn nc es ⟨#[]⟩ v W h1 (by omega) hsm hokA h2 (by omega)
    rw [hPl, lowV] at h
    exact h)
  have HLB : Hid (∀ (na : Option Addr) (nn nc : Nat) (v : Value) (W : World), NodeSl (fun k => k < W.heap.size) W (.slice na nn nc) ns → EnSl (fun k => k < W.heap.size) W v ed → Calls Try.prog 18 #[grV na nn nc, v, .string ⟨#[]⟩] W fun en w' => en = .returned (.tuple #[.int .i64 (minF Q), .bool (!Q.isEmpty)]) ∧ Below W.heap.size W w') := Lib.hid (fun na nn nc v W h1 h2 => by
    have h := clowest_any ns na nn nc ed ⟨#[]⟩ v W h1 (by omega) hsm hokD h2 (by omega)
    rw [hPd, lowV] at h
    exact h)
  have HDE : Hid (∀ (j : Nat) (e : Ent), ed[j]? = some e → 0 ≤ e.a ∧ e.a < ns.length) := Lib.hid (fun j e he => by
    have := hokD e (List.mem_of_getElem? he)
    exact ⟨this.1, by have := this.2.1; have := this; omega⟩)
  have HDEAD := Lib.hid hdead
  have HGONE := Lib.hid hgone
  have HEL := Lib.hid hel
  have HLD := Lib.hid hld
  have HDL := Lib.hid hdl
  -- letters for the numbers
  obtain ⟨fl, hfl⟩ : ∃ x, minF P = x := ⟨_, rfl⟩
  obtain ⟨fd, hfd'⟩ : ∃ x, minF Q = x := ⟨_, rfl⟩
  obtain ⟨xl, hxl⟩ : ∃ x, (!P.isEmpty) = x := ⟨_, rfl⟩
  obtain ⟨xd, hxd⟩ : ∃ x, (!Q.isEmpty) = x := ⟨_, rfl⟩
  rw [hfl, hxl] at HLA
  rw [hfd', hxd] at HLB
  rw [hfl, hfd', hxl, hxd] at hfit
  have HFIT := Lib.hid hfit
  have HDF : Hid (∀ p, q = some p → p.m.t.pri = none → fl = fd ∧ xl = xd) := Lib.hid (fun p hp hn => by
    have h := hdead p hp hn
    rw [← hfl, ← hfd', ← hxl, ← hxd, h]; exact ⟨rfl, rfl⟩)
  clear hr hf hz1 hz2 hF hel hns hsm hnl hokA hfd hzd hFd hld hPl hPd hsub hnod hfit hdead hgone hP hQ hes hed hokD hq hfl hfd' hxl hxd hdl hufo HDEAD HNS HPT hlz HPV
  go_enter Try.func5, Try.ntmps5
  go_upto_region 3 with (first | (go_at_call 7; refine (HAW.out _ (Below.refl _ _)).mono ?_; rintro en w3 ⟨rfl, hb3⟩; have HB3 := Lib.hid hb3; clear hb3) | (go_at_call 11; refine (HRT.out _ HB3.out).mono ?_; rintro en w4 ⟨rfl, hb4⟩; have HB4 := Lib.hid (below_seq HB3.out hb4); clear hb4))
  go_upto_region 4 with (go_at_call 12; go_loud (refine (HBU.out _ HB4.out).mono ?_; rintro en w6 ⟨na, nn, nc, la, ln, lc, rfl, hn6, hr6, hb6⟩; have HN6 := Lib.hid hn6; have HR6 := Lib.hid hr6; have HB6 := Lib.hid (below_seq HB4.out hb6); clear hn6 hr6 hb6))
  obtain ⟨W7, hW7⟩ : ∃ W7, w6.alloc (.cells #[.slice na nn nc] 37) = W7 := ⟨_, rfl⟩
  have hb7 : Below w6.heap.size w6 W7 := by rw [← hW7]; exact blkBelow w6 _ _
  have x7 : W7.heap[w6.heap.size]? = some (.cells #[.slice na nn nc] 37 (0, 0)) := by rw [← hW7]; exact World.alloc_heap_new _ _
  have hs7 : w6.heap.size < W7.heap.size := (Array.getElem?_eq_some_iff.1 x7).1
  have HBX := Lib.hid (fun (W : World) (hW : Below W7.heap.size W7 W) => show W.cell? ⟨w6.heap.size, 0, none⟩ = some (.slice na nn nc) from by
    have a1 : W.heap[w6.heap.size]? = _ := (hW.block _ hs7).trans x7
    simp [World.cell?, a1])
  have HB7 : Hid (Below w.heap.size w W7) := Lib.hid (below_seq HB6.out hb7)
  have HNG : Hid (∀ W, Below W7.heap.size W7 W → NodeSl (fun k => k < W.heap.size) W (.slice na nn nc) ns) := Lib.hid (fun W hW => by
    have b1 := below_seq hb7 hW
    exact (HN6.out.keep (b1.keeps'.mono (fun k hk => hk))).mono (fun k hk => Nat.lt_of_lt_of_le hk b1.size))
  have HEN : Hid (EnSl (fun k => k < W7.heap.size) W7 (.slice la ln lc) es) := Lib.hid (((HR6.out.to hb7).ents (by have := HEL.out; unfold maxLen; omega)).mono (fun k hk => hk.2))
  obtain rfl : nn = ns.length := by
    obtain ⟨_, _, _, e, hl, _⟩ := (HNG.out W7 (Below.refl _ _)).open
    simp only [Value.slice.injEq] at e
    rw [e.2.1]; exact hl.out
  have b0 := HBX.out W7 (Below.refl _ _)
  unfold grV at HLA HLB
  have HDC := Lib.hid (HCD.out _ W7 HEN.out)
  rw [hW7]
  clear hb7 x7 hs7 hW7 HN6 HR6 b0
  go_upto_region 5 with (go_at_call 17; go_loud (refine HDC.out.mono ?_; rintro en w8 ⟨ga, gn, gc, rfl, hr8, hb8⟩; have HR8 := Lib.hid hr8; have HB8 := Lib.hid hb8; clear hr8 hb8))
  have HED : Hid (∀ W, Below w8.heap.size w8 W → EnSl (fun k => k < W.heap.size) W (.slice ga gn gc) ed) := Lib.hid (fun W hW => ((HR8.out.to hW).ents (by have := HLD.out; unfold maxLen; omega)).mono (fun k hk => hk.2))
  have HFC := Lib.hid (HCF.out _ w8 (HED.out w8 (Below.refl _ _)))
  go_upto_region 6 with (go_at_call 10; go_loud (refine HFC.out.mono ?_; rintro en w9 ⟨rfl, hb9⟩; have HB9 := Lib.hid hb9; clear hb9))
  obtain ⟨W10, hW10⟩ : ∃ W10, w9.alloc (.cells #[.int .i64 0, .int .i64 0] 24) = W10 := ⟨_, rfl⟩
  have HB10 : Hid (Below w8.heap.size w8 W10) := Lib.hid (by rw [← hW10]; exact HB9.out.alloc HB9.out.size _)
  rw [hW10]
  clear hW10
  obtain ⟨hgn, hgd⟩ : gn = ed.length ∧ ∀ (j : Nat) (e : Ent), ed[j]? = some e → ∃ kb ko, ga = some ⟨kb, ko, none⟩ ∧ ∀ W, Below w8.heap.size w8 W → W.cell? ⟨kb, ko + j * 3 + 1, none⟩ = some (.int .i64 e.a) := by
    obtain ⟨pa', len', c', e, hl, _, hg⟩ := (HED.out w8 (Below.refl _ _)).open
    simp only [Value.slice.injEq] at e
    obtain ⟨rfl, rfl, rfl⟩ := e
    refine ⟨hl.out, fun j e he => ?_⟩
    obtain ⟨kb, ko, e', hkb, _, h2, _⟩ := hg j e he
    exact ⟨kb, ko, e', fun W hW => (hW.cell (p := ⟨kb, _, none⟩) hkb).trans h2⟩
  have HGN := Lib.hid hgn
  have HGD := Lib.hid hgd
  have hgn12 : gn ≤ 12 := by rw [hgn]; exact HLD.out
  clear hgn hgd
  go_wp2_with fail
  go_loopw [10] (fun i wr => ∃ j : Nat, i = .int .i64 j ∧ j ≤ gn ∧ Hid (Below w8.heap.size w8 wr)) (fun i _ => gn - (intOf i).toNat)
  case atStart => exact ⟨0, rfl, Nat.zero_le _, HB10⟩
  case round =>
    obtain ⟨j, rfl, hj, HBW⟩ := hrel
    by_cases hlt : j < gn
    · obtain ⟨e, he⟩ : ∃ e, ed[j]? = some e := ⟨_, List.getElem?_eq_getElem (by rw [← HGN.out]; exact hlt)⟩
      obtain ⟨kb, ko, rfl, hc⟩ := HGD.out j e he
      obtain ⟨h0, h1⟩ := HDE.out j e he
      have d1 := hc wr HBW.out
      have b0 := HBX.out wr (below_seq HB8.out HBW.out)
      obtain ⟨ya, hya⟩ : ∃ x, e.a = x := ⟨_, rfl⟩
      rw [hya] at d1 h0 h1
      have e0 : decide (ya < 0) = false := by simp; omega
      have e1 : decide ((ns.length : Int) ≤ ya) = false := by simp; omega
      clear he hya hc
      go_upto_region 9 with fail
      go_quiet (fail)
      go_wp2_with fail
      go_roundw
      case rel => exact ⟨j + 1, by go_num, by omega, Lib.hid (below_drewN HBW.out _)⟩
      case measure => simp [intOf]; omega
    · obtain rfl : gn = j := by omega
      have b0 := HBX.out wr (below_seq HB8.out HBW.out)
      go_upto_region 12 with (go_at_call 18; go_loud (refine (HLA.out na ns.length nc _ wr (HNG.out wr (below_seq HB8.out HBW.out)) ((HEN.out.to (below_seq HB8.out HBW.out)))).mono ?_; rintro en w11 ⟨rfl, hb11⟩; have HB11 := Lib.hid (below_seq HBW.out hb11); have b1 := HBX.out w11 (below_seq HB8.out HB11.out); clear hb11 b0))
      go_upto_region 13 with (go_at_call 18; go_loud (refine (HLB.out na ns.length nc _ w11 (HNG.out w11 (below_seq HB8.out HB11.out)) (HED.out w11 HB11.out)).mono ?_; rintro en w12 ⟨rfl, hb12⟩; have HB12 := Lib.hid (below_seq HB7.out (below_seq HB8.out (below_seq HB11.out hb12))); clear hb12 b1))
      have hln : ln = es.length := by
        obtain ⟨_, _, _, e, hl, _⟩ := HEN.out.open
        simp only [Value.slice.injEq] at e
        rw [e.2.1]; exact hl.out
      have HLN := Lib.hid hln
      clear hln
      cases q with
      | none =>
        have hge := HGONE.out rfl
        have hgl : gn = ln := by rw [HGN.out, HLN.out, hge]
        have hg1 : ((gn : Int) == (ln : Int)) = true := by rw [hgl]; simp
        have HRE := Lib.hid (HRF.out w12 HB12.out)
        rw [show pvR none = .tuple #[.agg #[.int .i64 0, .int .i64 0, .string ⟨#[]⟩, .int .i64 0, .slice none 0 0, .slice none 0 0], .bool false] from rfl] at HRE
        clear hge hgl
        go_upto_region 14 with (go_at_call 19; go_loud (refine HRE.out.mono ?_; rintro en w13 ⟨rfl, hb13⟩; have HB13 := Lib.hid (below_seq HB12.out hb13); clear hb13))
        obtain ⟨W14, hW14⟩ : ∃ W14, w13.alloc (.cells #[.int .i64 0, .int .i64 0, .string ⟨#[]⟩, .int .i64 0, .slice none 0 0, .slice none 0 0] 47) = W14 := ⟨_, rfl⟩
        have HBE : Hid (Below w.heap.size w W14) := Lib.hid (by rw [← hW14]; exact HB13.out.alloc HB13.out.size _)
        rw [hW14]
        clear hW14
        rcases HFIT.out with ⟨rfl, rfl, hle⟩ | rfl
        · have hd : decide (fl ≤ fd) = true := by simpa using hle
          go_wp2_with fail
          go_ret
          exact ⟨rfl, HBE.out⟩
        · go_wp2_with fail
          go_ret
          exact ⟨rfl, HBE.out⟩
      | some p =>
        obtain ⟨yk, hyk⟩ : ∃ x, p.m.t.k = x := ⟨_, rfl⟩
        obtain ⟨yp, hyp⟩ : ∃ x, p.m.t.p = x := ⟨_, rfl⟩
        obtain ⟨yn, hyn⟩ : ∃ x, p.m.t.n = x := ⟨_, rfl⟩
        obtain ⟨ys, hys⟩ : ∃ x, p.m.t.s = x := ⟨_, rfl⟩
        have HTV : Hid (tyV p = .agg #[.int .i64 yk, .int .i64 yp, .string yn, .int .i64 ys, .slice p.la p.ln p.lc, .slice p.ka p.kn p.kc]) := Lib.hid (by rw [tyV, hyk, hyp, hyn, hys])
        have HRE := Lib.hid (HRF.out w12 HB12.out)
        have HIS := Lib.hid (HIL.out p rfl)
        rw [show pvR (some p) = .tuple #[tyV p, .bool true] from rfl, HTV.out] at HRE
        rw [HTV.out] at HIS
        obtain ⟨pr, hpr⟩ : ∃ x, p.m.t.pri = x := ⟨_, rfl⟩
        have HDP := Lib.hid (HDF.out p rfl)
        rw [hpr] at HIS HDP
        clear hyk hyp hyn hys hpr
        go_upto_region 14 with (go_at_call 19; go_loud (refine HRE.out.mono ?_; rintro en w13 ⟨rfl, hb13⟩; have HB13 := Lib.hid (below_seq HB12.out hb13); clear hb13))
        obtain ⟨W14, hW14⟩ : ∃ W14, w13.alloc (.cells #[.int .i64 yk, .int .i64 yp, .string yn, .int .i64 ys, .slice p.la p.ln p.lc, .slice p.ka p.kn p.kc] 47) = W14 := ⟨_, rfl⟩
        have HB14 : Hid (Below w.heap.size w W14) := Lib.hid (by rw [← hW14]; exact HB13.out.alloc HB13.out.size _)
        have x1 : Six W14 w13.heap.size (.int .i64 yk) (.int .i64 yp) (.string yn) (.int .i64 ys) (.slice p.la p.ln p.lc) (.slice p.ka p.kn p.kc) := by rw [← hW14]; exact Six.new _ _ _ _ _ _ _
        obtain ⟨⟨z0, z1, z2, z3, z4, z5⟩, _⟩ := x1.cells
        have HIC := Lib.hid (HIS.out W14 HB14.out)
        rw [hW14]
        clear hW14 x1
        cases pr with
        | none =>
          have hxx := (HDP.out rfl).2
          have hff := (HDP.out rfl).1
          subst hxx hff
          have n1 : (fl != fl) = false := by simp
          have n2 : (xl != xl) = false := by simp
          rcases HFIT.out with ⟨rfl, _, hle⟩ | rfl
          · have hd : decide (fl ≤ fl) = true := by simp
            go_upto_region 16 with (go_at_call 16; go_loud (refine HIC.out.mono ?_; rintro en w15 ⟨rfl, hb15⟩; have HBE := Lib.hid (below_seq HB14.out hb15); clear hb15))
            go_wp2_with fail
            go_ret
            exact ⟨rfl, HBE.out⟩
          · go_upto_region 16 with (go_at_call 16; go_loud (refine HIC.out.mono ?_; rintro en w15 ⟨rfl, hb15⟩; have HBE := Lib.hid (below_seq HB14.out hb15); clear hb15))
            go_wp2_with fail
            go_ret
            exact ⟨rfl, HBE.out⟩
        | some r =>
          rcases HFIT.out with ⟨rfl, rfl, hle⟩ | rfl
          · have hd : decide (fl ≤ fd) = true := by simpa using hle
            go_upto_region 16 with (go_at_call 16; go_loud (refine HIC.out.mono ?_; rintro en w15 ⟨rfl, hb15⟩; have HBE := Lib.hid (below_seq HB14.out hb15); clear hb15))
            go_wp2_with fail
            go_ret
            exact ⟨rfl, HBE.out⟩
          · go_upto_region 16 with (go_at_call 16; go_loud (refine HIC.out.mono ?_; rintro en w15 ⟨rfl, hb15⟩; have HBE := Lib.hid (below_seq HB14.out hb15); clear hb15))
            go_wp2_with fail
            go_ret
            exact ⟨rfl, HBE.out⟩
theorem ContextDropsV (ms : List Pm) (v : Value) (nm : ByteArray) (w : World) (hk : PmSl (fun k => k < w.heap.size) w v ms) (hlen : ∀ (pa : Option Addr) (len c : Nat), v = .slice pa len c → len * 88 ≤ 140737488355328) (_hn : nm.size ≤ maxLen) :
    Calls Try.prog 5 #[v, .string nm] w fun e w' => e = .returned (.bool true) ∧ Below w.heap.size w w' := by
  obtain ⟨pa, len, c, ps, rfl, hmx, _, hp⟩ := hk.pv
  exact ContextDropsW ps nm pa len c w hp (hlen _ _ _ rfl) hmx
end Go.Proofs.Yticdkbcfahjpnaa
