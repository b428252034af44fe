/- Parsing: lemmas. -/
import Derived.Test.YtejaboajgecpaaaGreatDoorQm37
set_option maxHeartbeats 16000000
set_option maxRecDepth 100000
namespace Go.Proofs.YtejaboajgecpaaaGreatDoor
abbrev preL : List UInt8 := [109, 97, 105, 110, 32, 61, 32]
theorem ba_eq {a b : ByteArray} (h : (a.toList == b.toList) = true) : a = b := by
 have h : a.toList = b.toList := by simpa using h
 rw [Lib.toList_data, Lib.toList_data] at h
 obtain ⟨⟨l⟩⟩ := a
 obtain ⟨⟨m⟩⟩ := b
 obtain rfl : l = m := h
 rfl
theorem shift_tk (d : Nat) (x : Tok.Item) : (tkOf (Tok.shift d x)).k = (tkOf x).k /\ (tkOf (Tok.shift d x)).t = (tkOf x).t /\ (tkOf (Tok.shift d x)).v = (tkOf x).v /\ (Tok.shift d x).e = x.e := by
 unfold Tok.shift
 split <;> exact ⟨rfl, rfl, rfl, rfl⟩
theorem main_items (X : List UInt8) : ∃ m1 m2 : Tok.Item, m1.t = sMain /\ m1.e = 0 /\ m2.t = sEq /\ m2.e = 0 /\
 Tok.items ((preL ++ X).length + 1) (preL ++ X) (Lx.skipG false (preL ++ X)) = m1 :: m2 :: (Tok.items (X.length + 1) X (Lx.skipG false X)).map (Tok.shift 7) := by
 have hl : (preL ++ X).length = X.length + 7 := by simp
 have h0 : Lx.skipG false (preL ++ X) = 0 := by kernel_rfl
 have t1 : Lx.tokL ((preL ++ X).drop 0) = .inr (1, sMain.size, 0) := by kernel_rfl
 have x1 : sMain = Tok.txt (((preL ++ X).drop 0).take sMain.size) := by kernel_rfl
 have p1 : 0 + sMain.size + Lx.skipG false ((preL ++ X).drop (0 + sMain.size)) = 5 := by kernel_rfl
 have t2 : Lx.tokL ((preL ++ X).drop 5) = .inr (3, sEq.size, 0) := by kernel_rfl
 have x2 : sEq = Tok.txt (((preL ++ X).drop 5).take sEq.size) := by kernel_rfl
 have p2 : 5 + sEq.size + Lx.skipG false ((preL ++ X).drop (5 + sEq.size)) = preL.length + Lx.skipG false X := by
  rw [show (preL ++ X).drop (5 + sEq.size) = 32 :: X by kernel_rfl, Lx.skipG_blank _ _ (by decide)]
  show 5 + 1 + (1 + _) = 7 + _
  omega
 refine ⟨⟨1, sMain, 0, (0 : Nat), 0, 0⟩, ⟨3, sEq, 0, (5 : Nat), 0, 0⟩, rfl, rfl, rfl, rfl, ?_⟩
 rw [h0, hl, Tok.items_tok _ _ _ (by rw [hl]; omega) 1 sMain 0 t1 x1, p1, Tok.items_tok _ _ _ (by rw [hl]; omega) 3 sEq 0 t2 x2, p2, Tok.items_shift]
 rw [Tok.items_fuel (X.length + 6) (X.length + 1) X _ (by omega) (by omega)]
 rfl
theorem items_sub : ∀ (f : Nat) (L : List UInt8) (a : Nat) (x : Tok.Item), x ∈ Tok.items f L a -> ∀ b ∈ x.t.data.toList, b ∈ L
 | 0, _, _, _, h => by cases h
 | f + 1, L, a, x, h => by
  rw [Tok.items] at h
  split at h
  ·split at h
   ·rw [List.mem_singleton.1 h]; intro b hb; cases hb
   ·rcases List.mem_cons.1 h with rfl | h
    ·intro b hb
     exact List.mem_of_mem_drop (List.mem_of_mem_take (show b ∈ List.take _ (List.drop a L) from hb))
    ·exact items_sub f L _ x h
  ·cases h
theorem main_scans (s s' : ByteArray) (hs : s'.data.toList = preL ++ (s.data.toList ++ [10, 59])) (h3 : s.size <= 3000) (h59 : (59 : UInt8) ∉ s.data.toList) (r : List Tok.Item ⊕ (Int × Int)) (hr : Scans s r) :
 (∃ e p p', r = .inr (e, p) /\ Scans s' (.inr (e, p'))) \/ ∃ I m1 m2 J, r = .inl I /\ Scans s' (.inl (m1 :: m2 :: J)) /\ m1.t = sMain /\ m2.t = sEq /\ Sim (I.map tkOf) (J.map tkOf) := by
 have hsz : s'.size = s.size + 9 := by
  have h1 : s'.data.toList.length = s'.size := rfl
  have h2 : s.data.toList.length = s.size := rfl
  rw [<- h1, hs]; simp
 obtain ⟨m1, m2, e1, e2, e3, e4, hit⟩ := main_items (s.data.toList ++ [10, 59])
 have hI : its s' = m1 :: m2 :: (Tok.joinI (its s) [Tok.shift (s.data.toList.length + 1) ⟨3, sSemi, 0, (0 : Nat), 0, 0⟩]).map (Tok.shift 7) := by
  unfold its
  have hl : s'.size = s'.data.toList.length := rfl
  rw [hl, hs, hit]
  rw [show s.data.toList ++ [10, 59] = s.data.toList ++ 10 :: ([59] : List UInt8) from rfl, Tok.items_pair]
  rw [show Tok.items (([59] : List UInt8).length + 1) ([59] : List UInt8) (Lx.skipG false ([59] : List UInt8)) = [⟨3, sSemi, 0, (0 : Nat), 0, 0⟩] by kernel_rfl]
  rfl
 match r, hr with
 | .inr (e, p), hr =>
  rcases hr with ⟨hl, _⟩ | ⟨_, q, x, hx, he, hp, hne⟩
  ·omega
  ·refine .inl ⟨e, p, (Tok.shift 7 x).p, rfl, .inr ⟨by omega, m1 :: m2 :: q.map (Tok.shift 7), Tok.shift 7 x, ?_, ?_, rfl, ?_⟩⟩
   ·rw [hI, hx, Tok.joinI_bad q _ x hne]; simp
   ·rw [(shift_tk 7 x).2.2.2]; exact he
   ·rw [(shift_tk 7 x).2.2.2]; exact hne
 | .inl I, hr =>
  obtain ⟨_, hI0, hok⟩ := hr
  refine .inr ⟨I, m1, m2, (I ++ [Tok.shift (s.data.toList.length + 1) ⟨3, sSemi, 0, (0 : Nat), 0, 0⟩]).map (Tok.shift 7), rfl, ⟨by omega, ?_, ?_⟩, e1, e3, ?_⟩
  ·rw [hI, hI0, Tok.joinI_ok _ _ hok]
  ·intro x hx
   rcases List.mem_cons.1 hx with rfl | hx
   ·exact e2
   rcases List.mem_cons.1 hx with rfl | hx
   ·exact e4
   obtain ⟨y, hy, rfl⟩ := List.mem_map.1 hx
   rw [(shift_tk 7 y).2.2.2]
   rcases List.mem_append.1 hy with h | h
   ·exact hok y h
   ·rw [List.mem_singleton.1 h, (shift_tk _ _).2.2.2]
  ·have hsemi : ∀ x ∈ I, ((tkOf x).t.toList == sSemi.toList) = false := by
    intro x hx
    cases hh : ((tkOf x).t.toList == sSemi.toList) with
    | false => rfl
    | true =>
     have h := ba_eq hh
     rw [<- hI0] at hx
     exact absurd (items_sub _ _ _ x hx 59 (by rw [show x.t = sSemi from h]; simp)) h59
   clear hI hI0 hok
   induction I with
   | nil =>
    show Sim [] [_]
    refine ⟨?_, ?_⟩
    ·rw [(shift_tk _ _).2.1, (shift_tk _ _).2.1]; rfl
    ·rw [(shift_tk _ _).1, (shift_tk _ _).1]; rfl
   | cons x I ih =>
    have a := shift_tk 7 x
    exact ⟨hsemi x (by simp), a.1.symm, a.2.1.symm, a.2.2.1.symm, ih (fun y hy => hsemi y (by simp [hy]))⟩
theorem main_whole (s s' : ByteArray) (I : List Tok.Item) (m1 m2 : Tok.Item) (J : List Tok.Item) (h1 : m1.t = sMain) (h2 : m2.t = sEq) (h : Sim (I.map tkOf) (J.map tkOf)) :
 match wholeE fProc bigP s (.inl I) with
 | .inr (e, _) => e ≠ 0 /\ ∃ p, wholeE fProg Pg.tooBig s' (.inl (m1 :: m2 :: J)) = .inr (e, p)
 | .inl x => wholeE fProg Pg.tooBig s' (.inl (m1 :: m2 :: J)) = .inl ⟨[], x⟩ := by
 obtain ⟨ts, hts⟩ := ex1 (I.map tkOf)
 obtain ⟨us, hus⟩ := ex1 (J.map tkOf)
 rw [hts, hus] at h
 have hlen : us.length = ts.length + 1 := by
  clear hts hus
  induction ts generalizing us with
  | nil => obtain ⟨e, rfl, _⟩ := sim_nil h; rfl
  | cons x r ih => obtain ⟨y, q, rfl, _, _, _, h⟩ := sim_cons h; simp [ih q h]
 have hp : fProg (tkOf m1 :: tkOf m2 :: us) = (pproc nameB (2 * (us.length + 2) + 8) us).bind fun p r => (need sSemi r).bind fun _ r => .ok ⟨[], p⟩ r := by
  have hd1 : hd sDef (tkOf m1 :: tkOf m2 :: us) = false := by show (m1.t.toList == _) = false; rw [h1]; decide +kernel
  have hd2 : hd sMain (tkOf m1 :: tkOf m2 :: us) = true := by show (m1.t.toList == _) = true; rw [h1]; simp
  have hd3 : hd sEq (tkOf m2 :: us) = true := by show (m2.t.toList == _) = true; rw [h2]; simp
  show pprog nameB (2 * (us.length + 2) + 8) (tkOf m1 :: tkOf m2 :: us) = _
  rw [pprog, show 2 * (us.length + 2) + 8 = (2 * us.length + 11) + 1 by omega, pdefs, if_neg (by rw [hd1]; simp)]
  show (need sMain (tkOf m1 :: tkOf m2 :: us)).bind _ = _
  unfold need
  rw [if_pos hd2]
  show (pbody nameB _ (tkOf m2 :: us)).bind _ = _
  unfold pbody need
  rw [if_pos hd3]
  show ((pproc nameB _ us).bind _).bind _ = _
  cases pproc nameB (2 * us.length + 11 + 1) us with
  | bad e r => rfl
  | ok x r =>
   show ((if hd sSemi r = true then (PR.ok () r.tail) else .bad 1 r).bind _).bind _ = (if hd sSemi r = true then (PR.ok () r.tail) else .bad 1 r).bind _
   cases hd sSemi r <;> rfl
 have hsm := sim_proc (2 * ts.length + 8) (2 * (us.length + 2) + 8) ts.length (by omega) (by omega) ts us h (Nat.le_refl _)
 have hm : (m1 :: m2 :: J).map tkOf = tkOf m1 :: tkOf m2 :: us := by rw [<- hus]; rfl
 unfold wholeE
 dsimp only
 rw [hts, hm]
 unfold pfin
 rw [hp]
 rw [show fProc ts = pproc nameB (2 * ts.length + 8) ts from rfl]
 cases hA : pproc nameB (2 * ts.length + 8) ts with
 | bad e r =>
  rw [hA] at hsm
  cases hB : pproc nameB (2 * (us.length + 2) + 8) us with
  | ok y q => rw [hB] at hsm; exact hsm.elim
  | bad e' q =>
   rw [hB] at hsm
   obtain ⟨rfl, hne⟩ := hsm
   exact ⟨hne, _, rfl⟩
 | ok x r =>
  rw [hA] at hsm
  cases hB : pproc nameB (2 * (us.length + 2) + 8) us with
  | bad e' q => rw [hB] at hsm; exact hsm.elim
  | ok y q =>
   rw [hB] at hsm
   obtain ⟨rfl, hs, _⟩ := hsm
   cases r with
   | nil =>
    obtain ⟨e, rfl, he, _⟩ := sim_nil hs
    have hh : hd sSemi [e] = true := by show (e.t.toList == _) = true; rw [he]; simp
    dsimp only [PR.bind, need]
    rw [if_pos hh]
    dsimp only
    rw [if_pos rfl, if_pos (show [e].tail = [] from rfl)]
    rw [show bigP x = Pg.tooBig ⟨[], x⟩ from rfl]
    cases Pg.tooBig ⟨[], x⟩ with
    | true => exact ⟨by decide, _, rfl⟩
    | false => rfl
   | cons z r =>
    have hz := sim_semi hs
    obtain ⟨y, q2, rfl, _, ht, _⟩ := sim_cons hs
    have hh : ¬ hd sSemi (y :: q2) = true := by show ¬ (y.t.toList == _) = true; rw [<- ht, hz]; simp
    dsimp only [PR.bind, need]
    rw [if_neg hh, if_neg (by simp)]
    exact ⟨by decide, _, rfl⟩
end Go.Proofs.YtejaboajgecpaaaGreatDoor
namespace Go.Proofs.YtejaboajgecpaaaGreatDoor
open Go.Lib (hid)
open Go.RowKit Go.Deep Go.Shelf
theorem ptexts_any (B : Nat -> Prop) (v v' : Value) (ls ls' : List ByteArray) (w : World) (h : StrSl B w v ls) (h' : StrSl B w v' ls') :
 Calls Tryz.prog 34 #[v, v'] w fun e w' => e = .returned (.bool (decide (ls = ls'))) /\ Drew w w' := by
 obtain ⟨pa, len, c, rfl, hlen, hm, hget⟩ := h.open
 obtain ⟨pa', len', c', rfl, hlen', hm', hget'⟩ := h'.open
 have HG := hid hget
 have HG' := hid hget'
 clear hget hget' h h'
 by_cases hl : len = len'
 ·subst hl
  go_enter Tryz.func34, Tryz.ntmps34
  go_wp2_with fail
  go_loopw [5] (fun i wr => ∃ (j : Nat), i = .int .i64 j /\ j <= len /\ Hid (ls.take j = ls'.take j) /\ Drew w wr) (fun i _ => len - (intOf i).toNat)
  case atStart => exact ⟨0, rfl, by omega, hid (by simp), Drew.refl _⟩
  case round =>
   obtain ⟨j, rfl, hj, HT, hd⟩ := hrel
   by_cases hlt : j < len
   ·obtain ⟨s, hs⟩ : ∃ s, ls[j]? = some s := ⟨_, List.getElem?_eq_getElem (by rw [<- hlen.out]; exact hlt)⟩
    obtain ⟨s', hs'⟩ : ∃ s', ls'[j]? = some s' := ⟨_, List.getElem?_eq_getElem (by rw [<- hlen'.out]; exact hlt)⟩
    obtain ⟨_, kb, ko, rfl, hkb, hc⟩ := HG.out j s hs
    obtain ⟨_, kb', ko', rfl, hkb', hc'⟩ := HG'.out j s' hs'
    replace hc : wr.cell? ⟨kb, ko + j, none⟩ = some (.string s) := by obtain ⟨m, rfl⟩ := hd; exact hc
    replace hc' : wr.cell? ⟨kb', ko' + j, none⟩ = some (.string s') := by obtain ⟨m, rfl⟩ := hd; exact hc'
    by_cases hss : s = s'
    ·subst hss
     have hn : Hid (ls.take (j + 1) = ls'.take (j + 1)) := hid (by rw [take_snoc_get hs, take_snoc_get hs', HT.out])
     clear hs hs'
     go_wp2_with fail
     go_quiet (fail)
     go_wp2_with fail
     go_roundw
     case rel => exact ⟨j + 1, by go_num, by omega, hn, hd.more _⟩
     case measure => simp [intOf]; omega
    ·have hne : Hid (ls ≠ ls') := hid (fun e => hss (by rw [e, hs'] at hs; exact (Option.some.inj hs).symm))
     have hb1 := str_ne hss
     have hb2 : (s.toList == s'.toList) = false := by simpa using hb1
     clear hs hs' hss
     go_wp2_with fail
     go_quiet (fail)
     go_wp2_with fail
     go_ret
     exact ⟨ret_bool (by simp [hne.out]), hd.more _⟩
   ·obtain rfl : j = len := by omega
    go_wp2_with fail
    go_ret
    refine ⟨ret_bool ?_, hd⟩
    have := HT.out
    rw [List.take_of_length_le (by rw [hlen.out]; exact Nat.le_refl _), List.take_of_length_le (by rw [hlen'.out]; exact Nat.le_refl _)] at this
    simp [this]
 ·have hl' : (len != len') = true := by simpa using hl
  have hne : ls ≠ ls' := fun e => hl (by rw [hlen.out, hlen'.out, e])
  have HN := hid hne
  clear hne
  go_enter Tryz.func34, Tryz.ntmps34
  go_wp2_with fail
  go_ret
  exact ⟨ret_bool (by simp [HN.out]), Drew.refl _⟩
def RSameP (B : Nat -> Prop) (p : Pr) : Prop := ∀ (q : Pr) (v v' : Value) (w : World), Low B w -> PrVal B w v p -> PrVal B w v' q -> Calls Tryz.prog 15 #[v, v'] w fun e w' => e = .returned (.bool (eqP p q)) /\ Below w.heap.size w w'
abbrev wb2 (w : World) (p q : Pr) (la : Option Addr) (ln lc : Nat) (aa : Option Addr) (an ac : Nat) (ta : Option Addr) (tn tc : Nat) (ua : Option Addr) (un uc : Nat) (ka : Option Addr) (kn kc : Nat) (la' : Option Addr) (ln' lc' : Nat) (aa' : Option Addr) (an' ac' : Nat) (ta' : Option Addr) (tn' tc' : Nat) (ua' : Option Addr) (un' uc' : Nat) (ka' : Option Addr) (kn' kc' : Nat) : World :=
 (w.alloc (cell12 p (.slice la ln lc) (.slice aa an ac) (.slice ta tn tc) (.slice ua un uc) (.slice ka kn kc))).alloc (cell12 q (.slice la' ln' lc') (.slice aa' an' ac') (.slice ta' tn' tc') (.slice ua' un' uc') (.slice ka' kn' kc'))
theorem rpsame_step (B : Nat -> Prop) (p q : Pr) (ih : ∀ u ∈ p.ps, RSameP B u) (v v' : Value) (w : World) (hB : Low B w) (hv : PrVal B w v p) (hv' : PrVal B w v' q) :
 Calls Tryz.prog 15 #[v, v'] w fun e w' => e = .returned (.bool (eqP p q)) /\ Below w.heap.size w w' := by
 obtain ⟨lv, av, tl, tk, kv, rfl, _, hl, ha, ht, hk⟩ := hv
 obtain ⟨lv', av', tl', tk', kv', rfl, _, hl', ha', ht', hk'⟩ := hv'
 obtain ⟨ka, kn, kc, rfl, hkn, hkm, hkg⟩ := hk.open
 obtain ⟨ka', kn', kc', rfl, hkn', hkm', hkg'⟩ := hk'.open
 obtain ⟨aa, an, ac, rfl, han, ham, hag⟩ := ha.open
 obtain ⟨aa', an', ac', rfl, han', ham', hag'⟩ := ha'.open
 obtain ⟨la, ln, lc, rfl, _⟩ := hl.open
 obtain ⟨la', ln', lc', rfl, _⟩ := hl'.open
 obtain ⟨⟨ta, tn, tc, rfl⟩, ua, un, uc, rfl⟩ := slices_of ht
 obtain ⟨⟨ta', tn', tc', rfl⟩, ua', un', uc', rfl⟩ := slices_of ht'
 have hb0 : Below w.heap.size w ((w.alloc (cell12 p (.slice la ln lc) (.slice aa an ac) (.slice ta tn tc) (.slice ua un uc) (.slice ka kn kc))).alloc (cell12 q (.slice la' ln' lc') (.slice aa' an' ac') (.slice ta' tn' tc') (.slice ua' un' uc') (.slice ka' kn' kc'))) := box2_below w _ _
 obtain ⟨b1, hb1⟩ : ∃ x, decide (p.ls = q.ls) = x := ⟨_, rfl⟩
 obtain ⟨b2, hb2⟩ : ∃ x, eqV p.vs q.vs = x := ⟨_, rfl⟩
 obtain ⟨b3, hb3⟩ : ∃ x, eqB p.t q.t = x := ⟨_, rfl⟩
 obtain ⟨b4, hb4⟩ : ∃ x, eqQ p.ps q.ps = x := ⟨_, rfl⟩
 have HEQ : Hid (eqP p q = (decide (p.k = q.k) && (decide (p.c = q.c) && (decide (p.x = q.x) && (b1 && (b2 && (b3 && b4))))))) := hid (by
  rw [<- hb1, <- hb2, <- hb3, <- hb4, Bool.eq_iff_iff]
  simp only [eqP_true, Bool.and_eq_true, decide_eq_true_eq, eqV_true, eqB_true, eqQ_true]
  cases p; cases q
  simp only [Pr.mk.injEq, Pr.k, Pr.c, Pr.x, Pr.ls, Pr.vs, Pr.t, Pr.ps])
 have HT : Hid (Calls Tryz.prog 34 #[.slice la ln lc, .slice la' ln' lc'] ((w.alloc (cell12 p (.slice la ln lc) (.slice aa an ac) (.slice ta tn tc) (.slice ua un uc) (.slice ka kn kc))).alloc (cell12 q (.slice la' ln' lc') (.slice aa' an' ac') (.slice ta' tn' tc') (.slice ua' un' uc') (.slice ka' kn' kc'))) fun e w' => e = .returned (.bool b1) /\ Below ((w.alloc (cell12 p (.slice la ln lc) (.slice aa an ac) (.slice ta tn tc) (.slice ua un uc) (.slice ka kn kc))).alloc (cell12 q (.slice la' ln' lc') (.slice aa' an' ac') (.slice ta' tn' tc') (.slice ua' un' uc') (.slice ka' kn' kc'))).heap.size ((w.alloc (cell12 p (.slice la ln lc) (.slice aa an ac) (.slice ta tn tc) (.slice ua un uc) (.slice ka kn kc))).alloc (cell12 q (.slice la' ln' lc') (.slice aa' an' ac') (.slice ta' tn' tc') (.slice ua' un' uc') (.slice ka' kn' kc'))) w') := hid ((ptexts_any B _ _ _ _ _ (hl.keep (hb0.keeps'.mono hB)) (hl'.keep (hb0.keeps'.mono hB))).mono fun e w' ⟨h1, h2⟩ => ⟨by rw [h1, hb1], h2.below _⟩)
 have HY : Hid (∀ W, Below w.heap.size w W -> Calls Tryz.prog 18 #[.agg #[.int .i64 p.t.k, .int .i64 p.t.p, .string p.t.n, .int .i64 p.t.s, .slice ta tn tc, .slice ua un uc], .agg #[.int .i64 q.t.k, .int .i64 q.t.p, .string q.t.n, .int .i64 q.t.s, .slice ta' tn' tc', .slice ua' un' uc']] W fun e w' => e = .returned (.bool b3) /\ Below W.heap.size W w') := hid (fun W hW => by
  rw [<- hb3]; exact rsame_any B p.t q.t _ _ W (hB.le hW.size) (ht.keep (hW.keeps'.mono hB)) (ht'.keep (hW.keeps'.mono hB)))
 have HV1 : Hid (an ≠ an' -> b2 = false) := hid (fun h => by rw [<- hb2]; exact eqV_ne (fun e => h (by rw [han.out, han'.out, e])))
 have HV2 : Hid (an = an' -> p.vs.take an = q.vs.take an -> b2 = true) := hid (fun h h2 => by rw [<- hb2]; exact eqV_true.2 (lists_eq han.out (h.trans han'.out) h2))
 have HV3 : Hid (∀ (j : Nat) (s s' : Vl), p.vs[j]? = some s -> q.vs[j]? = some s' -> s ≠ s' -> b2 = false) := hid (fun j s s' h h' hn => by rw [<- hb2]; exact eqV_ne (fun e => hn (by rw [e, h'] at h; exact (Option.some.inj h).symm)))
 have HK1 : Hid (kn ≠ kn' -> b4 = false) := hid (fun h => by rw [<- hb4]; exact eqQ_ne (fun e => h (by rw [hkn.out, hkn'.out, e])))
 have HK2 : Hid (kn = kn' -> p.ps.take kn = q.ps.take kn -> b4 = true) := hid (fun h h2 => by rw [<- hb4]; exact eqQ_true.2 (lists_eq hkn.out (h.trans hkn'.out) h2))
 have HK3 : Hid (∀ (j : Nat) (s s' : Pr), p.ps[j]? = some s -> q.ps[j]? = some s' -> s ≠ s' -> b4 = false) := hid (fun j s s' h h' hn => by rw [<- hb4]; exact eqQ_ne (fun e => hn (by rw [e, h'] at h; exact (Option.some.inj h).symm)))
 have HIH := hid ih
 have HGV := hid hag
 have HGV' := hid hag'
 have HGK := hid hkg
 have HGK' := hid hkg'
 have HB0 := hid hb0
 rw [HEQ.out]
 clear HEQ hb1 hb2 hb3 hb4 hl ha ht hk hl' ha' ht' hk' hag hag' hkg hkg' ih hb0
 unfold prAgg
 by_cases h1 : p.k = q.k
 ·have h1' : (p.k != q.k) = false := by simp [h1]
  rw [show decide (p.k = q.k) = true by simpa using h1, Bool.true_and]
  by_cases h2 : p.c = q.c
  ·have h2' : (p.c.toList != q.c.toList) = false := by simp [h2]
   have h2e : (p.c.toList == q.c.toList) = true := by simp [h2]
   rw [show decide (p.c = q.c) = true by simpa using h2, Bool.true_and]
   by_cases h3 : p.x = q.x
   ·have h3' : (p.x.toList != q.x.toList) = false := by simp [h3]
    have h3e : (p.x.toList == q.x.toList) = true := by simp [h3]
    rw [show decide (p.x = q.x) = true by simpa using h3, Bool.true_and]
    clear h1 h2 h3
    cases b1
    ·rw [Bool.false_and]
     go_enter Tryz.func15, Tryz.ntmps15
     go_wp2_with fail
     refine HT.out.mono ?_
     rintro e w1 ⟨rfl, g1⟩
     go_wp2_with fail
     go_ret
     exact ⟨rfl, below_seq HB0.out g1⟩
    ·rw [Bool.true_and]
     by_cases h4 : an = an'
     ·subst h4
      cases b3
      ·rw [Bool.false_and, Bool.and_false]
       go_enter Tryz.func15, Tryz.ntmps15
       go_wp2_with fail
       refine HT.out.mono ?_
       rintro e w1 ⟨rfl, g1⟩
       have gb : Below (w.heap.size + 2) (wb2 w p q la ln lc aa an ac ta tn tc ua un uc ka kn kc la' ln' lc' aa' an ac' ta' tn' tc' ua' un' uc' ka' kn' kc') w1 := g1.mono (by simp)
       have c4 := box2_fst gb 4 rfl
       have c4' := box2_snd gb 4 rfl
       have c5 := box2_fst gb 5 rfl
       have c5' := box2_snd gb 5 rfl
       have c6 := box2_fst gb 6 rfl
       have c6' := box2_snd gb 6 rfl
       have c7 := box2_fst gb 7 rfl
       have c7' := box2_snd gb 7 rfl
       have c8 := box2_fst gb 8 rfl
       have c8' := box2_snd gb 8 rfl
       have c9 := box2_fst gb 9 rfl
       have c9' := box2_snd gb 9 rfl
       have c10 := box2_fst gb 10 rfl
       have c10' := box2_snd gb 10 rfl
       go_wp2_with fail
       clear c4 c4' c5 c5' c6 c6' c7 c7' c8 c8' c9 c9' c10 c10'
       refine (HY.out _ (box2_low gb)).mono ?_
       rintro e w2 ⟨rfl, g2⟩
       go_wp2_with fail
       go_ret
       exact ⟨rfl, below_seq (box2_low gb) g2⟩
      ·rw [Bool.true_and]
       by_cases h5 : kn = kn'
       ·subst h5
        go_enter Tryz.func15, Tryz.ntmps15
        go_wp2_with fail
        refine HT.out.mono ?_
        rintro e w1 ⟨rfl, g1⟩
        have gb : Below (w.heap.size + 2) (wb2 w p q la ln lc aa an ac ta tn tc ua un uc ka kn kc la' ln' lc' aa' an ac' ta' tn' tc' ua' un' uc' ka' kn kc') w1 := g1.mono (by simp)
        have c4 := box2_fst gb 4 rfl
        have c4' := box2_snd gb 4 rfl
        have c5 := box2_fst gb 5 rfl
        have c5' := box2_snd gb 5 rfl
        have c6 := box2_fst gb 6 rfl
        have c6' := box2_snd gb 6 rfl
        have c7 := box2_fst gb 7 rfl
        have c7' := box2_snd gb 7 rfl
        have c8 := box2_fst gb 8 rfl
        have c8' := box2_snd gb 8 rfl
        have c9 := box2_fst gb 9 rfl
        have c9' := box2_snd gb 9 rfl
        have c10 := box2_fst gb 10 rfl
        have c10' := box2_snd gb 10 rfl
        go_wp2_with fail
        clear c4 c4' c5 c5' c6 c6' c7 c7' c8 c8' c9 c9' c10 c10'
        refine (HY.out _ (box2_low gb)).mono ?_
        rintro e w2 ⟨rfl, g2⟩
        have gc : Below (w.heap.size + 2) (wb2 w p q la ln lc aa an ac ta tn tc ua un uc ka kn kc la' ln' lc' aa' an ac' ta' tn' tc' ua' un' uc' ka' kn kc') w2 := gb.trans (g2.mono (by have := gb.size; simp at this; omega))
        have c11 := box2_fst gc 11 rfl
        have c11' := box2_snd gc 11 rfl
        go_wp2_with fail
        clear c11 c11' HT HY g1 g2
        have GC := hid gc
        clear gb gc
        go_loopw [5] (fun i wr => ∃ (j : Nat), i = .int .i64 j /\ j <= an /\ Hid (p.vs.take j = q.vs.take j) /\ Below (w.heap.size + 2) (wb2 w p q la ln lc aa an ac ta tn tc ua un uc ka kn kc la' ln' lc' aa' an ac' ta' tn' tc' ua' un' uc' ka' kn kc') wr) (fun i _ => an - (intOf i).toNat)
        case atStart => exact ⟨0, rfl, by omega, hid (by simp), GC.out⟩
        case round =>
         obtain ⟨j, rfl, hj, HTK, hb⟩ := hrel
         have c4 := box2_fst hb 4 rfl
         have c4' := box2_snd hb 4 rfl
         have hw := box2_low hb
         by_cases hlt : j < an
         ·obtain ⟨s, hs⟩ : ∃ s, p.vs[j]? = some s := ⟨_, List.getElem?_eq_getElem (by rw [<- han.out]; exact hlt)⟩
          obtain ⟨s', hs'⟩ : ∃ s', q.vs[j]? = some s' := ⟨_, List.getElem?_eq_getElem (by rw [<- han'.out]; exact hlt)⟩
          obtain ⟨_, kb, ko, rfl, hkb, hc⟩ := HGV.out j s hs
          obtain ⟨_, kb', ko', rfl, hkb', hc'⟩ := HGV'.out j s' hs'
          have e0 := (hw.cell (p := ⟨kb, _, none⟩) (hB kb hkb)).trans hc.1
          have e1 := (hw.cell (p := ⟨kb, _, none⟩) (hB kb hkb)).trans hc.2.1
          have e2 := (hw.cell (p := ⟨kb, _, none⟩) (hB kb hkb)).trans hc.2.2
          have e0' := (hw.cell (p := ⟨kb', _, none⟩) (hB kb' hkb')).trans hc'.1
          have e1' := (hw.cell (p := ⟨kb', _, none⟩) (hB kb' hkb')).trans hc'.2.1
          have e2' := (hw.cell (p := ⟨kb', _, none⟩) (hB kb' hkb')).trans hc'.2.2
          clear hc hc'
          by_cases hss : s = s'
          ·subst hss
           have hn : Hid (p.vs.take (j + 1) = q.vs.take (j + 1)) := hid (by rw [take_snoc_get hs, take_snoc_get hs', HTK.out])
           clear hs hs'
           go_wp2_with fail
           go_quiet (fail)
           go_wp2_with fail
           go_roundw
           case rel => exact ⟨j + 1, by go_num, by omega, hn, below_drewN hb _⟩
           case measure => simp [intOf]; omega
          ·have HF := hid (HV3.out j s s' hs hs' hss)
           clear hs hs'
           obtain ⟨k, n, x⟩ := s
           obtain ⟨k', n', x'⟩ := s'
           simp only at e0 e1 e2 e0' e1' e2'
           by_cases z1 : k = k'
           ·subst z1
            by_cases z2 : n = n'
            ·subst z2
             have z3 : (x == x') = false := by simp; intro e; exact hss (by rw [e])
             clear hss
             go_wp2_with fail
             go_quiet (fail)
             go_wp2_with fail
             go_ret
             exact ⟨ret_bool (by rw [HF.out, Bool.false_and]), below_drewN hw _⟩
            ·have z3 := str_ne z2
             have z4 : (n.toList == n'.toList) = false := by simpa using z3
             clear hss z2
             go_wp2_with fail
             go_quiet (fail)
             go_wp2_with fail
             go_ret
             exact ⟨ret_bool (by rw [HF.out, Bool.false_and]), below_drewN hw _⟩
           ·have z3 : (k == k') = false := by simpa using z1
            clear hss z1
            go_wp2_with fail
            go_quiet (fail)
            go_wp2_with fail
            go_ret
            exact ⟨ret_bool (by rw [HF.out, Bool.false_and]), below_drewN hw _⟩
         ·obtain rfl : an = j := by omega
          have HB2 := hid (HV2.out (by first | trivial | rfl) HTK.out)
          clear HTK
          go_wp2_with fail
          clear c4 c4'
          have GD := hid hb
          clear hb
          go_loopw [6] (fun i wr => ∃ (m : Nat), i = .int .i64 m /\ m <= kn /\ Hid (p.ps.take m = q.ps.take m) /\ Below (w.heap.size + 2) (wb2 w p q la ln lc aa an ac ta tn tc ua un uc ka kn kc la' ln' lc' aa' an ac' ta' tn' tc' ua' un' uc' ka' kn kc') wr) (fun i _ => kn - (intOf i).toNat)
          case atStart => exact ⟨0, rfl, by omega, hid (by simp), GD.out⟩
          case round =>
           obtain ⟨m, rfl, hm, HTK, hb⟩ := hrel
           have c11 := box2_fst hb 11 rfl
           have c11' := box2_snd hb 11 rfl
           have hw := box2_low hb
           by_cases hlt : m < kn
           ·obtain ⟨s, hs⟩ : ∃ s, p.ps[m]? = some s := ⟨_, List.getElem?_eq_getElem (by rw [<- hkn.out]; exact hlt)⟩
            obtain ⟨s', hs'⟩ : ∃ s', q.ps[m]? = some s' := ⟨_, List.getElem?_eq_getElem (by rw [<- hkn'.out]; exact hlt)⟩
            obtain ⟨kb, ko, rfl, hkb, hty⟩ := HGK.out m s hs
            obtain ⟨kb', ko', rfl, hkb', hty'⟩ := HGK'.out m s' hs'
            obtain ⟨la1, ln1, lc1, aa1, an1, ac1, ta1, tn1, tc1, ua1, un1, uc1, ka1, kn1, kc1, ⟨D0, D1, D2, D3, D4, D5, D6, D7, D8, D9, D10, D11⟩, hval⟩ := (hty.keep (hw.keeps'.mono hB)).load'
            obtain ⟨la2, ln2, lc2, aa2, an2, ac2, ta2, tn2, tc2, ua2, un2, uc2, ka2, kn2, kc2, ⟨F0, F1, F2, F3, F4, F5, F6, F7, F8, F9, F10, F11⟩, hval'⟩ := (hty'.keep (hw.keeps'.mono hB)).load'
            have IH : Hid (∀ W, Below wr.heap.size wr W -> Calls Tryz.prog 15 #[prAgg s (.slice la1 ln1 lc1) (.slice aa1 an1 ac1) (.slice ta1 tn1 tc1) (.slice ua1 un1 uc1) (.slice ka1 kn1 kc1), prAgg s' (.slice la2 ln2 lc2) (.slice aa2 an2 ac2) (.slice ta2 tn2 tc2) (.slice ua2 un2 uc2) (.slice ka2 kn2 kc2)] W fun e w' => e = .returned (.bool (eqP s s')) /\ Below W.heap.size W w') :=
             hid (fun W hW => HIH.out s (List.mem_of_getElem? hs) s' _ _ W (hB.le (Nat.le_trans hw.size hW.size)) (hval.to (hB.le hw.size) hW) (hval'.to (hB.le hw.size) hW))
            have hbk := hB kb hkb
            have hbk' := hB kb' hkb'
            have lift : ∀ {v : Value} {x : Nat}, wr.cell? ⟨kb, x, none⟩ = some v -> ∀ W, Below wr.heap.size wr W -> W.cell? ⟨kb, x, none⟩ = some v := fun h W hW => (hW.cell (p := ⟨kb, _, none⟩) (by have := hw.size; simp; omega)).trans h
            have lift' : ∀ {v : Value} {x : Nat}, wr.cell? ⟨kb', x, none⟩ = some v -> ∀ W, Below wr.heap.size wr W -> W.cell? ⟨kb', x, none⟩ = some v := fun h W hW => (hW.cell (p := ⟨kb', _, none⟩) (by have := hw.size; simp; omega)).trans h
            have x11 := fun Q : Later wr.heap.size wr => (Q.2.cell (p := ⟨w.heap.size, 11, none⟩) (by have := hb.size; simp at this; simp; omega)).trans c11
            have x11' := fun Q : Later wr.heap.size wr => (Q.2.cell (p := ⟨w.heap.size + 1, 11, none⟩) (by have := hb.size; simp at this; simp; omega)).trans c11'
            have X0 := fun Q : Later wr.heap.size wr => lift D0 Q.1 Q.2
            have Y0 := fun Q : Later wr.heap.size wr => lift' F0 Q.1 Q.2
            have X1 := fun Q : Later wr.heap.size wr => lift D1 Q.1 Q.2
            have Y1 := fun Q : Later wr.heap.size wr => lift' F1 Q.1 Q.2
            have X2 := fun Q : Later wr.heap.size wr => lift D2 Q.1 Q.2
            have Y2 := fun Q : Later wr.heap.size wr => lift' F2 Q.1 Q.2
            have X3 := fun Q : Later wr.heap.size wr => lift D3 Q.1 Q.2
            have Y3 := fun Q : Later wr.heap.size wr => lift' F3 Q.1 Q.2
            have X4 := fun Q : Later wr.heap.size wr => lift D4 Q.1 Q.2
            have Y4 := fun Q : Later wr.heap.size wr => lift' F4 Q.1 Q.2
            have X5 := fun Q : Later wr.heap.size wr => lift D5 Q.1 Q.2
            have Y5 := fun Q : Later wr.heap.size wr => lift' F5 Q.1 Q.2
            have X6 := fun Q : Later wr.heap.size wr => lift D6 Q.1 Q.2
            have Y6 := fun Q : Later wr.heap.size wr => lift' F6 Q.1 Q.2
            have X7 := fun Q : Later wr.heap.size wr => lift D7 Q.1 Q.2
            have Y7 := fun Q : Later wr.heap.size wr => lift' F7 Q.1 Q.2
            have X8 := fun Q : Later wr.heap.size wr => lift D8 Q.1 Q.2
            have Y8 := fun Q : Later wr.heap.size wr => lift' F8 Q.1 Q.2
            have X9 := fun Q : Later wr.heap.size wr => lift D9 Q.1 Q.2
            have Y9 := fun Q : Later wr.heap.size wr => lift' F9 Q.1 Q.2
            have X10 := fun Q : Later wr.heap.size wr => lift D10 Q.1 Q.2
            have Y10 := fun Q : Later wr.heap.size wr => lift' F10 Q.1 Q.2
            have X11 := fun Q : Later wr.heap.size wr => lift D11 Q.1 Q.2
            have Y11 := fun Q : Later wr.heap.size wr => lift' F11 Q.1 Q.2
            clear lift lift' hval hval' hty hty' D0 F0 D1 F1 D2 F2 D3 F3 D4 F4 D5 F5 D6 F6 D7 F7 D8 F8 D9 F9 D10 F10 D11 F11
            by_cases hss : s = s'
            ·rw [eqP_true.2 hss] at IH
             have hn : Hid (p.ps.take (m + 1) = q.ps.take (m + 1)) := hid (by rw [take_snoc_get hs, take_snoc_get hs', HTK.out, hss])
             clear hs hs' hss
             unfold prAgg at IH
             go_wp2_with fail
             clear c11 c11'
             refine wp_region_later wr.heap.size wr (by kernel_rfl) (by kernel_rfl) (Below.refl _ _) ?_
             repeat (go_big_quiet_step ((go_at_call 15; exact later_call _ (Nat.le_refl _) (IH.out _ (Subtype.property _)))))
             refine wpQuiet_nil ?_
             rintro _ ⟨⟨w5, hb5⟩, rfl⟩
             clear x11 x11' X0 Y0 X1 Y1 X2 Y2 X3 Y3 X4 Y4 X5 Y5 X6 Y6 X7 Y7 X8 Y8 X9 Y9 X10 Y10 X11 Y11
             go_wp2_with fail
             go_roundw
             case rel => exact ⟨m + 1, by go_num, by omega, hn, hb.trans (hb5.mono (by have := hb.size; simpa using this))⟩
             case measure => simp [intOf]; omega
            ·rw [eqP_ne hss] at IH
             have HF := hid (HK3.out m s s' hs hs' hss)
             clear hs hs' hss
             unfold prAgg at IH
             go_wp2_with fail
             clear c11 c11'
             refine wp_region_later wr.heap.size wr (by kernel_rfl) (by kernel_rfl) (Below.refl _ _) ?_
             repeat (go_big_quiet_step ((go_at_call 15; exact later_call _ (Nat.le_refl _) (IH.out _ (Subtype.property _)))))
             refine wpQuiet_nil ?_
             rintro _ ⟨⟨w5, hb5⟩, rfl⟩
             clear x11 x11' X0 Y0 X1 Y1 X2 Y2 X3 Y3 X4 Y4 X5 Y5 X6 Y6 X7 Y7 X8 Y8 X9 Y9 X10 Y10 X11 Y11
             go_wp2_with fail
             go_ret
             exact ⟨ret_bool (by rw [HF.out, Bool.and_false]), below_seq hw hb5⟩
           ·obtain rfl : m = kn := by omega
            have HB4 := hid (HK2.out (by first | trivial | rfl) HTK.out)
            clear HTK
            go_wp2_with fail
            go_ret
            exact ⟨ret_bool (by rw [HB2.out, HB4.out]; rfl), hw⟩
       ·have HF := hid (HK1.out h5)
        have h5' : (kn != kn') = true := by simpa using h5
        clear h5
        go_enter Tryz.func15, Tryz.ntmps15
        go_wp2_with fail
        refine HT.out.mono ?_
        rintro e w1 ⟨rfl, g1⟩
        have gb : Below (w.heap.size + 2) (wb2 w p q la ln lc aa an ac ta tn tc ua un uc ka kn kc la' ln' lc' aa' an ac' ta' tn' tc' ua' un' uc' ka' kn' kc') w1 := g1.mono (by simp)
        have c4 := box2_fst gb 4 rfl
        have c4' := box2_snd gb 4 rfl
        have c5 := box2_fst gb 5 rfl
        have c5' := box2_snd gb 5 rfl
        have c6 := box2_fst gb 6 rfl
        have c6' := box2_snd gb 6 rfl
        have c7 := box2_fst gb 7 rfl
        have c7' := box2_snd gb 7 rfl
        have c8 := box2_fst gb 8 rfl
        have c8' := box2_snd gb 8 rfl
        have c9 := box2_fst gb 9 rfl
        have c9' := box2_snd gb 9 rfl
        have c10 := box2_fst gb 10 rfl
        have c10' := box2_snd gb 10 rfl
        go_wp2_with fail
        clear c4 c4' c5 c5' c6 c6' c7 c7' c8 c8' c9 c9' c10 c10'
        refine (HY.out _ (box2_low gb)).mono ?_
        rintro e w2 ⟨rfl, g2⟩
        have gc : Below (w.heap.size + 2) (wb2 w p q la ln lc aa an ac ta tn tc ua un uc ka kn kc la' ln' lc' aa' an ac' ta' tn' tc' ua' un' uc' ka' kn' kc') w2 := gb.trans (g2.mono (by have := gb.size; simp at this; omega))
        have c11 := box2_fst gc 11 rfl
        have c11' := box2_snd gc 11 rfl
        go_wp2_with fail
        go_ret
        exact ⟨ret_bool (by rw [HF.out, Bool.and_false]), box2_low gc⟩
     ·have HF := hid (HV1.out h4)
      have h4' : (an != an') = true := by simpa using h4
      have h4'' : (an == an') = false := by simpa using h4
      have h4i : ((an : Int) == (an' : Int)) = false := by simp; omega
      have h4j : ((an : Int) != (an' : Int)) = true := by simp; omega
      clear h4
      go_enter Tryz.func15, Tryz.ntmps15
      go_wp2_with fail
      refine HT.out.mono ?_
      rintro e w1 ⟨rfl, g1⟩
      have gb : Below (w.heap.size + 2) (wb2 w p q la ln lc aa an ac ta tn tc ua un uc ka kn kc la' ln' lc' aa' an' ac' ta' tn' tc' ua' un' uc' ka' kn' kc') w1 := g1.mono (by simp)
      have c4 := box2_fst gb 4 rfl
      have c4' := box2_snd gb 4 rfl
      go_wp2_with fail
      go_ret
      exact ⟨ret_bool (by rw [HF.out, Bool.false_and]), box2_low gb⟩
   ·have h3' := str_ne h3
    have h3e : (p.x.toList == q.x.toList) = false := by simpa using h3'
    rw [show decide (p.x = q.x) = false by simpa using h3, Bool.false_and]
    clear h1 h2 h3
    go_enter Tryz.func15, Tryz.ntmps15
    go_wp2_with fail
    go_ret
    exact ⟨rfl, HB0.out⟩
  ·have h2' := str_ne h2
   have h2e : (p.c.toList == q.c.toList) = false := by simpa using h2'
   rw [show decide (p.c = q.c) = false by simpa using h2, Bool.false_and]
   clear h1 h2
   go_enter Tryz.func15, Tryz.ntmps15
   go_wp2_with fail
   go_ret
   exact ⟨rfl, HB0.out⟩
 ·have h1' : (p.k != q.k) = true := by simpa using h1
  rw [show decide (p.k = q.k) = false by simpa using h1, Bool.false_and]
  clear h1
  go_enter Tryz.func15, Tryz.ntmps15
  go_wp2_with fail
  go_ret
  exact ⟨rfl, HB0.out⟩
theorem rpsame_any (B : Nat -> Prop) : ∀ (p : Pr), RSameP B p := by
 refine Pr.ind ?_
 intro k c x ls vs t ps ih q v v' w hB hv hv'
 exact rpsame_step B (.mk k c x ls vs t ps) q ih v v' w hB hv hv'
end Go.Proofs.YtejaboajgecpaaaGreatDoor
