/- Parsing: lemmas. -/
import Derived.Test.YtejaboajgecpaaaGreatDoorQn39
set_option maxHeartbeats 16000000
set_option maxRecDepth 100000
namespace Go.Proofs.YtejaboajgecpaaaGreatDoor
open Tok (strip strip_shift Alone joinL)
abbrev preB : List UInt8 := [35, 32, 120, 10]
abbrev shutI : Tok.Item := ⟨3, sShut, 0, (0 : Nat), 0, 0⟩
theorem strip_s0 : ∀ (I J : List Tok.Item), J.map strip = I.map strip -> S0 (I.map tkOf) (J.map tkOf)
 | [], [], _ => trivial
 | [], y :: J, h => by simp at h
 | x :: I, [], h => by simp at h
 | x :: I, y :: J, h => by
  simp only [List.map_cons, List.cons.injEq] at h
  have h1 := h.1
  unfold strip at h1
  simp only [Prod.mk.injEq] at h1
  exact ⟨h1.1.symm, h1.2.1.symm, h1.2.2.1.symm, strip_s0 I J h.2⟩
theorem strip_sq {NS : Prop} : ∀ (I J : List Tok.Item), (∀ x ∈ I, NS -> ((tkOf x).t.toList == sShut.toList) = false) -> J.map strip = (I ++ [shutI]).map strip -> SQ NS (I.map tkOf) (J.map tkOf)
 | [], [], _, h => by simp at h
 | [], [y], _, h => by
  simp only [List.nil_append, List.map_cons, List.map_nil, List.cons.injEq, and_true] at h
  unfold strip at h
  simp only [Prod.mk.injEq] at h
  exact ⟨h.2.1, h.1⟩
 | [], y :: z :: J, _, h => by simp at h
 | x :: I, [], _, h => by simp at h
 | x :: I, y :: J, hx, h => by
  simp only [List.cons_append, List.map_cons, List.cons.injEq] at h
  have h1 := h.1
  unfold strip at h1
  simp only [Prod.mk.injEq] at h1
  exact ⟨hx x (by simp), h1.1.symm, h1.2.1.symm, h1.2.2.1.symm, strip_sq I J (fun z hz => hx z (by simp [hz])) h.2⟩
theorem strip_err {I J : List Tok.Item} (h : J.map strip = I.map strip) (hok : ∀ x ∈ I, x.e = 0) : ∀ x ∈ J, x.e = 0 := by
 intro x hx
 have h1 : strip x ∈ I.map strip := by rw [<- h]; exact List.mem_map.2 ⟨x, hx, rfl⟩
 obtain ⟨y, hy, e⟩ := List.mem_map.1 h1
 have e2 := congrArg (·.2.2.2) e
 exact e2.symm.trans (hok y hy)
theorem skip_preB (X : List UInt8) : Lx.skipG false (preB ++ X) = 4 + Lx.skipG false X := by
 have e1 : Lx.commentLen (35 :: 32 :: 120 :: 10 :: X) = 3 := by kernel_rfl
 show Lx.skipG false (35 :: 32 :: 120 :: 10 :: X) = _
 rw [Lx.skipG_hash, e1]
 show 3 + Lx.skipG false (10 :: X) = _
 rw [Lx.skipG_blank _ _ (by decide)]
 omega
theorem shift_strip (d : Nat) (l : List Tok.Item) : (l.map (Tok.shift d)).map strip = l.map strip := by
 rw [List.map_map]
 exact List.map_congr_left fun x _ => strip_shift d x
theorem alone_shut : Alone shutI := ⟨by kernel_rfl, by decide, fun R => Lx.skipG_stop 41 R (by decide) (by decide)⟩
section
variable {s : ByteArray} {I : List Tok.Item}
theorem alone_of (hr : Scans s (.inl I)) : ∀ x ∈ I, Alone x /\ x.e = 0 := by
 obtain ⟨_, hI, hok⟩ := hr
 intro x hx
 refine ⟨Tok.items_alone (s.size + 1) s.data.toList (Lx.skipG false s.data.toList) x ?_ (hok x hx), hok x hx⟩
 rw [show Tok.items (s.size + 1) s.data.toList (Lx.skipG false s.data.toList) = I from hI]; exact hx
theorem join_len (hr : Scans s (.inl I)) (h3 : s.size <= 3000) : (joinL I).length <= 6000 := by
 have h := Tok.items_joinlen (s.size + 1) s.data.toList (Lx.skipG false s.data.toList)
 rw [show Tok.items (s.size + 1) s.data.toList (Lx.skipG false s.data.toList) = I from hr.2.1] at h
 have e : s.data.toList.length = s.size := rfl
 omega
theorem joined_scans (hr : Scans s (.inl I)) (h3 : s.size <= 3000) (s2 : ByteArray) (hs2 : s2.data.toList = preB ++ joinL I) : ∃ J, Scans s2 (.inl J) /\ J.map strip = I.map strip := by
 have hl := join_len hr h3
 have hz : s2.size = (joinL I).length + 4 := by
  have h1 : s2.data.toList.length = s2.size := rfl
  rw [<- h1, hs2]; simp
 obtain ⟨k0, km⟩ := Tok.items_joined I (alone_of hr) ((joinL I).length + 1) (by omega)
 have hI : its s2 = (Tok.items ((joinL I).length + 1) (joinL I) 0).map (Tok.shift 4) := by
  unfold its
  have h1 : s2.size = s2.data.toList.length := rfl
  rw [h1, hs2, skip_preB, k0, show 4 + 0 = preB.length + 0 from rfl, Tok.items_shift]
  rw [Tok.items_fuel _ ((joinL I).length + 1) (joinL I) 0 (by simp; omega) (by omega)]
  rfl
 have hst : (its s2).map strip = I.map strip := by rw [hI, shift_strip, km]
 exact ⟨its s2, ⟨by omega, rfl, strip_err hst (fun x hx => (alone_of hr x hx).2)⟩, hst⟩
theorem paren_scans (hr : Scans s (.inl I)) (h3 : s.size <= 3000) (s3 : ByteArray) (hs3 : s3.data.toList = [40, 32] ++ (preB ++ joinL I) ++ [32, 41]) : ∃ p K, Scans s3 (.inl (p :: K)) /\ p.t = sOpen /\ K.map strip = (I ++ [shutI]).map strip := by
 have hl := join_len hr h3
 obtain ⟨Y, hY⟩ := ex1 (joinL I ++ [32, 41])
 have hYl : Y.length = (joinL I).length + 2 := by rw [<- hY]; simp
 have hL : s3.data.toList = [40, 32, 35, 32, 120, 10] ++ Y := by rw [hs3, <- hY]; simp
 have hz : s3.size = Y.length + 6 := by
  have h1 : s3.data.toList.length = s3.size := rfl
  rw [<- h1, hL]; simp
 have hYi : ∀ f, Y.length < f -> (Tok.items f Y (Lx.skipG false Y)).map strip = (I ++ [shutI]).map strip := by
  intro f hf
  cases hI : I with
  | nil =>
   rw [hI] at hY
   obtain rfl : [32, 41] = Y := hY
   rw [Tok.items_fuel f 3 ([32, 41] : List UInt8) _ (by have h : 2 < f := hf; show 2 - _ < f; omega) (by show 2 - _ < 3; omega)]
   kernel_rfl
  | cons x r =>
   have hj : joinL (I ++ [shutI]) = Y := by
    rw [Tok.joinL_snoc I shutI (by rw [hI]; simp), <- hY]
   obtain ⟨k0, km⟩ := Tok.items_joined (I ++ [shutI]) (fun y hy => by
    rcases List.mem_append.1 hy with h | h
    ·exact alone_of hr y h
    ·rw [List.mem_singleton.1 h]; exact ⟨alone_shut, rfl⟩) f (by rw [hj]; exact hf)
   rw [hj] at k0 km
   rw [k0, km, hI]
 have t1 : Lx.tokL (([40, 32, 35, 32, 120, 10] ++ Y).drop 0) = .inr (3, sOpen.size, 0) := by kernel_rfl
 have x1 : sOpen = Tok.txt ((([40, 32, 35, 32, 120, 10] ++ Y).drop 0).take sOpen.size) := by kernel_rfl
 have p1 : 0 + sOpen.size + Lx.skipG false (([40, 32, 35, 32, 120, 10] ++ Y).drop (0 + sOpen.size)) = ([40, 32, 35, 32, 120, 10] : List UInt8).length + Lx.skipG false Y := by
  rw [show (([40, 32, 35, 32, 120, 10] : List UInt8) ++ Y).drop (0 + sOpen.size) = 32 :: (preB ++ Y) by kernel_rfl, Lx.skipG_blank _ _ (by decide), skip_preB]
  show 0 + 1 + (1 + _) = 6 + _
  omega
 have hI3 : its s3 = ⟨3, sOpen, 0, (0 : Nat), 0, 0⟩ :: (Tok.items (Y.length + 6) Y (Lx.skipG false Y)).map (Tok.shift 6) := by
  unfold its
  rw [hz, hL, show Lx.skipG false ([40, 32, 35, 32, 120, 10] ++ Y) = 0 by kernel_rfl, Tok.items_tok _ _ _ (by simp) 3 sOpen 0 t1 x1, p1, Tok.items_shift]
  rfl
 refine ⟨⟨3, sOpen, 0, (0 : Nat), 0, 0⟩, (Tok.items (Y.length + 6) Y (Lx.skipG false Y)).map (Tok.shift 6), ⟨by omega, hI3, ?_⟩, rfl, by rw [shift_strip]; exact hYi _ (by omega)⟩
 have hst : ((Tok.items (Y.length + 6) Y (Lx.skipG false Y)).map (Tok.shift 6)).map strip = (I ++ [shutI]).map strip := by rw [shift_strip]; exact hYi _ (by omega)
 intro x hx
 rcases List.mem_cons.1 hx with rfl | hx
 ·rfl
 ·exact strip_err hst (fun y hy => by
   rcases List.mem_append.1 hy with h | h
   ·exact (alone_of hr y h).2
   ·rw [List.mem_singleton.1 h]) x hx
end
theorem s0_len : ∀ {ts us : List Tk}, S0 ts us -> us.length = ts.length
 | [], us, h => by rw [s0_nil h]
 | x :: r, us, h => by obtain ⟨y, q, rfl, _, _, _, h⟩ := s0_cons h; simp [s0_len h]
theorem blank_whole (s s2 : ByteArray) (I J : List Tok.Item) (h : S0 (I.map tkOf) (J.map tkOf)) : match wholeE fProg Pg.tooBig s (.inl I) with
 | .inr (e, _) => e ≠ 0 /\ ∃ p, wholeE fProg Pg.tooBig s2 (.inl J) = .inr (e, p)
 | .inl x => wholeE fProg Pg.tooBig s2 (.inl J) = .inl x := by
 unfold wholeE
 dsimp only
 obtain ⟨ts, hts⟩ := ex1 (I.map tkOf)
 obtain ⟨us, hus⟩ := ex1 (J.map tkOf)
 rw [hts, hus] at h |-
 have hc := con_prog (2 * ts.length + 8) ts us h
 have e1 : fProg ts = pprog nameB (2 * ts.length + 8) ts := rfl
 have e2 : fProg us = pprog nameB (2 * ts.length + 8) us := by rw [<- s0_len h]; rfl
 unfold pfin
 rw [e1, e2]
 cases hA : pprog nameB (2 * ts.length + 8) ts with
 | bad e r =>
  rw [hA] at hc
  cases hB : pprog nameB (2 * ts.length + 8) us with
  | ok y q => rw [hB] at hc; exact hc.elim
  | bad e' q =>
   rw [hB] at hc
   obtain ⟨rfl, hne⟩ := hc
   exact ⟨hne, _, rfl⟩
 | ok x r =>
  rw [hA] at hc
  cases hB : pprog nameB (2 * ts.length + 8) us with
  | bad e' q => rw [hB] at hc; exact hc.elim
  | ok y q =>
   rw [hB] at hc
   obtain ⟨rfl, hs, _⟩ := hc
   dsimp only
   cases r with
   | nil =>
    obtain rfl := s0_nil hs
    rw [if_pos rfl, if_pos rfl]
    cases x.tooBig with
    | true => exact ⟨by decide, _, rfl⟩
    | false => rfl
   | cons z r =>
    obtain ⟨y, q2, rfl, _⟩ := s0_cons hs
    rw [if_neg (by simp), if_neg (by simp)]
    exact ⟨by decide, _, rfl⟩
theorem sq_len {NS : Prop} : ∀ {ts us : List Tk}, SQ NS ts us -> us.length = ts.length + 1
 | [], us, h => by obtain ⟨e, rfl, _⟩ := sq_nil h; rfl
 | x :: r, us, h => by obtain ⟨y, q, rfl, _, _, _, h⟩ := sq_cons h; simp [sq_len h]
theorem paren_whole {NS : Prop} (s s3 : ByteArray) (I : List Tok.Item) (p : Tok.Item) (K : List Tok.Item) (hp : p.t = sOpen) (h : SQ NS (I.map tkOf) (K.map tkOf)) :
 (∀ e q, wholeE fProc bigP s (.inl I) = .inr (e, q) -> e ≠ 0) /\ (∀ x, wholeE fProc bigP s (.inl I) = .inl x -> wholeE fProc bigP s3 (.inl (p :: K)) = .inl x) /\
 (NS -> ∀ e q, wholeE fProc bigP s (.inl I) = .inr (e, q) -> ∃ e' q', wholeE fProc bigP s3 (.inl (p :: K)) = .inr (e', q') /\ e' ≠ 0) := by
 obtain ⟨ts, hts⟩ := ex1 (I.map tkOf)
 obtain ⟨us, hus⟩ := ex1 (K.map tkOf)
 rw [hts, hus] at h
 have hm : (p :: K).map tkOf = tkOf p :: us := by rw [<- hus]; rfl
 have hlen := sq_len h
 have hc := (sq_parts (NS := NS) (2 * ts.length + 8) (2 * us.length + 9) true ts.length (by simp) (by simp; omega)).sim ts us h (Nat.le_refl _)
 have hd1 : hd sOpen (tkOf p :: us) = true := by show (p.t.toList == _) = true; rw [hp]; simp
 have e1 : fProc ts = (pparts nameB (2 * ts.length + 8) true ts).bind fun l r => .ok (parOf l) r := rfl
 have e2 : fProc (tkOf p :: us) = (((pparts nameB (2 * us.length + 9) true us).bind fun l r => (need sShut r).bind fun _ r => .ok l r).bind fun l r => if hd sBar r = true then (pparts nameB (2 * us.length + 9) true r.tail).bind fun m r => .ok (l ++ m) r else .ok l r).bind fun l r => .ok (parOf l) r := by
  show pproc nameB (2 * (us.length + 1) + 8) (tkOf p :: us) = _
  rw [show 2 * (us.length + 1) + 8 = (2 * us.length + 9) + 1 by omega]
  unfold pproc
  rw [pparts, if_pos hd1]
  rfl
 unfold wholeE
 dsimp only
 rw [hts, hm]
 unfold pfin
 rw [e1, e2]
 have hpar : NS -> ∀ (z : Tk) (r : List Tk) (q : List Tk), SQ NS (z :: r) q -> need sShut q = .bad 1 q := by
  intro hn z r q hs
  have hz := sq_shutless hs hn
  obtain ⟨y, q2, rfl, _, ht, _⟩ := sq_cons hs
  exact if_neg (by show ¬ (y.t.toList == _) = true; rw [<- ht, hz]; simp)
 cases hA : pparts nameB (2 * ts.length + 8) true ts with
 | bad e r =>
  rw [hA] at hc
  refine ⟨?_, fun x hx => (by cases hx), fun hn e0 q0 h0 => ?_⟩
  ·intro e0 q0 h0
   have h1 : e = e0 := by
    have h2 : (Sum.inr (e, posE (s.size : Int) r) : Pr ⊕ (Int × Int)) = .inr (e0, q0) := h0
    simp only [Sum.inr.injEq, Prod.mk.injEq] at h2
    exact h2.1
   rw [<- h1]
   cases hB : pparts nameB (2 * us.length + 9) true us with
   | ok y q => rw [hB] at hc; exact hc.1
   | bad e' q => rw [hB] at hc; exact hc.1
  ·cases hB : pparts nameB (2 * us.length + 9) true us with
   | bad e' q =>
    rw [hB] at hc
    exact ⟨e', _, rfl, hc.2 hn⟩
   | ok y q =>
    rw [hB] at hc
    obtain rfl := hc.2 hn
    exact ⟨1, _, rfl, by decide⟩
 | ok x r =>
  rw [hA] at hc
  cases hB : pparts nameB (2 * us.length + 9) true us with
  | bad e' q => rw [hB] at hc; exact hc.elim
  | ok y q =>
   rw [hB] at hc
   obtain ⟨rfl, hs, _⟩ := hc
   cases r with
   | nil =>
    obtain ⟨e, rfl, he, _⟩ := sq_nil hs
    have hh : need sShut [e] = .ok () [] := if_pos (by show (e.t.toList == _) = true; rw [he]; simp)
    dsimp only [PR.bind]
    rw [hh]
    dsimp only
    rw [if_neg (show ¬ hd sBar ([] : List Tk) = true by show ¬ false = true; simp)]
    dsimp only
    rw [if_pos (rfl : ([] : List Tk) = [])]
    cases bigP (parOf x) with
    | true => exact ⟨fun e q h => (by
     have h2 : (Sum.inr ((2 : Int), (s.size : Int)) : Pr ⊕ (Int × Int)) = .inr (e, q) := h
     simp only [Sum.inr.injEq, Prod.mk.injEq] at h2
     rw [<- h2.1]; decide), fun x h => (by cases h), fun _ e q _ => ⟨2, _, rfl, by decide⟩⟩
    | false => exact ⟨fun e q h => (by cases h), fun x h => h, fun _ e q h => (by cases h)⟩
   | cons z r =>
    dsimp only [PR.bind]
    rw [if_neg (by simp)]
    refine ⟨fun e q h => ?_, fun x h => (by cases h), fun hn e q h => ?_⟩
    ·have h2 : (Sum.inr ((1 : Int), posE (s.size : Int) (z :: r)) : Pr ⊕ (Int × Int)) = .inr (e, q) := h
     simp only [Sum.inr.injEq, Prod.mk.injEq] at h2
     rw [<- h2.1]; decide
    ·rw [hpar hn z r _ hs]
     exact ⟨1, _, rfl, by decide⟩
end Go.Proofs.YtejaboajgecpaaaGreatDoor
namespace Go.Proofs.YtejaboajgecpaaaGreatDoor
open Go.Lib (hid)
open Go.RowKit Go.Deep Go.Shelf
theorem ptexts_any (B : Nat -> Prop) (v v' : Value) (ls ls' : List ByteArray) (w : World) (h : StrSl B w v ls) (h' : StrSl B w v' ls') :
 Calls Tryz.prog 34 #[v, v'] w fun e w' => e = .returned (.bool (decide (ls = ls'))) /\ Drew w w' := by
 obtain ⟨pa, len, c, rfl, hlen, hm, hget⟩ := h.open
 obtain ⟨pa', len', c', rfl, hlen', hm', hget'⟩ := h'.open
 have HG := hid hget
 have HG' := hid hget'
 clear hget hget' h h'
 by_cases hl : len = len'
 ·subst hl
  go_enter Tryz.func34, Tryz.ntmps34
  go_wp2_with fail
  go_loopw [5] (fun i wr => ∃ (j : Nat), i = .int .i64 j /\ j <= len /\ Hid (ls.take j = ls'.take j) /\ Drew w wr) (fun i _ => len - (intOf i).toNat)
  case atStart => exact ⟨0, rfl, by omega, hid (by simp), Drew.refl _⟩
  case round =>
   obtain ⟨j, rfl, hj, HT, hd⟩ := hrel
   by_cases hlt : j < len
   ·obtain ⟨s, hs⟩ : ∃ s, ls[j]? = some s := ⟨_, List.getElem?_eq_getElem (by rw [<- hlen.out]; exact hlt)⟩
    obtain ⟨s', hs'⟩ : ∃ s', ls'[j]? = some s' := ⟨_, List.getElem?_eq_getElem (by rw [<- hlen'.out]; exact hlt)⟩
    obtain ⟨_, kb, ko, rfl, hkb, hc⟩ := HG.out j s hs
    obtain ⟨_, kb', ko', rfl, hkb', hc'⟩ := HG'.out j s' hs'
    replace hc : wr.cell? ⟨kb, ko + j, none⟩ = some (.string s) := by obtain ⟨m, rfl⟩ := hd; exact hc
    replace hc' : wr.cell? ⟨kb', ko' + j, none⟩ = some (.string s') := by obtain ⟨m, rfl⟩ := hd; exact hc'
    by_cases hss : s = s'
    ·subst hss
     have hn : Hid (ls.take (j + 1) = ls'.take (j + 1)) := hid (by rw [take_snoc_get hs, take_snoc_get hs', HT.out])
     clear hs hs'
     go_wp2_with fail
     go_quiet (fail)
     go_wp2_with fail
     go_roundw
     case rel => exact ⟨j + 1, by go_num, by omega, hn, hd.more _⟩
     case measure => simp [intOf]; omega
    ·have hne : Hid (ls ≠ ls') := hid (fun e => hss (by rw [e, hs'] at hs; exact (Option.some.inj hs).symm))
     have hb1 := str_ne hss
     have hb2 : (s.toList == s'.toList) = false := by simpa using hb1
     clear hs hs' hss
     go_wp2_with fail
     go_quiet (fail)
     go_wp2_with fail
     go_ret
     exact ⟨ret_bool (by simp [hne.out]), hd.more _⟩
   ·obtain rfl : j = len := by omega
    go_wp2_with fail
    go_ret
    refine ⟨ret_bool ?_, hd⟩
    have := HT.out
    rw [List.take_of_length_le (by rw [hlen.out]; exact Nat.le_refl _), List.take_of_length_le (by rw [hlen'.out]; exact Nat.le_refl _)] at this
    simp [this]
 ·have hl' : (len != len') = true := by simpa using hl
  have hne : ls ≠ ls' := fun e => hl (by rw [hlen.out, hlen'.out, e])
  have HN := hid hne
  clear hne
  go_enter Tryz.func34, Tryz.ntmps34
  go_wp2_with fail
  go_ret
  exact ⟨ret_bool (by simp [HN.out]), Drew.refl _⟩
def RSameP (B : Nat -> Prop) (p : Pr) : Prop := ∀ (q : Pr) (v v' : Value) (w : World), Low B w -> PrVal B w v p -> PrVal B w v' q -> Calls Tryz.prog 15 #[v, v'] w fun e w' => e = .returned (.bool (eqP p q)) /\ Below w.heap.size w w'
abbrev wb2 (w : World) (p q : Pr) (la : Option Addr) (ln lc : Nat) (aa : Option Addr) (an ac : Nat) (ta : Option Addr) (tn tc : Nat) (ua : Option Addr) (un uc : Nat) (ka : Option Addr) (kn kc : Nat) (la' : Option Addr) (ln' lc' : Nat) (aa' : Option Addr) (an' ac' : Nat) (ta' : Option Addr) (tn' tc' : Nat) (ua' : Option Addr) (un' uc' : Nat) (ka' : Option Addr) (kn' kc' : Nat) : World :=
 (w.alloc (cell12 p (.slice la ln lc) (.slice aa an ac) (.slice ta tn tc) (.slice ua un uc) (.slice ka kn kc))).alloc (cell12 q (.slice la' ln' lc') (.slice aa' an' ac') (.slice ta' tn' tc') (.slice ua' un' uc') (.slice ka' kn' kc'))
theorem rpsame_step (B : Nat -> Prop) (p q : Pr) (ih : ∀ u ∈ p.ps, RSameP B u) (v v' : Value) (w : World) (hB : Low B w) (hv : PrVal B w v p) (hv' : PrVal B w v' q) :
 Calls Tryz.prog 15 #[v, v'] w fun e w' => e = .returned (.bool (eqP p q)) /\ Below w.heap.size w w' := by
 obtain ⟨lv, av, tl, tk, kv, rfl, _, hl, ha, ht, hk⟩ := hv
 obtain ⟨lv', av', tl', tk', kv', rfl, _, hl', ha', ht', hk'⟩ := hv'
 obtain ⟨ka, kn, kc, rfl, hkn, hkm, hkg⟩ := hk.open
 obtain ⟨ka', kn', kc', rfl, hkn', hkm', hkg'⟩ := hk'.open
 obtain ⟨aa, an, ac, rfl, han, ham, hag⟩ := ha.open
 obtain ⟨aa', an', ac', rfl, han', ham', hag'⟩ := ha'.open
 obtain ⟨la, ln, lc, rfl, _⟩ := hl.open
 obtain ⟨la', ln', lc', rfl, _⟩ := hl'.open
 obtain ⟨⟨ta, tn, tc, rfl⟩, ua, un, uc, rfl⟩ := slices_of ht
 obtain ⟨⟨ta', tn', tc', rfl⟩, ua', un', uc', rfl⟩ := slices_of ht'
 have hb0 : Below w.heap.size w ((w.alloc (cell12 p (.slice la ln lc) (.slice aa an ac) (.slice ta tn tc) (.slice ua un uc) (.slice ka kn kc))).alloc (cell12 q (.slice la' ln' lc') (.slice aa' an' ac') (.slice ta' tn' tc') (.slice ua' un' uc') (.slice ka' kn' kc'))) := box2_below w _ _
 obtain ⟨b1, hb1⟩ : ∃ x, decide (p.ls = q.ls) = x := ⟨_, rfl⟩
 obtain ⟨b2, hb2⟩ : ∃ x, eqV p.vs q.vs = x := ⟨_, rfl⟩
 obtain ⟨b3, hb3⟩ : ∃ x, eqB p.t q.t = x := ⟨_, rfl⟩
 obtain ⟨b4, hb4⟩ : ∃ x, eqQ p.ps q.ps = x := ⟨_, rfl⟩
 have HEQ : Hid (eqP p q = (decide (p.k = q.k) && (decide (p.c = q.c) && (decide (p.x = q.x) && (b1 && (b2 && (b3 && b4))))))) := hid (by
  rw [<- hb1, <- hb2, <- hb3, <- hb4, Bool.eq_iff_iff]
  simp only [eqP_true, Bool.and_eq_true, decide_eq_true_eq, eqV_true, eqB_true, eqQ_true]
  cases p; cases q
  simp only [Pr.mk.injEq, Pr.k, Pr.c, Pr.x, Pr.ls, Pr.vs, Pr.t, Pr.ps])
 have HT : Hid (Calls Tryz.prog 34 #[.slice la ln lc, .slice la' ln' lc'] ((w.alloc (cell12 p (.slice la ln lc) (.slice aa an ac) (.slice ta tn tc) (.slice ua un uc) (.slice ka kn kc))).alloc (cell12 q (.slice la' ln' lc') (.slice aa' an' ac') (.slice ta' tn' tc') (.slice ua' un' uc') (.slice ka' kn' kc'))) fun e w' => e = .returned (.bool b1) /\ Below ((w.alloc (cell12 p (.slice la ln lc) (.slice aa an ac) (.slice ta tn tc) (.slice ua un uc) (.slice ka kn kc))).alloc (cell12 q (.slice la' ln' lc') (.slice aa' an' ac') (.slice ta' tn' tc') (.slice ua' un' uc') (.slice ka' kn' kc'))).heap.size ((w.alloc (cell12 p (.slice la ln lc) (.slice aa an ac) (.slice ta tn tc) (.slice ua un uc) (.slice ka kn kc))).alloc (cell12 q (.slice la' ln' lc') (.slice aa' an' ac') (.slice ta' tn' tc') (.slice ua' un' uc') (.slice ka' kn' kc'))) w') := hid ((ptexts_any B _ _ _ _ _ (hl.keep (hb0.keeps'.mono hB)) (hl'.keep (hb0.keeps'.mono hB))).mono fun e w' ⟨h1, h2⟩ => ⟨by rw [h1, hb1], h2.below _⟩)
 have HY : Hid (∀ W, Below w.heap.size w W -> Calls Tryz.prog 18 #[.agg #[.int .i64 p.t.k, .int .i64 p.t.p, .string p.t.n, .int .i64 p.t.s, .slice ta tn tc, .slice ua un uc], .agg #[.int .i64 q.t.k, .int .i64 q.t.p, .string q.t.n, .int .i64 q.t.s, .slice ta' tn' tc', .slice ua' un' uc']] W fun e w' => e = .returned (.bool b3) /\ Below W.heap.size W w') := hid (fun W hW => by
  rw [<- hb3]; exact rsame_any B p.t q.t _ _ W (hB.le hW.size) (ht.keep (hW.keeps'.mono hB)) (ht'.keep (hW.keeps'.mono hB)))
 have HV1 : Hid (an ≠ an' -> b2 = false) := hid (fun h => by rw [<- hb2]; exact eqV_ne (fun e => h (by rw [han.out, han'.out, e])))
 have HV2 : Hid (an = an' -> p.vs.take an = q.vs.take an -> b2 = true) := hid (fun h h2 => by rw [<- hb2]; exact eqV_true.2 (lists_eq han.out (h.trans han'.out) h2))
 have HV3 : Hid (∀ (j : Nat) (s s' : Vl), p.vs[j]? = some s -> q.vs[j]? = some s' -> s ≠ s' -> b2 = false) := hid (fun j s s' h h' hn => by rw [<- hb2]; exact eqV_ne (fun e => hn (by rw [e, h'] at h; exact (Option.some.inj h).symm)))
 have HK1 : Hid (kn ≠ kn' -> b4 = false) := hid (fun h => by rw [<- hb4]; exact eqQ_ne (fun e => h (by rw [hkn.out, hkn'.out, e])))
 have HK2 : Hid (kn = kn' -> p.ps.take kn = q.ps.take kn -> b4 = true) := hid (fun h h2 => by rw [<- hb4]; exact eqQ_true.2 (lists_eq hkn.out (h.trans hkn'.out) h2))
 have HK3 : Hid (∀ (j : Nat) (s s' : Pr), p.ps[j]? = some s -> q.ps[j]? = some s' -> s ≠ s' -> b4 = false) := hid (fun j s s' h h' hn => by rw [<- hb4]; exact eqQ_ne (fun e => hn (by rw [e, h'] at h; exact (Option.some.inj h).symm)))
 have HIH := hid ih
 have HGV := hid hag
 have HGV' := hid hag'
 have HGK := hid hkg
 have HGK' := hid hkg'
 have HB0 := hid hb0
 rw [HEQ.out]
 clear HEQ hb1 hb2 hb3 hb4 hl ha ht hk hl' ha' ht' hk' hag hag' hkg hkg' ih hb0
 unfold prAgg
 by_cases h1 : p.k = q.k
 ·have h1' : (p.k != q.k) = false := by simp [h1]
  rw [show decide (p.k = q.k) = true by simpa using h1, Bool.true_and]
  by_cases h2 : p.c = q.c
  ·have h2' : (p.c.toList != q.c.toList) = false := by simp [h2]
   have h2e : (p.c.toList == q.c.toList) = true := by simp [h2]
   rw [show decide (p.c = q.c) = true by simpa using h2, Bool.true_and]
   by_cases h3 : p.x = q.x
   ·have h3' : (p.x.toList != q.x.toList) = false := by simp [h3]
    have h3e : (p.x.toList == q.x.toList) = true := by simp [h3]
    rw [show decide (p.x = q.x) = true by simpa using h3, Bool.true_and]
    clear h1 h2 h3
    cases b1
    ·rw [Bool.false_and]
     go_enter Tryz.func15, Tryz.ntmps15
     go_wp2_with fail
     refine HT.out.mono ?_
     rintro e w1 ⟨rfl, g1⟩
     go_wp2_with fail
     go_ret
     exact ⟨rfl, below_seq HB0.out g1⟩
    ·rw [Bool.true_and]
     by_cases h4 : an = an'
     ·subst h4
      cases b3
      ·rw [Bool.false_and, Bool.and_false]
       go_enter Tryz.func15, Tryz.ntmps15
       go_wp2_with fail
       refine HT.out.mono ?_
       rintro e w1 ⟨rfl, g1⟩
       have gb : Below (w.heap.size + 2) (wb2 w p q la ln lc aa an ac ta tn tc ua un uc ka kn kc la' ln' lc' aa' an ac' ta' tn' tc' ua' un' uc' ka' kn' kc') w1 := g1.mono (by simp)
       have c4 := box2_fst gb 4 rfl
       have c4' := box2_snd gb 4 rfl
       have c5 := box2_fst gb 5 rfl
       have c5' := box2_snd gb 5 rfl
       have c6 := box2_fst gb 6 rfl
       have c6' := box2_snd gb 6 rfl
       have c7 := box2_fst gb 7 rfl
       have c7' := box2_snd gb 7 rfl
       have c8 := box2_fst gb 8 rfl
       have c8' := box2_snd gb 8 rfl
       have c9 := box2_fst gb 9 rfl
       have c9' := box2_snd gb 9 rfl
       have c10 := box2_fst gb 10 rfl
       have c10' := box2_snd gb 10 rfl
       go_wp2_with fail
       clear c4 c4' c5 c5' c6 c6' c7 c7' c8 c8' c9 c9' c10 c10'
       refine (HY.out _ (box2_low gb)).mono ?_
       rintro e w2 ⟨rfl, g2⟩
       go_wp2_with fail
       go_ret
       exact ⟨rfl, below_seq (box2_low gb) g2⟩
      ·rw [Bool.true_and]
       by_cases h5 : kn = kn'
       ·subst h5
        go_enter Tryz.func15, Tryz.ntmps15
        go_wp2_with fail
        refine HT.out.mono ?_
        rintro e w1 ⟨rfl, g1⟩
        have gb : Below (w.heap.size + 2) (wb2 w p q la ln lc aa an ac ta tn tc ua un uc ka kn kc la' ln' lc' aa' an ac' ta' tn' tc' ua' un' uc' ka' kn kc') w1 := g1.mono (by simp)
        have c4 := box2_fst gb 4 rfl
        have c4' := box2_snd gb 4 rfl
        have c5 := box2_fst gb 5 rfl
        have c5' := box2_snd gb 5 rfl
        have c6 := box2_fst gb 6 rfl
        have c6' := box2_snd gb 6 rfl
        have c7 := box2_fst gb 7 rfl
        have c7' := box2_snd gb 7 rfl
        have c8 := box2_fst gb 8 rfl
        have c8' := box2_snd gb 8 rfl
        have c9 := box2_fst gb 9 rfl
        have c9' := box2_snd gb 9 rfl
        have c10 := box2_fst gb 10 rfl
        have c10' := box2_snd gb 10 rfl
        go_wp2_with fail
        clear c4 c4' c5 c5' c6 c6' c7 c7' c8 c8' c9 c9' c10 c10'
        refine (HY.out _ (box2_low gb)).mono ?_
        rintro e w2 ⟨rfl, g2⟩
        have gc : Below (w.heap.size + 2) (wb2 w p q la ln lc aa an ac ta tn tc ua un uc ka kn kc la' ln' lc' aa' an ac' ta' tn' tc' ua' un' uc' ka' kn kc') w2 := gb.trans (g2.mono (by have := gb.size; simp at this; omega))
        have c11 := box2_fst gc 11 rfl
        have c11' := box2_snd gc 11 rfl
        go_wp2_with fail
        clear c11 c11' HT HY g1 g2
        have GC := hid gc
        clear gb gc
        go_loopw [5] (fun i wr => ∃ (j : Nat), i = .int .i64 j /\ j <= an /\ Hid (p.vs.take j = q.vs.take j) /\ Below (w.heap.size + 2) (wb2 w p q la ln lc aa an ac ta tn tc ua un uc ka kn kc la' ln' lc' aa' an ac' ta' tn' tc' ua' un' uc' ka' kn kc') wr) (fun i _ => an - (intOf i).toNat)
        case atStart => exact ⟨0, rfl, by omega, hid (by simp), GC.out⟩
        case round =>
         obtain ⟨j, rfl, hj, HTK, hb⟩ := hrel
         have c4 := box2_fst hb 4 rfl
         have c4' := box2_snd hb 4 rfl
         have hw := box2_low hb
         by_cases hlt : j < an
         ·obtain ⟨s, hs⟩ : ∃ s, p.vs[j]? = some s := ⟨_, List.getElem?_eq_getElem (by rw [<- han.out]; exact hlt)⟩
          obtain ⟨s', hs'⟩ : ∃ s', q.vs[j]? = some s' := ⟨_, List.getElem?_eq_getElem (by rw [<- han'.out]; exact hlt)⟩
          obtain ⟨_, kb, ko, rfl, hkb, hc⟩ := HGV.out j s hs
          obtain ⟨_, kb', ko', rfl, hkb', hc'⟩ := HGV'.out j s' hs'
          have e0 := (hw.cell (p := ⟨kb, _, none⟩) (hB kb hkb)).trans hc.1
          have e1 := (hw.cell (p := ⟨kb, _, none⟩) (hB kb hkb)).trans hc.2.1
          have e2 := (hw.cell (p := ⟨kb, _, none⟩) (hB kb hkb)).trans hc.2.2
          have e0' := (hw.cell (p := ⟨kb', _, none⟩) (hB kb' hkb')).trans hc'.1
          have e1' := (hw.cell (p := ⟨kb', _, none⟩) (hB kb' hkb')).trans hc'.2.1
          have e2' := (hw.cell (p := ⟨kb', _, none⟩) (hB kb' hkb')).trans hc'.2.2
          clear hc hc'
          by_cases hss : s = s'
          ·subst hss
           have hn : Hid (p.vs.take (j + 1) = q.vs.take (j + 1)) := hid (by rw [take_snoc_get hs, take_snoc_get hs', HTK.out])
           clear hs hs'
           go_wp2_with fail
           go_quiet (fail)
           go_wp2_with fail
           go_roundw
           case rel => exact ⟨j + 1, by go_num, by omega, hn, below_drewN hb _⟩
           case measure => simp [intOf]; omega
          ·have HF := hid (HV3.out j s s' hs hs' hss)
           clear hs hs'
           obtain ⟨k, n, x⟩ := s
           obtain ⟨k', n', x'⟩ := s'
           simp only at e0 e1 e2 e0' e1' e2'
           by_cases z1 : k = k'
           ·subst z1
            by_cases z2 : n = n'
            ·subst z2
             have z3 : (x == x') = false := by simp; intro e; exact hss (by rw [e])
             clear hss
             go_wp2_with fail
             go_quiet (fail)
             go_wp2_with fail
             go_ret
             exact ⟨ret_bool (by rw [HF.out, Bool.false_and]), below_drewN hw _⟩
            ·have z3 := str_ne z2
             have z4 : (n.toList == n'.toList) = false := by simpa using z3
             clear hss z2
             go_wp2_with fail
             go_quiet (fail)
             go_wp2_with fail
             go_ret
             exact ⟨ret_bool (by rw [HF.out, Bool.false_and]), below_drewN hw _⟩
           ·have z3 : (k == k') = false := by simpa using z1
            clear hss z1
            go_wp2_with fail
            go_quiet (fail)
            go_wp2_with fail
            go_ret
            exact ⟨ret_bool (by rw [HF.out, Bool.false_and]), below_drewN hw _⟩
         ·obtain rfl : an = j := by omega
          have HB2 := hid (HV2.out (by first | trivial | rfl) HTK.out)
          clear HTK
          go_wp2_with fail
          clear c4 c4'
          have GD := hid hb
          clear hb
          go_loopw [6] (fun i wr => ∃ (m : Nat), i = .int .i64 m /\ m <= kn /\ Hid (p.ps.take m = q.ps.take m) /\ Below (w.heap.size + 2) (wb2 w p q la ln lc aa an ac ta tn tc ua un uc ka kn kc la' ln' lc' aa' an ac' ta' tn' tc' ua' un' uc' ka' kn kc') wr) (fun i _ => kn - (intOf i).toNat)
          case atStart => exact ⟨0, rfl, by omega, hid (by simp), GD.out⟩
          case round =>
           obtain ⟨m, rfl, hm, HTK, hb⟩ := hrel
           have c11 := box2_fst hb 11 rfl
           have c11' := box2_snd hb 11 rfl
           have hw := box2_low hb
           by_cases hlt : m < kn
           ·obtain ⟨s, hs⟩ : ∃ s, p.ps[m]? = some s := ⟨_, List.getElem?_eq_getElem (by rw [<- hkn.out]; exact hlt)⟩
            obtain ⟨s', hs'⟩ : ∃ s', q.ps[m]? = some s' := ⟨_, List.getElem?_eq_getElem (by rw [<- hkn'.out]; exact hlt)⟩
            obtain ⟨kb, ko, rfl, hkb, hty⟩ := HGK.out m s hs
            obtain ⟨kb', ko', rfl, hkb', hty'⟩ := HGK'.out m s' hs'
            obtain ⟨la1, ln1, lc1, aa1, an1, ac1, ta1, tn1, tc1, ua1, un1, uc1, ka1, kn1, kc1, ⟨D0, D1, D2, D3, D4, D5, D6, D7, D8, D9, D10, D11⟩, hval⟩ := (hty.keep (hw.keeps'.mono hB)).load'
            obtain ⟨la2, ln2, lc2, aa2, an2, ac2, ta2, tn2, tc2, ua2, un2, uc2, ka2, kn2, kc2, ⟨F0, F1, F2, F3, F4, F5, F6, F7, F8, F9, F10, F11⟩, hval'⟩ := (hty'.keep (hw.keeps'.mono hB)).load'
            have IH : Hid (∀ W, Below wr.heap.size wr W -> Calls Tryz.prog 15 #[prAgg s (.slice la1 ln1 lc1) (.slice aa1 an1 ac1) (.slice ta1 tn1 tc1) (.slice ua1 un1 uc1) (.slice ka1 kn1 kc1), prAgg s' (.slice la2 ln2 lc2) (.slice aa2 an2 ac2) (.slice ta2 tn2 tc2) (.slice ua2 un2 uc2) (.slice ka2 kn2 kc2)] W fun e w' => e = .returned (.bool (eqP s s')) /\ Below W.heap.size W w') :=
             hid (fun W hW => HIH.out s (List.mem_of_getElem? hs) s' _ _ W (hB.le (Nat.le_trans hw.size hW.size)) (hval.to (hB.le hw.size) hW) (hval'.to (hB.le hw.size) hW))
            have hbk := hB kb hkb
            have hbk' := hB kb' hkb'
            have lift : ∀ {v : Value} {x : Nat}, wr.cell? ⟨kb, x, none⟩ = some v -> ∀ W, Below wr.heap.size wr W -> W.cell? ⟨kb, x, none⟩ = some v := fun h W hW => (hW.cell (p := ⟨kb, _, none⟩) (by have := hw.size; simp; omega)).trans h
            have lift' : ∀ {v : Value} {x : Nat}, wr.cell? ⟨kb', x, none⟩ = some v -> ∀ W, Below wr.heap.size wr W -> W.cell? ⟨kb', x, none⟩ = some v := fun h W hW => (hW.cell (p := ⟨kb', _, none⟩) (by have := hw.size; simp; omega)).trans h
            have x11 := fun Q : Later wr.heap.size wr => (Q.2.cell (p := ⟨w.heap.size, 11, none⟩) (by have := hb.size; simp at this; simp; omega)).trans c11
            have x11' := fun Q : Later wr.heap.size wr => (Q.2.cell (p := ⟨w.heap.size + 1, 11, none⟩) (by have := hb.size; simp at this; simp; omega)).trans c11'
            have X0 := fun Q : Later wr.heap.size wr => lift D0 Q.1 Q.2
            have Y0 := fun Q : Later wr.heap.size wr => lift' F0 Q.1 Q.2
            have X1 := fun Q : Later wr.heap.size wr => lift D1 Q.1 Q.2
            have Y1 := fun Q : Later wr.heap.size wr => lift' F1 Q.1 Q.2
            have X2 := fun Q : Later wr.heap.size wr => lift D2 Q.1 Q.2
            have Y2 := fun Q : Later wr.heap.size wr => lift' F2 Q.1 Q.2
            have X3 := fun Q : Later wr.heap.size wr => lift D3 Q.1 Q.2
            have Y3 := fun Q : Later wr.heap.size wr => lift' F3 Q.1 Q.2
            have X4 := fun Q : Later wr.heap.size wr => lift D4 Q.1 Q.2
            have Y4 := fun Q : Later wr.heap.size wr => lift' F4 Q.1 Q.2
            have X5 := fun Q : Later wr.heap.size wr => lift D5 Q.1 Q.2
            have Y5 := fun Q : Later wr.heap.size wr => lift' F5 Q.1 Q.2
            have X6 := fun Q : Later wr.heap.size wr => lift D6 Q.1 Q.2
            have Y6 := fun Q : Later wr.heap.size wr => lift' F6 Q.1 Q.2
            have X7 := fun Q : Later wr.heap.size wr => lift D7 Q.1 Q.2
            have Y7 := fun Q : Later wr.heap.size wr => lift' F7 Q.1 Q.2
            have X8 := fun Q : Later wr.heap.size wr => lift D8 Q.1 Q.2
            have Y8 := fun Q : Later wr.heap.size wr => lift' F8 Q.1 Q.2
            have X9 := fun Q : Later wr.heap.size wr => lift D9 Q.1 Q.2
            have Y9 := fun Q : Later wr.heap.size wr => lift' F9 Q.1 Q.2
            have X10 := fun Q : Later wr.heap.size wr => lift D10 Q.1 Q.2
            have Y10 := fun Q : Later wr.heap.size wr => lift' F10 Q.1 Q.2
            have X11 := fun Q : Later wr.heap.size wr => lift D11 Q.1 Q.2
            have Y11 := fun Q : Later wr.heap.size wr => lift' F11 Q.1 Q.2
            clear lift lift' hval hval' hty hty' D0 F0 D1 F1 D2 F2 D3 F3 D4 F4 D5 F5 D6 F6 D7 F7 D8 F8 D9 F9 D10 F10 D11 F11
            by_cases hss : s = s'
            ·rw [eqP_true.2 hss] at IH
             have hn : Hid (p.ps.take (m + 1) = q.ps.take (m + 1)) := hid (by rw [take_snoc_get hs, take_snoc_get hs', HTK.out, hss])
             clear hs hs' hss
             unfold prAgg at IH
             go_wp2_with fail
             clear c11 c11'
             refine wp_region_later wr.heap.size wr (by kernel_rfl) (by kernel_rfl) (Below.refl _ _) ?_
             repeat (go_big_quiet_step ((go_at_call 15; exact later_call _ (Nat.le_refl _) (IH.out _ (Subtype.property _)))))
             refine wpQuiet_nil ?_
             rintro _ ⟨⟨w5, hb5⟩, rfl⟩
             clear x11 x11' X0 Y0 X1 Y1 X2 Y2 X3 Y3 X4 Y4 X5 Y5 X6 Y6 X7 Y7 X8 Y8 X9 Y9 X10 Y10 X11 Y11
             go_wp2_with fail
             go_roundw
             case rel => exact ⟨m + 1, by go_num, by omega, hn, hb.trans (hb5.mono (by have := hb.size; simpa using this))⟩
             case measure => simp [intOf]; omega
            ·rw [eqP_ne hss] at IH
             have HF := hid (HK3.out m s s' hs hs' hss)
             clear hs hs' hss
             unfold prAgg at IH
             go_wp2_with fail
             clear c11 c11'
             refine wp_region_later wr.heap.size wr (by kernel_rfl) (by kernel_rfl) (Below.refl _ _) ?_
             repeat (go_big_quiet_step ((go_at_call 15; exact later_call _ (Nat.le_refl _) (IH.out _ (Subtype.property _)))))
             refine wpQuiet_nil ?_
             rintro _ ⟨⟨w5, hb5⟩, rfl⟩
             clear x11 x11' X0 Y0 X1 Y1 X2 Y2 X3 Y3 X4 Y4 X5 Y5 X6 Y6 X7 Y7 X8 Y8 X9 Y9 X10 Y10 X11 Y11
             go_wp2_with fail
             go_ret
             exact ⟨ret_bool (by rw [HF.out, Bool.and_false]), below_seq hw hb5⟩
           ·obtain rfl : m = kn := by omega
            have HB4 := hid (HK2.out (by first | trivial | rfl) HTK.out)
            clear HTK
            go_wp2_with fail
            go_ret
            exact ⟨ret_bool (by rw [HB2.out, HB4.out]; rfl), hw⟩
       ·have HF := hid (HK1.out h5)
        have h5' : (kn != kn') = true := by simpa using h5
        clear h5
        go_enter Tryz.func15, Tryz.ntmps15
        go_wp2_with fail
        refine HT.out.mono ?_
        rintro e w1 ⟨rfl, g1⟩
        have gb : Below (w.heap.size + 2) (wb2 w p q la ln lc aa an ac ta tn tc ua un uc ka kn kc la' ln' lc' aa' an ac' ta' tn' tc' ua' un' uc' ka' kn' kc') w1 := g1.mono (by simp)
        have c4 := box2_fst gb 4 rfl
        have c4' := box2_snd gb 4 rfl
        have c5 := box2_fst gb 5 rfl
        have c5' := box2_snd gb 5 rfl
        have c6 := box2_fst gb 6 rfl
        have c6' := box2_snd gb 6 rfl
        have c7 := box2_fst gb 7 rfl
        have c7' := box2_snd gb 7 rfl
        have c8 := box2_fst gb 8 rfl
        have c8' := box2_snd gb 8 rfl
        have c9 := box2_fst gb 9 rfl
        have c9' := box2_snd gb 9 rfl
        have c10 := box2_fst gb 10 rfl
        have c10' := box2_snd gb 10 rfl
        go_wp2_with fail
        clear c4 c4' c5 c5' c6 c6' c7 c7' c8 c8' c9 c9' c10 c10'
        refine (HY.out _ (box2_low gb)).mono ?_
        rintro e w2 ⟨rfl, g2⟩
        have gc : Below (w.heap.size + 2) (wb2 w p q la ln lc aa an ac ta tn tc ua un uc ka kn kc la' ln' lc' aa' an ac' ta' tn' tc' ua' un' uc' ka' kn' kc') w2 := gb.trans (g2.mono (by have := gb.size; simp at this; omega))
        have c11 := box2_fst gc 11 rfl
        have c11' := box2_snd gc 11 rfl
        go_wp2_with fail
        go_ret
        exact ⟨ret_bool (by rw [HF.out, Bool.and_false]), box2_low gc⟩
     ·have HF := hid (HV1.out h4)
      have h4' : (an != an') = true := by simpa using h4
      have h4'' : (an == an') = false := by simpa using h4
      have h4i : ((an : Int) == (an' : Int)) = false := by simp; omega
      have h4j : ((an : Int) != (an' : Int)) = true := by simp; omega
      clear h4
      go_enter Tryz.func15, Tryz.ntmps15
      go_wp2_with fail
      refine HT.out.mono ?_
      rintro e w1 ⟨rfl, g1⟩
      have gb : Below (w.heap.size + 2) (wb2 w p q la ln lc aa an ac ta tn tc ua un uc ka kn kc la' ln' lc' aa' an' ac' ta' tn' tc' ua' un' uc' ka' kn' kc') w1 := g1.mono (by simp)
      have c4 := box2_fst gb 4 rfl
      have c4' := box2_snd gb 4 rfl
      go_wp2_with fail
      go_ret
      exact ⟨ret_bool (by rw [HF.out, Bool.false_and]), box2_low gb⟩
   ·have h3' := str_ne h3
    have h3e : (p.x.toList == q.x.toList) = false := by simpa using h3'
    rw [show decide (p.x = q.x) = false by simpa using h3, Bool.false_and]
    clear h1 h2 h3
    go_enter Tryz.func15, Tryz.ntmps15
    go_wp2_with fail
    go_ret
    exact ⟨rfl, HB0.out⟩
  ·have h2' := str_ne h2
   have h2e : (p.c.toList == q.c.toList) = false := by simpa using h2'
   rw [show decide (p.c = q.c) = false by simpa using h2, Bool.false_and]
   clear h1 h2
   go_enter Tryz.func15, Tryz.ntmps15
   go_wp2_with fail
   go_ret
   exact ⟨rfl, HB0.out⟩
 ·have h1' : (p.k != q.k) = true := by simpa using h1
  rw [show decide (p.k = q.k) = false by simpa using h1, Bool.false_and]
  clear h1
  go_enter Tryz.func15, Tryz.ntmps15
  go_wp2_with fail
  go_ret
  exact ⟨rfl, HB0.out⟩
theorem rpsame_any (B : Nat -> Prop) : ∀ (p : Pr), RSameP B p := by
 refine Pr.ind ?_
 intro k c x ls vs t ps ih q v v' w hB hv hv'
 exact rpsame_step B (.mk k c x ls vs t ps) q ih v v' w hB hv hv'
end Go.Proofs.YtejaboajgecpaaaGreatDoor
