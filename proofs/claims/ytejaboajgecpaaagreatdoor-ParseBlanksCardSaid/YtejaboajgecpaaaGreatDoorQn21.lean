/- Parsing: lemmas. -/
import Derived.Test.YtejaboajgecpaaaGreatDoorQn20
set_option maxHeartbeats 16000000
set_option maxRecDepth 100000
namespace Go.Proofs.YtejaboajgecpaaaGreatDoor
open Go.Lib (hid)
open Go.RowKit Go.Deep Go.Shelf
def PartsRes (P tb : Nat) (E : Int) (base : Nat) (l : Value) (xs : List Pr) (W : World) (r : PR (List Pr)) (e : Ending) (w' : World) : Prop := match r with
 | .ok ys r => (∃ l' vs', e = .returned l' /\ LRow 31 12 base (fun B w v p => PrVal B w v p) (fun _ => False) w' l' vs' (xs ++ ys) /\ ∀ k, l'.ownBlock = some k -> l.ownBlock = some k \/ W.heap.size <= k) /\ PaIs P tb E r w' /\ ButO P (fun k => some k = l.ownBlock) W w'
 | .bad er r => e = .panicked (faultP er (posE E r)) /\ ButO P (fun k => some k = l.ownBlock) W w'
def PartsAt (P tb : Nat) (E : Int) (B f : Nat) (ts : List Tk) : Prop := ∀ (base : Nat) (l : Value) (vs : List Value) (xs : List Pr) (W : World), P < base -> tb < base -> base <= W.heap.size -> xs.length + ts.length <= 1000000 -> Env B W -> PaIs P tb E ts W -> LRow 31 12 base (fun B w v p => PrVal B w v p) (fun _ => False) W l vs xs ->
 Calls Tryz.prog 65 #[.pointer (some ⟨P, 0, none⟩), l] W (PartsRes P tb E base l xs W (pparts nameB f true ts))
def SingAt (P tb : Nat) (E : Int) (B f : Nat) (ts : List Tk) : Prop := ∀ (W : World), Env B W -> PaIs P tb E ts W -> Calls Tryz.prog 91 #[.pointer (some ⟨P, 0, none⟩)] W (Parsed P tb E W (psing nameB f ts) (GPr W.heap.size))
theorem pparts_single {isN : ByteArray -> Bool} : ∀ (f : Nat) (ts : List Tk) (l : List Pr) (r : List Tk), pparts isN f false ts = .ok l r -> ∃ p, l = [p]
 | 0, ts, l, r, h => by rw [pparts] at h; cases h
 | f + 1, ts, l, r, h => by
  rw [pparts] at h
  split at h
  ·cases h; exact ⟨_, rfl⟩
  split at h
  ·cases h1 : pparts isN f true ts.tail with
   | bad e r1 => rw [h1] at h; cases h
   | ok m r1 =>
    rw [h1] at h
    replace h : ((need sShut r1).bind fun _ r => PR.ok [parOf m] r) = .ok l r := h
    cases h2 : need sShut r1 with
    | bad e r2 => rw [h2] at h; cases h
    | ok u r2 => rw [h2] at h; cases h; exact ⟨_, rfl⟩
  split at h
  ·cases h1 : pnewS isN (psess isN f) (fun r => (pparts isN f false r).bind fun l r => .ok (parOf l) r) ts.tail with
   | bad e r1 => rw [h1] at h; cases h
   | ok p r1 => rw [h1] at h; cases h; exact ⟨_, rfl⟩
  ·cases h1 : pname isN ts with
   | bad e r1 => rw [h1] at h; cases h
   | ok c r1 =>
    rw [h1] at h
    replace h : ((pnamedS isN (fun r => (pparts isN f true r).bind fun l r => .ok (parOf l) r) (fun r => (pparts isN f false r).bind fun l r => .ok (parOf l) r) f c r1).bind fun p r => PR.ok [p] r) = .ok l r := h
    cases h2 : pnamedS isN (fun r => (pparts isN f true r).bind fun l r => .ok (parOf l) r) (fun r => (pparts isN f false r).bind fun l r => .ok (parOf l) r) f c r1 with
    | bad e r2 => rw [h2] at h; cases h
    | ok p r2 => rw [h2] at h; cases h; exact ⟨_, rfl⟩
theorem pparts_psing {isN : ByteArray -> Bool} (f : Nat) (ts : List Tk) : pparts isN f false ts = (psing isN f ts).bind fun p r => .ok [p] r := by
 unfold psing
 cases h : pparts isN f false ts with
 | bad e r => rfl
 | ok l r =>
  obtain ⟨p, rfl⟩ := pparts_single f ts l r h
  rfl
theorem pparts_true {isN : ByteArray -> Bool} (f : Nat) (ts : List Tk) : pparts isN (f + 1) true ts = (if hd sOpen ts = true then (pparts isN f true ts.tail).bind fun l r => (need sShut r).bind fun _ r => .ok l r else (psing isN f ts).bind fun p r => .ok [p] r).bind fun l r => if hd sBar r = true then (pparts isN f true r.tail).bind fun m r => .ok (l ++ m) r else .ok l r := by
 rw [pparts, <- pparts_psing]
theorem bind_app {ys zs : List Pr} (p : PR (List Pr)) : ((p.bind fun m r => PR.ok (zs ++ m) r).bind fun m r => PR.ok (ys ++ m) r) = p.bind fun m r => .ok (ys ++ zs ++ m) r := by
 cases p with
 | bad e r => rfl
 | ok m r => show PR.ok (ys ++ (zs ++ m)) r = PR.ok (ys ++ zs ++ m) r; rw [List.append_assoc]
theorem pprocElem : ElemOf 29 31 12 := procElem'
theorem PR.bind_ok {α β : Type} {p : PR α} {f : α -> List Tk -> PR β} {x : β} {r : List Tk} (h : p.bind f = .ok x r) : ∃ y s, p = .ok y s /\ f y s = .ok x r := by
 cases p with
 | ok y s => exact ⟨y, s, rfl, h⟩
 | bad e s => cases h
theorem prest_le {S : List Tk -> PR Pr} (hS : Shorter S) : Shorter (prestS S) := by
 intro ts x r h
 obtain ⟨_, s, h1, h2⟩ := PR.bind_ok h
 have := need_le h1
 have := hS _ _ _ h2
 omega
theorem psend_le {S : List Tk -> PR Pr} (hS : Shorter S) (c : ByteArray) : Shorter (psendS nameB S c) := by
 intro ts x r h
 obtain ⟨_, s1, h1, h⟩ := PR.bind_ok h
 obtain ⟨_, s2, h2, h⟩ := PR.bind_ok h
 obtain ⟨_, s3, h3, h⟩ := PR.bind_ok h
 obtain ⟨_, s4, h4, h⟩ := PR.bind_ok h
 cases h
 have := need_le h1
 have := pval_le _ _ _ h2
 have := need_le h3
 have := prest_le hS _ _ _ h4
 omega
theorem precv_le {S : List Tk -> PR Pr} (hS : Shorter S) (c : ByteArray) : Shorter (precvS nameB S c) := by
 intro ts x r h
 obtain ⟨_, s1, h1, h⟩ := PR.bind_ok h
 obtain ⟨_, s2, h2, h⟩ := PR.bind_ok h
 obtain ⟨_, s3, h3, h⟩ := PR.bind_ok h
 obtain ⟨_, s4, h4, h⟩ := PR.bind_ok h
 cases h
 have := need_le h1
 have := pname_le h2
 have := need_le h3
 have := prest_le hS _ _ _ h4
 omega
theorem psel_le {S : List Tk -> PR Pr} (hS : Shorter S) (c : ByteArray) : Shorter (pselS nameB S c) := by
 intro ts x r h
 obtain ⟨_, s1, h1, h⟩ := PR.bind_ok h
 obtain ⟨_, s2, h2, h⟩ := PR.bind_ok h
 cases h
 have := pname_le h1
 have := prest_le hS _ _ _ h2
 omega
theorem pbra_le {S : List Tk -> PR Pr} (hS : Shorter S) (g : Nat) (c : ByteArray) : Shorter (pbraS nameB S g c) := by
 intro ts x r h
 obtain ⟨_, s1, h1, h⟩ := PR.bind_ok h
 cases h
 exact pcases_le hS g _ _ _ h1
theorem pcall_le (g : Nat) (c : ByteArray) : Shorter (pcallS nameB g c) := by
 intro ts x r h
 obtain ⟨_, s1, h1, h⟩ := PR.bind_ok h
 obtain ⟨_, s2, h2, h⟩ := PR.bind_ok h
 cases h
 have := need_le h1
 have := plistUpTo_le pval_le _ g _ _ _ h2
 omega
theorem pnew_le {F : List Tk -> PR Ty} {S : List Tk -> PR Pr} (hF : Shorter F) (hS : Shorter S) : Shorter (pnewS nameB F S) := by
 intro ts x r h
 obtain ⟨_, s1, h1, h⟩ := PR.bind_ok h
 obtain ⟨_, s2, h2, h⟩ := PR.bind_ok h
 obtain ⟨_, s3, h3, h⟩ := PR.bind_ok h
 obtain ⟨_, s4, h4, h⟩ := PR.bind_ok h
 obtain ⟨_, s5, h5, h⟩ := PR.bind_ok h
 obtain ⟨_, s6, h6, h⟩ := PR.bind_ok h
 obtain ⟨_, s7, h7, h⟩ := PR.bind_ok h
 obtain ⟨_, s8, h8, h⟩ := PR.bind_ok h
 cases h
 have := need_le h1
 have := pname_le h2
 have := need_le h3
 have := pname_le h4
 have := need_le h5
 have := hF _ _ _ h6
 have := need_le h7
 have := hS _ _ _ h8
 omega
theorem pnamed_le {PF S : List Tk -> PR Pr} (hF : Shorter PF) (hS : Shorter S) (g : Nat) (c : ByteArray) : Shorter (pnamedS nameB PF S g c) := by
 intro ts x r h
 unfold pnamedS at h
 split at h
 ·next hc => have := hd_tail hc; have := psend_le hS _ _ _ _ h; omega
 split at h
 ·next hc => have := hd_tail hc; have := precv_le hS _ _ _ _ h; omega
 split at h
 ·next hc => have := hd_tail hc; have := psel_le hS _ _ _ _ h; omega
 split at h
 ·next hc => have := hd_tail hc; have := pbra_le hF _ _ _ _ _ h; omega
 ·exact pcall_le _ _ _ _ _ h
theorem pparts_len : ∀ (f : Nat) (b : Bool) (ts : List Tk) (l : List Pr) (r : List Tk), pparts nameB f b ts = .ok l r -> r.length < ts.length /\ l.length + r.length <= ts.length
 | 0, _, _, _, _, h => by rw [pparts] at h; cases h
 | f + 1, true, ts, l, r, h => by
  have ih := pparts_len f
  rw [pparts] at h
  obtain ⟨m, s, h1, h2⟩ := PR.bind_ok h
  have k1 : s.length < ts.length /\ m.length + s.length <= ts.length := by
   split at h1
   ·next hc =>
    have := hd_tail hc
    obtain ⟨m2, s2, h3, h4⟩ := PR.bind_ok h1
    obtain ⟨_, s3, h5, h6⟩ := PR.bind_ok h4
    cases h6
    have := ih _ _ _ _ h3
    have := need_le h5
    omega
   ·exact ih _ _ _ _ h1
  split at h2
  ·next hc =>
   have := hd_tail hc
   obtain ⟨m2, s2, h3, h4⟩ := PR.bind_ok h2
   cases h4
   have := ih _ _ _ _ h3
   rw [List.length_append]
   omega
  ·cases h2; exact k1
 | f + 1, false, ts, l, r, h => by
  have ih := pparts_len f
  have ihs : ∀ b, Shorter (fun r => (pparts nameB f b r).bind fun l r => PR.ok (parOf l) r) := fun b ts x r h => by
   obtain ⟨m, s, h1, h2⟩ := PR.bind_ok h
   cases h2
   exact (ih _ _ _ _ h1).1
  have h0 := pparts_single _ _ _ _ h
  obtain ⟨p, rfl⟩ := h0
  have key : r.length < ts.length := by
   rw [pparts] at h
   split at h
   ·next hc => cases h; exact hd_tail hc
   split at h
   ·next hc =>
    have := hd_tail hc
    obtain ⟨m2, s2, h3, h4⟩ := PR.bind_ok h
    obtain ⟨_, s3, h5, h6⟩ := PR.bind_ok h4
    cases h6
    have := ih _ _ _ _ h3
    have := need_le h5
    omega
   split at h
   ·next hc =>
    have := hd_tail hc
    obtain ⟨m2, s2, h3, h4⟩ := PR.bind_ok h
    cases h4
    have := pnew_le (psess_le f) (ihs false) _ _ _ h3
    omega
   ·obtain ⟨c, s, h1, h2⟩ := PR.bind_ok h
    obtain ⟨m2, s2, h3, h4⟩ := PR.bind_ok h2
    cases h4
    have := pname_le h1
    have := pnamed_le (ihs true) (ihs false) _ _ _ _ _ h3
    omega
  refine ⟨key, ?_⟩
  simp only [List.length_singleton]
  omega
theorem pparts_any (P tb : Nat) (E : Int) (B : Nat) (hBP : B <= P) (f : Nat) (ts : List Tk) (hf : 2 * ts.length + 2 <= f) (ihS : ∀ f2 ts2, f2 < f -> 2 * ts2.length + 1 <= f2 -> SingAt P tb E B f2 ts2) (ihP : ∀ f2 ts2, f2 < f -> 2 * ts2.length + 2 <= f2 -> PartsAt P tb E B f2 ts2) : PartsAt P tb E B f ts := by
 intro base l0 vs0 xs W hPb htb hbW hxl he h hrow0
 obtain ⟨la0, ln0, lc0, rfl⟩ := hrow0.row.slice
 have HS := hid ihS
 have HPP := hid ihP
 have HE := hid he
 have HP0 := hid h
 have HR0 := hid hrow0
 have hPW : P < W.heap.size := h.lt
 have hlr : ∀ k, (Value.slice la0 ln0 lc0).ownBlock = some k -> base <= k := fun k hk => (hrow0.row.lt k hk).1
 have HLR := hid hlr
 clear ihS ihP he h hrow0 hlr
 go_enter Tryz.func65, Tryz.ntmps65
 go_wp2_with fail
 go_loopw [1] (fun l wr => ∃ (ys : List Pr) (rs : List Tk) (vs : List Value) (la : Option Addr) (ln lc f2 : Nat), l = .slice la ln lc /\ Hid (LRow 31 12 base (fun B w v p => PrVal B w v p) (fun _ => False) wr (.slice la ln lc) vs (xs ++ ys)) /\ Hid (PaIs P tb E rs wr) /\ Hid (ButO P (fun k => some k = (Value.slice la0 ln0 lc0).ownBlock) W wr) /\ Hid (∀ k, (Value.slice la ln lc).ownBlock = some k -> (Value.slice la0 ln0 lc0).ownBlock = some k \/ W.heap.size <= k) /\ Hid (pparts nameB f true ts = (pparts nameB f2 true rs).bind fun m r => .ok (ys ++ m) r) /\ Hid (2 * rs.length + 2 <= f2) /\ Hid (f2 <= f) /\ Hid ((xs ++ ys).length + rs.length <= 1000000)) (fun _ wr => leftW P wr)
 case atStart =>
  refine ⟨[], ts, vs0, _, _, _, f, rfl, hid (by rw [List.append_nil]; exact HR0.out), HP0, hid (ButO.refl _ _ _), hid (fun k hk => .inl hk), hid ?_, hid hf, hid (Nat.le_refl _), hid (by rw [List.append_nil]; exact hxl)⟩
  cases pparts nameB f true ts <;> rfl
 case round =>
  obtain ⟨ys, rs, vs, la, ln, lc, f2, rfl, HR, HPa, HBo, HOw, HEq, HF2, HFf, HLn⟩ := hrel
  rename World => V0
  clear HR0 HP0
  have hf2 := HF2.out
  have hff := HFf.out
  have hln := HLn.out
  obtain ⟨f3, rfl⟩ : ∃ g, f2 = g + 1 := ⟨f2 - 1, by omega⟩
  have HLEFT := hid HPa.out.left
  have HLR2 : Hid (∀ k, (Value.slice la ln lc).ownBlock = some k -> base <= k) := hid (fun k hk => (HR.out.row.lt k hk).1)
  have HBV : Hid (∀ w', But P V0 w' -> Env B w') := hid (fun w' hw => HE.out.below ((HBo.out.trans (hw.o (fun _ => False)) (fun _ h => h.elim)).below hBP (fun k hk => by have := HLR.out k hk.symm; omega) HE.out.size))
  cases ha : hd sOpen rs with
  | true =>
   have hrt := hd_tail ha
   cases h2 : pparts nameB f3 true rs.tail with
   | bad er r2 =>
    have e5 : pparts nameB f true ts = .bad er r2 := by rw [HEq.out, pparts_true, if_pos ha, h2]; rfl
    go_wp2_with (first | (go_at_call 50; refine (take_yes P tb E _ (by decide +kernel) _ _ (by assumption) HPa.out).mono ?_; rintro en w1 ⟨rfl, hp, hb⟩; have HPw1 := hid hp; have HBw1 := hid hb; clear hp hb) | (go_at_call 65; refine (HPP.out f3 rs.tail (by omega) (by omega) base (.slice la ln lc) vs (xs ++ ys) w1 hPb htb (Nat.le_trans hbW (Nat.le_trans HBo.out.size HBw1.out.size)) (by omega) (HBV.out _ HBw1.out) HPw1.out (HR.out.frame lyPr (HBw1.out.o _) hPb (fun _ h => h.elim))).mono ?_; rw [h2]; rintro en w2 ⟨rfl, hb⟩; have HBw2 := hid hb; clear hb))
    exact ⟨rfl, by rw [e5]; exact ⟨rfl, (HBo.out.trans (HBw1.out.o (fun _ => False)) (fun _ h => h.elim)).trans HBw2.out (fun k hk => (HOw.out k hk.symm).imp (fun h => h.symm) (fun h => Nat.le_trans h (Nat.le_trans (Nat.le_refl _) (by have := HBo.out.size; have := HBw1.out.size; omega))))⟩⟩
   | ok y2 r2 =>
    have hl2 := pparts_len _ _ _ _ _ h2
    cases h3 : need sShut r2 with
    | bad er r3 =>
     have e5 : pparts nameB f true ts = .bad er r3 := by rw [HEq.out, pparts_true, if_pos ha, h2]; show PR.bind (PR.bind (PR.bind (need sShut r2) _) _) _ = _; rw [h3]; rfl
     go_wp2_with (first | (go_at_call 50; refine (take_yes P tb E _ (by decide +kernel) _ _ (by assumption) HPa.out).mono ?_; rintro en w1 ⟨rfl, hp, hb⟩; have HPw1 := hid hp; have HBw1 := hid hb; clear hp hb) | (go_at_call 65; refine (HPP.out f3 rs.tail (by omega) (by omega) base (.slice la ln lc) vs (xs ++ ys) w1 hPb htb (Nat.le_trans hbW (Nat.le_trans HBo.out.size HBw1.out.size)) (by omega) (HBV.out _ HBw1.out) HPw1.out (HR.out.frame lyPr (HBw1.out.o _) hPb (fun _ h => h.elim))).mono ?_; rw [h2]; rintro en w2 ⟨⟨l2, vs2, rfl, hr2, ho2⟩, hp, hb⟩; obtain ⟨la2, ln2, lc2, rfl⟩ := hr2.row.slice; have HPw2 := hid hp; have HBw2 := hid hb; have HR2 := hid hr2; have HO2 : Hid (∀ k, (Value.slice la2 ln2 lc2).ownBlock = some k -> (Value.slice la0 ln0 lc0).ownBlock = some k \/ W.heap.size <= k) := hid (fun k hk => (ho2 k hk).elim (HOw.out k) (fun h => .inr (by have := HBo.out.size; have := HBw1.out.size; omega))); clear hp hb hr2 ho2) | (go_at_call 52; refine (expect_any P tb E _ (by decide +kernel) _ _ HPw2.out).mono ?_; rw [h3]; rintro en w3 ⟨rfl, hb⟩; have HBw3 := hid hb; clear hb))
     exact ⟨rfl, by rw [e5]; exact ⟨rfl, ((HBo.out.trans (HBw1.out.o (fun _ => False)) (fun _ h => h.elim)).trans HBw2.out (fun k hk => (HOw.out k hk.symm).imp (fun h => h.symm) (fun h => by have := HBo.out.size; have := HBw1.out.size; omega))).trans (HBw3.out.o (fun _ => False)) (fun _ h => h.elim)⟩⟩
    | ok u r3 =>
     have hl3 := need_le h3
     cases h4 : hd sBar r3 with
     | false =>
      have e5 : pparts nameB f true ts = .ok (ys ++ y2) r3 := by rw [HEq.out, pparts_true, if_pos ha, h2]; show PR.bind (PR.bind (PR.bind (need sShut r2) _) _) _ = _; rw [h3]; show PR.bind (if hd sBar r3 = true then _ else _) _ = _; rw [if_neg (by rw [h4]; simp)]; rfl
      go_wp2_with (first | (go_at_call 50; refine (take_yes P tb E _ (by decide +kernel) _ _ (by assumption) HPa.out).mono ?_; rintro en w1 ⟨rfl, hp, hb⟩; have HPw1 := hid hp; have HBw1 := hid hb; clear hp hb) | (go_at_call 65; refine (HPP.out f3 rs.tail (by omega) (by omega) base (.slice la ln lc) vs (xs ++ ys) w1 hPb htb (Nat.le_trans hbW (Nat.le_trans HBo.out.size HBw1.out.size)) (by omega) (HBV.out _ HBw1.out) HPw1.out (HR.out.frame lyPr (HBw1.out.o _) hPb (fun _ h => h.elim))).mono ?_; rw [h2]; rintro en w2 ⟨⟨l2, vs2, rfl, hr2, ho2⟩, hp, hb⟩; obtain ⟨la2, ln2, lc2, rfl⟩ := hr2.row.slice; have HPw2 := hid hp; have HBw2 := hid hb; have HR2 := hid hr2; have HO2 : Hid (∀ k, (Value.slice la2 ln2 lc2).ownBlock = some k -> (Value.slice la0 ln0 lc0).ownBlock = some k \/ W.heap.size <= k) := hid (fun k hk => (ho2 k hk).elim (HOw.out k) (fun h => .inr (by have := HBo.out.size; have := HBw1.out.size; omega))); clear hp hb hr2 ho2) | (go_at_call 52; refine (expect_any P tb E _ (by decide +kernel) _ _ HPw2.out).mono ?_; rw [h3]; rintro en w3 ⟨⟨_, rfl, _⟩, hp, hb⟩; have HPw3 := hid hp; have HBw3 := hid hb; clear hp hb) | (go_at_call 50; refine (take_no P tb E _ (by decide +kernel) _ _ (by assumption) HPw3.out).mono ?_; rintro en w4 ⟨rfl, hp, hb⟩; have HPw4 := hid hp; have HBw4 := hid hb; clear hp hb))
      go_ret
      rw [e5]
      have hb24 : But P w2 w4 := HBw3.out.trans HBw4.out
      refine ⟨⟨_, vs2, rfl, ?_, HO2.out⟩, HPw4.out, ((HBo.out.trans (HBw1.out.o (fun _ => False)) (fun _ h => h.elim)).trans HBw2.out (fun k hk => (HOw.out k hk.symm).imp (fun h => h.symm) (fun h => by have := HBo.out.size; have := HBw1.out.size; omega))).trans (hb24.o (fun _ => False)) (fun _ h => h.elim)⟩
      rw [<- List.append_assoc]
      exact HR2.out.frame lyPr (hb24.o _) hPb (fun _ h => h.elim)
     | true =>
      have e5 : pparts nameB f true ts = (pparts nameB f3 true r3.tail).bind fun m r => .ok (ys ++ y2 ++ m) r := by rw [HEq.out, pparts_true, if_pos ha, h2]; show PR.bind (PR.bind (PR.bind (need sShut r2) _) _) _ = _; rw [h3]; show PR.bind (if hd sBar r3 = true then _ else _) _ = _; rw [if_pos h4]; exact bind_app _
      have hl4 := hd_tail h4
      go_wp2_with (first | (go_at_call 50; refine (take_yes P tb E _ (by decide +kernel) _ _ (by assumption) HPa.out).mono ?_; rintro en w1 ⟨rfl, hp, hb⟩; have HPw1 := hid hp; have HBw1 := hid hb; clear hp hb) | (go_at_call 65; refine (HPP.out f3 rs.tail (by omega) (by omega) base (.slice la ln lc) vs (xs ++ ys) w1 hPb htb (Nat.le_trans hbW (Nat.le_trans HBo.out.size HBw1.out.size)) (by omega) (HBV.out _ HBw1.out) HPw1.out (HR.out.frame lyPr (HBw1.out.o _) hPb (fun _ h => h.elim))).mono ?_; rw [h2]; rintro en w2 ⟨⟨l2, vs2, rfl, hr2, ho2⟩, hp, hb⟩; obtain ⟨la2, ln2, lc2, rfl⟩ := hr2.row.slice; have HPw2 := hid hp; have HBw2 := hid hb; have HR2 := hid hr2; have HO2 : Hid (∀ k, (Value.slice la2 ln2 lc2).ownBlock = some k -> (Value.slice la0 ln0 lc0).ownBlock = some k \/ W.heap.size <= k) := hid (fun k hk => (ho2 k hk).elim (HOw.out k) (fun h => .inr (by have := HBo.out.size; have := HBw1.out.size; omega))); clear hp hb hr2 ho2) | (go_at_call 52; refine (expect_any P tb E _ (by decide +kernel) _ _ HPw2.out).mono ?_; rw [h3]; rintro en w3 ⟨⟨_, rfl, _⟩, hp, hb⟩; have HPw3 := hid hp; have HBw3 := hid hb; clear hp hb) | (go_at_call 50; refine (take_yes P tb E _ (by decide +kernel) _ _ (by assumption) HPw3.out).mono ?_; rintro en w4 ⟨rfl, hp, hb⟩; have HPw4 := hid hp; have HBw4 := hid hb; clear hp hb))
      have hb24 : But P w2 w4 := HBw3.out.trans HBw4.out
      have HB24 := hid hb24
      clear hb24
      go_roundw
      case rel => exact ⟨ys ++ y2, r3.tail, vs2, _, _, _, f3, rfl, hid (by rw [<- List.append_assoc]; exact HR2.out.frame lyPr (HB24.out.o _) hPb (fun _ h => h.elim)), HPw4, hid (((HBo.out.trans (HBw1.out.o (fun _ => False)) (fun _ h => h.elim)).trans HBw2.out (fun k hk => (HOw.out k hk.symm).imp (fun h => h.symm) (fun h => by have := HBo.out.size; have := HBw1.out.size; omega))).trans (HB24.out.o (fun _ => False)) (fun _ h => h.elim)), HO2, hid e5, hid (by omega), hid (by omega), hid (by simp only [List.length_append] at hln |-; omega)⟩
      case measure => rw [HPw4.out.left, HLEFT.out]; omega
  | false =>
   cases h2 : psing nameB f3 rs with
   | bad er r2 =>
    have e5 : pparts nameB f true ts = .bad er r2 := by rw [HEq.out, pparts_true, if_neg (by rw [ha]; simp), h2]; rfl
    go_wp2_with (first | (go_at_call 50; refine (take_no P tb E _ (by decide +kernel) _ _ (by assumption) HPa.out).mono ?_; rintro en w1 ⟨rfl, hp, hb⟩; have HPw1 := hid hp; have HBw1 := hid hb; clear hp hb) | (go_at_call 91; refine (HS.out f3 rs (by omega) (by omega) w1 (HBV.out _ HBw1.out) HPw1.out).mono ?_; rw [h2]; rintro en w2 ⟨rfl, hb⟩; have HBw2 := hid hb; clear hb))
    exact ⟨rfl, by rw [e5]; exact ⟨rfl, HBo.out.trans ((HBw1.out.trans HBw2.out).o (fun _ => False)) (fun _ h => h.elim)⟩⟩
   | ok p r2 =>
    have hl2 : r2.length < rs.length := by
     have h := pparts_psing (isN := nameB) f3 rs
     rw [h2] at h
     exact (pparts_len _ _ _ _ _ h).1
    cases h4 : hd sBar r2 with
    | false =>
     have e5 : pparts nameB f true ts = .ok (ys ++ [p]) r2 := by rw [HEq.out, pparts_true, if_neg (by rw [ha]; simp), h2]; show PR.bind (if hd sBar r2 = true then _ else _) _ = _; rw [if_neg (by rw [h4]; simp)]; rfl
     go_wp2_with (first | (go_at_call 50; refine (take_no P tb E _ (by decide +kernel) _ _ (by assumption) HPa.out).mono ?_; rintro en w1 ⟨rfl, hp, hb⟩; have HPw1 := hid hp; have HBw1 := hid hb; clear hp hb) | (go_at_call 91; refine (HS.out f3 rs (by omega) (by omega) w1 (HBV.out _ HBw1.out) HPw1.out).mono ?_; rw [h2]; rintro en w2 ⟨⟨v, rfl, hg⟩, hp, hb⟩; obtain ⟨qa, qn, qc, aa, an, ac, ta, tn, tc, ua, un, uc, ka, kn, kc, rfl⟩ := hg.open; have HPw2 := hid hp; have HBw2 := hid hb; have HG := hid hg; clear hp hb hg; obtain ⟨W3, hW3⟩ := ex1 (w2.alloc (.cells #[.int .i64 p.k, .string p.c, .string p.x, .slice qa qn qc, .slice aa an ac, .int .i64 p.t.k, .int .i64 p.t.p, .string p.t.n, .int .i64 p.t.s, .slice ta tn tc, .slice ua un uc, .slice ka kn kc] 31)); have hb3 : Below w2.heap.size w2 W3 := (by rw [<- hW3]; exact (Below.refl _ _).alloc (Nat.le_refl _) _); have HX3 := hid (show W3.heap[w2.heap.size]? = some (.cells #[.int .i64 p.k, .string p.c, .string p.x, .slice qa qn qc, .slice aa an ac, .int .i64 p.t.k, .int .i64 p.t.p, .string p.t.n, .int .i64 p.t.s, .slice ta tn tc, .slice ua un uc, .slice ka kn kc] 31 (0, 0)) by rw [<- hW3]; exact World.alloc_heap_new _ _); have hb03 : But P V0 W3 := (HBw1.out.trans HBw2.out).to hb3; have HRW := hid (HR.out.frame lyPr (hb03.o _) hPb (O' := fun _ => False) (fun _ h => h.elim)); have HV3 : Hid (PrVal (fun k => base <= k /\ k < W3.heap.size /\ ¬ False /\ some k ≠ (Value.slice la ln lc).ownBlock) W3 (.agg #[.int .i64 p.k, .string p.c, .string p.x, .slice qa qn qc, .slice aa an ac, .int .i64 p.t.k, .int .i64 p.t.p, .string p.t.n, .int .i64 p.t.s, .slice ta tn tc, .slice ua un uc, .slice ka kn kc]) p) := hid ((PrVal.keep ((But.of (P := P) hb3).keeps (fun k hk => ⟨hk.2, by have := HBo.out.size; have := HBw1.out.size; omega⟩)) HG.out).mono (fun k hk => ⟨by have := HBo.out.size; have := HBw1.out.size; omega, Nat.lt_of_lt_of_le hk.2 hb3.size, fun h => h, fun e => by have := (HR.out.row.lt k e.symm).2; have := HBw1.out.size; omega⟩)); have HB03 := hid hb03; have HP3 := hid (HPw2.out.to hb3); have HW3 := hid hW3; have hbW3 : base <= W3.heap.size := (by have := hb03.size; have := HBo.out.size; omega); clear hb3 hb03 hW3) | (rw [HW3.out]; at_builtin; refine wpList_appG pprocElem rfl _ _ rfl rfl HRW.out.row (some ⟨w2.heap.size, 0, none⟩) 1 1 [[.int .i64 p.k, .string p.c, .string p.x, .slice qa qn qc, .slice aa an ac, .int .i64 p.t.k, .int .i64 p.t.p, .string p.t.n, .int .i64 p.t.s, .slice ta tn tc, .slice ua un uc, .slice ka kn kc]] rfl rfl ?_ (src_at HX3.out) ?_ ?_ hbW3 ?_))
     ·intro e he; rw [List.mem_singleton.1 he]; rfl
     ·intro e he u hu; rw [List.mem_singleton.1 he] at hu; exact lyPr.one HV3.out u hu
     ·rw [List.length_map, List.length_singleton, HRW.out.len]; omega
     intro ga gn gc w3 hr6 hg6 hq6
     have hrow6 := HRW.out.grow lyPr HV3.out hr6 hg6 hq6 (fun _ h => h.elim)
     have HR3 : Hid (LRow 31 12 base (fun B w v p => PrVal B w v p) (fun _ => False) w3 (.slice ga gn gc) (vs ++ [.agg #[.int .i64 p.k, .string p.c, .string p.x, .slice qa qn qc, .slice aa an ac, .int .i64 p.t.k, .int .i64 p.t.p, .string p.t.n, .int .i64 p.t.s, .slice ta tn tc, .slice ua un uc, .slice ka kn kc]]) (xs ++ ys ++ [p])) := hid hrow6
     have HBO3 : Hid (ButO P (fun k => some k = (Value.slice la0 ln0 lc0).ownBlock) W w3) := hid ((HBo.out.trans (HB03.out.o (fun _ => False)) (fun _ h => h.elim)).trans (ButO.grown hg6 P) (fun k hk => (HOw.out k hk.symm).imp (fun h => h.symm) (fun h => h)))
     have HO3 : Hid (∀ k, (Value.slice ga gn gc).ownBlock = some k -> (Value.slice la0 ln0 lc0).ownBlock = some k \/ W.heap.size <= k) := hid (fun k hk => by
      rcases hq6 with h | h
      ·exact HOw.out k (h ▸ hk)
      ·have e := Option.some.inj (h.symm.trans hk)
       have := HBo.out.size
       have := HB03.out.size
       exact .inr (by omega))
     have HPw3 := hid (HP3.out.grown hg6 (fun e => by have := HLR2.out P e.symm; omega) (fun e => by have := HLR2.out tb e.symm; omega))
     clear hr6 hg6 hq6 hrow6
     go_wp2_with (go_at_call 50; refine (take_no P tb E _ (by decide +kernel) _ _ (by assumption) HPw3.out).mono ?_; rintro en w4 ⟨rfl, hp, hb⟩; have HPw4 := hid hp; have HBw4 := hid hb; clear hp hb)
     go_ret
     rw [e5]
     refine ⟨⟨_, vs ++ [.agg #[.int .i64 p.k, .string p.c, .string p.x, .slice qa qn qc, .slice aa an ac, .int .i64 p.t.k, .int .i64 p.t.p, .string p.t.n, .int .i64 p.t.s, .slice ta tn tc, .slice ua un uc, .slice ka kn kc]], rfl, ?_, HO3.out⟩, HPw4.out, HBO3.out.trans (HBw4.out.o (fun _ => False)) (fun _ h => h.elim)⟩
     rw [<- List.append_assoc]
     exact HR3.out.frame lyPr (HBw4.out.o _) hPb (fun _ h => h.elim)
    | true =>
     have e5 : pparts nameB f true ts = (pparts nameB f3 true r2.tail).bind fun m r => .ok (ys ++ [p] ++ m) r := by rw [HEq.out, pparts_true, if_neg (by rw [ha]; simp), h2]; show PR.bind (if hd sBar r2 = true then _ else _) _ = _; rw [if_pos h4]; exact bind_app _
     have hl4 := hd_tail h4
     go_wp2_with (first | (go_at_call 50; refine (take_no P tb E _ (by decide +kernel) _ _ (by assumption) HPa.out).mono ?_; rintro en w1 ⟨rfl, hp, hb⟩; have HPw1 := hid hp; have HBw1 := hid hb; clear hp hb) | (go_at_call 91; refine (HS.out f3 rs (by omega) (by omega) w1 (HBV.out _ HBw1.out) HPw1.out).mono ?_; rw [h2]; rintro en w2 ⟨⟨v, rfl, hg⟩, hp, hb⟩; obtain ⟨qa, qn, qc, aa, an, ac, ta, tn, tc, ua, un, uc, ka, kn, kc, rfl⟩ := hg.open; have HPw2 := hid hp; have HBw2 := hid hb; have HG := hid hg; clear hp hb hg; obtain ⟨W3, hW3⟩ := ex1 (w2.alloc (.cells #[.int .i64 p.k, .string p.c, .string p.x, .slice qa qn qc, .slice aa an ac, .int .i64 p.t.k, .int .i64 p.t.p, .string p.t.n, .int .i64 p.t.s, .slice ta tn tc, .slice ua un uc, .slice ka kn kc] 31)); have hb3 : Below w2.heap.size w2 W3 := (by rw [<- hW3]; exact (Below.refl _ _).alloc (Nat.le_refl _) _); have HX3 := hid (show W3.heap[w2.heap.size]? = some (.cells #[.int .i64 p.k, .string p.c, .string p.x, .slice qa qn qc, .slice aa an ac, .int .i64 p.t.k, .int .i64 p.t.p, .string p.t.n, .int .i64 p.t.s, .slice ta tn tc, .slice ua un uc, .slice ka kn kc] 31 (0, 0)) by rw [<- hW3]; exact World.alloc_heap_new _ _); have hb03 : But P V0 W3 := (HBw1.out.trans HBw2.out).to hb3; have HRW := hid (HR.out.frame lyPr (hb03.o _) hPb (O' := fun _ => False) (fun _ h => h.elim)); have HV3 : Hid (PrVal (fun k => base <= k /\ k < W3.heap.size /\ ¬ False /\ some k ≠ (Value.slice la ln lc).ownBlock) W3 (.agg #[.int .i64 p.k, .string p.c, .string p.x, .slice qa qn qc, .slice aa an ac, .int .i64 p.t.k, .int .i64 p.t.p, .string p.t.n, .int .i64 p.t.s, .slice ta tn tc, .slice ua un uc, .slice ka kn kc]) p) := hid ((PrVal.keep ((But.of (P := P) hb3).keeps (fun k hk => ⟨hk.2, by have := HBo.out.size; have := HBw1.out.size; omega⟩)) HG.out).mono (fun k hk => ⟨by have := HBo.out.size; have := HBw1.out.size; omega, Nat.lt_of_lt_of_le hk.2 hb3.size, fun h => h, fun e => by have := (HR.out.row.lt k e.symm).2; have := HBw1.out.size; omega⟩)); have HB03 := hid hb03; have HP3 := hid (HPw2.out.to hb3); have HW3 := hid hW3; have hbW3 : base <= W3.heap.size := (by have := hb03.size; have := HBo.out.size; omega); clear hb3 hb03 hW3) | (rw [HW3.out]; at_builtin; refine wpList_appG pprocElem rfl _ _ rfl rfl HRW.out.row (some ⟨w2.heap.size, 0, none⟩) 1 1 [[.int .i64 p.k, .string p.c, .string p.x, .slice qa qn qc, .slice aa an ac, .int .i64 p.t.k, .int .i64 p.t.p, .string p.t.n, .int .i64 p.t.s, .slice ta tn tc, .slice ua un uc, .slice ka kn kc]] rfl rfl ?_ (src_at HX3.out) ?_ ?_ hbW3 ?_))
     ·intro e he; rw [List.mem_singleton.1 he]; rfl
     ·intro e he u hu; rw [List.mem_singleton.1 he] at hu; exact lyPr.one HV3.out u hu
     ·rw [List.length_map, List.length_singleton, HRW.out.len]; omega
     intro ga gn gc w3 hr6 hg6 hq6
     have hrow6 := HRW.out.grow lyPr HV3.out hr6 hg6 hq6 (fun _ h => h.elim)
     have HR3 : Hid (LRow 31 12 base (fun B w v p => PrVal B w v p) (fun _ => False) w3 (.slice ga gn gc) (vs ++ [.agg #[.int .i64 p.k, .string p.c, .string p.x, .slice qa qn qc, .slice aa an ac, .int .i64 p.t.k, .int .i64 p.t.p, .string p.t.n, .int .i64 p.t.s, .slice ta tn tc, .slice ua un uc, .slice ka kn kc]]) (xs ++ ys ++ [p])) := hid hrow6
     have HBO3 : Hid (ButO P (fun k => some k = (Value.slice la0 ln0 lc0).ownBlock) W w3) := hid ((HBo.out.trans (HB03.out.o (fun _ => False)) (fun _ h => h.elim)).trans (ButO.grown hg6 P) (fun k hk => (HOw.out k hk.symm).imp (fun h => h.symm) (fun h => h)))
     have HO3 : Hid (∀ k, (Value.slice ga gn gc).ownBlock = some k -> (Value.slice la0 ln0 lc0).ownBlock = some k \/ W.heap.size <= k) := hid (fun k hk => by
      rcases hq6 with h | h
      ·exact HOw.out k (h ▸ hk)
      ·have e := Option.some.inj (h.symm.trans hk)
       have := HBo.out.size
       have := HB03.out.size
       exact .inr (by omega))
     have HPw3 := hid (HP3.out.grown hg6 (fun e => by have := HLR2.out P e.symm; omega) (fun e => by have := HLR2.out tb e.symm; omega))
     clear hr6 hg6 hq6 hrow6
     go_wp2_with (go_at_call 50; refine (take_yes P tb E _ (by decide +kernel) _ _ (by assumption) HPw3.out).mono ?_; rintro en w4 ⟨rfl, hp, hb⟩; have HPw4 := hid hp; have HBw4 := hid hb; clear hp hb)
     go_roundw
     case rel => exact ⟨ys ++ [p], r2.tail, vs ++ [.agg #[.int .i64 p.k, .string p.c, .string p.x, .slice qa qn qc, .slice aa an ac, .int .i64 p.t.k, .int .i64 p.t.p, .string p.t.n, .int .i64 p.t.s, .slice ta tn tc, .slice ua un uc, .slice ka kn kc]], _, _, _, f3, rfl, hid (by rw [<- List.append_assoc]; exact HR3.out.frame lyPr (HBw4.out.o _) hPb (fun _ h => h.elim)), HPw4, hid (HBO3.out.trans (HBw4.out.o (fun _ => False)) (fun _ h => h.elim)), HO3, hid e5, hid (by omega), hid (by omega), hid (by simp only [List.length_append, List.length_singleton] at hln |-; omega)⟩
     case measure => rw [HPw4.out.left, HLEFT.out]; omega
end Go.Proofs.YtejaboajgecpaaaGreatDoor
