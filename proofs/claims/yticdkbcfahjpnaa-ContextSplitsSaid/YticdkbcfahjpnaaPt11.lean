/- Contexts: the law's find, and its fixed example. (and what follows from it) -/
import Derived.Test.YticdkbcfahjpnaaPt10

/- Contexts: the law's find, and its fixed example. -/
namespace Go.Proofs.Yticdkbcfahjpnaa
open Go.RowKit Go.Deep Go.Shelf

/-! ### find of the law -/
theorem find_of {es : List Ent} {p : Ent → Bool} {j : Nat} {e : Ent} (h : ∀ k e, k < j → es[k]? = some e → p e = false) (he : es[j]? = some e) (hp : p e = true) : es.find? p = some e := by
  rw [fnd_idx]
  have hi : es.findIdx? p = some j := by
    rw [List.findIdx?_eq_some_iff_getElem]
    obtain ⟨h1, h2⟩ := List.getElem?_eq_some_iff.1 he
    exact ⟨h1, by rw [h2]; exact hp, fun k hk => by have := h k _ hk (List.getElem?_eq_getElem (by omega)); simp [this]⟩
  rw [hi]
  exact he
theorem find_no {es : List Ent} {p : Ent → Bool} (h : ∀ (k : Nat) (e : Ent), es[k]? = some e → p e = false) : es.find? p = none := by
  rw [List.find?_eq_none]
  intro x hx
  obtain ⟨k, hk⟩ := List.getElem?_of_mem hx
  simp [h k x hk]
set_option maxHeartbeats 4000000 in
set_option maxRecDepth 100000 in
theorem lfind_any (es : List Ent) (nm : ByteArray) (v : Value) (w : World) (hk : EnSl (fun k => k < w.heap.size) w v es) :
    Calls Try.prog 9 #[v, .string nm] w fun e w' => e = .returned (fndR (es.find? (entIs nm))) ∧ Below w.heap.size w w' := by
  obtain ⟨W1, hW1⟩ : ∃ W1, w.alloc (refO (.int .i64 0) (.int .i64 0)) = W1 := ⟨_, rfl⟩
  have hb1 : Below w.heap.size w W1 := by rw [← hW1]; exact blkBelow w _ _
  have x1 : W1.heap[w.heap.size]? = some (refO (.int .i64 0) (.int .i64 0)) := by rw [← hW1]; exact World.alloc_heap_new _ _
  obtain ⟨pa, len, c, rfl, hlen, hmx, hget⟩ := hk.open
  have HG : Hid (∀ j e, es[j]? = some e → ∃ kb ko, pa = some ⟨kb, ko, none⟩ ∧ EnAt W1 kb (ko + j * 3) e) := Lib.hid (fun j e hj => by
    obtain ⟨kb, ko, e1, hkb, hty⟩ := hget j e hj
    exact ⟨kb, ko, e1, hty.keep (B := fun k => k < w.heap.size) (hb1.keeps'.mono (fun k hk => hk)) hkb⟩)
  have HX := Lib.hid x1
  have HW1 := Lib.hid hW1
  have HB1 := Lib.hid hb1
  have HL : Hid (len = es.length) := Lib.hid hlen.out
  obtain ⟨q, hq⟩ : ∃ q, es.find? (entIs nm) = q := ⟨_, rfl⟩
  rw [hq]
  have HQ := Lib.hid hq
  clear hk hget hlen hW1 hb1 x1 hq
  go_enter Try.func9, Try.ntmps9
  go_upto_region 1 with fail
  rw [show w.alloc (.cells #[.int .i64 0, .int .i64 0] 24) = W1 from HW1.out]
  go_wp2_with fail
  go_loopw [6] (fun i wr => ∃ j : Nat, i = .int .i64 j ∧ j ≤ len ∧ Hid (∀ k e, k < j → es[k]? = some e → entIs nm e = false) ∧ wr = W1) (fun i _ => len - (intOf i).toNat)
  case atStart => exact ⟨0, rfl, Nat.zero_le _, Lib.hid (fun k e hk => by omega), rfl⟩
  case round =>
    obtain ⟨j, rfl, hj, HA, rfl⟩ := hrel
    obtain ⟨z0, z1, z2, z3⟩ := refO_cells HX.out
    by_cases hlt : j < len
    · obtain ⟨e, he⟩ : ∃ e, es[j]? = some e := ⟨_, List.getElem?_eq_getElem (by rw [← HL.out]; exact hlt)⟩
      obtain ⟨kb, ko, rfl, d0, d1, d2⟩ := HG.out j e he
      have HT := Lib.hid he
      clear he
      by_cases hen : e.n = nm
      · have HRR : Hid (q = some e) := Lib.hid (by rw [← HQ.out]; exact find_of HA.out HT.out (by simp [entIs, hen]))
        rw [hen] at d0
        clear hen
        go_wp2_with fail
        clear z0 z1 z2 z3
        obtain ⟨u0, u1, _, _⟩ := refO_cells (refO_fill HX.out (.int .i64 e.a) (.int .i64 e.s))
        refine bodyPost_ret (v := .tuple #[rfI e.a e.s, .bool true]) (by simp [results, Try.results9, go_sem, u0, u1]) rfl ?_
        exact ⟨by rw [HRR.out]; rfl, (HB1.out.setCell (Nat.le_refl _) _).setCell (Nat.le_refl _) _⟩
      · have h1 := str_ne hen
        have h2 : (e.n.toList == nm.toList) = false := by simpa using h1
        have HE : Hid (entIs nm e = false) := Lib.hid (by simpa [entIs] using hen)
        clear hen
        go_wp2_with fail
        go_roundw
        case rel => exact ⟨j + 1, by go_num, by omega, Lib.hid (fun k x hk hx => by
          rcases Nat.lt_succ_iff_lt_or_eq.1 hk with h | rfl
          · exact HA.out k x h hx
          · obtain rfl := Option.some.inj (HT.out.symm.trans hx); exact HE.out), by trivial⟩
        case measure => simp [intOf]; omega
    · obtain rfl : j = len := by omega
      have HRR : Hid (q = none) := Lib.hid (by rw [← HQ.out]; exact find_no (fun k e hk => HA.out k e (by rw [HL.out]; exact (List.getElem?_eq_some_iff.1 hk).1) hk))
      go_wp2_with fail
      clear z0 z1 z2 z3
      obtain ⟨u0, u1, _, _⟩ := refO_cells (refO_fill HX.out (.int .i64 0) (.int .i64 0))
      refine bodyPost_ret (v := .tuple #[rfI 0 0, .bool false]) (by simp [results, Try.results9, go_sem, u0, u1]) rfl ?_
      exact ⟨by rw [HRR.out]; rfl, (HB1.out.setCell (Nat.le_refl _) _).setCell (Nat.le_refl _) _⟩

/-! ### Guarded operations -/
/-- A guarded operation that may be taken first. -/
theorem wpAnyH_take_h {P : Program} {md : Region.Mode} {l : List Oper} {Q : Exit → Act → World → Prop} {S : World → Prop} {fuel : Nat} {B : List Bool} {T : List Value} {ds : List Deferred} {w : World} (i : Nat) {oi : Oper} {v : Value} (hi : l[i]? = some oi) (hw : Region.wanted oi (yielded l.toArray T.toArray) = true)
    (hs : Region.noSelect l.toArray = true) (hf : Region.free md l.toArray B.toArray i = true) (hr : (Region.ready md l.toArray B.toArray).contains i = true)
    (hQ : ∀ c a w, Q (.panic c) (a.put oi.dst v) w → Q (.panic c) a w) (hv : ∀ w, S w → (execOp (Act.eval ⟨T.toArray, ds⟩) oi).run P w = .ok (.value v) w) (hS : S w)
    (h : wpAnyH P md l.toArray Q S fuel (B.set i true).toArray ⟨(setD T oi.dst v).toArray, ds⟩ w) : wpAnyH P md l.toArray Q S (fuel + 1) B.toArray ⟨T.toArray, ds⟩ w := by
  refine wpAnyH_take (i := i) (oi := oi) (v := v) (by simpa using hi) hs hf hr hQ (.inl ⟨hw, hv⟩) hS ?_
  rw [put_list, List.setIfInBounds_toArray]
  exact h
theorem wpAnyH_one_h {P : Program} {md : Region.Mode} {l : List Oper} {Q : Exit → Act → World → Prop} {S : World → Prop} {fuel : Nat} {B : List Bool} {T : List Value} {ds : List Deferred} {w : World} (i : Nat) {o : Oper} (ho : l[i]? = some o) (hw : Region.wanted o (yielded l.toArray T.toArray) = true)
    (hr : Region.ready md l.toArray B.toArray = [i])
    (h : ∀ K : Act → World → Prop, Shut (∀ v w', S w' → (S w' → wpAnyH P md l.toArray Q S fuel (B.set i true).toArray ⟨(setD T o.dst v).toArray, ds⟩ w') → K ⟨(setD T o.dst v).toArray, ds⟩ w') → Oper.wp P o ⟨T.toArray, ds⟩ w K Q) :
    wpAnyH P md l.toArray Q S (fuel + 1) B.toArray ⟨T.toArray, ds⟩ w := by
  refine wpAnyH_all hr (by simp) (fun k hk => ?_)
  have hk := List.mem_singleton.1 hk
  subst hk
  have ho' : l.toArray[k]? = some o := by simpa using ho
  unfold wpOp
  simp only [ho']
  rw [if_pos hw]
  refine .inl (h _ (fun v w' q1 q2 => ?_))
  refine ⟨q1, ?_⟩
  rw [List.setIfInBounds_toArray]
  exact q2 q1

/-! ### The fixed example -/
abbrev zInt : Ty := .mk 1 0 ⟨#[]⟩ 0 [] []
abbrev zEnd : Ty := .mk 3 0 ⟨#[]⟩ 0 [] []
abbrev zSend : Ty := .mk 4 3 ⟨#[]⟩ 0 [] [zInt, zEnd]
abbrev zTs : List Ty := [zEnd, zSend]
abbrev zNs : List GNode := [⟨3, 0, [], []⟩, ⟨4, 3, [], [⟨2, 0⟩, ⟨3, 0⟩]⟩, ⟨1, 0, [], []⟩, ⟨3, 0, [], []⟩]
abbrev zRs : List GRef := [⟨0, 0⟩, ⟨1, 0⟩]
abbrev zEs : List Ent := [⟨⟨#[97]⟩, 0, 0⟩, ⟨⟨#[98]⟩, 1, 0⟩]
theorem zNodes : gNodes zTs = zNs := by
  simp [gNodes, Ty.pnods, Ty.pnod, Ty.prefs, Ty.pref, Ty.gcnt, Ty.gcnts]
theorem zRefs : gRefs zTs = zRs := by
  simp [gRefs, Ty.prefs, Ty.pref, Ty.gcnt, Ty.gcnts]
theorem zRight : ∀ t ∈ zTs, nodeR [] 0 false t = 0 := by
  intro t ht
  simp only [List.mem_cons, List.not_mem_nil, or_false] at ht
  rcases ht with rfl | rfl <;> decide +kernel
theorem zSmall : smallG zNs := by rw [← zNodes]; exact small_all zRight
theorem zOk : ∀ e ∈ zEs, EntOk zNs e := by
  intro e he
  simp only [List.mem_cons, List.not_mem_nil, or_false] at he
  rcases he with rfl | rfl
  · exact ⟨by decide, by decide, by decide, by decide⟩
  · exact ⟨by decide, by decide, by decide, by decide⟩
abbrev zc1 : List Value := [.int .i64 1, .int .i64 0, .string ⟨#[]⟩, .int .i64 0, .slice none 0 0, .slice none 0 0]
abbrev zc3 : List Value := [.int .i64 3, .int .i64 0, .string ⟨#[]⟩, .int .i64 0, .slice none 0 0, .slice none 0 0]
abbrev zc4 (b : Nat) : List Value := [.int .i64 4, .int .i64 3, .string ⟨#[]⟩, .int .i64 0, .slice none 0 0, .slice (some ⟨b, 0, none⟩) 2 2]
theorem znilStr (B : Nat → Prop) (W : World) : StrSl B W (.slice none 0 0) [] := ⟨.inl ⟨⟨_, _, rfl⟩, rfl⟩, by simp [maxLen], fun s hs => by cases hs⟩
theorem znilTys (B : Nat → Prop) (W : World) : TySl B W (.slice none 0 0) [] := ⟨.inl ⟨⟨_, _, rfl⟩, rfl⟩, by simp [maxLen]⟩
theorem z_ts {B : Nat → Prop} {W : World} {b0 b2 : Nat} {T : TypeId} {f0 f2 : Nat × Nat} (h0 : W.heap[b0]? = some (.cells (zc1 ++ zc3).toArray T f0)) (h2 : W.heap[b2]? = some (.cells (zc3 ++ zc4 b0).toArray T f2)) (k0 : B b0) (k2 : B b2) :
    TySl B W (.slice (some ⟨b2, 0, none⟩) 2 2) zTs := by
  have cell : ∀ {b : Nat} {l : List Value} {f : Nat × Nat}, W.heap[b]? = some (.cells l.toArray T f) → ∀ i u, l[i]? = some u → W.cell? ⟨b, i, none⟩ = some u := by
    intro b l f h i u hi
    simp only [World.cell?, h]
    simpa using hi
  have a1 : TyAt B W zInt b0 0 := tyAt_of (v5 := .slice none 0 0) (v6 := .slice none 0 0) k0 (cell h0 0 _ rfl) (cell h0 1 _ rfl) (cell h0 2 _ rfl) (cell h0 3 _ rfl) (cell h0 4 _ rfl) (cell h0 5 _ rfl) ⟨_, _, rfl, by decide, znilStr _ _, znilTys _ _⟩
  have a3 : TyAt B W zEnd b0 (0 + 6) := tyAt_of (v5 := .slice none 0 0) (v6 := .slice none 0 0) k0 (cell h0 6 _ rfl) (cell h0 7 _ rfl) (cell h0 8 _ rfl) (cell h0 9 _ rfl) (cell h0 10 _ rfl) (cell h0 11 _ rfl) ⟨_, _, rfl, by decide, znilStr _ _, znilTys _ _⟩
  have t2 : TySl B W (.slice (some ⟨b0, 0, none⟩) 2 2) [zInt, zEnd] := ⟨.inr ⟨b0, 0, 2, rfl, k0, by simp only [TysAt]; exact ⟨a1, a3, trivial⟩⟩, by simp [maxLen]⟩
  have g3 : TyAt B W zEnd b2 0 := tyAt_of (v5 := .slice none 0 0) (v6 := .slice none 0 0) k2 (cell h2 0 _ rfl) (cell h2 1 _ rfl) (cell h2 2 _ rfl) (cell h2 3 _ rfl) (cell h2 4 _ rfl) (cell h2 5 _ rfl) ⟨_, _, rfl, by decide, znilStr _ _, znilTys _ _⟩
  have a4 : TyAt B W zSend b2 (0 + 6) := tyAt_of (v5 := .slice none 0 0) (v6 := .slice (some ⟨b0, 0, none⟩) 2 2) k2 (cell h2 6 _ rfl) (cell h2 7 _ rfl) (cell h2 8 _ rfl) (cell h2 9 _ rfl) (cell h2 10 _ rfl) (cell h2 11 _ rfl) ⟨_, _, rfl, by decide, znilStr _ _, t2⟩
  exact ⟨.inr ⟨b2, 0, 2, rfl, k2, by simp only [TysAt]; exact ⟨g3, a4, trivial⟩⟩, by simp [maxLen]⟩
theorem zrefs_at {ra : Option Addr} {rn rc : Nat} {rs : List GRef} {w : World} (h : RefSl (fun k => k < w.heap.size) w (.slice ra rn rc) rs) (h0 : 0 < rs.length) :
    rn = rs.length ∧ ∃ rb ro, ra = some ⟨rb, ro, none⟩ ∧ ∀ W, Below w.heap.size w W → ∀ (j : Nat) (r : GRef), rs[j]? = some r → W.cell? ⟨rb, ro + j * 2, none⟩ = some (.int .i64 r.n) ∧ W.cell? ⟨rb, ro + j * 2 + 1, none⟩ = some (.int .i64 r.s) := by
  obtain ⟨_, _, _, e, hl, _, hg⟩ := h.open
  simp only [Value.slice.injEq] at e
  obtain ⟨rfl, rfl, rfl⟩ := e
  obtain ⟨rb, ro, rfl, hrb, _⟩ := hg 0 _ (List.getElem?_eq_getElem h0)
  refine ⟨hl.out, rb, ro, rfl, fun W hW j r hj => ?_⟩
  obtain ⟨rb', ro', e1, _, c0, c1⟩ := hg j r hj
  simp only [Option.some.injEq, Addr.mk.injEq, and_true] at e1
  obtain ⟨rfl, rfl⟩ := e1
  exact ⟨(hW.cell (p := ⟨rb, _, none⟩) hrb).trans c0, (hW.cell (p := ⟨rb, _, none⟩) hrb).trans c1⟩
theorem GRow.is {el : TypeId} {sz base : Nat} {W : World} {a : Option Addr} {n c : Nat} {es : List (List Value)} (h : GRow el sz base W (.slice a n c) es) (h0 : 0 < es.length) : n = es.length ∧ ∃ g, a = some ⟨g, 0, none⟩ ∧ base ≤ g ∧ g < W.heap.size := by
  rcases h.parts with ⟨_, rfl⟩ | ⟨g, cap, e, h1, h2, _⟩
  · simp at h0
  · simp only [Value.slice.injEq] at e
    exact ⟨e.2.1, g, e.1, h1, h2⟩
theorem StrSl.mono' {W : World} {b n c : Nat} {ls : List ByteArray} (h : StrSl (fun _ => True) W (.slice (some ⟨b, 0, none⟩) n c) ls) (hb : b < W.heap.size) : StrSl (fun k => k < W.heap.size) W (.slice (some ⟨b, 0, none⟩) n c) ls := by
  obtain ⟨h1, h2, h3⟩ := h
  refine ⟨?_, h2, h3⟩
  rcases h1 with h1 | ⟨b', o, c', e, _, h4⟩
  · exact .inl h1
  · simp only [Value.slice.injEq, Option.some.injEq, Addr.mk.injEq, and_true] at e
    obtain ⟨⟨rfl, rfl⟩, rfl, rfl⟩ := e
    exact .inr ⟨_, _, _, rfl, hb, h4⟩
theorem zSplit1 : zEs.filter (fun e => memB e.n [⟨#[98]⟩] || !livB zNs e) = zEs := by kernel_rfl
theorem zSplit2 : zEs.filter (fun e => !memB e.n [⟨#[98]⟩] || !livB zNs e) = [⟨⟨#[97]⟩, 0, 0⟩] := by kernel_rfl
theorem zLow1 : lowV (priosE zNs ((zEs.filter (fun e => !entIs ⟨#[97]⟩ e)).map Ent.r)) = .tuple #[.int .i64 3, .bool true] := by kernel_rfl
theorem zLow2 : lowV (priosE zNs ((zEs.filter (fun e => !entIs ⟨#[98]⟩ e)).map Ent.r)) = .tuple #[.int .i64 0, .bool false] := by kernel_rfl
theorem zLive : zEs.filter (livB zNs) = [⟨⟨#[98]⟩, 1, 0⟩] := by kernel_rfl
theorem zDrop : zEs.filter (fun e => !entIs ⟨#[97]⟩ e) = [⟨⟨#[98]⟩, 1, 0⟩] := by kernel_rfl
theorem zFind : fndR (zEs.find? (entIs ⟨#[98]⟩)) = .tuple #[.agg #[.int .i64 1, .int .i64 0], .bool true] := by kernel_rfl
theorem zSet1 : (setE zEs ⟨#[97]⟩ 1 0).map entCells = [entCells ⟨⟨#[97]⟩, 1, 0⟩, entCells ⟨⟨#[98]⟩, 1, 0⟩] := by kernel_rfl
theorem zSet2 : (setE zEs ⟨#[100]⟩ 1 0).map entCells = [entCells ⟨⟨#[97]⟩, 0, 0⟩, entCells ⟨⟨#[98]⟩, 1, 0⟩, entCells ⟨⟨#[100]⟩, 1, 0⟩] := by kernel_rfl
theorem zcalls_at {P : Program} {f : FuncId} {vs : Array Value} {Q : Ending → World → Prop} {W W0 : World} (h : W = W0) (k : Calls P f vs W0 Q) : Calls P f vs W Q := by rw [h]; exact k
theorem RefSl.to {w w' : World} {v : Value} {rs : List GRef} (h : RefSl (fun k => k < w.heap.size) w v rs) (hb : Below w.heap.size w w') : RefSl (fun k => k < w'.heap.size) w' v rs := (h.keep (hb.keeps'.mono (fun _ hk => hk))).mono (fun _ hk => Nat.lt_of_lt_of_le hk hb.size)

set_option maxHeartbeats 16000000 in
set_option maxRecDepth 100000 in
theorem cawake_any (w : World) : Calls Try.prog 7 #[] w fun e w' => e = .returned (.bool true) ∧ Below w.heap.size w w' := by
  obtain ⟨W3, hW3⟩ : ∃ W3, ((w.alloc (.cells (zc1 ++ zc3).toArray 47)).alloc (.cells (zc4 w.heap.size).toArray 47)).alloc (.cells (zc3 ++ zc4 w.heap.size).toArray 47) = W3 := ⟨_, rfl⟩
  obtain ⟨hs3, hb3, x0, x1, x2⟩ := three_made hW3
  have hts : TySl (fun k => k < W3.heap.size) W3 (.slice (some ⟨w.heap.size + 2, 0, none⟩) 2 2) zTs := z_ts x0 x2 (by omega) (by omega)
  have HGR := Lib.hid (graph_any zTs _ W3 hts (by decide) (by decide) zRight (by rw [zNodes]; decide) (by rw [zNodes]; decide) (by rw [zRefs]; decide))
  rw [zNodes, zRefs] at HGR
  have HW3 := Lib.hid hW3
  have HB3 := Lib.hid hb3
  clear hs3 hb3 x0 x1 x2 hts hW3
  go_enter Try.func7, Try.ntmps7
  go_upto_region 3 with (go_at_call 22; go_loud (refine zcalls_at HW3.out ?_; refine HGR.out.mono ?_; rintro en w8 ⟨na, nn, nc, ra, rn, rc, rfl, hn8, hr8, hb8⟩; have HN8 := Lib.hid hn8; have HR8 := Lib.hid hr8; have HB8 := Lib.hid (below_seq HB3.out hb8); clear hn8 hr8 hb8))
  obtain ⟨W9, hW9⟩ : ∃ W9, w8.alloc (.cells #[.slice na nn nc] 37) = W9 := ⟨_, rfl⟩
  have hb9 : Below w8.heap.size w8 W9 := by rw [← hW9]; exact blkBelow w8 _ _
  have x9 : W9.heap[w8.heap.size]? = some (grO na nn nc) := by rw [← hW9]; exact World.alloc_heap_new _ _
  have hs9 : w8.heap.size < W9.heap.size := (Array.getElem?_eq_some_iff.1 x9).1
  obtain ⟨e9, rb, ro, rfl, hrc⟩ := zrefs_at (HR8.out.to hb9) (by decide)
  obtain rfl : rn = 2 := e9
  have HS : Hid (∀ W, Below W9.heap.size W9 W → W.cell? ⟨w8.heap.size, 0, none⟩ = some (.slice na nn nc) ∧ W.cell? ⟨rb, ro, none⟩ = some (.int .i64 0) ∧ W.cell? ⟨rb, ro + 1, none⟩ = some (.int .i64 0) ∧ W.cell? ⟨rb, ro + 2, none⟩ = some (.int .i64 1) ∧ W.cell? ⟨rb, ro + 3, none⟩ = some (.int .i64 0)) := Lib.hid (fun W hW => by
    have a1 : W.heap[w8.heap.size]? = _ := (hW.block _ hs9).trans x9
    obtain ⟨b0, b1⟩ := hrc W hW 0 _ rfl
    obtain ⟨b2, b3⟩ := hrc W hW 1 _ rfl
    exact ⟨by simp [World.cell?, a1], by simpa using b0, by simpa using b1, by simpa using b2, by simpa using b3⟩)
  have HN9 : Hid (∀ W, Below W9.heap.size W9 W → NodeSl (fun k => k < W.heap.size) W (.slice na nn nc) zNs) := Lib.hid (fun W hW => HN8.out.to (below_seq hb9 hW))
  have HB9 : Hid (Below w.heap.size w W9) := Lib.hid (below_seq HB8.out hb9)
  rw [hW9]
  clear hb9 x9 hs9 hrc hW9 HN8 HR8 HGR
  refine wp_region_held_drew (S := fun W => W.cell? ⟨w8.heap.size, 0, none⟩ = some (.slice na nn nc) ∧ W.cell? ⟨rb, ro, none⟩ = some (.int .i64 0) ∧ W.cell? ⟨rb, ro + 1, none⟩ = some (.int .i64 0) ∧ W.cell? ⟨rb, ro + 2, none⟩ = some (.int .i64 1) ∧ W.cell? ⟨rb, ro + 3, none⟩ = some (.int .i64 0)) (by kernel_rfl) (HS.out W9 (Below.refl _ _)) (fun hHeld => ?_)
  refine wpAnyH_take_l 0 (v := ?v0) rfl rfl (by kernel_rfl) (by kernel_rfl) (by kernel_rfl) (fun _ _ _ h => h) ?h0 (by assumption) ?r0
  case h0 => (intro w hSw; (try dsimp only at hSw); go_simp; try rfl)
  case' r0 => simp only [setD, List.set_cons_succ, List.set_cons_zero]
  refine wpAnyH_take_l 1 (v := ?v1) rfl rfl (by kernel_rfl) (by kernel_rfl) (by kernel_rfl) (fun _ _ _ h => h) ?h1 (by assumption) ?r1
  case h1 => (intro w hSw; (try dsimp only at hSw); go_simp; try rfl)
  case' r1 => simp only [setD, List.set_cons_succ, List.set_cons_zero]
  refine wpAnyH_take_l 2 (v := ?v2) rfl rfl (by kernel_rfl) (by kernel_rfl) (by kernel_rfl) (fun _ _ _ h => h) ?h2 (by assumption) ?r2
  case h2 => (intro w hSw; (try dsimp only at hSw); go_simp; try rfl)
  case' r2 => simp only [setD, List.set_cons_succ, List.set_cons_zero]
  refine wpAnyH_take_l 3 (v := ?v3) rfl rfl (by kernel_rfl) (by kernel_rfl) (by kernel_rfl) (fun _ _ _ h => h) ?h3 (by assumption) ?r3
  case h3 => (intro w hSw; (try dsimp only at hSw); go_simp; try rfl)
  case' r3 => simp only [setD, List.set_cons_succ, List.set_cons_zero]
  refine wpAnyH_take_l 4 (v := ?v4) rfl rfl (by kernel_rfl) (by kernel_rfl) (by kernel_rfl) (fun _ _ _ h => h) ?h4 (by assumption) ?r4
  case h4 => (intro w hSw; (try dsimp only at hSw); go_simp; try rfl)
  case' r4 => simp only [setD, List.set_cons_succ, List.set_cons_zero]
  refine wpAnyH_take_l 5 (v := ?v5) rfl rfl (by kernel_rfl) (by kernel_rfl) (by kernel_rfl) (fun _ _ _ h => h) ?h5 (by assumption) ?r5
  case h5 => (intro w hSw; (try dsimp only at hSw); go_simp; try rfl)
  case' r5 => simp only [setD, List.set_cons_succ, List.set_cons_zero]
  refine wpAnyH_take_l 6 (v := ?v6) rfl rfl (by kernel_rfl) (by kernel_rfl) (by kernel_rfl) (fun _ _ _ h => h) ?h6 (by assumption) ?r6
  case h6 => (intro w hSw; (try dsimp only at hSw); go_simp; try rfl)
  case' r6 => simp only [setD, List.set_cons_succ, List.set_cons_zero]
  refine wpAnyH_take_l 7 (v := ?v7) rfl rfl (by kernel_rfl) (by kernel_rfl) (by kernel_rfl) (fun _ _ _ h => h) ?h7 (by assumption) ?r7
  case h7 => (intro w hSw; (try dsimp only at hSw); go_simp; try rfl)
  case' r7 => simp only [setD, List.set_cons_succ, List.set_cons_zero]
  refine wpAnyH_one 8 rfl rfl (by kernel_rfl) (fun K hK => ?_)
  have hK2 := hK.out
  clear hK
  simp only [setD, List.set_cons_succ, List.set_cons_zero] at hK2 ⊢
  go_simp
  have hbd : Below W9.heap.size W9 (W9.drew.alloc (.cells #[.string ⟨#[97]⟩, .int .i64 0, .int .i64 0, .string ⟨#[98]⟩, .int .i64 1, .int .i64 0] 30)) := (Below.refl _ _).drew.alloc (Nat.le_refl _) _
  refine hK2 _ _ (HS.out _ hbd) (fun _ => ?_)
  clear hK2 K
  refine wpAnyH_take_l 9 (v := ?v9) rfl rfl (by kernel_rfl) (by kernel_rfl) (by kernel_rfl) (fun _ _ _ h => h) ?h9 (by assumption) ?r9
  case h9 => (intro w hSw; (try dsimp only at hSw); go_simp; try rfl)
  case' r9 => simp only [setD, List.set_cons_succ, List.set_cons_zero]
  refine wpAnyH_done (by kernel_rfl) ?_ _
  clear hHeld
  obtain ⟨WA, hWA⟩ : ∃ WA, (W9.alloc (.cells #[.string ⟨#[97]⟩, .int .i64 0, .int .i64 0, .string ⟨#[98]⟩, .int .i64 1, .int .i64 0] 30)).drew = WA := ⟨_, rfl⟩
  have hba : Below W9.heap.size W9 WA := by rw [← hWA]; exact ((Below.refl _ _).alloc (Nat.le_refl _) _).drew
  have hsa : WA.heap.size = W9.heap.size + 1 := by rw [← hWA]; simp
  have hxa : WA.heap[W9.heap.size]? = some (.cells #[.string ⟨#[97]⟩, .int .i64 0, .int .i64 0, .string ⟨#[98]⟩, .int .i64 1, .int .i64 0] 30) := by rw [← hWA]; exact World.alloc_heap_new _ _
  rw [hWA]
  have HCA : Hid (∀ W, Below WA.heap.size WA W → (W.cell? ⟨W9.heap.size, 0, none⟩ = some (.string ⟨#[97]⟩) ∧ W.cell? ⟨W9.heap.size, 1, none⟩ = some (.int .i64 0) ∧ W.cell? ⟨W9.heap.size, 2, none⟩ = some (.int .i64 0)) ∧ EnSl (fun k => k < W.heap.size) W (.slice (some ⟨W9.heap.size, 0, none⟩) 2 2) zEs) := Lib.hid (fun W hW => by
    have h : W.heap[W9.heap.size]? = _ := (hW.block _ (by omega)).trans hxa
    have hl : W9.heap.size < W.heap.size := by have := hW.size; omega
    refine ⟨⟨by simp [World.cell?, h], by simp [World.cell?, h], by simp [World.cell?, h]⟩, .inr ⟨W9.heap.size, 0, 2, rfl, hl, fun j e hj => ?_⟩, by decide⟩
    match j, hj with
    | 0, hj => obtain rfl := Option.some.inj hj; exact ⟨by simp [World.cell?, h], by simp [World.cell?, h], by simp [World.cell?, h]⟩
    | 1, hj => obtain rfl := Option.some.inj hj; exact ⟨by simp [World.cell?, h], by simp [World.cell?, h], by simp [World.cell?, h]⟩
    | j + 2, hj => simp at hj)
  obtain ⟨WB, hWB⟩ : ∃ WB, WA.alloc (.cells #[.string ⟨#[98]⟩] 9) = WB := ⟨_, rfl⟩
  have hbb : Below WA.heap.size WA WB := by rw [← hWB]; exact blkBelow WA _ _
  have hxb : WB.heap[WA.heap.size]? = some (.cells #[.string ⟨#[98]⟩] 9) := by rw [← hWB]; exact World.alloc_heap_new _ _
  have hsb : WB.heap.size = WA.heap.size + 1 := by rw [← hWB]; simp
  have hsl : StrSl (fun k => k < WB.heap.size) WB (.slice (some ⟨WA.heap.size, 0, none⟩) 1 1) [⟨#[98]⟩] := (strSl_one (by simp [World.cell?, hxb]) (by decide)).mono' (by omega)
  have HSP := Lib.hid (csplit_any zNs na nn nc zEs [⟨#[98]⟩] _ _ WB (HN9.out WB (below_seq hba hbb)) (by decide) zSmall zOk (HCA.out WB hbb).2 (by decide) hsl (by decide))
  rw [zSplit1, zSplit2] at HSP
  have HWB := Lib.hid hWB
  have HBA := Lib.hid hba
  have HBB := Lib.hid hbb
  obtain ⟨g0, r0, r1, r2, r3⟩ := HS.out WA hba
  clear hba hsa hxa hWA hbb hxb hsb hsl hWB hbd
  go_upto_region 4 with fail
  go_upto_region 5 with (go_at_call 13; go_loud (refine zcalls_at HWB.out ?_; refine HSP.out.mono ?_; rintro en w4 ⟨xa, xn, xc, ya, yn, yc, rfl, hx4, hy4, hb4⟩; have HX4 := Lib.hid hx4; have HY4 := Lib.hid hy4; have HB4 := Lib.hid (below_seq HBB.out hb4); clear hx4 hy4 hb4))
  obtain rfl : xn = 2 := (HX4.out.is (by decide)).1
  obtain rfl : yn = 1 := (HY4.out.is (by decide)).1
  obtain ⟨-, yg, rfl, -, hyg⟩ := HY4.out.is (by decide)
  have HCY : Hid (∀ W, Below w4.heap.size w4 W → W.cell? ⟨yg, 0, none⟩ = some (.string ⟨#[97]⟩) ∧ W.cell? ⟨yg, 1, none⟩ = some (.int .i64 0) ∧ W.cell? ⟨yg, 2, none⟩ = some (.int .i64 0)) := Lib.hid (fun W hW => by
    have h := HY4.out.to hW
    obtain ⟨_, _, e1, c0⟩ := h.cell (j := 0) (i := 0) rfl rfl
    obtain ⟨_, _, e2, c1⟩ := h.cell (j := 0) (i := 1) rfl rfl
    obtain ⟨_, _, e3, c2⟩ := h.cell (j := 0) (i := 2) rfl rfl
    simp only [Value.slice.injEq, Option.some.injEq, Addr.mk.injEq, and_true] at e1 e2 e3
    rw [e1.1, e1.1.symm.trans e1.1]
    refine ⟨by simpa using c0, ?_, ?_⟩
    · rw [← e1.1, e2.1]; simpa using c1
    · rw [← e1.1, e3.1]; simpa using c2)
  have HFI := Lib.hid (cfind_any zEs ⟨#[98]⟩ _ w4 (HCA.out w4 HB4.out).2)
  rw [zFind] at HFI
  have HB94 := Lib.hid (below_seq HBA.out HB4.out)
  clear g0 r0 r1 r2 r3 HSP HWB HX4 HY4
  go_upto_region 6 with (go_at_call 10; go_loud (refine HFI.out.mono ?_; rintro en w5 ⟨rfl, hb5⟩; have HB5 := Lib.hid hb5; clear hb5))
  obtain ⟨WZ, hWZ⟩ : ∃ WZ, w5.alloc (.cells #[.int .i64 1, .int .i64 0] 24) = WZ := ⟨_, rfl⟩
  have hbz : Below w5.heap.size w5 WZ := by rw [← hWZ]; exact blkBelow w5 _ _
  have hsz : WZ.heap.size = w5.heap.size + 1 := by rw [← hWZ]; simp
  have hxz : WZ.heap[w5.heap.size]? = some (.cells #[.int .i64 1, .int .i64 0] 24) := by rw [← hWZ]; exact World.alloc_heap_new _ _
  rw [hWZ]
  have HBZ := Lib.hid (below_seq HB5.out hbz)
  have HZ : Hid (∀ W, Below WZ.heap.size WZ W → (W.cell? ⟨w8.heap.size, 0, none⟩ = some (.slice na nn nc) ∧ W.cell? ⟨rb, ro + 2, none⟩ = some (.int .i64 1) ∧ W.cell? ⟨rb, ro + 3, none⟩ = some (.int .i64 0)) ∧ (W.cell? ⟨w5.heap.size, 0, none⟩ = some (.int .i64 1) ∧ W.cell? ⟨w5.heap.size, 1, none⟩ = some (.int .i64 0)) ∧ (W.cell? ⟨yg, 0, none⟩ = some (.string ⟨#[97]⟩) ∧ W.cell? ⟨yg, 1, none⟩ = some (.int .i64 0) ∧ W.cell? ⟨yg, 2, none⟩ = some (.int .i64 0)) ∧ W.cell? ⟨W9.heap.size, 0, none⟩ = some (.string ⟨#[97]⟩) ∧ W.cell? ⟨W9.heap.size, 1, none⟩ = some (.int .i64 0) ∧ W.cell? ⟨W9.heap.size, 2, none⟩ = some (.int .i64 0)) := Lib.hid (fun W hW => by
    have h4 := below_seq HBZ.out hW
    have h9 := below_seq HB94.out h4
    obtain ⟨a0, _, _, a3, a4⟩ := HS.out W h9
    have h : W.heap[w5.heap.size]? = _ := (hW.block _ (by omega)).trans hxz
    exact ⟨⟨a0, a3, a4⟩, ⟨by simp [World.cell?, h], by simp [World.cell?, h]⟩, HCY.out W h4, (HCA.out W (below_seq HB4.out h4)).1⟩)
  have HEN : Hid (∀ W, Below WZ.heap.size WZ W → EnSl (fun k => k < W.heap.size) W (.slice (some ⟨W9.heap.size, 0, none⟩) 2 2) zEs) := Lib.hid (fun W hW => (HCA.out W (below_seq HB4.out (below_seq HBZ.out hW))).2)
  have HNN : Hid (∀ W, Below WZ.heap.size WZ W → NodeSl (fun k => k < W.heap.size) W (.slice na nn nc) zNs) := Lib.hid (fun W hW => HN9.out W (below_seq HB94.out (below_seq HBZ.out hW)))
  have HL1 : Hid (∀ W, Below WZ.heap.size WZ W → Calls Try.prog 18 #[grV na nn nc, .slice (some ⟨W9.heap.size, 0, none⟩) 2 2, .string ⟨#[97]⟩] W fun e w' => e = .returned (.tuple #[.int .i64 3, .bool true]) ∧ Below W.heap.size W w') := Lib.hid (fun W hW => by
    have h := clowest_any zNs na nn nc zEs ⟨#[97]⟩ _ W (HNN.out W hW) (by decide) zSmall zOk (HEN.out W hW) (by decide)
    rwa [zLow1] at h)
  have HL2 : Hid (∀ W, Below WZ.heap.size WZ W → Calls Try.prog 18 #[grV na nn nc, .slice (some ⟨W9.heap.size, 0, none⟩) 2 2, .string ⟨#[98]⟩] W fun e w' => e = .returned (.tuple #[.int .i64 0, .bool false]) ∧ Below W.heap.size W w') := Lib.hid (fun W hW => by
    have h := clowest_any zNs na nn nc zEs ⟨#[98]⟩ _ W (HNN.out W hW) (by decide) zSmall zOk (HEN.out W hW) (by decide)
    rwa [zLow2] at h)
  have HLV : Hid (∀ W, Below WZ.heap.size WZ W → Calls Try.prog 23 #[grV na nn nc, .slice (some ⟨W9.heap.size, 0, none⟩) 2 2] W fun e w' => ∃ a c, e = .returned (.slice a 1 c) ∧ Below W.heap.size W w') := Lib.hid (fun W hW => (clive_any zNs na nn nc zEs _ W (HNN.out W hW) (by decide) zSmall zOk (HEN.out W hW) (by decide)).mono (fun e w' h => by
    obtain ⟨a, n, c, rfl, hr, hb⟩ := h
    rw [zLive] at hr
    obtain rfl : n = 1 := (hr.is (by decide)).1
    exact ⟨a, c, rfl, hb⟩))
  have HDR : Hid (∀ W, Below WZ.heap.size WZ W → Calls Try.prog 17 #[.slice (some ⟨W9.heap.size, 0, none⟩) 2 2, .string ⟨#[97]⟩] W fun e w' => ∃ a c, e = .returned (.slice a 1 c) ∧ Below W.heap.size W w') := Lib.hid (fun W hW => (cdrop_any zEs ⟨#[97]⟩ _ W (HEN.out W hW) (by decide)).mono (fun e w' h => by
    obtain ⟨a, n, c, rfl, hr, hb⟩ := h
    rw [zDrop] at hr
    obtain rfl : n = 1 := (hr.is (by decide)).1
    exact ⟨a, c, rfl, hb⟩))
  have HS1 : Hid (∀ W, Below WZ.heap.size WZ W → Calls Try.prog 8 #[.slice (some ⟨W9.heap.size, 0, none⟩) 2 2, .string ⟨#[97]⟩, .agg #[.int .i64 1, .int .i64 0]] W fun e w' => ∃ a c, e = .returned (.slice a 2 c) ∧ Below W.heap.size W w') := Lib.hid (fun W hW => (cset_any zEs ⟨#[97]⟩ 1 0 _ W (HEN.out W hW) (by decide)).mono (fun e w' h => by
    obtain ⟨a, n, c, rfl, hr, hb⟩ := h
    rw [zSet1] at hr
    obtain rfl : n = 2 := (hr.is (by decide)).1
    exact ⟨a, c, rfl, hb⟩))
  have HS2 : Hid (∀ W, Below WZ.heap.size WZ W → Calls Try.prog 8 #[.slice (some ⟨W9.heap.size, 0, none⟩) 2 2, .string ⟨#[100]⟩, .agg #[.int .i64 1, .int .i64 0]] W fun e w' => ∃ a c, e = .returned (.slice a 3 c) ∧ Below W.heap.size W w') := Lib.hid (fun W hW => (cset_any zEs ⟨#[100]⟩ 1 0 _ W (HEN.out W hW) (by decide)).mono (fun e w' h => by
    obtain ⟨a, n, c, rfl, hr, hb⟩ := h
    rw [zSet2] at hr
    obtain rfl : n = 3 := (hr.is (by decide)).1
    exact ⟨a, c, rfl, hb⟩))
  have HBW : Hid (Below w.heap.size w WZ) := Lib.hid (below_seq HB9.out (below_seq HB94.out HBZ.out))
  obtain ⟨⟨g0, _, _⟩, _⟩ := HZ.out WZ (Below.refl _ _)
  clear hWZ hbz hsz hxz hyg HCA HCY HS HN9 HFI HNN HEN
  go_upto_region 7 with (go_at_call 18; go_loud (refine (HL1.out WZ (Below.refl _ _)).mono ?_; rintro en w6 ⟨rfl, hb6⟩; have HB6 := Lib.hid hb6; clear hb6 g0))
  obtain ⟨⟨g0, r2, r3⟩, ⟨z0, z1⟩, ⟨y0, y1, y2⟩, c0, c1, c2⟩ := HZ.out w6 HB6.out
  go_upto_region 8 with (go_at_call 18; go_loud (with_reducible refine (HL2.out _ HB6.out).mono ?_; rintro en w7 ⟨rfl, hbn⟩; clear g0 r2 r3 z0 z1 y0 y1 y2 c0 c1 c2; have HB7 := Lib.hid (below_seq HB6.out hbn); clear hbn; obtain ⟨⟨g0, r2, r3⟩, ⟨z0, z1⟩, ⟨y0, y1, y2⟩, c0, c1, c2⟩ := HZ.out w7 HB7.out))
  dsimp only [List.append]
  refine wp_region_held_drew (S := fun W => (W.cell? ⟨w8.heap.size, 0, none⟩ = some (.slice na nn nc) ∧ W.cell? ⟨rb, ro + 2, none⟩ = some (.int .i64 1) ∧ W.cell? ⟨rb, ro + 3, none⟩ = some (.int .i64 0)) ∧ (W.cell? ⟨w5.heap.size, 0, none⟩ = some (.int .i64 1) ∧ W.cell? ⟨w5.heap.size, 1, none⟩ = some (.int .i64 0)) ∧ (W.cell? ⟨yg, 0, none⟩ = some (.string ⟨#[97]⟩) ∧ W.cell? ⟨yg, 1, none⟩ = some (.int .i64 0) ∧ W.cell? ⟨yg, 2, none⟩ = some (.int .i64 0)) ∧ W.cell? ⟨W9.heap.size, 0, none⟩ = some (.string ⟨#[97]⟩) ∧ W.cell? ⟨W9.heap.size, 1, none⟩ = some (.int .i64 0) ∧ W.cell? ⟨W9.heap.size, 2, none⟩ = some (.int .i64 0)) (by kernel_rfl) (HZ.out w7 HB7.out) (fun hHeld => ?_)
  refine wpAnyH_take_h 0 (v := ?e0) rfl rfl (by kernel_rfl) (by kernel_rfl) (by kernel_rfl) (fun _ _ _ h => h) ?g0 (by assumption) ?k0
  case g0 => (intro w hSw; (try dsimp only at hSw); go_simp; try rfl)
  case' k0 => simp only [setD, List.set_cons_succ, List.set_cons_zero]
  refine wpAnyH_take_h 1 (v := ?e1) rfl rfl (by kernel_rfl) (by kernel_rfl) (by kernel_rfl) (fun _ _ _ h => h) ?g1 (by assumption) ?k1
  case g1 => (intro w hSw; (try dsimp only at hSw); go_simp; try rfl)
  case' k1 => simp only [setD, List.set_cons_succ, List.set_cons_zero]
  refine wpAnyH_take_h 2 (v := ?e2) rfl rfl (by kernel_rfl) (by kernel_rfl) (by kernel_rfl) (fun _ _ _ h => h) ?g2 (by assumption) ?k2
  case g2 => (intro w hSw; (try dsimp only at hSw); go_simp; try rfl)
  case' k2 => simp only [setD, List.set_cons_succ, List.set_cons_zero]
  refine wpAnyH_take_h 3 (v := ?e3) rfl rfl (by kernel_rfl) (by kernel_rfl) (by kernel_rfl) (fun _ _ _ h => h) ?g3 (by assumption) ?k3
  case g3 => (intro w hSw; (try dsimp only at hSw); go_simp; try rfl)
  case' k3 => simp only [setD, List.set_cons_succ, List.set_cons_zero]
  refine wpAnyH_take_h 4 (v := ?e4) rfl rfl (by kernel_rfl) (by kernel_rfl) (by kernel_rfl) (fun _ _ _ h => h) ?g4 (by assumption) ?k4
  case g4 => (intro w hSw; (try dsimp only at hSw); go_simp; try rfl)
  case' k4 => simp only [setD, List.set_cons_succ, List.set_cons_zero]
  refine wpAnyH_take_h 5 (v := ?e5) rfl rfl (by kernel_rfl) (by kernel_rfl) (by kernel_rfl) (fun _ _ _ h => h) ?g5 (by assumption) ?k5
  case g5 => (intro w hSw; (try dsimp only at hSw); go_simp; try rfl)
  case' k5 => simp only [setD, List.set_cons_succ, List.set_cons_zero]
  refine wpAnyH_take_h 6 (v := ?e6) rfl rfl (by kernel_rfl) (by kernel_rfl) (by kernel_rfl) (fun _ _ _ h => h) ?g6 (by assumption) ?k6
  case g6 => (intro w hSw; (try dsimp only at hSw); go_simp; try rfl)
  case' k6 => simp only [setD, List.set_cons_succ, List.set_cons_zero]
  refine wpAnyH_take_h 7 (v := ?e7) rfl rfl (by kernel_rfl) (by kernel_rfl) (by kernel_rfl) (fun _ _ _ h => h) ?g7 (by assumption) ?k7
  case g7 => (intro w hSw; (try dsimp only at hSw); go_simp; try rfl)
  case' k7 => simp only [setD, List.set_cons_succ, List.set_cons_zero]
  refine wpAnyH_take_h 8 (v := ?e8) rfl rfl (by kernel_rfl) (by kernel_rfl) (by kernel_rfl) (fun _ _ _ h => h) ?g8 (by assumption) ?k8
  case g8 => (intro w hSw; (try dsimp only at hSw); go_simp; try rfl)
  case' k8 => simp only [setD, List.set_cons_succ, List.set_cons_zero]
  refine wpAnyH_take_h 9 (v := ?e9) rfl rfl (by kernel_rfl) (by kernel_rfl) (by kernel_rfl) (fun _ _ _ h => h) ?g9 (by assumption) ?k9
  case g9 => (intro w hSw; (try dsimp only at hSw); go_simp; try rfl)
  case' k9 => simp only [setD, List.set_cons_succ, List.set_cons_zero]
  refine wpAnyH_take_h 10 (v := ?e10) rfl rfl (by kernel_rfl) (by kernel_rfl) (by kernel_rfl) (fun _ _ _ h => h) ?g10 (by assumption) ?k10
  case g10 => (intro w hSw; (try dsimp only at hSw); go_simp; try rfl)
  case' k10 => simp only [setD, List.set_cons_succ, List.set_cons_zero]
  refine wpAnyH_take_h 11 (v := ?e11) rfl rfl (by kernel_rfl) (by kernel_rfl) (by kernel_rfl) (fun _ _ _ h => h) ?g11 (by assumption) ?k11
  case g11 => (intro w hSw; (try dsimp only at hSw); go_simp; try rfl)
  case' k11 => simp only [setD, List.set_cons_succ, List.set_cons_zero]
  refine wpAnyH_take_h 12 (v := ?e12) rfl rfl (by kernel_rfl) (by kernel_rfl) (by kernel_rfl) (fun _ _ _ h => h) ?g12 (by assumption) ?k12
  case g12 => (intro w hSw; (try dsimp only at hSw); go_simp; try rfl)
  case' k12 => simp only [setD, List.set_cons_succ, List.set_cons_zero]
  refine wpAnyH_take_h 13 (v := ?e13) rfl rfl (by kernel_rfl) (by kernel_rfl) (by kernel_rfl) (fun _ _ _ h => h) ?g13 (by assumption) ?k13
  case g13 => (intro w hSw; (try dsimp only at hSw); go_simp; try rfl)
  case' k13 => simp only [setD, List.set_cons_succ, List.set_cons_zero]
  refine wpAnyH_take_h 14 (v := ?e14) rfl rfl (by kernel_rfl) (by kernel_rfl) (by kernel_rfl) (fun _ _ _ h => h) ?g14 (by assumption) ?k14
  case g14 => (intro w hSw; (try dsimp only at hSw); go_simp; try rfl)
  case' k14 => simp only [setD, List.set_cons_succ, List.set_cons_zero]
  refine wpAnyH_take_h 15 (v := ?e15) rfl rfl (by kernel_rfl) (by kernel_rfl) (by kernel_rfl) (fun _ _ _ h => h) ?g15 (by assumption) ?k15
  case g15 => (intro w hSw; (try dsimp only at hSw); go_simp; try rfl)
  case' k15 => simp only [setD, List.set_cons_succ, List.set_cons_zero]
  refine wpAnyH_take_h 16 (v := ?e16) rfl rfl (by kernel_rfl) (by kernel_rfl) (by kernel_rfl) (fun _ _ _ h => h) ?g16 (by assumption) ?k16
  case g16 => (intro w hSw; (try dsimp only at hSw); go_simp; try rfl)
  case' k16 => simp only [setD, List.set_cons_succ, List.set_cons_zero]
  refine wpAnyH_take_h 17 (v := ?e17) rfl rfl (by kernel_rfl) (by kernel_rfl) (by kernel_rfl) (fun _ _ _ h => h) ?g17 (by assumption) ?k17
  case g17 => (intro w hSw; (try dsimp only at hSw); go_simp; try rfl)
  case' k17 => simp only [setD, List.set_cons_succ, List.set_cons_zero]
  refine wpAnyH_take_h 18 (v := ?e18) rfl rfl (by kernel_rfl) (by kernel_rfl) (by kernel_rfl) (fun _ _ _ h => h) ?g18 (by assumption) ?k18
  case g18 => (intro w hSw; (try dsimp only at hSw); go_simp; try rfl)
  case' k18 => simp only [setD, List.set_cons_succ, List.set_cons_zero]
  refine wpAnyH_take_h 19 (v := ?e19) rfl rfl (by kernel_rfl) (by kernel_rfl) (by kernel_rfl) (fun _ _ _ h => h) ?g19 (by assumption) ?k19
  case g19 => (intro w hSw; (try dsimp only at hSw); go_simp; try rfl)
  case' k19 => simp only [setD, List.set_cons_succ, List.set_cons_zero]
  refine wpAnyH_take_h 20 (v := ?e20) rfl rfl (by kernel_rfl) (by kernel_rfl) (by kernel_rfl) (fun _ _ _ h => h) ?g20 (by assumption) ?k20
  case g20 => (intro w hSw; (try dsimp only at hSw); go_simp; try rfl)
  case' k20 => simp only [setD, List.set_cons_succ, List.set_cons_zero]
  refine wpAnyH_take_h 21 (v := ?e21) rfl rfl (by kernel_rfl) (by kernel_rfl) (by kernel_rfl) (fun _ _ _ h => h) ?g21 (by assumption) ?k21
  case g21 => (intro w hSw; (try dsimp only at hSw); go_simp; try rfl)
  case' k21 => simp only [setD, List.set_cons_succ, List.set_cons_zero]
  refine wpAnyH_take_h 22 (v := ?e22) rfl rfl (by kernel_rfl) (by kernel_rfl) (by kernel_rfl) (fun _ _ _ h => h) ?g22 (by assumption) ?k22
  case g22 => (intro w hSw; (try dsimp only at hSw); go_simp; try rfl)
  case' k22 => simp only [setD, List.set_cons_succ, List.set_cons_zero]
  refine wpAnyH_take_h 23 (v := ?e23) rfl rfl (by kernel_rfl) (by kernel_rfl) (by kernel_rfl) (fun _ _ _ h => h) ?g23 (by assumption) ?k23
  case g23 => (intro w hSw; (try dsimp only at hSw); go_simp; try rfl)
  case' k23 => simp only [setD, List.set_cons_succ, List.set_cons_zero]
  refine wpAnyH_take_h 24 (v := ?e24) rfl rfl (by kernel_rfl) (by kernel_rfl) (by kernel_rfl) (fun _ _ _ h => h) ?g24 (by assumption) ?k24
  case g24 => (intro w hSw; (try dsimp only at hSw); go_simp; try rfl)
  case' k24 => simp only [setD, List.set_cons_succ, List.set_cons_zero]
  refine wpAnyH_take_h 25 (v := ?e25) rfl rfl (by kernel_rfl) (by kernel_rfl) (by kernel_rfl) (fun _ _ _ h => h) ?g25 (by assumption) ?k25
  case g25 => (intro w hSw; (try dsimp only at hSw); go_simp; try rfl)
  case' k25 => simp only [setD, List.set_cons_succ, List.set_cons_zero]
  refine wpAnyH_take_h 26 (v := ?e26) rfl rfl (by kernel_rfl) (by kernel_rfl) (by kernel_rfl) (fun _ _ _ h => h) ?g26 (by assumption) ?k26
  case g26 => (intro w hSw; (try dsimp only at hSw); go_simp; try rfl)
  case' k26 => simp only [setD, List.set_cons_succ, List.set_cons_zero]
  refine wpAnyH_take_h 27 (v := ?e27) rfl rfl (by kernel_rfl) (by kernel_rfl) (by kernel_rfl) (fun _ _ _ h => h) ?g27 (by assumption) ?k27
  case g27 => (intro w hSw; (try dsimp only at hSw); go_simp; try rfl)
  case' k27 => simp only [setD, List.set_cons_succ, List.set_cons_zero]
  refine wpAnyH_take_h 28 (v := ?e28) rfl rfl (by kernel_rfl) (by kernel_rfl) (by kernel_rfl) (fun _ _ _ h => h) ?g28 (by assumption) ?k28
  case g28 => (intro w hSw; (try dsimp only at hSw); go_simp; try rfl)
  case' k28 => simp only [setD, List.set_cons_succ, List.set_cons_zero]
  refine wpAnyH_take_h 29 (v := ?e29) rfl rfl (by kernel_rfl) (by kernel_rfl) (by kernel_rfl) (fun _ _ _ h => h) ?g29 (by assumption) ?k29
  case g29 => (intro w hSw; (try dsimp only at hSw); go_simp; try rfl)
  case' k29 => simp only [setD, List.set_cons_succ, List.set_cons_zero]
  refine wpAnyH_take_h 30 (v := ?e30) rfl rfl (by kernel_rfl) (by kernel_rfl) (by kernel_rfl) (fun _ _ _ h => h) ?g30 (by assumption) ?k30
  case g30 => (intro w hSw; (try dsimp only at hSw); go_simp; try rfl)
  case' k30 => simp only [setD, List.set_cons_succ, List.set_cons_zero]
  refine wpAnyH_take_h 31 (v := ?e31) rfl rfl (by kernel_rfl) (by kernel_rfl) (by kernel_rfl) (fun _ _ _ h => h) ?g31 (by assumption) ?k31
  case g31 => (intro w hSw; (try dsimp only at hSw); go_simp; try rfl)
  case' k31 => simp only [setD, List.set_cons_succ, List.set_cons_zero]
  refine wpAnyH_take_h 32 (v := ?e32) rfl rfl (by kernel_rfl) (by kernel_rfl) (by kernel_rfl) (fun _ _ _ h => h) ?g32 (by assumption) ?k32
  case g32 => (intro w hSw; (try dsimp only at hSw); go_simp; try rfl)
  case' k32 => simp only [setD, List.set_cons_succ, List.set_cons_zero]
  refine wpAnyH_take_h 33 (v := ?e33) rfl rfl (by kernel_rfl) (by kernel_rfl) (by kernel_rfl) (fun _ _ _ h => h) ?g33 (by assumption) ?k33
  case g33 => (intro w hSw; (try dsimp only at hSw); go_simp; try rfl)
  case' k33 => simp only [setD, List.set_cons_succ, List.set_cons_zero]
  refine wpAnyH_take_h 34 (v := ?e34) rfl rfl (by kernel_rfl) (by kernel_rfl) (by kernel_rfl) (fun _ _ _ h => h) ?g34 (by assumption) ?k34
  case g34 => (intro w hSw; (try dsimp only at hSw); go_simp; try rfl)
  case' k34 => simp only [setD, List.set_cons_succ, List.set_cons_zero]
  refine wpAnyH_take_h 35 (v := ?e35) rfl rfl (by kernel_rfl) (by kernel_rfl) (by kernel_rfl) (fun _ _ _ h => h) ?g35 (by assumption) ?k35
  case g35 => (intro w hSw; (try dsimp only at hSw); go_simp; try rfl)
  case' k35 => simp only [setD, List.set_cons_succ, List.set_cons_zero]
  refine wpAnyH_take_h 36 (v := ?e36) rfl rfl (by kernel_rfl) (by kernel_rfl) (by kernel_rfl) (fun _ _ _ h => h) ?g36 (by assumption) ?k36
  case g36 => (intro w hSw; (try dsimp only at hSw); go_simp; try rfl)
  case' k36 => simp only [setD, List.set_cons_succ, List.set_cons_zero]
  refine wpAnyH_take_h 37 (v := ?e37) rfl rfl (by kernel_rfl) (by kernel_rfl) (by kernel_rfl) (fun _ _ _ h => h) ?g37 (by assumption) ?k37
  case g37 => (intro w hSw; (try dsimp only at hSw); go_simp; try rfl)
  case' k37 => simp only [setD, List.set_cons_succ, List.set_cons_zero]
  refine wpAnyH_take_h 38 (v := ?e38) rfl rfl (by kernel_rfl) (by kernel_rfl) (by kernel_rfl) (fun _ _ _ h => h) ?g38 (by assumption) ?k38
  case g38 => (intro w hSw; (try dsimp only at hSw); go_simp; try rfl)
  case' k38 => simp only [setD, List.set_cons_succ, List.set_cons_zero]
  refine wpAnyH_take_h 39 (v := ?e39) rfl rfl (by kernel_rfl) (by kernel_rfl) (by kernel_rfl) (fun _ _ _ h => h) ?g39 (by assumption) ?k39
  case g39 => (intro w hSw; (try dsimp only at hSw); go_simp; try rfl)
  case' k39 => simp only [setD, List.set_cons_succ, List.set_cons_zero]
  refine wpAnyH_take_h 40 (v := ?e40) rfl rfl (by kernel_rfl) (by kernel_rfl) (by kernel_rfl) (fun _ _ _ h => h) ?g40 (by assumption) ?k40
  case g40 => (intro w hSw; (try dsimp only at hSw); go_simp; try rfl)
  case' k40 => simp only [setD, List.set_cons_succ, List.set_cons_zero]
  refine wpAnyH_one_h 41 rfl rfl (by kernel_rfl) (fun K hK => ?_)
  have hK2 := hK.out
  clear hK
  simp only [setD, List.set_cons_succ, List.set_cons_zero] at hK2 ⊢
  go_simp
  refine (HLV.out _ (HB7.out.drew)).mono ?_
  rintro en w10 ⟨la, lc, rfl, hbn⟩
  dsimp only
  have HB10 := Lib.hid (below_seq (HB7.out.drew) hbn)
  refine hK2 _ _ (HZ.out w10 HB10.out) (fun hSn => ?_)
  clear hK2 K hbn
  refine wpAnyH_take_h 42 (v := ?e42) rfl rfl (by kernel_rfl) (by kernel_rfl) (by kernel_rfl) (fun _ _ _ h => h) ?g42 (by assumption) ?k42
  case g42 => (intro w hSw; (try dsimp only at hSw); go_simp; try rfl)
  case' k42 => simp only [setD, List.set_cons_succ, List.set_cons_zero]
  refine wpAnyH_take_h 43 (v := ?e43) rfl rfl (by kernel_rfl) (by kernel_rfl) (by kernel_rfl) (fun _ _ _ h => h) ?g43 (by assumption) ?k43
  case g43 => (intro w hSw; (try dsimp only at hSw); go_simp; try rfl)
  case' k43 => simp only [setD, List.set_cons_succ, List.set_cons_zero]
  refine wpAnyH_take_h 44 (v := ?e44) rfl rfl (by kernel_rfl) (by kernel_rfl) (by kernel_rfl) (fun _ _ _ h => h) ?g44 (by assumption) ?k44
  case g44 => (intro w hSw; (try dsimp only at hSw); go_simp; try rfl)
  case' k44 => simp only [setD, List.set_cons_succ, List.set_cons_zero]
  refine wpAnyH_take_h 45 (v := ?e45) rfl rfl (by kernel_rfl) (by kernel_rfl) (by kernel_rfl) (fun _ _ _ h => h) ?g45 (by assumption) ?k45
  case g45 => (intro w hSw; (try dsimp only at hSw); go_simp; try rfl)
  case' k45 => simp only [setD, List.set_cons_succ, List.set_cons_zero]
  refine wpAnyH_take_h 46 (v := ?e46) rfl rfl (by kernel_rfl) (by kernel_rfl) (by kernel_rfl) (fun _ _ _ h => h) ?g46 (by assumption) ?k46
  case g46 => (intro w hSw; (try dsimp only at hSw); go_simp; try rfl)
  case' k46 => simp only [setD, List.set_cons_succ, List.set_cons_zero]
  refine wpAnyH_one_h 47 rfl rfl (by kernel_rfl) (fun K hK => ?_)
  have hK2 := hK.out
  clear hK
  simp only [setD, List.set_cons_succ, List.set_cons_zero] at hK2 ⊢
  go_simp
  refine (HDR.out _ HB10.out).mono ?_
  rintro en w11 ⟨da, dc, rfl, hbn⟩
  dsimp only
  have HB11 := Lib.hid (below_seq HB10.out hbn)
  refine hK2 _ _ (HZ.out w11 HB11.out) (fun hSn => ?_)
  clear hK2 K hbn
  refine wpAnyH_take_h 48 (v := ?e48) rfl rfl (by kernel_rfl) (by kernel_rfl) (by kernel_rfl) (fun _ _ _ h => h) ?g48 (by assumption) ?k48
  case g48 => (intro w hSw; (try dsimp only at hSw); go_simp; try rfl)
  case' k48 => simp only [setD, List.set_cons_succ, List.set_cons_zero]
  refine wpAnyH_take_h 49 (v := ?e49) rfl rfl (by kernel_rfl) (by kernel_rfl) (by kernel_rfl) (fun _ _ _ h => h) ?g49 (by assumption) ?k49
  case g49 => (intro w hSw; (try dsimp only at hSw); go_simp; try rfl)
  case' k49 => simp only [setD, List.set_cons_succ, List.set_cons_zero]
  refine wpAnyH_take_h 50 (v := ?e50) rfl rfl (by kernel_rfl) (by kernel_rfl) (by kernel_rfl) (fun _ _ _ h => h) ?g50 (by assumption) ?k50
  case g50 => (intro w hSw; (try dsimp only at hSw); go_simp; try rfl)
  case' k50 => simp only [setD, List.set_cons_succ, List.set_cons_zero]
  refine wpAnyH_take_h 51 (v := ?e51) rfl rfl (by kernel_rfl) (by kernel_rfl) (by kernel_rfl) (fun _ _ _ h => h) ?g51 (by assumption) ?k51
  case g51 => (intro w hSw; (try dsimp only at hSw); go_simp; try rfl)
  case' k51 => simp only [setD, List.set_cons_succ, List.set_cons_zero]
  refine wpAnyH_take_h 52 (v := ?e52) rfl rfl (by kernel_rfl) (by kernel_rfl) (by kernel_rfl) (fun _ _ _ h => h) ?g52 (by assumption) ?k52
  case g52 => (intro w hSw; (try dsimp only at hSw); go_simp; try rfl)
  case' k52 => simp only [setD, List.set_cons_succ, List.set_cons_zero]
  refine wpAnyH_take_h 53 (v := ?e53) rfl rfl (by kernel_rfl) (by kernel_rfl) (by kernel_rfl) (fun _ _ _ h => h) ?g53 (by assumption) ?k53
  case g53 => (intro w hSw; (try dsimp only at hSw); go_simp; try rfl)
  case' k53 => simp only [setD, List.set_cons_succ, List.set_cons_zero]
  refine wpAnyH_take_h 54 (v := ?e54) rfl rfl (by kernel_rfl) (by kernel_rfl) (by kernel_rfl) (fun _ _ _ h => h) ?g54 (by assumption) ?k54
  case g54 => (intro w hSw; (try dsimp only at hSw); go_simp; try rfl)
  case' k54 => simp only [setD, List.set_cons_succ, List.set_cons_zero]
  refine wpAnyH_take_h 55 (v := ?e55) rfl rfl (by kernel_rfl) (by kernel_rfl) (by kernel_rfl) (fun _ _ _ h => h) ?g55 (by assumption) ?k55
  case g55 => (intro w hSw; (try dsimp only at hSw); go_simp; try rfl)
  case' k55 => simp only [setD, List.set_cons_succ, List.set_cons_zero]
  refine wpAnyH_one_h 56 rfl rfl (by kernel_rfl) (fun K hK => ?_)
  have hK2 := hK.out
  clear hK
  simp only [setD, List.set_cons_succ, List.set_cons_zero] at hK2 ⊢
  go_simp
  refine (HS1.out _ HB11.out).mono ?_
  rintro en w12 ⟨sa, sc, rfl, hbn⟩
  dsimp only
  have HB12 := Lib.hid (below_seq HB11.out hbn)
  refine hK2 _ _ (HZ.out w12 HB12.out) (fun hSn => ?_)
  clear hK2 K hbn
  refine wpAnyH_take_h 57 (v := ?e57) rfl rfl (by kernel_rfl) (by kernel_rfl) (by kernel_rfl) (fun _ _ _ h => h) ?g57 (by assumption) ?k57
  case g57 => (intro w hSw; (try dsimp only at hSw); go_simp; try rfl)
  case' k57 => simp only [setD, List.set_cons_succ, List.set_cons_zero]
  refine wpAnyH_take_h 58 (v := ?e58) rfl rfl (by kernel_rfl) (by kernel_rfl) (by kernel_rfl) (fun _ _ _ h => h) ?g58 (by assumption) ?k58
  case g58 => (intro w hSw; (try dsimp only at hSw); go_simp; try rfl)
  case' k58 => simp only [setD, List.set_cons_succ, List.set_cons_zero]
  refine wpAnyH_take_h 59 (v := ?e59) rfl rfl (by kernel_rfl) (by kernel_rfl) (by kernel_rfl) (fun _ _ _ h => h) ?g59 (by assumption) ?k59
  case g59 => (intro w hSw; (try dsimp only at hSw); go_simp; try rfl)
  case' k59 => simp only [setD, List.set_cons_succ, List.set_cons_zero]
  refine wpAnyH_take_h 60 (v := ?e60) rfl rfl (by kernel_rfl) (by kernel_rfl) (by kernel_rfl) (fun _ _ _ h => h) ?g60 (by assumption) ?k60
  case g60 => (intro w hSw; (try dsimp only at hSw); go_simp; try rfl)
  case' k60 => simp only [setD, List.set_cons_succ, List.set_cons_zero]
  refine wpAnyH_take_h 61 (v := ?e61) rfl rfl (by kernel_rfl) (by kernel_rfl) (by kernel_rfl) (fun _ _ _ h => h) ?g61 (by assumption) ?k61
  case g61 => (intro w hSw; (try dsimp only at hSw); go_simp; try rfl)
  case' k61 => simp only [setD, List.set_cons_succ, List.set_cons_zero]
  refine wpAnyH_take_h 62 (v := ?e62) rfl rfl (by kernel_rfl) (by kernel_rfl) (by kernel_rfl) (fun _ _ _ h => h) ?g62 (by assumption) ?k62
  case g62 => (intro w hSw; (try dsimp only at hSw); go_simp; try rfl)
  case' k62 => simp only [setD, List.set_cons_succ, List.set_cons_zero]
  refine wpAnyH_take_h 63 (v := ?e63) rfl rfl (by kernel_rfl) (by kernel_rfl) (by kernel_rfl) (fun _ _ _ h => h) ?g63 (by assumption) ?k63
  case g63 => (intro w hSw; (try dsimp only at hSw); go_simp; try rfl)
  case' k63 => simp only [setD, List.set_cons_succ, List.set_cons_zero]
  refine wpAnyH_take_h 64 (v := ?e64) rfl rfl (by kernel_rfl) (by kernel_rfl) (by kernel_rfl) (fun _ _ _ h => h) ?g64 (by assumption) ?k64
  case g64 => (intro w hSw; (try dsimp only at hSw); go_simp; try rfl)
  case' k64 => simp only [setD, List.set_cons_succ, List.set_cons_zero]
  refine wpAnyH_one_h 65 rfl rfl (by kernel_rfl) (fun K hK => ?_)
  have hK2 := hK.out
  clear hK
  simp only [setD, List.set_cons_succ, List.set_cons_zero] at hK2 ⊢
  go_simp
  refine (HS2.out _ HB12.out).mono ?_
  rintro en w13 ⟨ta, tc, rfl, hbn⟩
  dsimp only
  have HB13 := Lib.hid (below_seq HB12.out hbn)
  refine hK2 _ _ (HZ.out w13 HB13.out) (fun hSn => ?_)
  clear hK2 K hbn
  refine wpAnyH_take_h 66 (v := ?e66) rfl rfl (by kernel_rfl) (by kernel_rfl) (by kernel_rfl) (fun _ _ _ h => h) ?g66 (by assumption) ?k66
  case g66 => (intro w hSw; (try dsimp only at hSw); go_simp; try rfl)
  case' k66 => simp only [setD, List.set_cons_succ, List.set_cons_zero]
  refine wpAnyH_take_h 67 (v := ?e67) rfl rfl (by kernel_rfl) (by kernel_rfl) (by kernel_rfl) (fun _ _ _ h => h) ?g67 (by assumption) ?k67
  case g67 => (intro w hSw; (try dsimp only at hSw); go_simp; try rfl)
  case' k67 => simp only [setD, List.set_cons_succ, List.set_cons_zero]
  refine wpAnyH_take_h 68 (v := ?e68) rfl rfl (by kernel_rfl) (by kernel_rfl) (by kernel_rfl) (fun _ _ _ h => h) ?g68 (by assumption) ?k68
  case g68 => (intro w hSw; (try dsimp only at hSw); go_simp; try rfl)
  case' k68 => simp only [setD, List.set_cons_succ, List.set_cons_zero]
  refine wpAnyH_take_h 69 (v := ?e69) rfl rfl (by kernel_rfl) (by kernel_rfl) (by kernel_rfl) (fun _ _ _ h => h) ?g69 (by assumption) ?k69
  case g69 => (intro w hSw; (try dsimp only at hSw); go_simp; try rfl)
  case' k69 => simp only [setD, List.set_cons_zero]
  refine wpAnyH_done (by kernel_rfl) ?_ _
  clear hHeld
  go_wp2_with fail
  go_ret
  exact ⟨rfl, below_seq HBW.out HB13.out⟩
end Go.Proofs.Yticdkbcfahjpnaa
