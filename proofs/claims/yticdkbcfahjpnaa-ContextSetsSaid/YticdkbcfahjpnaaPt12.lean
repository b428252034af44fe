/- Contexts: ContextSets. (and what follows from it) -/
import Derived.Test.YticdkbcfahjpnaaPt11
import Derived.Deep.QuietTactic

/- Contexts: ContextSets. -/
namespace Go.Proofs.Yticdkbcfahjpnaa
open Go.RowKit Go.Deep Go.Shelf

/-! ### What Set gives -/
theorem setE_hit {es : List Ent} {nm : ByteArray} {a s : Int} {i : Nat} {e : Ent} (h : es.findIdx? (entIs nm) = some i) (he : es[i]? = some e) : setE es nm a s = es.set i ⟨e.n, a, s⟩ := by
  unfold setE; rw [h]; simp only [he]
theorem setE_miss {es : List Ent} {nm : ByteArray} {a s : Int} (h : es.findIdx? (entIs nm) = none) : setE es nm a s = es ++ [⟨nm, a, s⟩] := by
  unfold setE; rw [h]
theorem setE_find (es : List Ent) (nm : ByteArray) (a s : Int) : ∃ n, (setE es nm a s).find? (entIs nm) = some ⟨n, a, s⟩ := by
  cases h : es.findIdx? (entIs nm) with
  | none =>
    rw [setE_miss h]
    refine ⟨nm, ?_⟩
    rw [List.findIdx?_eq_none_iff] at h
    refine find_of (j := es.length) (fun k e hk he => ?_) (by simp) (by simp [entIs])
    rw [List.getElem?_append_left hk] at he
    exact h e (List.mem_of_getElem? he)
  | some i =>
    rw [List.findIdx?_eq_some_iff_getElem] at h
    obtain ⟨h1, h2, h3⟩ := h
    have he : es[i]? = some es[i] := List.getElem?_eq_getElem h1
    rw [setE_hit (List.findIdx?_eq_some_iff_getElem.2 ⟨h1, h2, h3⟩) he]
    refine ⟨es[i].n, find_of (j := i) (fun k e hk he => ?_) (by rw [List.getElem?_set_self h1]) (by simpa [entIs] using h2)⟩
    rw [List.getElem?_set_ne (by omega)] at he
    have hlt : k < es.length := (List.getElem?_eq_some_iff.1 he).1
    have := h3 k hk
    rw [(List.getElem?_eq_some_iff.1 he).2] at this
    simpa using this
/-- The cells of an entry of a row. -/
theorem GRow.entAt {base : Nat} {w : World} {g n c : Nat} {es : List Ent} (h : GRow 30 3 base w (.slice (some ⟨g, 0, none⟩) n c) (es.map entCells)) {j : Nat} {e : Ent} (hj : es[j]? = some e) : EnAt w g (j * 3) e := by
  have hes : (es.map entCells)[j]? = some (entCells e) := by rw [List.getElem?_map, hj]; rfl
  obtain ⟨_, _, e1, c0⟩ := h.cell (i := 0) hes rfl
  obtain ⟨_, _, e2, c1⟩ := h.cell (i := 1) hes rfl
  obtain ⟨_, _, e3, c2⟩ := h.cell (i := 2) hes rfl
  simp only [Value.slice.injEq, Option.some.injEq, Addr.mk.injEq, and_true] at e1 e2 e3
  rw [← e1.1] at c0
  rw [← e2.1] at c1
  rw [← e3.1] at c2
  exact ⟨c0, c1, c2⟩
/-- Has the name been met, ahead of the j-th entry? -/
def setAt : Option Nat → Nat → Bool
  | some i, j => decide (i < j)
  | none, _ => false
theorem setE_at (es : List Ent) (nm : ByteArray) (a s : Int) {j : Nat} {e : Ent} (he : es[j]? = some e) : ∃ f, (setE es nm a s)[j]? = some f ∧ f.n = e.n ∧
    ((entIs nm e = true ∧ setAt (es.findIdx? (entIs nm)) j = false) → f.a = a ∧ f.s = s) ∧ (¬ (entIs nm e = true ∧ setAt (es.findIdx? (entIs nm)) j = false) → f = e) ∧
    setAt (es.findIdx? (entIs nm)) (j + 1) = (setAt (es.findIdx? (entIs nm)) j || entIs nm e) := by
  have hj := (List.getElem?_eq_some_iff.1 he).1
  cases h : es.findIdx? (entIs nm) with
  | none =>
    rw [setE_miss h]
    rw [List.findIdx?_eq_none_iff] at h
    have h1 := h e (List.mem_of_getElem? he)
    refine ⟨e, by rw [List.getElem?_append_left hj]; exact he, rfl, fun h2 => ?_, fun _ => rfl, ?_⟩
    · rw [h1] at h2; exact absurd h2.1 (by decide)
    · rw [h1]; rfl
  | some i =>
    have h' := h
    rw [List.findIdx?_eq_some_iff_getElem] at h'
    obtain ⟨h1, h2, h3⟩ := h'
    rw [setE_hit h (List.getElem?_eq_getElem h1)]
    by_cases hij : j = i
    · subst hij
      obtain rfl : es[j] = e := (List.getElem?_eq_some_iff.1 he).2
      refine ⟨⟨es[j].n, a, s⟩, by rw [List.getElem?_set_self h1], rfl, fun _ => ⟨rfl, rfl⟩, fun h4 => (h4 ⟨h2, by simp [setAt]⟩).elim, ?_⟩
      rw [h2]; simp [setAt]
    · refine ⟨e, by rw [List.getElem?_set_ne (fun h => hij h.symm)]; exact he, rfl, fun h4 => ?_, fun _ => rfl, ?_⟩
      · have h5 : ¬ i < j := by have := h4.2; simp only [setAt] at this; simpa using this
        have h6 := h3 j (by omega)
        rw [(List.getElem?_eq_some_iff.1 he).2] at h6
        exact absurd h4.1 h6
      · by_cases hlt : i < j
        · simp [setAt, hlt, Nat.lt_succ_of_lt hlt]
        · have h6 := h3 j (by omega)
          rw [(List.getElem?_eq_some_iff.1 he).2] at h6
          have h7 : ¬ i < j + 1 := by omega
          simp [setAt, hlt, h7, h6]
set_option maxHeartbeats 16000000 in
set_option maxRecDepth 100000 in
theorem ContextSets_any (es : List Ent) (nm : ByteArray) (a s : Int) (v : Value) (w : World) (hk : EnSl (fun k => k < w.heap.size) w v es) :
    Calls Try.prog 3 #[v, .string nm, rfI a s] w fun e w' => e = .returned (.bool true) ∧ Below w.heap.size w w' := by
  obtain ⟨W1, hW1⟩ : ∃ W1, w.alloc (refO (.int .i64 a) (.int .i64 s)) = W1 := ⟨_, rfl⟩
  have hb1 : Below w.heap.size w W1 := by rw [← hW1]; exact blkBelow w _ _
  have x1 : W1.heap[w.heap.size]? = some (refO (.int .i64 a) (.int .i64 s)) := by rw [← hW1]; exact World.alloc_heap_new _ _
  have hs1 : W1.heap.size = w.heap.size + 1 := by rw [← hW1]; simp
  have HX : Hid (∀ W, Below W1.heap.size W1 W → W.cell? ⟨w.heap.size, 0, none⟩ = some (.int .i64 a) ∧ W.cell? ⟨w.heap.size, 1, none⟩ = some (.int .i64 s)) := Lib.hid (fun W hW => by
    obtain ⟨h0, h1, _⟩ := refO_cells ((hW.block _ (by omega)).trans x1)
    exact ⟨h0, h1⟩)
  have HK : Hid (∀ W, Below w.heap.size w W → EnSl (fun k => k < W.heap.size) W v es) := Lib.hid (fun W hW => hk.to hW)
  obtain ⟨pa, len, c, rfl, hlen, hmx, hget⟩ := hk.open
  have HG : Hid (∀ j e, es[j]? = some e → ∃ kb ko, pa = some ⟨kb, ko, none⟩ ∧ ∀ W, Below w.heap.size w W → EnAt W kb (ko + j * 3) e) := Lib.hid (fun j e hj => by
    obtain ⟨kb, ko, e1, hkb, hty⟩ := hget j e hj
    exact ⟨kb, ko, e1, fun W hW => hty.keep (B := fun k => k < w.heap.size) (hW.keeps'.mono (fun k hk => hk)) hkb⟩)
  have HL : Hid (len = es.length) := Lib.hid hlen.out
  have HAW := Lib.hid (fun W => cawake_any W)
  have HW1 := Lib.hid hW1
  have HB1 := Lib.hid hb1
  have HS1 := Lib.hid hs1
  clear hget hk hlen hW1 hb1 x1 hs1
  by_cases h100 : len ≤ 100
  · have d1 : decide ((100 : Int) < (len : Int)) = false := by simp; omega
    go_enter Try.func3, Try.ntmps3
    go_upto_region 1 with fail
    rw [show w.alloc (.cells #[.int .i64 a, .int .i64 s] 24) = W1 from HW1.out]
    go_upto_region 3 with (go_at_call 7; go_loud (refine (HAW.out W1).mono ?_; rintro en w2 ⟨rfl, hb2⟩; have HB2 := Lib.hid hb2; clear hb2))
    have hsrc := (HK.out w2 (below_seq HB1.out HB2.out)).src
    have HSRC := Lib.hid hsrc
    clear hsrc
    go_upto_region 4 with (at_builtin; refine wpList_appG entElem rfl _ _ rfl rfl (GRow.empty 30 3 w2.heap.size w2 _ rfl (Nat.le_refl _)) pa len c (es.map entCells) rfl HSRC.out.1 (one_ents es).1 ?_ (one_ents es).2 ?_ ?_ ?_)
    · rcases HSRC.out.2 with h | ⟨b, o, e, h⟩
      · exact .inl h
      · exact .inr ⟨b, o, e, fun j e i u hj hi => Lib.cell?_alloc_some _ (h j e i u hj hi)⟩
    · have := HL.out; simp; omega
    · simp
    · intro oa on oc w3 hrow hgrow _
      have hb3 : Below w2.heap.size w2 w3 := ((Below.refl _ w2).alloc (Nat.le_refl _) _).grown hgrow (by simp) (fun k hk => by cases hk; exact Nat.le_refl _)
      have HO := Lib.hid hrow
      have HB3 := Lib.hid hb3
      have HES : Hid (EnSl (fun k => k < w3.heap.size) w3 (.slice oa on oc) es) := Lib.hid ((hrow.ents (by have := HL.out; unfold maxLen; omega)).mono (fun k hk => hk.2))
      have HST := Lib.hid (cset_any es nm a s _ w3 HES.out (by have := HL.out; omega))
      obtain ⟨ls, hls⟩ : ∃ ls, setE es nm a s = ls := ⟨_, rfl⟩
      rw [hls] at HST
      have HLS := Lib.hid hls
      obtain ⟨z0, z1⟩ := HX.out w3 (below_seq HB2.out hb3)
      clear hrow hb3 hgrow HSRC hls
      go_upto_region 5 with (go_at_call 8; go_loud (refine HST.out.mono ?_; rintro en w4 ⟨la, ln, lc, rfl, hr4, hb4⟩; have HR4 := Lib.hid hr4; have HB4 := Lib.hid hb4; clear hr4 hb4))
      have HLI := Lib.hid (lfind_any es nm _ w4 (HK.out w4 (below_seq HB1.out (below_seq HB2.out (below_seq HB3.out HB4.out)))))
      obtain ⟨had, hhad⟩ : ∃ b, (es.find? (entIs nm)).isSome = b := ⟨_, rfl⟩
      obtain ⟨fx, fy, hfr⟩ : ∃ fx fy, fndR (es.find? (entIs nm)) = .tuple #[.agg #[.int .i64 fx, .int .i64 fy], .bool had] := by
        rw [← hhad]
        cases es.find? (entIs nm) with
        | none => exact ⟨0, 0, rfl⟩
        | some e => exact ⟨e.a, e.s, rfl⟩
      rw [hfr] at HLI
      have hln : ln = ls.length := by
        obtain ⟨_, _, _, e, h1, _⟩ := HR4.out.src
        simp only [Value.slice.injEq] at e
        rw [e.2.1, h1, List.length_map]
      have hll : ls.length = if had = true then es.length else es.length + 1 := by
        have h := fnd_idx (entIs nm) es
        rw [← HLS.out, ← hhad]
        cases hi : es.findIdx? (entIs nm) with
        | none =>
          rw [hi] at h
          rw [setE_miss hi, h]
          simp
        | some i =>
          rw [hi] at h
          have hlt : i < es.length := by rw [List.findIdx?_eq_some_iff_getElem] at hi; exact hi.1
          rw [setE_hit hi (List.getElem?_eq_getElem hlt), h]
          simp [List.getElem?_eq_getElem hlt]
      have HLN : Hid (ln = ls.length ∧ ln = if had = true then len else len + 1) := Lib.hid ⟨hln, by rw [hln, hll, HL.out]⟩
      have HHAD := Lib.hid hhad
      clear z0 z1 hfr hln hll hhad
      go_upto_region 6 with (go_at_call 9; go_loud (refine HLI.out.mono ?_; rintro en w5 ⟨rfl, hb5⟩; have HB5 := Lib.hid hb5; clear hb5))
      obtain ⟨W6, hW6⟩ : ∃ W6, w5.alloc (.cells #[.int .i64 fx, .int .i64 fy] 24) = W6 := ⟨_, rfl⟩
      have HB6 : Hid (Below w5.heap.size w5 W6) := Lib.hid (by rw [← hW6]; exact blkBelow w5 _ _)
      rw [hW6]
      clear hW6
      go_cut [62] from 63 (fun b wr => b = .bool false ∧ W6 = wr)
      case first =>
        obtain ⟨-, h⟩ := HLN.out
        cases had with
        | true =>
          obtain rfl : ln = len := by simpa using h
          clear h
          go_wp2_with fail
          go_meet
          case rel => exact ⟨rfl, rfl⟩
        | false =>
          have h1 : ln = len + 1 := by simpa using h
          have e1 : ((ln : Int) == (len : Int)) = false := by simp; omega
          have e2 : (ln == len) = false := by simp; omega
          have e3 : IntKind.i64.wrap ((len : Int) + 1) = (len : Int) + 1 := by rw [IntKind.wrap_i64]; omega
          have e4 : ((ln : Int) != (len : Int)) = true := by simp; omega
          have e5 : ((ln : Int) != (len : Int) + 1) = false := by simp; omega
          clear h h1
          go_wp2_with fail
          go_meet
          case rel => exact ⟨rfl, rfl⟩
      case rest =>
        obtain ⟨rfl, rfl⟩ := hcut
        have HB46 := Lib.hid (below_seq HB5.out HB6.out)
        have HRL := Lib.hid (HR4.out.to HB46.out)
        have HEL : Hid (EnSl (fun k => k < W6.heap.size) W6 (.slice la ln lc) ls) := Lib.hid ((HRL.out.ents (by have h1 := HLN.out.1; have h2 := HLN.out.2; have h3 : ln ≤ len + 1 := (by split at h2 <;> omega); unfold maxLen; omega)).mono (fun k hk => hk.2))
        have HCF := Lib.hid (cfind_any ls nm _ W6 HEL.out)
        obtain ⟨fn, hfn⟩ := setE_find es nm a s
        rw [HLS.out] at hfn
        rw [hfn] at HCF
        unfold fndR at HCF
        clear hfn
        go_upto_region 9 with (go_at_call 10; go_loud (refine HCF.out.mono ?_; rintro en w7 ⟨rfl, hb7⟩; have HB7 := Lib.hid hb7; clear hb7))
        obtain ⟨W8, hW8⟩ : ∃ W8, w7.alloc (.cells #[.int .i64 a, .int .i64 s] 24) = W8 := ⟨_, rfl⟩
        have hb8 : Below w7.heap.size w7 W8 := by rw [← hW8]; exact blkBelow w7 _ _
        have x8 : W8.heap[w7.heap.size]? = some (refO (.int .i64 a) (.int .i64 s)) := by rw [← hW8]; exact World.alloc_heap_new _ _
        have hs8 : W8.heap.size = w7.heap.size + 1 := by rw [← hW8]; simp
        have HX8 : Hid (∀ W, Below W8.heap.size W8 W → W.cell? ⟨w7.heap.size, 0, none⟩ = some (.int .i64 a) ∧ W.cell? ⟨w7.heap.size, 1, none⟩ = some (.int .i64 s)) := Lib.hid (fun W hW => by
          obtain ⟨h0, h1, _⟩ := refO_cells ((hW.block _ (by omega)).trans x8)
          exact ⟨h0, h1⟩)
        have HB68 := Lib.hid (below_seq HB7.out hb8)
        have HB38 := Lib.hid (below_seq HB4.out (below_seq HB46.out HB68.out))
        have HB28 := Lib.hid (below_seq HB3.out HB38.out)
        have HB18 := Lib.hid (below_seq HB2.out HB28.out)
        have HRL8 := Lib.hid (HRL.out.to HB68.out)
        have HRO8 := Lib.hid (HO.out.to HB38.out)
        rw [hW8]
        clear hW8 hb8 x8 hs8 HLI HCF HST HAW HRL HEL
        go_wp2_with fail
        obtain ⟨ix, hix⟩ : ∃ ix, es.findIdx? (entIs nm) = ix := ⟨_, rfl⟩
        have HAT : Hid (∀ j e, es[j]? = some e → ∃ f, ls[j]? = some f ∧ f.n = e.n ∧ ((entIs nm e = true ∧ setAt ix j = false) → f.a = a ∧ f.s = s) ∧ (¬ (entIs nm e = true ∧ setAt ix j = false) → f = e) ∧ setAt ix (j + 1) = (setAt ix j || entIs nm e)) := Lib.hid (fun j e he => by
          have h := setE_at es nm a s he
          rw [hix, HLS.out] at h
          exact h)
        have HS0 : Hid (setAt ix 0 = false) := Lib.hid (by cases ix <;> simp [setAt])
        clear hix
        go_loopw [13, 14] (fun sv i wr => ∃ j : Nat, i = .int .i64 j ∧ j ≤ len ∧ sv = .bool (setAt ix j) ∧ Hid (Below W8.heap.size W8 wr)) (fun _ i _ => len - (intOf i).toNat)
        case atStart => exact ⟨0, rfl, Nat.zero_le _, by rw [HS0.out], Lib.hid (Below.refl _ _)⟩
        case round =>
          obtain ⟨j, rfl, hj, rfl, HBW⟩ := hrel
          by_cases hlt : j < len
          · obtain ⟨e, he⟩ : ∃ e, es[j]? = some e := ⟨_, List.getElem?_eq_getElem (by rw [← HL.out]; exact hlt)⟩
            obtain ⟨kb, ko, rfl, hW⟩ := HG.out j e he
            obtain ⟨f, hf, hfn, hf1, hf2, hf3⟩ := HAT.out j e he
            have hlo : j < on ∧ ∃ og, oa = some ⟨og, 0, none⟩ := by
              obtain ⟨h1, g, h2, _⟩ := HRO8.out.is (by rw [List.length_map]; have := (List.getElem?_eq_some_iff.1 he).1; omega)
              rw [List.length_map] at h1
              exact ⟨by rw [h1]; exact (List.getElem?_eq_some_iff.1 he).1, g, h2⟩
            obtain ⟨hjo, og, rfl⟩ := hlo
            have hll : j < ln ∧ ∃ lg, la = some ⟨lg, 0, none⟩ := by
              obtain ⟨h1, g, h2, _⟩ := HRL8.out.is (by rw [List.length_map]; have := (List.getElem?_eq_some_iff.1 hf).1; omega)
              rw [List.length_map] at h1
              exact ⟨by rw [h1]; exact (List.getElem?_eq_some_iff.1 hf).1, g, h2⟩
            obtain ⟨hjl, lg, rfl⟩ := hll
            have hlnm : ln ≤ 101 := by have h2 := HLN.out.2; split at h2 <;> omega
            obtain ⟨c0, c1, c2⟩ := hW wr (below_seq HB1.out (below_seq HB18.out HBW.out))
            obtain ⟨o0, o1, o2⟩ := (HRO8.out.to HBW.out).entAt he
            obtain ⟨l0, l1, l2⟩ := (HRL8.out.to HBW.out).entAt hf
            obtain ⟨z0, z1⟩ := HX.out wr (below_seq HB18.out HBW.out)
            rw [hfn] at l0
            obtain ⟨sb, hsb⟩ : ∃ sb, setAt ix j = sb := ⟨_, rfl⟩
            rw [hsb] at hf1 hf2 hf3 ⊢
            have HF3 := Lib.hid hf3
            have honm : on ≤ 101 := by
              obtain ⟨_, _, _, e1, h1, _⟩ := HRO8.out.src
              simp only [Value.slice.injEq] at e1
              have := HL.out
              rw [e1.2.1, h1, List.length_map]; omega
            clear hW he hf hsb hf3
            by_cases hen : e.n = nm
            · have hei : entIs nm e = true := by simp [entIs, hen]
              rw [hei, Bool.or_true] at HF3
              cases sb with
              | false =>
                obtain ⟨ha, hs⟩ := hf1 ⟨hei, rfl⟩
                rw [ha] at l1
                rw [hs] at l2
                rw [hen] at c0 o0 l0
                clear hf1 hf2 hfn hei hen ha hs
                go_upto_region 13 with fail
                go_quiet (fail)
                go_upto_region 17 with fail
                go_quiet (fail)
                go_wp2_with fail
                go_roundw
                case rel => exact ⟨j + 1, by go_num, by omega, by rw [HF3.out], Lib.hid (below_drewN HBW.out _)⟩
                case measure => simp [intOf]; omega
              | true =>
                obtain rfl : f = e := hf2 (fun h => by cases h.2)
                rw [hen] at c0 o0 l0
                clear hf1 hf2 hfn hei hen
                go_upto_region 13 with fail
                go_quiet (fail)
                go_upto_region 19 with fail
                go_quiet (fail)
                go_wp2_with fail
                go_roundw
                case rel => exact ⟨j + 1, by go_num, by omega, by rw [HF3.out], Lib.hid (below_drewN HBW.out _)⟩
                case measure => simp [intOf]; omega
            · have hei : entIs nm e = false := by simp [entIs, hen]
              rw [hei, Bool.or_false] at HF3
              obtain rfl : f = e := hf2 (fun h => by rw [hei] at h; cases h.1)
              have h1 := str_ne hen
              have h2 : (f.n.toList == nm.toList) = false := by simpa using h1
              clear hf1 hf2 hfn hei hen
              go_upto_region 13 with fail
              go_quiet (fail)
              go_upto_region 19 with fail
              go_quiet (fail)
              go_wp2_with fail
              go_roundw
              case rel => exact ⟨j + 1, by go_num, by omega, by rw [HF3.out], Lib.hid (below_drewN HBW.out _)⟩
              case measure => simp [intOf]; omega
          · obtain rfl : j = len := by omega
            obtain ⟨z0, z1⟩ := HX.out wr (below_seq HB18.out HBW.out)
            obtain ⟨x0, x1⟩ := HX8.out wr HBW.out
            cases had with
            | true =>
              go_upto_region 21 with fail
              go_quiet (fail)
              go_wp2_with fail
              go_ret
              exact ⟨rfl, below_drewN (below_seq HB1.out (below_seq HB18.out HBW.out)) _⟩
            | false =>
              have hmiss : es.findIdx? (entIs nm) = none := by
                have h1 := HHAD.out
                have h2 := fnd_idx (entIs nm) es
                cases h : es.findIdx? (entIs nm) with
                | none => rfl
                | some i =>
                  have hlt : i < es.length := by rw [List.findIdx?_eq_some_iff_getElem] at h; exact h.1
                  rw [h] at h2
                  rw [h2] at h1
                  simp [List.getElem?_eq_getElem hlt] at h1
              have hlast : ls[j]? = some ⟨nm, a, s⟩ := by
                rw [← HLS.out, setE_miss hmiss, HL.out]
                simp
              obtain ⟨-, hl2⟩ := HLN.out
              have hjl : j < ln := by simp at hl2; omega
              have hlm : ln ≤ 101 := by simp at hl2; omega
              obtain ⟨lg, rfl⟩ : ∃ lg, la = some ⟨lg, 0, none⟩ := by
                obtain ⟨_, g, h2, _⟩ := HRL8.out.is (by rw [List.length_map]; have := (List.getElem?_eq_some_iff.1 hlast).1; omega)
                exact ⟨g, h2⟩
              obtain ⟨l0, l1, l2⟩ := (HRL8.out.to HBW.out).entAt hlast
              clear hmiss hlast hl2
              go_upto_region 21 with fail
              go_quiet (fail)
              go_wp2_with fail
              go_ret
              exact ⟨rfl, below_drewN (below_seq HB1.out (below_seq HB18.out HBW.out)) _⟩
  · have d1 : decide ((100 : Int) < (len : Int)) = true := by simp; omega
    go_enter Try.func3, Try.ntmps3
    go_upto_region 1 with fail
    rw [show w.alloc (.cells #[.int .i64 a, .int .i64 s] 24) = W1 from HW1.out]
    go_upto_region 2 with (go_at_call 7; go_loud (refine (HAW.out W1).mono ?_; rintro en w2 ⟨rfl, hb2⟩; have HB2 := Lib.hid hb2; clear hb2))
    go_wp2_with (go_at_call 7; go_loud (refine (HAW.out w2).mono ?_; rintro en w3 ⟨rfl, hb3⟩; have HB3 := Lib.hid hb3; clear hb3))
    go_ret
    exact ⟨rfl, below_seq HB1.out (below_seq HB2.out HB3.out)⟩
theorem ContextSetsW (es : List Ent) (v : Value) (nm : ByteArray) (a s : Int) (w : World) (hk : EnSl (fun k => k < w.heap.size) w v es) (_ : nm.size ≤ maxLen) :
    Calls Try.prog 3 #[v, .string nm, rfI a s] w fun e w' => e = .returned (.bool true) ∧ Below w.heap.size w w' := ContextSets_any es nm a s v w hk
end Go.Proofs.Yticdkbcfahjpnaa
