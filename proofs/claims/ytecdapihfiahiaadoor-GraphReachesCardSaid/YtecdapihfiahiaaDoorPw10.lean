/- Graphs: the fixed example of the law comes out right. (and what follows from it) -/
import Derived.Test.YtecdapihfiahiaaDoorPw5
import Derived.Deep.RegionWith

/- Graphs: the fixed example of the law comes out right. -/
namespace Go.Proofs.YtecdapihfiahiaaDoor
open Go.RowKit Go.Deep Go.Shelf

abbrev xInt : Ty := .mk 1 0 ⟨#[]⟩ 0 [] []
abbrev xVar : Ty := .mk 9 0 ⟨#[116]⟩ 2 [] []
abbrev xSend : Ty := .mk 4 0 ⟨#[]⟩ 0 [] [xInt, xVar]
abbrev xRec : Ty := .mk 8 0 ⟨#[116]⟩ 0 [] [xSend]
abbrev xEnd : Ty := .mk 3 0 ⟨#[]⟩ 0 [] []
abbrev xTs : List Ty := [xRec, xEnd]
theorem xNodes : gNodes xTs = [⟨4, 0, [], [⟨1, 0⟩, ⟨0, 2⟩]⟩, ⟨1, 0, [], []⟩, ⟨3, 0, [], []⟩] := by
  simp [gNodes, Ty.pnods, Ty.pnod, Ty.pnod1, Ty.prefs, Ty.pref, upE]
theorem xRefs : gRefs xTs = [⟨0, 0⟩, ⟨2, 0⟩] := by
  simp [gRefs, Ty.prefs, Ty.pref, Ty.pref1, Ty.gcnt, Ty.gcnts]
theorem xOk : Ty.okgs xTs := by simp [Ty.okgs, Ty.okg]
abbrev c1 : List Value := [.int .i64 1, .int .i64 0, .string ⟨#[]⟩, .int .i64 0, .slice none 0 0, .slice none 0 0]
abbrev c9 : List Value := [.int .i64 9, .int .i64 0, .string ⟨#[116]⟩, .int .i64 2, .slice none 0 0, .slice none 0 0]
abbrev c4 (b : Nat) : List Value := [.int .i64 4, .int .i64 0, .string ⟨#[]⟩, .int .i64 0, .slice none 0 0, .slice (some ⟨b, 0, none⟩) 2 2]
abbrev c8 (b : Nat) : List Value := [.int .i64 8, .int .i64 0, .string ⟨#[116]⟩, .int .i64 0, .slice none 0 0, .slice (some ⟨b, 0, none⟩) 1 1]
abbrev c3 : List Value := [.int .i64 3, .int .i64 0, .string ⟨#[]⟩, .int .i64 0, .slice none 0 0, .slice none 0 0]
theorem nilStr (B : Nat → Prop) (W : World) : StrSl B W (.slice none 0 0) [] := ⟨.inl ⟨⟨_, _, rfl⟩, rfl⟩, by simp [maxLen], fun s hs => by cases hs⟩
theorem nilTys (B : Nat → Prop) (W : World) : TySl B W (.slice none 0 0) [] := ⟨.inl ⟨⟨_, _, rfl⟩, rfl⟩, by simp [maxLen]⟩
theorem awake_ts {B : Nat → Prop} {W : World} {b0 b1 b3 : Nat} {T : TypeId} {f0 f1 f3 : Nat × Nat} (h0 : W.heap[b0]? = some (.cells (c1 ++ c9).toArray T f0)) (h1 : W.heap[b1]? = some (.cells (c4 b0).toArray T f1)) (h3 : W.heap[b3]? = some (.cells (c8 b1 ++ c3).toArray T f3)) (k0 : B b0) (k1 : B b1) (k3 : B b3) :
    TySl B W (.slice (some ⟨b3, 0, none⟩) 2 2) xTs := by
  have cell : ∀ {b : Nat} {l : List Value} {f : Nat × Nat}, W.heap[b]? = some (.cells l.toArray T f) → ∀ i u, l[i]? = some u → W.cell? ⟨b, i, none⟩ = some u := by
    intro b l f h i u hi
    simp only [World.cell?, h]
    simpa using hi
  have a1 : TyAt B W xInt b0 0 := tyAt_of (v5 := .slice none 0 0) (v6 := .slice none 0 0) k0 (cell h0 0 _ rfl) (cell h0 1 _ rfl) (cell h0 2 _ rfl) (cell h0 3 _ rfl) (cell h0 4 _ rfl) (cell h0 5 _ rfl) ⟨_, _, rfl, by decide, nilStr _ _, nilTys _ _⟩
  have a9 : TyAt B W xVar b0 (0 + 6) := tyAt_of (v5 := .slice none 0 0) (v6 := .slice none 0 0) k0 (cell h0 6 _ rfl) (cell h0 7 _ rfl) (cell h0 8 _ rfl) (cell h0 9 _ rfl) (cell h0 10 _ rfl) (cell h0 11 _ rfl) ⟨_, _, rfl, by decide, nilStr _ _, nilTys _ _⟩
  have t2 : TySl B W (.slice (some ⟨b0, 0, none⟩) 2 2) [xInt, xVar] := ⟨.inr ⟨b0, 0, 2, rfl, k0, by simp only [TysAt]; exact ⟨a1, a9, trivial⟩⟩, by simp [maxLen]⟩
  have a4 : TyAt B W xSend b1 0 := tyAt_of (v5 := .slice none 0 0) (v6 := .slice (some ⟨b0, 0, none⟩) 2 2) k1 (cell h1 0 _ rfl) (cell h1 1 _ rfl) (cell h1 2 _ rfl) (cell h1 3 _ rfl) (cell h1 4 _ rfl) (cell h1 5 _ rfl) ⟨_, _, rfl, by decide, nilStr _ _, t2⟩
  have t1 : TySl B W (.slice (some ⟨b1, 0, none⟩) 1 1) [xSend] := ⟨.inr ⟨b1, 0, 1, rfl, k1, by simp only [TysAt]; exact ⟨a4, trivial⟩⟩, by simp [maxLen]⟩
  have a8 : TyAt B W xRec b3 0 := tyAt_of (v5 := .slice none 0 0) (v6 := .slice (some ⟨b1, 0, none⟩) 1 1) k3 (cell h3 0 _ rfl) (cell h3 1 _ rfl) (cell h3 2 _ rfl) (cell h3 3 _ rfl) (cell h3 4 _ rfl) (cell h3 5 _ rfl) ⟨_, _, rfl, by decide, nilStr _ _, t1⟩
  have a3 : TyAt B W xEnd b3 (0 + 6) := tyAt_of (v5 := .slice none 0 0) (v6 := .slice none 0 0) k3 (cell h3 6 _ rfl) (cell h3 7 _ rfl) (cell h3 8 _ rfl) (cell h3 9 _ rfl) (cell h3 10 _ rfl) (cell h3 11 _ rfl) ⟨_, _, rfl, by decide, nilStr _ _, nilTys _ _⟩
  exact ⟨.inr ⟨b3, 0, 2, rfl, k3, by simp only [TysAt]; exact ⟨a8, a3, trivial⟩⟩, by simp [maxLen]⟩
/-- What is reached in the example. -/
def xSet : Nat → Bool := fun n => n == 0 || n == 1
theorem xLeast : Least (gNodes xTs) 0 xSet := by
  rw [xNodes]
  refine ⟨rfl, fun n g hn hS r hr => ?_, fun C hC hcl n hn => ?_⟩
  · match n, hn with
    | 0, hn => simp at hn; subst hn; simp at hr; rcases hr with rfl | rfl <;> rfl
    | 1, hn => simp at hn; subst hn; simp at hr
    | 2, hn => simp at hn; subst hn; simp at hr
    | n + 3, hn => simp at hn
  · simp only [xSet, Bool.or_eq_true, beq_iff_eq] at hn
    rcases hn with rfl | rfl
    · exact hC
    · exact hcl 0 _ rfl hC ⟨1, 0⟩ (by simp)
theorem xWf : wfG (gNodes xTs) := by
  rw [xNodes]
  intro n g hn r hr
  match n, hn with
  | 0, hn => simp at hn; subst hn; simp at hr; rcases hr with rfl | rfl <;> decide
  | 1, hn => simp at hn; subst hn; simp at hr
  | 2, hn => simp at hn; subst hn; simp at hr
  | n + 3, hn => simp at hn

theorem gcalls_at {P : Program} {f : FuncId} {vs : Array Value} {Q : Ending → World → Prop} {W W0 : World} (h : W = W0) (k : Calls P f vs W0 Q) : Calls P f vs W Q := by rw [h]; exact k
theorem four_heap (w : World) (o1 o2 o3 o4 : Obj) : ((((w.alloc o1).alloc o2).alloc o3).alloc o4).heap[w.heap.size]? = some o1 ∧ ((((w.alloc o1).alloc o2).alloc o3).alloc o4).heap[w.heap.size + 1]? = some o2 ∧ ((((w.alloc o1).alloc o2).alloc o3).alloc o4).heap[w.heap.size + 1 + 1 + 1]? = some o4 ∧ Below w.heap.size w ((((w.alloc o1).alloc o2).alloc o3).alloc o4) ∧ ((((w.alloc o1).alloc o2).alloc o3).alloc o4).heap.size = w.heap.size + 4 := by
  have s1 : (w.alloc o1).heap.size = w.heap.size + 1 := World.size_alloc _ _
  have s2 : ((w.alloc o1).alloc o2).heap.size = w.heap.size + 1 + 1 := by rw [World.size_alloc, s1]
  have s3 : (((w.alloc o1).alloc o2).alloc o3).heap.size = w.heap.size + 1 + 1 + 1 := by rw [World.size_alloc, s2]
  refine ⟨?_, ?_, ?_, ?_, by rw [World.size_alloc, s3]⟩
  · rw [Below.heap_alloc _ _ _ (by omega), Below.heap_alloc _ _ _ (by omega), Below.heap_alloc _ _ _ (by omega)]; exact World.alloc_heap_new _ _
  · rw [Below.heap_alloc _ _ _ (by omega), Below.heap_alloc _ _ _ (by omega)]
    have h := World.alloc_heap_new (w.alloc o1) o2; rwa [s1] at h
  · have h := World.alloc_heap_new (((w.alloc o1).alloc o2).alloc o3) o4; rwa [s3] at h
  · exact ((((Below.refl _ _).alloc (Nat.le_refl _) _).alloc (by omega) _).alloc (by omega) _).alloc (by omega) _

set_option maxHeartbeats 4000000 in
set_option maxRecDepth 100000 in
theorem gawake_any (E : Nat) (w : World) (he : GEnvW E w) : Calls Tryd.prog 7 #[] w fun e w' => e = .returned (.bool true) ∧ Below w.heap.size w w' := by
  obtain ⟨h0, h1, h3, hb4, hs4⟩ := four_heap w (.cells (c1 ++ c9).toArray 47) (.cells (c4 w.heap.size).toArray 47) (.cells (c8 (w.heap.size + 1)).toArray 47) (.cells (c8 (w.heap.size + 1) ++ c3).toArray 47)
  obtain ⟨W4, hW4⟩ : ∃ W4, ((((w.alloc (.cells (c1 ++ c9).toArray 47)).alloc (.cells (c4 w.heap.size).toArray 47)).alloc (.cells (c8 (w.heap.size + 1)).toArray 47)).alloc (.cells (c8 (w.heap.size + 1) ++ c3).toArray 47)) = W4 := ⟨_, rfl⟩
  rw [hW4] at h0 h1 h3 hb4 hs4
  have hts : TySl (fun k => k < W4.heap.size) W4 (.slice (some ⟨w.heap.size + 1 + 1 + 1, 0, none⟩) 2 2) xTs := awake_ts h0 h1 h3 (by omega) (by omega) (by omega)
  have HBD := Lib.hid (build_any xTs (some ⟨w.heap.size + 1 + 1 + 1, 0, none⟩) 2 2 W4 hts (by decide) (by decide) xOk)
  rw [xNodes, xRefs] at HBD
  have HW4 := Lib.hid hW4
  have HB4 := Lib.hid hb4
  have HE := Lib.hid (he.to (hb4.mono he.le))
  have HEL := Lib.hid he.le
  clear h0 h1 h3 hb4 hs4 hts hW4 he
  go_enter Tryd.func7, Tryd.ntmps7
  go_upto_region 3 with (go_at_call 9; go_loud (refine gcalls_at HW4.out ?_; refine HBD.out.mono ?_; rintro en w5 ⟨na, nn, nc, ra, rn, rc, rfl, hn5, hr5, hb5⟩; have HN5 := Lib.hid hn5; have HR5 := Lib.hid hr5; have HB5 := Lib.hid hb5; clear hn5 hr5 hb5))
  obtain ⟨hnl, ⟨kb, ko, rfl, hkb, hn0⟩⟩ : nn = 3 ∧ ∃ kb ko, na = some ⟨kb, ko, none⟩ ∧ kb < w5.heap.size ∧ NodeAtG (Fresh W4.heap.size w5.heap.size) w5 ⟨4, 0, [], [⟨1, 0⟩, ⟨0, 2⟩]⟩ kb ko := by
    obtain ⟨pa, len, c, e, hl, _, hg⟩ := HN5.out.open
    simp only [Value.slice.injEq] at e
    obtain ⟨rfl, rfl, rfl⟩ := e
    obtain ⟨kb, ko, e, hk, hn⟩ := hg 0 _ rfl
    exact ⟨hl.out, kb, ko, e, hk.2, by simpa using hn⟩
  subst hnl
  obtain ⟨d0, _, lv, nv, _, d3, _, hnx⟩ := hn0
  obtain ⟨ma, mn, mc, rfl, hml, _, hmg⟩ := hnx.open
  obtain rfl : mn = 2 := hml.out
  obtain ⟨mb, mo, rfl, hmb, m0, m1⟩ := hmg 0 _ rfl
  obtain ⟨mb', mo', em, _, m2, m3⟩ := hmg 1 _ rfl
  simp only [Option.some.injEq, Addr.mk.injEq, and_true] at em
  obtain ⟨rfl, rfl⟩ := em
  obtain ⟨hrl, qb, qo, rfl, hqb, r0, r1, r2, r3⟩ : rn = 2 ∧ ∃ qb qo, ra = some ⟨qb, qo, none⟩ ∧ qb < w5.heap.size ∧ w5.cell? ⟨qb, qo, none⟩ = some (.int .i64 0) ∧ w5.cell? ⟨qb, qo + 1, none⟩ = some (.int .i64 0) ∧ w5.cell? ⟨qb, qo + 2, none⟩ = some (.int .i64 2) ∧ w5.cell? ⟨qb, qo + 3, none⟩ = some (.int .i64 0) := by
    obtain ⟨pa, len, c, e, hl, _, hg⟩ := HR5.out.open
    simp only [Value.slice.injEq] at e
    obtain ⟨rfl, rfl, rfl⟩ := e
    obtain ⟨qb, qo, e, hk, h1, h2⟩ := hg 0 _ rfl
    obtain ⟨qb', qo', e', _, h3, h4⟩ := hg 1 _ rfl
    rw [e] at e'
    simp only [Option.some.injEq, Addr.mk.injEq, and_true] at e'
    obtain ⟨rfl, rfl⟩ := e'
    exact ⟨hl.out, qb, qo, e, hk.2, by simpa using h1, by simpa using h2, by simpa using h3, by simpa using h4⟩
  subst hrl
  obtain ⟨W6, hW6⟩ : ∃ W6, w5.alloc (.cells #[.slice (some ⟨kb, ko, none⟩) 3 nc] 27) = W6 := ⟨_, rfl⟩
  have hb6 : Below w5.heap.size w5 W6 := by rw [← hW6]; exact blkBelow w5 _ _
  have g6 : W6.heap[w5.heap.size]? = some (.cells #[.slice (some ⟨kb, ko, none⟩) 3 nc] 27 (0, 0)) := by rw [← hW6]; exact World.alloc_heap_new _ _
  have HF : Hid (∀ W, Below W6.heap.size W6 W → W.cell? ⟨w5.heap.size, 0, none⟩ = some (.slice (some ⟨kb, ko, none⟩) 3 nc) ∧ W.cell? ⟨kb, ko, none⟩ = some (.int .i64 4) ∧ W.cell? ⟨kb, ko + 3, none⟩ = some (.slice (some ⟨mb, mo, none⟩) 2 mc) ∧ W.cell? ⟨mb, mo, none⟩ = some (.int .i64 1) ∧ W.cell? ⟨mb, mo + 1, none⟩ = some (.int .i64 0) ∧ W.cell? ⟨mb, mo + 2, none⟩ = some (.int .i64 0) ∧ W.cell? ⟨mb, mo + 3, none⟩ = some (.int .i64 2) ∧ W.cell? ⟨qb, qo, none⟩ = some (.int .i64 0) ∧ W.cell? ⟨qb, qo + 1, none⟩ = some (.int .i64 0) ∧ W.cell? ⟨qb, qo + 2, none⟩ = some (.int .i64 2) ∧ W.cell? ⟨qb, qo + 3, none⟩ = some (.int .i64 0)) := Lib.hid (fun W hW => by
    have h5 : Below w5.heap.size w5 W := hb6.trans (hW.mono hb6.size)
    have hc : ∀ {b o : Nat} {v : Value}, b < w5.heap.size → w5.cell? ⟨b, o, none⟩ = some v → W.cell? ⟨b, o, none⟩ = some v := fun {b o v} hb h => (h5.cell (p := ⟨b, o, none⟩) hb).trans h
    have hbx : W.heap[w5.heap.size]? = _ := (hW.block _ (Array.getElem?_eq_some_iff.1 g6).1).trans g6
    exact ⟨by simp [World.cell?, hbx], hc hkb d0, hc hkb d3, hc hmb.2 (by simpa using m0), hc hmb.2 (by simpa using m1), hc hmb.2 (by simpa using m2), hc hmb.2 (by simpa using m3), hc hqb r0, hc hqb r1, hc hqb r2, hc hqb r3⟩)
  have HRC : Hid (∀ W, Below W6.heap.size W6 W → Calls Tryd.prog 13 #[.agg #[.slice (some ⟨kb, ko, none⟩) 3 nc], .agg #[.int .i64 0, .int .i64 0]] W fun e w' => ∃ xa xc, e = .returned (.slice xa 2 xc) ∧ Below W.heap.size W w') := Lib.hid (fun W hW => by
    have h5 : Below w5.heap.size w5 W := hb6.trans (hW.mono hb6.size)
    have hn := (HN5.out.keep (h5.keeps'.mono (fun k hk => hk.2))).mono (C := fun k => k < W.heap.size) (fun k hk => Nat.lt_of_lt_of_le hk.2 h5.size)
    rw [← xNodes] at hn
    have hE5 : GEnvW E w5 := HE.out.to (HB5.out.mono HE.out.le)
    refine (reach_any (gNodes xTs) (some ⟨kb, ko, none⟩) 3 nc 0 0 E W (hE5.to (h5.mono hE5.le)) hn xWf (by rw [xNodes]; decide) (by rw [xNodes]; decide)).mono ?_
    rintro en w' ⟨S, xa, xn, xc, hS, rfl, hrow, hb⟩
    have hSS := hS.unique xLeast
    subst hSS
    refine ⟨xa, xc, ?_, hb⟩
    have hfl : ((List.range (gNodes xTs).length).filter xSet).map intCell = [intCell 0, intCell 1] := by rw [xNodes]; rfl
    rw [hfl] at hrow
    rcases hrow.parts with ⟨_, h0⟩ | ⟨g, cap, e, _⟩
    · cases h0
    · simp only [Value.slice.injEq] at e
      rw [e.2.1]; rfl)
  have HW6 := Lib.hid hW6
  have HB6 := Lib.hid hb6
  clear d0 d3 hnx hml hmg hmb m0 m1 m2 m3 r0 r1 r2 r3 hqb hkb hW6 hb6 g6 HN5 HR5
  rw [show w5.alloc (.cells #[.slice (some ⟨kb, ko, none⟩) 3 nc] 27) = W6 from HW6.out]
  obtain ⟨q0, q1, q2, q3, q4, q5, q6, q7, q8, q9, q10⟩ := HF.out W6 (Below.refl _ _)
  go_upto_region 5 with fail
  go_region_with (go_at_call 13; go_loud (refine (HRC.out _ (Below.refl _ _).drew).mono ?_; rintro en w7 ⟨xa, xc, rfl, hb7⟩; have HB7 := Lib.hid hb7; clear hb7))
  all_goals (clear q0 q1 q2 q3 q4 q5 q6 q7 q8 q9 q10; go_wp2_with fail; go_ret; exact ⟨rfl, below_seq HB4.out (below_seq HB5.out (below_seq HB6.out (below_seq (Below.refl _ _).drew HB7.out)))⟩)
end Go.Proofs.YtecdapihfiahiaaDoor
