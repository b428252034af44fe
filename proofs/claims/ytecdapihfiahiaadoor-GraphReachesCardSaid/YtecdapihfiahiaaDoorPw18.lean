/- Graphs: the law about what is reached from a node and from the nodes behind it. (and what follows from it) -/
import Derived.Test.YtecdapihfiahiaaDoorPw13
import Derived.Test.YtecdapihfiahiaaDoorPw14
import Derived.Test.YtecdapihfiahiaaDoorPw11
import Derived.StillTailTactics

/- Graphs: the law about what is reached from a node and from the nodes behind it. -/
namespace Go.Proofs.YtecdapihfiahiaaDoor
open Go.RowKit Go.Deep Go.Shelf

/-- The cells of a list of numbers. -/
theorem row_len {base : Nat} {W : World} {ra : Option Addr} {rn rc : Nat} {L : List Nat} (h : GRow 3 1 base W (.slice ra rn rc) (L.map intCell)) : rn = L.length := by
  rcases h.parts with ⟨e, h0⟩ | ⟨g, cap, e, _⟩
  · simp only [Value.slice.injEq] at e
    rw [e.2.1, List.map_eq_nil_iff.1 h0]; rfl
  · simp only [Value.slice.injEq] at e
    rw [e.2.1, List.length_map]
theorem row_cell {base : Nat} {W : World} {ra : Option Addr} {rn rc : Nat} {L : List Nat} (h : GRow 3 1 base W (.slice ra rn rc) (L.map intCell)) {j x : Nat} (hj : L[j]? = some x) : ∃ b, ra = some ⟨b, 0, none⟩ ∧ W.cell? ⟨b, j, none⟩ = some (.int .i64 (x : Int)) := by
  obtain ⟨g, cap, e, hc⟩ := h.cell (j := j) (i := 0) (e := intCell x) (u := .int .i64 (x : Int)) (by rw [List.getElem?_map, hj]; rfl) rfl
  simp only [Value.slice.injEq] at e
  exact ⟨g, e.1, by simpa using hc⟩
/-- The bools of a node and of the nodes behind the first j references. -/
def beh (F : Nat → Nat → Bool) (a : Nat) (nx : List GRef) (j : Nat) : Nat → Bool := fun i => i == a || (nx.take j).any (fun r => F r.n i)
theorem beh_0 (F : Nat → Nat → Bool) (a : Nat) (nx : List GRef) : beh F a nx 0 = fun i => i == a := by funext i; simp [beh]
theorem beh_all {ns : List GNode} {F : Nat → Nat → Bool} (hF : ∀ a, Least ns a (F a)) {a : Nat} {g : GNode} (hg : ns[a]? = some g) : beh F a g.nx g.nx.length = F a := by
  funext i
  rw [Bool.eq_iff_iff, beh, List.take_length, Bool.or_eq_true, List.any_eq_true]
  rw [least_unite (hF a) hg (F := F) (fun r _ => hF r.n) i]
  simp
/-- .. and m of those that the next one reaches. -/
def behM (F : Nat → Nat → Bool) (a : Nat) (nx : List GRef) (j : Nat) (L : List Nat) (m : Nat) : Nat → Bool := fun i => beh F a nx j i || (L.take m).any (fun x => i == x)
theorem behM_0 (F : Nat → Nat → Bool) (a : Nat) (nx : List GRef) (j : Nat) (L : List Nat) : behM F a nx j L 0 = beh F a nx j := by funext i; simp [behM]
theorem behM_next (F : Nat → Nat → Bool) (a : Nat) (nx : List GRef) (j : Nat) (L : List Nat) {m x : Nat} (h : L[m]? = some x) : updL (behM F a nx j L m) x = behM F a nx j L (m + 1) := by
  funext i
  simp only [updL, behM]
  rw [take_snoc_get h, List.any_append]
  simp only [List.any_cons, List.any_nil, Bool.or_false]
  rw [Bool.or_comm, Bool.or_assoc]
theorem behM_all {F : Nat → Nat → Bool} {a : Nat} {nx : List GRef} {j n : Nat} {r : GRef} (h : nx[j]? = some r) {L : List Nat} (hL : L = (List.range n).filter (F r.n)) (i : Nat) (hi : i < n) : behM F a nx j L L.length i = beh F a nx (j + 1) i := by
  subst hL
  simp only [behM, beh]
  rw [take_snoc_get h, List.any_append, List.take_length]
  simp only [List.any_cons, List.any_nil, Bool.or_false]
  rw [Bool.or_assoc]
  congr 2
  rw [Bool.eq_iff_iff, List.any_eq_true]
  constructor
  · rintro ⟨x, hx, e⟩
    obtain rfl : i = x := by simpa using e
    exact (List.mem_filter.1 hx).2
  · intro hF
    exact ⟨i, by simp [hi, hF], by simp⟩

/-- A guarded operation that may be taken first. -/
theorem wpAnyH_take_g {P : Program} {md : Region.Mode} {l : List Oper} {Q : Exit → Act → World → Prop} {S : World → Prop} {fuel : Nat} {B : List Bool} {T : List Value} {ds : List Deferred} {w : World} (i : Nat) {oi : Oper} {v : Value} (hi : l[i]? = some oi) (hw : Region.wanted oi (yielded l.toArray T.toArray) = true)
    (hs : Region.noSelect l.toArray = true) (hf : Region.free md l.toArray B.toArray i = true) (hr : (Region.ready md l.toArray B.toArray).contains i = true)
    (hQ : ∀ c a w, Q (.panic c) (a.put oi.dst v) w → Q (.panic c) a w) (hv : ∀ w, S w → (execOp (Act.eval ⟨T.toArray, ds⟩) oi).run P w = .ok (.value v) w) (hS : S w)
    (h : wpAnyH P md l.toArray Q S fuel (B.set i true).toArray ⟨(setD T oi.dst v).toArray, ds⟩ w) : wpAnyH P md l.toArray Q S (fuel + 1) B.toArray ⟨T.toArray, ds⟩ w := by
  refine wpAnyH_take (i := i) (oi := oi) (v := v) (by simpa using hi) hs hf hr hQ (.inl ⟨hw, hv⟩) hS ?_
  rw [put_list, List.setIfInBounds_toArray]
  exact h
/-- A guarded operation that comes up alone. -/
theorem wpAnyH_one_g {P : Program} {md : Region.Mode} {l : List Oper} {Q : Exit → Act → World → Prop} {S : World → Prop} {fuel : Nat} {B : List Bool} {T : List Value} {ds : List Deferred} {w : World} (i : Nat) {o : Oper} (ho : l[i]? = some o) (hw : Region.wanted o (yielded l.toArray T.toArray) = true)
    (hr : Region.ready md l.toArray B.toArray = [i])
    (h : ∀ K : Act → World → Prop, Shut (∀ v w', S w' → (S w' → wpAnyH P md l.toArray Q S fuel (B.set i true).toArray ⟨(setD T o.dst v).toArray, ds⟩ w') → K ⟨(setD T o.dst v).toArray, ds⟩ w') → Oper.wp P o ⟨T.toArray, ds⟩ w K Q) :
    wpAnyH P md l.toArray Q S (fuel + 1) B.toArray ⟨T.toArray, ds⟩ w := by
  refine wpAnyH_all hr (by simp) (fun j hj => ?_)
  obtain rfl := List.mem_singleton.1 hj
  have ho' : l.toArray[j]? = some o := by simpa using ho
  unfold wpOp
  simp only [ho']
  rw [if_pos hw]
  refine .inl (h _ (fun v w' h1 h2 => ?_))
  refine ⟨h1, ?_⟩
  rw [List.setIfInBounds_toArray]
  exact h2 h1

set_option maxHeartbeats 8000000 in
set_option maxRecDepth 100000 in
theorem GraphUnites_any (t0 : Ty) (v0 : Value) (k : Nat) (hk : k ≤ 255) (E : Nat) (w : World) (he : GEnvW E w) (h0 : Lies w v0 t0) :
    Calls Tryd.prog 6 #[v0, .int .u8 (k : Int)] w fun e w' => e = .returned (.bool true) ∧ Below w.heap.size w w' := by
  have g0 := h0
  obtain ⟨lv, kv, rfl, _, hl0, hk0⟩ := g0
  obtain ⟨la, ln, lc, rfl, _⟩ := hl0.open
  obtain ⟨ka, kn, kc, rfl, _⟩ := hk0.open
  obtain ⟨W2, hW2⟩ : ∃ W2, w.alloc (.cells (tyCs t0 la ln lc ka kn kc).toArray 47) = W2 := ⟨_, rfl⟩
  have hb2 : Below w.heap.size w W2 := by rw [← hW2]; exact blkBelow w _ _
  have hs2 : W2.heap.size = w.heap.size + 1 := by rw [← hW2]; simp
  have x0 : W2.heap[w.heap.size]? = some (.cells (tyCs t0 la ln lc ka kn kc).toArray 47 (0, 0)) := by rw [← hW2]; exact World.alloc_heap_new _ _
  have HXA := Lib.hid (fun (W : World) (hW : Below W2.heap.size W2 W) => six_cells ((hW.block _ (by omega)).trans x0))
  have HLA := Lib.hid (fun (W : World) (hW : Below W2.heap.size W2 W) => h0.to (below_seq hb2 hW))
  have hE2 : GEnvW E W2 := he.to (hb2.mono he.le)
  have HE := Lib.hid (fun (W : World) (hW : Below W2.heap.size W2 W) => hE2.to (hW.mono hE2.le))
  have HAW := Lib.hid (fun (W : World) (hW : Below W2.heap.size W2 W) => gawake_any E W (hE2.to (hW.mono hE2.le)))
  have HW2 := Lib.hid hW2
  have HB2 := Lib.hid hb2
  clear h0 hl0 hk0 hW2 hb2 x0 he hE2
  obtain ⟨sa, hsa⟩ : ∃ b, smallB t0 60 = b := ⟨_, rfl⟩
  have HSA := Lib.hid hsa
  clear hsa
  have HMA : Hid (∀ W, Below W2.heap.size W2 W → Calls Tryd.prog 14 #[.agg (tyCs t0 la ln lc ka kn kc).toArray, .int .i64 60] W fun e w' => e = .returned (.bool sa) ∧ Below W.heap.size W w') := Lib.hid (fun W hW => by rw [← HSA.out]; exact small_any t0 60 (by decide) _ W (HLA.out W hW))
  cases sa
  · go_enter Tryd.func6, Tryd.ntmps6
    go_upto_region 1 with fail
    rw [show w.alloc (.cells #[.int .i64 t0.k, .int .i64 t0.p, .string t0.n, .int .i64 t0.s, .slice la ln lc, .slice ka kn kc] 47) = W2 from HW2.out]
    go_upto_region 2 with (first | (go_at_call 7; refine (HAW.out _ (Below.refl _ _)).mono ?_; rintro en w3 ⟨rfl, hb3⟩; obtain ⟨c0, c1, c2, c3, c4, c5⟩ := HXA.out w3 hb3; have HB3 := Lib.hid hb3; clear hb3) | (go_at_call 14; refine (HMA.out _ HB3.out).mono ?_; rintro en w4 ⟨rfl, hb4⟩; have HB4 := Lib.hid (below_seq HB3.out hb4); clear hb4))
    clear c0 c1 c2 c3 c4 c5
    go_wp2_with (go_at_call 7; refine (HAW.out _ HB4.out).mono ?_; rintro en w5 ⟨rfl, hb5⟩)
    go_ret
    exact ⟨rfl, below_seq HB2.out (below_seq HB4.out hb5)⟩
  · obtain ⟨hfa, hra⟩ : t0.few 60 = true ∧ rightE t0 = 0 := by have h := HSA.out; simpa [smallB] using h
    simp only [Ty.few, Bool.and_eq_true, decide_eq_true_eq] at hfa
    have hna := right_node hra
    have hok := okg_of t0 [] 0 false hna (by omega)
    have hrl := real_of t0 [] false hna
    have hpr : t0.pref 0 (fun _ => 0) = ⟨0, 0⟩ := real_pref t0 0 (fun _ => 0) hrl
    have hR1 : gRefs [t0] = [⟨0, 0⟩] := by simp only [gRefs, Ty.prefs]; rw [hpr]
    have hgs : gNodes [t0] = t0.pnod 0 (fun _ => 0) := by simp [gNodes, Ty.pnods]
    have hwf := wf_one hna hok
    have hg1 := real_gcnt t0 hok hrl
    have hg2 := t0.gcnt_le
    have hnl : (gNodes [t0]).length = t0.gcnt := by rw [hgs, pnod_ok t0 hok]
    have hnx : ∀ g ∈ gNodes [t0], g.nx.length ≤ 1000 := fun g hg => by rw [hgs] at hg; have := pnod_nx t0 0 _ g hg; omega
    obtain ⟨F, hF⟩ := least_exists (gNodes [t0])
    have hall := reach_count hok hpr (hF 0)
    obtain ⟨ns, hns⟩ : ∃ ns, gNodes [t0] = ns := ⟨_, rfl⟩
    rw [hns] at hwf hnl hnx hF hall
    obtain ⟨N, hN⟩ : ∃ N, ns.length = N := ⟨_, rfl⟩
    rw [hN] at hall
    obtain ⟨a, ha⟩ : ∃ a, k % N = a := ⟨_, rfl⟩
    have hN1 : 1 ≤ N ∧ N ≤ 60 := by omega
    have haN : a < N := by rw [← ha]; exact Nat.mod_lt _ (by omega)
    have hrem : (k : Int).tmod (N : Int) = (a : Int) := by rw [← ha]; rfl
    obtain ⟨g, hg⟩ : ∃ g, ns[a]? = some g := ⟨_, List.getElem?_eq_getElem (by omega)⟩
    have hgx := hnx g (List.mem_of_getElem? hg)
    obtain ⟨M, hM⟩ : ∃ M, g.nx.length = M := ⟨_, rfl⟩
    rw [hM] at hgx
    have HOK := Lib.hid hok
    have HFA := Lib.hid hfa
    have HNS := Lib.hid hns
    have HR1 := Lib.hid hR1
    have HWF := Lib.hid hwf
    have HNX := Lib.hid hnx
    have HF := Lib.hid hF
    have HAL := Lib.hid hall
    have HN := Lib.hid hN
    have HG := Lib.hid hg
    have HM := Lib.hid hM
    clear hfa hra hna hok hrl hpr hR1 hgs hwf hg1 hg2 hnl hnx hF hall hns hN ha hg hM
    have ek : IntKind.i64.wrap (k : Int) = (k : Int) := by rw [IntKind.wrap_i64]; omega
    have eN0 : ((N : Int) == 0) = false := by simp; omega
    go_enter Tryd.func6, Tryd.ntmps6
    go_upto_region 1 with fail
    rw [show w.alloc (.cells #[.int .i64 t0.k, .int .i64 t0.p, .string t0.n, .int .i64 t0.s, .slice la ln lc, .slice ka kn kc] 47) = W2 from HW2.out]
    go_upto_region 3 with (first | (go_at_call 7; refine (HAW.out _ (Below.refl _ _)).mono ?_; rintro en w3 ⟨rfl, hb3⟩; obtain ⟨c0, c1, c2, c3, c4, c5⟩ := HXA.out w3 hb3; have HB3 := Lib.hid hb3; clear hb3) | (go_at_call 14; refine (HMA.out _ HB3.out).mono ?_; rintro en w4 ⟨rfl, hb4⟩; have HB4 := Lib.hid (below_seq HB3.out hb4); clear hb4))
    clear c0 c1 c2 c3 c4 c5
    obtain ⟨W5, hW5⟩ : ∃ W5, w4.alloc (.cells #[.int .i64 t0.k, .int .i64 t0.p, .string t0.n, .int .i64 t0.s, .slice la ln lc, .slice ka kn kc] 47) = W5 := ⟨_, rfl⟩
    have hb5 : Below w4.heap.size w4 W5 := by rw [← hW5]; exact blkBelow w4 _ _
    have hs5 : W5.heap.size = w4.heap.size + 1 := by rw [← hW5]; simp
    have x5 : W5.heap[w4.heap.size]? = some (.cells (tyCs t0 la ln lc ka kn kc).toArray 47 (0, 0)) := by rw [← hW5]; exact World.alloc_heap_new _ _
    have HBD := Lib.hid (build_any [t0] (some ⟨w4.heap.size, 0, none⟩) 1 1 W5 (one_type x5 (by omega) (HLA.out W5 (below_seq HB4.out hb5))) (by simp only [Ty.sizes]; have := HFA.out; omega) (by simp only [Ty.depths]; have := HFA.out; omega) (by simp only [Ty.okgs]; exact ⟨HOK.out, trivial⟩))
    rw [HNS.out, HR1.out] at HBD
    have HB5 := Lib.hid (below_seq HB4.out hb5)
    have HW5 := Lib.hid hW5
    clear hb5 hs5 x5 hW5
    obtain ⟨c0, c1, c2, c3, c4, c5⟩ := HXA.out w4 HB4.out
    go_upto_region 4 with (go_at_call 9; go_loud (refine gcalls_at HW5.out ?_; refine HBD.out.mono ?_; rintro en w6 ⟨na, nn, nc, ra, rn, rc, rfl, hn6, hr6, hb6⟩; have HN6 := Lib.hid hn6; have HR6 := Lib.hid hr6; have HB6 := Lib.hid (below_seq HB5.out hb6); clear hn6 hr6 hb6))
    clear c0 c1 c2 c3 c4 c5
    obtain ⟨W7, hW7⟩ : ∃ W7, w6.alloc (.cells #[.slice na nn nc] 27) = W7 := ⟨_, rfl⟩
    have hb7 : Below w6.heap.size w6 W7 := by rw [← hW7]; exact blkBelow w6 _ _
    have hs7 : W7.heap.size = w6.heap.size + 1 := by rw [← hW7]; simp
    have x7 : W7.heap[w6.heap.size]? = some (.cells #[.slice na nn nc] 27 (0, 0)) := by rw [← hW7]; exact World.alloc_heap_new _ _
    have HBX := Lib.hid (fun (W : World) (hW : Below W7.heap.size W7 W) => show W.cell? ⟨w6.heap.size, 0, none⟩ = some (.slice na nn nc) from by
      have a1 : W.heap[w6.heap.size]? = _ := (hW.block _ (by omega)).trans x7
      simp [World.cell?, a1])
    have HNG : Hid (∀ W, Below W7.heap.size W7 W → NodeSl (fun k => k < W.heap.size) W (.slice na nn nc) ns ∧ RefSl (fun k => k < W.heap.size) W (.slice ra rn rc) [⟨0, 0⟩]) := Lib.hid (fun W hW => by
      have b1 := below_seq hb7 hW
      exact ⟨(HN6.out.keep (b1.keeps'.mono (fun k hk => hk.2))).mono (fun k hk => Nat.lt_of_lt_of_le hk.2 b1.size), (HR6.out.keep (b1.keeps'.mono (fun k hk => hk.2))).mono (fun k hk => Nat.lt_of_lt_of_le hk.2 b1.size)⟩)
    have HB7 := Lib.hid (below_seq HB6.out hb7)
    have HW7 := Lib.hid hW7
    clear hb7 hs7 x7 hW7 HN6 HR6 HBD
    obtain ⟨hN7, hR7⟩ := HNG.out W7 (Below.refl _ _)
    obtain rfl : nn = N := by
      obtain ⟨_, _, _, e, hl, _⟩ := hN7.open
      simp only [Value.slice.injEq] at e
      rw [e.2.1, hl.out, HN.out]
    obtain ⟨_, _, _, e, hl, _, hgt⟩ := hR7.open
    simp only [Value.slice.injEq] at e
    obtain ⟨rfl, rfl, rfl⟩ := e
    obtain rfl : rn = 1 := hl.out
    obtain ⟨qb, qo, rfl, hqb, r0, r1⟩ := hgt 0 _ rfl
    have HBK := Lib.hid (back_any ns na nn nc W7 hN7 HWF.out (by have := HN.out; omega) (fun g hg => by have := HNX.out g hg; omega))
    have HRF := Lib.hid (fun (W : World) (hW : Below W7.heap.size W7 W) => show W.cell? ⟨qb, qo, none⟩ = some (.int .i64 0) ∧ W.cell? ⟨qb, qo + 1, none⟩ = some (.int .i64 0) from ⟨(hW.cell (p := ⟨qb, _, none⟩) hqb).trans (by simpa using r0), (hW.cell (p := ⟨qb, _, none⟩) hqb).trans (by simpa using r1)⟩)
    clear hN7 hR7 hl hgt hqb r0 r1
    rw [show w6.alloc (.cells #[.slice na nn nc] 27) = W7 from HW7.out]
    have d0 := HBX.out W7 (Below.refl _ _)
    go_upto_region 5 with (go_at_call 19; go_loud (refine HBK.out.mono ?_; rintro en w8 ⟨oa, on, oc, rfl, hn8, hb8⟩; have HN8 := Lib.hid hn8; have HB8 := Lib.hid hb8; clear hn8 hb8))
    clear d0 HBK
    obtain rfl : on = nn := by
      obtain ⟨_, _, _, e, hl, _⟩ := HN8.out.open
      simp only [Value.slice.injEq] at e
      rw [e.2.1, hl.out, HN.out]
    obtain ⟨r0, r1⟩ := HRF.out w8 HB8.out
    have hi : (Tryd.prog.info? 4).map (fun i => (i.zero, i.size, i.bytes)) = some (some (.bool false), 1, 1) := by kernel_rfl
    obtain ⟨i0, hi0, hz0, hz1, hz2⟩ := info_parts hi
    have hmk : (Instr.makeSlice 40 (.int .i64 (on : Int)) (.int .i64 (on : Int))).run Tryd.prog w8 = .ok (.slice (some ⟨w8.heap.size, 0, none⟩) on on) (w8.alloc (.cells (madeCells #[.bool false] on) 4)) := by
      have h := run_makeSlice (P := Tryd.prog) w8 40 4 i0 (.bool false) Tryd.underlying40 hi0 hz0 .i64 .i64 (on : Int) (on : Int) (by omega) (Int.le_refl _) (by rw [hz1]; simp; omega) (by rw [hz2]; omega) (by omega)
      rw [hz1, show (Value.bool false).cells = #[.bool false] from rfl] at h
      simpa using h
    clear hi hi0 hz0 hz1 hz2
    obtain ⟨W9, hW9⟩ : ∃ W9, w8.alloc (.cells (madeCells #[.bool false] on) 4) = W9 := ⟨_, rfl⟩
    rw [hW9] at hmk
    have hs9 : W9.heap.size = w8.heap.size + 1 := by rw [← hW9]; simp
    have hb9 : Below w8.heap.size w8 W9 := by rw [← hW9]; exact blkBelow w8 _ _
    have hB9 : Bools W9 w8.heap.size on (fun _ => false) := by
      refine ⟨?_⟩
      rw [← hW9, World.alloc_heap_new]
      have h := toList_madeCells_one (.bool false) on
      have h2 : madeCells #[.bool false] on = (((List.range on).map (fun _ => false)).map Value.bool).toArray := by
        apply Array.toList_inj.1
        rw [h]
        apply List.ext_getElem?
        intro i
        simp [List.getElem?_replicate]
        by_cases hi : i < on <;> simp [hi]
      rw [h2]
    obtain ⟨s0, s1⟩ := hB9.cell haN
    have e01 : decide (on = 0) = false := by simp; omega
    have e02 : decide (on ≤ 0) = false := by simp; omega
    have e03 : decide ((on : Int) ≤ 0) = false := by simp; omega
    have HB9 := Lib.hid hB9
    have HK9 := Lib.hid hb9
    have HS9 := Lib.hid hs9
    clear hB9 hb9 hs9 hW9
    go_upto_region 10 with fail
    clear e01 e02 e03
    obtain ⟨W10, hW10⟩ : ∃ W10, W9.setCell ⟨w8.heap.size, a, none⟩ (.bool true) = W10 := ⟨_, rfl⟩
    have hB10 : Bools W10 w8.heap.size on (beh F a g.nx 0) := by rw [← hW10, beh_0]; exact (HB9.out.set a).congr (fun i _ => by simp [updL])
    have hb10 : Below w8.heap.size w8 W10 := by rw [← hW10]; exact HK9.out.setCell (Nat.le_refl _) _
    rw [hW10]
    have HB10 := Lib.hid hB10
    have HK10 := Lib.hid hb10
    clear hB10 hb10 hW10 s0 s1 r0 r1 hmk HB9 HK9 HS9
    obtain ⟨_, _, _, e, _, _, hgt⟩ := HN8.out.open
    simp only [Value.slice.injEq] at e
    obtain ⟨rfl, rfl, rfl⟩ := e
    obtain ⟨kb, ko, rfl, hkb, _, _, lv, nv, _, n3, _, n6⟩ := hgt a g HG.out
    obtain ⟨xa, xn, xc, rfl, hxl, hxm, hxg⟩ := n6.open
    obtain rfl : xn = M := hxl.out.trans HM.out
    have HND : Hid (∀ W, Below w8.heap.size w8 W → W.cell? ⟨kb, ko + a * 4 + 3, none⟩ = some (.slice xa xn xc)) := Lib.hid (fun W hW => (hW.cell (p := ⟨kb, _, none⟩) hkb).trans n3)
    have HNR : Hid (∀ W, Below w8.heap.size w8 W → ∀ j r, g.nx[j]? = some r → ∃ zb zo, xa = some ⟨zb, zo, none⟩ ∧ W.cell? ⟨zb, zo + j * 2, none⟩ = some (.int .i64 r.n)) := Lib.hid (fun W hW j r hr => by
      obtain ⟨zb, zo, e, hzb, z0, _⟩ := hxg j r hr
      exact ⟨zb, zo, e, (hW.cell (p := ⟨zb, _, none⟩) hzb).trans z0⟩)
    have HRE : Hid (∀ W, Below w8.heap.size w8 W → ∀ (b : Nat) (s : Int), b < on → Calls Tryd.prog 13 #[.agg #[.slice na on nc], .agg #[.int .i64 (b : Int), .int .i64 s]] W fun e w' => ∃ (ra : Option Addr) (rn rc : Nat), e = .returned (.slice ra rn rc) ∧ GRow 3 1 W.heap.size w' (.slice ra rn rc) (((List.range on).filter (F b)).map intCell) ∧ Below W.heap.size W w') := Lib.hid (fun W hW b s hb => by
      have h7 := below_seq HB8.out hW
      refine (reach_any ns na on nc b s E W (HE.out W (below_seq HB7.out h7)) (HNG.out W h7).1 HWF.out (by rw [HN.out]; exact hb) (by rw [HN.out]; omega)).mono ?_
      rintro en w' ⟨S, ra, rn, rc, hS, rfl, hrow, hbw⟩
      rw [hS.unique (HF.out b), HN.out] at hrow
      exact ⟨ra, rn, rc, rfl, hrow, hbw⟩)
    clear hgt hkb n3 n6 hxl hxm hxg
    go_wp2_with fail
    go_loopw [11] (fun i wr => ∃ j : Nat, i = .int .i64 j ∧ j ≤ xn ∧ Hid (Bools wr w8.heap.size on (beh F a g.nx j)) ∧ Hid (Below w8.heap.size w8 wr)) (fun i _ => xn - (intOf i).toNat)
    case atStart => exact ⟨0, rfl, by omega, HB10, HK10⟩
    case round =>
      rename World => V
      obtain ⟨j, rfl, hj, HBL, HBW⟩ := hrel
      have d0 := HND.out V HBW.out
      have d1 := HBX.out V (below_seq HB8.out HBW.out)
      by_cases hlt : j < xn
      · obtain ⟨r, hr⟩ : ∃ r, g.nx[j]? = some r := ⟨_, List.getElem?_eq_getElem (by rw [HM.out]; exact hlt)⟩
        obtain ⟨zb, zo, rfl, z0⟩ := HNR.out V HBW.out j r hr
        have hrn : r.n < on := by rw [← HN.out]; exact HWF.out a g HG.out r (List.mem_of_getElem? hr)
        have HR := Lib.hid hr
        clear hr
        go_upto_region 13 with fail
        go_still_tail 11, (by kernel_rfl)
        change wpList _ _ _ _ _ V.drew
        clear d0 d1 z0
        have hBL2 : Bools V.drew w8.heap.size on (beh F a g.nx j) := HBL.out.same rfl
        have hBW2 : Below w8.heap.size w8 V.drew := HBW.out.drew
        generalize V.drew = w2 at *
        have HBL2 := Lib.hid hBL2
        have HBW2 := Lib.hid hBW2
        clear hBL2 hBW2
        have hs2' : w8.heap.size < w2.heap.size := HBL2.out.lt
        go_wp2_with (go_at_call 13; go_loud (refine (HRE.out w2 HBW2.out r.n 0 hrn).mono ?_; rintro en w3 ⟨ya, yn, yc, rfl, hrow, hb3⟩; have HRO := Lib.hid hrow; have HB3 := Lib.hid hb3; clear hrow hb3))
        obtain ⟨L, hL⟩ : ∃ L, (List.range on).filter (F r.n) = L := ⟨_, rfl⟩
        rw [hL] at HRO
        have HLL := Lib.hid hL
        have HYN := Lib.hid (row_len HRO.out)
        have hyn : yn ≤ on := by rw [HYN.out, ← hL]; exact Nat.le_trans (List.length_filter_le _ _) (by simp)
        clear hL
        go_loopw [13] (fun i wr => ∃ m : Nat, i = .int .i64 m ∧ m ≤ yn ∧ Hid (Bools wr w8.heap.size on (behM F a g.nx j L m)) ∧ Hid (GRow 3 1 w2.heap.size wr (.slice ya yn yc) (L.map intCell)) ∧ Hid (Below w8.heap.size w8 wr)) (fun i _ => yn - (intOf i).toNat)
        case atStart => exact ⟨0, rfl, by omega, Lib.hid (by rw [behM_0]; exact HBL2.out.same (HB3.out.block _ hs2')), HRO, Lib.hid (HBW2.out.trans (HB3.out.mono (by omega)))⟩
        case round =>
          obtain ⟨m, rfl, hm, HBM, HRM, HBK⟩ := hrel
          by_cases hlm : m < yn
          · obtain ⟨x, hx⟩ : ∃ x, L[m]? = some x := ⟨_, List.getElem?_eq_getElem (by rw [← HYN.out]; exact hlm)⟩
            have hxn : x < on := (filter_mem (F r.n) (by rw [HLL.out]; exact hx)).1
            obtain ⟨yb, rfl, y0⟩ := row_cell HRM.out hx
            have hyb := (HRM.out.lt yb rfl).1
            obtain ⟨s0, s1⟩ := HBM.out.cell hxn
            have HX := Lib.hid hx
            clear hx
            go_wp2_with fail
            go_roundw
            case rel =>
              refine ⟨m + 1, by go_num, by omega, Lib.hid ?_, Lib.hid ?_, Lib.hid (HBK.out.setCell (Nat.le_refl _) _)⟩
              · rw [← behM_next F a g.nx j L HX.out]; exact HBM.out.set x
              · exact HRM.out.kept (fun k hk => set_oth _ _ _ (by cases hk; show yb ≠ w8.heap.size; omega))
            case measure => simp [intOf]; omega
          · obtain rfl : m = yn := by omega
            have HBN : Hid (Bools wr w8.heap.size on (beh F a g.nx (j + 1))) := Lib.hid (HBM.out.congr (fun i hi => by rw [HYN.out]; exact behM_all HR.out HLL.out.symm i hi))
            go_wp2_with fail
            go_roundw
            case rel => exact ⟨j + 1, by go_num, by omega, HBN, HBK⟩
            case measure => simp [intOf]; omega
      · obtain rfl : j = xn := by omega
        have HBF : Hid (Bools V w8.heap.size on (F a)) := Lib.hid (by have h := HBL.out; rwa [← HM.out, beh_all HF.out HG.out] at h)
        have hsV : w8.heap.size < V.heap.size := HBF.out.lt
        go_wp2_with (go_at_call 13; go_loud (refine (HRE.out V HBW.out a 5 haN).mono ?_; rintro en w3 ⟨ya, yn, yc, rfl, hrow, hb3⟩; have HRO := Lib.hid hrow; have HB3 := Lib.hid hb3; clear hrow hb3))
        clear d0 d1
        have HYN := Lib.hid (row_len HRO.out)
        have hyn : yn ≤ on := by rw [HYN.out]; exact Nat.le_trans (List.length_filter_le _ _) (by simp)
        have HBF3 : Hid (Bools w3 w8.heap.size on (F a)) := Lib.hid (HBF.out.same (HB3.out.block _ hsV))
        have HBK : Hid (Below w8.heap.size w8 w3) := Lib.hid (HBW.out.trans (HB3.out.mono (by omega)))
        go_loopw [15, 16] (fun m i wr => ∃ j : Nat, i = .int .i64 j ∧ j ≤ on ∧ m = .int .i64 (((List.range j).filter (F a)).length : Int) ∧ wr = w3) (fun _ i _ => on - (intOf i).toNat)
        case atStart => exact ⟨0, rfl, by omega, rfl, rfl⟩
        case round =>
          obtain ⟨i, rfl, hi, rfl, hwr⟩ := hrel
          subst hwr
          obtain ⟨c, hc⟩ : ∃ c, ((List.range i).filter (F a)).length = c := ⟨_, rfl⟩
          rw [hc]
          by_cases hlm : i < on
          · obtain ⟨s0, s1⟩ := HBF3.out.cell hlm
            have hcn := filter_count (F a) i
            rw [hc] at hcn
            cases hFa : F a i
            · rw [hFa] at s0 hcn
              have HCN := Lib.hid hcn
              clear hc hcn hFa
              go_wp2_with fail
              go_roundw
              case rel => exact ⟨i + 1, by go_num, by omega, ret_val (by rw [HCN.out]; simp), trivial⟩
              case measure => simp [intOf]; omega
            · have hcl : c < yn := by rw [HYN.out, ← hc]; exact filter_count_lt (F a) hlm hFa
              have hnx := filter_next (F a) hlm hFa
              rw [hc] at hnx
              obtain ⟨yb, rfl, y0⟩ := row_cell HRO.out hnx
              rw [hFa] at s0 hcn
              have HCN := Lib.hid hcn
              clear hc hcn hFa hnx
              go_wp2_with fail
              go_roundw
              case rel => exact ⟨i + 1, by go_num, by omega, ret_val (by rw [HCN.out]; simp), trivial⟩
              case measure => simp [intOf]; omega
          · obtain rfl : i = on := by omega
            obtain rfl : c = yn := by rw [HYN.out, ← hc]
            obtain ⟨r0, r1⟩ := HRF.out wr (below_seq HB8.out HBK.out)
            have d1 := HBX.out wr (below_seq HB8.out HBK.out)
            have HRZ := Lib.hid (HRE.out wr.drew HBK.out.drew 0 0 (by omega))
            have HAL' := HAL
            clear hc
            go_upto_region 29 with fail
            refine wp_region_held_drew (S := fun W => W.cell? ⟨w6.heap.size, 0, none⟩ = some (.slice na i nc) ∧ W.cell? ⟨qb, qo, none⟩ = some (.int .i64 0) ∧ W.cell? ⟨qb, qo + 1, none⟩ = some (.int .i64 0)) (by kernel_rfl) ⟨d1, r0, r1⟩ (fun hHeld => ?_)
            refine wpAnyH_take_l 0 (v := ?v0) rfl rfl (by kernel_rfl) (by kernel_rfl) (by kernel_rfl) (fun _ _ _ h => h) ?h0 (by assumption) ?r0
            case h0 => (intro w hSw; (try dsimp only at hSw); go_simp; try rfl)
            case' r0 => simp only [setD, List.set_cons_succ, List.set_cons_zero]
            refine wpAnyH_take_l 1 (v := ?v1) rfl rfl (by kernel_rfl) (by kernel_rfl) (by kernel_rfl) (fun _ _ _ h => h) ?h1 (by assumption) ?r1
            case h1 => (intro w hSw; (try dsimp only at hSw); go_simp; try rfl)
            case' r1 => simp only [setD, List.set_cons_succ, List.set_cons_zero]
            refine wpAnyH_take_l 2 (v := ?v2) rfl rfl (by kernel_rfl) (by kernel_rfl) (by kernel_rfl) (fun _ _ _ h => h) ?h2 (by assumption) ?r2
            case h2 => (intro w hSw; (try dsimp only at hSw); go_simp; try rfl)
            case' r2 => simp only [setD, List.set_cons_succ, List.set_cons_zero]
            refine wpAnyH_take_l 3 (v := ?v3) rfl rfl (by kernel_rfl) (by kernel_rfl) (by kernel_rfl) (fun _ _ _ h => h) ?h3 (by assumption) ?r3
            case h3 => (intro w hSw; (try dsimp only at hSw); go_simp; try rfl)
            case' r3 => simp only [setD, List.set_cons_succ, List.set_cons_zero]
            refine wpAnyH_take_l 4 (v := ?v4) rfl rfl (by kernel_rfl) (by kernel_rfl) (by kernel_rfl) (fun _ _ _ h => h) ?h4 (by assumption) ?r4
            case h4 => (intro w hSw; (try dsimp only at hSw); go_simp; try rfl)
            case' r4 => simp only [setD, List.set_cons_succ, List.set_cons_zero]
            refine wpAnyH_take_g 5 (v := ?v5) rfl rfl (by kernel_rfl) (by kernel_rfl) (by kernel_rfl) (fun _ _ _ h => h) ?h5 (by assumption) ?r5
            case h5 => (intro w hSw; (try dsimp only at hSw); go_simp; try rfl)
            case' r5 => simp only [setD, List.set_cons_succ, List.set_cons_zero]
            refine wpAnyH_take_g 6 (v := ?v6) rfl rfl (by kernel_rfl) (by kernel_rfl) (by kernel_rfl) (fun _ _ _ h => h) ?h6 (by assumption) ?r6
            case h6 => (intro w hSw; (try dsimp only at hSw); go_simp; try rfl)
            case' r6 => simp only [setD, List.set_cons_succ, List.set_cons_zero]
            refine wpAnyH_take_g 7 (v := ?v7) rfl rfl (by kernel_rfl) (by kernel_rfl) (by kernel_rfl) (fun _ _ _ h => h) ?h7 (by assumption) ?r7
            case h7 => (intro w hSw; (try dsimp only at hSw); go_simp; try rfl)
            case' r7 => simp only [setD, List.set_cons_succ, List.set_cons_zero]
            refine wpAnyH_take_g 8 (v := ?v8) rfl rfl (by kernel_rfl) (by kernel_rfl) (by kernel_rfl) (fun _ _ _ h => h) ?h8 (by assumption) ?r8
            case h8 => (intro w hSw; (try dsimp only at hSw); go_simp; try rfl)
            case' r8 => simp only [setD, List.set_cons_succ, List.set_cons_zero]
            refine wpAnyH_take_g 11 (v := ?v11) rfl rfl (by kernel_rfl) (by kernel_rfl) (by kernel_rfl) (fun _ _ _ h => h) ?h11 (by assumption) ?r11
            case h11 => (intro w hSw; (try dsimp only at hSw); go_simp; try rfl)
            case' r11 => simp only [setD, List.set_cons_succ, List.set_cons_zero]
            refine wpAnyH_take_g 12 (v := ?v12) rfl rfl (by kernel_rfl) (by kernel_rfl) (by kernel_rfl) (fun _ _ _ h => h) ?h12 (by assumption) ?r12
            case h12 => (intro w hSw; (try dsimp only at hSw); go_simp; try rfl)
            case' r12 => simp only [setD, List.set_cons_succ, List.set_cons_zero]
            clear r0 r1 d1
            refine wpAnyH_one_g 9 rfl (by kernel_rfl) (by kernel_rfl) (fun K hK => ?_)
            have hK2 := hK.out
            clear hK
            simp only [setD, List.set_cons_succ, List.set_cons_zero] at hK2 ⊢
            go_simp
            refine HRZ.out.mono ?_
            rintro en w4 ⟨ta, tn, tc, rfl, hrow4, hb4⟩
            obtain rfl : tn = i := by rw [row_len hrow4, HAL.out]
            dsimp only
            have hbk4 : Below w8.heap.size w8 w4 := HBK.out.drew.trans (hb4.mono (by have := HBK.out.size; exact this))
            obtain ⟨r0, r1⟩ := HRF.out w4 (below_seq HB8.out hbk4)
            have d1 := HBX.out w4 (below_seq HB8.out hbk4)
            refine hK2 _ _ ⟨d1, r0, r1⟩ (fun _ => ?_)
            clear hK2 K
            have HBK4 := Lib.hid hbk4
            clear hbk4 hb4 hrow4
            refine wpAnyH_take_g 10 (v := ?v10) rfl rfl (by kernel_rfl) (by kernel_rfl) (by kernel_rfl) (fun _ _ _ h => h) ?h10 (by assumption) ?r10
            case h10 => (intro w hSw; (try dsimp only at hSw); go_simp; try rfl)
            case' r10 => simp only [setD, List.set_cons_succ, List.set_cons_zero]
            refine wpAnyH_take_g 13 (v := ?v13) rfl rfl (by kernel_rfl) (by kernel_rfl) (by kernel_rfl) (fun _ _ _ h => h) ?h13 (by assumption) ?r13
            case h13 => (intro w hSw; (try dsimp only at hSw); go_simp; try rfl)
            case' r13 => simp only [setD, List.set_cons_succ, List.set_cons_zero]
            refine wpAnyH_take_l 14 (v := ?v14) rfl rfl (by kernel_rfl) (by kernel_rfl) (by kernel_rfl) (fun _ _ _ h => h) ?h14 (by assumption) ?r14
            case h14 => (intro w hSw; (try dsimp only at hSw); go_simp; try rfl)
            case' r14 => simp only [setD, List.set_cons_succ, List.set_cons_zero]
            refine wpAnyH_take_l 15 (v := ?v15) rfl rfl (by kernel_rfl) (by kernel_rfl) (by kernel_rfl) (fun _ _ _ h => h) ?h15 (by assumption) ?r15
            case h15 => (intro w hSw; (try dsimp only at hSw); go_simp; try rfl)
            case' r15 => simp only [setD, List.set_cons_succ, List.set_cons_zero]
            refine wpAnyH_done (by kernel_rfl) ?_ _
            clear d1 r0 r1 hHeld
            go_wp2_with fail
            go_ret
            exact ⟨rfl, below_seq HB2.out (below_seq HB7.out (below_seq HB8.out HBK4.out))⟩
end Go.Proofs.YtecdapihfiahiaaDoor
