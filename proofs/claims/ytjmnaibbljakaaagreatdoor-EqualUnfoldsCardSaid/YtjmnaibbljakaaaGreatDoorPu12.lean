/- Equality, walks: slices.Sorted of slices.Values at any texts; head.Labels. (and what follows from it) -/
import Derived.Test.YtjmnaibbljakaaaGreatDoorPu11
import Derived.Test.YtjmnaibbljakaaaGreatDoorPu10
import Derived.Test.YtjmnaibbljakaaaGreatDoorPu8
import Derived.Test.YtjmnaibbljakaaaGreatDoorPu9
import Derived.Test.YtjmnaibbljakaaaGreatDoorPu1
import Derived.Shelf.SortM.Plain
import Derived.Shelf.SortM.SortNone
import Derived.Ground.SlgmProg
import Derived.Sort.OwnSorted
import Derived.Shelf.SlSortCmp.Whole1
import Derived.Sort.LotA
import Derived.BigQuiet
import Derived.Deep.RegionHeld3

/- Equality, walks: slices.Sorted of slices.Values at any texts; head.Labels. -/
namespace Go.Proofs.YtjmnaibbljakaaaGreatDoor
open Go.Shelf
/-- The library's slices.Sort at this program: a table of numbers, and a field a fact of the program's own. -/
def headSortL_ren : Go.Shelf.Ren := ⟨fun | 6 => 77 | 8 => 91 | 9 => 90 | 19 => 112 | 20 => 113 | 21 => 103 | 22 => 104 | 23 => 105 | 24 => 106 | 25 => 107 | 26 => 108 | 27 => 109 | 28 => 110 | 29 => 111 | 36 => 126 | 31 => 127 | 32 => 128 | 37 => 129 | 38 => 130 | 39 => 93 | 41 => 136 | n => n, fun | 27 => 22 | 29 => 9 | 3 => 3 | 32 => 140 | 26 => 22 | 0 => 0 | 44 => 161 | 46 => 143 | 4 => 4 | 36 => 154 | 35 => 153 | 41 => 40 | 5 => 5 | 9 => 9 | 53 => 170 | 57 => 174 | 63 => 178 | 64 => 179 | n => n, fun | n => n⟩
theorem headSortL : Go.Proofs.SlLaysM.n6 Tryz.prog headSortL_ren := {
  mixed := by kernel_rfl
  f6 := ⟨Tryz.f77.name, by decide, Tryz.func77.trans (congrArg some (by kernel_rfl))⟩
  f8 := Tryz.func91.trans (congrArg some (by kernel_rfl))
  f9 := ⟨Tryz.f90.name, by decide, Tryz.func90.trans (congrArg some (by kernel_rfl))⟩
  f19 := Tryz.func112.trans (congrArg some (by kernel_rfl))
  f20 := Tryz.func113.trans (congrArg some (by kernel_rfl))
  f21 := ⟨Tryz.f103.name, by decide, Tryz.func103.trans (congrArg some (by kernel_rfl))⟩
  f22 := ⟨Tryz.f104.name, by decide, Tryz.func104.trans (congrArg some (by kernel_rfl))⟩
  f23 := ⟨Tryz.f105.name, by decide, Tryz.func105.trans (congrArg some (by kernel_rfl))⟩
  f24 := ⟨Tryz.f106.name, by decide, Tryz.func106.trans (congrArg some (by kernel_rfl))⟩
  f25 := ⟨Tryz.f107.name, by decide, Tryz.func107.trans (congrArg some (by kernel_rfl))⟩
  f26 := ⟨Tryz.f108.name, by decide, Tryz.func108.trans (congrArg some (by kernel_rfl))⟩
  f27 := ⟨Tryz.f109.name, by decide, Tryz.func109.trans (congrArg some (by kernel_rfl))⟩
  f28 := ⟨Tryz.f110.name, by decide, Tryz.func110.trans (congrArg some (by kernel_rfl))⟩
  f29 := ⟨Tryz.f111.name, by decide, Tryz.func111.trans (congrArg some (by kernel_rfl))⟩
  f31 := Tryz.func127.trans (congrArg some (by kernel_rfl))
  f32 := Tryz.func128.trans (congrArg some (by kernel_rfl))
  f36 := ⟨Tryz.f126.name, by decide, Tryz.func126.trans (congrArg some (by kernel_rfl))⟩
  f37 := ⟨Tryz.f129.name, by decide, Tryz.func129.trans (congrArg some (by kernel_rfl))⟩
  f38 := ⟨Tryz.f130.name, by decide, Tryz.func130.trans (congrArg some (by kernel_rfl))⟩
  f39 := ⟨Tryz.f93.name, by decide, Tryz.func93.trans (congrArg some (by kernel_rfl))⟩
  f41 := ⟨Tryz.f136.name, by decide, Tryz.func136.trans (congrArg some (by kernel_rfl))⟩
  t0 := Tryz.underlying0
  a0 := Tryz.isAgg0
  z0 := Tryz.sizeOf0
  v0 := Tryz.zeroValue0
  t3 := Tryz.underlying3
  a3 := Tryz.isAgg3
  z3 := Tryz.sizeOf3
  v3 := Tryz.zeroValue3
  t4 := Tryz.underlying4
  a4 := Tryz.isAgg4
  z4 := Tryz.sizeOf4
  v4 := Tryz.zeroValue4
  t5 := Tryz.underlying5
  a5 := Tryz.isAgg5
  z5 := Tryz.sizeOf5
  v5 := Tryz.zeroValue5
  t9 := Tryz.underlying9
  a9 := Tryz.isAgg9
  z9 := Tryz.sizeOf9
  v9 := Tryz.zeroValue9
  t26 := Tryz.underlying22
  a26 := Tryz.isAgg22
  z26 := Tryz.sizeOf22
  v26 := Tryz.zeroValue22
  t27 := Tryz.underlying22
  a27 := Tryz.isAgg22
  z27 := Tryz.sizeOf22
  v27 := Tryz.zeroValue22
  t29 := Tryz.underlying9
  a29 := Tryz.isAgg9
  z29 := Tryz.sizeOf9
  v29 := Tryz.zeroValue9
  t32 := Tryz.underlying140
  a32 := Tryz.isAgg140
  z32 := Tryz.sizeOf140
  v32 := Tryz.zeroValue140
  t35 := Tryz.underlying153
  a35 := Tryz.isAgg153
  z35 := Tryz.sizeOf153
  v35 := Tryz.zeroValue153
  t36 := Tryz.underlying154
  a36 := Tryz.isAgg154
  z36 := Tryz.sizeOf154
  v36 := Tryz.zeroValue154
  t41 := Tryz.underlying40
  a41 := Tryz.isAgg40
  z41 := Tryz.sizeOf40
  v41 := Tryz.zeroValue40
  t44 := Tryz.underlying161
  a44 := Tryz.isAgg161
  z44 := Tryz.sizeOf161
  v44 := Tryz.zeroValue161
  t46 := Tryz.underlying143
  a46 := Tryz.isAgg143
  z46 := Tryz.sizeOf143
  v46 := Tryz.zeroValue143
  t53 := Tryz.underlying170
  a53 := Tryz.isAgg170
  z53 := Tryz.sizeOf170
  v53 := Tryz.zeroValue170
  t57 := Tryz.underlying174
  a57 := Tryz.isAgg174
  z57 := Tryz.sizeOf174
  v57 := Tryz.zeroValue174
  t63 := Tryz.underlying178
  a63 := Tryz.isAgg178
  z63 := Tryz.sizeOf178
  v63 := Tryz.zeroValue178
  t64 := Tryz.underlying179
  a64 := Tryz.isAgg179
  z64 := Tryz.sizeOf179
  v64 := Tryz.zeroValue179 }
end Go.Proofs.YtjmnaibbljakaaaGreatDoor

namespace Go.Proofs.YtjmnaibbljakaaaGreatDoor
open Go.RowKit Go.Deep Go.Shelf Go.Sort

theorem values_any (ra : Option Addr) (rn rc : Nat) (w : World) :
    Calls Tryz.prog 64 #[.slice ra rn rc] w fun e w' => e = .returned (.func (.func 78) #[] #[.pointer (some ⟨w.heap.size, 0, none⟩)]) ∧ w' = w.alloc (slO ra rn rc) := by
  go_enter Tryz.func64, Tryz.ntmps64
  go_wp2
  go_ret
  exact ⟨rfl, rfl⟩
theorem collect_any (bl : Nat) (ls : List ByteArray) (ra : Option Addr) (rn rc : Nat) (w : World) (hbl : bl < w.heap.size) (hc : w.heap[bl]? = some (slO ra rn rc)) (hls : StrSl (fun k => k < w.heap.size) w (.slice ra rn rc) ls) (hlen : ls.length ≤ 1000000) (hrl : rn ≤ 1000000) :
    Calls Tryz.prog 76 #[.func (.func 78) #[] #[.pointer (some ⟨bl, 0, none⟩)]] w fun e w' => ∃ a m c, e = .returned (.slice a m c) ∧ GRow 9 1 (w.heap.size + 1) w' (.slice a m c) (ls.map strCells) ∧ Below w.heap.size w w' := by
  have HA := Lib.hid ((callsIn_wide (n := 3)).1 (appendSeq_in 3 (by omega) bl ls ra rn rc w hbl hc hls hlen hrl))
  clear hbl hc hls hlen hrl
  go_enter Tryz.func76, Tryz.ntmps76
  go_wp2_with (go_at_call 89; go_loud (refine HA.out.mono ?_; rintro en w1 ⟨a, m, c, rfl, hr, hb⟩; have HR := Lib.hid hr; have HB := Lib.hid hb; clear hr hb))
  go_ret
  exact ⟨a, m, c, rfl, HR.out, HB.out⟩
theorem flat_strs (ls : List ByteArray) : (ls.map strCells).flatten = ls.map Value.string := by
  induction ls with
  | nil => rfl
  | cons x r ih => simp [strCells] at ih ⊢; exact ih
theorem enc_strs (ls : List ByteArray) : (ls.map (fun s => s.data.toList)).map encStr = ls.map Value.string := by
  rw [List.map_map]
  refine List.map_congr_left fun s _ => ?_
  simp [encStr]
theorem srt_strs (ls : List ByteArray) : ((ls.map (fun s => s.data.toList)).mergeSort leL).map encStr = (srtL ls).map Value.string := by
  unfold srtL
  rw [List.map_map]
  rfl
set_option maxRecDepth 100000 in
set_option maxHeartbeats 2000000 in
theorem sortedL_any (bl : Nat) (ls : List ByteArray) (ra : Option Addr) (rn rc : Nat) (w : World) (hbl : bl < w.heap.size) (hc : w.heap[bl]? = some (slO ra rn rc)) (hls : StrSl (fun k => k < w.heap.size) w (.slice ra rn rc) ls) (hlen : ls.length ≤ 1000000) (hrl : rn ≤ 1000000) :
    Calls Tryz.prog 63 #[.func (.func 78) #[] #[.pointer (some ⟨bl, 0, none⟩)]] w fun e w' => ∃ a m c, e = .returned (.slice a m c) ∧ GRow 9 1 (w.heap.size + 1) w' (.slice a m c) ((srtL ls).map strCells) ∧ Below w.heap.size w w' := by
  have HA := Lib.hid (collect_any bl ls ra rn rc w hbl hc hls hlen hrl)
  have HLEN := Lib.hid hlen
  clear hbl hc hls hrl hlen
  go_enter Tryz.func63, Tryz.ntmps63
  go_upto_region 2 with (go_at_call 76; go_loud (refine HA.out.mono ?_; rintro en w1 ⟨a, m, c, rfl, hr, hb⟩; have HR := Lib.hid hr; have HB := Lib.hid hb; clear hr hb))
  rcases HR.out.own.2 with ⟨e, hz⟩ | ⟨gb, cap, cur, e, hbase, hgb, r1, r2, r3, r4⟩
  · simp only [Value.slice.injEq] at e
    obtain ⟨rfl, rfl, rfl⟩ := e
    have hnil : ls = [] := by simpa using hz
    subst hnil
    have cS := AnyM.slices_Sort_string_none headSortL none 0 w1
    change Calls Tryz.prog 77 _ _ _ at cS
    have HS := Lib.hid cS
    clear cS hz
    go_wp2_with (go_at_call 77; go_loud (refine HS.out.mono ?_; rintro en w2 ⟨rfl, rfl⟩))
    go_ret
    exact ⟨_, _, _, rfl, by rw [show srtL [] = [] from (srtL_nil []).2 rfl]; exact GRow.nil _ _ _ _, HB.out⟩
  · simp only [Value.slice.injEq] at e
    obtain ⟨rfl, e2, rfl⟩ := e
    rw [List.length_map] at e2 r1 r4
    subst e2
    rw [Nat.mul_one, flat_strs] at r4
    obtain ⟨ss, hss⟩ : ∃ ss, ls.map (fun s => s.data.toList) = ss := ⟨_, rfl⟩
    have hsl : ss.length = ls.length := by rw [← hss, List.length_map]
    have hH := holds_of_block (ss := ss) hgb (by rw [hsl, r4, ← hss, enc_strs])
    have hgl : gb < w1.heap.size := (Array.getElem?_eq_some_iff.1 hgb).1
    have cS := AnyM.slices_Sort_string headSortL gb 0 c ss w1 hH hgl (by have := HLEN.out; omega)
    rw [hsl] at cS
    change Calls Tryz.prog 77 _ _ _ at cS
    have HS := Lib.hid cS
    have HX := Lib.hid (And.intro hbase (And.intro hgb (And.intro r1 (And.intro r2 (And.intro r3 (And.intro hsl hss))))))
    clear hH hgl cS hbase hgb r1 r2 r3 r4 hsl hss
    go_wp2_with (go_at_call 77; go_loud (refine HS.out.mono ?_; rintro en w2 ⟨rfl, nn, os, rfl⟩))
    go_ret
    obtain ⟨hbase, hgb, r1, r2, r3, hsl, hss⟩ := HX.out
    refine ⟨_, _, _, rfl, ⟨?_, fun e he => ?_⟩, HB.out.grown (grownBy_sorted _) HB.out.size (fun j hj => by cases hj; omega)⟩
    · have h := ownsRow_sorted (n := nn) (os := os) (ss := ss) (ts := ss.mergeSort fun x y => decide (x ≤ y)) (List.length_mergeSort ..) hbase hgb (by rw [hsl]; exact r1) r2 r3
      rw [hsl] at h
      rw [List.length_map, srtL_length, flat_strs, ← srt_strs, hss]
      exact h
    · obtain ⟨x, _, rfl⟩ := List.mem_map.1 he; rfl
theorem srtL_sizes {ls : List ByteArray} (h : ∀ s ∈ ls, s.size ≤ maxLen) : ∀ s ∈ srtL ls, s.size ≤ maxLen := fun s hs => h s ((srtL_mem ls s).1 hs)
set_option maxRecDepth 100000 in
set_option maxHeartbeats 2000000 in
theorem labelsL_any (ns : List GNode) (na : Option Addr) (nn nc : Nat) (a : Nat) (s : Int) (g : GNode) (w : World) (hns : NodeSl (fun k => k < w.heap.size) w (.slice na nn nc) ns) (hg : ns[a]? = some g) (hl : ns.length ≤ 1000000) (hgl : g.ls.length ≤ 1000000) :
    Calls Tryz.prog 47 #[grV na nn nc, rfV a s] w fun e w' => ∃ sa sn sc, e = .returned (.slice sa sn sc) ∧ StrSl (fun k => k < w'.heap.size) w' (.slice sa sn sc) (srtL g.ls) ∧ Below w.heap.size w w' := by
  obtain ⟨hlt, e5, kb, ko, lv, xa, xc, rfl, hcl, _⟩ := node_at hns hg
  have hnn : nn ≤ 1000000 := by omega
  obtain ⟨W2, hW2⟩ : ∃ W2, (w.alloc (grO (some ⟨kb, ko, none⟩) nn nc)).alloc (refO (.int .i64 (a : Int)) (.int .i64 s)) = W2 := ⟨_, rfl⟩
  obtain ⟨hs2, hb2, x0, x1⟩ := two_made hW2
  obtain ⟨m0, m1, m2, m3, hst⟩ := hcl W2 hb2
  have hzs := hst.2.2
  obtain ⟨la, ln, lc, rfl, hln, _⟩ := hst.open
  have hln' := hln.out
  have g0 : W2.cell? ⟨w.heap.size, 0, none⟩ = some (.slice (some ⟨kb, ko, none⟩) nn nc) := by simp [World.cell?, x0]
  have r0 : W2.cell? ⟨w.heap.size + 1, 0, none⟩ = some (.int .i64 (a : Int)) := (refO_cells x1).1
  have hvb : Below W2.heap.size W2 (W2.alloc (slO la ln lc)) := blkBelow W2 _ _
  have HSO := Lib.hid (sortedL_any W2.heap.size g.ls la ln lc (W2.alloc (slO la ln lc)) (by rw [World.size_alloc]; omega) (World.alloc_heap_new _ _) ((hst.keep (hvb.keeps'.mono (fun k hk => hk))).mono (fun k hk => Nat.lt_of_lt_of_le hk hvb.size)) hgl (by omega))
  have HVA := Lib.hid (values_any la ln lc W2)
  have HB2 := Lib.hid hb2
  have HVB := Lib.hid hvb
  have HW2 := Lib.hid hW2
  have HZ := Lib.hid (And.intro hgl (srtL_sizes hzs))
  clear hns hg hcl x0 x1 hst hb2 hvb hln hln' m0 m1 m3 hW2 hs2 hzs hgl hl e5
  go_enter Tryz.func47, Tryz.ntmps47
  go_upto_region 1 with fail
  rw [show (w.alloc (.cells #[.slice (some ⟨kb, ko, none⟩) nn nc] 32)).alloc (.cells #[.int .i64 (a : Int), .int .i64 s] 37) = W2 from HW2.out]
  go_wp2_with (first | (go_at_call 64; go_loud (refine HVA.out.mono ?_; rintro en w3 ⟨rfl, rfl⟩)) | (go_at_call 63; go_loud (refine HSO.out.mono ?_; rintro en w4 ⟨sa, sn, sc, rfl, hr, hb⟩; have HR := Lib.hid hr; have HB := Lib.hid hb; clear hr hb)))
  go_ret
  obtain ⟨hgl, hz⟩ := HZ.out
  exact ⟨sa, sn, sc, rfl, strsB HR.out (by rw [srtL_length]; unfold maxLen; omega) hz (fun k hk => (HR.out.lt k hk).2), below_seq HB2.out (below_seq HVB.out HB.out)⟩
end Go.Proofs.YtjmnaibbljakaaaGreatDoor

/- Equality, walks: cmp.Compare of texts; the order of labels. -/
namespace Go.Proofs.YtjmnaibbljakaaaGreatDoor
open Go.RowKit Go.Deep Go.Shelf Go.Sort

abbrev natC (i : Nat) : List Value := [.int .i64 (i : Int)]

/-! ### cmp.Compare -/
theorem nanS_any (x : ByteArray) (w : World) : Calls Tryz.prog 93 #[.string x] w fun e w' => e = .returned (.bool false) ∧ w' = w := by
  go_enter Tryz.func93, Tryz.ntmps93
  go_wp2_with fail
  go_ret
  exact ⟨by simp, rfl⟩
def cmpS (x y : ByteArray) : Int := if x.data.toList < y.data.toList then -1 else if y.data.toList < x.data.toList then 1 else 0
theorem cmpS_any (x y : ByteArray) (w : World) : Calls Tryz.prog 81 #[.string x, .string y] w fun e w' => e = .returned (.int .i64 (cmpS x y)) ∧ w' = w := by
  by_cases h1 : x.data.toList < y.data.toList
  · have e1 : Op.bytesLess x.toList y.toList = true := by rw [bytesLess_eq, Lib.toList_data, Lib.toList_data]; simpa using h1
    have hc : cmpS x y = -1 := by unfold cmpS; rw [if_pos h1]
    rw [hc]
    clear hc h1
    go_enter Tryz.func81, Tryz.ntmps81
    go_wp2_with (go_at_call 93; refine (nanS_any _ _).mono ?_; rintro en w3 ⟨rfl, rfl⟩)
    go_ret
    exact ⟨rfl, rfl⟩
  · have e1 : Op.bytesLess x.toList y.toList = false := by rw [bytesLess_eq, Lib.toList_data, Lib.toList_data]; simpa using h1
    by_cases h2 : y.data.toList < x.data.toList
    · have e2 : Op.bytesLess y.toList x.toList = true := by rw [bytesLess_eq, Lib.toList_data, Lib.toList_data]; simpa using h2
      have hne : x.data.toList ≠ y.data.toList := fun e => by rw [e] at h2; exact absurd h2 (by simp)
      have e3 : (x.toList == y.toList) = false := by rw [Lib.toList_data, Lib.toList_data]; simpa using hne
      have hc : cmpS x y = 1 := by unfold cmpS; rw [if_neg h1, if_pos h2]
      clear hne
      rw [hc]
      clear hc h1 h2
      go_enter Tryz.func81, Tryz.ntmps81
      go_wp2_with (go_at_call 93; refine (nanS_any _ _).mono ?_; rintro en w3 ⟨rfl, rfl⟩)
      go_ret
      exact ⟨rfl, rfl⟩
    · have e2 : Op.bytesLess y.toList x.toList = false := by rw [bytesLess_eq, Lib.toList_data, Lib.toList_data]; simpa using h2
      have heq : x.data.toList = y.data.toList := List.le_antisymm (List.not_lt.1 h2) (List.not_lt.1 h1)
      have e3 : (x.toList == y.toList) = true := by rw [Lib.toList_data, Lib.toList_data]; simpa using heq
      have hc : cmpS x y = 0 := by unfold cmpS; rw [if_neg h1, if_neg h2]
      clear heq
      rw [hc]
      clear hc h1 h2
      go_enter Tryz.func81, Tryz.ntmps81
      go_wp2_with (go_at_call 93; refine (nanS_any _ _).mono ?_; rintro en w3 ⟨rfl, rfl⟩)
      go_ret
      exact ⟨rfl, rfl⟩

/-! ### The order of a node's references -/
abbrev ndO (k p : Int) (l n : Value) : Obj := .cells #[.int .i64 k, .int .i64 p, l, n] 61 (0, 0)
set_option maxHeartbeats 2000000 in
theorem ord1_any (c : Nat) (k p : Int) (nV : Value) (lb lo ln lc i j : Nat) (si sj : ByteArray) (W : World) (hc : W.heap[c]? = some (ndO k p (.slice (some ⟨lb, lo, none⟩) ln lc) nV)) (hi : i < ln) (hj : j < ln) (_hln : ln ≤ 1000000)
    (h0 : W.cell? ⟨lb, lo + i, none⟩ = some (.string si)) (h1 : W.cell? ⟨lb, lo + j, none⟩ = some (.string sj)) :
    Calls Tryz.prog 80 #[.int .i64 (i : Int), .int .i64 (j : Int), .pointer (some ⟨c, 0, none⟩)] W fun e w' => e = .returned (.int .i64 (cmpS si sj)) ∧ ∃ q, w' = W.drewN q := by
  have c2 : W.cell? ⟨c, 2, none⟩ = some (.slice (some ⟨lb, lo, none⟩) ln lc) := by simp [World.cell?, hc]
  have HC := Lib.hid (fun W => cmpS_any si sj W)
  clear hc
  go_enter Tryz.func80, Tryz.ntmps80
  go_upto_region 1 with fail
  go_quiet ((go_at_call 81; exact Calls.quiet_of_same (HC.out _)))
  go_wp2_with fail
  go_ret
  exact ⟨rfl, _, rfl⟩

/-- The label with an index. -/
def labA (g : GNode) (i : Nat) : ByteArray := g.ls.getD i ⟨#[]⟩
def leI (g : GNode) (i j : Nat) : Bool := leL (labA g i).data.toList (labA g j).data.toList
/-- The indices of a node's references, in the order of its labels if it has any. -/
def ordE (g : GNode) : List Nat := if g.ls = [] then List.range g.nx.length else (List.range g.ls.length).mergeSort (leI g)
theorem labs_range (g : GNode) : (List.range g.ls.length).map (labA g) = g.ls := by
  apply List.ext_getElem (by simp)
  intro i h1 h2
  simp [labA, List.getD, List.getElem?_eq_getElem h2]
theorem ord_labs (g : GNode) (h : g.ls ≠ []) : (ordE g).map (labA g) = srtL g.ls := by
  unfold ordE srtL
  rw [if_neg h]
  have h1 : ((List.range g.ls.length).mergeSort (leI g)).map (fun i => (labA g i).data.toList) = ((List.range g.ls.length).map (fun i => (labA g i).data.toList)).mergeSort leL :=
    List.map_mergeSort (fun a _ b _ => rfl)
  have h2 : (List.range g.ls.length).map (fun i => (labA g i).data.toList) = g.ls.map (fun s => s.data.toList) := by
    have h := congrArg (List.map (fun s : ByteArray => s.data.toList)) (labs_range g)
    rw [List.map_map] at h
    exact h
  rw [← h2, ← h1, List.map_map]
  refine List.map_congr_left fun i _ => ?_
  show labA g i = ofL (labA g i).data.toList
  rw [ofL_toL]
theorem ord_lt (g : GNode) (hl : g.ls ≠ [] → g.nx.length = g.ls.length) {i : Nat} (h : i ∈ ordE g) : i < g.nx.length := by
  unfold ordE at h
  split at h
  · simpa using h
  · next hne =>
    rw [List.mem_mergeSort] at h
    rw [hl hne]
    simpa using h
theorem ord_len (g : GNode) (hl : g.ls ≠ [] → g.nx.length = g.ls.length) : (ordE g).length = g.nx.length := by
  unfold ordE
  split
  · simp
  · next hne => rw [List.length_mergeSort, hl hne]; simp
theorem at_lab (g : GNode) (hnd : g.ls.Nodup) {i : Nat} (hi : i < g.ls.length) : atLab g (labA g i) = g.nx[i]? := by
  have h : g.ls.findIdx? (fun x => decide (x = labA g i)) = some i := by
    rw [List.findIdx?_eq_some_iff_getElem]
    have e : labA g i = g.ls[i] := by simp [labA, List.getD, List.getElem?_eq_getElem hi]
    refine ⟨hi, by simp [e], fun j hj => ?_⟩
    rw [e]
    have := List.pairwise_iff_getElem.1 hnd j i (by omega) hi hj
    simpa using this
  unfold atLab
  rw [h]
  rfl
theorem filterMap_eq {α β : Type} {f h : α → Option β} : ∀ (l : List α), (∀ x ∈ l, f x = h x) → l.filterMap f = l.filterMap h
  | [], _ => rfl
  | x :: r, e => by
    rw [List.filterMap_cons, List.filterMap_cons, e x (by simp), filterMap_eq r (fun y hy => e y (by simp [hy]))]
theorem ch_ord (g : GNode) (hnd : g.ls.Nodup) (hl : g.ls ≠ [] → g.nx.length = g.ls.length) : chE srtL g = (ordE g).filterMap (fun i => g.nx[i]?) := by
  unfold chE
  split
  · next h =>
    unfold ordE
    rw [if_pos h]
    have : ∀ (l : List GRef) (n : Nat), n = l.length → l = (List.range n).filterMap (fun i => l[i]?) := by
      intro l n e
      subst e
      induction l with
      | nil => rfl
      | cons a r ih =>
        rw [List.length_cons, List.range_succ_eq_map, List.filterMap_cons]
        simp only [List.getElem?_cons_zero, List.filterMap_map]
        rw [show ((fun i => (a :: r)[i]?) ∘ Nat.succ) = (fun i => r[i]?) from by funext i; simp, ← ih]
    exact this _ _ rfl
  · next h =>
    rw [← ord_labs g h, List.filterMap_map]
    refine filterMap_eq _ fun i hi => ?_
    have := ord_lt g hl hi
    exact at_lab g hnd (by rw [← hl h]; exact this)
end Go.Proofs.YtjmnaibbljakaaaGreatDoor

/- Equality, walks: the indices of a node's references, sorted by the library. -/
namespace Go.Proofs.YtjmnaibbljakaaaGreatDoor
open Go.RowKit Go.Deep Go.Shelf Go.Sort

section
variable {α : Type} [Inhabited α] {enc : α → Value}
theorem heap_sortW {w : World} {g n : Nat} {os : Array Obj} {cur : Array Value} {e : TypeId} {fr : Nat × Nat} (d : Array α) (hb : w.heap[g]? = some (.cells cur e fr)) :
    (sortWorld enc w g 0 n d os).heap[g]? = some (.cells (putCells enc 0 d cur) e fr) := by
  have hg : g < w.heap.size := (Array.getElem?_eq_some_iff.1 hb).1
  unfold sortWorld
  rw [heap_grow_old _ _ (by simpa using hg)]
  simp [putRow, mapBlock, Sort.ahead, Array.getElem?_modify, hb, onCells]
theorem grownBy_sortW {w : World} {g n : Nat} {os : Array Obj} (d : Array α) : w.grownBy (sortWorld enc w g 0 n d os) (some g) := by
  unfold sortWorld
  refine ⟨rfl, rfl, rfl, by simp, fun k hk hne => ?_⟩
  rw [heap_grow_old _ _ (by simpa using hk)]
  have : g ≠ k := fun e => hne (by rw [e])
  simp [putRow, mapBlock, Sort.ahead, Array.getElem?_modify, this]
theorem take_sortW (cur : Array Value) (ts : List α) (h : ts.length ≤ cur.size) : (putCells enc 0 ts.toArray cur).toList.take ts.length = ts.map enc := by
  apply List.ext_getElem?
  intro j
  by_cases hj : j < ts.length
  · rw [List.getElem?_take_of_lt hj, Array.getElem?_toList]
    simp [putCells, hj, show j < cur.size by omega]
  · rw [List.getElem?_take_eq_none (by omega), List.getElem?_eq_none (by simp; omega)]
theorem holds_sortW {w : World} {g : Nat} {cur : Array Value} {e : TypeId} {ss : List α} (hb : w.heap[g]? = some (.cells cur e (0, 0))) (ht : cur.toList.take ss.length = ss.map enc) : Holds enc w g 0 ss.toArray := by
  intro j hj
  have hj' : j < ss.length := by simpa using hj
  refine ⟨?_, by simp [World.frozen?, hb]⟩
  have h1 : (cur.toList.take ss.length)[j]? = (ss.map enc)[j]? := by rw [ht]
  rw [List.getElem?_take_of_lt hj'] at h1
  simp only [World.cell?, hb, Nat.zero_add]
  simp only [Option.isSome_none, Bool.false_eq_true, if_false]
  rw [← Array.getElem?_toList, h1]
  simp [hj']
end
/-- The indices below n. -/
def finL (n : Nat) : List (Fin n) := List.finRange n
theorem finL_len (n : Nat) : (finL n).length = n := List.length_finRange
theorem finL_val (n : Nat) : (finL n).map (·.val) = List.range n := by
  apply List.ext_getElem (by simp [finL])
  intro i h1 h2
  simp [finL]
def encF (n : Nat) (i : Fin n) : Value := .int .i64 ((i.val : Nat) : Int)
theorem flat_natC (l : List Nat) : (l.map natC).flatten = l.map (fun i : Nat => Value.int .i64 (i : Int)) := by
  induction l with
  | nil => rfl
  | cons x r ih => simp [natC] at ih ⊢; exact ih
theorem finL_enc (n : Nat) (l : List (Fin n)) : l.map (encF n) = (l.map (·.val)).map (fun i : Nat => Value.int .i64 (i : Int)) := by
  rw [List.map_map]
  rfl

theorem cmpS_lt (x y : ByteArray) : decide (cmpS x y < 0) = decide (x.data.toList < y.data.toList) := by
  unfold cmpS
  split
  · next h => simp [h]
  · next h =>
    split <;> simp [h]
theorem leL_not (x y : List UInt8) : leL x y = !decide (y < x) := by
  unfold leL
  by_cases h : y < x
  · simp [h, List.not_le]
  · simp [h, List.not_lt.1 h]
def cfE (g : GNode) (n : Nat) (i j : Fin n) : Int := cmpS (labA g i.val) (labA g j.val)
theorem ltOf_cf (g : GNode) (n : Nat) (i j : Fin n) : ltOf (cfE g n) i j = decide ((labA g i.val).data.toList < (labA g j.val).data.toList) := cmpS_lt _ _
theorem swo_cf (g : GNode) (n : Nat) : SWO (ltOf (cfE g n)) where
  irrefl x := by rw [ltOf_cf]; simp
  trans x y z h1 h2 := by
    rw [ltOf_cf] at *
    simp only [decide_eq_true_eq] at *
    exact List.lt_trans h1 h2
  ntrans x y z h1 h2 := by
    rw [ltOf_cf] at *
    simp only [decide_eq_false_iff_not, List.not_lt] at *
    exact List.le_trans h2 h1
theorem tot_cf (g : GNode) (hnd : g.ls.Nodup) (x y : Fin g.ls.length) (h1 : ltOf (cfE g g.ls.length) x y = false) (h2 : ltOf (cfE g g.ls.length) y x = false) : x = y := by
  rw [ltOf_cf] at *
  simp only [decide_eq_false_iff_not, List.not_lt] at *
  have e := toL_inj (List.le_antisymm h2 h1)
  obtain ⟨i, hi⟩ := x
  obtain ⟨j, hj⟩ := y
  simp only [labA, List.getD, List.getElem?_eq_getElem hi, List.getElem?_eq_getElem hj, Option.getD_some] at e
  rcases Nat.lt_trichotomy i j with h | h | h
  · exact absurd e (List.pairwise_iff_getElem.1 hnd i j hi hj h)
  · simp [h]
  · exact absurd e.symm (List.pairwise_iff_getElem.1 hnd j i hj hi h)
theorem sort_cf (g : GNode) (h : g.ls ≠ []) : ((finL g.ls.length).mergeSort (fun x y => !(ltOf (cfE g g.ls.length)) y x)).map (·.val) = ordE g := by
  unfold ordE
  rw [if_neg h, ← finL_val]
  refine List.map_mergeSort (fun a _ b _ => ?_)
  show (!ltOf (cfE g g.ls.length) b a) = leL _ _
  rw [ltOf_cf, leL_not]
end Go.Proofs.YtjmnaibbljakaaaGreatDoor

/- Equality, walks: the order of a node's references by slices.SortFunc. -/
namespace Go.Proofs.YtjmnaibbljakaaaGreatDoor
open Go.Shelf
/-- The library's slices.SortFunc at this program: a table of numbers, and a field a fact of the program's own. -/
def sortF_ren : Go.Shelf.Ren := ⟨fun | 6 => 79 | 15 => 91 | 14 => 92 | 28 => 112 | 29 => 113 | 20 => 114 | 21 => 115 | 22 => 116 | 23 => 117 | 24 => 118 | 25 => 119 | 26 => 120 | 27 => 121 | 46 => 131 | 47 => 127 | 48 => 128 | 49 => 132 | 50 => 133 | 57 => 137 | n => n, fun | 22 => 46 | 24 => 3 | 25 => 133 | 3 => 3 | 39 => 140 | 0 => 0 | 53 => 161 | 55 => 143 | 4 => 4 | 46 => 154 | 45 => 153 | 50 => 40 | 5 => 5 | 9 => 9 | 66 => 170 | 70 => 174 | 76 => 178 | 77 => 179 | n => n, fun | n => n⟩
theorem sortF : Go.Proofs.SlLaysF.n6 Tryz.prog sortF_ren := {
  mixed := by kernel_rfl
  f6 := ⟨Tryz.f79.name, by decide, Tryz.func79.trans (congrArg some (by kernel_rfl))⟩
  f14 := ⟨Tryz.f92.name, by decide, Tryz.func92.trans (congrArg some (by kernel_rfl))⟩
  f15 := Tryz.func91.trans (congrArg some (by kernel_rfl))
  f20 := ⟨Tryz.f114.name, by decide, Tryz.func114.trans (congrArg some (by kernel_rfl))⟩
  f21 := ⟨Tryz.f115.name, by decide, Tryz.func115.trans (congrArg some (by kernel_rfl))⟩
  f22 := ⟨Tryz.f116.name, by decide, Tryz.func116.trans (congrArg some (by kernel_rfl))⟩
  f23 := ⟨Tryz.f117.name, by decide, Tryz.func117.trans (congrArg some (by kernel_rfl))⟩
  f24 := ⟨Tryz.f118.name, by decide, Tryz.func118.trans (congrArg some (by kernel_rfl))⟩
  f25 := ⟨Tryz.f119.name, by decide, Tryz.func119.trans (congrArg some (by kernel_rfl))⟩
  f26 := ⟨Tryz.f120.name, by decide, Tryz.func120.trans (congrArg some (by kernel_rfl))⟩
  f27 := ⟨Tryz.f121.name, by decide, Tryz.func121.trans (congrArg some (by kernel_rfl))⟩
  f28 := Tryz.func112.trans (congrArg some (by kernel_rfl))
  f29 := Tryz.func113.trans (congrArg some (by kernel_rfl))
  f46 := ⟨Tryz.f131.name, by decide, Tryz.func131.trans (congrArg some (by kernel_rfl))⟩
  f47 := Tryz.func127.trans (congrArg some (by kernel_rfl))
  f48 := Tryz.func128.trans (congrArg some (by kernel_rfl))
  f49 := ⟨Tryz.f132.name, by decide, Tryz.func132.trans (congrArg some (by kernel_rfl))⟩
  f50 := ⟨Tryz.f133.name, by decide, Tryz.func133.trans (congrArg some (by kernel_rfl))⟩
  f57 := ⟨Tryz.f137.name, by decide, Tryz.func137.trans (congrArg some (by kernel_rfl))⟩
  t0 := Tryz.underlying0
  a0 := Tryz.isAgg0
  z0 := Tryz.sizeOf0
  v0 := Tryz.zeroValue0
  t3 := Tryz.underlying3
  a3 := Tryz.isAgg3
  z3 := Tryz.sizeOf3
  v3 := Tryz.zeroValue3
  t4 := Tryz.underlying4
  a4 := Tryz.isAgg4
  z4 := Tryz.sizeOf4
  v4 := Tryz.zeroValue4
  t5 := Tryz.underlying5
  a5 := Tryz.isAgg5
  z5 := Tryz.sizeOf5
  v5 := Tryz.zeroValue5
  t9 := Tryz.underlying9
  a9 := Tryz.isAgg9
  z9 := Tryz.sizeOf9
  v9 := Tryz.zeroValue9
  t22 := Tryz.underlying46
  a22 := Tryz.isAgg46
  z22 := Tryz.sizeOf46
  v22 := Tryz.zeroValue46
  a24 := Tryz.isAgg3
  z24 := Tryz.sizeOf3
  t25 := Tryz.underlying133
  a25 := Tryz.isAgg133
  z25 := Tryz.sizeOf133
  v25 := Tryz.zeroValue133
  t39 := Tryz.underlying140
  a39 := Tryz.isAgg140
  z39 := Tryz.sizeOf140
  v39 := Tryz.zeroValue140
  t45 := Tryz.underlying153
  a45 := Tryz.isAgg153
  z45 := Tryz.sizeOf153
  v45 := Tryz.zeroValue153
  t46 := Tryz.underlying154
  a46 := Tryz.isAgg154
  z46 := Tryz.sizeOf154
  v46 := Tryz.zeroValue154
  t50 := Tryz.underlying40
  a50 := Tryz.isAgg40
  z50 := Tryz.sizeOf40
  v50 := Tryz.zeroValue40
  t53 := Tryz.underlying161
  a53 := Tryz.isAgg161
  z53 := Tryz.sizeOf161
  v53 := Tryz.zeroValue161
  t55 := Tryz.underlying143
  a55 := Tryz.isAgg143
  z55 := Tryz.sizeOf143
  v55 := Tryz.zeroValue143
  t66 := Tryz.underlying170
  a66 := Tryz.isAgg170
  z66 := Tryz.sizeOf170
  v66 := Tryz.zeroValue170
  t70 := Tryz.underlying174
  a70 := Tryz.isAgg174
  z70 := Tryz.sizeOf174
  v70 := Tryz.zeroValue174
  t76 := Tryz.underlying178
  a76 := Tryz.isAgg178
  z76 := Tryz.sizeOf178
  v76 := Tryz.zeroValue178
  t77 := Tryz.underlying179
  a77 := Tryz.isAgg179
  z77 := Tryz.sizeOf179
  v77 := Tryz.zeroValue179 }
end Go.Proofs.YtjmnaibbljakaaaGreatDoor

namespace Go.Proofs.YtjmnaibbljakaaaGreatDoor
open Go.RowKit Go.Deep Go.Shelf Go.Sort

section
open Go.RowKit Go.Deep Go.Shelf Go.Sort
set_option maxRecDepth 100000 in
theorem sortF_total (g : GNode) (hpos : 0 < g.ls.length) (hnd : g.ls.Nodup) (hz : g.ls.length ≤ 1000000) (c : Nat) (nV : Value) (lb lo ln lc : Nat) (gb cap : Nat) (cur : Array Value) (w : World)
    (hc : w.heap[c]? = some (ndO g.k g.p (.slice (some ⟨lb, lo, none⟩) ln lc) nV)) (hln : ln = g.ls.length) (hrow : ∀ (i : Nat) (s : ByteArray), g.ls[i]? = some s → w.cell? ⟨lb, lo + i, none⟩ = some (.string s)) (hlb : lb < gb) (hcb : c < gb)
    (hb : w.heap[gb]? = some (.cells cur 3 (0, 0))) (ht : cur.toList.take g.ls.length = (List.range g.ls.length).map (fun i : Nat => Value.int .i64 (i : Int))) (hcs : g.ls.length ≤ cur.size) :
    Calls Tryz.prog 79 #[.slice (some ⟨gb, 0, none⟩) g.ls.length cap, .func (.func 80) #[] #[.pointer (some ⟨c, 0, none⟩)]] w fun e w' =>
      e = .returned (.tuple #[]) ∧ w.grownBy w' (some gb) ∧ ∃ cur', w'.heap[gb]? = some (.cells cur' 3 (0, 0)) ∧ cur'.size = cur.size ∧ cur'.toList.take g.ls.length = (ordE g).map (fun i : Nat => Value.int .i64 (i : Int)) := by
  haveI : Inhabited (Fin g.ls.length) := ⟨⟨0, hpos⟩⟩
  have hgb : gb < w.heap.size := (Array.getElem?_eq_some_iff.1 hb).1
  have eg : ∀ args w, (callFunc 80 args).run Tryz.prog w = .ok (.enter 80 args) w := enters_of Tryz.func80 (by kernel_rfl) rfl
  have hsz : (finL g.ls.length).toArray.size = g.ls.length := by simp [finL_len]
  have hcmp : CmpLays1 Tryz.prog 80 #[.pointer (some ⟨c, 0, none⟩)] (encF g.ls.length) (cfE g g.ls.length) gb 0 (finL g.ls.length).toArray.size w := by
    refine CmpReads.lays fun m os dk _ x y => ?_
    have hgr : Below gb w (sortWorld (encF g.ls.length) w gb 0 m dk os) := (Below.refl gb w).grown (grownBy_sortW dk) (by omega) (fun k e => by cases e; omega)
    have hx := hrow x.val (labA g x.val) (by simp [labA, List.getD])
    have hy := hrow y.val (labA g y.val) (by simp [labA, List.getD])
    exact ord1_any c g.k g.p nV lb lo ln lc x.val y.val (labA g x.val) (labA g y.val) _ ((hgr.block c hcb).trans hc) (by rw [hln]; exact x.isLt) (by rw [hln]; exact y.isLt) (by omega)
      ((hgr.cell (p := ⟨lb, _, none⟩) hlb).trans hx) ((hgr.cell (p := ⟨lb, _, none⟩) hlb).trans hy)
  have hH : Holds (encF g.ls.length) w gb 0 (finL g.ls.length).toArray := holds_sortW hb (by rw [finL_len, ht, finL_enc, finL_val])
  have h : ∀ n, n = (finL g.ls.length).toArray.size → Calls Tryz.prog 79 #[.slice (some ⟨gb, 0, none⟩) n cap, .func (.func 80) #[] #[.pointer (some ⟨c, 0, none⟩)]] w fun e w' => e = .returned (.tuple #[]) ∧ ∃ d' m os, PermIn 0 (finL g.ls.length).toArray.size (finL g.ls.length).toArray d' ∧ SortedIn (ltOf (cfE g g.ls.length)) 0 (finL g.ls.length).toArray.size d' ∧ w' = sortWorld (encF g.ls.length) w gb 0 m d' os := by
    rintro n rfl
    exact Any.slices_SortFunc sortF (encF g.ls.length) (fun _ => rfl) (cfE g g.ls.length) (swo_cf g g.ls.length) 80 #[.pointer (some ⟨c, 0, none⟩)] gb 0 cap (finL g.ls.length).toArray w eg hcmp hH hgb (by rw [hsz]; omega)
  refine (h _ hsz.symm).mono ?_
  rintro e w' ⟨he, d', n, os, hp, hs, rfl⟩
  have hd := sorted_unique_holds (swo_cf g g.ls.length) (tot_cf g hnd) _ d' hp hs
  refine ⟨he, grownBy_sortW d', _, heap_sortW d' hb, by simp [putCells], ?_⟩
  have hd2 : d' = ((finL g.ls.length).toArray.toList.mergeSort (fun x y => !(ltOf (cfE g g.ls.length)) y x)).toArray := by rw [← hd]
  rw [hd2]
  have hll : ((finL g.ls.length).toArray.toList.mergeSort (fun x y => !(ltOf (cfE g g.ls.length)) y x)).length = g.ls.length := by rw [List.length_mergeSort]; simp [finL_len]
  have := take_sortW (enc := encF g.ls.length) cur ((finL g.ls.length).toArray.toList.mergeSort (fun x y => !(ltOf (cfE g g.ls.length)) y x)) (by rw [hll]; exact hcs)
  rw [hll] at this
  rw [this, finL_enc, List.toList_toArray, sort_cf g (by intro e; rw [e] at hpos; simp at hpos)]
end

set_option maxHeartbeats 4000000 in
set_option maxRecDepth 100000 in
theorem order_any (g : GNode) (la : Option Addr) (ln lc : Nat) (xa : Option Addr) (xn xc : Nat) (w : World) (hst : StrSl (fun k => k < w.heap.size) w (.slice la ln lc) g.ls) (hxn : xn = g.nx.length) (hx6 : xn ≤ 1000000) (hl : g.ls ≠ [] → g.nx.length = g.ls.length) (hnd : g.ls.Nodup) :
    Calls Tryz.prog 65 #[.agg #[.int .i64 g.k, .int .i64 g.p, .slice la ln lc, .slice xa xn xc]] w fun e w' => ∃ a m c, e = .returned (.slice a m c) ∧ GRow 3 1 (w.heap.size + 1) w' (.slice a m c) ((ordE g).map natC) ∧ Below w.heap.size w w' := by
  obtain ⟨W1, hW1⟩ : ∃ W1, w.alloc (ndO g.k g.p (.slice la ln lc) (.slice xa xn xc)) = W1 := ⟨_, rfl⟩
  have hb1 : Below w.heap.size w W1 := by rw [← hW1]; exact blkBelow w _ _
  have hs1 : W1.heap.size = w.heap.size + 1 := by rw [← hW1]; simp
  have x1 : W1.heap[w.heap.size]? = some (ndO g.k g.p (.slice la ln lc) (.slice xa xn xc)) := by rw [← hW1]; exact World.alloc_heap_new _ _
  have c3 : W1.cell? ⟨w.heap.size, 3, none⟩ = some (.slice xa xn xc) := by simp [World.cell?, x1]
  have HW1 := Lib.hid hW1
  have HB1 := Lib.hid hb1
  have HS1 := Lib.hid hs1
  have HX1 := Lib.hid x1
  have HST := Lib.hid hst
  have HP := Lib.hid (And.intro hxn (And.intro hl hnd))
  obtain ⟨_, _, _, e0, hlen, _, _⟩ := hst.open
  simp only [Value.slice.injEq] at e0
  obtain ⟨rfl, rfl, rfl⟩ := e0
  have HLN : Hid (ln = g.ls.length) := hlen
  clear hW1 hb1 hs1 x1 hst hxn hl hnd hlen
  go_enter Tryz.func65, Tryz.ntmps65
  go_upto_region 1 with fail
  rw [show w.alloc (.cells #[.int .i64 g.k, .int .i64 g.p, .slice la ln lc, .slice xa xn xc] 61) = W1 from HW1.out]
  go_wp2_with fail
  go_loopw [3, 8] (fun v i wr => ∃ (j : Nat) (a : Option Addr) (m c : Nat), i = .int .i64 j ∧ j ≤ xn ∧ v = .slice a m c ∧ Hid (GRow 3 1 (w.heap.size + 1) wr (.slice a m c) ((List.range j).map natC)) ∧ Hid (Below W1.heap.size W1 wr)) (fun _ i _ => xn - (intOf i).toNat)
  case atStart => exact ⟨0, _, _, _, rfl, by omega, rfl, Lib.hid (GRow.nil _ _ _ _), Lib.hid (Below.refl _ _)⟩
  case round =>
    obtain ⟨j, a, m, c, rfl, hj, rfl, HR, HB⟩ := hrel
    by_cases hlt : j < xn
    · go_wp2_with (at_builtin; refine wpList_appG intElem rfl _ _ rfl rfl (HR.out.alloc _) (some ⟨wr.heap.size, 0, none⟩) 1 1 [natC j] rfl rfl (by intro e' he'; rw [List.mem_singleton.1 he']; rfl) (src_new wr (natC j) _) (fun e he u hu => by rw [List.mem_singleton.1 he] at hu; simp only [natC, List.mem_cons, List.not_mem_nil, or_false] at hu; subst hu; rfl) ?_ ?_ ?_)
      · simp only [List.length_map, List.length_range, List.length_singleton]; omega
      · have := HB.out.size
        have := HS1.out
        simp; omega
      · intro ga gn gc w5 hrow hgrow _
        have hb : Below W1.heap.size W1 w5 := (HB.out.alloc HB.out.size _).grown hgrow (by have := HB.out.size; simp; omega) (fun k hk => by have := (HR.out.lt k hk).1; have := HS1.out; omega)
        have HRN := Lib.hid hrow
        have HBN := Lib.hid hb
        clear hrow hb hgrow
        go_wp2_with fail
        go_roundw
        case rel => exact ⟨j + 1, _, _, _, by go_num, by omega, rfl, Lib.hid (by rw [List.range_succ, List.map_append]; exact HRN.out), HBN⟩
        case measure => simp [intOf]; omega
    · obtain rfl : xn = j := by omega
      obtain ⟨hxn, hl, hnd⟩ := HP.out
      have c2 : wr.cell? ⟨w.heap.size, 2, none⟩ = some (.slice la ln lc) := by
        have h : wr.heap[w.heap.size]? = some (ndO g.k g.p (.slice la ln lc) (.slice xa xn xc)) := (HB.out.block _ (by have := HS1.out; omega)).trans HX1.out
        simp [World.cell?, h]
      by_cases hz : ln = 0
      · subst hz
        have hnil : g.ls = [] := List.eq_nil_of_length_eq_zero HLN.out.symm
        have HO : Hid (ordE g = List.range xn) := Lib.hid (by unfold ordE; rw [if_pos hnil, hxn])
        clear hnil hxn hl hnd
        go_wp2_with fail
        go_ret
        exact ⟨_, _, _, rfl, by rw [HO.out]; exact HR.out, below_seq HB1.out HB.out⟩
      · have hlpos : 0 < ln := by omega
        have hne : g.ls ≠ [] := fun e => by have := HLN.out; rw [e] at this; simp at this; omega
        have hxl : xn = ln := by rw [hxn, hl hne, HLN.out]
        rcases HR.out.own.2 with ⟨_, h0⟩ | ⟨gb, cap, cur, e, hbase, hgb, r1, r2, r3, r4⟩
        · exfalso; simp at h0; omega
        · simp only [Value.slice.injEq] at e
          obtain ⟨rfl, e2, rfl⟩ := e
          rw [List.length_map, List.length_range] at e2 r1 r4
          have e3 := e2.symm
          subst e3
          subst hxl
          obtain ⟨lb, lo, rfl⟩ : ∃ lb lo, la = some ⟨lb, lo, none⟩ := by
            rcases HST.out.1 with ⟨⟨_, _, e⟩, _⟩ | ⟨b, o, _, e, _⟩
            · simp only [Value.slice.injEq] at e; omega
            · simp only [Value.slice.injEq] at e; exact ⟨b, o, e.1⟩
          have hrw : lb < w.heap.size ∧ ∀ (i : Nat) (s : ByteArray), g.ls[i]? = some s → wr.cell? ⟨lb, lo + i, none⟩ = some (.string s) := by
            rcases HST.out.1 with ⟨⟨_, _, e⟩, _⟩ | ⟨b, o, _, e, hB, _, hrow⟩
            · simp only [Value.slice.injEq] at e; omega
            · simp only [Value.slice.injEq, Option.some.injEq, Addr.mk.injEq] at e
              obtain ⟨⟨rfl, rfl, _⟩, _⟩ := e
              exact ⟨hB, fun i s hi => ((below_seq HB1.out HB.out).cell (p := ⟨lb, _, none⟩) hB).trans (hrow i s hi)⟩
          have hln := HLN.out
          have HSF := sortF_total g (by omega) hnd (by omega) w.heap.size (.slice xa xn xc) lb lo xn lc gb c cur wr ((HB.out.block _ (by have := HS1.out; omega)).trans HX1.out) hln hrw.2 (by omega) (by omega) hgb (by rw [← hln, ← Nat.mul_one xn, r4, Nat.mul_one, flat_natC]) (by omega)
          rw [← hln] at HSF
          have HSF' := Lib.hid HSF
          have HG := Lib.hid (And.intro hbase (And.intro r1 (And.intro r2 (And.intro r3 (And.intro hne hgb)))))
          have HO : Hid ((ordE g).length = xn) := Lib.hid (by rw [ord_len g hl, hxn])
          clear HSF hbase r1 r2 r3 r4 hgb hrw hln hne hxn hl hnd HR
          go_wp2_with (go_at_call 79; go_loud (refine HSF'.out.mono ?_; rintro en w6 ⟨rfl, hg6, cur', h1, h2, h3⟩; have HG6 := Lib.hid hg6; have H1 := Lib.hid h1; have H2 := Lib.hid h2; have H3 := Lib.hid h3; clear hg6 h1 h2 h3))
          go_ret
          obtain ⟨hbase, r1, r2, r3, _, hgb⟩ := HG.out
          refine ⟨_, _, _, rfl, ⟨⟨?_, .inr ⟨gb, c, cur', ?_, hbase, H1.out, ?_, r2, by rw [H2.out, r3], ?_⟩⟩, ?_⟩, ?_⟩
          · rw [flat_natC]; simp
          · simp only [List.length_map]; rw [HO.out]
          · simp only [List.length_map]; rw [HO.out]; exact r1
          · simp only [List.length_map]; rw [HO.out, Nat.mul_one, H3.out, flat_natC]
          · intro e he; obtain ⟨x, _, rfl⟩ := List.mem_map.1 he; rfl
          · exact (below_seq HB1.out HB.out).grown HG6.out (below_seq HB1.out HB.out).size (fun k e => by cases e; omega)
end Go.Proofs.YtjmnaibbljakaaaGreatDoor

/- Equality, walks: priorities; the references behind a reference. -/
namespace Go.Proofs.YtjmnaibbljakaaaGreatDoor
open Go.RowKit Go.Deep Go.Shelf Go.Sort

theorem NodeSl.to {w w' : World} {v : Value} {ns : List GNode} (h : NodeSl (fun k => k < w.heap.size) w v ns) (hb : Below w.heap.size w w') : NodeSl (fun k => k < w'.heap.size) w' v ns := (h.keep (hb.keeps'.mono (fun _ hk => hk))).mono (fun _ hk => Nat.lt_of_lt_of_le hk hb.size)
/-- The priority of a reference to a node, or 0. -/
def prE (g : GNode) (s : Int) : Int := if actI g.k = true then g.p + s else 0
set_option maxHeartbeats 2000000 in
set_option maxRecDepth 100000 in
theorem eprio_any (ns : List GNode) (na : Option Addr) (nn nc : Nat) (a : Nat) (s : Int) (g : GNode) (w : World) (hns : NodeSl (fun k => k < w.heap.size) w (.slice na nn nc) ns) (hg : ns[a]? = some g) (hl : ns.length ≤ 1000000) (hp : 0 ≤ g.p ∧ g.p ≤ 1000000) (hs : -1000000000000 ≤ s ∧ s ≤ 1000000000000) :
    Calls Tryz.prog 27 #[grV na nn nc, rfV a s] w fun e w' => e = .returned (.int .i64 (prE g s)) ∧ Below w.heap.size w w' := by
  obtain ⟨W2, hW2⟩ : ∃ W2, (w.alloc (grO na nn nc)).alloc (refO (.int .i64 (a : Int)) (.int .i64 s)) = W2 := ⟨_, rfl⟩
  obtain ⟨hs2, hb2, x0, x1⟩ := two_made hW2
  have HPR := Lib.hid (prio_any ns na nn nc a s g W2 (hns.to hb2) hg hl hp hs)
  have g0 : W2.cell? ⟨w.heap.size, 0, none⟩ = some (.slice na nn nc) := by simp [World.cell?, x0]
  obtain ⟨r0, r1, _, _⟩ := refO_cells x1
  have HW2 := Lib.hid hW2
  have HB2 := Lib.hid hb2
  clear hns hg hl hW2 hb2 x0 x1 hs2 hp hs
  cases hac : actI g.k
  · have HPV : Hid (prioV g s = .tuple #[.int .i64 0, .bool false]) := Lib.hid (by rw [prioV, hac]; rfl)
    have HV : Hid (prE g s = 0) := Lib.hid (by rw [prE, hac]; rfl)
    rw [HV.out]
    rw [HPV.out] at HPR
    clear hac
    go_enter Tryz.func27, Tryz.ntmps27
    go_upto_region 1 with fail
    rw [show (w.alloc (.cells #[.slice na nn nc] 32)).alloc (.cells #[.int .i64 (a : Int), .int .i64 s] 37) = W2 from HW2.out]
    go_wp2_with (go_at_call 43; go_loud (refine HPR.out.mono ?_; rintro en w3 ⟨rfl, hb3⟩; have HB3 := Lib.hid hb3; clear hb3))
    go_ret
    exact ⟨rfl, below_seq HB2.out HB3.out⟩
  · have HPV : Hid (prioV g s = .tuple #[.int .i64 (g.p + s), .bool true]) := Lib.hid (by rw [prioV, hac]; rfl)
    have HV : Hid (prE g s = g.p + s) := Lib.hid (by rw [prE, hac]; rfl)
    rw [HV.out]
    rw [HPV.out] at HPR
    clear hac
    go_enter Tryz.func27, Tryz.ntmps27
    go_upto_region 1 with fail
    rw [show (w.alloc (.cells #[.slice na nn nc] 32)).alloc (.cells #[.int .i64 (a : Int), .int .i64 s] 37) = W2 from HW2.out]
    go_wp2_with (go_at_call 43; go_loud (refine HPR.out.mono ?_; rintro en w3 ⟨rfl, hb3⟩; have HB3 := Lib.hid hb3; clear hb3))
    go_ret
    exact ⟨rfl, below_seq HB2.out HB3.out⟩

/-- The references behind a reference to a node. -/
def behE (g : GNode) (s : Int) : List GRef := ((ordE g).filterMap (fun i => g.nx[i]?)).map (upG · s)
theorem beh_at (g : GNode) (s : Int) (_hl : g.ls ≠ [] → g.nx.length = g.ls.length) : behE g s = (ordE g).filterMap (fun i => (g.nx[i]?).map (upG · s)) := by
  unfold behE
  rw [List.map_filterMap]
theorem filterMap_take {α β : Type} {f : α → Option β} {l : List α} {j : Nat} {a : α} {b : β} (hj : l[j]? = some a) (hb : f a = some b) : (l.take (j + 1)).filterMap f = (l.take j).filterMap f ++ [b] := by
  rw [take_snoc_get hj, List.filterMap_append, List.filterMap_cons, hb]
  simp
/-- What the program's equality asks of a graph in memory. -/
structure EqG (ns : List GNode) : Prop where
  len : ns.length ≤ 1000000
  ok : ∀ g ∈ ns, NodeOk g
  nd : ∀ g ∈ ns, g.ls.Nodup
  sm : smallG ns
  nx : ∀ g ∈ ns, g.nx.length ≤ 1000
  wf : ∀ g ∈ ns, ∀ q ∈ g.nx, q.n < ns.length
theorem NodeOk.lens {g : GNode} (h : NodeOk g) (hne : g.ls ≠ []) : g.nx.length = g.ls.length := by
  obtain ⟨h1, h2⟩ := h.kind
  by_cases h3 : g.k ≤ 3
  · exact absurd (h.leaf h3).1 hne
  · by_cases h4 : g.k = 4 ∨ g.k = 5
    · exact absurd (h.two h4).1 hne
    · exact (h.many (by omega)).2
theorem NodeOk.labs_le {g : GNode} (h : NodeOk g) (hx : g.nx.length ≤ 1000) : g.ls.length ≤ 1000 := by
  by_cases hne : g.ls = []
  · rw [hne]; simp
  · rw [← h.lens hne]; exact hx
set_option maxHeartbeats 4000000 in
set_option maxRecDepth 100000 in
theorem behind_any (ns : List GNode) (na : Option Addr) (nn nc : Nat) (r : GRef) (g : GNode) (w : World) (hns : NodeSl (fun k => k < w.heap.size) w (.slice na nn nc) ns) (hg : ns[r.n]? = some g) (hG : EqG ns) (hs : -1000000000000 ≤ r.s ∧ r.s ≤ 1000000000000) :
    Calls Tryz.prog 48 #[grV na nn nc, rfV r.n r.s] w fun e w' => ∃ a m c, e = .returned (.slice a m c) ∧ GRow 37 2 w.heap.size w' (.slice a m c) ((behE g r.s).map refCells) ∧ Below w.heap.size w w' := by
  have hgm := List.mem_of_getElem? hg
  have hlen := hG.len
  obtain ⟨hlt, hln, kb, ko, lv, xa, xc, rfl, hcl, _⟩ := node_at hns hg
  have hrl : r.n < ns.length := by omega
  obtain ⟨W2, hW2⟩ : ∃ W2, (w.alloc (grO (some ⟨kb, ko, none⟩) nn nc)).alloc (refO (.int .i64 (r.n : Int)) (.int .i64 r.s)) = W2 := ⟨_, rfl⟩
  obtain ⟨hs2, hb2, x0, x1⟩ := two_made hW2
  obtain ⟨n0, n1, n2, n3, hst⟩ := hcl W2 hb2
  obtain ⟨la, ln, lc, rfl, _⟩ := hst.open
  have g0 : W2.cell? ⟨w.heap.size, 0, none⟩ = some (.slice (some ⟨kb, ko, none⟩) nn nc) := by simp [World.cell?, x0]
  obtain ⟨r0, r1, _, _⟩ := refO_cells x1
  have hol := (hG.ok g hgm).lens
  have hnx := hG.nx g hgm
  have HOR := Lib.hid (order_any g la ln lc xa g.nx.length xc W2 hst rfl (by omega) hol (hG.nd g hgm))
  have HNX : Hid (∀ (i : Int) (W : World), Below W2.heap.size W2 W → Calls Tryz.prog 66 #[grV (some ⟨kb, ko, none⟩) nn nc, rfV r.n r.s, .int .i64 i] W fun e w' => e = .returned (refR (nextE ns r i)) ∧ Below W.heap.size W w') := Lib.hid (fun i W hW => next_any ns _ nn nc r i W ((hns.to hb2).to hW) hrl hlen (fun g' h' => by have := hG.nx g' h'; omega) hG.sm (by omega))
  have HNS : Hid (∀ (i : Nat) (q : GRef), g.nx[i]? = some q → nextE ns r (i : Int) = some (upG q r.s)) := Lib.hid (fun i q hq => next_some hg hq)
  have HOL : Hid (∀ i ∈ ordE g, ∃ q, g.nx[i]? = some q) := Lib.hid (fun i hi => ⟨_, List.getElem?_eq_getElem (ord_lt g hol hi)⟩)
  obtain ⟨L, hL⟩ : ∃ L, ordE g = L := ⟨_, rfl⟩
  have hLl : L.length ≤ 1000 := by rw [← hL, ord_len g hol]; exact hnx
  have HBE : Hid (behE g r.s = L.filterMap (fun i => (g.nx[i]?).map (upG · r.s))) := Lib.hid (by rw [beh_at g r.s hol, hL])
  rw [hL] at HOR HOL
  have HW2 := Lib.hid hW2
  have HB2 := Lib.hid hb2
  have HS2 := Lib.hid hs2
  have HX0 := Lib.hid x0
  have HX1 := Lib.hid x1
  have HLL := Lib.hid hLl
  obtain ⟨M, hM⟩ : ∃ M, g.nx.length = M := ⟨_, rfl⟩
  rw [hM] at n3 HOR
  clear hns hg hcl hst hG hgm hW2 hb2 x0 x1 hs2 hol hL hln hrl hnx hM hlen hLl
  go_enter Tryz.func48, Tryz.ntmps48
  go_upto_region 1 with fail
  rw [show (w.alloc (.cells #[.slice (some ⟨kb, ko, none⟩) nn nc] 32)).alloc (.cells #[.int .i64 (r.n : Int), .int .i64 r.s] 37) = W2 from HW2.out]
  go_wp2_with (go_at_call 65; go_loud (refine HOR.out.mono ?_; rintro en w4 ⟨oa, om, oc, rfl, ho4, hb4⟩; have HO4 := Lib.hid ho4; have HB4 := Lib.hid hb4; clear ho4 hb4))
  clear g0 r0 r1 n0 n1 n2 n3
  have hom : om = L.length := by
    obtain ⟨_, _, _, e, e2, _⟩ := HO4.out.src
    simp only [Value.slice.injEq] at e
    rw [e.2.1, e2, List.length_map]
  have hom1 : om ≤ 1000 := by rw [hom]; exact HLL.out
  have HOM := Lib.hid hom
  clear hom
  go_loopw [18, 5] (fun i v wr => ∃ (j : Nat) (a : Option Addr) (m c : Nat), i = .int .i64 j ∧ j ≤ om ∧ v = .slice a m c ∧ Hid (GRow 37 2 w4.heap.size wr (.slice a m c) (((L.take j).filterMap (fun i => (g.nx[i]?).map (upG · r.s))).map refCells)) ∧ Hid (Below w4.heap.size w4 wr)) (fun i _ _ => om - (intOf i).toNat)
  case atStart => exact ⟨0, _, _, _, rfl, by omega, rfl, Lib.hid (GRow.nil _ _ _ _), Lib.hid (Below.refl _ _)⟩
  case round =>
    obtain ⟨j, a, m, c, rfl, hj, rfl, HR, HB⟩ := hrel
    by_cases hlt : j < om
    · obtain ⟨i, hi⟩ : ∃ i, L[j]? = some i := ⟨_, List.getElem?_eq_getElem (by rw [← HOM.out]; exact hlt)⟩
      obtain ⟨q, hq⟩ := HOL.out i (List.mem_of_getElem? hi)
      have HE := HNX.out (i : Int)
      rw [HNS.out i q hq] at HE
      have HCN := Lib.hid HE
      obtain ⟨ob, cap, e, hcell⟩ := HO4.out.cell (j := j) (i := 0) (e := natC i) (u := .int .i64 (i : Int)) (by rw [List.getElem?_map, hi]; rfl) rfl
      simp only [Value.slice.injEq] at e
      obtain ⟨rfl, e2, rfl⟩ := e
      have hob : ob < w4.heap.size := (HO4.out.lt ob rfl).2
      have o0 : wr.cell? ⟨ob, j, none⟩ = some (.int .i64 (i : Int)) := by
        have h := (HB.out.cell (p := ⟨ob, j * 1 + 0, none⟩) hob).trans hcell
        simpa using h
      have hbW : Below W2.heap.size W2 wr := below_seq HB4.out HB.out
      have y0 : wr.heap[w.heap.size]? = some (grO (some ⟨kb, ko, none⟩) nn nc) := (hbW.block _ (by have := HS2.out; omega)).trans HX0.out
      have y1 : wr.heap[w.heap.size + 1]? = some (refO (.int .i64 (r.n : Int)) (.int .i64 r.s)) := (hbW.block _ (by have := HS2.out; omega)).trans HX1.out
      have g0 : wr.cell? ⟨w.heap.size, 0, none⟩ = some (.slice (some ⟨kb, ko, none⟩) nn nc) := by simp [World.cell?, y0]
      obtain ⟨r0, r1, _, _⟩ := refO_cells y1
      have HBW := Lib.hid hbW
      have HQ : Hid ((L.take (j + 1)).filterMap (fun i => (g.nx[i]?).map (upG · r.s)) = (L.take j).filterMap (fun i => (g.nx[i]?).map (upG · r.s)) ++ [upG q r.s]) := Lib.hid (filterMap_take hi (by rw [hq]; rfl))
      have HTL : Hid (((L.take j).filterMap (fun i => (g.nx[i]?).map (upG · r.s))).length ≤ 1000) := Lib.hid (by
        refine Nat.le_trans (List.length_filterMap_le _ _) ?_
        rw [List.length_take]; have := HOM.out; omega)
      obtain ⟨u, hu⟩ : ∃ u, upG q r.s = u := ⟨_, rfl⟩
      rw [hu] at HCN HQ
      have HRR : Hid (refR (some u) = .tuple #[rfV u.n u.s, .bool true]) := Lib.hid rfl
      rw [HRR.out] at HCN
      clear hi hq HE hcell e2 hob hbW y0 y1 hu
      go_upto_region 6 with (go_at_call 66; go_loud (refine (HCN.out wr HBW.out).mono ?_; rintro en w5 ⟨rfl, hb5⟩; have HB5 := Lib.hid hb5; clear hb5))
      obtain ⟨W6, hW6⟩ : ∃ W6, w5.alloc (refO (.int .i64 (u.n : Int)) (.int .i64 u.s)) = W6 := ⟨_, rfl⟩
      have hx6 : W6.heap[w5.heap.size]? = some (refO (.int .i64 (u.n : Int)) (.int .i64 u.s)) := by rw [← hW6]; exact World.alloc_heap_new _ _
      have hb6 : Below w5.heap.size w5 W6 := by rw [← hW6]; exact blkBelow w5 _ _
      rw [show w5.alloc (.cells #[.int .i64 (u.n : Int), .int .i64 u.s] 37) = W6 from hW6]
      clear g0 r0 r1 o0
      obtain ⟨z0, z1, _, _⟩ := refO_cells hx6
      have HB6 : Hid (Below wr.heap.size wr W6) := Lib.hid (below_seq HB5.out hb6)
      have HR6 := Lib.hid (HR.out.to HB6.out)
      clear hW6 hx6 hb6
      go_wp2_with (at_builtin; refine wpList_appG grefElem rfl _ _ rfl rfl (HR6.out.alloc _) (some ⟨W6.heap.size, 0, none⟩) 1 1 [refCells u] rfl rfl (by intro e' he'; rw [List.mem_singleton.1 he']; rfl) (src_new W6 (refCells u) _) (fun e he v hv => by rw [List.mem_singleton.1 he] at hv; simp only [refCells, List.mem_cons, List.not_mem_nil, or_false] at hv; rcases hv with rfl | rfl <;> rfl) ?_ ?_ ?_)
      · have := HTL.out
        simp only [List.length_map, List.length_singleton]; omega
      · have := HB6.out.size
        have := HB.out.size
        simp; omega
      · intro ga gn gc w7 hrow hgrow _
        have hb : Below w4.heap.size w4 w7 := ((below_seq HB.out HB6.out).alloc (below_seq HB.out HB6.out).size _).grown hgrow (by have := (below_seq HB.out HB6.out).size; simp; omega) (fun k hk => (HR.out.lt k hk).1)
        have HRN := Lib.hid hrow
        have HBN := Lib.hid hb
        clear hrow hb hgrow
        go_wp2_with fail
        go_roundw
        case rel => exact ⟨j + 1, _, _, _, by go_num, by omega, rfl, Lib.hid (by rw [HQ.out, List.map_append]; exact HRN.out), HBN⟩
        case measure => simp [intOf]; omega
    · obtain rfl : om = j := by omega
      have HF : Hid (GRow 37 2 w.heap.size wr (.slice a m c) ((behE g r.s).map refCells)) := Lib.hid (by
        rw [HBE.out]
        have h := HR.out.mono (show w.heap.size ≤ w4.heap.size by have := HB4.out.size; have := HS2.out; omega)
        rw [List.take_of_length_le (by rw [HOM.out]; exact Nat.le_refl _)] at h
        exact h)
      go_wp2_with fail
      go_ret
      exact ⟨_, _, _, rfl, HF.out, below_seq HB2.out (below_seq HB4.out HB.out)⟩
end Go.Proofs.YtjmnaibbljakaaaGreatDoor

/- Equality, walks: slices.Equal of texts. -/
namespace Go.Proofs.YtjmnaibbljakaaaGreatDoor
open Go.RowKit Go.Deep Go.Shelf

theorem take_ne {α : Type} {l m : List α} {j : Nat} {a b : α} (ha : l[j]? = some a) (hb : m[j]? = some b) (hab : a ≠ b) : l ≠ m := fun e => by
  subst e
  exact hab (Option.some.inj (ha.symm.trans hb))
theorem take_eq {α : Type} {l m : List α} {j : Nat} {a : α} (h : l.take j = m.take j) (ha : l[j]? = some a) (hb : m[j]? = some a) : l.take (j + 1) = m.take (j + 1) := by
  rw [take_snoc_get ha, take_snoc_get hb, h]
set_option maxHeartbeats 2000000 in
set_option maxRecDepth 100000 in
theorem eqStr_any (ls ms : List ByteArray) (v u : Value) (w : World) (hv : StrSl (fun k => k < w.heap.size) w v ls) (hu : StrSl (fun k => k < w.heap.size) w u ms) :
    Calls Tryz.prog 46 #[v, u] w fun e w' => e = .returned (.bool (decide (ls = ms))) ∧ Below w.heap.size w w' := by
  obtain ⟨pa, len, c, rfl, hlen, hm, hget⟩ := hv.open
  obtain ⟨qa, qn, qc, rfl, hqn, hqm, hqet⟩ := hu.open
  have HG := Lib.hid hget
  have HQ := Lib.hid hqet
  have HL := Lib.hid hlen.out
  have HN := Lib.hid hqn.out
  obtain ⟨z, hz⟩ : ∃ z, decide (ls = ms) = z := ⟨_, rfl⟩
  rw [hz]
  have HZ := Lib.hid hz
  clear hget hqet hlen hqn hv hu hz
  by_cases hln : len = qn
  · subst hln
    go_enter Tryz.func46, Tryz.ntmps46
    go_wp2_with fail
    go_loopw [13] (fun i wr => ∃ j : Nat, i = .int .i64 j ∧ j ≤ len ∧ Hid (ls.take j = ms.take j) ∧ Hid (Below w.heap.size w wr)) (fun i _ => len - (intOf i).toNat)
    case atStart => exact ⟨0, rfl, by omega, Lib.hid (by simp), Lib.hid (Below.refl _ _)⟩
    case round =>
      obtain ⟨j, rfl, hj, HT, HB⟩ := hrel
      by_cases hlt : j < len
      · obtain ⟨y, hy⟩ : ∃ y, ls[j]? = some y := ⟨_, List.getElem?_eq_getElem (by rw [← HL.out]; exact hlt)⟩
        obtain ⟨x, hx⟩ : ∃ x, ms[j]? = some x := ⟨_, List.getElem?_eq_getElem (by rw [← HN.out]; exact hlt)⟩
        obtain ⟨_, kb, ko, rfl, hkb, hc⟩ := HG.out j y hy
        obtain ⟨_, lb, lo, rfl, hlb, hd⟩ := HQ.out j x hx
        have y0 := (HB.out.cell (p := ⟨kb, ko + j, none⟩) hkb).trans hc
        have x0 := (HB.out.cell (p := ⟨lb, lo + j, none⟩) hlb).trans hd
        clear hc hd
        by_cases he : y = x
        · subst he
          have HT2 := Lib.hid (take_eq HT.out hy hx)
          clear hy hx
          go_upto_region 6 with fail
          go_quiet (fail)
          go_wp2_with fail
          go_roundw
          case rel => exact ⟨j + 1, by go_num, by omega, HT2, Lib.hid (below_drewN HB.out _)⟩
          case measure => simp [intOf]; omega
        · have HV : Hid (false = z) := Lib.hid (by rw [← HZ.out]; simpa using take_ne hy hx he)
          have h1 := str_ne he
          have h2 : (y.toList == x.toList) = false := by simpa using h1
          have h3 : (y.toList != x.toList) = true := by simpa using h2
          clear hy hx he
          go_upto_region 6 with fail
          go_quiet (fail)
          go_wp2_with fail
          go_ret
          exact ⟨by rw [← HV.out]; rfl, below_drewN HB.out _⟩
      · obtain rfl : len = j := by omega
        have HV : Hid (true = z) := Lib.hid (by
          rw [← HZ.out]
          have h := HT.out
          rw [List.take_of_length_le (by rw [HL.out]; exact Nat.le_refl _), List.take_of_length_le (by rw [HN.out]; exact Nat.le_refl _)] at h
          simpa using h)
        go_wp2_with fail
        go_ret
        exact ⟨by rw [← HV.out]; rfl, HB.out⟩
  · have HV : Hid (false = z) := Lib.hid (by
      rw [← HZ.out]
      have : ls ≠ ms := fun e => hln (by rw [HL.out, HN.out, e])
      simpa using this)
    have h1 : ((len : Int) == (qn : Int)) = false := by simp; omega
    have h2 : ((len : Int) != (qn : Int)) = true := by simp; omega
    go_enter Tryz.func46, Tryz.ntmps46
    go_wp2_with fail
    go_ret
    exact ⟨by rw [← HV.out]; rfl, Below.refl _ _⟩
end Go.Proofs.YtjmnaibbljakaaaGreatDoor

/- Equality, walks: what compare leans on. -/
namespace Go.Proofs.YtjmnaibbljakaaaGreatDoor
open Go.RowKit Go.Deep Go.Shelf

abbrev pairC (p : GRef × GRef) : List Value := [.int .i64 (p.1.n : Int), .int .i64 p.1.s, .int .i64 (p.2.n : Int), .int .i64 p.2.s]
theorem pairElem : ElemOf 85 84 4 := elemOf Tryz.underlying85 (z := .agg #[.int .i64 0, .int .i64 0, .int .i64 0, .int .i64 0]) (bytes := 32) (by kernel_rfl) (by decide) rfl (by decide)

/-! ### The program's graph as equality sees it -/
abbrev lgN (ns : List GNode) : LG := lgOf srtL ns
section
variable {ns : List GNode} {r : GRef} {g : GNode}
theorem lgN_kind (h : ns[r.n]? = some g) : (lgN ns).kind r.n = g.k := by simp [lgN, lgOf, h]
theorem lgN_labs (h : ns[r.n]? = some g) : (lgN ns).labs r.n = srtL g.ls := by simp [lgN, lgOf, h]
theorem lgN_beh (hG : EqG ns) (h : ns[r.n]? = some g) : (lgN ns).beh r = behE g r.s := by
  have hm := List.mem_of_getElem? h
  unfold LG.beh behE
  have : (lgN ns).ch r.n = chE srtL g := by simp [lgN, lgOf, h]
  rw [this, ch_ord g (hG.nd g hm) ((hG.ok g hm).lens)]
theorem lgN_prio (h : ns[r.n]? = some g) : (lgN ns).prio r.n = if actI g.k = true then some g.p else none := by simp [lgN, lgOf, h]
theorem lgN_ok (hG : EqG ns) : (lgN ns).Ok := lg_ok srtL_mem srtL_nil hG.ok
end
/-- Do the priorities fit? -/
def fitB (al : Bool) (g : GNode) (s : Int) (h : GNode) (t : Int) : Bool := al || decide (prE g s = prE h t)
theorem fits_iff {ns : List GNode} {al : Bool} {x y : GRef} {g h : GNode} (hx : ns[x.n]? = some g) (hy : ns[y.n]? = some h) : (lgN ns).fits al x y ↔ g.k = h.k ∧ fitB al g x.s h y.s = true := by
  unfold LG.fits LG.rp fitB prE
  rw [lgN_kind hx, lgN_kind hy, lgN_prio hx, lgN_prio hy]
  refine and_congr_right fun hk => ?_
  rw [← hk]
  cases al
  · cases actI g.k <;> simp
  · simp
theorem beh_bound {ns : List GNode} (hG : EqG ns) {g : GNode} (hg : g ∈ ns) {s : Int} {q : GRef} (h : q ∈ behE g s) : q.n < ns.length ∧ s - 1000000 ≤ q.s ∧ q.s ≤ s + 1000000 := by
  unfold behE at h
  obtain ⟨u, hu, rfl⟩ := List.mem_map.1 h
  obtain ⟨i, _, hi⟩ := List.mem_filterMap.1 hu
  have hm := List.mem_of_getElem? hi
  have h1 := hG.wf g hg u hm
  have h2 := (hG.sm g hg).2 u hm
  simp only [upG]
  exact ⟨h1, by omega, by omega⟩
theorem beh_length {ns : List GNode} (hG : EqG ns) {g : GNode} (hg : g ∈ ns) (s : Int) : (behE g s).length ≤ 1000 := by
  unfold behE
  rw [List.length_map]
  refine Nat.le_trans (List.length_filterMap_le _ _) ?_
  rw [ord_len g ((hG.ok g hg).lens)]
  exact hG.nx g hg
theorem zip_mem {α β : Type} {l : List α} {m : List β} (p : α × β) : p ∈ l.zip m ↔ ∃ i : Nat, l[i]? = some p.1 ∧ m[i]? = some p.2 := by
  constructor
  · intro h
    obtain ⟨i, hi⟩ := List.getElem?_of_mem h
    rw [List.getElem?_zip_eq_some] at hi
    exact ⟨i, hi⟩
  · rintro ⟨i, hi⟩
    exact List.mem_of_getElem? (i := i) (List.getElem?_zip_eq_some.2 hi)
theorem prE_bound {ns : List GNode} (hG : EqG ns) {g : GNode} (hg : g ∈ ns) : 0 ≤ g.p ∧ g.p ≤ 1000000 := (hG.sm g hg).1
end Go.Proofs.YtjmnaibbljakaaaGreatDoor

/- Equality, walks: compare. -/
namespace Go.Proofs.YtjmnaibbljakaaaGreatDoor
open Go.RowKit Go.Deep Go.Shelf

/-- The bounds of a reference that is to be compared. -/
def Bd (ns : List GNode) (k : Nat) (r : GRef) : Prop := r.n < ns.length ∧ -(10000000000 + (k : Int) * 1000000) ≤ r.s ∧ r.s ≤ 10000000000 + (k : Int) * 1000000
/-- Where a comparison stands, in memory. -/
structure CSt (ns : List GNode) (al : Bool) (x y : GRef) (mv ml : Nat) (todo : List (GRef × GRef)) (k : Nat) (G : List (GRef × GRef)) (V : Nat → Nat → Bool) (lead rank : Nat → Nat) (f : Nat → Option Nat) (wr : World) : Prop where
  cmp : CmpAt (lgN ns) al G todo x y
  lds : Leads G lead
  frs : Forest f lead rank
  gon : Gone V lead
  ldi : LeadIs wr ml f
  vis : VisIs wr mv k V
  cnt : k + leftU V lead ns.length ≤ 2 * ns.length
  len : todo.length ≤ 1 + k * 1000
  bnd : ∀ p ∈ todo, Bd ns k p.1 ∧ Bd ns k p.2
  low : ∀ m, m < ns.length → lead m < ns.length
section
variable {ns : List GNode} {al : Bool} {x y : GRef} {mv ml : Nat} {todo : List (GRef × GRef)} {k : Nat} {G : List (GRef × GRef)} {V : Nat → Nat → Bool} {lead rank : Nat → Nat} {f : Nat → Option Nat} {wr w' : World}
theorem CSt.to (h : CSt ns al x y mv ml todo k G V lead rank f wr) (h1 : w'.heap[mv]? = wr.heap[mv]?) (h2 : w'.heap[ml]? = wr.heap[ml]?) : CSt ns al x y mv ml todo k G V lead rank f w' :=
  ⟨h.cmp, h.lds, h.frs, h.gon, h.ldi.same h2, h.vis.same h1, h.cnt, h.len, h.bnd, h.low⟩
theorem CSt.start (hx : Bd ns 0 x) (hy : Bd ns 0 y) (hl : LeadIs wr ml (fun _ => none)) (hv : VisIs wr mv 0 (fun _ _ => false)) : CSt ns al x y mv ml [(x, y)] 0 [] (fun _ _ => false) id (fun _ => 0) (fun _ => none) wr :=
  ⟨CmpAt.start x y, Leads.start, Forest.start, Gone.start _, hl, hv, by have := leftU_le (fun _ _ => false) id ns.length; omega, by simp, fun p hp => (by rw [List.mem_singleton.1 hp]; exact ⟨hx, hy⟩), fun m hm => hm⟩
theorem Bd.more {r : GRef} {j : Nat} (h : Bd ns k r) (hj : k ≤ j) : Bd ns j r := by
  obtain ⟨h1, h2, h3⟩ := h
  refine ⟨h1, ?_, ?_⟩ <;> omega
/-- A pair is left out: its nodes were visited together. -/
theorem CSt.skip {p q : GRef} (h : CSt ns al x y mv ml (todo ++ [(p, q)]) k G V lead rank f wr) {f' : Nat → Option Nat} {rank' : Nat → Nat} (hf : (lgN ns).fits al p q) (hv : V (lead p.n) (lead q.n) = true)
    (h1 : Forest f' lead rank') (h2 : LeadIs w' ml f') (h3 : VisIs w' mv k V) : CSt ns al x y mv ml todo k G V lead rank' f' w' := by
  have hl : lead p.n = lead q.n := h.gon.skip (h.frs.idem _) hv
  exact ⟨h.cmp.skip hf ((h.lds _ _).1 hl), h.lds, h1, h.gon, h2, h3, h.cnt, by have := h.len; simp at this; omega, fun r hr => h.bnd r (List.mem_append_left _ hr), h.low⟩
/-- A pair is taken to be equal; its steps are put on the list. -/
theorem CSt.go (hG : EqG ns) {p q : GRef} (h : CSt ns al x y mv ml (todo ++ [(p, q)]) k G V lead rank f wr) {f' : Nat → Option Nat} {rank' : Nat → Nat} (hc : (lgN ns).comp al p q) (hv : V (lead p.n) (lead q.n) = false) {gp gq : GNode} (hp : ns[p.n]? = some gp) (hq : ns[q.n]? = some gq)
    (h1 : Forest f' (leadTo lead (lead p.n) (lead q.n)) rank') (h2 : LeadIs w' ml f') (h3 : VisIs w' mv (k + 1) (setV V (lead p.n) (lead q.n))) :
    CSt ns al x y mv ml (todo ++ (behE gp p.s).zip (behE gq q.s)) (k + 1) (G ++ [(p, q)]) (setV V (lead p.n) (lead q.n)) (leadTo lead (lead p.n) (lead q.n)) rank' f' w' := by
  have hpm := List.mem_of_getElem? hp
  have hqm := List.mem_of_getElem? hq
  obtain ⟨hbp, hbq⟩ := h.bnd (p, q) (by simp)
  have hlp : lead p.n < ns.length := h.low _ hbp.1
  refine ⟨h.cmp.go hc (fun r => by rw [lgN_beh hG hp, lgN_beh hG hq]; exact zip_mem r), h.lds.join h.frs.idem p q, h1, h.gon.go (h.frs.idem _) (h.frs.idem _), h2, h3, ?_, ?_, fun r hr => ?_, fun m hm => ?_⟩
  · have h4 := leftU_go (h.frs.idem p.n) (h.frs.idem q.n) hv hlp
    have := h.cnt
    omega
  · have h4 := h.len
    have h5 := beh_length hG hpm p.s
    simp only [List.length_append, List.length_singleton, List.length_zip] at h4 ⊢
    omega
  · rcases List.mem_append.1 hr with hr | hr
    · obtain ⟨a, b⟩ := h.bnd r (List.mem_append_left _ hr)
      exact ⟨a.more (by omega), b.more (by omega)⟩
    · obtain ⟨i, h6, h7⟩ := (zip_mem r).1 hr
      obtain ⟨a1, a2, a3⟩ := beh_bound hG hpm (List.mem_of_getElem? h6)
      obtain ⟨b1, b2, b3⟩ := beh_bound hG hqm (List.mem_of_getElem? h7)
      obtain ⟨_, p2, p3⟩ := hbp
      obtain ⟨_, q2, q3⟩ := hbq
      simp only at p2 p3 q2 q3
      refine ⟨⟨a1, ?_, ?_⟩, ⟨b1, ?_, ?_⟩⟩ <;> push_cast <;> omega
  · unfold leadTo
    split
    · exact h.low _ hbq.1
    · exact h.low _ hm
end
end Go.Proofs.YtjmnaibbljakaaaGreatDoor
