/- Types: the reference's walk over the nodes. -/
import Derived.Test.YtjmnaibbljakaaaGreatDoorTyPa
namespace Go.Proofs.YtjmnaibbljakaaaGreatDoor
open Go.RowKit

def NodeAt (t : Ty) : Prop := ∀ (B : Nat → Prop) (names : List ByteArray) (g : Nat) (se : Bool) (v nv : Value) (w : World), Low B w → TyVal B w v t → StrSl B w nv names → names.length + t.depth ≤ 1000 →
  Calls Tryz.prog 40 #[v, nv, .int .i64 g, .bool se] w fun e w' => e = .returned (.int .i64 (nodeR names g se t)) ∧ Below w.heap.size w w'

theorem rsess_is (k p s : Int) (n : ByteArray) (lv kv : Value) (b : Bool) (h : sessK k = b) (w : World) :
    Calls Tryz.prog 59 #[.agg #[.int .i64 k, .int .i64 p, .string n, .int .i64 s, lv, kv]] w fun e w' => e = .returned (.bool b) ∧ Below w.heap.size w w' := by
  rw [← h]; exact rsession_any k p s n lv kv w

set_option maxHeartbeats 2000000 in
set_option maxRecDepth 100000 in
theorem rnode_bad (B : Nat → Prop) (k p s : Int) (n : ByteArray) (lv kv nv : Value) (g : Nat) (se : Bool) (ls : List ByteArray) (ts : List Ty) (hn : n.size ≤ maxLen) (w : World) (hB : Low B w) (hl : StrSl B w lv ls) (hkv : TySl B w kv ts)
    (hbad : shapeC k p s n ls ts.length = false ∨ (se = true ∧ sessK k = false)) :
    Calls Tryz.prog 40 #[.agg #[.int .i64 k, .int .i64 p, .string n, .int .i64 s, lv, kv], nv, .int .i64 g, .bool se] w fun e w' => e = .returned (.int .i64 3) ∧ Below w.heap.size w w' := by
  obtain ⟨sh, hsh⟩ : ∃ b, shapeC k p s n ls ts.length = b := ⟨_, rfl⟩
  obtain ⟨sb, hsb⟩ : ∃ b, sessK k = b := ⟨_, rfl⟩
  have hS : ∀ W, Below w.heap.size w W → Calls Tryz.prog 58 #[.agg #[.int .i64 k, .int .i64 p, .string n, .int .i64 s, lv, kv]] W fun e w' => e = .returned (.bool sh) ∧ Below W.heap.size W w' := fun W hW => by
    rw [← hsh]; exact rshape_any B k p s n lv kv ls ts hn W (hB.le hW.size) (hl.keep (hW.keeps'.mono hB)) (hkv.keep (hW.keeps'.mono hB))
  have HS := Lib.hid hS
  have HN := Lib.hid (rsess_is k p s n lv kv sb hsb)
  obtain ⟨pa, len, c, rfl, hlen, hm, hget⟩ := hkv.open
  obtain ⟨la, ln, lc, rfl, hlln, hlm, hlget⟩ := hl.open
  rw [hsh, hsb] at hbad
  clear hget hlget hl hkv hS hn hlen hlln
  cases sh with
  | false =>
    go_enter Tryz.func40, Tryz.ntmps40
    go_wp2_with (go_at_call 58; refine (HS.out _ (blkBelow w _ _)).mono ?_; rintro e w2 ⟨rfl, hb2⟩; obtain ⟨hcl, hfz⟩ := bcell hb2)
    go_ret
    exact ⟨rfl, below_seq (blkBelow w _ _) hb2⟩
  | true =>
    obtain ⟨rfl, rfl⟩ : se = true ∧ sb = false := by simpa using hbad
    go_enter Tryz.func40, Tryz.ntmps40
    go_wp2_with (first | (go_at_call 58; refine (HS.out _ (blkBelow w _ _)).mono ?_; rintro e w2 ⟨rfl, hb2⟩; obtain ⟨hcl, hfz⟩ := bcell hb2) | (go_at_call 59; refine (HN.out _).mono ?_; rintro e w3 ⟨rfl, hb3⟩))
    go_ret
    exact ⟨rfl, below_seq (blkBelow w _ _) (below_seq hb2 hb3)⟩

set_option maxHeartbeats 2000000 in
set_option maxRecDepth 100000 in
theorem rnode_var (B : Nat → Prop) (k p s : Int) (n : ByteArray) (lv kv nv : Value) (names : List ByteArray) (g : Nat) (se : Bool) (ls : List ByteArray) (ts : List Ty) (hn : n.size ≤ maxLen) (w : World) (hB : Low B w) (hl : StrSl B w lv ls) (hkv : TySl B w kv ts) (hnv : StrSl B w nv names)
    (hk : k = 9) (hs : shapeC k p s n ls ts.length = true) :
    Calls Tryz.prog 40 #[.agg #[.int .i64 k, .int .i64 p, .string n, .int .i64 s, lv, kv], nv, .int .i64 g, .bool se] w fun e w' => e = .returned (.int .i64 (varR names g n)) ∧ Below w.heap.size w w' := by
  subst hk
  have hS : ∀ W, Below w.heap.size w W → Calls Tryz.prog 58 #[.agg #[.int .i64 9, .int .i64 p, .string n, .int .i64 s, lv, kv]] W fun e w' => e = .returned (.bool true) ∧ Below W.heap.size W w' := fun W hW => by
    rw [← hs]; exact rshape_any B 9 p s n lv kv ls ts hn W (hB.le hW.size) (hl.keep (hW.keeps'.mono hB)) (hkv.keep (hW.keeps'.mono hB))
  have HS := Lib.hid hS
  have HN := Lib.hid (rsess_is 9 p s n lv kv true rfl)
  obtain ⟨pa, len, c, rfl, hlen, hm, hget⟩ := hkv.open
  obtain ⟨la, ln, lc, rfl, hlln, hlm, hlget⟩ := hl.open
  obtain ⟨na, nn, nc, rfl, hnln, hnm, hnget⟩ := hnv.open
  have HG := Lib.hid hnget
  clear hget hlget hl hkv hS hlen hlln hs hnget hnv
  have HM := Lib.hid hnln.out
  generalize hT : 25 = T0
  cases se
  all_goals
    subst hT
    go_enter Tryz.func40, Tryz.ntmps40
    go_wp2_with (first | (go_at_call 58; refine (HS.out _ (blkBelow w _ _)).mono ?_; rintro e w2 ⟨rfl, hb2⟩; obtain ⟨hcl, hfz⟩ := bcell hb2) | (go_at_call 59; refine (HN.out _).mono ?_; rintro e w3 ⟨rfl, hb3⟩; obtain ⟨hcl3, hfz3⟩ := bcell (below_seq hb2 hb3)))
    clear HS HN hcl hfz
    try clear hcl3 hfz3
    go_loopw [9] (fun i wr => ∃ (j : Nat), i = .int .i64 ((j : Int) - 1) ∧ j ≤ nn ∧ Hid (vR names g n j = varR names g n) ∧ Below (w.heap.size + 1) (w.alloc (.cells #[.int .i64 9, .int .i64 p, .string n, .int .i64 s, .slice la ln lc, .slice pa len c] 25)) wr) (fun i _ => (intOf i + 1).toNat)
    case atStart => exact ⟨nn, rfl, by omega, Lib.hid (by unfold varR; rw [HM.out]), by first | (simpa using hb2) | (simpa using below_seq hb2 hb3)⟩
    case round =>
      obtain ⟨j, rfl, hj, HT, hb⟩ := hrel
      have c2 := blk_cell hb 2 rfl
      have hw := blk_below hb
      cases j with
      | zero =>
        go_wp2_with fail
        go_ret
        exact ⟨by rw [← HT.out]; rfl, hw⟩
      | succ j =>
        rw [show (((j + 1 : Nat) : Int) - 1) = (j : Int) by omega]
        obtain ⟨x, hx⟩ : ∃ x, names[j]? = some x := ⟨_, List.getElem?_eq_getElem (by rw [← hnln.out]; omega)⟩
        obtain ⟨_, kb, ko, rfl, hkb, hc⟩ := HG.out j x hx
        replace hc := (hw.cell (p := ⟨kb, ko + j, none⟩) (hB _ hkb)).trans hc
        by_cases he : x = n
        · subst he
          have HV := Lib.hid (HT.out.symm.trans (by rw [vR, hx, if_pos rfl]))
          clear hx
          by_cases hjg : j < g
          · rw [if_pos hjg] at HV
            go_wp2_with fail
            go_quiet (fail)
            go_wp2_with fail
            go_ret
            exact ⟨ret_int HV.out.symm, below_drewN hw _⟩
          · rw [if_neg hjg] at HV
            go_wp2_with fail
            go_quiet (fail)
            go_wp2_with fail
            go_ret
            exact ⟨ret_int HV.out.symm, below_drewN hw _⟩
        · have HV : Hid (vR names g n j = varR names g n) := Lib.hid (Eq.trans (by rw [vR, hx, if_neg (by simpa using he)]) HT.out)
          have h1 := str_ne he
          have h2 : (x.toList == n.toList) = false := by simpa using h1
          clear hx he
          go_wp2_with fail
          go_quiet (fail)
          go_wp2_with fail
          go_roundw
          case rel => exact ⟨j, rfl, by omega, HV, below_drewN hb _⟩
          case measure => (simp [intOf]) <;> omega

theorem kidsR_drop {names : List ByteArray} {g : Nat} {f : Bool} {ts : List Ty} {j : Nat} {t : Ty} (h : ts[j]? = some t) :
    kidsR names g f j (ts.drop j) = if nodeR names g (f || decide (0 < j)) t = 0 then kidsR names g f (j + 1) (ts.drop (j + 1)) else nodeR names g (f || decide (0 < j)) t := by
  have hj := (List.getElem?_eq_some_iff.1 h).1
  have e : ts.drop j = t :: ts.drop (j + 1) := by rw [List.drop_eq_getElem_cons hj]; congr 1; exact (List.getElem?_eq_some_iff.1 h).2
  rw [e, kidsR]
def box1 (w : World) (k p : Int) (n : ByteArray) (s : Int) (lv kv : Value) : World := w.alloc (.cells #[.int .i64 k, .int .i64 p, .string n, .int .i64 s, lv, kv] 25)
theorem box1_size (w : World) (k p : Int) (n : ByteArray) (s : Int) (lv kv : Value) : (box1 w k p n s lv kv).heap.size = w.heap.size + 1 := by simp [box1]

set_option maxHeartbeats 2000000 in
set_option maxRecDepth 100000 in
theorem rnode_kids (B : Nat → Prop) (k p s : Int) (n : ByteArray) (lv kv nv : Value) (names : List ByteArray) (g : Nat) (se : Bool) (ls : List ByteArray) (ts : List Ty) (hn : n.size ≤ maxLen) (w : World) (hB : Low B w) (hl : StrSl B w lv ls) (hkv : TySl B w kv ts) (hnv : StrSl B w nv names)
    (ih : ∀ t ∈ ts, NodeAt t) (hd : names.length + Ty.depths ts ≤ 1000) (hk : k ≠ 9 ∧ k ≠ 8) (hs : shapeC k p s n ls ts.length = true) (hse : se = true → sessK k = true) :
    Calls Tryz.prog 40 #[.agg #[.int .i64 k, .int .i64 p, .string n, .int .i64 s, lv, kv], nv, .int .i64 g, .bool se] w fun e w' => e = .returned (.int .i64 (kidsR names names.length (decide (5 < k)) 0 ts)) ∧ Below w.heap.size w w' := by
  have hS : ∀ W, Below w.heap.size w W → Calls Tryz.prog 58 #[.agg #[.int .i64 k, .int .i64 p, .string n, .int .i64 s, lv, kv]] W fun e w' => e = .returned (.bool true) ∧ Below W.heap.size W w' := fun W hW => by
    rw [← hs]; exact rshape_any B k p s n lv kv ls ts hn W (hB.le hW.size) (hl.keep (hW.keeps'.mono hB)) (hkv.keep (hW.keeps'.mono hB))
  have HS := Lib.hid hS
  obtain ⟨pa, len, c, rfl, hlen, hm, hget⟩ := hkv.open
  obtain ⟨la, ln, lc, rfl, hlln, hlm, hlget⟩ := hl.open
  have HNV := Lib.hid hnv
  have HIH := Lib.hid ih
  obtain ⟨na, nn, nc, rfl, hnln, hnm, hnget⟩ := hnv.open
  have HG := Lib.hid hget
  have HM := Lib.hid hnln.out
  obtain ⟨h9, h8⟩ := hk
  have e9 : (k == 9) = false := by simpa using h9
  have e8 : (k == 8) = false := by simpa using h8
  have HN := Lib.hid (fun h : se = true => rsess_is k p s n (.slice la ln lc) (.slice pa len c) true (hse h))
  have hd1 : nn ≤ 1000 := by rw [hnln.out]; omega
  have HD := Lib.hid hd
  clear hget hlget hl hkv hS hlln hs hnget hnv ih h9 h8 hn hse hd
  cases se
  all_goals
    go_enter Tryz.func40, Tryz.ntmps40
    go_wp2_with (first | (go_at_call 58; refine (HS.out _ (blkBelow w _ _)).mono ?_; rintro e w2 ⟨rfl, hb2⟩; obtain ⟨hcl, hfz⟩ := bcell hb2) | (go_at_call 59; refine (HN.out (by first | rfl | trivial) _).mono ?_; rintro e w3 ⟨rfl, hb3⟩; obtain ⟨hcl3, hfz3⟩ := bcell (below_seq hb2 hb3)))
    clear HS HN hcl hfz
    try clear hcl3 hfz3
    go_loopw [10] (fun i wr => ∃ (j : Nat), i = .int .i64 (j : Int) ∧ j ≤ len ∧ Hid (kidsR names names.length (decide (5 < k)) j (ts.drop j) = kidsR names names.length (decide (5 < k)) 0 ts) ∧ Below (w.heap.size + 1) (box1 w k p n s (.slice la ln lc) (.slice pa len c)) wr) (fun i _ => len - (intOf i).toNat)
    case atStart => exact ⟨0, rfl, by omega, Lib.hid rfl, by unfold box1; first | (simpa using hb2) | (simpa using below_seq hb2 hb3)⟩
    case round =>
      obtain ⟨j, rfl, hj, HT, hb⟩ := hrel
      have c5 := blk_cell hb 5 rfl
      have hw := blk_below hb
      by_cases hlt : j < len
      · obtain ⟨t, ht⟩ : ∃ t, ts[j]? = some t := ⟨_, List.getElem?_eq_getElem (by rw [← hlen.out]; exact hlt)⟩
        obtain ⟨kb, ko, rfl, hkb, hty⟩ := HG.out j t ht
        obtain ⟨la1, ln1, lc1, ka1, kn1, kc1, ⟨d0, d1, d2, d3, d4, d5⟩, hval⟩ := hty.load'
        obtain ⟨bb, hbb⟩ : ∃ bb, (decide (5 < k) || decide (0 < j)) = bb := ⟨_, rfl⟩
        obtain ⟨e0, he0⟩ : ∃ e0, nodeR names names.length bb t = e0 := ⟨_, rfl⟩
        have hstep := kidsR_drop (names := names) (g := names.length) (f := decide (5 < k)) ht
        rw [HT.out, hbb, he0] at hstep
        have IH : ∀ q : Later (w.heap.size + 1) (box1 w k p n s (.slice la ln lc) (.slice (some ⟨kb, ko, none⟩) len c)), Calls Tryz.prog 40 #[.agg #[.int .i64 t.k, .int .i64 t.p, .string t.n, .int .i64 t.s, .slice la1 ln1 lc1, .slice ka1 kn1 kc1], .slice na nn nc, .int .i64 nn, .bool bb] q.1 fun e w' => e = .returned (.int .i64 e0) ∧ Below q.1.heap.size q.1 w' := fun q => by
          have hq := blk_below q.2
          have := HIH.out t (List.mem_of_getElem? ht) B names nn bb _ _ q.1 (hB.le hq.size) (hval.keep (hq.keeps'.mono hB)) (HNV.out.keep (hq.keeps'.mono hB)) (by have := HD.out; have := Ty.depth_mem (List.mem_of_getElem? ht); omega)
          rw [HM.out, he0] at this
          rw [HM.out]; exact this
        have HI := Lib.hid IH
        have q5 : ∀ q : Later (w.heap.size + 1) (box1 w k p n s (.slice la ln lc) (.slice (some ⟨kb, ko, none⟩) len c)), q.1.cell? ⟨w.heap.size, 5, none⟩ = some (.slice (some ⟨kb, ko, none⟩) len c) := fun q => blk_cell q.2 5 rfl
        have q0 : ∀ q : Later (w.heap.size + 1) (box1 w k p n s (.slice la ln lc) (.slice (some ⟨kb, ko, none⟩) len c)), q.1.cell? ⟨w.heap.size, 0, none⟩ = some (.int .i64 k) := fun q => blk_cell q.2 0 rfl
        have p0 : ∀ q : Later (w.heap.size + 1) (box1 w k p n s (.slice la ln lc) (.slice (some ⟨kb, ko, none⟩) len c)), q.1.cell? ⟨kb, ko + j * 6, none⟩ = some (.int .i64 t.k) := fun q => ((blk_below q.2).cell (p := ⟨kb, _, none⟩) (hB _ hkb)).trans d0
        have p1 : ∀ q : Later (w.heap.size + 1) (box1 w k p n s (.slice la ln lc) (.slice (some ⟨kb, ko, none⟩) len c)), q.1.cell? ⟨kb, ko + j * 6 + 1, none⟩ = some (.int .i64 t.p) := fun q => ((blk_below q.2).cell (p := ⟨kb, _, none⟩) (hB _ hkb)).trans d1
        have p2 : ∀ q : Later (w.heap.size + 1) (box1 w k p n s (.slice la ln lc) (.slice (some ⟨kb, ko, none⟩) len c)), q.1.cell? ⟨kb, ko + j * 6 + 2, none⟩ = some (.string t.n) := fun q => ((blk_below q.2).cell (p := ⟨kb, _, none⟩) (hB _ hkb)).trans d2
        have p3 : ∀ q : Later (w.heap.size + 1) (box1 w k p n s (.slice la ln lc) (.slice (some ⟨kb, ko, none⟩) len c)), q.1.cell? ⟨kb, ko + j * 6 + 3, none⟩ = some (.int .i64 t.s) := fun q => ((blk_below q.2).cell (p := ⟨kb, _, none⟩) (hB _ hkb)).trans d3
        have p4 : ∀ q : Later (w.heap.size + 1) (box1 w k p n s (.slice la ln lc) (.slice (some ⟨kb, ko, none⟩) len c)), q.1.cell? ⟨kb, ko + j * 6 + 4, none⟩ = some (.slice la1 ln1 lc1) := fun q => ((blk_below q.2).cell (p := ⟨kb, _, none⟩) (hB _ hkb)).trans d4
        have p5 : ∀ q : Later (w.heap.size + 1) (box1 w k p n s (.slice la ln lc) (.slice (some ⟨kb, ko, none⟩) len c)), q.1.cell? ⟨kb, ko + j * 6 + 5, none⟩ = some (.slice ka1 kn1 kc1) := fun q => ((blk_below q.2).cell (p := ⟨kb, _, none⟩) (hB _ hkb)).trans d5
        have hkw := hB kb hkb
        have hj0 : (0 : Int) ≤ (j : Int) := by omega
        have hj1 : (j : Int) ≤ (len : Int) := by omega
        have HE := Lib.hid hstep
        clear d0 d1 d2 d3 d4 d5 hval hty IH he0 hstep ht
        have hsz1 : w.heap.size + 1 ≤ (box1 w k p n s (.slice la ln lc) (.slice (some ⟨kb, ko, none⟩) len c)).heap.size := by rw [box1_size]; omega
        by_cases hz : 0 < j
        · obtain rfl : bb = true := by rw [← hbb]; simp [hz]
          have hz' : decide ((0 : Int) < (j : Int)) = true := by simpa using hz
          clear hbb
          go_wp2_with fail
          refine wp_region_later (w.heap.size + 1) (box1 w k p n s (.slice la ln lc) (.slice (some ⟨kb, ko, none⟩) len c)) (by kernel_rfl) (by kernel_rfl) hb ?_
          repeat (go_big_quiet_step (first | (go_at_call 40; exact later_call _ hsz1 (HI.out _))))
          refine wpQuiet_nil ?_
          rintro _ ⟨⟨w5, hb5⟩, rfl⟩
          clear q0 q5 p0 p1 p2 p3 p4 p5 hj0 hj1 hz'
          by_cases h0 : e0 = 0
          · subst h0
            go_wp2_with fail
            go_roundw
            case rel => exact ⟨j + 1, by go_num, by omega, Lib.hid (by have := HE.out; rw [if_pos rfl] at this; exact this.symm), hb5⟩
            case measure => simp [intOf]; omega
          · have h1 : (e0 != 0) = true := by simpa using h0
            have HZ := Lib.hid h0
            clear h0
            go_wp2_with fail
            go_ret
            exact ⟨ret_int (by have := HE.out; rw [if_neg HZ.out] at this; exact this.symm), blk_below hb5⟩
        · have hz' : decide ((0 : Int) < (j : Int)) = false := by simp; omega
          have hbb' : decide (5 < k) = bb := by rw [← hbb]; simp [hz]
          have hz2 : decide (0 < j) = false := by simpa using hz
          clear hbb
          cases bb
          all_goals
            go_wp2_with fail
            refine wp_region_later (w.heap.size + 1) (box1 w k p n s (.slice la ln lc) (.slice (some ⟨kb, ko, none⟩) len c)) (by kernel_rfl) (by kernel_rfl) hb ?_
            repeat (go_big_quiet_step (first | (go_at_call 40; exact later_call _ hsz1 (HI.out _))))
            refine wpQuiet_nil ?_
            rintro _ ⟨⟨w5, hb5⟩, rfl⟩
            clear q0 q5 p0 p1 p2 p3 p4 p5 hj0 hj1 hz' hbb'
            by_cases h0 : e0 = 0
            · subst h0
              go_wp2_with fail
              go_roundw
              case rel => exact ⟨j + 1, by go_num, by omega, Lib.hid (by have := HE.out; rw [if_pos rfl] at this; exact this.symm), hb5⟩
              case measure => simp [intOf]; omega
            · have h1 : (e0 != 0) = true := by simpa using h0
              have HZ := Lib.hid h0
              clear h0
              go_wp2_with fail
              go_ret
              exact ⟨ret_int (by have := HE.out; rw [if_neg HZ.out] at this; exact this.symm), blk_below hb5⟩
      · obtain rfl : j = len := by omega
        go_wp2_with fail
        go_ret
        exact ⟨ret_int (by rw [← HT.out, List.drop_of_length_le (by rw [hlen.out]; exact Nat.le_refl _), kidsR]), hw⟩

end Go.Proofs.YtjmnaibbljakaaaGreatDoor
