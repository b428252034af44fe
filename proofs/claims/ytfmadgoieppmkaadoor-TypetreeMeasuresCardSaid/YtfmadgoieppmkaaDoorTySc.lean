/- Types: the program's mayStand. -/
import Derived.Test.YtfmadgoieppmkaaDoorTySb
namespace Go.Proofs.YtfmadgoieppmkaaDoor
open Go.RowKit

theorem ARow.ptr {D : Nat} {S : Nat → Prop} {W : World} {ar : Value} {path : List Ty} (h : ARow D S W ar path) {i : Nat} {u : Ty} (hi : path[i]? = some u) :
    ∃ g c b o, ar = .slice (some ⟨g, 0, none⟩) path.length c ∧ W.cell? ⟨g, i, none⟩ = some (.pointer (some ⟨b, o, none⟩)) ∧ TyAt S W u b o ∧ g < W.heap.size := by
  obtain ⟨ads, hl, hown, hat⟩ := h
  have hlt := (List.getElem?_eq_some_iff.1 hi).1
  obtain ⟨a, ha⟩ : ∃ a, ads[i]? = some a := ⟨_, List.getElem?_eq_getElem (by omega)⟩
  rcases hown.2 with ⟨_, h0⟩ | ⟨g, cap, cur, rfl, hb, hg, hnc, hcm, hcs, htake⟩
  · omega
  · refine ⟨g, cap, a.1, a.2, rfl, ?_, hat i a u ha hi, (Array.getElem?_eq_some_iff.1 hg).1⟩
    have hj : (ptrs ads)[i]? = some (.pointer (some ⟨a.1, a.2, none⟩)) := by simp [ptrs, ha]
    rw [← htake, List.getElem?_take] at hj
    have hx : cur.toList[i]? = some (.pointer (some ⟨a.1, a.2, none⟩)) := by
      split at hj
      · exact hj
      · cases hj
    simpa [World.cell?, hg] using hx
theorem ARow.len {D : Nat} {S : Nat → Prop} {W : World} {pa : Option Addr} {an ac : Nat} {path : List Ty} (h : ARow D S W (.slice pa an ac) path) : an = path.length := by
  obtain ⟨_, _, h2, _⟩ := h
  rcases h2.2 with ⟨h, h0⟩ | ⟨g, cap, cur, h, _⟩
  · simp only [Value.slice.injEq] at h; omega
  · simp only [Value.slice.injEq] at h; omega
/-- A number that a word holds. -/
def In64 (k : Int) : Prop := -9223372036854775808 ≤ k ∧ k ≤ 9223372036854775807
theorem sess_is (k p s : Int) (n : ByteArray) (lv kv : Value) (b : Bool) (h : sessK k = b) (w : World) :
    Calls Tryd.prog 20 #[.agg #[.int .i64 k, .int .i64 p, .string n, .int .i64 s, lv, kv]] w fun e w' => e = .returned (.bool b) ∧ Below w.heap.size w w' := by
  rw [← h]; exact tsession_any k p s n lv kv w

set_option maxHeartbeats 2000000 in
theorem mayStand_any (D bm : Nat) (S : Nat → Prop) (path : List Ty) (t : Ty) (kid : Int) (pa : Option Addr) (an ac b o : Nat) (w : World) (hS : Low S w) (hr : RulesAt w bm) (har : ARow D S w (.slice pa an ac) path) (hf : ∀ u ∈ path, In64 u.k) (ht : TyAt S w t b o) (hlen : path.length ≤ 1000) :
    Calls Tryd.prog 84 #[.map (some bm), .agg #[.slice pa an ac, .int .i64 kid], .pointer (some ⟨b, o, none⟩)] w fun e w' => e = .returned (.bool (mayStandB path kid t.k)) ∧ Below w.heap.size w w' := by
  obtain rfl := har.len
  obtain ⟨la, ln, lc, ka, kn, kc, ⟨c0, c1, c2, c3, c4, c5⟩, hval⟩ := ht.load'
  have hb := hS b (TyAt.eq.1 ht).1
  cases hs : sessK t.k with
  | true =>
    have HM : Hid (mayStandB path kid t.k = true) := Lib.hid (by unfold mayStandB; rw [hs]; rfl)
    have HS := Lib.hid (sess_is t.k t.p t.s t.n (.slice la ln lc) (.slice ka kn kc) true hs)
    rw [HM.out]
    clear hs hval har hf ht hr
    go_enter Tryd.func84, Tryd.ntmps84
    go_wp2_with (go_at_call 20; refine (HS.out _).mono ?_; rintro e w2 ⟨rfl, hb2⟩; obtain ⟨hcl, hfz⟩ := bcell hb2)
    go_ret
    exact ⟨rfl, below_seq (blkBelow w _ _) hb2⟩
  | false =>
    have HS := Lib.hid (sess_is t.k t.p t.s t.n (.slice la ln lc) (.slice ka kn kc) false hs)
    rcases List.eq_nil_or_concat path with rfl | ⟨l, u, hl⟩
    · have HM : Hid (mayStandB [] kid t.k = true) := Lib.hid (by unfold mayStandB; rw [hs]; rfl)
      rw [HM.out]
      clear hs hval har hf ht hr
      go_enter Tryd.func84, Tryd.ntmps84
      go_wp2_with (go_at_call 20; refine (HS.out _).mono ?_; rintro e w2 ⟨rfl, hb2⟩; obtain ⟨hcl, hfz⟩ := bcell hb2; have hq := hb2.size; simp only [World.size_alloc] at hq)
      go_ret
      exact ⟨rfl, below_seq (blkBelow w _ _) hb2⟩
    · rw [List.concat_eq_append] at hl
      obtain ⟨n, hn⟩ : ∃ n, path.length = n := ⟨_, rfl⟩
      have hn1 : 1 ≤ n := by rw [← hn, hl]; simp
      have hi : path[n - 1]? = some u := by
        have : n - 1 = l.length := by rw [← hn, hl]; simp
        rw [this, hl]; simp
      have hu := hf u (by rw [hl]; simp)
      obtain ⟨g, c, ub, uo, hpa, hgc, hut, hgl⟩ := har.ptr hi
      obtain ⟨hub, _, ⟨k0, _, _, _⟩, _⟩ := TyAt.eq.1 hut
      have hubl := hS ub hub
      simp only [Value.slice.injEq] at hpa
      obtain ⟨rfl, _, rfl⟩ := hpa
      have HM : Hid (mayStandB path kid t.k = decide (kid < paysK u.k)) := Lib.hid (by unfold mayStandB; rw [hs, hl]; simp)
      rw [HM.out]
      have hbm := hr.lt
      obtain ⟨y, hy⟩ : ∃ y, paysK u.k = y := ⟨_, rfl⟩
      have HR : Hid (∀ W, Below w.heap.size w W → (Instr.lookup 61 (.map (some bm)) (.int .i64 u.k) false).run Tryd.prog W = .ok (.agg #[.bool (actB u.k), .bool (r2K u.k), .bool (r3K u.k), .bool (r4K u.k), .int .i64 (kidsK u.k), .int .i64 y]) W) := Lib.hid (fun W hW => by rw [← hy]; exact RulesAt.look (MapIs.below hr hW hbm) hu.1 hu.2)
      rw [hy]
      clear hy
      obtain ⟨bb, hbb⟩ : ∃ bb, decide (kid < y) = bb := ⟨_, rfl⟩
      rw [hbb]
      have HBB := Lib.hid hbb
      have hfd : ∀ W : World, (Instr.field 107 (.agg #[.bool (actB u.k), .bool (r2K u.k), .bool (r3K u.k), .bool (r4K u.k), .int .i64 (kidsK u.k), .int .i64 y]) 5).run Tryd.prog W = .ok (.int .i64 y) W := fun _ => by kernel_rfl
      have hn0 : ((n : Int) == 0) = false := by simp; omega
      have hlen' : n ≤ 1000 := by omega
      rw [hn]
      have hnn : ((n : Int) - 1).toNat = n - 1 := by omega
      have hnlt : (n : Int) - 1 < n := by omega
      have hnge : (0 : Int) ≤ (n : Int) - 1 := by omega
      clear hs hval har hf ht hr HM hi hl hn hlen hbb
      go_enter Tryd.func84, Tryd.ntmps84
      go_wp2_with (go_at_call 20; refine (HS.out _).mono ?_; rintro e w2 ⟨rfl, hb2⟩; obtain ⟨hcl, hfz⟩ := bcell hb2; have hq := hb2.size; simp only [World.size_alloc] at hq)
      have hlow : Below w.heap.size w w2 := below_seq (blkBelow w _ _) hb2
      have p1 : ∀ q : Later w2.heap.size w2, q.1.cell? ⟨w.heap.size, 1, none⟩ = some (.int .i64 kid) := fun q => (q.2.cell (p := ⟨w.heap.size, 1, none⟩) (by simp; omega)).trans (blk_cell (hb2.mono (by simp)) 1 rfl)
      have p2 : ∀ q : Later w2.heap.size w2, q.1.cell? ⟨ub, uo, none⟩ = some (.int .i64 u.k) := fun q => (q.2.cell (p := ⟨ub, uo, none⟩) (by simp; omega)).trans ((hlow.cell (p := ⟨ub, uo, none⟩) hubl).trans k0)
      have p3 : ∀ q : Later w2.heap.size w2, (Instr.lookup 61 (.map (some bm)) (.int .i64 u.k) false).run Tryd.prog q.1 = .ok (.agg #[.bool (actB u.k), .bool (r2K u.k), .bool (r3K u.k), .bool (r4K u.k), .int .i64 (kidsK u.k), .int .i64 y]) q.1 := fun q => HR.out q.1 (hlow.trans (q.2.mono (by omega)))
      clear hcl hfz
      have hbb := HBB.out
      refine wp_region_later w2.heap.size w2 (by kernel_rfl) (by kernel_rfl) (Below.refl _ _) ?_
      repeat (go_big_quiet_step (fail))
      refine wpQuiet_nil ?_
      rintro _ ⟨⟨w5, hb5⟩, rfl⟩
      clear p1 p2 p3 hbb
      go_wp2_with fail
      go_ret
      exact ⟨rfl, hlow.trans (hb5.mono (by omega))⟩

end Go.Proofs.YtfmadgoieppmkaaDoor
