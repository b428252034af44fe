/- Types: the program's nodeError. -/
import Derived.Test.YtfmadgoieppmkaaDoorTySe
namespace Go.Proofs.YtfmadgoieppmkaaDoor
open Go.RowKit

theorem mayStand_is (D bm : Nat) (S : Nat → Prop) (path : List Ty) (t : Ty) (kid : Int) (pa : Option Addr) (an ac b o : Nat) (m : Bool) (hm : mayStandB path kid t.k = m) (w : World) (hS : Low S w) (hr : RulesAt w bm) (har : ARow D S w (.slice pa an ac) path) (hf : ∀ u ∈ path, In64 u.k) (ht : TyAt S w t b o) (hlen : path.length ≤ 1000) :
    Calls Tryd.prog 84 #[.map (some bm), .agg #[.slice pa an ac, .int .i64 kid], .pointer (some ⟨b, o, none⟩)] w fun e w' => e = .returned (.bool m) ∧ Below w.heap.size w w' := by
  rw [← hm]; exact mayStand_any D bm S path t kid pa an ac b o w hS hr har hf ht hlen
theorem ARow.later {D : Nat} {S : Nat → Prop} {w W : World} {ar : Value} {path : List Ty} (h : ARow D S w ar path) (hS : Low S w) (hW : Below w.heap.size w W) : ARow D S W ar path := by
  refine h.kept (hW.keeps'.mono hS) (fun g o hg ho _ => (hW.block g ?_).trans ho)
  exact (Array.getElem?_eq_some_iff.1 ho).1

set_option maxRecDepth 100000 in
set_option maxHeartbeats 4000000 in
theorem nodeError_any (D bm E : Nat) (S : Nat → Prop) (path : List Ty) (t : Ty) (kid : Int) (pa : Option Addr) (an ac b o : Nat) (w : World) (hS : Low S w) (he : Env E w) (hr : RulesAt w bm) (har : ARow D S w (.slice pa an ac) path) (hf : ∀ u ∈ path, In64 u.k) (hk : In64 t.k) (ht : TyAt S w t b o) (hlen : path.length ≤ 1000) :
    Calls Tryd.prog 51 #[.map (some bm), .agg #[.slice pa an ac, .int .i64 kid], .pointer (some ⟨b, o, none⟩)] w fun e w' => e = .returned (.int .i64 (nodeErr path kid t)) ∧ Below w.heap.size w w' := by
  obtain ⟨hb', hn, ⟨c0, _, c2, _⟩, _⟩ := TyAt.eq.1 ht
  have hb := hS b hb'
  obtain ⟨f, hfs⟩ : ∃ f, t.shape = f := ⟨_, rfl⟩
  obtain ⟨m, hm⟩ : ∃ m, mayStandB path kid t.k = m := ⟨_, rfl⟩
  obtain ⟨kn, hkn⟩ : ∃ kn, knK t.k = kn := ⟨_, rfl⟩
  obtain ⟨a1, ha1⟩ : ∃ x, actB t.k = x := ⟨_, rfl⟩
  obtain ⟨a2, ha2⟩ : ∃ x, r2K t.k = x := ⟨_, rfl⟩
  obtain ⟨a3, ha3⟩ : ∃ x, r3K t.k = x := ⟨_, rfl⟩
  obtain ⟨a4, ha4⟩ : ∃ x, r4K t.k = x := ⟨_, rfl⟩
  obtain ⟨y1, hy1⟩ : ∃ x, kidsK t.k = x := ⟨_, rfl⟩
  obtain ⟨y2, hy2⟩ : ∃ x, paysK t.k = x := ⟨_, rfl⟩
  have hlk := RulesAt.look_ok (MapIs.below hr (blkBelow w #[.slice pa an ac, .int .i64 kid] 68) hr.lt) hk.1 hk.2
  simp only [ruleVal, hkn, ha1, ha2, ha3, ha4, hy1, hy2] at hlk
  have HF : Hid (kn = true → ∀ W, Below w.heap.size w W → Calls Tryd.prog 83 #[.agg #[.bool a1, .bool a2, .bool a3, .bool a4, .int .i64 y1, .int .i64 y2], .pointer (some ⟨b, o, none⟩)] W fun e w' => e = .returned (.bool f) ∧ Below W.heap.size W w') := Lib.hid (fun h W hW => by
    have hsh := fits_shape t (hkn.trans h)
    rw [ha1, ha2, ha3, ha4, hy1, hfs] at hsh
    rw [← hsh]
    exact fits_any S t b o a1 a2 a3 a4 y1 y2 E W (hS.le hW.size) (he.below (hW.mono he.size)) (ht.keep (hW.keeps'.mono hS)))
  have HM : Hid (∀ W, Below w.heap.size w W → Calls Tryd.prog 84 #[.map (some bm), .agg #[.slice pa an ac, .int .i64 kid], .pointer (some ⟨b, o, none⟩)] W fun e w' => e = .returned (.bool m) ∧ Below W.heap.size W w') := Lib.hid (fun W hW =>
    mayStand_is D bm S path t kid pa an ac b o m hm W (hS.le hW.size) (MapIs.below hr hW hr.lt) (har.later hS hW) hf (ht.keep (hW.keeps'.mono hS)) hlen)
  have HV : Hid (∀ W, Below w.heap.size w W → Calls Tryd.prog 85 #[.slice pa an ac, .string t.n] W fun e w' => e = .returned (.int .i64 (vErr t.n path.reverse false)) ∧ Below W.heap.size W w') := Lib.hid (fun W hW =>
    varError_any D S path t.n pa an ac W (hS.le hW.size) (har.later hS hW) hlen)
  have HU : Hid (kn = false → f = false) := Lib.hid (fun h => by rw [← hfs]; exact shape_unknown t (hkn.trans h))
  have HN : Hid (nodeErr path kid t = if f = false ∨ m = false then 3 else if t.k = 9 then vErr t.n path.reverse false else 0) := Lib.hid (by unfold nodeErr; rw [hfs, hm])
  rw [HN.out]
  obtain ⟨v, hv⟩ : ∃ v, vErr t.n path.reverse false = v := ⟨_, rfl⟩
  rw [hv] at HV ⊢
  obtain ⟨k, hkk⟩ : ∃ k, t.k = k := ⟨_, rfl⟩
  rw [hkk] at hlk c0 ⊢
  obtain ⟨s, hss⟩ : ∃ s, t.n = s := ⟨_, rfl⟩
  rw [hss] at HV c2
  clear hfs hm hkn ha1 ha2 ha3 ha4 hy1 hy2 hr har hf hk ht hv hkk hss HN hn
  have hbel := blkBelow w #[.slice pa an ac, .int .i64 kid] 68
  have HB0 := Lib.hid hbel
  clear hbel
  cases kn
  · rw [HU.out rfl, if_pos (.inl rfl)]
    go_enter Tryd.func51, Tryd.ntmps51
    go_wp2_with fail
    go_ret
    exact ⟨rfl, below_seq HB0.out (blkBelow _ _ _)⟩
  · have HF1 := Lib.hid (HF.out rfl)
    clear HF HU
    have HB1 : Hid (∀ o', Below w.heap.size w ((w.alloc (.cells #[.slice pa an ac, .int .i64 kid] 68)).alloc o')) := Lib.hid (fun o' => HB0.out.alloc (by simp) _)
    cases f
    · rw [if_pos (.inl rfl)]
      go_enter Tryd.func51, Tryd.ntmps51
      go_wp2_with (go_at_call 83; refine (HF1.out _ (HB1.out _)).mono ?_; rintro e w2 ⟨rfl, hb2⟩; obtain ⟨hcl, hfz⟩ := bcell hb2)
      go_ret
      exact ⟨rfl, below_seq (HB1.out _) hb2⟩
    · cases m
      · rw [if_pos (.inr rfl)]
        go_enter Tryd.func51, Tryd.ntmps51
        go_wp2_with (first | (go_at_call 83; refine (HF1.out _ (HB1.out _)).mono ?_; rintro e w2 ⟨rfl, hb2⟩; obtain ⟨hcl, hfz⟩ := bcell hb2) | (go_at_call 84; refine (HM.out _ (below_seq (HB1.out _) hb2)).mono ?_; rintro e w3 ⟨rfl, hb3⟩; obtain ⟨hcl3, hfz3⟩ := bcell (below_seq hb2 hb3)))
        go_ret
        exact ⟨rfl, below_seq (HB1.out _) (below_seq hb2 hb3)⟩
      · rw [if_neg (by decide)]
        by_cases h9 : k = 9
        · subst h9
          rw [if_pos rfl]
          go_enter Tryd.func51, Tryd.ntmps51
          go_wp2_with (first | (go_at_call 83; refine (HF1.out _ (HB1.out _)).mono ?_; rintro e w2 ⟨rfl, hb2⟩; obtain ⟨hcl, hfz⟩ := bcell hb2) | (go_at_call 84; refine (HM.out _ (below_seq (HB1.out _) hb2)).mono ?_; rintro e w3 ⟨rfl, hb3⟩; clear hcl hfz; have c3 := ((below_seq (HB1.out _) (below_seq hb2 hb3)).cell (p := ⟨b, o, none⟩) hb).trans c0))
          have hw3 : Below w.heap.size w w3 := below_seq (HB1.out _) (below_seq hb2 hb3)
          have hw4 := below_seq (blkBelow _ _ _) (below_seq hb2 hb3)
          have p1 : ∀ q : Later w3.heap.size w3, q.1.cell? ⟨w.heap.size, 0, none⟩ = some (.slice pa an ac) := fun q => (q.2.cell (p := ⟨w.heap.size, 0, none⟩) (by have := hw4.size; simp at this; simp; omega)).trans ((hw4.cell (p := ⟨w.heap.size, 0, none⟩) (by simp)).trans (blk_cell (Below.refl _ _) 0 rfl))
          have p2 : ∀ q : Later w3.heap.size w3, q.1.cell? ⟨b, o + 2, none⟩ = some (.string s) := fun q => (q.2.cell (p := ⟨b, _, none⟩) (by have := hw3.size; simp; omega)).trans ((hw3.cell (p := ⟨b, _, none⟩) hb).trans c2)
          clear c3
          refine wp_region_later w3.heap.size w3 (by kernel_rfl) (by kernel_rfl) (Below.refl _ _) ?_
          repeat (go_big_quiet_step ((go_at_call 85; exact later_call _ (Nat.le_refl _) (HV.out _ (hw3.trans (Below.mono (Subtype.property _) hw3.size))))))
          refine wpQuiet_nil ?_
          rintro _ ⟨⟨w5, hb5⟩, rfl⟩
          clear p1 p2
          go_wp2_with fail
          go_ret
          exact ⟨rfl, hw3.trans (hb5.mono hw3.size)⟩
        · have h9' : (k == 9) = false := by simpa using h9
          rw [if_neg h9]
          clear h9
          go_enter Tryd.func51, Tryd.ntmps51
          go_wp2_with (first | (go_at_call 83; refine (HF1.out _ (HB1.out _)).mono ?_; rintro e w2 ⟨rfl, hb2⟩; obtain ⟨hcl, hfz⟩ := bcell hb2) | (go_at_call 84; refine (HM.out _ (below_seq (HB1.out _) hb2)).mono ?_; rintro e w3 ⟨rfl, hb3⟩; clear hcl hfz; have c3 := ((below_seq (HB1.out _) (below_seq hb2 hb3)).cell (p := ⟨b, o, none⟩) hb).trans c0))
          go_ret
          exact ⟨rfl, below_seq (HB1.out _) (below_seq hb2 hb3)⟩

end Go.Proofs.YtfmadgoieppmkaaDoor
