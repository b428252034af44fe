/- Types: the reference's Right. -/
import Derived.Test.YtjmnaibbljakaaaGreatDoorTyOd
namespace Go.Proofs.YtjmnaibbljakaaaGreatDoor
open Go.RowKit

set_option maxHeartbeats 1000000 in
theorem rright_any (B : Nat → Prop) (t : Ty) (v : Value) (w : World) (hsz : t.size ≤ 1000000) (hB : Low B w) (hv : TyVal B w v t) :
    Calls Tryz.prog 22 #[v] w fun e w' => e = .returned (.int .i64 (rightE t)) ∧ Below w.heap.size w w' := by
  have hds := t.depth_le_size
  have HDp := Lib.hid (fun W (hW : Below w.heap.size w W) => rdepth_any B t (by omega) v W (hB.le hW.size) (hv.keep (hW.keeps'.mono hB)))
  have HSz := Lib.hid (fun W (hW : Below w.heap.size w W) => rsize_any B t hsz v W (hB.le hW.size) (hv.keep (hW.keeps'.mono hB)))
  have HNd := Lib.hid (fun W (hW : Below w.heap.size w W) (hd : t.depth ≤ 100) => rnode_any t B [] 0 false v (.slice none 0 0) W (hB.le hW.size) (hv.keep (hW.keeps'.mono hB)) ⟨.inl ⟨⟨_, _, rfl⟩, rfl⟩, by simp [maxLen], fun s hs => by cases hs⟩ (by simp; omega))
  rw [rightE_eq]
  obtain ⟨lv, kv, rfl, hn, hl, hk⟩ := hv
  obtain ⟨pa, len, c, rfl, hlen, hm, hget⟩ := hk.open
  obtain ⟨la, ln, lc, rfl, hlln, hlm, hlget⟩ := hl.open
  obtain ⟨d, hd⟩ : ∃ d, t.depth = d := ⟨_, rfl⟩
  obtain ⟨z, hz⟩ : ∃ z, t.size = z := ⟨_, rfl⟩
  have HL1 : Hid (100 < d → t.large = true) := Lib.hid (fun h => by simp [Ty.large]; omega)
  have HL2 : Hid (10000 < z → t.large = true) := Lib.hid (fun h => by simp [Ty.large]; omega)
  have HL3 : Hid (¬ 100 < d → ¬ 10000 < z → t.large = false) := Lib.hid (fun h h' => by simp [Ty.large]; omega)
  rw [hd] at HDp HNd hds
  rw [hz] at HSz hsz hds
  clear hget hlget hl hk hlen hlln hn hd hz hB
  have b0 := blkBelow w #[.int .i64 t.k, .int .i64 t.p, .string t.n, .int .i64 t.s, .slice la ln lc, .slice pa len c] 25
  have HB0 := Lib.hid b0
  clear b0
  by_cases h1 : 100 < d
  · have h1' : decide ((100 : Int) < (d : Int)) = true := by simp; omega
    rw [HL1.out h1, if_pos rfl]
    go_enter Tryz.func22, Tryz.ntmps22
    go_wp2_with (go_at_call 38; refine (HDp.out _ HB0.out).mono ?_; rintro e w2 ⟨rfl, hb2⟩; obtain ⟨hcl, hfz⟩ := bcell hb2)
    go_ret
    exact ⟨rfl, below_seq HB0.out hb2⟩
  · have h1' : decide ((100 : Int) < (d : Int)) = false := by simp; omega
    by_cases h2 : 10000 < z
    · have h2' : decide ((10000 : Int) < (z : Int)) = true := by simp; omega
      rw [HL2.out h2, if_pos rfl]
      go_enter Tryz.func22, Tryz.ntmps22
      go_wp2_with (first | (go_at_call 38; refine (HDp.out _ HB0.out).mono ?_; rintro e w2 ⟨rfl, hb2⟩; obtain ⟨hcl, hfz⟩ := bcell hb2) | (go_at_call 39; refine (HSz.out _ (below_seq HB0.out hb2)).mono ?_; rintro e w3 ⟨rfl, hb3⟩; obtain ⟨hcl3, hfz3⟩ := bcell (below_seq hb2 hb3)))
      go_ret
      exact ⟨rfl, below_seq HB0.out (below_seq hb2 hb3)⟩
    · have h2' : decide ((10000 : Int) < (z : Int)) = false := by simp; omega
      rw [HL3.out h1 h2, if_neg (by decide)]
      go_enter Tryz.func22, Tryz.ntmps22
      go_wp2_with (first | (go_at_call 38; refine (HDp.out _ HB0.out).mono ?_; rintro e w2 ⟨rfl, hb2⟩; obtain ⟨hcl, hfz⟩ := bcell hb2) | (go_at_call 39; refine (HSz.out _ (below_seq HB0.out hb2)).mono ?_; rintro e w3 ⟨rfl, hb3⟩; obtain ⟨hcl3, hfz3⟩ := bcell (below_seq hb2 hb3)) | (go_at_call 40; refine (HNd.out _ (below_seq HB0.out (below_seq hb2 hb3)) (by omega)).mono ?_; rintro e w4 ⟨rfl, hb4⟩))
      go_ret
      exact ⟨rfl, below_seq HB0.out (below_seq hb2 (below_seq hb3 hb4))⟩

end Go.Proofs.YtjmnaibbljakaaaGreatDoor
