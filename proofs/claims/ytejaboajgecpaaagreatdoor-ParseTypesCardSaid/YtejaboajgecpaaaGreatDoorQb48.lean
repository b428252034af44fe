/- Parsing: lemmas. -/
import Derived.Test.YtejaboajgecpaaaGreatDoorQb47
import Derived.Test.YtejaboajgecpaaaGreatDoorRows
import Derived.LaidLaws
import Derived.LaidMore
import Derived.MakeChecks
import Derived.OpenShut
import Derived.ChangeArms
import Derived.Stop.LaidErr
set_option maxHeartbeats 16000000
set_option maxRecDepth 100000
namespace Go.Proofs.YtejaboajgecpaaaGreatDoor
open Go.Lib (hid)
open Go.RowKit Go.Deep Go.Shelf
theorem rType_any (s : ByteArray) (r : List Tok.Item ⊕ (Int × Int)) (hr : Scans s r) (w : World) :
 Calls Tryz.prog 17 #[.string s] w (RRes w (wholeE fType Ty.tooBig s r) GTy (.agg #[.int .i64 0, .int .i64 0, .string ⟨#[]⟩, .int .i64 0, .slice none 0 0, .slice none 0 0])) :=
 rtype_any (fun R la all E f => sess_knot R la all E (fun g hS => rdlab_any R la all E g hS) f) s r hr w
theorem pfault_any (e p : Int) (w : World) : Calls Tryz.prog 12 #[.agg #[.int .i64 e, .int .i64 p]] w fun en w' => en = .returned (.agg #[.int .i64 e, .int .i64 p]) /\ Below w.heap.size w w' := by
 obtain ⟨W2, hW2⟩ := ex1 ((w.alloc (.cells #[.int .i64 e, .int .i64 p] 36)).alloc (.cells #[.int .i64 0, .int .i64 0] 42))
 have htw := two_new w #[.int .i64 e, .int .i64 p] #[.int .i64 0, .int .i64 0] 36 42
 rw [hW2] at htw
 have HT := hid htw
 have q1 := htw.1
 have c0 : W2.cell? ⟨w.heap.size, 0, none⟩ = some (.int .i64 e) := by simp only [World.cell?, q1]; rfl
 have c1 : W2.cell? ⟨w.heap.size, 1, none⟩ = some (.int .i64 p) := by simp only [World.cell?, q1]; rfl
 clear q1 htw
 go_enter Tryz.func12, Tryz.ntmps12
 go_upto_region 1 with fail
 have q2 := HT.out.2.1
 have z0 := frozen_of_block q2 0
 have z1 := frozen_of_block q2 1
 have e0 : W2.cell? ⟨w.heap.size + 1, 0, none⟩ = some (.int .i64 0) := by simp only [World.cell?, q2]; rfl
 have e1 : W2.cell? ⟨w.heap.size + 1, 1, none⟩ = some (.int .i64 0) := by simp only [World.cell?, q2]; rfl
 clear q2
 go_wp2_with fail
 have hx8 : ((W2.setCell ⟨w.heap.size + 1, 0, none⟩ (.int .i64 e)).setCell ⟨w.heap.size + 1, 1, none⟩ (.int .i64 p)).heap[w.heap.size + 1]? = some (.cells #[.int .i64 e, .int .i64 p] 42 (0, 0)) := set_block (set_block HT.out.2.1 0 _) 1 _
 have y0 : ((W2.setCell ⟨w.heap.size + 1, 0, none⟩ (.int .i64 e)).setCell ⟨w.heap.size + 1, 1, none⟩ (.int .i64 p)).cell? ⟨w.heap.size + 1, 0, none⟩ = some (.int .i64 e) := by simp only [World.cell?, hx8]; rfl
 have y1 : ((W2.setCell ⟨w.heap.size + 1, 0, none⟩ (.int .i64 e)).setCell ⟨w.heap.size + 1, 1, none⟩ (.int .i64 p)).cell? ⟨w.heap.size + 1, 1, none⟩ = some (.int .i64 p) := by simp only [World.cell?, hx8]; rfl
 refine bodyPost_ret (v := .agg #[.int .i64 e, .int .i64 p]) (by simp [results, Tryz.results12, go_sem, y0, y1]) rfl ?_
 exact ⟨rfl, (HT.out.2.2.setCell (p := ⟨w.heap.size + 1, 0, none⟩) (by show _ <= w.heap.size + 1; omega) _).setCell (p := ⟨w.heap.size + 1, 1, none⟩) (by show _ <= w.heap.size + 1; omega) _⟩
theorem GTy.to_ {b : Nat} {w w' : World} {t : Ty} {v : Value} (h : GTy b w t v) (hb : Below w.heap.size w w') : GTy b w' t v :=
 TyVal.mono (fun _ hk => ⟨hk.1, Nat.lt_of_lt_of_le hk.2 hb.size⟩) (TyVal.keep (w' := w') (fun k _ hk ho _ => (hb.block k hk.2).trans ho) h)
theorem ParseTypes_any (s : ByteArray) (hs : s.size <= maxLen) (B : Nat) (w : World) (he : Tok.Env B w) : Calls Tryz.prog 5 #[.string s] w fun e w' => e = .returned (.bool true) /\ Below w.heap.size w w' := by
 have HAW := hid (fun W (hW : Below w.heap.size w W) => pawake_any B W (tok_env he hW))
 have HE := hid (fun W (hW : Below w.heap.size w W) => tok_env he hW)
 have HB : Hid (Below w.heap.size w w) := hid (Below.refl _ _)
 have HZ := hid hs
 clear he
 by_cases h1 : s.size <= 3000
 case neg =>
  have d1 : decide ((3000 : Int) < (s.size : Int)) = true := by simp; omega
  by_cases h2 : s.size <= 65536
  case pos =>
   have d2 : decide ((s.size : Int) <= (65536 : Int)) = true := by simp; omega
   go_enter Tryz.func5, Tryz.ntmps5
   go_wp2_with (go_at_call 8; refine (HAW.out _ HB.out).mono ?_; rintro en wa ⟨rfl, hb⟩; replace HB := hid (below_seq HB.out hb); clear hb)
   go_ret
   exact ⟨rfl, HB.out⟩
  case neg =>
   have d2 : decide ((s.size : Int) <= (65536 : Int)) = false := by simp; omega
   clear h1
   obtain ⟨r, hr⟩ := scans_ex s
   have HT := hid (fun W (hW : Below w.heap.size w W) => pType_any s r hr B W (HE.out W hW))
   have HRT := hid (fun W => rType_any s r hr W)
   obtain ⟨q, hq⟩ := ex1 (wholeE fType Ty.tooBig s r)
   rw [hq] at HT HRT
   clear hq hr HE
   go_enter Tryz.func5, Tryz.ntmps5
   match q, HT, HRT with
   | .inl x, HT, HRT =>
    go_upto_region 4 with (first | (go_at_call 8; refine (HAW.out _ HB.out).mono ?_; rintro en wa ⟨rfl, hb⟩; replace HB := hid (below_seq HB.out hb); clear hb) | (go_at_call 16; refine (HT.out _ HB.out).mono ?_; rintro en w1 ⟨⟨_, rfl, hg⟩, hb⟩; obtain ⟨la, ln, lc, ka, kn, kc, rfl⟩ := hg.open; have HG := hid hg; replace HB := hid (below_seq HB.out hb); clear hb hg))
    obtain ⟨a1, ha1⟩ : ∃ a, w1.heap.size = a := ⟨_, rfl⟩
    have htw := two_new w1 #[.int .i64 x.k, .int .i64 x.p, .string x.n, .int .i64 x.s, .slice la ln lc, .slice ka kn kc] #[.int .i64 0, .int .i64 0] 28 36
    obtain ⟨W1, hW1⟩ : ∃ W, (w1.alloc (.cells #[.int .i64 x.k, .int .i64 x.p, .string x.n, .int .i64 x.s, .slice la ln lc, .slice ka kn kc] 28)).alloc (.cells #[.int .i64 0, .int .i64 0] 36) = W := ⟨_, rfl⟩
    rw [hW1, ha1] at htw
    rw [hW1]
    rw [ha1]
    have HG1 := hid ((HG.out).to_ (htw.2.2.mono (Nat.le_of_eq ha1)))
    replace HB := hid (below_seq HB.out (htw.2.2.mono (Nat.le_of_eq ha1)))
    clear ha1 hW1
    have HX1 := hid htw
    clear htw
    go_upto_region 5 with (go_at_call 17; refine (HRT.out _).mono ?_; rintro en w2 ⟨⟨_, rfl, hg⟩, hb⟩; obtain ⟨lb, mn, mc, kb, jn, jc, rfl⟩ := hg.open; have HG2 := hid hg; have HC2 := hid hb; replace HB := hid (below_seq HB.out hb); clear hb hg)
    obtain ⟨a2, ha2⟩ : ∃ a, w2.heap.size = a := ⟨_, rfl⟩
    obtain ⟨W2, hW2⟩ : ∃ W, w2.alloc (.cells #[.int .i64 x.k, .int .i64 x.p, .string x.n, .int .i64 x.s, .slice lb mn mc, .slice kb jn jc] 28) = W := ⟨_, rfl⟩
    have hb2 := (made hW2).1
    have x2 : W2.heap[a2]? = some (.cells #[.int .i64 x.k, .int .i64 x.p, .string x.n, .int .i64 x.s, .slice lb mn mc, .slice kb jn jc] 28 (0, 0)) := by rw [<- hW2, <- ha2]; exact World.alloc_heap_new _ _
    rw [hW2]
    rw [ha2]
    replace HB := hid (below_seq HB.out hb2)
    clear hW2 ha2
    have h12 := below_seq HC2.out hb2
    have q1 := (h12.block _ (Array.getElem?_eq_some_iff.1 HX1.out.1).1).trans HX1.out.1
    have q3 := (h12.block _ (Array.getElem?_eq_some_iff.1 HX1.out.2.1).1).trans HX1.out.2.1
    obtain ⟨⟨c0, c1, c2, c3, c4, c5⟩, -⟩ := c6 q1
    obtain ⟨⟨e0, e1, e2, e3, e4, e5⟩, -⟩ := c6 x2
    have f0 : W2.cell? ⟨a1 + 1, 0, none⟩ = some (.int .i64 (0)) := by simp only [World.cell?, q3]; rfl
    have f1 : W2.cell? ⟨a1 + 1, 1, none⟩ = some (.int .i64 (0)) := by simp only [World.cell?, q3]; rfl
    have l1 := HG1.out.to_ h12
    have l2 := HG2.out.to_ hb2
    have HS := hid (rsame_any (fun k => k < W2.heap.size) x _ _ _ W2 (fun _ h => h) (TyVal.mono (fun _ h => h.2) l1) (TyVal.mono (fun _ h => h.2) l2))
    rw [eqB_self] at HS
    clear l1 l2
    have HFA := hid (fun W => pfault_any 0 0 W)
    have HF0 := hid (fun W (hW : Below W2.heap.size W2 W) => And.intro ((hW.cell (p := ⟨a1 + 1, 0, none⟩) (gl q3)).trans f0) ((hW.cell (p := ⟨a1 + 1, 1, none⟩) (gl q3)).trans f1))
    clear q1 q3 x2 h12 hb2 f0 f1
    have heq := fun W a b => arr2_eq W a b
    go_wp2_with (first | (go_at_call 18; refine HS.out.mono ?_; rintro en w3 ⟨rfl, hb⟩; obtain ⟨f0, f1⟩ := HF0.out _ hb; replace HB := hid (below_seq HB.out hb); clear hb) | (go_at_call 12; refine (HFA.out _).mono ?_; rintro en w4 ⟨rfl, hb⟩; replace HB := hid (below_seq HB.out hb); clear hb))
    go_ret
    exact ⟨rfl, HB.out⟩
   | .inr (er, p), HT, HRT =>
    go_upto_region 4 with (first | (go_at_call 8; refine (HAW.out _ HB.out).mono ?_; rintro en wa ⟨rfl, hb⟩; replace HB := hid (below_seq HB.out hb); clear hb) | (go_at_call 16; refine (HT.out _ HB.out).mono ?_; rintro en w1 ⟨rfl, hb⟩; replace HB := hid (below_seq HB.out hb); clear hb))
    obtain ⟨a1, ha1⟩ : ∃ a, w1.heap.size = a := ⟨_, rfl⟩
    have htw := two_new w1 #[.int .i64 0, .int .i64 0, .string ⟨#[]⟩, .int .i64 0, .slice none 0 0, .slice none 0 0] #[.int .i64 er, .int .i64 p] 28 36
    obtain ⟨W1, hW1⟩ : ∃ W, (w1.alloc (.cells z6 28)).alloc (.cells #[.int .i64 er, .int .i64 p] 36) = W := ⟨_, rfl⟩
    rw [hW1, ha1] at htw
    rw [hW1]
    rw [ha1]
    replace HB := hid (below_seq HB.out (htw.2.2.mono (Nat.le_of_eq ha1)))
    clear ha1 hW1
    have HX1 := hid htw
    clear htw
    go_upto_region 5 with (go_at_call 17; refine (HRT.out _).mono ?_; rintro en w2 ⟨rfl, hb⟩; have HC2 := hid hb; replace HB := hid (below_seq HB.out hb); clear hb)
    obtain ⟨a2, ha2⟩ : ∃ a, w2.heap.size = a := ⟨_, rfl⟩
    obtain ⟨W2, hW2⟩ : ∃ W, w2.alloc (.cells z6 28) = W := ⟨_, rfl⟩
    have hb2 := (made hW2).1
    have x2 : W2.heap[a2]? = some (.cells z6 28 (0, 0)) := by rw [<- hW2, <- ha2]; exact World.alloc_heap_new _ _
    rw [hW2]
    rw [ha2]
    replace HB := hid (below_seq HB.out hb2)
    clear hW2 ha2
    have h12 := below_seq HC2.out hb2
    have q1 := (h12.block _ (Array.getElem?_eq_some_iff.1 HX1.out.1).1).trans HX1.out.1
    have q3 := (h12.block _ (Array.getElem?_eq_some_iff.1 HX1.out.2.1).1).trans HX1.out.2.1
    obtain ⟨⟨c0, c1, c2, c3, c4, c5⟩, -⟩ := c6 q1
    obtain ⟨⟨e0, e1, e2, e3, e4, e5⟩, -⟩ := c6 x2
    have f0 : W2.cell? ⟨a1 + 1, 0, none⟩ = some (.int .i64 er) := by simp only [World.cell?, q3]; rfl
    have f1 : W2.cell? ⟨a1 + 1, 1, none⟩ = some (.int .i64 p) := by simp only [World.cell?, q3]; rfl
    have HS := hid (rsame_any (fun k => k < W2.heap.size) (lfT 0) _ _ _ W2 (fun _ h => h) (TyVal.mono (fun _ h => h.2) (GTy.leaf 0 W2 0 0 0 ⟨#[]⟩ (Nat.zero_le _))) (TyVal.mono (fun _ h => h.2) (GTy.leaf 0 W2 0 0 0 ⟨#[]⟩ (Nat.zero_le _))))
    rw [eqB_self] at HS
    have HFA := hid (fun W => pfault_any er p W)
    have HF0 := hid (fun W (hW : Below W2.heap.size W2 W) => And.intro ((hW.cell (p := ⟨a1 + 1, 0, none⟩) (gl q3)).trans f0) ((hW.cell (p := ⟨a1 + 1, 1, none⟩) (gl q3)).trans f1))
    clear q1 q3 x2 h12 hb2 f0 f1
    have heq := fun W a b => arr2_eq W a b
    go_wp2_with (first | (go_at_call 18; refine HS.out.mono ?_; rintro en w3 ⟨rfl, hb⟩; obtain ⟨f0, f1⟩ := HF0.out _ hb; replace HB := hid (below_seq HB.out hb); clear hb) | (go_at_call 12; refine (HFA.out _).mono ?_; rintro en w4 ⟨rfl, hb⟩; replace HB := hid (below_seq HB.out hb); clear hb))
    go_ret
    exact ⟨rfl, HB.out⟩
 case pos =>
  have d1 : decide ((3000 : Int) < (s.size : Int)) = false := by simp; omega
  clear h1
  obtain ⟨r, hr⟩ := scans_ex s
  have HT := hid (fun W (hW : Below w.heap.size w W) => pType_any s r hr B W (HE.out W hW))
  have HRT := hid (fun W => rType_any s r hr W)
  obtain ⟨q, hq⟩ := ex1 (wholeE fType Ty.tooBig s r)
  rw [hq] at HT HRT
  clear hq hr HE
  go_enter Tryz.func5, Tryz.ntmps5
  match q, HT, HRT with
  | .inl x, HT, HRT =>
   go_upto_region 4 with (first | (go_at_call 8; refine (HAW.out _ HB.out).mono ?_; rintro en wa ⟨rfl, hb⟩; replace HB := hid (below_seq HB.out hb); clear hb) | (go_at_call 16; refine (HT.out _ HB.out).mono ?_; rintro en w1 ⟨⟨_, rfl, hg⟩, hb⟩; obtain ⟨la, ln, lc, ka, kn, kc, rfl⟩ := hg.open; have HG := hid hg; replace HB := hid (below_seq HB.out hb); clear hb hg))
   obtain ⟨a1, ha1⟩ : ∃ a, w1.heap.size = a := ⟨_, rfl⟩
   have htw := two_new w1 #[.int .i64 x.k, .int .i64 x.p, .string x.n, .int .i64 x.s, .slice la ln lc, .slice ka kn kc] #[.int .i64 0, .int .i64 0] 28 36
   obtain ⟨W1, hW1⟩ : ∃ W, (w1.alloc (.cells #[.int .i64 x.k, .int .i64 x.p, .string x.n, .int .i64 x.s, .slice la ln lc, .slice ka kn kc] 28)).alloc (.cells #[.int .i64 0, .int .i64 0] 36) = W := ⟨_, rfl⟩
   rw [hW1, ha1] at htw
   rw [hW1]
   rw [ha1]
   have HG1 := hid ((HG.out).to_ (htw.2.2.mono (Nat.le_of_eq ha1)))
   replace HB := hid (below_seq HB.out (htw.2.2.mono (Nat.le_of_eq ha1)))
   clear ha1 hW1
   have HX1 := hid htw
   clear htw
   go_upto_region 5 with (go_at_call 17; refine (HRT.out _).mono ?_; rintro en w2 ⟨⟨_, rfl, hg⟩, hb⟩; obtain ⟨lb, mn, mc, kb, jn, jc, rfl⟩ := hg.open; have HG2 := hid hg; have HC2 := hid hb; replace HB := hid (below_seq HB.out hb); clear hb hg)
   obtain ⟨a2, ha2⟩ : ∃ a, w2.heap.size = a := ⟨_, rfl⟩
   obtain ⟨W2, hW2⟩ : ∃ W, w2.alloc (.cells #[.int .i64 x.k, .int .i64 x.p, .string x.n, .int .i64 x.s, .slice lb mn mc, .slice kb jn jc] 28) = W := ⟨_, rfl⟩
   have hb2 := (made hW2).1
   have x2 : W2.heap[a2]? = some (.cells #[.int .i64 x.k, .int .i64 x.p, .string x.n, .int .i64 x.s, .slice lb mn mc, .slice kb jn jc] 28 (0, 0)) := by rw [<- hW2, <- ha2]; exact World.alloc_heap_new _ _
   rw [hW2]
   rw [ha2]
   replace HB := hid (below_seq HB.out hb2)
   clear hW2 ha2
   have h12 := below_seq HC2.out hb2
   have q1 := (h12.block _ (Array.getElem?_eq_some_iff.1 HX1.out.1).1).trans HX1.out.1
   have q3 := (h12.block _ (Array.getElem?_eq_some_iff.1 HX1.out.2.1).1).trans HX1.out.2.1
   obtain ⟨⟨c0, c1, c2, c3, c4, c5⟩, -⟩ := c6 q1
   obtain ⟨⟨e0, e1, e2, e3, e4, e5⟩, -⟩ := c6 x2
   have f0 : W2.cell? ⟨a1 + 1, 0, none⟩ = some (.int .i64 (0)) := by simp only [World.cell?, q3]; rfl
   have f1 : W2.cell? ⟨a1 + 1, 1, none⟩ = some (.int .i64 (0)) := by simp only [World.cell?, q3]; rfl
   have l1 := HG1.out.to_ h12
   have l2 := HG2.out.to_ hb2
   have HS := hid (rsame_any (fun k => k < W2.heap.size) x _ _ _ W2 (fun _ h => h) (TyVal.mono (fun _ h => h.2) l1) (TyVal.mono (fun _ h => h.2) l2))
   rw [eqB_self] at HS
   clear l1 l2
   have HFA := hid (fun W => pfault_any 0 0 W)
   have HF0 := hid (fun W (hW : Below W2.heap.size W2 W) => And.intro ((hW.cell (p := ⟨a1 + 1, 0, none⟩) (gl q3)).trans f0) ((hW.cell (p := ⟨a1 + 1, 1, none⟩) (gl q3)).trans f1))
   clear q1 q3 x2 h12 hb2 f0 f1
   have heq := fun W a b => arr2_eq W a b
   go_wp2_with (first | (go_at_call 18; refine HS.out.mono ?_; rintro en w3 ⟨rfl, hb⟩; obtain ⟨f0, f1⟩ := HF0.out _ hb; replace HB := hid (below_seq HB.out hb); clear hb) | (go_at_call 12; refine (HFA.out _).mono ?_; rintro en w4 ⟨rfl, hb⟩; replace HB := hid (below_seq HB.out hb); clear hb))
   go_ret
   exact ⟨rfl, HB.out⟩
  | .inr (er, p), HT, HRT =>
   go_upto_region 4 with (first | (go_at_call 8; refine (HAW.out _ HB.out).mono ?_; rintro en wa ⟨rfl, hb⟩; replace HB := hid (below_seq HB.out hb); clear hb) | (go_at_call 16; refine (HT.out _ HB.out).mono ?_; rintro en w1 ⟨rfl, hb⟩; replace HB := hid (below_seq HB.out hb); clear hb))
   obtain ⟨a1, ha1⟩ : ∃ a, w1.heap.size = a := ⟨_, rfl⟩
   have htw := two_new w1 #[.int .i64 0, .int .i64 0, .string ⟨#[]⟩, .int .i64 0, .slice none 0 0, .slice none 0 0] #[.int .i64 er, .int .i64 p] 28 36
   obtain ⟨W1, hW1⟩ : ∃ W, (w1.alloc (.cells z6 28)).alloc (.cells #[.int .i64 er, .int .i64 p] 36) = W := ⟨_, rfl⟩
   rw [hW1, ha1] at htw
   rw [hW1]
   rw [ha1]
   replace HB := hid (below_seq HB.out (htw.2.2.mono (Nat.le_of_eq ha1)))
   clear ha1 hW1
   have HX1 := hid htw
   clear htw
   go_upto_region 5 with (go_at_call 17; refine (HRT.out _).mono ?_; rintro en w2 ⟨rfl, hb⟩; have HC2 := hid hb; replace HB := hid (below_seq HB.out hb); clear hb)
   obtain ⟨a2, ha2⟩ : ∃ a, w2.heap.size = a := ⟨_, rfl⟩
   obtain ⟨W2, hW2⟩ : ∃ W, w2.alloc (.cells z6 28) = W := ⟨_, rfl⟩
   have hb2 := (made hW2).1
   have x2 : W2.heap[a2]? = some (.cells z6 28 (0, 0)) := by rw [<- hW2, <- ha2]; exact World.alloc_heap_new _ _
   rw [hW2]
   rw [ha2]
   replace HB := hid (below_seq HB.out hb2)
   clear hW2 ha2
   have h12 := below_seq HC2.out hb2
   have q1 := (h12.block _ (Array.getElem?_eq_some_iff.1 HX1.out.1).1).trans HX1.out.1
   have q3 := (h12.block _ (Array.getElem?_eq_some_iff.1 HX1.out.2.1).1).trans HX1.out.2.1
   obtain ⟨⟨c0, c1, c2, c3, c4, c5⟩, -⟩ := c6 q1
   obtain ⟨⟨e0, e1, e2, e3, e4, e5⟩, -⟩ := c6 x2
   have f0 : W2.cell? ⟨a1 + 1, 0, none⟩ = some (.int .i64 er) := by simp only [World.cell?, q3]; rfl
   have f1 : W2.cell? ⟨a1 + 1, 1, none⟩ = some (.int .i64 p) := by simp only [World.cell?, q3]; rfl
   have HS := hid (rsame_any (fun k => k < W2.heap.size) (lfT 0) _ _ _ W2 (fun _ h => h) (TyVal.mono (fun _ h => h.2) (GTy.leaf 0 W2 0 0 0 ⟨#[]⟩ (Nat.zero_le _))) (TyVal.mono (fun _ h => h.2) (GTy.leaf 0 W2 0 0 0 ⟨#[]⟩ (Nat.zero_le _))))
   rw [eqB_self] at HS
   have HFA := hid (fun W => pfault_any er p W)
   have HF0 := hid (fun W (hW : Below W2.heap.size W2 W) => And.intro ((hW.cell (p := ⟨a1 + 1, 0, none⟩) (gl q3)).trans f0) ((hW.cell (p := ⟨a1 + 1, 1, none⟩) (gl q3)).trans f1))
   clear q1 q3 x2 h12 hb2 f0 f1
   have heq := fun W a b => arr2_eq W a b
   go_wp2_with (first | (go_at_call 18; refine HS.out.mono ?_; rintro en w3 ⟨rfl, hb⟩; obtain ⟨f0, f1⟩ := HF0.out _ hb; replace HB := hid (below_seq HB.out hb); clear hb) | (go_at_call 12; refine (HFA.out _).mono ?_; rintro en w4 ⟨rfl, hb⟩; replace HB := hid (below_seq HB.out hb); clear hb))
   go_ret
   exact ⟨rfl, HB.out⟩
end Go.Proofs.YtejaboajgecpaaaGreatDoor
namespace Go.Proofs.YtejaboajgecpaaaGreatDoor
open Go.RowKit Go.ChangeShapes Tok
abbrev seatLaid : List (String × DataW Unit) := Rows.parseTypesRow.laid
theorem one_reads {P : Program} {w : World} : ∀ {l : List (String × DataW Unit)} {ps : List MemPlace}, DataW.LaidVars P w l ps -> ∀ n d, (n, d) ∈ l ->
 ∃ g t cs fuel p, P.globalNamed n = some g /\ (P.globals[g]?).map (·.type) = some t /\ w.var? P n = some cs /\ DataW.trod (fun _ => ()) P w 0 (fun _ => true) false fuel t cs.toList = some (d, p)
 | [], _, _, _, _, hm => by cases hm
 | (n', d') :: r, ps, h, n, d, hm => by
  obtain ⟨g, t, cs, fuel, p, q, h1, h2, h3, h4, h5, _⟩ := h
  rcases List.mem_cons.1 hm with e | e
  ·cases e
   exact ⟨g, t, cs, fuel, p, h1, h2, h3, h4⟩
  ·exact one_reads h5 n d e
theorem iface_reads {H : Type} {enc : TypeId × Value -> H} {P : Program} {w : World} {base : Nat} {sp : Nat -> Bool} {held : Bool} {fuel : Nat} {t : TypeId} {ms : Array (String × TypeId)} {cs : List Value} {nm : String} {d : DataW H} {p : List MemPlace}
 (ht : P.underlying t = some (.interface ms)) (h : DataW.trod enc P w base sp held fuel t cs = some (.iface nm d, p)) : ∃ u v, cs = [.iface u v] := by
 cases fuel with
 | zero => simp [DataW.trod] at h
 | succ fuel =>
  unfold DataW.trod at h
  rw [ht] at h
  split at h <;> first | (rename_i heq; cases heq; done) | skip
  all_goals (first | (cases h; done) | exact ⟨_, _, rfl⟩ | skip)
theorem strs_read {H : Type} {enc : TypeId × Value -> H} {P : Program} {w : World} {base : Nat} {sp : Nat -> Bool} {held : Bool} {fuel : Nat} {t e : TypeId} {n : Nat} {cs : List Value} {ls : List (List UInt8)} {p : List MemPlace}
 (ht : P.underlying t = some (.array n e)) (he : P.underlying e = some .string) (hce : P.cellsOf e = 1) (hct : P.cellsOf t = n)
 (h : DataW.trod enc P w base sp held fuel t cs = some (.agg (ls.map fun l => .lit (.string l)), p)) : cs = ls.map fun l => Value.string ⟨l.toArray⟩ := by
 obtain ⟨xs, m, _, hx, hlen, hxl, hat⟩ := DataW.trod_array ht h
 have hxs : xs.map (·.1) = ls.map fun l => (DataW.lit (.string l) : DataW H) := by
  have := congrArg Prod.fst hx
  simpa using this.symm
 have hll : ls.length = n := by
  have := congrArg List.length hxs
  simp at this; omega
 apply List.ext_getElem?
 intro i
 by_cases hi : i < n
 ·have hf := hat i hi
  rw [hce, Nat.mul_one] at hf
  obtain ⟨x, hxi⟩ : ∃ x, xs[i]? = some x := ⟨_, List.getElem?_eq_getElem (by omega)⟩
  rw [hxi] at hf
  obtain ⟨s, hc, rfl, _⟩ := DataW.trod_string he hf
  have h1 : cs[i]? = some (.string s) := by
   have := congrArg (·[0]?) hc
   simpa [List.getElem?_take, List.getElem?_drop] using this
  have h2 : (xs.map (·.1))[i]? = some (DataW.lit (.string s.data.toList) : DataW H) := by simp [hxi]
  rw [hxs] at h2
  simp only [List.getElem?_map, Option.map_eq_some_iff, DataW.lit.injEq, Lit.string.injEq] at h2
  obtain ⟨l, hl, hls⟩ := h2
  rw [h1, List.getElem?_map, hl, hls]
  rfl
 ·rw [List.getElem?_eq_none (by omega), List.getElem?_eq_none (by simp; omega)]
theorem rangeType : (Tryz.prog.globals[3]?).map (·.type) = some 177 := by kernel_rfl
theorem wordsType : (Tryz.prog.globals[0]?).map (·.type) = some 180 := by kernel_rfl
theorem cellsStr : Tryz.prog.cellsOf 9 = 1 := by kernel_rfl
theorem cellsWords : Tryz.prog.cellsOf 180 = 10 := by kernel_rfl
theorem errIface : ∃ ms, Tryz.prog.underlying 177 = some (.interface ms) := ⟨_, Tryz.underlying177⟩
theorem env_of_laid {W : World} (h : laidMetH Tryz.prog seatLaid W) : Tok.Env W.heap.size W := by
 rw [MakeChecks.laidMetH_plain _ _ _ (by kernel_rfl)] at h
 obtain ⟨ps, hv, _⟩ := h
 obtain ⟨g, t, cs, fuel, p, hg, ht, hvar, hd⟩ := one_reads hv "strconv.ErrRange" Rows.laid_strconv_ErrRange (by simp [seatLaid, Rows.parseTypesRow])
 obtain rfl := Option.some.inj (gRange.symm.trans hg)
 obtain rfl := Option.some.inj (rangeType.symm.trans ht)
 obtain ⟨ms, hms⟩ := errIface
 obtain ⟨u, v, hcs⟩ := iface_reads hms hd
 obtain ⟨g', t', cs', fuel', p', hg', ht', hvar', hd'⟩ := one_reads hv "duologue/lex.keywords" Rows.laid_duologue_lex_keywords (by simp [seatLaid, Rows.parseTypesRow])
 obtain rfl := Option.some.inj (gWords.symm.trans hg')
 obtain rfl := Option.some.inj (wordsType.symm.trans ht')
 have hws := strs_read (ls := [[100, 101, 102], [109, 97, 105, 110], [115, 116, 111, 112], [110, 101, 119], [105, 110, 116], [98, 111, 111, 108], [101, 110, 100], [114, 101, 99], [116, 114, 117, 101], [102, 97, 108, 115, 101]]) kwU Tryz.underlying9 cellsStr cellsWords hd'
 have lt : ∀ {n : String} {g : Nat} {cs : Array Value}, Tryz.prog.globalNamed n = some g -> W.var? Tryz.prog n = some cs -> g < W.heap.size := by
  intro n g cs hg hv
  unfold World.var? at hv
  simp only [hg, Option.bind_some] at hv
  rcases Nat.lt_or_ge g W.heap.size with h' | h'
  ·exact h'
  ·rw [Array.getElem?_eq_none h'] at hv; cases hv
 refine ⟨⟨u, v, ?_⟩, ?_, ⟨lt gRange hvar, lt gWords hvar'⟩, Nat.le_refl _⟩
 ·rw [hvar]; obtain ⟨l⟩ := cs; simp at hcs; rw [hcs]
 ·rw [hvar']; obtain ⟨l⟩ := cs'; simp only at hws; rw [hws]; rfl
theorem door_met (os : Os) (args : Array Value) : laidMetH Tryz.prog seatLaid ((World.doorLaid Tryz.prog 4000 os).forCall (fun _ _ => 0) ⟨#[], args, []⟩).memory :=
 laidMetH_of_parts3 (fuel := 10) (laidMet_of_run' 10 (by kernel_rfl) (by kernel_rfl)) (by kernel_rfl) (by kernel_rfl)
end Go.Proofs.YtejaboajgecpaaaGreatDoor
