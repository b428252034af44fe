/- Types: the fixed examples of the law all come out right. -/
import Derived.Test.YtfmadgoieppmkaaDoorTyTb
namespace Go.Proofs.YtfmadgoieppmkaaDoor
open Go.RowKit Go.Deep Go.Shelf

theorem right_l {E : Nat} {W : World} {v : Value} {t : Ty} {c : Int} (he : Env E W) (h : Lies W v t) (hf : t.fine) (hd : t.depth ≤ 1000) (hc : rightE t = c) : Calls Tryd.prog 12 #[v] W fun e w' => e = .returned (.int .i64 c) ∧ Below W.heap.size W w' := by
  rw [← hc]; exact tright_any E _ t hf hd v W (lies_low W) he h
theorem size_l {W : World} {v : Value} {t : Ty} {c : Int} (h : Lies W v t) (hs : t.size ≤ 1000000) (hd : t.depth ≤ 1000) (hc : (t.size : Int) = c) : Calls Tryd.prog 14 #[v] W fun e w' => e = .returned (.int .i64 c) ∧ Below W.heap.size W w' := by
  rw [← hc]; exact tsize_any _ t hs hd v W (lies_low W) h
theorem depth_l {W : World} {v : Value} {t : Ty} {c : Int} (h : Lies W v t) (hd : t.depth ≤ 1000) (hc : (t.depth : Int) = c) : Calls Tryd.prog 16 #[v] W fun e w' => e = .returned (.int .i64 c) ∧ Below W.heap.size W w' := by
  rw [← hc]; exact tdepth_any _ t hd v W (lies_low W) h
theorem same_l {W : World} {v v' : Value} {t u : Ty} {b : Bool} (h : Lies W v t) (h' : Lies W v' u) (hb : eqB t u = b) : Calls Tryd.prog 18 #[v, v'] W fun e w' => e = .returned (.bool b) ∧ Below W.heap.size W w' := by
  rw [← hb]; exact tsame_any _ t u v v' W (lies_low W) h h'
theorem rsame_l {W : World} {v v' : Value} {t u : Ty} {b : Bool} (h : Lies W v t) (h' : Lies W v' u) (hb : eqB t u = b) : Calls Tryd.prog 19 #[v, v'] W fun e w' => e = .returned (.bool b) ∧ Below W.heap.size W w' := by
  rw [← hb]; exact rsame_any _ t u v v' W (lies_low W) h h'
theorem loop_l (p k : Int) (W : World) : Calls Tryd.prog 43 #[.int .i64 p, .int .i64 k] W fun e w' => ∃ la ln lc ka kn kc, e = .returned (.agg #[.int .i64 8, .int .i64 0, .string ⟨#[116]⟩, .int .i64 0, .slice la ln lc, .slice ka kn kc]) ∧ Lies w' (.agg #[.int .i64 8, .int .i64 0, .string ⟨#[116]⟩, .int .i64 0, .slice la ln lc, .slice ka kn kc]) (loopT p k) ∧ Below W.heap.size W w' := loop_any p k W
theorem send_l {p : Int} {r : Ty} {v : Value} {W : World} (h : Lies W v r) : Calls Tryd.prog 44 #[.int .i64 p, v] W fun e w' => ∃ la ln lc ka kn kc, e = .returned (.agg #[.int .i64 4, .int .i64 p, .string ⟨#[]⟩, .int .i64 0, .slice la ln lc, .slice ka kn kc]) ∧ Lies w' (.agg #[.int .i64 4, .int .i64 p, .string ⟨#[]⟩, .int .i64 0, .slice la ln lc, .slice ka kn kc]) (sendT p r) ∧ Below W.heap.size W w' :=
  (send_any _ p r v W (lies_low W) h).mono fun _ _ ⟨la, ln, lc, ka, kn, kc, h1, h2, h3⟩ => ⟨la, ln, lc, ka, kn, kc, h1, h2.mono (fun _ hk => hk.elim (fun h => Nat.lt_of_lt_of_le h h3.size) (fun h => h.2)), h3⟩
theorem unfold_l {v : Value} {W : World} (h : Lies W v (loopT 0 2)) : Calls Tryd.prog 45 #[v] W fun e w' => ∃ la ln lc ka kn kc, e = .returned (.agg #[.int .i64 4, .int .i64 0, .string ⟨#[]⟩, .int .i64 0, .slice la ln lc, .slice ka kn kc]) ∧ Lies w' (.agg #[.int .i64 4, .int .i64 0, .string ⟨#[]⟩, .int .i64 0, .slice la ln lc, .slice ka kn kc]) (sendT 0 (loopT 2 2)) ∧ Below W.heap.size W w' :=
  (unfold_one _ 0 0 tT [] (sendT 0 (varT 2)) (by decide) (by simp [sendT, varT, leafT, Ty.mod, Ty.mods, okI]) v W (lies_low W) h).mono fun _ _ h => h.out
theorem raise_l {v : Value} {W : World} (h : Lies W v (loopT 0 2)) : Calls Tryd.prog 46 #[v, .int .i64 3] W fun e w' => ∃ la ln lc ka kn kc, e = .returned (.agg #[.int .i64 8, .int .i64 0, .string ⟨#[116]⟩, .int .i64 0, .slice la ln lc, .slice ka kn kc]) ∧ Lies w' (.agg #[.int .i64 8, .int .i64 0, .string ⟨#[116]⟩, .int .i64 0, .slice la ln lc, .slice ka kn kc]) (loopT 3 2) ∧ Below W.heap.size W w' :=
  (raise_any _ 3 (by simp [okI]) (loopT 0 2) (by simp [loopT, sendT, varT, leafT, Ty.mod, Ty.mods, okI]) v W (lies_low W) h).mono fun _ _ h => h.out
theorem fine_loop : (loopT 0 2).fine := by simp [loopT, sendT, varT, leafT, Ty.fine, Ty.fines, In64]
theorem fine_var : (varT 0).fine := by simp [varT, Ty.fine, Ty.fines, In64]
theorem fine_bare : bareT.fine := by simp [bareT, varT, Ty.fine, Ty.fines, In64]
theorem fine_int : (leafT 1).fine := by simp [leafT, Ty.fine, Ty.fines, In64]
theorem fine_send : (sendT 0 (leafT 1)).fine := by simp [sendT, leafT, Ty.fine, Ty.fines, In64]

set_option maxHeartbeats 8000000 in
set_option maxRecDepth 100000 in
theorem awake_any (E : Nat) (w : World) (he : Env E w) : Calls Tryd.prog 10 #[] w fun e w' => e = .returned (.bool true) ∧ Below w.heap.size w w' := by
  go_enter Tryd.func10, Tryd.ntmps10
  go_wp2_with fail
  refine (loop_l _ _ _).mono ?_
  rintro e w1 ⟨la, ln, lc, ka, kn, kc, rfl, hv1, hb1⟩
  have HV1 := Lib.hid hv1
  clear hv1
  go_wp2_with fail
  obtain ⟨s1, s2, _, s3⟩ := box4_heap w1 (.cells #[.int .i64 8, .int .i64 0, .string ⟨#[116]⟩, .int .i64 0, .slice la ln lc, .slice ka kn kc] 25) (.cells #[.int .i64 9, .int .i64 0, .string ⟨#[116]⟩, .int .i64 0, .slice none 0 0, .slice none 0 0] 25) (.cells #[.int .i64 9, .int .i64 0, .string ⟨#[116]⟩, .int .i64 0, .slice none 0 0, .slice none 0 0] 25) (.cells #[.int .i64 8, .int .i64 0, .string ⟨#[116]⟩, .int .i64 0, .slice none 0 0, .slice (some ⟨w1.heap.size + 1 + 1, 0, none⟩) 1 1] 25)
  have hbV : Below w1.heap.size w1 ((((w1.alloc (.cells #[.int .i64 8, .int .i64 0, .string ⟨#[116]⟩, .int .i64 0, .slice la ln lc, .slice ka kn kc] 25)).alloc (.cells #[.int .i64 9, .int .i64 0, .string ⟨#[116]⟩, .int .i64 0, .slice none 0 0, .slice none 0 0] 25)).alloc (.cells #[.int .i64 9, .int .i64 0, .string ⟨#[116]⟩, .int .i64 0, .slice none 0 0, .slice none 0 0] 25)).alloc (.cells #[.int .i64 8, .int .i64 0, .string ⟨#[116]⟩, .int .i64 0, .slice none 0 0, .slice (some ⟨w1.heap.size + 1 + 1, 0, none⟩) 1 1] 25)) := box4_below w1 _ _ _ _
  have hl1 := HV1.out.to hbV
  have hl3 := rec_val (W := (w1.alloc (.cells #[.int .i64 8, .int .i64 0, .string ⟨#[116]⟩, .int .i64 0, .slice la ln lc, .slice ka kn kc] 25)).alloc (.cells #[.int .i64 9, .int .i64 0, .string ⟨#[116]⟩, .int .i64 0, .slice none 0 0, .slice none 0 0] 25)) (B := fun _ => False) (k := 8) (p := 0) (s := 0) (n := tT) (u := varT 0) (lv := .slice none 0 0) (kv := .slice none 0 0) (by decide) (fun _ h => h.elim) (val_leaf _ _ 9 0 0 tT (by decide))
  simp only [World.size_alloc] at hl3
  have hl3' := hl3.to (C := w1.heap.size + 1 + 1 + 1) (fun k hk => hk.elim (fun h => h.elim) (fun h => by omega)) ((Below.refl _ _).alloc (by simp) (.cells #[.int .i64 8, .int .i64 0, .string ⟨#[116]⟩, .int .i64 0, .slice none 0 0, .slice (some ⟨w1.heap.size + 1 + 1, 0, none⟩) 1 1] 25))
  have hlb : Lies ((((w1.alloc (.cells #[.int .i64 8, .int .i64 0, .string ⟨#[116]⟩, .int .i64 0, .slice la ln lc, .slice ka kn kc] 25)).alloc (.cells #[.int .i64 9, .int .i64 0, .string ⟨#[116]⟩, .int .i64 0, .slice none 0 0, .slice none 0 0] 25)).alloc (.cells #[.int .i64 9, .int .i64 0, .string ⟨#[116]⟩, .int .i64 0, .slice none 0 0, .slice none 0 0] 25)).alloc (.cells #[.int .i64 8, .int .i64 0, .string ⟨#[116]⟩, .int .i64 0, .slice none 0 0, .slice (some ⟨w1.heap.size + 1 + 1, 0, none⟩) 1 1] 25)) (.agg #[.int .i64 8, .int .i64 0, .string ⟨#[116]⟩, .int .i64 0, .slice none 0 0, .slice (some ⟨w1.heap.size + 1 + 1, 0, none⟩) 1 1]) bareT := hl3'.mono (fun k hk => hk.elim (fun h => h.elim) (fun h => by simp; omega))
  have hw1 := hb1.size
  obtain ⟨V, hV⟩ : ∃ V, ((((w1.alloc (.cells #[.int .i64 8, .int .i64 0, .string ⟨#[116]⟩, .int .i64 0, .slice la ln lc, .slice ka kn kc] 25)).alloc (.cells #[.int .i64 9, .int .i64 0, .string ⟨#[116]⟩, .int .i64 0, .slice none 0 0, .slice none 0 0] 25)).alloc (.cells #[.int .i64 9, .int .i64 0, .string ⟨#[116]⟩, .int .i64 0, .slice none 0 0, .slice none 0 0] 25)).alloc (.cells #[.int .i64 8, .int .i64 0, .string ⟨#[116]⟩, .int .i64 0, .slice none 0 0, .slice (some ⟨w1.heap.size + 1 + 1, 0, none⟩) 1 1] 25)) = V := ⟨_, rfl⟩
  rw [hV] at s1 s2 s3 hbV hl1 hlb ⊢
  clear hV hl3 hl3'
  have heV : Env E V := he.to (below_seq hb1 hbV)
  have HB0 := Lib.hid (below_seq hb1 hbV)
  have S1 : Hid (Six V w1.heap.size (.int .i64 8) (.int .i64 0) (.string ⟨#[116]⟩) (.int .i64 0) (.slice la ln lc) (.slice ka kn kc)) := Lib.hid s1
  have S2 : Hid (Six V (w1.heap.size + 1) (.int .i64 9) (.int .i64 0) (.string ⟨#[116]⟩) (.int .i64 0) (.slice none 0 0) (.slice none 0 0)) := Lib.hid s2
  have S3 : Hid (Six V (w1.heap.size + 1 + 1 + 1) (.int .i64 8) (.int .i64 0) (.string ⟨#[116]⟩) (.int .i64 0) (.slice none 0 0) (.slice (some ⟨w1.heap.size + 1 + 1, 0, none⟩) 1 1)) := Lib.hid s3
  have L1 := Lib.hid hl1
  have L3 := Lib.hid hlb
  have HE := Lib.hid heV
  have L2 : Hid (∀ W, Lies W (.agg #[.int .i64 9, .int .i64 0, .string ⟨#[116]⟩, .int .i64 0, .slice none 0 0, .slice none 0 0]) (varT 0)) := Lib.hid (fun W => lies_leaf W 9 0 0 tT (by decide))
  have LI : Hid (∀ W, Lies W (.agg #[.int .i64 1, .int .i64 0, .string ⟨#[]⟩, .int .i64 0, .slice none 0 0, .slice none 0 0]) (leafT 1)) := Lib.hid (fun W => lies_leaf W 1 0 0 e0 (by decide))
  have hbv0 : Below V.heap.size V V := Below.refl _ _
  clear s1 s2 s3 hbV hl1 hlb heV HV1 he hb1 hw1
  refine (right_l (HE.out.to hbv0) (L1.out.to hbv0) fine_loop (by decide) right_loop).mono ?_
  rintro e x1 ⟨rfl, hh⟩
  have hbv1 := below_seq hbv0 hh
  have HH1 := Lib.hid hh
  clear hh
  obtain ⟨⟨cS20, cS21, cS22, cS23, cS24, cS25⟩, _⟩ := (S2.out.to hbv1).cells
  go_wp2_with fail
  clear cS20 cS21 cS22 cS23 cS24 cS25
  refine (right_l (HE.out.to hbv1) (L2.out _) fine_var (by decide) right_var).mono ?_
  rintro e x2 ⟨rfl, hh⟩
  have hbv2 := below_seq hbv1 hh
  have HH2 := Lib.hid hh
  clear hh
  obtain ⟨⟨cS30, cS31, cS32, cS33, cS34, cS35⟩, _⟩ := (S3.out.to hbv2).cells
  go_wp2_with fail
  clear cS30 cS31 cS32 cS33 cS34 cS35
  refine (right_l (HE.out.to hbv2) (L3.out.to hbv2) fine_bare (by decide) right_bare).mono ?_
  rintro e x3 ⟨rfl, hh⟩
  have hbv3 := below_seq hbv2 hh
  have HH3 := Lib.hid hh
  clear hh
  go_wp2_with fail
  refine (right_l (HE.out.to hbv3) (LI.out _) fine_int (by decide) right_int).mono ?_
  rintro e x4 ⟨rfl, hh⟩
  have hbv4 := below_seq hbv3 hh
  have HH4 := Lib.hid hh
  clear hh
  go_wp2_with fail
  refine (send_l (LI.out _)).mono ?_
  rintro e x5 ⟨l5a, l5n, l5c, k5a, k5n, k5c, rfl, hv, hh⟩
  have LV5 := Lib.hid hv
  clear hv
  have hbv5 := below_seq hbv4 hh
  have HH5 := Lib.hid hh
  clear hh
  go_wp2_with fail
  refine (right_l (HE.out.to hbv5) LV5.out fine_send (by decide) right_send).mono ?_
  rintro e x6 ⟨rfl, hh⟩
  have hbv6 := below_seq hbv5 hh
  have HH6 := Lib.hid hh
  clear hh
  obtain ⟨⟨cS10, cS11, cS12, cS13, cS14, cS15⟩, _⟩ := (S1.out.to hbv6).cells
  go_wp2_with fail
  clear cS10 cS11 cS12 cS13 cS14 cS15
  refine (unfold_l (L1.out.to hbv6)).mono ?_
  rintro e x7 ⟨l7a, l7n, l7c, k7a, k7n, k7c, rfl, hv, hh⟩
  have LV7 := Lib.hid hv
  clear hv
  have hbv7 := below_seq hbv6 hh
  have HH7 := Lib.hid hh
  clear hh
  go_wp2_with fail
  refine (loop_l _ _ _).mono ?_
  rintro e x8 ⟨l8a, l8n, l8c, k8a, k8n, k8c, rfl, hv, hh⟩
  have LV8 := Lib.hid hv
  clear hv
  have hbv8 := below_seq hbv7 hh
  have HH8 := Lib.hid hh
  clear hh
  go_wp2_with fail
  refine (send_l LV8.out).mono ?_
  rintro e x9 ⟨l9a, l9n, l9c, k9a, k9n, k9c, rfl, hv, hh⟩
  have LV9 := Lib.hid hv
  clear hv
  have hbv9 := below_seq hbv8 hh
  have HH9 := Lib.hid hh
  clear hh
  go_wp2_with fail
  refine (rsame_l (((LV7.out.to HH8.out).to HH9.out)) LV9.out (eqB_self _)).mono ?_
  rintro e x10 ⟨rfl, hh⟩
  have hbv10 := below_seq hbv9 hh
  have HH10 := Lib.hid hh
  clear hh
  obtain ⟨⟨cS10, cS11, cS12, cS13, cS14, cS15⟩, _⟩ := (S1.out.to hbv10).cells
  go_wp2_with fail
  clear cS10 cS11 cS12 cS13 cS14 cS15
  refine (size_l (L1.out.to hbv10) (by decide) (by decide) rfl).mono ?_
  rintro e x11 ⟨rfl, hh⟩
  have hbv11 := below_seq hbv10 hh
  have HH11 := Lib.hid hh
  clear hh
  obtain ⟨⟨cS10, cS11, cS12, cS13, cS14, cS15⟩, _⟩ := (S1.out.to hbv11).cells
  go_wp2_with fail
  clear cS10 cS11 cS12 cS13 cS14 cS15
  refine (depth_l (L1.out.to hbv11) (by decide) rfl).mono ?_
  rintro e x12 ⟨rfl, hh⟩
  have hbv12 := below_seq hbv11 hh
  have HH12 := Lib.hid hh
  clear hh
  obtain ⟨⟨cS10, cS11, cS12, cS13, cS14, cS15⟩, _⟩ := (S1.out.to hbv12).cells
  go_wp2_with fail
  clear cS10 cS11 cS12 cS13 cS14 cS15
  refine (same_l (L1.out.to hbv12) (L1.out.to hbv12) (eqB_self _)).mono ?_
  rintro e x13 ⟨rfl, hh⟩
  have hbv13 := below_seq hbv12 hh
  have HH13 := Lib.hid hh
  clear hh
  obtain ⟨⟨cS10, cS11, cS12, cS13, cS14, cS15⟩, _⟩ := (S1.out.to hbv13).cells
  obtain ⟨⟨cS20, cS21, cS22, cS23, cS24, cS25⟩, _⟩ := (S2.out.to hbv13).cells
  go_wp2_with fail
  clear cS10 cS11 cS12 cS13 cS14 cS15 cS20 cS21 cS22 cS23 cS24 cS25
  refine (same_l (L1.out.to hbv13) (L2.out _) (eqB_ne loop_ne_var)).mono ?_
  rintro e x14 ⟨rfl, hh⟩
  have hbv14 := below_seq hbv13 hh
  have HH14 := Lib.hid hh
  clear hh
  obtain ⟨⟨cS10, cS11, cS12, cS13, cS14, cS15⟩, _⟩ := (S1.out.to hbv14).cells
  go_wp2_with fail
  clear cS10 cS11 cS12 cS13 cS14 cS15
  refine (raise_l (L1.out.to hbv14)).mono ?_
  rintro e x15 ⟨l15a, l15n, l15c, k15a, k15n, k15c, rfl, hv, hh⟩
  have LV15 := Lib.hid hv
  clear hv
  have hbv15 := below_seq hbv14 hh
  have HH15 := Lib.hid hh
  clear hh
  go_wp2_with fail
  refine (loop_l _ _ _).mono ?_
  rintro e x16 ⟨l16a, l16n, l16c, k16a, k16n, k16c, rfl, hv, hh⟩
  have LV16 := Lib.hid hv
  clear hv
  have hbv16 := below_seq hbv15 hh
  have HH16 := Lib.hid hh
  clear hh
  go_wp2_with fail
  refine (rsame_l (LV15.out.to HH16.out) LV16.out (eqB_self _)).mono ?_
  rintro e x17 ⟨rfl, hh⟩
  have hbv17 := below_seq hbv16 hh
  have HH17 := Lib.hid hh
  clear hh
  go_wp2_with fail
  refine (tsession_any _ _ _ _ _ _ _).mono ?_
  rintro e x18 ⟨rfl, hh⟩
  have hbv18 := below_seq hbv17 hh
  have HH18 := Lib.hid hh
  clear hh
  go_wp2_with fail
  go_ret
  exact ⟨rfl, HB0.out.trans (hbv18.mono HB0.out.size)⟩

end Go.Proofs.YtfmadgoieppmkaaDoor
