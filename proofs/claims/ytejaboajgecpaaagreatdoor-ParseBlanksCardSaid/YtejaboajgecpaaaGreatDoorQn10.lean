/- Parsing: lemmas. -/
import Derived.Test.YtejaboajgecpaaaGreatDoorQn9
import Derived.Deep.RegionHeld3
import Derived.Deep.RegionHeldLaw
import Derived.Deep.AppendLies
set_option maxHeartbeats 16000000
set_option maxRecDepth 100000
namespace Go.Proofs.YtejaboajgecpaaaGreatDoor
open Go.Lib (hid)
open Go.RowKit Go.Shelf
theorem c12p {w : World} {X : Nat} {T : TypeId} {v0 v1 v2 v3 v4 v5 v6 v7 v8 v9 v10 v11 : Value} (h : w.heap[X]? = some (.cells #[v0, v1, v2, v3, v4, v5, v6, v7, v8, v9, v10, v11] T (0, 0))) : (w.cell? ⟨X, 0, none⟩ = some v0 /\ w.cell? ⟨X, 1, none⟩ = some v1 /\ w.cell? ⟨X, 2, none⟩ = some v2 /\ w.cell? ⟨X, 3, none⟩ = some v3 /\ w.cell? ⟨X, 4, none⟩ = some v4 /\ w.cell? ⟨X, 5, none⟩ = some v5 /\ w.cell? ⟨X, 6, none⟩ = some v6 /\ w.cell? ⟨X, 7, none⟩ = some v7 /\ w.cell? ⟨X, 8, none⟩ = some v8 /\ w.cell? ⟨X, 9, none⟩ = some v9 /\ w.cell? ⟨X, 10, none⟩ = some v10 /\ w.cell? ⟨X, 11, none⟩ = some v11) /\ w.frozen? ⟨X, 0, none⟩ = false /\ w.frozen? ⟨X, 1, none⟩ = false /\ w.frozen? ⟨X, 2, none⟩ = false /\ w.frozen? ⟨X, 3, none⟩ = false /\ w.frozen? ⟨X, 4, none⟩ = false /\ w.frozen? ⟨X, 5, none⟩ = false /\ w.frozen? ⟨X, 6, none⟩ = false /\ w.frozen? ⟨X, 7, none⟩ = false /\ w.frozen? ⟨X, 8, none⟩ = false /\ w.frozen? ⟨X, 9, none⟩ = false /\ w.frozen? ⟨X, 10, none⟩ = false /\ w.frozen? ⟨X, 11, none⟩ = false := by
 refine ⟨⟨?_, ?_, ?_, ?_, ?_, ?_, ?_, ?_, ?_, ?_, ?_, ?_⟩, frozen_of_block h 0, frozen_of_block h 1, frozen_of_block h 2, frozen_of_block h 3, frozen_of_block h 4, frozen_of_block h 5, frozen_of_block h 6, frozen_of_block h 7, frozen_of_block h 8, frozen_of_block h 9, frozen_of_block h 10, frozen_of_block h 11⟩ <;> simp [World.cell?, h]
abbrev put12 (w : World) (X : Nat) (v0 v1 v2 v3 v4 v5 v6 v7 v8 v9 v10 v11 : Value) : World := ((((((((((((w.setCell ⟨X, 0, none⟩ v0).setCell ⟨X, 1, none⟩ v1).setCell ⟨X, 2, none⟩ v2).setCell ⟨X, 3, none⟩ v3).setCell ⟨X, 4, none⟩ v4).setCell ⟨X, 5, none⟩ v5).setCell ⟨X, 6, none⟩ v6).setCell ⟨X, 7, none⟩ v7).setCell ⟨X, 8, none⟩ v8).setCell ⟨X, 9, none⟩ v9).setCell ⟨X, 10, none⟩ v10).setCell ⟨X, 11, none⟩ v11)
theorem fill12 {w : World} {X : Nat} {T : TypeId} {v0 v1 v2 v3 v4 v5 v6 v7 v8 v9 v10 v11 : Value} (h : w.heap[X]? = some (.cells #[v0, v1, v2, v3, v4, v5, v6, v7, v8, v9, v10, v11] T (0, 0))) (u0 u1 u2 u3 u4 u5 u6 u7 u8 u9 u10 u11 : Value) : (put12 w X u0 u1 u2 u3 u4 u5 u6 u7 u8 u9 u10 u11).heap[X]? = some (.cells #[u0, u1, u2, u3, u4, u5, u6, u7, u8, u9, u10, u11] T (0, 0)) := by
 have h0 : (w.setCell ⟨X, 0, none⟩ u0).heap[X]? = some (.cells #[u0, v1, v2, v3, v4, v5, v6, v7, v8, v9, v10, v11] T (0, 0)) := set_block h 0 u0
 clear h
 have h1 : ((w.setCell ⟨X, 0, none⟩ u0).setCell ⟨X, 1, none⟩ u1).heap[X]? = some (.cells #[u0, u1, v2, v3, v4, v5, v6, v7, v8, v9, v10, v11] T (0, 0)) := set_block h0 1 u1
 clear h0
 have h2 : (((w.setCell ⟨X, 0, none⟩ u0).setCell ⟨X, 1, none⟩ u1).setCell ⟨X, 2, none⟩ u2).heap[X]? = some (.cells #[u0, u1, u2, v3, v4, v5, v6, v7, v8, v9, v10, v11] T (0, 0)) := set_block h1 2 u2
 clear h1
 have h3 : ((((w.setCell ⟨X, 0, none⟩ u0).setCell ⟨X, 1, none⟩ u1).setCell ⟨X, 2, none⟩ u2).setCell ⟨X, 3, none⟩ u3).heap[X]? = some (.cells #[u0, u1, u2, u3, v4, v5, v6, v7, v8, v9, v10, v11] T (0, 0)) := set_block h2 3 u3
 clear h2
 have h4 : (((((w.setCell ⟨X, 0, none⟩ u0).setCell ⟨X, 1, none⟩ u1).setCell ⟨X, 2, none⟩ u2).setCell ⟨X, 3, none⟩ u3).setCell ⟨X, 4, none⟩ u4).heap[X]? = some (.cells #[u0, u1, u2, u3, u4, v5, v6, v7, v8, v9, v10, v11] T (0, 0)) := set_block h3 4 u4
 clear h3
 have h5 : ((((((w.setCell ⟨X, 0, none⟩ u0).setCell ⟨X, 1, none⟩ u1).setCell ⟨X, 2, none⟩ u2).setCell ⟨X, 3, none⟩ u3).setCell ⟨X, 4, none⟩ u4).setCell ⟨X, 5, none⟩ u5).heap[X]? = some (.cells #[u0, u1, u2, u3, u4, u5, v6, v7, v8, v9, v10, v11] T (0, 0)) := set_block h4 5 u5
 clear h4
 have h6 : (((((((w.setCell ⟨X, 0, none⟩ u0).setCell ⟨X, 1, none⟩ u1).setCell ⟨X, 2, none⟩ u2).setCell ⟨X, 3, none⟩ u3).setCell ⟨X, 4, none⟩ u4).setCell ⟨X, 5, none⟩ u5).setCell ⟨X, 6, none⟩ u6).heap[X]? = some (.cells #[u0, u1, u2, u3, u4, u5, u6, v7, v8, v9, v10, v11] T (0, 0)) := set_block h5 6 u6
 clear h5
 have h7 : ((((((((w.setCell ⟨X, 0, none⟩ u0).setCell ⟨X, 1, none⟩ u1).setCell ⟨X, 2, none⟩ u2).setCell ⟨X, 3, none⟩ u3).setCell ⟨X, 4, none⟩ u4).setCell ⟨X, 5, none⟩ u5).setCell ⟨X, 6, none⟩ u6).setCell ⟨X, 7, none⟩ u7).heap[X]? = some (.cells #[u0, u1, u2, u3, u4, u5, u6, u7, v8, v9, v10, v11] T (0, 0)) := set_block h6 7 u7
 clear h6
 have h8 : (((((((((w.setCell ⟨X, 0, none⟩ u0).setCell ⟨X, 1, none⟩ u1).setCell ⟨X, 2, none⟩ u2).setCell ⟨X, 3, none⟩ u3).setCell ⟨X, 4, none⟩ u4).setCell ⟨X, 5, none⟩ u5).setCell ⟨X, 6, none⟩ u6).setCell ⟨X, 7, none⟩ u7).setCell ⟨X, 8, none⟩ u8).heap[X]? = some (.cells #[u0, u1, u2, u3, u4, u5, u6, u7, u8, v9, v10, v11] T (0, 0)) := set_block h7 8 u8
 clear h7
 have h9 : ((((((((((w.setCell ⟨X, 0, none⟩ u0).setCell ⟨X, 1, none⟩ u1).setCell ⟨X, 2, none⟩ u2).setCell ⟨X, 3, none⟩ u3).setCell ⟨X, 4, none⟩ u4).setCell ⟨X, 5, none⟩ u5).setCell ⟨X, 6, none⟩ u6).setCell ⟨X, 7, none⟩ u7).setCell ⟨X, 8, none⟩ u8).setCell ⟨X, 9, none⟩ u9).heap[X]? = some (.cells #[u0, u1, u2, u3, u4, u5, u6, u7, u8, u9, v10, v11] T (0, 0)) := set_block h8 9 u9
 clear h8
 have h10 : (((((((((((w.setCell ⟨X, 0, none⟩ u0).setCell ⟨X, 1, none⟩ u1).setCell ⟨X, 2, none⟩ u2).setCell ⟨X, 3, none⟩ u3).setCell ⟨X, 4, none⟩ u4).setCell ⟨X, 5, none⟩ u5).setCell ⟨X, 6, none⟩ u6).setCell ⟨X, 7, none⟩ u7).setCell ⟨X, 8, none⟩ u8).setCell ⟨X, 9, none⟩ u9).setCell ⟨X, 10, none⟩ u10).heap[X]? = some (.cells #[u0, u1, u2, u3, u4, u5, u6, u7, u8, u9, u10, v11] T (0, 0)) := set_block h9 10 u10
 clear h9
 have h11 : ((((((((((((w.setCell ⟨X, 0, none⟩ u0).setCell ⟨X, 1, none⟩ u1).setCell ⟨X, 2, none⟩ u2).setCell ⟨X, 3, none⟩ u3).setCell ⟨X, 4, none⟩ u4).setCell ⟨X, 5, none⟩ u5).setCell ⟨X, 6, none⟩ u6).setCell ⟨X, 7, none⟩ u7).setCell ⟨X, 8, none⟩ u8).setCell ⟨X, 9, none⟩ u9).setCell ⟨X, 10, none⟩ u10).setCell ⟨X, 11, none⟩ u11).heap[X]? = some (.cells #[u0, u1, u2, u3, u4, u5, u6, u7, u8, u9, u10, u11] T (0, 0)) := set_block h10 11 u11
 clear h10
 exact h11
theorem put12_oth {w : World} {X k : Nat} (h : k ≠ X) (v0 v1 v2 v3 v4 v5 v6 v7 v8 v9 v10 v11 : Value) : (put12 w X v0 v1 v2 v3 v4 v5 v6 v7 v8 v9 v10 v11).heap[k]? = w.heap[k]? := by
 rw [oth1 _ _ _ h, oth1 _ _ _ h, oth1 _ _ _ h, oth1 _ _ _ h, oth1 _ _ _ h, oth1 _ _ _ h, oth1 _ _ _ h, oth1 _ _ _ h, oth1 _ _ _ h, oth1 _ _ _ h, oth1 _ _ _ h, oth1 _ _ _ h]
theorem put12_size (w : World) (X : Nat) (v0 v1 v2 v3 v4 v5 v6 v7 v8 v9 v10 v11 : Value) : (put12 w X v0 v1 v2 v3 v4 v5 v6 v7 v8 v9 v10 v11).heap.size = w.heap.size := by simp [put12, World.setCell]
theorem But.put12 {P X : Nat} {w w' : World} (h : But P w w') (hX : w.heap.size <= X) (v0 v1 v2 v3 v4 v5 v6 v7 v8 v9 v10 v11 : Value) : But P w (put12 w' X v0 v1 v2 v3 v4 v5 v6 v7 v8 v9 v10 v11) := ((((((((((((h).setX hX 0 v0).setX hX 1 v1).setX hX 2 v2).setX hX 3 v3).setX hX 4 v4).setX hX 5 v5).setX hX 6 v6).setX hX 7 v7).setX hX 8 v8).setX hX 9 v9).setX hX 10 v10).setX hX 11 v11
theorem GPr.node {b : Nat} {w : World} {k : Int} {c x : ByteArray} {ls : List ByteArray} {vs : List Vl} {t : Ty} {ps : List Pr} {lv av tl tk kv : Value} (hc : c.size <= maxLen) (hx : x.size <= maxLen) (hl : StrSl (fun j => b <= j /\ j < w.heap.size) w lv ls) (ha : VlSl (fun j => b <= j /\ j < w.heap.size) w av vs) (ht : TyVal (fun j => b <= j /\ j < w.heap.size) w (.agg #[.int .i64 t.k, .int .i64 t.p, .string t.n, .int .i64 t.s, tl, tk]) t) (hk : PrSl (fun j => b <= j /\ j < w.heap.size) w kv ps) :
 GPr b w (.mk k c x ls vs t ps) (.agg #[.int .i64 k, .string c, .string x, lv, av, .int .i64 t.k, .int .i64 t.p, .string t.n, .int .i64 t.s, tl, tk, kv]) := ⟨_, _, _, _, _, rfl, ⟨hc, hx⟩, hl, ha, ht, hk⟩
theorem GPr.put12 {c X : Nat} {w : World} {p : Pr} {v : Value} (h : GPr c w p v) (hX : X < c) (v0 v1 v2 v3 v4 v5 v6 v7 v8 v9 v10 v11 : Value) : GPr c (put12 w X v0 v1 v2 v3 v4 v5 v6 v7 v8 v9 v10 v11) p v :=
 (PrVal.keep (fun k o hk ho _ => (put12_oth (show k ≠ X from fun e => by have := hk.1; omega) v0 v1 v2 v3 v4 v5 v6 v7 v8 v9 v10 v11).trans ho) h).mono (fun _ hk => ⟨hk.1, by rw [put12_size]; exact hk.2⟩)
theorem GPrs.mono {b c : Nat} {w : World} {ps : List Pr} {v : Value} (h : GPrs b w ps v) (hc : c <= b) : GPrs c w ps v := PrSl.mono (fun _ hk => ⟨Nat.le_trans hc hk.1, hk.2⟩) h
theorem vls_nil (B : Nat -> Prop) (w : World) : VlSl B w (.slice none 0 0) [] := ⟨.inl ⟨⟨_, _, rfl⟩, rfl⟩, Nat.zero_le _, fun s hs => by cases hs⟩
theorem strs_nil (B : Nat -> Prop) (w : World) : StrSl B w (.slice none 0 0) [] := ⟨.inl ⟨⟨_, _, rfl⟩, rfl⟩, Nat.zero_le _, fun s hs => by cases hs⟩
theorem zT_at (b : Nat) (w : World) : GTy b w zT (.agg #[.int .i64 0, .int .i64 0, .string ⟨#[]⟩, .int .i64 0, .slice none 0 0, .slice none 0 0]) := GTy.leaf b w 0 0 0 ⟨#[]⟩ (Nat.zero_le _)
theorem precv_any (P tb : Nat) (E : Int) (ts : List Tk) (B : Nat) (w : World) (he : Env B w) (hBP : B <= P) (h : PaIs P tb E ts w) (S : List Tk -> PR Pr) (n : Nat) (hn : ts.length < n) (hS : SingOK P tb E B S n) (c : ByteArray) (hcz : c.size <= maxLen) :
 Calls Tryz.prog 138 #[.pointer (some ⟨P, 0, none⟩), .string c] w (Parsed P tb E w (precvS nameB S c ts) (GPr w.heap.size)) := by
 obtain ⟨W1, hW1⟩ := ex1 (w.alloc (.cells z12 31))
 have hb1 := (made hW1).1
 have x1 := (made hW1).2
 have hs1 : w.heap.size < W1.heap.size := (gl x1)
 have hP : P < w.heap.size := h.lt
 have htb : tb ≠ w.heap.size := Nat.ne_of_lt h.tlt
 have HTB := hid h.tlt
 have HP : Hid (PaIs P tb E ts W1) := hid (h.to hb1)
 have HB : Hid (But P W1 W1) := hid (But.refl _ _)
 have HW1 := hid hW1
 have HB1 := hid hb1
 have HX1 := hid x1
 have HE := hid (he.to hb1)
 clear hW1 hb1 x1 he h
 unfold precvS
 have HS := hid hS
 clear hS
 cases h1 : need sOpen ts with
 | bad er r =>
  show Calls _ _ _ _ (Parsed P tb E w (PR.bad er r) _)
  go_enter Tryz.func138, Tryz.ntmps138
  go_upto_region 1 with fail
  rw [HW1.out]
  go_wp2_with (first | (go_at_call 52; refine (expB HP HB h1).mono ?_; rintro _ wn ⟨rfl, HB⟩))
  exact ⟨rfl, rfl, (But.of HB1.out).trans HB.out⟩
 | ok un r1 =>
  have hlr1 : r1.length < n := by have := need_le h1; omega
  cases h2 : pname nameB r1 with
  | bad er r =>
   show Calls _ _ _ _ (Parsed P tb E w ((pname nameB r1).bind _) _)
   rw [h2]
   show Calls _ _ _ _ (Parsed P tb E w (PR.bad er r) _)
   go_enter Tryz.func138, Tryz.ntmps138
   go_upto_region 1 with fail
   rw [HW1.out]
   go_wp2_with (first | (go_at_call 52; refine (expH HP HB h1).mono ?_; rintro _ wn ⟨rfl, HP, HB⟩) | (go_at_call 78; refine (namB (HE.out.but HB.out hBP) HP HB h2).mono ?_; rintro _ wn ⟨rfl, HB⟩))
   exact ⟨rfl, rfl, (But.of HB1.out).trans HB.out⟩
  | ok nm r2 =>
   have hlr2 : r2.length < n := by have := pname_le h2; omega
   show Calls _ _ _ _ (Parsed P tb E w ((pname nameB r1).bind _) _)
   rw [h2]
   cases h3 : need sShut r2 with
   | bad er r =>
    show Calls _ _ _ _ (Parsed P tb E w ((need sShut r2).bind _) _)
    rw [h3]
    show Calls _ _ _ _ (Parsed P tb E w (PR.bad er r) _)
    go_enter Tryz.func138, Tryz.ntmps138
    go_upto_region 1 with fail
    rw [HW1.out]
    go_wp2_with (first | (go_at_call 52; refine (expH HP HB h1).mono ?_; rintro _ wn ⟨rfl, HP, HB⟩) | (go_at_call 78; refine (namH (HE.out.but HB.out hBP) HP HB h2).mono ?_; rintro _ wn ⟨rfl, hnz, HP, HB⟩) | (go_at_call 52; refine (expB HP HB h3).mono ?_; rintro _ wn ⟨rfl, HB⟩))
    exact ⟨rfl, rfl, (But.of HB1.out).trans HB.out⟩
   | ok un3 r3 =>
    have hlr3 : r3.length < n := by have := need_le h3; omega
    show Calls _ _ _ _ (Parsed P tb E w ((need sShut r2).bind _) _)
    rw [h3]
    cases h4 : prestS S r3 with
    | bad er r =>
     show Calls _ _ _ _ (Parsed P tb E w ((prestS S r3).bind _) _)
     rw [h4]
     show Calls _ _ _ _ (Parsed P tb E w (PR.bad er r) _)
     go_enter Tryz.func138, Tryz.ntmps138
     go_upto_region 1 with fail
     rw [HW1.out]
     go_wp2_with (first | (go_at_call 52; refine (expH HP HB h1).mono ?_; rintro _ wn ⟨rfl, HP, HB⟩) | (go_at_call 78; refine (namH (HE.out.but HB.out hBP) HP HB h2).mono ?_; rintro _ wn ⟨rfl, hnz, HP, HB⟩) | (go_at_call 52; refine (expH HP HB h3).mono ?_; rintro _ wn ⟨rfl, HP, HB⟩) | (go_at_call 139; refine (prest_any P tb E _ B _ (HE.out.but HB.out hBP) hBP HP.out S n hlr3 HS.out).mono ?_; rw [h4]; rintro en wn ⟨rfl, hb⟩; replace HB := hid (HB.out.trans hb); clear hb))
     exact ⟨rfl, rfl, (But.of HB1.out).trans HB.out⟩
    | ok p r =>
     show Calls _ _ _ _ (Parsed P tb E w ((prestS S r3).bind _) _)
     rw [h4]
     show Calls _ _ _ _ (Parsed P tb E w (PR.ok (Pr.mk 3 c nm [] [] zT [p]) r) _)
     go_enter Tryz.func138, Tryz.ntmps138
     go_upto_region 1 with fail
     rw [HW1.out]
     go_wp2_with (first | (go_at_call 52; refine (expH HP HB h1).mono ?_; rintro _ wn ⟨rfl, HP, HB⟩) | (go_at_call 78; refine (namH (HE.out.but HB.out hBP) HP HB h2).mono ?_; rintro _ wn ⟨rfl, hnz, HP, HB⟩) | (go_at_call 52; refine (expH HP HB h3).mono ?_; rintro _ wn ⟨rfl, HP, HB⟩) | (go_at_call 139; refine (prest_any P tb E _ B _ (HE.out.but HB.out hBP) hBP HP.out S n hlr3 HS.out).mono ?_; rw [h4]; rintro en wn ⟨⟨v, rfl, hg⟩, hp, hb⟩; obtain ⟨ka, kn, kc, rfl, -⟩ := PrSl.open hg; have HPn := hid hp; have HG := hid (GPrs.mono hg (show W1.heap.size <= _ from HB.out.size)); have HBn := hid (HB.out.trans hb); clear hg; clear hp hb HP HB; have HP := HPn; have HB := HBn; clear HPn HBn; have hx9 := (HB.out.block w.heap.size hs1 (Nat.ne_of_gt hP)).trans HX1.out; obtain ⟨⟨q0, q1, q2, q3, q4, q5, q6, q7, q8, q9, q10, q11⟩, z0, z1, z2, z3, z4, z5, z6, z7, z8, z9, z10, z11⟩ := c12p hx9; have HX9 := hid hx9; clear hx9))
     have hx8 := fill12 HX9.out (.int .i64 3) (.string c) (.string nm) (.slice none 0 0) (.slice none 0 0) (.int .i64 0) (.int .i64 0) (.string ⟨#[]⟩) (.int .i64 0) (.slice none 0 0) (.slice none 0 0) (.slice ka kn kc)
     obtain ⟨⟨y0, y1, y2, y3, y4, y5, y6, y7, y8, y9, y10, y11⟩, -⟩ := c12p hx8
     refine bodyPost_ret (v := .agg #[.int .i64 3, .string c, .string nm, .slice none 0 0, .slice none 0 0, .int .i64 0, .int .i64 0, .string ⟨#[]⟩, .int .i64 0, .slice none 0 0, .slice none 0 0, .slice ka kn kc]) (by simp [results, Tryz.results138, go_sem, y0, y1, y2, y3, y4, y5, y6, y7, y8, y9, y10, y11]) rfl ?_
     exact ⟨⟨_, rfl, ((GPr.node (t := zT) hcz hnz (strs_nil _ _) (vls_nil _ _) (zT_at _ _) HG.out).put12 hs1 (.int .i64 3) (.string c) (.string nm) (.slice none 0 0) (.slice none 0 0) (.int .i64 0) (.int .i64 0) (.string ⟨#[]⟩) (.int .i64 0) (.slice none 0 0) (.slice none 0 0) (.slice ka kn kc)).mono (Nat.le_of_lt hs1)⟩, HP.out.oth (X := w.heap.size) (fun j hj => put12_oth hj (.int .i64 3) (.string c) (.string nm) (.slice none 0 0) (.slice none 0 0) (.int .i64 0) (.int .i64 0) (.string ⟨#[]⟩) (.int .i64 0) (.slice none 0 0) (.slice none 0 0) (.slice ka kn kc)) (put12_size _ _ (.int .i64 3) (.string c) (.string nm) (.slice none 0 0) (.slice none 0 0) (.int .i64 0) (.int .i64 0) (.string ⟨#[]⟩) (.int .i64 0) (.slice none 0 0) (.slice none 0 0) (.slice ka kn kc)) (Nat.ne_of_gt hP) htb, ((But.of HB1.out).trans HB.out).put12 (Nat.le_refl _) (.int .i64 3) (.string c) (.string nm) (.slice none 0 0) (.slice none 0 0) (.int .i64 0) (.int .i64 0) (.string ⟨#[]⟩) (.int .i64 0) (.slice none 0 0) (.slice none 0 0) (.slice ka kn kc)⟩
theorem c7p {w : World} {X : Nat} {T : TypeId} {v0 v1 v2 v3 v4 v5 v6 : Value} (h : w.heap[X]? = some (.cells #[v0, v1, v2, v3, v4, v5, v6] T (0, 0))) : (w.cell? ⟨X, 0, none⟩ = some v0 /\ w.cell? ⟨X, 1, none⟩ = some v1 /\ w.cell? ⟨X, 2, none⟩ = some v2 /\ w.cell? ⟨X, 3, none⟩ = some v3 /\ w.cell? ⟨X, 4, none⟩ = some v4 /\ w.cell? ⟨X, 5, none⟩ = some v5 /\ w.cell? ⟨X, 6, none⟩ = some v6) /\ w.frozen? ⟨X, 0, none⟩ = false /\ w.frozen? ⟨X, 1, none⟩ = false /\ w.frozen? ⟨X, 2, none⟩ = false /\ w.frozen? ⟨X, 3, none⟩ = false /\ w.frozen? ⟨X, 4, none⟩ = false /\ w.frozen? ⟨X, 5, none⟩ = false /\ w.frozen? ⟨X, 6, none⟩ = false := by
 refine ⟨⟨?_, ?_, ?_, ?_, ?_, ?_, ?_⟩, frozen_of_block h 0, frozen_of_block h 1, frozen_of_block h 2, frozen_of_block h 3, frozen_of_block h 4, frozen_of_block h 5, frozen_of_block h 6⟩ <;> simp [World.cell?, h]
abbrev put7 (w : World) (X : Nat) (v0 v1 v2 v3 v4 v5 v6 : Value) : World := (((((((w.setCell ⟨X, 0, none⟩ v0).setCell ⟨X, 1, none⟩ v1).setCell ⟨X, 2, none⟩ v2).setCell ⟨X, 3, none⟩ v3).setCell ⟨X, 4, none⟩ v4).setCell ⟨X, 5, none⟩ v5).setCell ⟨X, 6, none⟩ v6)
theorem fill7 {w : World} {X : Nat} {T : TypeId} {v0 v1 v2 v3 v4 v5 v6 : Value} (h : w.heap[X]? = some (.cells #[v0, v1, v2, v3, v4, v5, v6] T (0, 0))) (u0 u1 u2 u3 u4 u5 u6 : Value) : (put7 w X u0 u1 u2 u3 u4 u5 u6).heap[X]? = some (.cells #[u0, u1, u2, u3, u4, u5, u6] T (0, 0)) := by
 have h0 : (w.setCell ⟨X, 0, none⟩ u0).heap[X]? = some (.cells #[u0, v1, v2, v3, v4, v5, v6] T (0, 0)) := set_block h 0 u0
 clear h
 have h1 : ((w.setCell ⟨X, 0, none⟩ u0).setCell ⟨X, 1, none⟩ u1).heap[X]? = some (.cells #[u0, u1, v2, v3, v4, v5, v6] T (0, 0)) := set_block h0 1 u1
 clear h0
 have h2 : (((w.setCell ⟨X, 0, none⟩ u0).setCell ⟨X, 1, none⟩ u1).setCell ⟨X, 2, none⟩ u2).heap[X]? = some (.cells #[u0, u1, u2, v3, v4, v5, v6] T (0, 0)) := set_block h1 2 u2
 clear h1
 have h3 : ((((w.setCell ⟨X, 0, none⟩ u0).setCell ⟨X, 1, none⟩ u1).setCell ⟨X, 2, none⟩ u2).setCell ⟨X, 3, none⟩ u3).heap[X]? = some (.cells #[u0, u1, u2, u3, v4, v5, v6] T (0, 0)) := set_block h2 3 u3
 clear h2
 have h4 : (((((w.setCell ⟨X, 0, none⟩ u0).setCell ⟨X, 1, none⟩ u1).setCell ⟨X, 2, none⟩ u2).setCell ⟨X, 3, none⟩ u3).setCell ⟨X, 4, none⟩ u4).heap[X]? = some (.cells #[u0, u1, u2, u3, u4, v5, v6] T (0, 0)) := set_block h3 4 u4
 clear h3
 have h5 : ((((((w.setCell ⟨X, 0, none⟩ u0).setCell ⟨X, 1, none⟩ u1).setCell ⟨X, 2, none⟩ u2).setCell ⟨X, 3, none⟩ u3).setCell ⟨X, 4, none⟩ u4).setCell ⟨X, 5, none⟩ u5).heap[X]? = some (.cells #[u0, u1, u2, u3, u4, u5, v6] T (0, 0)) := set_block h4 5 u5
 clear h4
 have h6 : (((((((w.setCell ⟨X, 0, none⟩ u0).setCell ⟨X, 1, none⟩ u1).setCell ⟨X, 2, none⟩ u2).setCell ⟨X, 3, none⟩ u3).setCell ⟨X, 4, none⟩ u4).setCell ⟨X, 5, none⟩ u5).setCell ⟨X, 6, none⟩ u6).heap[X]? = some (.cells #[u0, u1, u2, u3, u4, u5, u6] T (0, 0)) := set_block h5 6 u6
 clear h5
 exact h6
theorem put7_oth {w : World} {X k : Nat} (h : k ≠ X) (v0 v1 v2 v3 v4 v5 v6 : Value) : (put7 w X v0 v1 v2 v3 v4 v5 v6).heap[k]? = w.heap[k]? := by
 rw [oth1 _ _ _ h, oth1 _ _ _ h, oth1 _ _ _ h, oth1 _ _ _ h, oth1 _ _ _ h, oth1 _ _ _ h, oth1 _ _ _ h]
theorem put7_size (w : World) (X : Nat) (v0 v1 v2 v3 v4 v5 v6 : Value) : (put7 w X v0 v1 v2 v3 v4 v5 v6).heap.size = w.heap.size := by simp [put7, World.setCell]
theorem But.put7 {P X : Nat} {w w' : World} (h : But P w w') (hX : w.heap.size <= X) (v0 v1 v2 v3 v4 v5 v6 : Value) : But P w (put7 w' X v0 v1 v2 v3 v4 v5 v6) := (((((((h).setX hX 0 v0).setX hX 1 v1).setX hX 2 v2).setX hX 3 v3).setX hX 4 v4).setX hX 5 v5).setX hX 6 v6
def GPm (b : Nat) (w : World) (a : Pm) (v : Value) : Prop := ∃ tl tk, v = .agg #[.string a.n, .int .i64 a.t.k, .int .i64 a.t.p, .string a.t.n, .int .i64 a.t.s, tl, tk] /\ a.n.size <= maxLen /\ GTy b w a.t (.agg #[.int .i64 a.t.k, .int .i64 a.t.p, .string a.t.n, .int .i64 a.t.s, tl, tk])
theorem GTy.put7 {c X : Nat} {w : World} {t : Ty} {v : Value} (h : GTy c w t v) (hX : X < c) (v0 v1 v2 v3 v4 v5 v6 : Value) : GTy c (put7 w X v0 v1 v2 v3 v4 v5 v6) t v :=
 (TyVal.keep (fun k o hk ho _ => (put7_oth (show k ≠ X from fun e => by have := hk.1; omega) v0 v1 v2 v3 v4 v5 v6).trans ho) h).mono (fun _ hk => ⟨hk.1, by rw [put7_size]; exact hk.2⟩)
def pparamS (S : List Tk -> PR Ty) (ts : List Tk) : PR Pm := (pname nameB ts).bind fun n r => (need sColon r).bind fun _ r => (panyS S r).bind fun t r => .ok ⟨n, t⟩ r
theorem pparam_any (P tb : Nat) (E : Int) (ts : List Tk) (B : Nat) (w : World) (he : Env B w) (hBP : B <= P) (h : PaIs P tb E ts w) (S : List Tk -> PR Ty) (n : Nat) (hn : ts.length <= n) (hS : SessOK P tb E B S n) :
 Calls Tryz.prog 80 #[.pointer (some ⟨P, 0, none⟩)] w (Parsed P tb E w (pparamS S ts) (GPm w.heap.size)) := by
 obtain ⟨W1, hW1⟩ := ex1 (w.alloc (.cells #[.string ⟨#[]⟩, .int .i64 0, .int .i64 0, .string ⟨#[]⟩, .int .i64 0, .slice none 0 0, .slice none 0 0] 63))
 have hb1 := (made hW1).1
 have x1 := (made hW1).2
 have hs1 : w.heap.size < W1.heap.size := (gl x1)
 have hP : P < w.heap.size := h.lt
 have htb : tb ≠ w.heap.size := Nat.ne_of_lt h.tlt
 have HTB := hid h.tlt
 have HP : Hid (PaIs P tb E ts W1) := hid (h.to hb1)
 have HB : Hid (But P W1 W1) := hid (But.refl _ _)
 have HW1 := hid hW1
 have HB1 := hid hb1
 have HX1 := hid x1
 have HE := hid (he.to hb1)
 clear hW1 hb1 x1 he h
 unfold pparamS
 have HS := hid hS
 clear hS
 cases h1 : pname nameB ts with
 | bad er r =>
  show Calls _ _ _ _ (Parsed P tb E w (PR.bad er r) _)
  go_enter Tryz.func80, Tryz.ntmps80
  go_upto_region 1 with fail
  rw [HW1.out]
  go_wp2_with (first | (go_at_call 78; refine (namB (HE.out.but HB.out hBP) HP HB h1).mono ?_; rintro _ wn ⟨rfl, HB⟩))
  exact ⟨rfl, rfl, (But.of HB1.out).trans HB.out⟩
 | ok nm r1 =>
  have hlr1 : r1.length < n := by have := pname_le h1; omega
  cases h2 : need sColon r1 with
  | bad er r =>
   show Calls _ _ _ _ (Parsed P tb E w ((need sColon r1).bind _) _)
   rw [h2]
   show Calls _ _ _ _ (Parsed P tb E w (PR.bad er r) _)
   go_enter Tryz.func80, Tryz.ntmps80
   go_upto_region 1 with fail
   rw [HW1.out]
   go_wp2_with (first | (go_at_call 78; refine (namH (HE.out.but HB.out hBP) HP HB h1).mono ?_; rintro _ wn ⟨rfl, hnz, HP, HB⟩) | (go_at_call 52; refine (expB HP HB h2).mono ?_; rintro _ wn ⟨rfl, HB⟩))
   exact ⟨rfl, rfl, (But.of HB1.out).trans HB.out⟩
  | ok un r2 =>
   have hlr2 : r2.length < n := by have := need_le h2; omega
   show Calls _ _ _ _ (Parsed P tb E w ((need sColon r1).bind _) _)
   rw [h2]
   cases h3 : panyS S r2 with
   | bad er r =>
    show Calls _ _ _ _ (Parsed P tb E w ((panyS S r2).bind _) _)
    rw [h3]
    show Calls _ _ _ _ (Parsed P tb E w (PR.bad er r) _)
    go_enter Tryz.func80, Tryz.ntmps80
    go_upto_region 1 with fail
    rw [HW1.out]
    go_wp2_with (first | (go_at_call 78; refine (namH (HE.out.but HB.out hBP) HP HB h1).mono ?_; rintro _ wn ⟨rfl, hnz, HP, HB⟩) | (go_at_call 52; refine (expH HP HB h2).mono ?_; rintro _ wn ⟨rfl, HP, HB⟩) | (go_at_call 36; refine (pany_any P tb E _ B _ (HE.out.but HB.out hBP) hBP HP.out S n hlr2 HS.out).mono ?_; rw [h3]; rintro en wn ⟨rfl, hb⟩; replace HB := hid (HB.out.trans hb); clear hb))
    exact ⟨rfl, rfl, (But.of HB1.out).trans HB.out⟩
   | ok t r =>
    show Calls _ _ _ _ (Parsed P tb E w ((panyS S r2).bind _) _)
    rw [h3]
    show Calls _ _ _ _ (Parsed P tb E w (PR.ok (⟨nm, t⟩ : Pm) r) _)
    go_enter Tryz.func80, Tryz.ntmps80
    go_upto_region 1 with fail
    rw [HW1.out]
    go_wp2_with (first | (go_at_call 78; refine (namH (HE.out.but HB.out hBP) HP HB h1).mono ?_; rintro _ wn ⟨rfl, hnz, HP, HB⟩) | (go_at_call 52; refine (expH HP HB h2).mono ?_; rintro _ wn ⟨rfl, HP, HB⟩) | (go_at_call 36; refine (pany_any P tb E _ B _ (HE.out.but HB.out hBP) hBP HP.out S n hlr2 HS.out).mono ?_; rw [h3]; rintro en wn ⟨⟨v, rfl, hg⟩, hp, hb⟩; obtain ⟨la, ln, lc, ka, kn, kc, rfl⟩ := hg.open; have HPn := hid hp; have HG := hid (hg.mono (show W1.heap.size <= _ from HB.out.size)); have HBn := hid (HB.out.trans hb); clear hg; clear hp hb HP HB; have HP := HPn; have HB := HBn; clear HPn HBn; have hx9 := (HB.out.block w.heap.size hs1 (Nat.ne_of_gt hP)).trans HX1.out; obtain ⟨⟨q0, q1, q2, q3, q4, q5, q6⟩, z0, z1, z2, z3, z4, z5, z6⟩ := c7p hx9; have HX9 := hid hx9; clear hx9))
    have hx8 := fill7 HX9.out (.string nm) (.int .i64 t.k) (.int .i64 t.p) (.string t.n) (.int .i64 t.s) (.slice la ln lc) (.slice ka kn kc)
    obtain ⟨⟨y0, y1, y2, y3, y4, y5, y6⟩, -⟩ := c7p hx8
    refine bodyPost_ret (v := .agg #[.string nm, .int .i64 t.k, .int .i64 t.p, .string t.n, .int .i64 t.s, .slice la ln lc, .slice ka kn kc]) (by simp [results, Tryz.results80, go_sem, y0, y1, y2, y3, y4, y5, y6]) rfl ?_
    exact ⟨⟨_, rfl, ⟨_, _, rfl, hnz, (HG.out.put7 hs1 (.string nm) (.int .i64 t.k) (.int .i64 t.p) (.string t.n) (.int .i64 t.s) (.slice la ln lc) (.slice ka kn kc)).mono (Nat.le_of_lt hs1)⟩⟩, HP.out.oth (X := w.heap.size) (fun j hj => put7_oth hj (.string nm) (.int .i64 t.k) (.int .i64 t.p) (.string t.n) (.int .i64 t.s) (.slice la ln lc) (.slice ka kn kc)) (put7_size _ _ (.string nm) (.int .i64 t.k) (.int .i64 t.p) (.string t.n) (.int .i64 t.s) (.slice la ln lc) (.slice ka kn kc)) (Nat.ne_of_gt hP) htb, ((But.of HB1.out).trans HB.out).put7 (Nat.le_refl _) (.string nm) (.int .i64 t.k) (.int .i64 t.p) (.string t.n) (.int .i64 t.s) (.slice la ln lc) (.slice ka kn kc)⟩
end Go.Proofs.YtejaboajgecpaaaGreatDoor
namespace Go.Proofs.YtejaboajgecpaaaGreatDoor
open Go.RowKit Go.Shelf
def inB (c : UInt8) (s : ByteArray) : Bool := s.data.toList.contains c
def rWord : List UInt8 -> Bool
 | [] => false
 | c :: r => Lx.letU c && r.all Lx.wcU
theorem all_take (p : UInt8 -> Bool) : ∀ (l : List UInt8) (k : Nat), k <= l.length -> (l.take k).all p = decide (k <= Lx.span p l)
 | _, 0, _ => by simp
 | [], k + 1, h => by simp at h
 | c :: r, k + 1, h => by
  rw [List.take_succ_cons, List.all_cons, Lx.span_cons]
  by_cases hc : p c = true
  ·rw [hc, if_pos rfl, Bool.true_and, all_take p r k (by simpa using h)]
   rw [decide_eq_decide]; omega
  ·have hc' : p c = false := by simpa using hc
   rw [hc', Bool.false_and, if_neg (by simp)]; simp
end Go.Proofs.YtejaboajgecpaaaGreatDoor
namespace Go.Proofs.YtejaboajgecpaaaGreatDoor
open Go.RowKit
def Later (n : Nat) (w0 : World) : Type := { w' : World // Below n w0 w' }
instance (n : Nat) (w0 : World) : Nonempty (Later n w0) := ⟨⟨w0, Below.refl _ _⟩⟩
theorem wp_region_later {P : Program} {id : Nat} {Q : Exit -> Act -> World -> Prop} {a : Act} {w : World} {l : List Oper} (n : Nat) (w0 : World) (hm : P.follows .mixedOrders = true) (hB : Region.lexB .any l.toArray = true) (hC : Below n w0 w)
 (h : wpQuiet P l.toArray (fun w' => ∃ q : Later n w0, w' = q.1) (fun a' => ∀ w', (∃ q : Later n w0, w' = q.1) -> Q .normal a' w') l a) : (Code.region id l.toArray true).wp P Q a w :=
 wp_region_quiet (C := fun w' => ∃ q : Later n w0, w' = q.1) hm hB ⟨⟨_, hC.drew⟩, rfl⟩ (by simpa using h)
theorem later_call {P : Program} {n : Nat} {w0 : World} {f : FuncId} {args : Array Value} {v : Value} (q : Later n w0) (hn : n <= w0.heap.size) (h : Calls P f args q.1 fun e w' => e = .returned v /\ Below q.1.heap.size q.1 w') :
 Calls P f args q.1 fun e w'' => e = .returned v /\ ∃ q' : Later n w0, w'' = q'.1 :=
 h.mono fun _ w2 ⟨he, hb⟩ => ⟨he, ⟨⟨w2, q.2.trans (hb.mono (Nat.le_trans hn q.2.size))⟩, rfl⟩⟩
end Go.Proofs.YtejaboajgecpaaaGreatDoor
