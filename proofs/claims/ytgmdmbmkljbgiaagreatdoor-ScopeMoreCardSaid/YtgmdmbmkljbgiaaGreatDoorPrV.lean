/- Processes: the iterator over the nodes. -/
import Derived.Test.YtgmdmbmkljbgiaaGreatDoorPrM
import Derived.Test.YtgmdmbmkljbgiaaGreatDoorTyY
namespace Go.Proofs.YtgmdmbmkljbgiaaGreatDoor
open Go.RowKit Go.Deep Go.Shelf
attribute [local go_sem] Oper.semAt_some

/-- What a round is handed: the depth, the node. -/
structure Np where
  d : Nat
  b : Nat
  o : Nat
  p : Pr
abbrev npArgs (x : Np) : Array Value := #[.int .i64 x.d, .pointer (some ⟨x.b, x.o, none⟩)]
def Np.g (x : Np) : Nat × Pr := (x.d, x.p)
mutual
/-- All nodes, each before its Kids, with its depth. -/
def preP (d : Nat) : Pr → List (Nat × Pr)
  | .mk k c x ls vs t ps => (d, .mk k c x ls vs t ps) :: prePs (d + 1) ps
def prePs (d : Nat) : List Pr → List (Nat × Pr)
  | [] => []
  | p :: r => preP d p ++ prePs d r
end
theorem preP_eq (d : Nat) (p : Pr) : preP d p = (d, p) :: prePs (d + 1) p.ps := by cases p; simp [preP, Pr.ps]
theorem prePs_append (d : Nat) : ∀ (l r : List Pr), prePs d (l ++ r) = prePs d l ++ prePs d r
  | [], r => by simp [prePs]
  | p :: l, r => by simp only [List.cons_append, prePs, prePs_append d l r, List.append_assoc]
theorem prePs_take {d : Nat} {l : List Pr} {j : Nat} {p : Pr} (h : l[j]? = some p) : prePs d (l.take (j + 1)) = prePs d (l.take j) ++ preP d p := by
  rw [take_snoc_get h, prePs_append]
  simp [prePs]
theorem prePs_prefix (d : Nat) (l : List Pr) (j : Nat) : prePs d (l.take j) <+: prePs d l := by
  conv => rhs; rw [← List.take_append_drop j l, prePs_append]
  exact List.prefix_append _ _

/-- What holds in memory at a round. -/
def Pp (S : Nat → Prop) (G : Pr → Prop) (x : Np) (W : World) : Prop := PrAt S W x.p x.b x.o ∧ (1 ≤ x.d ∧ x.d ≤ 100000) ∧ G x.p
theorem Pp.kept {S : Nat → Prop} {G : Pr → Prop} {x : Np} {W W' : World} (h : CellsKept W W') (hp : Pp S G x W) : Pp S G x W' := ⟨hp.1.keep (h.keeps S), hp.2⟩
/-- What is returned by visit. -/
def PisPost (X : Nat → Prop) (J Jx : List Np → World → Prop) (pre : List Np) (d : Nat) (p : Pr) (W : World) (e : Ending) (W' : World) : Prop :=
  (e = .returned (.bool true) ∧ (∃ ys, ys.map Np.g = preP d p ∧ J (pre ++ ys) W') ∧ Kp X W W') ∨
  (e = .returned (.bool false) ∧ ∃ ys, ys.map Np.g <+: preP d p ∧ Jx (pre ++ ys) W')

set_option maxRecDepth 100000 in
set_option maxHeartbeats 2000000 in
theorem pvisit_in (G : Pr → Prop) (hG : ∀ p, G p → ∀ u ∈ p.ps, G u) (F : Fence) (hd : F.depth = none) (hF : ∀ f, F.fn f) (hro : F.round = none) (l : Nat) (S X : Nat → Prop) (hX : ∀ k, X k → ¬ S k) (J Jx : List Np → World → Prop)
    (hY : ∀ m pre x W, J pre W → Pp S G x W → YieldAt F m Tryz.prog l (npArgs x) W fun e W' => (e = .returned (.bool true) ∧ J (pre ++ [x]) W' ∧ Kp X W W') ∨ (e = .returned (.bool false) ∧ Jx (pre ++ [x]) W')) :
    ∀ (p : Pr) (n d b o : Nat) (pre : List Np) (W : World), J pre W → PrAt S W p b o → d + p.depth ≤ 100000 → 1 ≤ d → G p →
      CallsIn F n Tryz.prog 87 #[.int .i64 d, .pointer (some ⟨b, o, none⟩), .func (.yield l) #[] #[]] W (PisPost X J Jx pre d p W) := by
  refine Pr.ind ?_
  intro k c x ls vs t ps ih n d b o pre W hj hpr hdep hd1 hg0
  obtain ⟨p, hp0⟩ : ∃ p, Pr.mk k c x ls vs t ps = p := ⟨_, rfl⟩
  have hps : ps = p.ps := by rw [← hp0]; rfl
  rw [hp0] at hpr hdep hg0 ⊢
  have hdd : ∀ k : Nat, (F.depth.isSome = true → 1 ≤ k) := fun k h => by rw [hd] at h; cases h
  have hpos := p.depth_pos
  obtain ⟨fn, tmps, assign, body, hy, hR⟩ := hY (n - 1) pre ⟨d, b, o, p⟩ W hj ⟨hpr, ⟨hd1, by show d ≤ _; omega⟩, hg0⟩
  simp only [npArgs] at hy
  have HR := Lib.hid hR
  have HGK := Lib.hid (hG p hg0)
  have HPR := Lib.hid hpr
  have HPS := Lib.hid hps
  have HIH := Lib.hid ih
  clear hR hg0 hpr hps hp0 hj ih
  refine callsIn_of_wp Tryz.func87 rfl (hF _) ?_ hro
  simp only [Tryz.ntmps87, List.size_toArray, List.length_cons, List.length_nil, Nat.reduceAdd, Nat.reduceSub, Array.replicate_succ, Array.replicate_zero, List.push_toArray, List.append_toArray, List.nil_append, List.cons_append]
  gi_wp2_with fail
  refine HR.out.mono ?_
  rintro e W2 (⟨rfl, hj2, hk2⟩ | ⟨rfl, hx2⟩)
  · have hkS : Keeps S W W2 := hk2.keeps (fun k hk => ⟨fun hx => hX k hx hk, by simp [Value.ownBlock]⟩)
    obtain ⟨la, ln, lc, aa, an, ac, ta, tn, tc, ua, un, uc, ka, kn, kc, ⟨_, _, _, _, _, _, _, _, _, _, _, c11⟩, hval⟩ := (HPR.out.keep hkS).load'
    obtain ⟨_, _, _, _, _, e, _, _, _, _, hks⟩ := hval
    simp only [prAgg, Value.agg.injEq, Array.mk.injEq, List.cons.injEq, and_true, true_and] at e
    obtain ⟨rfl, rfl, rfl, rfl, rfl⟩ := e
    obtain ⟨ka', kn', kc', he, hlen, hmx, hget⟩ := hks.open
    simp only [Value.slice.injEq] at he
    obtain ⟨rfl, rfl, rfl⟩ := he
    have hSb : S b := (PrAt.eq.1 HPR.out).1
    have HG := Lib.hid hget
    have HC := Lib.hid c11
    have HJ2 := Lib.hid hj2
    have HK2 := Lib.hid hk2
    clear hget hj2 hk2 hkS hks hy
    gi_wp2_with fail
    gi_loopw [18] (fun i wr => ∃ (j : Nat) (ys : List Np), i = .int .i64 j ∧ j ≤ kn ∧ Hid (ys.map Np.g = prePs (d + 1) (p.ps.take j)) ∧ Hid (J (pre ++ [⟨d, b, o, p⟩] ++ ys) wr) ∧ Hid (Kp X W2 wr)) (fun i _ => kn - (intOf i).toNat)
    case atStart => exact ⟨0, [], rfl, by omega, Lib.hid (by simp [prePs]), Lib.hid (by rw [List.append_nil]; exact HJ2.out), Lib.hid (KV.refl _ _ _)⟩
    case round =>
      obtain ⟨j, ys, rfl, hj, HYS, HJJ, HKV⟩ := hrel
      by_cases hlt : j < kn
      · obtain ⟨u, hu⟩ : ∃ u, p.ps[j]? = some u := ⟨_, List.getElem?_eq_getElem (by rw [← hlen.out]; exact hlt)⟩
        obtain ⟨kb, ko, rfl, hkb, hu'⟩ := HG.out j u hu
        have hkS : Keeps S W2 wr := HKV.out.keeps (fun k hk => ⟨fun hx => hX k hx hk, by simp [Value.ownBlock]⟩)
        have c11 := hkS.cell hSb HC.out
        have hmem : u ∈ ps := by rw [HPS.out]; exact List.mem_of_getElem? hu
        have hdu : u.depth + 1 ≤ p.depth := by rw [p.depth_eq]; have := Pr.depth_mem (List.mem_of_getElem? hu); omega
        have IH := Lib.hid (fun n' => HIH.out u hmem n' (d + 1) kb (ko + j * 12) (pre ++ [⟨d, b, o, p⟩] ++ ys) wr HJJ.out (hu'.keep hkS) (by omega) (by omega) (HGK.out u (List.mem_of_getElem? hu)))
        have hcast : (((d + 1 : Nat)) : Int) = (d : Int) + 1 := by omega
        rw [hcast] at IH
        have HPT := Lib.hid (prePs_take (d := d + 1) hu)
        have HPP := Lib.hid (prePs_prefix (d + 1) p.ps (j + 1))
        clear hu hu' hkS hmem hdu hcast
        gi_wp2_with fail
        refine (IH.out _).mono ?_
        rintro e w4 (⟨rfl, ⟨zs, hz1, hz2⟩, hkv⟩ | ⟨rfl, zs, hz1, hz2⟩)
        · have hys : Hid ((ys ++ zs).map Np.g = prePs (d + 1) (p.ps.take (j + 1))) := Lib.hid (by rw [List.map_append, HYS.out, hz1, HPT.out])
          have hjj : Hid (J (pre ++ [⟨d, b, o, p⟩] ++ (ys ++ zs)) w4) := Lib.hid (by rw [← List.append_assoc]; exact hz2)
          have hkk := Lib.hid (HKV.out.trans hkv)
          clear hz1 hz2 hkv
          gi_wp2_with fail
          exact ⟨⟨j + 1, ys ++ zs, by go_num, by omega, hys, hjj, hkk⟩, by simp [intOf]; omega⟩
        · have hq : ∃ q, q.map Np.g <+: preP d p ∧ Jx (pre ++ q) w4 := by
            refine ⟨[⟨d, b, o, p⟩] ++ (ys ++ zs), ?_, by simpa [List.append_assoc] using hz2⟩
            rw [preP_eq, List.map_append, List.map_append, HYS.out]
            refine (List.prefix_cons_inj _).2 ((List.IsPrefix.trans ?_ HPP.out))
            rw [HPT.out]
            refine (List.prefix_append_right_inj _).2 ?_
            simpa using hz1
          have HQ := Lib.hid hq
          clear hz1 hz2 hq
          gi_wp2
          go_ret
          exact .inr ⟨rfl, HQ.out⟩
      · obtain rfl : j = kn := by omega
        have hq : ∃ q, q.map Np.g = preP d p ∧ J (pre ++ q) wr := by
          refine ⟨[⟨d, b, o, p⟩] ++ ys, ?_, by simpa [List.append_assoc] using HJJ.out⟩
          rw [preP_eq, List.map_append, HYS.out, List.take_of_length_le (by rw [hlen.out]; exact Nat.le_refl _)]
          rfl
        have HQ := Lib.hid hq
        clear hq
        gi_wp2
        go_ret
        exact .inl ⟨rfl, HQ.out, HK2.out.trans HKV.out⟩
  · gi_wp2
    go_ret
    exact .inr ⟨rfl, [_], by rw [preP_eq]; exact ⟨prePs (d + 1) p.ps, rfl⟩, hx2⟩

set_option maxHeartbeats 1000000 in
theorem pnodes_any (a : Option Addr) (w : World) :
    Calls Tryz.prog 59 #[.pointer a] w fun e w' => e = .returned (.func (.func 86) #[] #[.pointer (some ⟨w.heap.size, 0, none⟩)]) ∧ w' = w.alloc (.cells #[.pointer a] 66) := by
  go_enter Tryz.func59, Tryz.ntmps59
  go_wp2
  go_ret
  exact ⟨rfl, rfl⟩

set_option maxRecDepth 100000 in
set_option maxHeartbeats 1000000 in
/-- The iterator that nodes returns tells each node, and its depth. -/
theorem pnodes_tells (G : Pr → Prop) (hG : ∀ p, G p → ∀ u ∈ p.ps, G u) (n : Nat) (Bt b o : Nat) (p : Pr) (S X : Nat → Prop) (w : World) (hX : ∀ k, X k → ¬ S k) (hS : ∀ k, S k → k < w.heap.size) (hBt : Bt < w.heap.size) (hc : w.cell? ⟨Bt, 0, none⟩ = some (.pointer (some ⟨b, o, none⟩))) (hpr : PrAt S w p b o) (hdep : p.depth ≤ 99999) (hg : G p) :
    Tells Fence.wide n Tryz.prog 86 #[.pointer (some ⟨Bt, 0, none⟩)] npArgs (Pp S G) (Kp X) (fun ys => ys.map Np.g = preP 1 p) (fun pre => pre.map Np.g <+: preP 1 p) w := by
  intro l J Jx W hW hJ _ hY h0
  have hp := pvisit_in G hG Fence.wide rfl (fun _ => trivial) rfl l S X hX J Jx (fun m pre x W1 hj hpx => yield_any rfl m (hY pre x W1 hj hpx)) p (n - 1) 1 b o [] W h0 (hpr.keep (hW.keeps'.mono hS)) (by omega) (by omega) hg
  have hc' := (hW.cell (p := ⟨Bt, 0, none⟩) hBt).trans hc
  have HP := Lib.hid hp
  clear hp hY h0 hJ
  refine callsIn_of_wp Tryz.func86 rfl trivial ?_ rfl
  simp only [Tryz.ntmps86, List.size_toArray, List.length_cons, List.length_nil, Nat.reduceAdd, Nat.reduceSub, Array.replicate_succ, Array.replicate_zero, List.push_toArray, List.append_toArray, List.nil_append, List.cons_append]
  gi_wp2_with fail
  refine ⟨trivial, ⟨fun h => (by cases h), ?_⟩⟩
  refine HP.out.mono ?_
  rintro e W1 (⟨rfl, ⟨ys, h1, h2⟩, _⟩ | ⟨rfl, ys, h1, h2⟩)
  · have H1 := Lib.hid h1
    have H2 := Lib.hid h2
    clear h1 h2
    gi_wp2
    go_end0
    exact ⟨⟨_, rfl⟩, .inl ⟨ys, H1.out, by simpa using H2.out⟩⟩
  · have H1 := Lib.hid h1
    have H2 := Lib.hid h2
    clear h1 h2
    gi_wp2
    go_end0
    exact ⟨⟨_, rfl⟩, .inr ⟨ys, H1.out, by simpa using H2.out⟩⟩

end Go.Proofs.YtgmdmbmkljbgiaaGreatDoor
