/- Types: visit, by induction on the type. -/
import Derived.Test.YtgmdmbmkljbgiaaGreatDoorTyV
namespace Go.Proofs.YtgmdmbmkljbgiaaGreatDoor
open Go.RowKit Go.Deep Go.Shelf
attribute [local go_sem] Oper.semAt_some

theorem room_none {F : Fence} (hd : F.depth = none) (k : Nat) : F.room k := fun d h => by rw [hd] at h; cases h
theorem yield_any {F : Fence} (hd : F.depth = none) {m : Nat} (m' : Nat) {P : Program} {l : Nat} {args : Array Value} {W : World} {R : Ending → World → Prop} (h : YieldAt F m P l args W R) : YieldAt F m' P l args W R := by
  obtain ⟨fn, tmps, assign, body, hy, hR⟩ := h
  exact ⟨fn, tmps, assign, body, hy, ⟨hR.1, fun c cs _ => hR.2 c cs (room_none hd _)⟩⟩

/-- Cells lie as they lay, but for the block of one slice. -/
def CellsBut (ar : Value) (W W' : World) : Prop := ∀ (k : Nat) (o : Obj), W.heap[k]? = some o → o.isCells = true → ar.ownBlock ≠ some k → W'.heap[k]? = some o
theorem CellsBut.keeps {ar : Value} {W W' : World} {S : Nat → Prop} (h : CellsBut ar W W') (hS : ∀ k, S k → ar.ownBlock ≠ some k) : Keeps S W W' := fun k o hk ho hc => h k o ho hc (hS k hk)
theorem grown_cells {ar : Value} {W w1 : World} {n g' c' : Nat} {tmp : Obj} (hcase : (ar = .slice (some ⟨g', 0, none⟩) n c' ∧ (W.alloc tmp).grownBy w1 (some g')) ∨ ((W.alloc tmp).heap.size ≤ g' ∧ (W.alloc tmp).grownBy w1 none)) : W.heap.size ≤ w1.heap.size ∧ CellsBut ar W w1 := by
  rcases hcase with ⟨rfl, hg⟩ | ⟨_, hg⟩
  · exact ⟨by have := hg.size; simp at this; omega, fun k o hk hc ha => (hg.block k (by have := (Array.getElem?_eq_some_iff.1 hk).1; simp; omega) (fun e => ha (by simp only [Option.some.injEq] at e; simp [Value.ownBlock, e]))).trans (cellsKept_alloc W tmp k o hk hc)⟩
  · exact ⟨by have := hg.size; simp at this; omega, fun k o hk hc _ => (hg.block k (by have := (Array.getElem?_eq_some_iff.1 hk).1; simp; omega) (by simp)).trans (cellsKept_alloc W tmp k o hk hc)⟩
theorem own_ge {W : World} {base n k : Nat} {e : TypeId} {size : Nat} {v : Value} {xs : List Value} (h : W.ownsRow base e size v n xs) (hk : v.ownBlock = some k) : base ≤ k := by
  rcases h.2 with ⟨rfl, _⟩ | ⟨g, cap, cur, rfl, hb, _⟩
  · simp [Value.ownBlock] at hk
  · obtain rfl : g = k := by simpa [Value.ownBlock] using hk
    exact hb

/-- What is returned by visit. -/
def VisPost (D : Nat) (S X : Nat → Prop) (J Jx : List Nd → World → Prop) (pre : List Nd) (ar : Value) (path : List Ty) (kid : Int) (t : Ty) (W : World) (e : Ending) (W' : World) : Prop :=
  (e = .returned (.bool true) ∧ (∃ ys, ys.map Nd.g = preT path kid t ∧ J (pre ++ ys) W') ∧ KV X ar W W' ∧ ARow D S W' ar path) ∨
  (e = .returned (.bool false) ∧ ∃ ys, ys.map Nd.g <+: preT path kid t ∧ Jx (pre ++ ys) W')

set_option maxRecDepth 100000 in
set_option maxHeartbeats 2000000 in
/-- visit, with a word G that a node around hands down to its Kids. -/
theorem visit_g (G : List Ty → Ty → Prop) (hG : ∀ path t, G path t → ∀ u ∈ t.ts, G (path ++ [t]) u) (F : Fence) (hd : F.depth = none) (hF : ∀ f, F.fn f) (hro : F.round = none) (l D : Nat) (S X : Nat → Prop) (hX : ∀ k, X k → ¬ S k ∧ k < D) (hS : ∀ k, S k → k < D) (J Jx : List Nd → World → Prop) (hJ : AbidesAll D J)
    (hY : ∀ m pre x W, J pre W → Px D S x W → G x.path x.ty → D ≤ W.heap.size → YieldAt F m Tryz.prog l (ndArgs x) W fun e W' => (e = .returned (.bool true) ∧ J (pre ++ [x]) W' ∧ Kp X W W') ∨ (e = .returned (.bool false) ∧ Jx (pre ++ [x]) W')) :
    ∀ (t : Ty) (n : Nat) (path : List Ty) (kid : Int) (pa : Option Addr) (an ac b o : Nat) (pre : List Nd) (W : World), D ≤ W.heap.size → J pre W → TyAt S W t b o → ARow D S W (.slice pa an ac) path → path.length + t.depth ≤ 1000 → G path t →
      CallsIn F n Tryz.prog 113 #[.agg #[.slice pa an ac, .int .i64 kid], .pointer (some ⟨b, o, none⟩), .func (.yield l) #[] #[]] W (VisPost D S X J Jx pre (.slice pa an ac) path kid t W) := by
  refine Ty.ind ?_
  intro k p nm s ls ts ih n path kid pa an ac b o pre W hDW hj hty hrow hdep hg0
  obtain ⟨t, ht0⟩ : ∃ t, Ty.mk k p nm s ls ts = t := ⟨_, rfl⟩
  have hts : ts = t.ts := by rw [← ht0]; rfl
  rw [ht0] at hty hdep hg0 ⊢
  have hdd : ∀ k : Nat, (F.depth.isSome = true → 1 ≤ k) := fun k h => by rw [hd] at h; cases h
  have hbx := blkBelow W #[.slice pa an ac, .int .i64 kid] 123
  have hj1 := hJ.alloc (.cells #[.slice pa an ac, .int .i64 kid] 123) hj
  have hck := cellsKept_alloc W (.cells #[.slice pa an ac, .int .i64 kid] 123)
  have hpx : Px D S ⟨.slice pa an ac, kid, b, o, path, t⟩ (W.alloc (.cells #[.slice pa an ac, .int .i64 kid] 123)) := ⟨hrow.kept (hck.keeps S) (fun g o _ ho hc => hck g o ho hc), hty.keep (hck.keeps S), by show path.length ≤ 1000; omega⟩
  obtain ⟨fn, tmps, assign, body, hy, hR⟩ := hY (n - 1) pre ⟨.slice pa an ac, kid, b, o, path, t⟩ _ hj1 hpx hg0 (by simp; omega)
  simp only [ndArgs] at hy
  have HR := Lib.hid hR
  have HGK := Lib.hid (hG path t hg0)
  clear hj1 hck hpx hR hg0
  refine callsIn_of_wp Tryz.func113 rfl (hF _) ?_ hro
  simp only [Tryz.ntmps113, List.size_toArray, List.length_cons, List.length_nil, Nat.reduceAdd, Nat.reduceSub, Array.replicate_succ, Array.replicate_zero, List.push_toArray, List.append_toArray, List.nil_append, List.cons_append]
  gi_wp2_with fail
  refine HR.out.mono ?_
  rintro e W2 (⟨rfl, hj2, hk2⟩ | ⟨rfl, hx2⟩)
  · have hz2 : W.heap.size < W2.heap.size := by have := hk2.size; simp at this; omega
    have hck2 : CellsKept W (W.alloc (.cells #[.slice pa an ac, .int .i64 kid] 123)) := cellsKept_alloc W _
    have c0 : W2.cell? ⟨W.heap.size, 0, none⟩ = some (.slice pa an ac) := by
      have := hk2.keep W.heap.size _ (World.alloc_heap_new W _) rfl (fun hx => by have := (hX _ hx).2; omega) (by simp [Value.ownBlock])
      simp [World.cell?, this]
    have hkS : Keeps S (W.alloc (.cells #[.slice pa an ac, .int .i64 kid] 123)) W2 := hk2.keeps (fun k hk => ⟨fun hx => (hX k hx).1 hk, by simp [Value.ownBlock]⟩)
    have hty2 := (hty.keep (hck2.keeps S)).keep hkS
    have hrow2 : ARow D S W2 (.slice pa an ac) path := (hrow.kept (hck2.keeps S) (fun g o _ ho hc => hck2 g o ho hc)).kept hkS (fun g o hg ho hc => hk2.keep g o ho hc (fun hx => by
      have hd' := (hX g hx).2
      obtain ⟨_, _, h2, _⟩ := hrow
      rcases h2.2 with ⟨h, _⟩ | ⟨g0, cap, cur, h, hb, _⟩
      · simp only [Value.slice.injEq] at h; obtain ⟨rfl, _⟩ := h; simp [Value.ownBlock] at hg
      · simp only [Value.slice.injEq] at h; obtain ⟨rfl, _⟩ := h; simp [Value.ownBlock] at hg; omega) (by simp [Value.ownBlock]))
    have hkv2 : KV X (.slice pa an ac) W W2 := (KV.of_below hbx).trans (KV.of_kp hk2)
    obtain ⟨ads, hal, hown, hat⟩ := hrow2
    have HAT := Lib.hid hat
    have HKV2 := Lib.hid hkv2
    have HTY2 := Lib.hid hty2
    have HJ2 := Lib.hid hj2
    clear hy HR hj hty hrow hbx hk2 hkS hty2 hj2 hck2 hat hkv2
    gi_wp2_with (gi_at_builtin; go_must (refine wpListIn_append_ptr rfl _ _ rfl D _ _ _ rfl (hown.alloc _) ⟨W2.heap.size, 0, none⟩ 1 (.pointer (some ⟨b, o, none⟩)) rfl (blk_cell (Below.refl _ _) 0 rfl) (by simp [Value.oneCell']) (by omega) (by simp; omega) ?_); intro g' c' w3 hown' hcase; have hg3 : W2.heap.size ≤ w3.heap.size ∧ CellsBut (.slice pa an ac) W2 w3 := grown_cells hcase; have hty3 := HTY2.out.keep (hg3.2.keeps (fun k hk => fun e => by have := hS k hk; have := own_ge hown e; omega)); obtain ⟨la, ln, lc, ka, kn, kc, ⟨_, _, _, _, _, e5⟩, hval⟩ := hty3.load'; replace hval := Lib.hid hval; replace hown' := Lib.hid hown'; replace hcase := Lib.hid hcase; replace hty3 := Lib.hid hty3)
    have hg' : D ≤ g' := own_ge hown'.out rfl
    have hrow3 : ARow D S w3 (.slice (some ⟨g', 0, none⟩) (path.length + 1) c') (path ++ [t]) := by
      refine ⟨ads ++ [(b, o)], by simp [hal], by simpa [ptrs] using hown'.out, fun i a u ha hu => ?_⟩
      by_cases hi : i < path.length
      · rw [List.getElem?_append_left (by omega)] at ha
        rw [List.getElem?_append_left hi] at hu
        exact (HAT.out i a u ha hu).keep (hg3.2.keeps (fun k hk => fun e => by have := hS k hk; have := own_ge hown e; omega))
      · have hi2 : i = path.length := by have := (List.getElem?_eq_some_iff.1 hu).1; simp at this; omega
        subst hi2
        rw [List.getElem?_append_right (by omega), hal] at ha
        rw [List.getElem?_append_right (by omega)] at hu
        simp at ha hu
        subst ha hu
        exact hty3.out
    have hj3 : J (pre ++ [⟨.slice pa an ac, kid, b, o, path, t⟩] ++ []) w3 := by
      rw [List.append_nil]
      rcases hcase.out with ⟨_, hg⟩ | ⟨_, hg⟩
      · exact hJ _ _ _ _ (hJ.alloc _ HJ2.out) hg (fun r e => by cases e; exact hg')
      · exact hJ _ _ _ _ (hJ.alloc _ HJ2.out) hg (fun r e => by cases e)
    obtain ⟨lv', kv', he, _, _, hks⟩ := hval.out
    simp only [Value.agg.injEq, Array.mk.injEq, List.cons.injEq, and_true, true_and] at he
    obtain ⟨rfl, rfl⟩ := he
    obtain ⟨ka', kn', kc', he, hlen, hmx, hget⟩ := hks.open
    simp only [Value.slice.injEq] at he
    obtain ⟨rfl, rfl, rfl⟩ := he
    have hSb : S b := (TyAt.eq.1 hty3.out).1
    have HG := Lib.hid hget
    have HIH := Lib.hid ih
    have HE5 := Lib.hid e5
    have HROW3 := Lib.hid hrow3
    have HJ3 := Lib.hid hj3
    have HOWN := Lib.hid hown
    have HG3 := Lib.hid hg3
    have HTS := Lib.hid hts
    have HAL := Lib.hid hal
    clear hget ih e5 hrow3 hj3 hks hown hg3 hts ht0 hal
    gi_loopw [24] (fun i wr => ∃ (j : Nat) (ys : List Nd), i = .int .i64 j ∧ j ≤ kn ∧ Hid (ys.map Nd.g = preTs (path ++ [t]) 0 (t.ts.take j)) ∧ Hid (J (pre ++ [⟨.slice pa an ac, kid, b, o, path, t⟩] ++ ys) wr) ∧ Hid (KV X (.slice (some ⟨g', 0, none⟩) (path.length + 1) c') w3 wr) ∧ Hid (ARow D S wr (.slice (some ⟨g', 0, none⟩) (path.length + 1) c') (path ++ [t])))
      (fun i _ => kn - (intOf i).toNat)
    case atStart => exact ⟨0, [], rfl, by omega, Lib.hid (by simp [preTs]), Lib.hid HJ3.out, Lib.hid (KV.refl _ _ _), Lib.hid HROW3.out⟩
    case round =>
      obtain ⟨j, ys, rfl, hj, HYS, HJJ, HKV, HRW⟩ := hrel
      by_cases hlt : j < kn
      · obtain ⟨t', ht'⟩ : ∃ t', t.ts[j]? = some t' := ⟨_, List.getElem?_eq_getElem (by rw [← hlen.out]; exact hlt)⟩
        obtain ⟨kb, ko, rfl, hkb, hty'⟩ := HG.out j t' ht'
        have hkS : Keeps S w3 wr := HKV.out.keeps (fun k hk => ⟨fun hx => (hX k hx).1 hk, fun e => by have := hS k hk; simp [Value.ownBlock] at e; omega⟩)
        have e5 := hkS.cell hSb HE5.out
        have hmem : t' ∈ ts := by rw [HTS.out]; exact List.mem_of_getElem? ht'
        have hdt : t'.depth + 1 ≤ t.depth := by rw [t.depth_eq]; have := Ty.depth_mem (List.mem_of_getElem? ht'); omega
        have hDr : D ≤ wr.heap.size := by have h1 := HKV.out.size; have h2 := HG3.out.1; omega
        have IH := Lib.hid (fun n' => HIH.out t' hmem n' (path ++ [t]) (j : Int) (some ⟨g', 0, none⟩) (path.length + 1) c' kb (ko + j * 6) (pre ++ [⟨.slice pa an ac, kid, b, o, path, t⟩] ++ ys) wr hDr HJJ.out (hty'.keep hkS) HRW.out (by simp; omega) (HGK.out t' (List.mem_of_getElem? ht')))
        have HPT := Lib.hid (preTs_take (path := path ++ [t]) ht' 0)
        have HPP := Lib.hid (preTs_prefix (path ++ [t]) t.ts (j + 1) 0)
        clear ht' hty' hkS hmem hdt hDr
        gi_wp2_with fail
        refine (IH.out _).mono ?_
        rintro e w4 (⟨rfl, ⟨zs, hz1, hz2⟩, hkv, hrw⟩ | ⟨rfl, zs, hz1, hz2⟩)
        · have hys : Hid ((ys ++ zs).map Nd.g = preTs (path ++ [t]) 0 (t.ts.take (j + 1))) := Lib.hid (by rw [List.map_append, HYS.out, hz1, HPT.out]; simp)
          have hjj : Hid (J (pre ++ [⟨.slice pa an ac, kid, b, o, path, t⟩] ++ (ys ++ zs)) w4) := Lib.hid (by rw [← List.append_assoc]; exact hz2)
          have hkk := Lib.hid (HKV.out.trans hkv)
          have hrr := Lib.hid hrw
          clear hz1 hz2 hkv hrw
          gi_wp2_with fail
          exact ⟨⟨j + 1, ys ++ zs, by go_num, by omega, hys, hjj, hkk, hrr⟩, by simp [intOf]; omega⟩
        · have hq : ∃ q, q.map Nd.g <+: preT path kid t ∧ Jx (pre ++ q) w4 := by
            refine ⟨[⟨.slice pa an ac, kid, b, o, path, t⟩] ++ (ys ++ zs), ?_, by simpa [List.append_assoc] using hz2⟩
            rw [preT_eq, List.map_append, List.map_append, HYS.out]
            refine (List.prefix_cons_inj _).2 ((List.IsPrefix.trans ?_ HPP.out))
            rw [HPT.out]
            refine (List.prefix_append_right_inj _).2 ?_
            simpa using hz1
          have HQ := Lib.hid hq
          clear hz1 hz2 hq
          gi_wp2
          go_ret
          exact .inr ⟨rfl, HQ.out⟩
      · obtain rfl : j = kn := by omega
        have hback := row_back (W := W2.alloc (.cells #[.pointer (some ⟨b, o, none⟩)] 115)) (path := path) (t := t) (ar := .slice pa an ac) hX
          (by
            refine ⟨ads, HAL.out, HOWN.out.alloc _, fun i a u ha hu => (HAT.out i a u ha hu).keep ((cellsKept_alloc W2 _).keeps S)⟩) hcase.out HKV.out HRW.out
        have hq : ∃ q, q.map Nd.g = preT path kid t ∧ J (pre ++ q) wr := by
          refine ⟨[⟨.slice pa an ac, kid, b, o, path, t⟩] ++ ys, ?_, by simpa [List.append_assoc] using HJJ.out⟩
          rw [preT_eq, List.map_append, HYS.out, List.take_of_length_le (by rw [hlen.out]; exact Nat.le_refl _)]
          rfl
        have HQ := Lib.hid hq
        have HBK := Lib.hid hback
        clear hq hback
        gi_wp2
        go_ret
        exact .inl ⟨rfl, HQ.out, HKV2.out.trans ((KV.of_below (blkBelow W2 _ _)).trans HBK.out.2), HBK.out.1⟩
  · gi_wp2
    go_ret
    exact .inr ⟨rfl, [_], by rw [preT_eq]; exact ⟨preTs (path ++ [t]) 0 t.ts, rfl⟩, hx2⟩

theorem visit_in (F : Fence) (hd : F.depth = none) (hF : ∀ f, F.fn f) (hro : F.round = none) (l D : Nat) (S X : Nat → Prop) (hX : ∀ k, X k → ¬ S k ∧ k < D) (hS : ∀ k, S k → k < D) (J Jx : List Nd → World → Prop) (hJ : AbidesAll D J)
    (hY : ∀ m pre x W, J pre W → Px D S x W → D ≤ W.heap.size → YieldAt F m Tryz.prog l (ndArgs x) W fun e W' => (e = .returned (.bool true) ∧ J (pre ++ [x]) W' ∧ Kp X W W') ∨ (e = .returned (.bool false) ∧ Jx (pre ++ [x]) W'))
    (t : Ty) (n : Nat) (path : List Ty) (kid : Int) (pa : Option Addr) (an ac b o : Nat) (pre : List Nd) (W : World) (hDW : D ≤ W.heap.size) (hj : J pre W) (hty : TyAt S W t b o) (hrow : ARow D S W (.slice pa an ac) path) (hdep : path.length + t.depth ≤ 1000) :
      CallsIn F n Tryz.prog 113 #[.agg #[.slice pa an ac, .int .i64 kid], .pointer (some ⟨b, o, none⟩), .func (.yield l) #[] #[]] W (VisPost D S X J Jx pre (.slice pa an ac) path kid t W) :=
  visit_g (fun _ _ => True) (fun _ _ _ _ _ => trivial) F hd hF hro l D S X hX hS J Jx hJ (fun m pre x W hj hp _ hs => hY m pre x W hj hp hs) t n path kid pa an ac b o pre W hDW hj hty hrow hdep trivial

end Go.Proofs.YtgmdmbmkljbgiaaGreatDoor
