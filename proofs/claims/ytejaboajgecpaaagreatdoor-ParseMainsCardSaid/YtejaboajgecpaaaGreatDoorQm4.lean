/- Types: lemmas. -/
import Derived.Test.YtejaboajgecpaaaGreatDoorQm3
set_option maxHeartbeats 16000000
set_option maxRecDepth 100000
namespace Go.Proofs.YtejaboajgecpaaaGreatDoor
open Go.Lib (hid)
open Go.RowKit Go.Deep Go.Shelf
attribute [local go_sem] Oper.semAt_some
theorem room_none {F : Fence} (hd : F.depth = none) (k : Nat) : F.room k := fun d h => by rw [hd] at h; cases h
theorem yield_any {F : Fence} (hd : F.depth = none) {m : Nat} (m' : Nat) {P : Program} {l : Nat} {args : Array Value} {W : World} {R : Ending -> World -> Prop} (h : YieldAt F m P l args W R) : YieldAt F m' P l args W R := by
 obtain ⟨fn, tmps, assign, body, hy, hR⟩ := h
 exact ⟨fn, tmps, assign, body, hy, ⟨hR.1, fun c cs _ => hR.2 c cs (room_none hd _)⟩⟩
def CellsBut (ar : Value) (W W' : World) : Prop := ∀ (k : Nat) (o : Obj), W.heap[k]? = some o -> o.isCells = true -> ar.ownBlock ≠ some k -> W'.heap[k]? = some o
theorem CellsBut.keeps {ar : Value} {W W' : World} {S : Nat -> Prop} (h : CellsBut ar W W') (hS : ∀ k, S k -> ar.ownBlock ≠ some k) : Keeps S W W' := fun k o hk ho hc => h k o ho hc (hS k hk)
theorem grown_cells {ar : Value} {W w1 : World} {n g' c' : Nat} {tmp : Obj} (hcase : (ar = .slice (some ⟨g', 0, none⟩) n c' /\ (W.alloc tmp).grownBy w1 (some g')) \/ ((W.alloc tmp).heap.size <= g' /\ (W.alloc tmp).grownBy w1 none)) : W.heap.size <= w1.heap.size /\ CellsBut ar W w1 := by
 rcases hcase with ⟨rfl, hg⟩ | ⟨_, hg⟩
 ·exact ⟨by have := hg.size; simp at this; omega, fun k o hk hc ha => (hg.block k (by have := (Array.getElem?_eq_some_iff.1 hk).1; simp; omega) (fun e => ha (by simp only [Option.some.injEq] at e; simp [Value.ownBlock, e]))).trans (cellsKept_alloc W tmp k o hk hc)⟩
 ·exact ⟨by have := hg.size; simp at this; omega, fun k o hk hc _ => (hg.block k (by have := (Array.getElem?_eq_some_iff.1 hk).1; simp; omega) (by simp)).trans (cellsKept_alloc W tmp k o hk hc)⟩
theorem own_ge {W : World} {base n k : Nat} {e : TypeId} {size : Nat} {v : Value} {xs : List Value} (h : W.ownsRow base e size v n xs) (hk : v.ownBlock = some k) : base <= k := by
 rcases h.2 with ⟨rfl, _⟩ | ⟨g, cap, cur, rfl, hb, _⟩
 ·simp [Value.ownBlock] at hk
 ·obtain rfl : g = k := by simpa [Value.ownBlock] using hk
  exact hb
def VisPost (D : Nat) (S X : Nat -> Prop) (J Jx : List Nd -> World -> Prop) (pre : List Nd) (ar : Value) (path : List Ty) (kid : Int) (t : Ty) (W : World) (e : Ending) (W' : World) : Prop :=
 (e = .returned (.bool true) /\ (∃ ys, ys.map Nd.g = preT path kid t /\ J (pre ++ ys) W') /\ KV X ar W W' /\ ARow D S W' ar path) \/
 (e = .returned (.bool false) /\ ∃ ys, ys.map Nd.g <+: preT path kid t /\ Jx (pre ++ ys) W')
theorem visit_g (G : List Ty -> Ty -> Prop) (hG : ∀ path t, G path t -> ∀ u ∈ t.ts, G (path ++ [t]) u) (F : Fence) (hd : F.depth = none) (hF : ∀ f, F.fn f) (hro : F.round = none) (l D : Nat) (S X : Nat -> Prop) (hX : ∀ k, X k -> ¬ S k /\ k < D) (hS : ∀ k, S k -> k < D) (J Jx : List Nd -> World -> Prop) (hJ : AbidesAll D J)
 (hY : ∀ m pre x W, J pre W -> Px D S x W -> G x.path x.ty -> D <= W.heap.size -> YieldAt F m Tryz.prog l (ndArgs x) W fun e W' => (e = .returned (.bool true) /\ J (pre ++ [x]) W' /\ Kp X W W') \/ (e = .returned (.bool false) /\ Jx (pre ++ [x]) W')) :
 ∀ (t : Ty) (n : Nat) (path : List Ty) (kid : Int) (pa : Option Addr) (an ac b o : Nat) (pre : List Nd) (W : World), D <= W.heap.size -> J pre W -> TyAt S W t b o -> ARow D S W (.slice pa an ac) path -> path.length + t.depth <= 1000 -> G path t ->
  CallsIn F n Tryz.prog 126 #[.agg #[.slice pa an ac, .int .i64 kid], .pointer (some ⟨b, o, none⟩), .func (.yield l) #[] #[]] W (VisPost D S X J Jx pre (.slice pa an ac) path kid t W) := by
 refine Ty.ind ?_
 intro k p nm s ls ts ih n path kid pa an ac b o pre W hDW hj hty hrow hdep hg0
 obtain ⟨t, ht0⟩ : ∃ t, Ty.mk k p nm s ls ts = t := ⟨_, rfl⟩
 have hts : ts = t.ts := by rw [<- ht0]; rfl
 rw [ht0] at hty hdep hg0 |-
 have hdd : ∀ k : Nat, (F.depth.isSome = true -> 1 <= k) := fun k h => by rw [hd] at h; cases h
 have hbx := blkBelow W #[.slice pa an ac, .int .i64 kid] 162
 have hj1 := hJ.alloc (.cells #[.slice pa an ac, .int .i64 kid] 162) hj
 have hck := cellsKept_alloc W (.cells #[.slice pa an ac, .int .i64 kid] 162)
 have hpx : Px D S ⟨.slice pa an ac, kid, b, o, path, t⟩ (W.alloc (.cells #[.slice pa an ac, .int .i64 kid] 162)) := ⟨hrow.kept (hck.keeps S) (fun g o _ ho hc => hck g o ho hc), hty.keep (hck.keeps S), by show path.length <= 1000; omega⟩
 obtain ⟨fn, tmps, assign, body, hy, hR⟩ := hY (n - 1) pre ⟨.slice pa an ac, kid, b, o, path, t⟩ _ hj1 hpx hg0 (by simp; omega)
 simp only [ndArgs] at hy
 have HR := hid hR
 have HGK := hid (hG path t hg0)
 clear hj1 hck hpx hR hg0
 refine callsIn_of_wp Tryz.func126 rfl (hF _) ?_ hro
 simp only [Tryz.ntmps126, List.size_toArray, List.length_cons, List.length_nil, Nat.reduceAdd, Nat.reduceSub, Array.replicate_succ, Array.replicate_zero, List.push_toArray, List.append_toArray, List.nil_append, List.cons_append]
 gi_wp2_with fail
 refine HR.out.mono ?_
 rintro e W2 (⟨rfl, hj2, hk2⟩ | ⟨rfl, hx2⟩)
 ·have hz2 : W.heap.size < W2.heap.size := by have := hk2.size; simp at this; omega
  have hck2 : CellsKept W (W.alloc (.cells #[.slice pa an ac, .int .i64 kid] 162)) := cellsKept_alloc W _
  have c0 : W2.cell? ⟨W.heap.size, 0, none⟩ = some (.slice pa an ac) := by
   have := hk2.keep W.heap.size _ (World.alloc_heap_new W _) rfl (fun hx => by have := (hX _ hx).2; omega) (by simp [Value.ownBlock])
   simp [World.cell?, this]
  have hkS : Keeps S (W.alloc (.cells #[.slice pa an ac, .int .i64 kid] 162)) W2 := hk2.keeps (fun k hk => ⟨fun hx => (hX k hx).1 hk, by simp [Value.ownBlock]⟩)
  have hty2 := (hty.keep (hck2.keeps S)).keep hkS
  have hrow2 : ARow D S W2 (.slice pa an ac) path := (hrow.kept (hck2.keeps S) (fun g o _ ho hc => hck2 g o ho hc)).kept hkS (fun g o hg ho hc => hk2.keep g o ho hc (fun hx => by
   have hd' := (hX g hx).2
   obtain ⟨_, _, h2, _⟩ := hrow
   rcases h2.2 with ⟨h, _⟩ | ⟨g0, cap, cur, h, hb, _⟩
   ·simp only [Value.slice.injEq] at h; obtain ⟨rfl, _⟩ := h; simp [Value.ownBlock] at hg
   ·simp only [Value.slice.injEq] at h; obtain ⟨rfl, _⟩ := h; simp [Value.ownBlock] at hg; omega) (by simp [Value.ownBlock]))
  have hkv2 : KV X (.slice pa an ac) W W2 := (KV.of_below hbx).trans (KV.of_kp hk2)
  obtain ⟨ads, hal, hown, hat⟩ := hrow2
  have HAT := hid hat
  have HKV2 := hid hkv2
  have HTY2 := hid hty2
  have HJ2 := hid hj2
  clear hy HR hj hty hrow hbx hk2 hkS hty2 hj2 hck2 hat hkv2
  gi_wp2_with (gi_at_builtin; go_must (refine wpListIn_append_ptr rfl _ _ rfl D _ _ _ rfl (hown.alloc _) ⟨W2.heap.size, 0, none⟩ 1 (.pointer (some ⟨b, o, none⟩)) rfl (blk_cell (Below.refl _ _) 0 rfl) (by simp [Value.oneCell']) (by omega) (by simp; omega) ?_); intro g' c' w3 hown' hcase; have hg3 : W2.heap.size <= w3.heap.size /\ CellsBut (.slice pa an ac) W2 w3 := grown_cells hcase; have hty3 := HTY2.out.keep (hg3.2.keeps (fun k hk => fun e => by have := hS k hk; have := own_ge hown e; omega)); obtain ⟨la, ln, lc, ka, kn, kc, ⟨_, _, _, _, _, e5⟩, hval⟩ := hty3.load'; replace hval := hid hval; replace hown' := hid hown'; replace hcase := hid hcase; replace hty3 := hid hty3)
  have hg' : D <= g' := own_ge hown'.out rfl
  have hrow3 : ARow D S w3 (.slice (some ⟨g', 0, none⟩) (path.length + 1) c') (path ++ [t]) := by
   refine ⟨ads ++ [(b, o)], by simp [hal], by simpa [ptrs] using hown'.out, fun i a u ha hu => ?_⟩
   by_cases hi : i < path.length
   ·rw [List.getElem?_append_left (by omega)] at ha
    rw [List.getElem?_append_left hi] at hu
    exact (HAT.out i a u ha hu).keep (hg3.2.keeps (fun k hk => fun e => by have := hS k hk; have := own_ge hown e; omega))
   ·have hi2 : i = path.length := by have := (List.getElem?_eq_some_iff.1 hu).1; simp at this; omega
    subst hi2
    rw [List.getElem?_append_right (by omega), hal] at ha
    rw [List.getElem?_append_right (by omega)] at hu
    simp at ha hu
    subst ha hu
    exact hty3.out
  have hj3 : J (pre ++ [⟨.slice pa an ac, kid, b, o, path, t⟩] ++ []) w3 := by
   rw [List.append_nil]
   rcases hcase.out with ⟨_, hg⟩ | ⟨_, hg⟩
   ·exact hJ _ _ _ _ (hJ.alloc _ HJ2.out) hg (fun r e => by cases e; exact hg')
   ·exact hJ _ _ _ _ (hJ.alloc _ HJ2.out) hg (fun r e => by cases e)
  obtain ⟨lv', kv', he, _, _, hks⟩ := hval.out
  simp only [Value.agg.injEq, Array.mk.injEq, List.cons.injEq, and_true, true_and] at he
  obtain ⟨rfl, rfl⟩ := he
  obtain ⟨ka', kn', kc', he, hlen, hmx, hget⟩ := hks.open
  simp only [Value.slice.injEq] at he
  obtain ⟨rfl, rfl, rfl⟩ := he
  have hSb : S b := (TyAt.eq.1 hty3.out).1
  have HG := hid hget
  have HIH := hid ih
  have HE5 := hid e5
  have HROW3 := hid hrow3
  have HJ3 := hid hj3
  have HOWN := hid hown
  have HG3 := hid hg3
  have HTS := hid hts
  have HAL := hid hal
  clear hget ih e5 hrow3 hj3 hks hown hg3 hts ht0 hal
  gi_loopw [24] (fun i wr => ∃ (j : Nat) (ys : List Nd), i = .int .i64 j /\ j <= kn /\ Hid (ys.map Nd.g = preTs (path ++ [t]) 0 (t.ts.take j)) /\ Hid (J (pre ++ [⟨.slice pa an ac, kid, b, o, path, t⟩] ++ ys) wr) /\ Hid (KV X (.slice (some ⟨g', 0, none⟩) (path.length + 1) c') w3 wr) /\ Hid (ARow D S wr (.slice (some ⟨g', 0, none⟩) (path.length + 1) c') (path ++ [t])))
   (fun i _ => kn - (intOf i).toNat)
  case atStart => exact ⟨0, [], rfl, by omega, hid (by simp [preTs]), hid HJ3.out, hid (KV.refl _ _ _), hid HROW3.out⟩
  case round =>
   obtain ⟨j, ys, rfl, hj, HYS, HJJ, HKV, HRW⟩ := hrel
   by_cases hlt : j < kn
   ·obtain ⟨t', ht'⟩ : ∃ t', t.ts[j]? = some t' := ⟨_, List.getElem?_eq_getElem (by rw [<- hlen.out]; exact hlt)⟩
    obtain ⟨kb, ko, rfl, hkb, hty'⟩ := HG.out j t' ht'
    have hkS : Keeps S w3 wr := HKV.out.keeps (fun k hk => ⟨fun hx => (hX k hx).1 hk, fun e => by have := hS k hk; simp [Value.ownBlock] at e; omega⟩)
    have e5 := hkS.cell hSb HE5.out
    have hmem : t' ∈ ts := by rw [HTS.out]; exact List.mem_of_getElem? ht'
    have hdt : t'.depth + 1 <= t.depth := by rw [t.depth_eq]; have := Ty.depth_mem (List.mem_of_getElem? ht'); omega
    have hDr : D <= wr.heap.size := by have h1 := HKV.out.size; have h2 := HG3.out.1; omega
    have IH := hid (fun n' => HIH.out t' hmem n' (path ++ [t]) (j : Int) (some ⟨g', 0, none⟩) (path.length + 1) c' kb (ko + j * 6) (pre ++ [⟨.slice pa an ac, kid, b, o, path, t⟩] ++ ys) wr hDr HJJ.out (hty'.keep hkS) HRW.out (by simp; omega) (HGK.out t' (List.mem_of_getElem? ht')))
    have HPT := hid (preTs_take (path := path ++ [t]) ht' 0)
    have HPP := hid (preTs_prefix (path ++ [t]) t.ts (j + 1) 0)
    clear ht' hty' hkS hmem hdt hDr
    gi_wp2_with fail
    refine (IH.out _).mono ?_
    rintro e w4 (⟨rfl, ⟨zs, hz1, hz2⟩, hkv, hrw⟩ | ⟨rfl, zs, hz1, hz2⟩)
    ·have hys : Hid ((ys ++ zs).map Nd.g = preTs (path ++ [t]) 0 (t.ts.take (j + 1))) := hid (by rw [List.map_append, HYS.out, hz1, HPT.out]; simp)
     have hjj : Hid (J (pre ++ [⟨.slice pa an ac, kid, b, o, path, t⟩] ++ (ys ++ zs)) w4) := hid (by rw [<- List.append_assoc]; exact hz2)
     have hkk := hid (HKV.out.trans hkv)
     have hrr := hid hrw
     clear hz1 hz2 hkv hrw
     gi_wp2_with fail
     exact ⟨⟨j + 1, ys ++ zs, by go_num, by omega, hys, hjj, hkk, hrr⟩, by simp [intOf]; omega⟩
    ·have hq : ∃ q, q.map Nd.g <+: preT path kid t /\ Jx (pre ++ q) w4 := by
      refine ⟨[⟨.slice pa an ac, kid, b, o, path, t⟩] ++ (ys ++ zs), ?_, by simpa [List.append_assoc] using hz2⟩
      rw [preT_eq, List.map_append, List.map_append, HYS.out]
      refine (List.prefix_cons_inj _).2 ((List.IsPrefix.trans ?_ HPP.out))
      rw [HPT.out]
      refine (List.prefix_append_right_inj _).2 ?_
      simpa using hz1
     have HQ := hid hq
     clear hz1 hz2 hq
     gi_wp2
     go_ret
     exact .inr ⟨rfl, HQ.out⟩
   ·obtain rfl : j = kn := by omega
    have hback := row_back (W := W2.alloc (.cells #[.pointer (some ⟨b, o, none⟩)] 136)) (path := path) (t := t) (ar := .slice pa an ac) hX
     (by
      refine ⟨ads, HAL.out, HOWN.out.alloc _, fun i a u ha hu => (HAT.out i a u ha hu).keep ((cellsKept_alloc W2 _).keeps S)⟩) hcase.out HKV.out HRW.out
    have hq : ∃ q, q.map Nd.g = preT path kid t /\ J (pre ++ q) wr := by
     refine ⟨[⟨.slice pa an ac, kid, b, o, path, t⟩] ++ ys, ?_, by simpa [List.append_assoc] using HJJ.out⟩
     rw [preT_eq, List.map_append, HYS.out, List.take_of_length_le (by rw [hlen.out]; exact Nat.le_refl _)]
     rfl
    have HQ := hid hq
    have HBK := hid hback
    clear hq hback
    gi_wp2
    go_ret
    exact .inl ⟨rfl, HQ.out, HKV2.out.trans ((KV.of_below (blkBelow W2 _ _)).trans HBK.out.2), HBK.out.1⟩
 ·gi_wp2
  go_ret
  exact .inr ⟨rfl, [_], by rw [preT_eq]; exact ⟨preTs (path ++ [t]) 0 t.ts, rfl⟩, hx2⟩
theorem visit_in (F : Fence) (hd : F.depth = none) (hF : ∀ f, F.fn f) (hro : F.round = none) (l D : Nat) (S X : Nat -> Prop) (hX : ∀ k, X k -> ¬ S k /\ k < D) (hS : ∀ k, S k -> k < D) (J Jx : List Nd -> World -> Prop) (hJ : AbidesAll D J)
 (hY : ∀ m pre x W, J pre W -> Px D S x W -> D <= W.heap.size -> YieldAt F m Tryz.prog l (ndArgs x) W fun e W' => (e = .returned (.bool true) /\ J (pre ++ [x]) W' /\ Kp X W W') \/ (e = .returned (.bool false) /\ Jx (pre ++ [x]) W'))
 (t : Ty) (n : Nat) (path : List Ty) (kid : Int) (pa : Option Addr) (an ac b o : Nat) (pre : List Nd) (W : World) (hDW : D <= W.heap.size) (hj : J pre W) (hty : TyAt S W t b o) (hrow : ARow D S W (.slice pa an ac) path) (hdep : path.length + t.depth <= 1000) :
  CallsIn F n Tryz.prog 126 #[.agg #[.slice pa an ac, .int .i64 kid], .pointer (some ⟨b, o, none⟩), .func (.yield l) #[] #[]] W (VisPost D S X J Jx pre (.slice pa an ac) path kid t W) :=
 visit_g (fun _ _ => True) (fun _ _ _ _ _ => trivial) F hd hF hro l D S X hX hS J Jx hJ (fun m pre x W hj hp _ hs => hY m pre x W hj hp hs) t n path kid pa an ac b o pre W hDW hj hty hrow hdep trivial
end Go.Proofs.YtejaboajgecpaaaGreatDoor
namespace Go.Proofs.YtejaboajgecpaaaGreatDoor
open Go.Lib (hid)
open Go.RowKit Go.Deep Go.Shelf
attribute [local go_sem] Oper.semAt_some
theorem ARow.low {D D' : Nat} {S : Nat -> Prop} {W : World} {ar : Value} {path : List Ty} (h : ARow D S W ar path) (hd : D' <= D) : ARow D' S W ar path := by
 obtain ⟨ads, h1, h2, h3⟩ := h
 refine ⟨ads, h1, ⟨h2.1, ?_⟩, h3⟩
 rcases h2.2 with h0 | ⟨g, cap, cur, rfl, hb, r⟩
 ·exact .inl h0
 ·exact .inr ⟨g, cap, cur, rfl, Nat.le_trans hd hb, r⟩
theorem nodes_any (a : Option Addr) (w : World) :
 Calls Tryz.prog 99 #[.pointer a] w fun e w' => e = .returned (.func (.func 125) #[] #[.pointer (some ⟨w.heap.size, 0, none⟩)]) /\ w' = w.alloc (.cells #[.pointer a] 136) := by
 go_enter Tryz.func99, Tryz.ntmps99
 go_wp2
 go_ret
 exact ⟨rfl, rfl⟩
theorem nodes_tells (n : Nat) (Bt b o : Nat) (t : Ty) (S X : Nat -> Prop) (w : World) (hX : ∀ k, X k -> ¬ S k /\ k < w.heap.size) (hS : ∀ k, S k -> k < w.heap.size) (hBt : Bt < w.heap.size) (hc : w.cell? ⟨Bt, 0, none⟩ = some (.pointer (some ⟨b, o, none⟩))) (hty : TyAt S w t b o) (hdep : t.depth <= 1000) :
 Tells Fence.wide n Tryz.prog 125 #[.pointer (some ⟨Bt, 0, none⟩)] ndArgs (Px w.heap.size S) (Kp X) (fun ys => ys.map Nd.g = preT [] 0 t) (fun pre => pre.map Nd.g <+: preT [] 0 t) w := by
 intro l J Jx W hW hJ _ hY h0
 have hp := visit_in Fence.wide rfl (fun _ => trivial) rfl l W.heap.size S X (fun k hk => ⟨(hX k hk).1, Nat.lt_of_lt_of_le (hX k hk).2 hW.size⟩) (fun k hk => Nat.lt_of_lt_of_le (hS k hk) hW.size) J Jx hJ
  (fun m pre x W1 hj hpx _ => yield_any rfl m (hY pre x W1 hj ⟨hpx.1.low hW.size, hpx.2⟩)) t (n - 1) [] 0 none 0 0 b o [] W (Nat.le_refl _) h0 (hty.keep (hW.keeps'.mono hS)) ⟨[], rfl, World.ownsRow_nil _ _ _ _, fun i a u ha _ => by simp at ha⟩ (by simpa using hdep)
 have hc' := (hW.cell (p := ⟨Bt, 0, none⟩) hBt).trans hc
 have HP := hid hp
 clear hp hY h0 hJ
 refine callsIn_of_wp Tryz.func125 rfl trivial ?_ rfl
 simp only [Tryz.ntmps125, List.size_toArray, List.length_cons, List.length_nil, Nat.reduceAdd, Nat.reduceSub, Array.replicate_succ, Array.replicate_zero, List.push_toArray, List.append_toArray, List.nil_append, List.cons_append]
 gi_wp2_with fail
 refine ⟨trivial, ⟨fun h => (by cases h), ?_⟩⟩
 refine HP.out.mono ?_
 rintro e W1 (⟨rfl, ⟨ys, h1, h2⟩, _, _⟩ | ⟨rfl, ys, h1, h2⟩)
 ·have H1 := hid h1
  have H2 := hid h2
  clear h1 h2
  gi_wp2
  go_end0
  exact ⟨⟨_, rfl⟩, .inl ⟨ys, H1.out, by simpa using H2.out⟩⟩
 ·have H1 := hid h1
  have H2 := hid h2
  clear h1 h2
  gi_wp2
  go_end0
  exact ⟨⟨_, rfl⟩, .inr ⟨ys, H1.out, by simpa using H2.out⟩⟩
theorem preT_length : ∀ (t : Ty) (path : List Ty) (kid : Int), (preT path kid t).length = t.size := by
 refine Ty.ind ?_
 intro k p n s ls ts ih path kid
 rw [preT_eq, Ty.size_eq, List.length_cons]
 have h : ∀ (l : List Ty) (path : List Ty) (kid : Int), (∀ t ∈ l, ∀ (path : List Ty) (kid : Int), (preT path kid t).length = t.size) -> (preTs path kid l).length = Ty.sizes l := by
  intro l
  induction l with
  | nil => intro _ _ _; simp [preTs, Ty.sizes]
  | cons u r ihl =>
   intro path kid hh
   rw [preTs, List.length_append, Ty.sizes, hh u (by simp), ihl path (kid + 1) (fun t ht => hh t (by simp [ht]))]
 show (preTs (path ++ [Ty.mk k p n s ls ts]) 0 ts).length + 1 = Ty.sizes ts + 1
 rw [h _ _ _ ih]
theorem w64_id (n : Int) (h1 : -9223372036854775808 <= n) (h2 : n <= 9223372036854775807) : wrap64 n = n := by unfold wrap64; omega
theorem w64_succ (x : Nd) (pre : List Nd) : wrap64 (wrap64 ((pre.length : Nat) : Int) + 1) = wrap64 (((pre ++ [x]).length : Nat) : Int) := by
 rw [List.length_append]; simp only [List.length_cons, List.length_nil]; unfold wrap64; omega
theorem abides_boxed {β : Type} {D b : Nat} (hb : b < D) (t : TypeId) (f : β -> Value) : AbidesAll D (fun s W => W.heap[b]? = some (.cells #[f s] t (0, 0))) :=
 fun _ _ _ _ hs hg hr => (hg.block b (Array.getElem?_eq_some_iff.1 hs).1 (fun e => by have := hr b e.symm; omega)).trans hs
theorem boxed_tyAt {B : Nat -> Prop} {S : Nat -> Prop} {W : World} {b : Nat} {t : Ty} {lv kv : Value} (h6 : Six W b (.int .i64 t.k) (.int .i64 t.p) (.string t.n) (.int .i64 t.s) lv kv) (hv : TyVal B W (.agg #[.int .i64 t.k, .int .i64 t.p, .string t.n, .int .i64 t.s, lv, kv]) t) (hB : ∀ k, B k -> S k) (hb : S b) : TyAt S W t b 0 := by
 obtain ⟨⟨c0, c1, c2, c3, c4, c5⟩, _⟩ := h6.cells
 exact tyAt_of hb c0 c1 c2 c3 c4 c5 (hv.mono hB)
theorem tsize_in (n : Nat) (hn : 3 <= n) (B : Nat -> Prop) (t : Ty) (hsz : t.size <= 1000000) (hdep : t.depth <= 1000) (lv kv : Value) (w : World) (hB : Low B w) (hv : TyVal B w (.agg #[.int .i64 t.k, .int .i64 t.p, .string t.n, .int .i64 t.s, lv, kv]) t) :
 CallsIn Fence.wide n Tryz.prog 70 #[.agg #[.int .i64 t.k, .int .i64 t.p, .string t.n, .int .i64 t.s, lv, kv]] w fun e w' => e = .returned (.int .i64 t.size) /\ Below w.heap.size w w' := by
 have h1 : 1 <= n := by omega
 refine callsIn_of_wp_marks Tryz.func70 rfl trivial ?_ rfl
 simp only [Tryz.ntmps70, List.size_toArray, List.length_cons, List.length_nil, Nat.reduceAdd, Nat.reduceSub, Array.replicate_succ, Array.replicate_zero, List.push_toArray, List.append_toArray, List.nil_append, List.cons_append]
 gi_wp2_with (refine ⟨trivial, ?_⟩; gi_at_call 99; refine (callsIn_wide.2 (nodes_any _ _)).mono ?_; rintro e w' ⟨rfl, rfl⟩)
 have h6 := (Six.new w (.int .i64 t.k) (.int .i64 t.p) (.string t.n) (.int .i64 t.s) lv kv).to (box2_below _ (.cells #[.int .i64 0] 3) (.cells #[.pointer (some ⟨w.heap.size, 0, none⟩)] 136))
 have hc : (((w.alloc (cell6 t.k t.p t.n t.s lv kv)).alloc (.cells #[.int .i64 0] 3)).alloc (.cells #[.pointer (some ⟨w.heap.size, 0, none⟩)] 136)).heap[w.heap.size + 1]? = some (.cells #[.int .i64 0] 3 (0, 0)) := by
  have h := World.alloc_heap_new (w.alloc (cell6 t.k t.p t.n t.s lv kv)) (.cells #[.int .i64 0] 3)
  rw [World.size_alloc] at h
  exact (Below.heap_alloc _ _ _ (by simp)).trans h
 have hp : (((w.alloc (cell6 t.k t.p t.n t.s lv kv)).alloc (.cells #[.int .i64 0] 3)).alloc (.cells #[.pointer (some ⟨w.heap.size, 0, none⟩)] 136)).cell? ⟨w.heap.size + 1 + 1, 0, none⟩ = some (.pointer (some ⟨w.heap.size, 0, none⟩)) := by
  have h := blk_cell (w := (w.alloc (cell6 t.k t.p t.n t.s lv kv)).alloc (.cells #[.int .i64 0] 3)) (cs := #[.pointer (some ⟨w.heap.size, 0, none⟩)]) (t := 136) (Below.refl _ _) 0 rfl
  simpa using h
 have hbel := box3_below w (cell6 t.k t.p t.n t.s lv kv) (.cells #[.int .i64 0] 3) (.cells #[.pointer (some ⟨w.heap.size, 0, none⟩)] 136)
 have hsz0 : (((w.alloc (cell6 t.k t.p t.n t.s lv kv)).alloc (.cells #[.int .i64 0] 3)).alloc (.cells #[.pointer (some ⟨w.heap.size, 0, none⟩)] 136)).heap.size = w.heap.size + 3 := by simp
 obtain ⟨W0, hW0⟩ : ∃ W0, (((w.alloc (cell6 t.k t.p t.n t.s lv kv)).alloc (.cells #[.int .i64 0] 3)).alloc (.cells #[.pointer (some ⟨w.heap.size, 0, none⟩)] 136)) = W0 := ⟨_, rfl⟩
 rw [hW0] at h6 hc hp hbel hsz0 |-
 clear hW0
 have hty := boxed_tyAt (S := fun k => B k \/ k = w.heap.size) h6 (hv.to hB hbel) (fun _ h => .inl h) (.inr rfl)
 have hX : ∀ k, k = w.heap.size + 1 -> ¬ (B k \/ k = w.heap.size) /\ k < W0.heap.size := fun k e => ⟨fun h => h.elim (fun h => by have := hB k h; omega) (fun h => by omega), by omega⟩
 have hS : ∀ k, (B k \/ k = w.heap.size) -> k < W0.heap.size := fun k h => h.elim (fun h => by have := hB k h; omega) (fun h => by omega)
 refine wpIn_range_told rfl h1 (gf := 125) (lb := #[.pointer (some ⟨w.heap.size + 1 + 1, 0, none⟩)]) rfl trivial (enters_of Tryz.func125 (by kernel_rfl) rfl)
  (nodes_tells (n - 1) (w.heap.size + 1 + 1) w.heap.size 0 t (fun k => B k \/ k = w.heap.size) (fun k => k = w.heap.size + 1) W0 hX hS (by omega) hp hty hdep) (fun h g => KV.trans h g) (fun W l o o' _ h ho _ => KV.of_cells (by simp) (cellsKept_put h ho)) (fun x A B h hp => Px.kept h hp) (Below.refl _ _) (fun _ => rfl)
  (fun pre W => W.heap[w.heap.size + 1]? = some (.cells #[.int .i64 (wrap64 pre.length)] 3 (0, 0)) /\ Below w.heap.size w W) (fun _ _ _ => False)
  ((abides_boxed (by omega) _ _).and (abidesAll_below (by omega) (Nat.le_refl _))) (fun _ _ _ _ _ h _ _ => h) ⟨by rw [show wrap64 ((([] : List Nd).length : Nat) : Int) = 0 from w64_id _ (by simp) (by simp)]; exact hc, hbel⟩
  (fun x a' _ => a' = { tmps := #[.agg #[.int .i64 t.k, .int .i64 t.p, .string t.n, .int .i64 t.s, lv, kv], .pointer (some ⟨w.heap.size, 0, none⟩), .int .i64 0, .pointer (some ⟨w.heap.size + 1, 0, none⟩),
   .func (.func 125) #[] #[.pointer (some ⟨w.heap.size + 1 + 1, 0, none⟩)], .agg #[x.ar, .int .i64 x.kid], .pointer (some ⟨x.b, x.o, none⟩), undef, undef, undef], defers := [] }) (fun _ _ _ _ _ h => h) ?assign ?body ?done ?stop
 case assign =>
  intro l pre x W K hi hp hK
  simp only [ndArgs]
  gi_wp2
  exact hK _ _ (KeepsFrom.refl _ _) (KV.refl _ _ _) hi hp (by simp)
 case body =>
  rintro l pre x a' W hl _ ⟨hb, hbw⟩ hpx rfl
  have c0 : W.cell? ⟨w.heap.size + 1, 0, none⟩ = some (.int .i64 (wrap64 pre.length)) := by simp [World.cell?, hb]
  have f0 : W.frozen? ⟨w.heap.size + 1, 0, none⟩ = false := by simp [World.frozen?, hb]
  have HB := hid hb
  clear hb hpx
  gi_wp2
  refine ⟨(KeepsOthers.setCell _ _ _).from _, ?_, ?_, hbw.setCell (p := ⟨w.heap.size + 1, 0, none⟩) (by simp) _⟩
  ·exact ⟨by simp, fun k o hk hc hx _ => (Below.heap_setCell _ _ _ k (fun e => hx e)).trans hk⟩
  ·rw [w64_succ x pre]
   exact set_block HB.out 0 _
 case done =>
  rintro D ys W hD hys ⟨hb, hbw⟩ hK
  have hlen : ys.length = t.size := by
   have := congrArg List.length hys
   rwa [List.length_map, preT_length] at this
  rw [hlen, w64_id _ (by omega) (by omega)] at hb
  have c0 : W.cell? ⟨w.heap.size + 1, 0, none⟩ = some (.int .i64 t.size) := by simp [World.cell?, hb]
  have HK := hid hK
  clear hb hys hlen hK
  gi_wp2
  refine ⟨by simp, .inl ⟨_, _, rfl, run_takeDeferred HK.out, ?_⟩⟩
  exact ⟨_, results_tmp rfl _ _ _, rfl, hbw.trans (belowK_b (w := w) (Nat.le_refl _) W D _ _ (by omega) HK.out rfl rfl)⟩
 case stop =>
  rintro D c pre W _ _ h _
  exact h.elim
theorem tsize_any (B : Nat -> Prop) (t : Ty) (hsz : t.size <= 1000000) (hdep : t.depth <= 1000) (v : Value) (w : World) (hB : Low B w) (hv : TyVal B w v t) :
 Calls Tryz.prog 70 #[v] w fun e w' => e = .returned (.int .i64 t.size) /\ Below w.heap.size w w' := by
 have hv' := hv
 obtain ⟨lv, kv, rfl, _⟩ := hv'
 exact callsIn_wide.1 (tsize_in 3 (by omega) B t hsz hdep lv kv w hB hv)
end Go.Proofs.YtejaboajgecpaaaGreatDoor
namespace Go.Proofs.YtejaboajgecpaaaGreatDoor
open Go.RowKit Go.Deep Go.Shelf
attribute [local go_sem] Oper.semAt_some
end Go.Proofs.YtejaboajgecpaaaGreatDoor
namespace Go.Proofs.YtejaboajgecpaaaGreatDoor
open Go.RowKit Go.Deep Go.Shelf
attribute [local go_sem] Oper.semAt_some
end Go.Proofs.YtejaboajgecpaaaGreatDoor
namespace Go.Proofs.YtejaboajgecpaaaGreatDoor.Lx
def letB (b : Int) : Bool := decide (65 <= b /\ b <= 90 \/ 97 <= b /\ b <= 122 \/ b = 95)
def digB (b : Int) : Bool := decide (48 <= b /\ b <= 57)
def letU (c : UInt8) : Bool := letB (c.toNat : Int)
def digU (c : UInt8) : Bool := digB (c.toNat : Int)
def wcU (c : UInt8) : Bool := letU c || digU c
def span (p : UInt8 -> Bool) (l : List UInt8) : Nat := (l.takeWhile p).length
def wordLen : List UInt8 -> Nat
 | [] => 0
 | c :: r => if letU c then 1 + span wcU r else 0
def numberLen : List UInt8 -> Nat
 | [] => 0
 | c :: r =>
  if c = 48 then 1
  else if c = 45 then
   match r with
   | [] => 0
   | d :: _ => if d = 48 then 0 else if digU d then 1 + span digU r else 0
  else if digU c then 1 + span digU r else 0
def commentLen (l : List UInt8) : Nat := span (fun c => c != 10) l
def blank (c : UInt8) : Bool := c == 32 || c == 9 || c == 10 || c == 13
def skipG : Bool -> List UInt8 -> Nat
 | _, [] => 0
 | false, c :: r => if blank c then 1 + skipG false r else if c = 35 then 1 + skipG true r else 0
 | true, c :: r => if c = 10 then 1 + skipG false r else 1 + skipG true r
theorem span_le (p : UInt8 -> Bool) (l : List UInt8) : span p l <= l.length := by
 unfold span; exact (List.takeWhile_sublist p).length_le
theorem span_nil (p : UInt8 -> Bool) : span p [] = 0 := rfl
theorem span_cons (p : UInt8 -> Bool) (c : UInt8) (r : List UInt8) : span p (c :: r) = if p c then 1 + span p r else 0 := by
 unfold span; rw [List.takeWhile_cons]; split <;> simp; omega
theorem span_eq (p : UInt8 -> Bool) : ∀ (l : List UInt8) (k : Nat), k <= l.length -> (∀ j (h : j < l.length), j < k -> p l[j] = true) -> (∀ h : k < l.length, p l[k] = false) -> span p l = k
 | [], k, hk, _, _ => by simp at hk; subst hk; rfl
 | c :: r, 0, _, _, h2 => by have := h2 (by simp); rw [span_cons]; simp at this; simp [this]
 | c :: r, k + 1, hk, h1, h2 => by
  have hc := h1 0 (by simp) (by omega)
  rw [span_cons]; simp at hc; rw [if_pos hc]
  have := span_eq p r k (by simp at hk; omega) (fun j h hj => by have := h1 (j + 1) (by simp; omega) (by omega); simpa using this) (fun h => by have := h2 (by simp; omega); simpa using this)
  omega
theorem skipG_nil (b : Bool) : skipG b [] = 0 := by cases b <;> simp [skipG]
theorem skipG_blank (c : UInt8) (r : List UInt8) (h : blank c = true) : skipG false (c :: r) = 1 + skipG false r := by
 rw [skipG, if_pos h]
theorem skipG_stop (c : UInt8) (r : List UInt8) (h : blank c = false) (h2 : c ≠ 35) : skipG false (c :: r) = 0 := by
 rw [skipG, if_neg (by simp [h]), if_neg h2]
theorem skipG_true : ∀ l : List UInt8, skipG true l = commentLen l + skipG false (l.drop (commentLen l))
 | [] => by simp [skipG, commentLen, span_nil]
 | c :: r => by
  rw [skipG]
  unfold commentLen
  rw [span_cons]
  by_cases h : c = 10
  ·rw [if_pos h, if_neg (by simp [h]), List.drop_zero, h, skipG_blank 10 r (by decide)]; omega
  ·rw [if_neg h, if_pos (by simpa using h), skipG_true r]; unfold commentLen
   rw [Nat.add_comm 1 (span _ r), List.drop_succ_cons]; omega
theorem skipG_hash (r : List UInt8) : skipG false (35 :: r) = commentLen (35 :: r) + skipG false ((35 :: r).drop (commentLen (35 :: r))) := by
 rw [skipG, if_neg (by decide), if_pos rfl, skipG_true]
 have : commentLen (35 :: r) = commentLen r + 1 := by unfold commentLen; rw [span_cons, if_pos (by decide)]; omega
 rw [this, List.drop_succ_cons]; omega
theorem commentLen_hash (r : List UInt8) : 1 <= commentLen (35 :: r) := by
 unfold commentLen; rw [span_cons, if_pos (by decide)]; omega
theorem commentLen_le (l : List UInt8) : commentLen l <= l.length := span_le _ _
theorem skipG_le : ∀ (b : Bool) (l : List UInt8), skipG b l <= l.length := by
 have h : ∀ (n : Nat) (l : List UInt8), l.length <= n -> skipG false l <= l.length := by
  intro n
  induction n with
  | zero => intro l hl; have : l = [] := List.eq_nil_of_length_eq_zero (by omega); subst this; simp [skipG]
  | succ n ih =>
   intro l hl
   cases l with
   | nil => simp [skipG]
   | cons c r =>
    by_cases hb : blank c = true
    ·rw [skipG_blank c r hb]; have := ih r (by simp at hl; omega); simp; omega
    ·by_cases h35 : c = 35
     ·subst h35
      rw [skipG_hash]
      have h1 := commentLen_hash r
      have h2 := commentLen_le (35 :: r)
      have := ih ((35 :: r).drop (commentLen (35 :: r))) (by rw [List.length_drop]; omega)
      rw [List.length_drop] at this; omega
     ·rw [skipG_stop c r (by simpa using hb) h35]; omega
 intro b l
 cases b with
 | false => exact h _ l (Nat.le_refl _)
 | true =>
  rw [skipG_true]
  have h2 := commentLen_le l
  have := h _ (l.drop (commentLen l)) (Nat.le_refl _)
  rw [List.length_drop] at this; omega
end Go.Proofs.YtejaboajgecpaaaGreatDoor.Lx
