/- Package lex: the iterator's contract. -/
import Derived.Test.YtenhjddkocldaaaDoorLexG
namespace Go.Proofs.YtenhjddkocldaaaDoor
open Go.RowKit Go.Shelf
attribute [local go_sem] Oper.semAt_some

set_option maxRecDepth 100000 in
set_option maxHeartbeats 1000000 in
theorem scan1_in (n : Nat) (hn : 1 ≤ n) (l Bn O n₀ B : Nat) (hBn : Bn < n₀) (hBO : Bn ≠ O) (hB : B ≤ O) (hO : O < n₀) (s : ByteArray) (hs : s.size ≤ 281474976710656) (xs : List Item)
    (hxs : xs = items (s.size + 1) s.data.toList (Lx.skipG false s.data.toList)) (J Jx : List Item → World → Prop)
    (W : World) (hI : Inv O n₀ Bn B s W) (hJ : AbidesFrom W.heap.size J)
    (hY : ∀ pre x W, J pre W → pre.length < xs.length → YieldAt Fence.wide (n - 1) Tryd.prog l (encs x) W fun e W' =>
      (e = .returned (.bool true) ∧ J (pre ++ [x]) W' ∧ Kp O n₀ W W') ∨ (e = .returned (.bool false) ∧ Jx (pre ++ [x]) W'))
    (h0 : J [] W) :
    CallsIn Fence.wide n Tryd.prog 28 #[.func (.yield l) #[] #[], .pointer (some ⟨Bn, 0, none⟩)] W fun e W' => (∃ v, e = .returned v) ∧
      ((∃ ys, ys = xs ∧ J ys W') ∨ (∃ pre, pre <+: xs ∧ Jx pre W')) := by
  have hc := hI.box.cell
  have hs' : s.size ≤ 9223372036854775807 := by omega
  obtain ⟨nx0, hnx0⟩ : ∃ nx, Hid (Lx.skipG false s.data.toList = nx) := ⟨_, Lib.hid rfl⟩
  have HX := Lib.hid hxs
  clear hxs
  refine callsIn_of_wp Tryd.func28 rfl trivial ?_ rfl
  simp only [Tryd.ntmps28, List.size_toArray, List.length_cons, List.length_nil, Nat.reduceAdd, Nat.reduceSub, Array.replicate_succ, Array.replicate_zero, List.push_toArray, List.append_toArray, List.nil_append, List.cons_append]
  gi_wp2_with (refine ⟨trivial, ?_⟩; gi_at_call 29; refine (callsIn_wide.2 (skip_zero s hs' nx0 hnx0 _)).mono ?_; rintro e w1 ⟨rfl, rfl⟩)
  gi_loopw [3] (fun p wr => ∃ (pre : List Item) (a f : Nat), p = .int .i64 a ∧ a ≤ s.size ∧ Hid (xs = pre ++ items f s.data.toList a) ∧ s.size - a < f ∧ J pre wr ∧ Inv O n₀ Bn B s wr ∧ W.heap.size ≤ wr.heap.size)
    (fun p _ => s.size - (intOf p).toNat)
  case atStart =>
    have hle := Lx.skipG_le false s.data.toList
    have hll : s.data.toList.length = s.size := rfl
    rw [← hnx0.out]
    exact ⟨[], _, s.size + 1, rfl, by omega, Lib.hid HX.out, by omega, h0, hI, Nat.le_refl _⟩
  case round =>
    obtain ⟨pre, a, f, rfl, ha, hx, hf, hJs, hinv, hsz⟩ := hrel
    have hc := hinv.box.cell
    by_cases hlt : a < s.size
    · rcases tokL_cases s.data.toList a hlt with ⟨e, he, he'⟩ | ⟨k, t, v, ht, htx, ht1, ht2⟩
      · have HT := Lib.hid he
        have hne : (e != 0) = true := by rcases he' with rfl | rfl <;> rfl
        cases f with
        | zero => omega
        | succ f =>
          have hit := items_err f s.data.toList a hlt e he
          have hx' : xs = pre ++ [⟨0, ⟨#[]⟩, 0, 0, e, a⟩] := by rw [hx.out, hit]
          have hlen : pre.length < xs.length := by rw [hx.out, hit]; simp
          have HX' := Lib.hid hx'
          clear hit hx' he he' hx
          gi_wp2_with fail
          refine ⟨trivial, ?_⟩
          refine (callsIn_wide.2 (tokenAt_err s hs a hlt e HT B _ hinv.env)).mono ?_
          rintro e1 w1 ⟨rfl, hb⟩
          have hb2 := hb.trans ((blkBelow w1 #[.int .i64 0, .string ⟨#[]⟩, .int .i64 0, .int .i64 0] 39).mono hb.size)
          have hinv2 := hinv.to hO hb2
          have hJ2 := hJ pre _ _ none hJs (grown_none hb2) (fun r e => by cases e)
          obtain ⟨fn, tmps, assign, body, hy, hR⟩ := hY pre ⟨0, ⟨#[]⟩, 0, 0, e, a⟩ _ hJ2 hlen
          simp only [encs] at hy
          gi_wp2_with fail
          refine hR.mono ?_
          rintro e1 W3 (⟨rfl, hJ3, hk3⟩ | ⟨rfl, hJx3⟩)
          · gi_wp2
            refine bodyPost_ret (results_none rfl _ _ _) rfl ?_
            exact ⟨⟨_, rfl⟩, .inl ⟨_, HX'.out.symm, hJ3⟩⟩
          · gi_wp2
            refine bodyPost_ret (results_none rfl _ _ _) rfl ?_
            exact ⟨⟨_, rfl⟩, .inr ⟨_, ⟨[], by rw [List.append_nil]; exact HX'.out.symm⟩, hJx3⟩⟩
      · have HT := Lib.hid ht
        have HTX := Lib.hid htx
        cases f with
        | zero => omega
        | succ f =>
          have hit := items_tok f s.data.toList a hlt k t v ht htx
          have hx' : xs = (pre ++ [⟨k, t, v, a, 0, 0⟩]) ++ items f s.data.toList (a + t.size + Lx.skipG false (s.data.toList.drop (a + t.size))) := by
            rw [hx.out, hit]; simp
          have hlen : pre.length < xs.length := by rw [hx.out, hit]; simp
          obtain ⟨nx, hnx⟩ : ∃ nx, Hid (a + t.size + Lx.skipG false (s.data.toList.drop (a + t.size)) = nx) := ⟨_, Lib.hid rfl⟩
          have hnle : nx ≤ s.size := by
            have h1 := Lx.skipG_le false (s.data.toList.drop (a + t.size))
            have h2 : s.data.toList.length = s.size := rfl
            rw [List.length_drop] at h1; have := hnx.out; omega
          have hnge : a + t.size ≤ nx := by have := hnx.out; omega
          have ht2' : a + t.size ≤ s.size := ht2
          have HX' := Lib.hid hx'
          clear hit hx' ht htx hx ht2
          gi_wp2_with fail
          refine ⟨trivial, ?_⟩
          refine (callsIn_wide.2 (tokenAt_tok s hs a hlt k t v HT HTX B _ hinv.env)).mono ?_
          rintro e w1 ⟨rfl, hb⟩
          have hb2 := hb.trans ((blkBelow w1 #[.int .i64 k, .string t, .int .i64 v, .int .i64 a] 39).mono hb.size)
          have hinv2 := hinv.to hO hb2
          have hJ2 := hJ pre _ _ none hJs (grown_none hb2) (fun r e => by cases e)
          obtain ⟨fn, tmps, assign, body, hy, hR⟩ := hY pre ⟨k, t, v, a, 0, 0⟩ _ hJ2 hlen
          simp only [encs] at hy
          gi_wp2_with fail
          refine hR.mono ?_
          rintro e W3 (⟨rfl, hJ3, hk3⟩ | ⟨rfl, hJx3⟩)
          · have hinv3 := hinv2.over hBn hBO hB hO hk3
            have hbox := hinv3.box.cell
            have htok := Boxed.at4 (hk3.keep w1.heap.size _ (World.alloc_heap_new w1 _) rfl (by have := hinv.le; have := hb.size; omega) (fun hr => by
              have h1 := (hr.old (by have := hinv.le; have := hb.size; omega) (blkBelow w1 _ _)).old (by have := hinv.le; omega) hb
              have := (hinv.good _ h1).2; have := hb.size; omega))
            gi_wp2_with (refine ⟨trivial, ?_⟩; gi_at_call 29; refine (callsIn_wide.2 (skip_sum s hs' a t.size ht2' nx hnx _)).mono ?_; rintro e w1 ⟨rfl, rfl⟩)
            have hz3 := hk3.size
            have hz1 := hb.size
            rw [World.size_alloc] at hz3
            exact ⟨⟨pre ++ [⟨k, t, v, a, 0, 0⟩], nx, f, rfl, hnle, Lib.hid (by rw [HX'.out, hnx.out]), by omega, hJ3, hinv3, by omega⟩, by simp [intOf]; omega⟩
          · gi_wp2
            refine bodyPost_ret (results_none rfl _ _ _) rfl ?_
            exact ⟨⟨_, rfl⟩, .inr ⟨pre ++ [⟨k, t, v, a, 0, 0⟩], ⟨_, HX'.out.symm⟩, hJx3⟩⟩
    · have hit := items_end f s.data.toList a hlt
      have hx' : xs = pre := by rw [hx.out, hit, List.append_nil]
      have HX' := Lib.hid hx'
      clear hit hx' hx
      gi_wp2
      go_end0
      exact ⟨⟨_, rfl⟩, .inl ⟨_, HX'.out.symm, hJs⟩⟩

end Go.Proofs.YtenhjddkocldaaaDoor
