/- The law LexPlaces: the call returns true for every text. -/
import Derived.Test.YtdfmndknnkedmaaDoorLexP
namespace Go.Proofs.YtdfmndknnkedmaaDoor
open Go.RowKit Go.Shelf Go.Deep

/-- The items lie in the text one behind the other, from fr on. -/
def Chain (s : ByteArray) : Nat → List Item → Prop
  | _, [] => True
  | fr, x :: r => ∃ a : Nat, x.a = a ∧ fr ≤ a ∧ 1 ≤ x.t.size ∧ a + x.t.size ≤ s.size ∧ s.extract a (a + x.t.size) = x.t ∧ Chain s (a + x.t.size) r
theorem extract_cut (s : ByteArray) (a n : Nat) : s.extract a (a + n) = txt ((s.data.toList.drop a).take n) := by
  apply ByteArray.ext
  apply Array.toList_inj.1
  unfold txt
  rw [ByteArray.data_extract, Array.toList_extract]
  simp [List.extract_eq_take_drop]
theorem items_chain (s : ByteArray) : ∀ (f a fr : Nat), fr ≤ a → (∀ x ∈ items f s.data.toList a, x.e = 0) → Chain s fr (items f s.data.toList a)
  | 0, a, fr, _, _ => by simp [items, Chain]
  | f + 1, a, fr, h, hok => by
    by_cases ha : a < s.data.toList.length
    · rcases tokL_cases s.data.toList a ha with ⟨e, he, he'⟩ | ⟨k, t, v, ht, htx, ht1, ht2⟩
      · rw [items_err f _ a ha e he] at hok
        have := hok _ (List.mem_singleton.2 rfl)
        simp at this; omega
      · rw [items_tok f _ a ha k t v ht htx] at hok ⊢
        refine ⟨a, rfl, h, ht1, ht2, ?_, items_chain s f _ _ (show a + t.size ≤ _ by omega) (fun x hx => hok x (by simp [hx]))⟩
        rw [extract_cut]; exact htx.symm
    · rw [items_end _ _ _ ha]; simp [Chain]

theorem LexPlaces_long (s : ByteArray) (hs : 3000 < s.size) (B : Nat) (w : World) (he : Env B w) :
    Calls Tryd.prog 5 #[.string s] w fun e w' => e = .returned (.bool true) ∧ Below w.heap.size w w' := by
  have hd : decide ((3000 : Int) < (s.size : Int)) = true := by simp; omega
  go_enter Tryd.func5, Tryd.ntmps5
  go_wp2_with fail
  refine (awake_any B w he).mono ?_
  rintro e w1 ⟨rfl, hb1⟩
  go_wp2_with fail
  refine (awake_any B w1 (he.to hb1)).mono ?_
  rintro e w2 ⟨rfl, hb2⟩
  go_wp2_with fail
  go_ret
  exact ⟨rfl, hb1.trans (hb2.mono hb1.size)⟩

set_option maxHeartbeats 1000000 in
theorem LexPlaces_nil (s : ByteArray) (hs : s.size ≤ 3000) (ec pc : Int) (B : Nat) (hT : ∀ w, Env B w → Calls Tryd.prog 9 #[.string s] w fun e W' => e = .returned (.tuple #[.slice none 0 0, .agg #[.int .i64 ec, .int .i64 pc]]) ∧ Below w.heap.size w W') (w : World) (he : Env B w) :
    Calls Tryd.prog 5 #[.string s] w fun e w' => e = .returned (.bool true) ∧ Below w.heap.size w w' := by
  have hd : decide ((3000 : Int) < (s.size : Int)) = false := by simp; omega
  have HT := Lib.hid hT
  clear hT
  go_enter Tryd.func5, Tryd.ntmps5
  go_wp2_with fail
  refine (awake_any B w he).mono ?_
  rintro e w1 ⟨rfl, hb1⟩
  go_wp2_with fail
  refine (HT.out w1 (he.to hb1)).mono ?_
  rintro e w2 ⟨rfl, hb2⟩
  have HB := Lib.hid (hb1.trans (hb2.mono hb1.size))
  clear hb1 hb2
  go_wp2_with fail
  go_loop [6] (fun i => i = .int .i64 0) (fun _ => 0)
  case atStart => rfl
  case round =>
    obtain rfl := hrel
    go_wp2_with fail
    go_ret
    exact ⟨rfl, HB.out.alloc HB.out.size _⟩

theorem chain_drop (s : ByteArray) (xs : List Item) (k fr : Nat) (x : Item) (hx : xs[k]? = some x) (h : Chain s fr (xs.drop k)) :
    ∃ a : Nat, x.a = a ∧ fr ≤ a ∧ 1 ≤ x.t.size ∧ a + x.t.size ≤ s.size ∧ s.extract a (a + x.t.size) = x.t ∧ Chain s (a + x.t.size) (xs.drop (k + 1)) := by
  obtain ⟨hk, e⟩ := List.getElem?_eq_some_iff.1 hx
  rw [List.drop_eq_getElem_cons hk, e] at h
  exact h

set_option maxHeartbeats 1000000 in
set_option maxRecDepth 100000 in
theorem LexPlaces_ok (s : ByteArray) (hs : s.size ≤ 3000) (xs : List Item) (hx : items (s.size + 1) s.data.toList (Lx.skipG false s.data.toList) = xs) (hne : xs ≠ []) (hok : ∀ x ∈ xs, x.e = 0) (B : Nat) (w : World) (he : Env B w) :
    Calls Tryd.prog 5 #[.string s] w fun e w' => e = .returned (.bool true) ∧ Below w.heap.size w w' := by
  have hd : decide ((3000 : Int) < (s.size : Int)) = false := by simp; omega
  have hl : xs.length ≤ s.size + 1 := by rw [← hx]; exact items_len _ _ _
  have hch : Hid (Chain s 0 (xs.drop 0)) := Lib.hid (by rw [List.drop_zero, ← hx]; exact items_chain s _ _ 0 (by omega) (by rw [hx]; exact hok))
  have HT : Hid (∀ w, Env B w → Calls Tryd.prog 9 #[.string s] w fun e W' => ∃ g cap, e = .returned (.tuple #[.slice (some ⟨g, 0, none⟩) xs.length cap, .agg #[.int .i64 0, .int .i64 0]]) ∧ w.heap.size ≤ g ∧ g < W'.heap.size ∧ TokAt W' g 0 xs ∧ Below w.heap.size w W') :=
    Lib.hid (fun w he => tokens_good s (by omega) xs hx hok hne B w he)
  obtain ⟨n, hn⟩ : ∃ n, Hid (n = xs.length) := ⟨_, Lib.hid rfl⟩
  rw [← hn.out] at hl
  clear hx hne hok
  go_enter Tryd.func5, Tryd.ntmps5
  go_wp2_with fail
  refine (awake_any B w he).mono ?_
  rintro e w1 ⟨rfl, hb1⟩
  go_wp2_with fail
  refine (HT.out w1 (he.to hb1)).mono ?_
  rintro e w2 ⟨g, cap, rfl, hg, hgl, ht, hb2⟩
  have HB := Lib.hid (hb1.trans (hb2.mono hb1.size))
  have ht' := ht.below hgl (blkBelow w2 #[.int .i64 0, .int .i64 0] 26)
  rw [← hn.out]
  clear hb1 hb2 ht he
  go_wp2_with fail
  have HB2 := Lib.hid (HB.out.alloc HB.out.size (.cells #[.int .i64 0, .int .i64 0] 26))
  generalize w2.alloc (.cells #[.int .i64 0, .int .i64 0] 26) = W2 at *
  go_loopw [5, 6] (fun fr i wr => ∃ (k f : Nat), i = .int .i64 k ∧ fr = .int .i64 f ∧ k ≤ n ∧ f ≤ s.size ∧ Hid (Chain s f (xs.drop k)) ∧ ∃ nq, wr = W2.drewN nq) (fun _ i _ => n - (intOf i).toNat)
  case atStart => exact ⟨0, 0, rfl, rfl, by omega, by omega, hch, 0, rfl⟩
  case round =>
    obtain ⟨k, f, rfl, rfl, hk, hf, hc, nq, rfl⟩ := hrel
    by_cases hlt : k < n
    · obtain ⟨x, hx⟩ : ∃ x, xs[k]? = some x := ⟨_, List.getElem?_eq_getElem (by rw [← hn.out]; exact hlt)⟩
      obtain ⟨t0, t1, t2, t3⟩ := ht' k x hx
      obtain ⟨a, ha, h1, h2, h3, h4, h5⟩ := chain_drop s xs k f x hx hc.out
      obtain ⟨xk, t, xv, xa, xe, xp⟩ := x
      simp only at ha h1 h2 h3 h4 h5 t0 t1 t2 t3
      subst ha
      have H5 := Lib.hid h5
      have q1 : decide (a < f) = false := by simp; omega
      have q2 : ((t.size : Int) == 0) = false := by rw [beq_eq_false_iff_ne]; omega
      have q3 : decide ((s.size : Int) < (a : Int) + (t.size : Int)) = false := by simp; omega
      clear hx h5 hc
      simp only [Nat.zero_add] at t0 t1 t2 t3
      go_wp2_with fail
      go_quiet (fail)
      go_wp2_with fail
      go_quiet (fail)
      go_wp2_with fail
      go_roundw
      case rel => exact ⟨k + 1, a + t.size, by go_num, by go_num, by omega, by omega, H5, _, rfl⟩
      case measure => simp [intOf]; omega
    · go_wp2_with fail
      go_ret
      exact ⟨rfl, below_drewN HB2.out nq⟩

theorem LexPlaces_any (s : ByteArray) (_hz : s.size ≤ maxLen) (B : Nat) (w : World) (he : Env B w) :
    Calls Tryd.prog 5 #[.string s] w fun e w' => e = .returned (.bool true) ∧ Below w.heap.size w w' := by
  by_cases hs : 3000 < s.size
  · exact LexPlaces_long s hs B w he
  · rcases items_three s with ⟨q, x, h, hxe, _⟩ | h | ⟨hne, hok⟩
    · exact LexPlaces_nil s (by omega) _ _ B (fun w he => tokens_bad s (by omega) q x h hxe B w he) w he
    · exact LexPlaces_nil s (by omega) _ _ B (fun w he => tokens_empty s (by omega) h B w he) w he
    · exact LexPlaces_ok s (by omega) _ rfl hne hok B w he

end Go.Proofs.YtdfmndknnkedmaaDoor
