/- The law's fixed examples: awake returns true. -/
import Derived.Test.YtenhjddkocldaaaDoorLexL
namespace Go.Proofs.YtenhjddkocldaaaDoor
open Go.RowKit Go.Shelf Go.Deep

theorem rowOf_get : ∀ (xs : List Item) (k i : Nat) (x : Item), xs[k]? = some x → i < 4 → (rowOf xs)[k * 4 + i]? = (cellsOf x)[i]?
  | [], k, i, x, h, _ => by simp at h
  | y :: xs, 0, i, x, h, hi => by
    simp at h; subst h
    have e : rowOf (y :: xs) = cellsOf y ++ rowOf xs := by simp [rowOf]
    rw [e, Nat.zero_mul, Nat.zero_add, List.getElem?_append_left (by simpa [cellsOf] using hi)]
  | y :: xs, k + 1, i, x, h, hi => by
    have e : rowOf (y :: xs) = cellsOf y ++ rowOf xs := by simp [rowOf]
    have el : (cellsOf y).length = 4 := rfl
    rw [e, List.getElem?_append_right (by omega), el]
    have e2 : (k + 1) * 4 + i - 4 = k * 4 + i := by omega
    rw [e2]; exact rowOf_get xs k i x (by simpa using h) hi
theorem tokAt_of_row {W : World} {base g n cap : Nat} {xs : List Item} (h : W.ownsRow base 39 4 (.slice (some ⟨g, 0, none⟩) n cap) n (rowOf xs)) (hn : n = xs.length) : TokAt W g 0 xs := by
  intro k x hx
  have hk := (List.getElem?_eq_some_iff.1 hx).1
  have key : ∀ i, i < 4 → W.cell? ⟨g, k * 4 + i, none⟩ = (cellsOf x)[i]? := fun i hi => (h.cellAt _ (by omega)).trans (rowOf_get xs k i x hx hi)
  rw [Nat.zero_add]
  exact ⟨key 0 (by omega), key 1 (by omega), key 2 (by omega), key 3 (by omega)⟩
theorem TokAt.below {W W' : World} {g o : Nat} {xs : List Item} (h : TokAt W g o xs) (hg : g < W.heap.size) (hb : Below W.heap.size W W') : TokAt W' g o xs := by
  intro k x hx
  obtain ⟨h0, h1, h2, h3⟩ := h k x hx
  exact ⟨(hb.cell (p := ⟨g, _, none⟩) hg).trans h0, (hb.cell (p := ⟨g, _, none⟩) hg).trans h1, (hb.cell (p := ⟨g, _, none⟩) hg).trans h2, (hb.cell (p := ⟨g, _, none⟩) hg).trans h3⟩

/-- A text without a fault, with a token at least. -/
theorem tokens_good (s : ByteArray) (hs : s.size ≤ 65536) (xs : List Item) (hx : items (s.size + 1) s.data.toList (Lx.skipG false s.data.toList) = xs) (hok : ∀ x ∈ xs, x.e = 0) (hne : xs ≠ []) (B : Nat) (w : World) (he : Env B w) :
    Calls Tryd.prog 9 #[.string s] w fun e W' => ∃ g cap, e = .returned (.tuple #[.slice (some ⟨g, 0, none⟩) xs.length cap, .agg #[.int .i64 0, .int .i64 0]]) ∧ w.heap.size ≤ g ∧ g < W'.heap.size ∧ TokAt W' g 0 xs ∧ Below w.heap.size w W' := by
  refine (tokens_any s hs B w he).mono ?_
  rw [hx]
  rintro e W' ⟨⟨q, x, rfl, hxe, rfl⟩ | ⟨_, v, rfl, hrow, hnil⟩, hb⟩
  · exact absurd (hok x (by simp)) hxe
  · have h2 := hrow.2
    rcases h2 with ⟨rfl, _⟩ | ⟨g, cap, cur, rfl, hg, _⟩
    · exact absurd (hnil.1 rfl) hne
    · exact ⟨g, cap, rfl, hg, (ownsRow_block hrow rfl).2, tokAt_of_row hrow rfl, hb⟩
/-- A text with a fault. -/
theorem tokens_bad (s : ByteArray) (hs : s.size ≤ 65536) (q : List Item) (x : Item) (hx : items (s.size + 1) s.data.toList (Lx.skipG false s.data.toList) = q ++ [x]) (hxe : x.e ≠ 0) (B : Nat) (w : World) (he : Env B w) :
    Calls Tryd.prog 9 #[.string s] w fun e W' => e = .returned (.tuple #[.slice none 0 0, .agg #[.int .i64 x.e, .int .i64 x.p]]) ∧ Below w.heap.size w W' := by
  refine (tokens_any s hs B w he).mono ?_
  rw [hx]
  rintro e W' ⟨⟨q', x', h, _, rfl⟩ | ⟨hok, _⟩, hb⟩
  · obtain ⟨_, h⟩ := List.append_inj' h rfl
    cases h
    exact ⟨rfl, hb⟩
  · exact absurd (hok x (by simp)) hxe

/-- A text without a token. -/
theorem tokens_empty (s : ByteArray) (hs : s.size ≤ 65536) (hx : items (s.size + 1) s.data.toList (Lx.skipG false s.data.toList) = []) (B : Nat) (w : World) (he : Env B w) :
    Calls Tryd.prog 9 #[.string s] w fun e W' => e = .returned (.tuple #[.slice none 0 0, .agg #[.int .i64 0, .int .i64 0]]) ∧ Below w.heap.size w W' := by
  refine (tokens_any s hs B w he).mono ?_
  rw [hx]
  rintro e W' ⟨⟨q, x, h, _⟩ | ⟨_, v, rfl, _, hnil⟩, hb⟩
  · have := congrArg List.length h; simp at this
  · rw [hnil.2 rfl]; exact ⟨rfl, hb⟩
/-- What is yielded: with a fault as the last; nothing; or tokens alone. -/
theorem items_three (s : ByteArray) : (∃ q x, items (s.size + 1) s.data.toList (Lx.skipG false s.data.toList) = q ++ [x] ∧ x.e ≠ 0 ∧ ∀ y ∈ q, y.e = 0) ∨
    items (s.size + 1) s.data.toList (Lx.skipG false s.data.toList) = [] ∨
    (items (s.size + 1) s.data.toList (Lx.skipG false s.data.toList) ≠ [] ∧ ∀ x ∈ items (s.size + 1) s.data.toList (Lx.skipG false s.data.toList), x.e = 0) := by
  have hl := items_last (s.size + 1) s.data.toList (Lx.skipG false s.data.toList)
  generalize items (s.size + 1) s.data.toList (Lx.skipG false s.data.toList) = xs at hl ⊢
  by_cases h : ∀ x ∈ xs, x.e = 0
  · by_cases h0 : xs = []
    · exact .inr (.inl h0)
    · exact .inr (.inr ⟨h0, h⟩)
  · left
    have : ∀ l : List Item, ¬ (∀ x ∈ l, x.e = 0) → ∃ q x r, l = q ++ x :: r ∧ x.e ≠ 0 ∧ ∀ y ∈ q, y.e = 0 := by
      intro l
      induction l with
      | nil => intro h; exact absurd (fun x hx => by cases hx) h
      | cons y l ih =>
        intro h
        by_cases hy : y.e = 0
        · obtain ⟨q, x, r, e, hx, hq⟩ := ih (fun hl => h (fun x hx => (List.mem_cons.1 hx).elim (fun e => by rw [e]; exact hy) (hl x)))
          exact ⟨y :: q, x, r, by rw [e]; rfl, hx, fun z hz => (List.mem_cons.1 hz).elim (fun e => by rw [e]; exact hy) (hq z)⟩
        · exact ⟨[], y, l, rfl, hy, fun z hz => by cases hz⟩
    obtain ⟨q, x, r, e, hx, hq⟩ := this xs h
    have hr := hl q r x e hx
    subst hr
    exact ⟨q, x, e, hx, hq⟩

def sA : ByteArray := ⟨#[97, 33, 60, 45, 53, 62, 46, 115, 116, 111, 112, 32, 35, 32, 120]⟩
def xA : List Item := [⟨1, ⟨#[97]⟩, 0, 0, 0, 0⟩, ⟨3, ⟨#[33]⟩, 0, 1, 0, 0⟩, ⟨3, ⟨#[60]⟩, 0, 2, 0, 0⟩, ⟨2, ⟨#[45, 53]⟩, -5, 3, 0, 0⟩, ⟨3, ⟨#[62]⟩, 0, 5, 0, 0⟩, ⟨3, ⟨#[46]⟩, 0, 6, 0, 0⟩, ⟨1, ⟨#[115, 116, 111, 112]⟩, 0, 7, 0, 0⟩]
theorem itA : items (sA.size + 1) sA.data.toList (Lx.skipG false sA.data.toList) = xA := by kernel_rfl
theorem itB : items 4 [97, 45, 98] (Lx.skipG false [97, 45, 98]) = [⟨1, ⟨#[97]⟩, 0, 0, 0, 0⟩] ++ [⟨0, ⟨#[]⟩, 0, 0, 1, 1⟩] := by kernel_rfl
theorem itC : items 20 [57, 50, 50, 51, 51, 55, 50, 48, 51, 54, 56, 53, 52, 55, 55, 53, 56, 48, 56] (Lx.skipG false [57, 50, 50, 51, 51, 55, 50, 48, 51, 54, 56, 53, 52, 55, 55, 53, 56, 48, 56]) = [] ++ [⟨0, ⟨#[]⟩, 0, 0, 2, 0⟩] := by kernel_rfl
theorem itD : items 4 [32, 48, 48] (Lx.skipG false [32, 48, 48]) = [⟨2, ⟨#[48]⟩, 0, 1, 0, 0⟩, ⟨2, ⟨#[48]⟩, 0, 2, 0, 0⟩] := by kernel_rfl
theorem jA : joinL xA = [97, 32, 33, 32, 60, 32, 45, 53, 32, 62, 32, 46, 32, 115, 116, 111, 112] := by kernel_rfl

end Go.Proofs.YtenhjddkocldaaaDoor
