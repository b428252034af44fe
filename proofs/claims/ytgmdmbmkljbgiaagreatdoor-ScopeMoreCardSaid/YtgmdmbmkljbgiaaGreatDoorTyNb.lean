/- Package lex, as package typetree uses it: Keyword, Name. -/
import Derived.Test.YtgmdmbmkljbgiaaGreatDoorTyNa
import Derived.Laws.Rows
namespace Go.Proofs.YtgmdmbmkljbgiaaGreatDoor
open Go.RowKit Go.Shelf

theorem bcellK {W w1 : World} (hb : Below W.heap.size W w1) : (∀ b o, b < W.heap.size → w1.cell? ⟨b, o, none⟩ = W.cell? ⟨b, o, none⟩) := fun b o h => hb.cell (p := ⟨b, o, none⟩) h
/-- What the package-level variable holds on which Keyword leans; B: a bound above it. -/
structure Env (B : Nat) (w : World) : Prop where
  words : w.var? Tryz.prog "duologue/lex.keywords" = some #[.string ⟨#[100, 101, 102]⟩, .string ⟨#[109, 97, 105, 110]⟩, .string ⟨#[115, 116, 111, 112]⟩, .string ⟨#[110, 101, 119]⟩, .string ⟨#[105, 110, 116]⟩, .string ⟨#[98, 111, 111, 108]⟩, .string ⟨#[101, 110, 100]⟩, .string ⟨#[114, 101, 99]⟩, .string ⟨#[116, 114, 117, 101]⟩, .string ⟨#[102, 97, 108, 115, 101]⟩]
  above : 0 < B
  size : B ≤ w.heap.size
theorem gWords : Tryz.prog.globalNamed "duologue/lex.keywords" = some 0 := by kernel_rfl
theorem Env.below {B : Nat} {w w' : World} (h : Env B w) (hb : Below B w w') : Env B w' := ⟨var?_below hb gWords h.above h.words, h.above, Nat.le_trans h.size hb.size⟩
theorem Env.to {B : Nat} {w w' : World} (h : Env B w) (hb : Below w.heap.size w w') : Env B w' := h.below (hb.mono h.size)

def kwAt : Nat → ByteArray
  | 0 => ⟨#[100, 101, 102]⟩
  | 1 => ⟨#[109, 97, 105, 110]⟩
  | 2 => ⟨#[115, 116, 111, 112]⟩
  | 3 => ⟨#[110, 101, 119]⟩
  | 4 => ⟨#[105, 110, 116]⟩
  | 5 => ⟨#[98, 111, 111, 108]⟩
  | 6 => ⟨#[101, 110, 100]⟩
  | 7 => ⟨#[114, 101, 99]⟩
  | 8 => ⟨#[116, 114, 117, 101]⟩
  | _ => ⟨#[102, 97, 108, 115, 101]⟩
def kwCells : Array Value := #[.string (kwAt 0), .string (kwAt 1), .string (kwAt 2), .string (kwAt 3), .string (kwAt 4), .string (kwAt 5), .string (kwAt 6), .string (kwAt 7), .string (kwAt 8), .string (kwAt 9)]
theorem kwIdx : ∀ (k : Nat) (_ : k < 10) (w : World), (Instr.index 132 (.agg kwCells) (.int .i64 k)).run Tryz.prog w = .ok (.string (kwAt k)) w
  | 0, _, _ => by kernel_rfl
  | 1, _, _ => by kernel_rfl
  | 2, _, _ => by kernel_rfl
  | 3, _, _ => by kernel_rfl
  | 4, _, _ => by kernel_rfl
  | 5, _, _ => by kernel_rfl
  | 6, _, _ => by kernel_rfl
  | 7, _, _ => by kernel_rfl
  | 8, _, _ => by kernel_rfl
  | 9, _, _ => by kernel_rfl
  | k + 10, h, _ => by omega
theorem Env.row {B : Nat} {w : World} (h : Env B w) : ∃ t fr, w.heap[0]? = some (.cells kwCells t fr) := by
  have hv := h.words
  unfold World.var? at hv
  rw [gWords] at hv
  simp only [Option.bind_some] at hv
  cases ho : w.heap[0]? with
  | none => rw [ho] at hv; cases hv
  | some o =>
    rw [ho] at hv
    cases o with
    | cells cs ty fr => simp only [Option.some.injEq] at hv; subst hv; exact ⟨ty, fr, rfl⟩
    | _ => cases hv
theorem kwU : Tryz.prog.underlying 132 = some (.array 10 9) := by kernel_rfl

/-- Among the first k keywords. -/
def kwB : Nat → ByteArray → Bool
  | 0, _ => false
  | k + 1, s => kwB k s || (kwAt k).toList == s.toList
theorem kwB_hit (s : ByteArray) (k : Nat) (h : ((kwAt k).toList == s.toList) = true) : ∀ m, k < m → kwB m s = true
  | 0, hm => by omega
  | m + 1, hm => by
    rw [kwB, Bool.or_eq_true]
    by_cases e : k = m
    · subst e; exact .inr h
    · exact .inl (kwB_hit s k h m (by omega))

set_option maxHeartbeats 400000 in
theorem keyword_any (s : ByteArray) (B : Nat) (w : World) (he : Env B w) :
    Calls Tryz.prog 91 #[.string s] w fun e w' => e = .returned (.bool (kwB 10 s)) ∧ w = w' := by
  obtain ⟨t, fr, hrow⟩ := he.row
  have HR := Lib.hid hrow
  clear hrow he
  go_enter Tryz.func91, Tryz.ntmps91
  go_wp2_with (refine wpList_load_row rfl 132 _ rfl 0 rfl t kwCells fr _ HR.out kwU rfl (by kernel_rfl) ?_)
  go_loop [6] (fun n => ∃ k : Nat, k ≤ 10 ∧ n = .int .i64 k ∧ Hid (kwB k s = false)) (fun n => 10 - (intOf n).toNat)
  case atStart => exact ⟨0, by omega, rfl, Lib.hid rfl⟩
  case round =>
    obtain ⟨k, hk, rfl, hf⟩ := hrel
    by_cases hlt : k < 10
    · have hidx := kwIdx k hlt
      have hlt' : (k : Int) < 10 := by omega
      go_wp2_with fail
      · have ht : ((kwAt k).toList == s.toList) = true := by assumption
        go_ret
        exact ⟨ret_bool (kwB_hit s k ht 10 hlt).symm, rfl⟩
      · have ht : ((kwAt k).toList == s.toList) = false := by assumption
        go_round
        case rel => exact ⟨k + 1, by omega, by go_num, Lib.hid (by rw [kwB, hf.out, ht]; rfl)⟩
        case measure => simp [intOf]; omega
    · obtain rfl : k = 10 := by omega
      go_wp2
      go_ret
      exact ⟨ret_bool hf.out.symm, rfl⟩

/-- A single word and no keyword. -/
def nameB (s : ByteArray) : Bool := !s.toList.isEmpty && decide (Lx.wordLen s.data.toList = s.size) && !kwB 10 s

theorem kw_is (s : ByteArray) (b : Bool) (h : Hid (kwB 10 s = b)) (B : Nat) (w : World) (he : Env B w) :
    Calls Tryz.prog 91 #[.string s] w fun e w' => e = .returned (.bool b) ∧ w = w' := by
  have := keyword_any s B w he
  rw [h.out] at this; exact this
theorem wl_is (s : ByteArray) (hs : s.size ≤ maxLen) (n : Nat) (h : Hid (Lx.wordLen s.data.toList = n)) (w : World) :
    Calls Tryz.prog 90 #[.string s] w fun e w' => e = .returned (.int .i64 n) ∧ w = w' := by
  have := wordLen_any s hs w
  rw [h.out] at this; exact this

set_option maxHeartbeats 400000 in
theorem name_any (s : ByteArray) (hs : s.size ≤ maxLen) (B : Nat) (w : World) (he : Env B w) :
    Calls Tryz.prog 61 #[.string s] w fun e w' => e = .returned (.bool (nameB s)) ∧ w = w' := by
  have HS := Lib.hid hs
  obtain ⟨n, hn⟩ : ∃ n, Hid (Lx.wordLen s.data.toList = n) := ⟨_, Lib.hid rfl⟩
  obtain ⟨b, hb⟩ : ∃ b, Hid (kwB 10 s = b) := ⟨_, Lib.hid rfl⟩
  by_cases h0 : s.toList = []
  · have h0' : s.toList.isEmpty = true := by rw [h0]; rfl
    have hr : false = nameB s := by unfold nameB; rw [h0']; rfl
    have HR := Lib.hid hr
    clear hr hs
    go_enter Tryz.func61, Tryz.ntmps61
    go_wp2_with fail
    go_ret
    exact ⟨ret_bool HR.out, rfl⟩
  · have h0' : s.toList.isEmpty = false := by simpa using h0
    by_cases hw : n = s.size
    · have hw' : ((n : Int) == (s.size : Int)) = true := by rw [beq_iff_eq]; omega
      have hr : (!b) = nameB s := by unfold nameB; rw [h0', hn.out, hb.out, decide_eq_true hw]; rfl
      have HR := Lib.hid hr
      clear hr hs hw
      go_enter Tryz.func61, Tryz.ntmps61
      go_wp2_with (first | (go_at_call 90; refine (wl_is s HS.out n hn _).mono ?_; rintro e w' ⟨rfl, rfl⟩) | (go_at_call 91; refine (kw_is s b hb B _ he).mono ?_; rintro e w' ⟨rfl, rfl⟩))
      go_ret
      exact ⟨ret_bool HR.out, rfl⟩
    · have hw' : ((n : Int) == (s.size : Int)) = false := by rw [beq_eq_false_iff_ne]; omega
      have hr : false = nameB s := by unfold nameB; rw [h0', hn.out, decide_eq_false hw]; rfl
      have HR := Lib.hid hr
      clear hr hs hw
      go_enter Tryz.func61, Tryz.ntmps61
      go_wp2_with (go_at_call 90; refine (wl_is s HS.out n hn _).mono ?_; rintro e w' ⟨rfl, rfl⟩)
      go_ret
      exact ⟨ret_bool HR.out, rfl⟩

end Go.Proofs.YtgmdmbmkljbgiaaGreatDoor
