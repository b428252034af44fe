/- Parsing: lemmas. -/
import Derived.Test.YtejaboajgecpaaaGreatDoorQb39
set_option maxHeartbeats 16000000
set_option maxRecDepth 100000
namespace Go.Proofs.YtejaboajgecpaaaGreatDoor
open Go.RowKit Go.Deep Go.Shelf
abbrev xs1 : ByteArray := ⟨#[97, 33, 60, 49, 62, 46, 98, 46, 103, 111, 46, 115, 116, 111, 112, 32, 124, 32, 88, 60, 62]⟩
theorem xsc1 : Scans xs1 (.inl (its xs1)) := ⟨by decide, rfl, by decide +kernel⟩
abbrev xs2 : ByteArray := ⟨#[97, 33, 60, 49, 62]⟩
theorem xsc2 : Scans xs2 (.inl (its xs2)) := ⟨by decide, rfl, by decide +kernel⟩
abbrev xs3 : ByteArray := ⟨#[100, 101, 102, 32, 88, 40, 97, 58, 32, 33, 51, 32, 105, 110, 116, 46, 114, 101, 99, 32, 116, 46, 63, 116, 43, 50, 46, 116, 41, 32, 61, 32, 115, 116, 111, 112, 59, 32, 109, 97, 105, 110, 32, 61, 32, 88, 60, 62, 59]⟩
theorem xsc3 : Scans xs3 (.inl (its xs3)) := ⟨by decide, rfl, by decide +kernel⟩
abbrev xs4 : ByteArray := ⟨#[43, 55, 123, 108, 58, 32, 101, 110, 100, 125]⟩
theorem xsc4 : Scans xs4 (.inl (its xs4)) := ⟨by decide, rfl, by decide +kernel⟩
abbrev xp1 : Pr := (Pr.mk 7 ⟨#[]⟩ ⟨#[]⟩ [] [] (.mk 0 0 ⟨#[]⟩ 0 [] []) [Pr.mk 2 ⟨#[97]⟩ ⟨#[]⟩ [] [⟨2, ⟨#[]⟩, 1⟩] (.mk 0 0 ⟨#[]⟩ 0 [] []) [Pr.mk 4 ⟨#[98]⟩ ⟨#[]⟩ [⟨#[103, 111]⟩] [] (.mk 0 0 ⟨#[]⟩ 0 [] []) [(Pr.mk 1 ⟨#[]⟩ ⟨#[]⟩ [] [] (.mk 0 0 ⟨#[]⟩ 0 [] []) [])]], (Pr.mk 8 ⟨#[88]⟩ ⟨#[]⟩ [] [] (.mk 0 0 ⟨#[]⟩ 0 [] []) [])])
abbrev xp3 : Pg := (Pg.mk [⟨⟨#[88]⟩, [⟨⟨#[97]⟩, (Ty.mk 4 3 ⟨#[]⟩ 0 [] [.mk 1 0 ⟨#[]⟩ 0 [] [], .mk 8 0 ⟨#[116]⟩ 0 [] [.mk 5 0 ⟨#[]⟩ 0 [] [.mk 9 0 ⟨#[116]⟩ 2 [] [], .mk 9 0 ⟨#[116]⟩ 0 [] []]]])⟩], (Pr.mk 1 ⟨#[]⟩ ⟨#[]⟩ [] [] (.mk 0 0 ⟨#[]⟩ 0 [] []) [])⟩] (Pr.mk 8 ⟨#[88]⟩ ⟨#[]⟩ [] [] (.mk 0 0 ⟨#[]⟩ 0 [] []) []))
abbrev xp4 : Ty := (Ty.mk 6 7 ⟨#[]⟩ 0 [⟨#[108]⟩] [.mk 3 0 ⟨#[]⟩ 0 [] []])
theorem xw1 : wholeE fProc bigP xs1 (.inl (its xs1)) = .inl xp1 := by kernel_rfl
theorem xw2 : wholeE fProc bigP xs2 (.inl (its xs2)) = .inr (1, 5) := by kernel_rfl
theorem xw3 : wholeE fProg Pg.tooBig xs3 (.inl (its xs3)) = .inl xp3 := by kernel_rfl
theorem xw4 : wholeE fType Ty.tooBig xs4 (.inl (its xs4)) = .inl xp4 := by kernel_rfl
end Go.Proofs.YtejaboajgecpaaaGreatDoor
namespace Go.Proofs.YtejaboajgecpaaaGreatDoor
open Go.Lib (hid)
open Go.RowKit Go.Deep Go.Shelf
abbrev RS := List Tk ⊕ (Int × Int)
def RS.is (all : List Tk) (a e p : Int) : RS -> Prop
 | .inl ts => e = 0 /\ ∃ n : Nat, a = n /\ n <= all.length /\ all.drop n = ts
 | .inr (er, pos) => e = er /\ p = pos /\ er ≠ 0
def RdRow (R : Nat) (la : Option Addr) (all : List Tk) (w : World) : Prop := ∀ j x, all[j]? = some x -> x.t.size <= maxLen /\ ∃ g o, la = some ⟨g, o, none⟩ /\ g < w.heap.size /\ g ≠ R /\ w.cell? ⟨g, o + j * 4, none⟩ = some (.int .i64 x.k) /\ w.cell? ⟨g, o + j * 4 + 1, none⟩ = some (.string x.t) /\ w.cell? ⟨g, o + j * 4 + 2, none⟩ = some (.int .i64 x.v) /\ w.cell? ⟨g, o + j * 4 + 3, none⟩ = some (.int .i64 x.a)
def RdIs (R : Nat) (la : Option Addr) (all : List Tk) (E : Int) (st : RS) (w : World) : Prop :=
 ∃ (cap : Nat) (a p e : Int), w.heap[R]? = some (.cells #[.slice la all.length cap, .int .i64 a, .int .i64 E, .int .i64 e, .int .i64 p] 74 (0, 0)) /\ all.length <= 1000000 /\ RdRow R la all w /\ st.is all a e p
section
variable {R : Nat} {la : Option Addr} {all : List Tk} {E : Int} {w w' : World}
theorem RdRow.to (h : RdRow R la all w) (k : Below w.heap.size w w') : RdRow R la all w' := fun j x hj => by
 obtain ⟨h0, g, o, h1, h2, h3, e0, e1, e2, e3⟩ := h j x hj
 exact ⟨h0, g, o, h1, Nat.lt_of_lt_of_le h2 k.size, h3, (k.cell (p := ⟨g, _, none⟩) h2).trans e0, (k.cell (p := ⟨g, _, none⟩) h2).trans e1, (k.cell (p := ⟨g, _, none⟩) h2).trans e2, (k.cell (p := ⟨g, _, none⟩) h2).trans e3⟩
theorem RdRow.but (h : RdRow R la all w) (k : But R w w') : RdRow R la all w' := fun j x hj => by
 obtain ⟨h0, g, o, h1, h2, h3, e0, e1, e2, e3⟩ := h j x hj
 exact ⟨h0, g, o, h1, Nat.lt_of_lt_of_le h2 k.size, h3, (k.cell (p := ⟨g, _, none⟩) h2 h3).trans e0, (k.cell (p := ⟨g, _, none⟩) h2 h3).trans e1, (k.cell (p := ⟨g, _, none⟩) h2 h3).trans e2, (k.cell (p := ⟨g, _, none⟩) h2 h3).trans e3⟩
theorem RdIs.to {st : RS} (h : RdIs R la all E st w) (k : Below w.heap.size w w') : RdIs R la all E st w' := by
 obtain ⟨cap, a, p, e, h1, h2, h3, h4⟩ := h
 exact ⟨cap, a, p, e, (k.block R (gl h1)).trans h1, h2, h3.to k, h4⟩
theorem RdIs.lt {st : RS} (h : RdIs R la all E st w) : R < w.heap.size := by
 obtain ⟨cap, a, p, e, h1, _⟩ := h
 exact (gl h1)
end
def stText : RS -> ByteArray
 | .inl (x :: _) => x.t
 | _ => ⟨#[]⟩
def stNum : RS -> Bool
 | .inl (x :: _) => x.k == 2
 | _ => false
def stFail (E err : Int) : RS -> RS
 | .inl ts => .inr (err, posE E ts)
 | .inr z => .inr z
theorem c5 {w : World} {X : Nat} {T : TypeId} {a b c d e : Value} (h : w.heap[X]? = some (.cells #[a, b, c, d, e] T (0, 0))) : (w.cell? ⟨X, 0, none⟩ = some a /\ w.cell? ⟨X, 1, none⟩ = some b /\ w.cell? ⟨X, 2, none⟩ = some c /\ w.cell? ⟨X, 3, none⟩ = some d /\ w.cell? ⟨X, 4, none⟩ = some e) /\ w.frozen? ⟨X, 0, none⟩ = false /\ w.frozen? ⟨X, 1, none⟩ = false /\ w.frozen? ⟨X, 2, none⟩ = false /\ w.frozen? ⟨X, 3, none⟩ = false /\ w.frozen? ⟨X, 4, none⟩ = false := by
 refine ⟨⟨?_, ?_, ?_, ?_, ?_⟩, frozen_of_block h 0, frozen_of_block h 1, frozen_of_block h 2, frozen_of_block h 3, frozen_of_block h 4⟩ <;> simp [World.cell?, h]
theorem drop_cons {α : Type} {l : List α} {n : Nat} {x : α} {r : List α} (h : l.drop n = x :: r) : n < l.length /\ l[n]? = some x /\ l.drop (n + 1) = r := by
 have h1 : n < l.length := by
  rcases Nat.lt_or_ge n l.length with h' | h'
  ·exact h'
  ·rw [List.drop_eq_nil_of_le h'] at h; cases h
 have h2 := List.drop_eq_getElem_cons h1
 rw [h2] at h
 injection h with ha hb
 exact ⟨h1, by rw [List.getElem?_eq_getElem h1, ha], hb⟩
theorem drop_nil {α : Type} {l : List α} {n : Nat} (h : l.drop n = []) (hn : n <= l.length) : n = l.length := by
 have := congrArg List.length h
 rw [List.length_drop, List.length_nil] at this
 omega
theorem text_any (R : Nat) (la : Option Addr) (all : List Tk) (E : Int) (st : RS) (w : World) (h : RdIs R la all E st w) :
 Calls Tryz.prog 58 #[.pointer (some ⟨R, 0, none⟩)] w fun e w' => e = .returned (.string (stText st)) /\ Below w.heap.size w w' := by
 obtain ⟨cap, a, p, e, h1, h2, h3, h4⟩ := h
 obtain ⟨⟨q0, q1, q2, q3, q4⟩, z0, z1, z2, z3, z4⟩ := c5 h1
 obtain ⟨ln, hln⟩ := ex1 (all.length)
 rw [hln] at q0 h1 h2
 have HLN := hid hln
 have HX := hid h1
 have HR := hid h3
 have HL := hid h2
 clear h1
 match st with
 | .inr (er, pos) =>
  obtain ⟨rfl, rfl, hne⟩ := h4
  have hn1 : (e != 0) = true := by simpa using hne
  have hn2 : (e == 0) = false := by simpa using hne
  clear h3
  go_enter Tryz.func58, Tryz.ntmps58
  go_upto_region 1 with fail
  go_quiet (fail)
  go_wp2_with fail
  go_ret
  exact ⟨rfl, below_drewN (Below.refl _ _) _⟩
 | .inl [] =>
  obtain ⟨rfl, n, rfl, hn, hd⟩ := h4
  have hnn := drop_nil hd hn
  rw [hln] at hnn
  subst hnn
  have hg : decide ((n : Int) <= (n : Int)) = true := by simp
  have hg2 : decide ((n : Int) < (n : Int)) = false := by simp
  have HD := hid hd
  have HN := hid hn
  clear h3 hd hn hln
  go_enter Tryz.func58, Tryz.ntmps58
  go_upto_region 1 with fail
  go_quiet (fail)
  go_wp2_with fail
  go_ret
  exact ⟨rfl, below_drewN (Below.refl _ _) _⟩
 | .inl (x :: r) =>
  obtain ⟨rfl, n, rfl, hn, hd⟩ := h4
  obtain ⟨hlt, hx, hdr⟩ := drop_cons hd
  rw [hln] at hlt
  obtain ⟨hz, g, o, hla, hgl, hgR, e0, e1, e2, e3⟩ := h3 n x hx
  subst hla
  have hg : decide ((ln : Int) <= (n : Int)) = false := by simp; omega
  have hg1 : decide ((n : Int) < (ln : Int)) = true := by simp; omega
  have hg2 : decide ((0 : Int) <= (n : Int)) = true := by simp
  have HD := hid hd
  have HDR := hid hdr
  have HN := hid hn
  have HG := hid (And.intro hgl hgR)
  clear h3 hd hn hx hgl hgR hdr hln
  go_enter Tryz.func58, Tryz.ntmps58
  go_upto_region 1 with fail
  go_quiet (fail)
  go_upto_region 3 with fail
  go_quiet (fail)
  go_wp2_with fail
  go_ret
  exact ⟨rfl, below_drewN (below_drewN (Below.refl _ _) _) _⟩
theorem num_any (R : Nat) (la : Option Addr) (all : List Tk) (E : Int) (st : RS) (w : World) (h : RdIs R la all E st w) :
 Calls Tryz.prog 143 #[.pointer (some ⟨R, 0, none⟩)] w fun e w' => e = .returned (.bool (stNum st)) /\ ∃ m, w' = w.drewN m := by
 obtain ⟨cap, a, p, e, h1, h2, h3, h4⟩ := h
 obtain ⟨⟨q0, q1, q2, q3, q4⟩, z0, z1, z2, z3, z4⟩ := c5 h1
 obtain ⟨ln, hln⟩ := ex1 (all.length)
 rw [hln] at q0 h1 h2
 have HLN := hid hln
 have HX := hid h1
 have HR := hid h3
 have HL := hid h2
 clear h1
 match st with
 | .inr (er, pos) =>
  obtain ⟨rfl, rfl, hne⟩ := h4
  have hn1 : (e != 0) = true := by simpa using hne
  have hn2 : (e == 0) = false := by simpa using hne
  clear h3
  go_enter Tryz.func143, Tryz.ntmps143
  go_upto_region 1 with fail
  go_quiet (fail)
  go_wp2_with fail
  go_ret
  exact ⟨rfl, _, rfl⟩
 | .inl [] =>
  obtain ⟨rfl, n, rfl, hn, hd⟩ := h4
  have hnn := drop_nil hd hn
  rw [hln] at hnn
  subst hnn
  have hg : decide ((n : Int) <= (n : Int)) = true := by simp
  have hg2 : decide ((n : Int) < (n : Int)) = false := by simp
  have HD := hid hd
  have HN := hid hn
  clear h3 hd hn hln
  go_enter Tryz.func143, Tryz.ntmps143
  go_upto_region 1 with fail
  go_quiet (fail)
  go_wp2_with fail
  go_ret
  exact ⟨rfl, _, rfl⟩
 | .inl (x :: r) =>
  obtain ⟨rfl, n, rfl, hn, hd⟩ := h4
  obtain ⟨hlt, hx, hdr⟩ := drop_cons hd
  rw [hln] at hlt
  obtain ⟨hz, g, o, hla, hgl, hgR, e0, e1, e2, e3⟩ := h3 n x hx
  subst hla
  have hg : decide ((ln : Int) <= (n : Int)) = false := by simp; omega
  have hg1 : decide ((n : Int) < (ln : Int)) = true := by simp; omega
  have hg2 : decide ((0 : Int) <= (n : Int)) = true := by simp
  have HD := hid hd
  have HDR := hid hdr
  have HN := hid hn
  have HG := hid (And.intro hgl hgR)
  clear h3 hd hn hx hgl hgR hdr hln
  go_enter Tryz.func143, Tryz.ntmps143
  go_upto_region 1 with fail
  go_quiet (fail)
  go_wp2_with fail
  go_ret
  exact ⟨rfl, _, rfl⟩
theorem rfail_any (R : Nat) (la : Option Addr) (all : List Tk) (E : Int) (st : RS) (err : Int) (herr : err ≠ 0) (w : World) (h : RdIs R la all E st w) :
 Calls Tryz.prog 61 #[.pointer (some ⟨R, 0, none⟩), .int .i64 err] w fun e w' => e = .returned (.tuple #[]) /\ RdIs R la all E (stFail E err st) w' /\ But R w w' := by
 obtain ⟨cap, a, p, e, h1, h2, h3, h4⟩ := h
 obtain ⟨⟨q0, q1, q2, q3, q4⟩, z0, z1, z2, z3, z4⟩ := c5 h1
 obtain ⟨ln, hln⟩ := ex1 (all.length)
 rw [hln] at q0 h1 h2
 have HLN := hid hln
 have HX := hid h1
 have HR := hid h3
 have HL := hid h2
 clear h1
 match st with
 | .inr (er, pos) =>
  obtain ⟨rfl, rfl, hne⟩ := h4
  have hn1 : (e != 0) = true := by simpa using hne
  have hn2 : (e == 0) = false := by simpa using hne
  clear h3
  go_enter Tryz.func61, Tryz.ntmps61
  go_wp2_with fail
  refine bodyPost_ret (v := .tuple #[]) (by simp [results, Tryz.results61, go_sem]) rfl ?_
  exact ⟨rfl, ⟨cap, a, p, e, by rw [HLN.out]; exact HX.out, by rw [HLN.out]; exact HL.out, HR.out, rfl, rfl, hne⟩, But.refl _ _⟩
 | .inl [] =>
  obtain ⟨rfl, n, rfl, hn, hd⟩ := h4
  have hnn := drop_nil hd hn
  rw [hln] at hnn
  subst hnn
  have hg : decide ((n : Int) <= (n : Int)) = true := by simp
  have hg2 : decide ((n : Int) < (n : Int)) = false := by simp
  have HD := hid hd
  have HN := hid hn
  clear h3 hd hn hln
  go_enter Tryz.func61, Tryz.ntmps61
  go_upto_region 3 with fail
  go_quiet (fail)
  go_wp2_with fail
  go_end0
  exact ⟨rfl, ⟨cap, n, E, err, by rw [HLN.out]; exact set_block (set_block HX.out 3 _) 4 _, by rw [HLN.out]; exact HL.out, HR.out.but ((((But.refl R w).set 3 _).set 4 _).to (below_drewN (Below.refl _ _) _)), rfl, rfl, herr⟩, (((But.refl R w).set 3 _).set 4 _).to (below_drewN (Below.refl _ _) _)⟩
 | .inl (x :: r) =>
  obtain ⟨rfl, n, rfl, hn, hd⟩ := h4
  obtain ⟨hlt, hx, hdr⟩ := drop_cons hd
  rw [hln] at hlt
  obtain ⟨hz, g, o, hla, hgl, hgR, e0, e1, e2, e3⟩ := h3 n x hx
  subst hla
  have hg : decide ((ln : Int) <= (n : Int)) = false := by simp; omega
  have hg1 : decide ((n : Int) < (ln : Int)) = true := by simp; omega
  have hg2 : decide ((0 : Int) <= (n : Int)) = true := by simp
  have HD := hid hd
  have HDR := hid hdr
  have HN := hid hn
  have HG := hid (And.intro hgl hgR)
  clear h3 hd hn hx hgl hgR hdr hln
  go_enter Tryz.func61, Tryz.ntmps61
  go_upto_region 3 with fail
  go_quiet (fail)
  go_upto_region 4 with fail
  obtain ⟨W2, hW2⟩ := ex1 ((((w.setCell ⟨R, 3, none⟩ (.int .i64 err)).setCell ⟨R, 4, none⟩ (.int .i64 E)).drewN nq))
  have hb : But R w W2 := by rw [<- hW2]; exact (((But.refl R w).set 3 _).set 4 _).to (below_drewN (Below.refl _ _) _)
  have hx2 : W2.heap[R]? = some (.cells #[.slice (some ⟨g, o, none⟩) ln cap, .int .i64 n, .int .i64 E, .int .i64 err, .int .i64 E] 74 (0, 0)) := by rw [<- hW2]; exact set_block (set_block HX.out 3 _) 4 _
  rw [hW2]
  have HB := hid hb
  have HX2 := hid hx2
  replace e3 := (hb.cell (p := ⟨g, _, none⟩) HG.out.1 HG.out.2).trans e3
  clear hW2 q0 q1 q2 q3 q4 z0 z1 z2 z3 z4 e0 e1 e2
  obtain ⟨⟨q0, q1, q2, q3, q4⟩, z0, z1, z2, z3, z4⟩ := c5 hx2
  clear hb hx2
  go_region
  go_wp2_with fail
  go_end0
  exact ⟨rfl, ⟨cap, n, x.a, err, by rw [HLN.out]; exact set_block HX2.out 4 _, by rw [HLN.out]; exact HL.out, HR.out.but ((HB.out.set 4 _).to (below_drewN (Below.refl _ _) 1)), rfl, rfl, herr⟩, (HB.out.set 4 _).to (below_drewN (Below.refl _ _) 1)⟩
end Go.Proofs.YtejaboajgecpaaaGreatDoor
namespace Go.Proofs.YtejaboajgecpaaaGreatDoor
open Go.Lib (hid)
open Go.RowKit Go.Deep Go.Shelf
def stepPR {α : Type} (E : Int) (F : List Tk -> PR α) : RS -> RS
 | .inl ts => match F ts with
  | .ok _ r => .inl r
  | .bad e r => .inr (e, posE E r)
 | .inr z => .inr z
def valPR {α : Type} (F : List Tk -> PR α) : RS -> Option α
 | .inl ts => match F ts with
  | .ok x _ => some x
  | .bad _ _ => none
 | .inr _ => none
theorem stepPR_ok {α : Type} (E : Int) {F : List Tk -> PR α} {ts : List Tk} {x : α} {r : List Tk} (h : F ts = .ok x r) : stepPR E F (.inl ts) = .inl r := by unfold stepPR; dsimp only; rw [h]
theorem stepPR_bad {α : Type} (E : Int) {F : List Tk -> PR α} {ts : List Tk} {e : Int} {r : List Tk} (h : F ts = .bad e r) : stepPR E F (.inl ts) = .inr (e, posE E r) := by unfold stepPR; dsimp only; rw [h]
theorem valPR_ok {α : Type} {F : List Tk -> PR α} {ts : List Tk} {x : α} {r : List Tk} (h : F ts = .ok x r) : valPR F (.inl ts) = some x := by unfold valPR; dsimp only; rw [h]
theorem valPR_bad {α : Type} {F : List Tk -> PR α} {ts : List Tk} {e : Int} {r : List Tk} (h : F ts = .bad e r) : valPR F (.inl ts) = none := by unfold valPR; dsimp only; rw [h]
def Red {α : Type} (R : Nat) (la : Option Addr) (all : List Tk) (E : Int) (w : World) (F : List Tk -> PR α) (st : RS) (G : World -> α -> Value -> Prop) (e : Ending) (w' : World) : Prop :=
 (∃ v x, e = .returned v /\ G w' x v /\ ∀ y, valPR F st = some y -> x = y) /\ RdIs R la all E (stepPR E F st) w' /\ But R w w'
theorem RdIs.txt {R : Nat} {la : Option Addr} {all : List Tk} {E : Int} {st : RS} {w : World} (h : RdIs R la all E st w) : (stText st).size <= maxLen := by
 obtain ⟨cap, a, p, e, h1, h2, h3, h4⟩ := h
 match st with
 | .inr _ => exact Nat.zero_le _
 | .inl [] => exact Nat.zero_le _
 | .inl (x :: r) =>
  obtain ⟨rfl, n, rfl, hn, hd⟩ := h4
  exact (h3 n x (drop_cons hd).2.1).1
theorem rd_next {R : Nat} {la : Option Addr} {all : List Tk} {E : Int} {w w' : World} {cap n : Nat} {p : Int} {r : List Tk} (hX : w'.heap[R]? = some (.cells #[.slice la all.length cap, .int .i64 (n : Int), .int .i64 E, .int .i64 0, .int .i64 p] 74 (0, 0))) (hl : all.length <= 1000000) (hR : RdRow R la all w) (hb : But R w w') (hn : n < all.length) (hr : all.drop (n + 1) = r) :
 RdIs R la all E (.inl r) (w'.setCell ⟨R, 1, none⟩ (.int .i64 ((n : Int) + 1))) /\ But R w (w'.setCell ⟨R, 1, none⟩ (.int .i64 ((n : Int) + 1))) :=
 ⟨⟨cap, (n : Int) + 1, p, 0, set_block hX 1 _, hl, hR.but (hb.set 1 _), rfl, n + 1, by simp, hn, hr⟩, hb.set 1 _⟩
theorem need_any (R : Nat) (la : Option Addr) (all : List Tk) (E : Int) (s : ByteArray) (hs : ((⟨#[]⟩ : ByteArray).toList == s.toList) = false) (st : RS) (w : World) (h : RdIs R la all E st w) :
 Calls Tryz.prog 59 #[.pointer (some ⟨R, 0, none⟩), .string s] w fun e w' => e = .returned (.tuple #[]) /\ RdIs R la all E (stepPR E (need s) st) w' /\ But R w w' := by
 have HT := hid (text_any R la all E st w h)
 have HH := hid h
 obtain ⟨cap, a, p, e, h1, h2, h3, h4⟩ := h
 obtain ⟨⟨q0, q1, q2, q3, q4⟩, z0, z1, z2, z3, z4⟩ := c5 h1
 obtain ⟨ln, hln⟩ := ex1 (all.length)
 rw [hln] at q0 h1 h2
 have HLN := hid hln
 have HX := hid h1
 have HR := hid h3
 have HL := hid h2
 clear h1
 match st with
 | .inr (er, pos) =>
  obtain ⟨rfl, rfl, hne⟩ := h4
  have hn1 : (e != 0) = true := by simpa using hne
  have hn2 : (e == 0) = false := by simpa using hne
  clear h3
  go_enter Tryz.func59, Tryz.ntmps59
  go_wp2_with fail
  refine bodyPost_ret (v := .tuple #[]) (by simp [results, Tryz.results59, go_sem]) rfl ?_
  exact ⟨rfl, ⟨cap, a, p, e, by rw [HLN.out]; exact HX.out, by rw [HLN.out]; exact HL.out, HR.out, rfl, rfl, hne⟩, But.refl _ _⟩
 | .inl [] =>
  obtain ⟨rfl, n, rfl, hn, hd⟩ := h4
  have hnn := drop_nil hd hn
  rw [hln] at hnn
  subst hnn
  have hg : decide ((n : Int) <= (n : Int)) = true := by simp
  have hg2 : decide ((n : Int) < (n : Int)) = false := by simp
  have HD := hid hd
  have HN := hid hn
  clear h3 hd hn hln
  have ht : stText (.inl []) = ⟨#[]⟩ := rfl
  rw [ht] at HT
  have hs2 : s.toList.isEmpty = false := by
   cases h : s.toList with
   | nil => rw [h] at hs; exact absurd hs (by decide +kernel)
   | cons _ _ => rfl
  go_enter Tryz.func59, Tryz.ntmps59
  go_wp2_with (first | (go_at_call 58; refine HT.out.mono ?_; rintro en w1 ⟨rfl, hb1⟩; have HB1 := hid hb1; have HP1 := hid (HH.out.to HB1.out); clear hb1) | (go_at_call 61; refine (rfail_any R _ all E _ 1 (by decide) _ HP1.out).mono ?_; rintro en w8 ⟨rfl, hp8, hb8⟩; have HP8 := hid hp8; have HB8 := hid hb8; clear hp8 hb8))
  first | go_end0 | refine bodyPost_ret (v := .tuple #[]) (by simp [results, Tryz.results59, go_sem]) rfl ?_
  exact ⟨rfl, HP8.out, (But.of HB1.out).trans HB8.out⟩
 | .inl (x :: r) =>
  obtain ⟨rfl, n, rfl, hn, hd⟩ := h4
  obtain ⟨hlt, hx, hdr⟩ := drop_cons hd
  rw [hln] at hlt
  obtain ⟨hz, g, o, hla, hgl, hgR, e0, e1, e2, e3⟩ := h3 n x hx
  subst hla
  have hg : decide ((ln : Int) <= (n : Int)) = false := by simp; omega
  have hg1 : decide ((n : Int) < (ln : Int)) = true := by simp; omega
  have hg2 : decide ((0 : Int) <= (n : Int)) = true := by simp
  have HD := hid hd
  have HDR := hid hdr
  have HN := hid hn
  have HG := hid (And.intro hgl hgR)
  clear h3 hd hn hx hgl hgR hdr hln
  replace HT : Hid (Calls Tryz.prog 58 #[.pointer (some ⟨R, 0, none⟩)] w fun e w' => e = .returned (.string x.t) /\ Below w.heap.size w w') := HT
  cases hh : (x.t.toList == s.toList) with
  | false =>
   rw [stepPR_bad E (show need s (x :: r) = .bad 1 (x :: r) from if_neg (by rw [show hd s (x :: r) = false from hh]; simp))]
   have hh2 : (x.t.toList != s.toList) = true := by rw [bne, hh]; rfl
   go_enter Tryz.func59, Tryz.ntmps59
   go_wp2_with (first | (go_at_call 58; refine HT.out.mono ?_; rintro en w1 ⟨rfl, hb1⟩; have HB1 := hid hb1; have HP1 := hid (HH.out.to HB1.out); clear hb1) | (go_at_call 61; refine (rfail_any R _ all E _ 1 (by decide) _ HP1.out).mono ?_; rintro en w8 ⟨rfl, hp8, hb8⟩; have HP8 := hid hp8; have HB8 := hid hb8; clear hp8 hb8))
   first | go_end0 | refine bodyPost_ret (v := .tuple #[]) (by simp [results, Tryz.results59, go_sem]) rfl ?_
   exact ⟨rfl, HP8.out, (But.of HB1.out).trans HB8.out⟩
  | true =>
   rw [stepPR_ok E (show need s (x :: r) = .ok () r from if_pos hh)]
   have hh2 : (x.t.toList != s.toList) = false := by rw [bne, hh]; rfl
   go_enter Tryz.func59, Tryz.ntmps59
   go_wp2_with ((go_at_call 58; refine HT.out.mono ?_; rintro en w1 ⟨rfl, hb1⟩; have HB1 := hid hb1; have HP1 := hid (HH.out.to HB1.out); have hw1 := (HB1.out.block R (gl HX.out)).trans HX.out; have HX1 := hid hw1; obtain ⟨⟨q0, q1, q2, q3, q4⟩, z0, z1, z2, z3, z4⟩ := c5 hw1; clear hw1; clear hb1))
   go_end0
   exact ⟨rfl, by rw [<- HLN.out] at HX1 hlt HL; exact rd_next HX1.out HL.out HR.out (But.of HB1.out) hlt HDR.out⟩
theorem name_no {st : RS} (E : Int) (h : nameB (stText st) = false) : stepPR E (pname nameB) st = stFail E 1 st /\ valPR (pname nameB) st = none := by
 match st with
 | .inr z => exact ⟨rfl, rfl⟩
 | .inl [] => exact ⟨rfl, rfl⟩
 | .inl (x :: r) =>
  have e : pname nameB (x :: r) = .bad 1 (x :: r) := by rw [pname, if_neg (by rw [show nameB x.t = false from h]; simp)]
  exact ⟨stepPR_bad E e, valPR_bad e⟩
theorem name_yes {st : RS} (E : Int) (h : nameB (stText st) = true) : ∃ x r, st = .inl (x :: r) /\ stepPR E (pname nameB) st = .inl r /\ valPR (pname nameB) st = some x.t := by
 have h0 : nameB ⟨#[]⟩ = false := by decide +kernel
 match st with
 | .inr z => rw [show stText (.inr z) = ⟨#[]⟩ from rfl, h0] at h; cases h
 | .inl [] => rw [show stText (.inl []) = ⟨#[]⟩ from rfl, h0] at h; cases h
 | .inl (x :: r) =>
  have e : pname nameB (x :: r) = .ok x.t r := by rw [pname, if_pos (show nameB x.t = true from h)]
  exact ⟨x, r, rfl, stepPR_ok E e, valPR_ok e⟩
theorem rdname_any (R : Nat) (la : Option Addr) (all : List Tk) (E : Int) (st : RS) (w : World) (h : RdIs R la all E st w) :
 Calls Tryz.prog 60 #[.pointer (some ⟨R, 0, none⟩)] w (Red R la all E w (pname nameB) st GStr) := by
 have HT := hid (text_any R la all E st w h)
 have HH := hid h
 have hz := h.txt
 have HNM := hid (rname_any (stText st) hz)
 cases hb : nameB (stText st) with
 | false =>
  rw [hb] at HNM
  obtain ⟨hs1, hs2⟩ := name_no E hb
  unfold Red
  rw [hs1, hs2]
  obtain ⟨t, ht⟩ := ex1 (stText st)
  rw [ht] at HT HNM hz
  clear h hb hs1 hs2 ht
  go_enter Tryz.func60, Tryz.ntmps60
  go_wp2_with (first | (go_at_call 58; refine HT.out.mono ?_; rintro en w1 ⟨rfl, hb1⟩; have HB1 := hid hb1; have HP1 := hid (HH.out.to HB1.out); clear hb1) | (go_at_call 87; refine (HNM.out _).mono ?_; rintro en w2 ⟨rfl, hb2⟩; have HB2 := hid hb2; have HP2 := hid (HP1.out.to HB2.out); clear hb2) | (go_at_call 61; refine (rfail_any R _ all E _ 1 (by decide) _ HP2.out).mono ?_; rintro en w8 ⟨rfl, hp8, hb8⟩; have HP8 := hid hp8; have HB8 := hid hb8; clear hp8 hb8))
  go_ret
  exact ⟨⟨_, ⟨#[]⟩, rfl, ⟨rfl, Nat.zero_le _⟩, fun _ h => by cases h⟩, HP8.out, ((But.of HB1.out).to HB2.out).trans HB8.out⟩
 | true =>
  rw [hb] at HNM
  obtain ⟨x, r, rfl, hs1, hs2⟩ := name_yes E hb
  unfold Red
  rw [hs1, hs2]
  replace HT : Hid (Calls Tryz.prog 58 #[.pointer (some ⟨R, 0, none⟩)] w fun e w' => e = .returned (.string x.t) /\ Below w.heap.size w w') := HT
  replace HNM : Hid (∀ w : World, Calls Tryz.prog 87 #[.string x.t] w fun e w' => e = .returned (.bool true) /\ Below w.heap.size w w') := HNM
  have HZ : Hid (x.t.size <= maxLen) := hid hz
  clear hz
  clear hb hs1 hs2
  obtain ⟨cap, a, p, e, h1, h2, h3, h4⟩ := h
  obtain ⟨⟨q0, q1, q2, q3, q4⟩, z0, z1, z2, z3, z4⟩ := c5 h1
  obtain ⟨ln, hln⟩ := ex1 (all.length)
  rw [hln] at q0 h1 h2
  have HLN := hid hln
  have HX := hid h1
  have HR := hid h3
  have HL := hid h2
  clear h1
  obtain ⟨rfl, n, rfl, hn, hd⟩ := h4
  obtain ⟨hlt, hx, hdr⟩ := drop_cons hd
  rw [hln] at hlt
  obtain ⟨hz, g, o, hla, hgl, hgR, e0, e1, e2, e3⟩ := h3 n x hx
  subst hla
  have hg : decide ((ln : Int) <= (n : Int)) = false := by simp; omega
  have hg1 : decide ((n : Int) < (ln : Int)) = true := by simp; omega
  have hg2 : decide ((0 : Int) <= (n : Int)) = true := by simp
  have HD := hid hd
  have HDR := hid hdr
  have HN := hid hn
  have HG := hid (And.intro hgl hgR)
  clear h3 hd hn hx hgl hgR hdr hln
  go_enter Tryz.func60, Tryz.ntmps60
  go_wp2_with (first | (go_at_call 58; refine HT.out.mono ?_; rintro en w1 ⟨rfl, hb1⟩; have HB1 := hid hb1; have HP1 := hid (HH.out.to HB1.out); clear hb1) | (go_at_call 87; refine (HNM.out _).mono ?_; rintro en w2 ⟨rfl, hb2⟩; have HB2 := hid hb2; have HP2 := hid (HP1.out.to HB2.out); have hb12 := HB1.out.trans (HB2.out.mono HB1.out.size); have HB12 := hid hb12; have hw1 := (hb12.block R (gl HX.out)).trans HX.out; have HX1 := hid hw1; obtain ⟨⟨q0, q1, q2, q3, q4⟩, z0, z1, z2, z3, z4⟩ := c5 hw1; clear hw1 hb12; clear hb2))
  go_ret
  exact ⟨⟨_, x.t, rfl, ⟨rfl, HZ.out⟩, fun _ h => by injection h⟩, by rw [<- HLN.out] at HX1 hlt HL; exact rd_next HX1.out HL.out HR.out (But.of HB12.out) hlt HDR.out⟩
theorem num_no {st : RS} (E : Int) (h : stNum st = false) : stepPR E pnumber st = stFail E 1 st /\ valPR pnumber st = none := by
 match st with
 | .inr z => exact ⟨rfl, rfl⟩
 | .inl [] => exact ⟨rfl, rfl⟩
 | .inl (x :: r) =>
  have e : pnumber (x :: r) = .bad 1 (x :: r) := by rw [pnumber, if_pos (.inl (by have : (x.k == 2) = false := h; simpa using this))]
  exact ⟨stepPR_bad E e, valPR_bad e⟩
theorem num_yes {st : RS} (h : stNum st = true) : ∃ x r, st = .inl (x :: r) /\ x.k = 2 := by
 match st with
 | .inr z => cases h
 | .inl [] => cases h
 | .inl (x :: r) => exact ⟨x, r, rfl, by have : (x.k == 2) = true := h; simpa using this⟩
theorem small_any (R : Nat) (la : Option Addr) (all : List Tk) (E : Int) (st : RS) (w : World) (h : RdIs R la all E st w) :
 Calls Tryz.prog 127 #[.pointer (some ⟨R, 0, none⟩)] w (Red R la all E w pnumber st GInt) := by
 have HNUM := hid (fun n => num_any R la all E st (w.drewN n) (h.to (below_drewN (Below.refl _ w) n)))
 have HH := hid h
 cases hb : stNum st with
 | false =>
  rw [hb] at HNUM
  obtain ⟨hs1, hs2⟩ := num_no E hb
  unfold Red
  rw [hs1, hs2]
  clear h hb hs1 hs2
  go_enter Tryz.func127, Tryz.ntmps127
  go_upto_region 1 with fail
  go_quiet ((go_at_call 143; exact Calls.quiet_of (HNUM.out _)))
  have HPD := hid (HH.out.to (below_drewN (Below.refl _ w) nq))
  go_wp2_with (go_at_call 61; refine (rfail_any R _ all E _ 1 (by decide) _ HPD.out).mono ?_; rintro en w8 ⟨rfl, hp8, hb8⟩; have HP8 := hid hp8; have HB8 := hid hb8; clear hp8 hb8)
  go_ret
  exact ⟨⟨_, 0, rfl, rfl, fun _ h => by cases h⟩, HP8.out, ((But.refl R w).to (below_drewN (Below.refl _ _) nq)).trans HB8.out⟩
 | true =>
  rw [hb] at HNUM
  obtain ⟨x, r, rfl, hk⟩ := num_yes hb
  clear hb
  obtain ⟨cap, a, p, e, h1, h2, h3, h4⟩ := h
  obtain ⟨⟨q0, q1, q2, q3, q4⟩, z0, z1, z2, z3, z4⟩ := c5 h1
  obtain ⟨ln, hln⟩ := ex1 (all.length)
  rw [hln] at q0 h1 h2
  have HLN := hid hln
  have HX := hid h1
  have HR := hid h3
  have HL := hid h2
  clear h1
  obtain ⟨rfl, n, rfl, hn, hd⟩ := h4
  obtain ⟨hlt, hx, hdr⟩ := drop_cons hd
  rw [hln] at hlt
  obtain ⟨hz, g, o, hla, hgl, hgR, e0, e1, e2, e3⟩ := h3 n x hx
  subst hla
  have hg : decide ((ln : Int) <= (n : Int)) = false := by simp; omega
  have hg1 : decide ((n : Int) < (ln : Int)) = true := by simp; omega
  have hg2 : decide ((0 : Int) <= (n : Int)) = true := by simp
  have HD := hid hd
  have HDR := hid hdr
  have HN := hid hn
  have HG := hid (And.intro hgl hgR)
  clear h3 hd hn hx hgl hgR hdr hln
  have HPD0 := hid (fun nq => HH.out.to (below_drewN (Below.refl _ w) nq))
  by_cases hv : x.v < 0
  ·have e : pnumber (x :: r) = .bad 1 (x :: r) := by rw [pnumber, if_pos (.inr hv)]
   have hv1 : decide (x.v < 0) = true := decide_eq_true hv
   unfold Red
   rw [stepPR_bad E e, valPR_bad e]
   clear e hv hk
   go_enter Tryz.func127, Tryz.ntmps127
   go_upto_region 1 with fail
   go_quiet ((go_at_call 143; exact Calls.quiet_of (HNUM.out _)))
   have HPD := hid (HPD0.out nq)
   go_wp2_with (go_at_call 61; refine (rfail_any R _ all E _ 1 (by decide) _ HPD.out).mono ?_; rintro en w8 ⟨rfl, hp8, hb8⟩; have HP8 := hid hp8; have HB8 := hid hb8; clear hp8 hb8)
   go_ret
   exact ⟨⟨_, 0, rfl, rfl, fun _ h => by cases h⟩, HP8.out, ((But.refl R w).to (below_drewN (Below.refl _ _) nq)).trans HB8.out⟩
  ·have hv1 : decide (x.v < 0) = false := decide_eq_false hv
   by_cases hm : 1000000 < x.v
   ·have e : pnumber (x :: r) = .bad 2 (x :: r) := by rw [pnumber, if_neg (fun h => h.elim (fun h => h hk) (fun h => hv h)), if_pos hm]
    have hm1 : decide (1000000 < x.v) = true := decide_eq_true hm
    unfold Red
    rw [stepPR_bad E e, valPR_bad e]
    clear e hv hk hm
    go_enter Tryz.func127, Tryz.ntmps127
    go_upto_region 1 with fail
    go_quiet ((go_at_call 143; exact Calls.quiet_of (HNUM.out _)))
    revert nq
    intro n1
    go_upto_region 4 with fail
    go_quiet (fail)
    have HPD := hid (HPD0.out (n1 + nq))
    go_wp2_with (go_at_call 61; refine (rfail_any R _ all E _ 2 (by decide) _ HPD.out).mono ?_; rintro en w8 ⟨rfl, hp8, hb8⟩; have HP8 := hid hp8; have HB8 := hid hb8; clear hp8 hb8)
    go_ret
    exact ⟨⟨_, 0, rfl, rfl, fun _ h => by cases h⟩, HP8.out, ((But.refl R w).to (below_drewN (Below.refl _ _) (n1 + nq))).trans HB8.out⟩
   ·have e : pnumber (x :: r) = .ok x.v r := by rw [pnumber, if_neg (fun h => h.elim (fun h => h hk) (fun h => hv h)), if_neg hm]
    have hm1 : decide (1000000 < x.v) = false := decide_eq_false hm
    unfold Red
    rw [stepPR_ok E e, valPR_ok e]
    clear e hv hk hm
    go_enter Tryz.func127, Tryz.ntmps127
    go_upto_region 1 with fail
    go_quiet ((go_at_call 143; exact Calls.quiet_of (HNUM.out _)))
    revert nq
    intro n1
    go_upto_region 4 with fail
    go_quiet (fail)
    go_upto_region 8 with fail
    have hlt2 := hlt
    rw [<- HLN.out] at hlt HX HL
    have hrd := rd_next (w' := w.drewN (n1 + nq)) HX.out HL.out HR.out ((But.refl R w).to (below_drewN (Below.refl _ _) (n1 + nq))) hlt HDR.out
    have hx2 : ((w.drewN (n1 + nq)).setCell ⟨R, 1, none⟩ (.int .i64 ((n : Int) + 1))).heap[R]? = some (.cells #[.slice (some ⟨g, o, none⟩) all.length cap, .int .i64 ((n : Int) + 1), .int .i64 E, .int .i64 0, .int .i64 p] 74 (0, 0)) := set_block (W := w.drewN (n1 + nq)) HX.out 1 _
    rw [HLN.out] at hx2
    obtain ⟨W2, hW2⟩ := ex1 ((w.drewN (n1 + nq)).setCell ⟨R, 1, none⟩ (.int .i64 ((n : Int) + 1)))
    rw [hW2] at hrd hx2 |-
    have HRD := hid hrd
    replace e2 := (hrd.2.cell (p := ⟨g, _, none⟩) HG.out.1 HG.out.2).trans e2
    clear hW2 q0 q1 q2 q3 q4 z0 z1 z2 z3 z4 e0 e1 e3 hrd
    obtain ⟨⟨q0, q1, q2, q3, q4⟩, z0, z1, z2, z3, z4⟩ := c5 hx2
    clear hx2
    have hsub : IntKind.i64.wrap (n : Int) = (n : Int) := by have := HL.out; have := HLN.out; rw [IntKind.wrap_i64]; omega
    go_quiet (fail)
    go_wp2_with fail
    go_ret
    exact ⟨⟨_, x.v, rfl, rfl, fun _ h => by injection h⟩, HRD.out.1.to (below_drewN (Below.refl _ _) nq), HRD.out.2.to (below_drewN (Below.refl _ _) nq)⟩
theorem prio_no {st : RS} (E : Int) (h : stNum st = false) : stepPR E pprio st = st /\ ∀ y, valPR pprio st = some y -> (0 : Int) = y := by
 match st with
 | .inr z => exact ⟨rfl, fun _ h => by cases h⟩
 | .inl [] => exact ⟨rfl, fun _ h => by injection h⟩
 | .inl (x :: r) =>
  have e : pprio (x :: r) = .ok 0 (x :: r) := by rw [pprio, if_pos (by have : (x.k == 2) = false := h; simpa using this)]
  exact ⟨stepPR_ok E e, fun y h => by rw [valPR_ok e] at h; injection h⟩
theorem prio_yes {st : RS} (E : Int) (h : stNum st = true) : stepPR E pprio st = stepPR E pnumber st /\ valPR pprio st = valPR pnumber st := by
 obtain ⟨x, r, rfl, hk⟩ := num_yes h
 have e : pprio (x :: r) = pnumber (x :: r) := by rw [pprio, if_neg (fun h => h hk)]
 unfold stepPR valPR
 dsimp only
 rw [e]
 exact ⟨rfl, rfl⟩
theorem rdprio_any (R : Nat) (la : Option Addr) (all : List Tk) (E : Int) (st : RS) (w : World) (h : RdIs R la all E st w) :
 Calls Tryz.prog 128 #[.pointer (some ⟨R, 0, none⟩)] w (Red R la all E w pprio st GInt) := by
 have HNUM := hid (num_any R la all E st w h)
 have HH := hid h
 have HSM := hid (fun W h => small_any R la all E st W h)
 unfold Red at HSM
 unfold Red
 cases hb : stNum st with
 | false =>
  rw [hb] at HNUM
  obtain ⟨hs1, hs2⟩ := prio_no E hb
  rw [hs1]
  have HV := hid hs2
  clear h hb hs1 hs2
  go_enter Tryz.func128, Tryz.ntmps128
  go_wp2_with (go_at_call 143; refine HNUM.out.mono ?_; rintro en w1 ⟨rfl, m, rfl⟩)
  go_ret
  exact ⟨⟨_, 0, rfl, rfl, HV.out⟩, HH.out.to (below_drewN (Below.refl _ _) m), (But.refl R w).to (below_drewN (Below.refl _ _) m)⟩
 | true =>
  rw [hb] at HNUM
  obtain ⟨hs1, hs2⟩ := prio_yes E hb
  rw [hs1, hs2]
  clear h hb hs1 hs2
  go_enter Tryz.func128, Tryz.ntmps128
  go_wp2_with (first | (go_at_call 143; refine HNUM.out.mono ?_; rintro en w1 ⟨rfl, m, rfl⟩) | (go_at_call 127; refine (HSM.out _ (HH.out.to (below_drewN (Below.refl _ _) m))).mono ?_; rintro en w8 ⟨⟨v, x, rfl, hg, hv⟩, hp8, hb8⟩; obtain rfl := hg; have HV := hid hv; have HP8 := hid hp8; have HB8 := hid hb8; clear hp8 hb8 hv))
  go_ret
  exact ⟨⟨_, x, rfl, rfl, HV.out⟩, HP8.out, ((But.refl R w).to (below_drewN (Below.refl _ _) m)).trans HB8.out⟩
end Go.Proofs.YtejaboajgecpaaaGreatDoor
