/- Types: a value that is a type, anywhere in memory; the law's send and loop. (and what follows from it) -/
import Derived.Test.YtgmdmbmkljbgiaaGreatDoorPz2
import Derived.Test.YtgmdmbmkljbgiaaGreatDoorPrB
import Derived.Test.YtgmdmbmkljbgiaaGreatDoorPrC
import Derived.Test.YtgmdmbmkljbgiaaGreatDoorTyG
import Derived.Test.YtgmdmbmkljbgiaaGreatDoorPrM

/- Types: a value that is a type, anywhere in memory; the law's send and loop. -/
namespace Go.Proofs.YtgmdmbmkljbgiaaGreatDoor
open Go.RowKit Go.Deep Go.Shelf

/-- A value is a type that lies in w. -/
def Lies (w : World) (v : Value) (t : Ty) : Prop := TyVal (fun k => k < w.heap.size) w v t
theorem Lies.to {w w' : World} {v : Value} {t : Ty} (h : Lies w v t) (hb : Below w.heap.size w w') : Lies w' v t :=
  TyVal.mono (fun _ hk => Nat.lt_of_lt_of_le hk hb.size) (TyVal.to (fun _ hk => hk) hb h)
theorem lies_low (w : World) : Low (fun k => k < w.heap.size) w := fun _ h => h
/-- A type is returned that lies in new memory and in B. -/
def TyIn (B : Nat → Prop) (w : World) (g : Ty) (e : Ending) (w' : World) : Prop :=
  ∃ la ln lc ka kn kc, e = .returned (.agg #[.int .i64 g.k, .int .i64 g.p, .string g.n, .int .i64 g.s, .slice la ln lc, .slice ka kn kc]) ∧
    TyVal (fun k => B k ∨ Fresh w.heap.size w'.heap.size k) w' (.agg #[.int .i64 g.k, .int .i64 g.p, .string g.n, .int .i64 g.s, .slice la ln lc, .slice ka kn kc]) g ∧ Below w.heap.size w w'
/-- A type is returned. -/
def TyOut (w : World) (g : Ty) (e : Ending) (w' : World) : Prop :=
  ∃ la ln lc ka kn kc, e = .returned (.agg #[.int .i64 g.k, .int .i64 g.p, .string g.n, .int .i64 g.s, .slice la ln lc, .slice ka kn kc]) ∧
    Lies w' (.agg #[.int .i64 g.k, .int .i64 g.p, .string g.n, .int .i64 g.s, .slice la ln lc, .slice ka kn kc]) g ∧ Below w.heap.size w w'
theorem TyRet.out {w : World} {g : Ty} {e : Ending} {w' : World} (h : TyRet w g e w') : TyOut w g e w' := by
  obtain ⟨la, ln, lc, ka, kn, kc, h1, h2, h3⟩ := h
  exact ⟨la, ln, lc, ka, kn, kc, h1, TyVal.mono (fun k hk => hk.2) h2, h3⟩

def tT : ByteArray := ⟨#[116]⟩
def e0 : ByteArray := ⟨#[]⟩
def leafT (k : Int) : Ty := .mk k 0 e0 0 [] []
def varT (s : Int) : Ty := .mk 9 0 tT s [] []
def sendT (p : Int) (r : Ty) : Ty := .mk 4 p e0 0 [] [leafT 1, r]
def loopT (p k : Int) : Ty := .mk 8 0 tT 0 [] [sendT p (varT k)]
def bareT : Ty := .mk 8 0 tT 0 [] [varT 0]

theorem nil_strs (B : Nat → Prop) (w : World) : StrSl B w (.slice none 0 0) [] := ⟨.inl ⟨⟨_, _, rfl⟩, rfl⟩, by simp [maxLen], fun s h => by cases h⟩
theorem nil_tys (B : Nat → Prop) (w : World) : TySl B w (.slice none 0 0) [] := ⟨.inl ⟨⟨_, _, rfl⟩, rfl⟩, by simp [maxLen]⟩
theorem val_leaf (B : Nat → Prop) (w : World) (k p s : Int) (n : ByteArray) (hn : n.size ≤ maxLen) : TyVal B w (.agg #[.int .i64 k, .int .i64 p, .string n, .int .i64 s, .slice none 0 0, .slice none 0 0]) (.mk k p n s [] []) :=
  ⟨_, _, rfl, hn, nil_strs _ _, nil_tys _ _⟩
theorem lies_leaf (w : World) (k p s : Int) (n : ByteArray) (hn : n.size ≤ maxLen) : Lies w (.agg #[.int .i64 k, .int .i64 p, .string n, .int .i64 s, .slice none 0 0, .slice none 0 0]) (.mk k p n s [] []) :=
  ⟨_, _, rfl, hn, nil_strs _ _, nil_tys _ _⟩
theorem lies_lies {w : World} {k p s : Int} {n : ByteArray} {lv kv : Value} {t : Ty} (h : Lies w (.agg #[.int .i64 k, .int .i64 p, .string n, .int .i64 s, lv, kv]) t) : t.k = k ∧ t.p = p ∧ t.n = n ∧ t.s = s ∧ n.size ≤ maxLen ∧ StrSl (fun k => k < w.heap.size) w lv t.ls ∧ TySl (fun k => k < w.heap.size) w kv t.ts := by
  obtain ⟨lv', kv', e, h1, h2, h3⟩ := h
  simp only [Value.agg.injEq, Array.mk.injEq, List.cons.injEq, Value.int.injEq, Value.string.injEq, and_true, true_and] at e
  obtain ⟨e1, e2, e3, e4, rfl, rfl⟩ := e
  exact ⟨e1.symm, e2.symm, e3.symm, e4.symm, by rw [e3]; exact h1, h2, h3⟩
theorem alloc_lt {w w2 : World} {o : Obj} (hb : Below (w.alloc o).heap.size (w.alloc o) w2) : w.heap.size < w2.heap.size := by
  have := hb.size; simp at this; omega
theorem cell_of {W : World} {b : Nat} {cs : Array Value} {t : TypeId} {fr : Nat × Nat} (h : W.heap[b]? = some (.cells cs t fr)) (j : Nat) : W.cell? ⟨b, j, none⟩ = cs[j]? := by simp [World.cell?, h]
/-- The cells of an int and another type. -/
def send12 (k p s : Int) (n : ByteArray) (lv kv : Value) : Array Value := #[.int .i64 1, .int .i64 0, .string ⟨#[]⟩, .int .i64 0, .slice none 0 0, .slice none 0 0, .int .i64 k, .int .i64 p, .string n, .int .i64 s, lv, kv]
theorem send_rest {B : Nat → Prop} {W : World} {p : Int} {r : Ty} {lv kv : Value} (hB : Low B W) (h : TyVal B W (.agg #[.int .i64 r.k, .int .i64 r.p, .string r.n, .int .i64 r.s, lv, kv]) r) :
    TyVal (fun k => B k ∨ k = W.heap.size) (W.alloc (.cells (send12 r.k r.p r.s r.n lv kv) 27)) (.agg #[.int .i64 4, .int .i64 p, .string ⟨#[]⟩, .int .i64 0, .slice none 0 0, .slice (some ⟨W.heap.size, 0, none⟩) 2 2]) (sendT p r) := by
  have hb := blkBelow W (send12 r.k r.p r.s r.n lv kv) 27
  have hw : TyVal (fun k => B k ∨ k = W.heap.size) _ _ _ := (h.to hB hb).mono (fun _ h => .inl h)
  have hc : ∀ (j : Nat) (v : Value), (send12 r.k r.p r.s r.n lv kv)[j]? = some v → (W.alloc (.cells (send12 r.k r.p r.s r.n lv kv) 27)).cell? ⟨W.heap.size, j, none⟩ = some v := fun j v hv => blk_cell (Below.refl _ _) j hv
  refine ⟨_, _, rfl, (by decide : (⟨#[]⟩ : ByteArray).size ≤ maxLen), nil_strs _ _, ⟨.inr ⟨W.heap.size, 0, 2, rfl, .inr rfl, ?_⟩, by simp [sendT, Ty.ts, maxLen]⟩⟩
  show TyAt _ _ (leafT 1) _ _ ∧ TyAt _ _ r _ _ ∧ True
  exact ⟨tyAt_of (.inr rfl) (hc 0 _ rfl) (hc 1 _ rfl) (hc 2 _ rfl) (hc 3 _ rfl) (hc 4 _ rfl) (hc 5 _ rfl) (val_leaf _ _ 1 0 0 e0 (by decide)), tyAt_of (.inr rfl) (hc 6 _ rfl) (hc 7 _ rfl) (hc 8 _ rfl) (hc 9 _ rfl) (hc 10 _ rfl) (hc 11 _ rfl) hw, trivial⟩

/-- A type that names one Kid in a block of its own. -/
theorem rec_val {B : Nat → Prop} {W : World} {k p s : Int} {n : ByteArray} {u : Ty} {lv kv : Value} (hn : n.size ≤ maxLen) (hB : Low B W) (h : TyVal B W (.agg #[.int .i64 u.k, .int .i64 u.p, .string u.n, .int .i64 u.s, lv, kv]) u) :
    TyVal (fun j => B j ∨ j = W.heap.size) (W.alloc (.cells #[.int .i64 u.k, .int .i64 u.p, .string u.n, .int .i64 u.s, lv, kv] 27)) (.agg #[.int .i64 k, .int .i64 p, .string n, .int .i64 s, .slice none 0 0, .slice (some ⟨W.heap.size, 0, none⟩) 1 1]) (.mk k p n s [] [u]) := by
  have hb := blkBelow W #[.int .i64 u.k, .int .i64 u.p, .string u.n, .int .i64 u.s, lv, kv] 27
  have hw : TyVal (fun j => B j ∨ j = W.heap.size) _ _ _ := (h.to hB hb).mono (fun _ h => .inl h)
  have hc : ∀ (j : Nat) (v : Value), #[.int .i64 u.k, .int .i64 u.p, .string u.n, .int .i64 u.s, lv, kv][j]? = some v → (W.alloc (.cells #[.int .i64 u.k, .int .i64 u.p, .string u.n, .int .i64 u.s, lv, kv] 27)).cell? ⟨W.heap.size, j, none⟩ = some v := fun j v hv => blk_cell (Below.refl _ _) j hv
  refine ⟨_, _, rfl, hn, nil_strs _ _, ⟨.inr ⟨W.heap.size, 0, 1, rfl, .inr rfl, ?_⟩, by simp [Ty.ts, maxLen]⟩⟩
  show TyAt _ _ u _ _ ∧ True
  exact ⟨tyAt_of (.inr rfl) (hc 0 _ rfl) (hc 1 _ rfl) (hc 2 _ rfl) (hc 3 _ rfl) (hc 4 _ rfl) (hc 5 _ rfl) hw, trivial⟩

end Go.Proofs.YtgmdmbmkljbgiaaGreatDoor

/- Types: what the law's fixed types are. -/
namespace Go.Proofs.YtgmdmbmkljbgiaaGreatDoor
open Go.RowKit

theorem name_t : nameB tT = true := by decide +kernel
theorem empty_e : e0.toList.isEmpty = true := by decide +kernel
theorem right_loop : rightE (loopT 0 2) = 0 := by decide +kernel
theorem right_var : rightE (varT 0) = 4 := by decide +kernel
theorem right_bare : rightE bareT = 3 := by decide +kernel
theorem right_int : rightE (leafT 1) = 0 := by decide +kernel
theorem right_send : rightE (sendT 0 (leafT 1)) = 3 := by decide +kernel
theorem unfold_loop : Ty.put tT (loopT 0 2) (sendT 0 (varT 2)) = sendT 0 (loopT 2 2) := by rfl
theorem raise_loop : (loopT 0 2).raise 3 = loopT 3 2 := by rfl
theorem size_loop : (loopT 0 2).size = 4 := by rfl
theorem depth_loop : (loopT 0 2).depth = 3 := by rfl
theorem loop_ne_var : loopT 0 2 ≠ varT 0 := by intro h; have := congrArg Ty.k h; simp [loopT, varT, Ty.k] at this

end Go.Proofs.YtgmdmbmkljbgiaaGreatDoor

/- Types: the fixed examples of the law all come out right. -/
namespace Go.Proofs.YtgmdmbmkljbgiaaGreatDoor
open Go.RowKit Go.Deep Go.Shelf

theorem right_l {E : Nat} {W : World} {v : Value} {t : Ty} {c : Int} (he : Env E W) (h : Lies W v t) (hf : t.fine) (hd : t.depth ≤ 1000) (hc : rightE t = c) : Calls Tryz.prog 62 #[v] W fun e w' => e = .returned (.int .i64 c) ∧ Below W.heap.size W w' := by
  rw [← hc]; exact tright_any E _ t hf hd v W (lies_low W) he h
theorem size_l {W : World} {v : Value} {t : Ty} {c : Int} (h : Lies W v t) (hs : t.size ≤ 1000000) (hd : t.depth ≤ 1000) (hc : (t.size : Int) = c) : Calls Tryz.prog 73 #[v] W fun e w' => e = .returned (.int .i64 c) ∧ Below W.heap.size W w' := by
  rw [← hc]; exact tsize_any _ t hs hd v W (lies_low W) h
theorem same_l {W : World} {v v' : Value} {t u : Ty} {b : Bool} (h : Lies W v t) (h' : Lies W v' u) (hb : eqB t u = b) : Calls Tryz.prog 89 #[v, v'] W fun e w' => e = .returned (.bool b) ∧ Below W.heap.size W w' := by
  rw [← hb]; exact tsame_any _ t u v v' W (lies_low W) h h'
theorem rsame_l {W : World} {v v' : Value} {t u : Ty} {b : Bool} (h : Lies W v t) (h' : Lies W v' u) (hb : eqB t u = b) : Calls Tryz.prog 117 #[v, v'] W fun e w' => e = .returned (.bool b) ∧ Below W.heap.size W w' := by
  rw [← hb]; exact rsame_any _ t u v v' W (lies_low W) h h'
theorem fine_loop : (loopT 0 2).fine := by simp [loopT, sendT, varT, leafT, Ty.fine, Ty.fines, In64]
theorem fine_var : (varT 0).fine := by simp [varT, Ty.fine, Ty.fines, In64]
theorem fine_bare : bareT.fine := by simp [bareT, varT, Ty.fine, Ty.fines, In64]
theorem fine_int : (leafT 1).fine := by simp [leafT, Ty.fine, Ty.fines, In64]
theorem fine_send : (sendT 0 (leafT 1)).fine := by simp [sendT, leafT, Ty.fine, Ty.fines, In64]

end Go.Proofs.YtgmdmbmkljbgiaaGreatDoor

/- Types: the two laws of layer 2. -/
namespace Go.Proofs.YtgmdmbmkljbgiaaGreatDoor
open Go.RowKit Go.Deep Go.Shelf

theorem few_l {W : World} {v : Value} {t : Ty} {m : Nat} {b : Bool} (h : Lies W v t) (hm : m ≤ 1000000) (hb : t.few m = b) : Calls Tryz.prog 22 #[v, .int .i64 m] W fun e w' => e = .returned (.bool b) ∧ Below W.heap.size W w' := by
  rw [← hb]; exact rfew_any _ t m hm v W (lies_low W) h
theorem rright_l {W : World} {v : Value} {t : Ty} {c : Int} (h : Lies W v t) (hs : t.size ≤ 1000000) (hc : rightE t = c) : Calls Tryz.prog 36 #[v] W fun e w' => e = .returned (.int .i64 c) ∧ Below W.heap.size W w' := by
  rw [← hc]; exact rright_any _ t v W hs (lies_low W) h
theorem rsize_l {W : World} {v : Value} {t : Ty} {c : Int} (h : Lies W v t) (hs : t.size ≤ 1000000) (hc : (t.size : Int) = c) : Calls Tryz.prog 33 #[v] W fun e w' => e = .returned (.int .i64 c) ∧ Below W.heap.size W w' := by
  rw [← hc]; exact rsize_any _ t hs v W (lies_low W) h
theorem rdepth_l {W : World} {v : Value} {t : Ty} {c : Int} (h : Lies W v t) (hd : t.depth ≤ 1000000) (hc : (t.depth : Int) = c) : Calls Tryz.prog 44 #[v] W fun e w' => e = .returned (.int .i64 c) ∧ Below W.heap.size W w' := by
  rw [← hc]; exact rdepth_any _ t hd v W (lies_low W) h
theorem few_size {t : Ty} {m : Nat} (h : t.few m = true) : t.size ≤ m ∧ t.depth ≤ 150 := by simpa [Ty.few] using h
/-- A type, its two slices written out. -/
theorem Lies.out {w : World} {v : Value} {t : Ty} (h : Lies w v t) : ∃ (la : Option Addr) (ln lc : Nat) (ka : Option Addr) (kn kc : Nat), v = .agg #[.int .i64 t.k, .int .i64 t.p, .string t.n, .int .i64 t.s, .slice la ln lc, .slice ka kn kc] := by
  obtain ⟨lv, kv, rfl, _, hl, hk⟩ := h
  obtain ⟨pa, len, c, rfl, _⟩ := hk.open
  obtain ⟨la, ln, lc, rfl, _⟩ := hl.open
  exact ⟨_, _, _, _, _, _, rfl⟩

end Go.Proofs.YtgmdmbmkljbgiaaGreatDoor

/- Processes: the program's small checks. -/
namespace Go.Proofs.YtgmdmbmkljbgiaaGreatDoor
open Go.RowKit Go.Deep Go.Shelf

theorem tname_is (s : ByteArray) (b : Bool) (h : nameB s = b) (hs : s.size ≤ maxLen) (E : Nat) (w : World) (he : Env E w) : Calls Tryz.prog 61 #[.string s] w fun e w' => e = .returned (.bool b) ∧ w = w' := by
  rw [← h]; exact name_any s hs E w he

theorem chanIsName_any (S : Nat → Prop) (p : Pr) (b o E : Nat) (w : World) (he : Env E w) (hp : PrAt S w p b o) : Calls Tryz.prog 75 #[.pointer (some ⟨b, o, none⟩)] w fun e w' => e = .returned (.bool (nameB p.c)) ∧ Below w.heap.size w w' := by
  obtain ⟨_, ⟨hc, hx⟩, ⟨c0, c1, c2⟩, _⟩ := PrAt.eq.1 hp
  have HN := Lib.hid (name_any p.c hc E w he)
  clear hp
  go_enter Tryz.func75, Tryz.ntmps75
  go_wp2_with (go_at_call 61; refine HN.out.mono ?_; rintro e w2 ⟨rfl, rfl⟩)
  go_ret
  exact ⟨rfl, Below.refl _ _⟩
theorem varIsName_any (S : Nat → Prop) (p : Pr) (b o E : Nat) (w : World) (he : Env E w) (hp : PrAt S w p b o) : Calls Tryz.prog 78 #[.pointer (some ⟨b, o, none⟩)] w fun e w' => e = .returned (.bool (nameB p.x)) ∧ Below w.heap.size w w' := by
  obtain ⟨_, ⟨hc, hx⟩, ⟨c0, c1, c2⟩, _⟩ := PrAt.eq.1 hp
  have HN := Lib.hid (name_any p.x hx E w he)
  clear hp
  go_enter Tryz.func78, Tryz.ntmps78
  go_wp2_with (go_at_call 61; refine HN.out.mono ?_; rintro e w2 ⟨rfl, rfl⟩)
  go_ret
  exact ⟨rfl, Below.refl _ _⟩
theorem oneKid_any (S : Nat → Prop) (p : Pr) (b o : Nat) (w : World) (hp : PrAt S w p b o) : Calls Tryz.prog 77 #[.pointer (some ⟨b, o, none⟩)] w fun e w' => e = .returned (.bool (decide (p.ps.length = 1))) ∧ Below w.heap.size w w' := by
  obtain ⟨_, _, _, _, lv, av, kv, c3, c4, c11, hl, ha, hk⟩ := PrAt.eq.1 hp
  obtain ⟨pa, len, c, rfl, hlen, _⟩ := hk.open
  rw [← hlen.out]
  clear hp hl ha hk hlen
  go_enter Tryz.func77, Tryz.ntmps77
  go_wp2_with fail
  go_ret
  exact ⟨ret_bool (by rw [Bool.eq_iff_iff]; simp; omega), Below.refl _ _⟩

def vlB (v : Vl) : Bool := if v.k = 1 then nameB v.n && v.x == 0 else if v.k = 2 then v.n.toList.isEmpty else if v.k = 3 then v.n.toList.isEmpty && (v.x == 0 || v.x == 1) else false
set_option maxHeartbeats 1000000 in
theorem valueFits_any (k x : Int) (n : ByteArray) (hn : n.size ≤ maxLen) (E : Nat) (w : World) (he : Env E w) : Calls Tryz.prog 106 #[.agg #[.int .i64 k, .string n, .int .i64 x]] w fun e w' => e = .returned (.bool (vlB ⟨k, n, x⟩)) ∧ Below w.heap.size w w' := by
  have hb0 := blkBelow w #[.int .i64 k, .string n, .int .i64 x] 53
  obtain ⟨nb, hnb⟩ : ∃ b, nameB n = b := ⟨_, rfl⟩
  have HN := Lib.hid (tname_is n nb hnb hn E _ (he.to hb0))
  have HB := Lib.hid hb0
  have hv : vlB ⟨k, n, x⟩ = if k = 1 then nb && x == 0 else if k = 2 then n.toList.isEmpty else if k = 3 then n.toList.isEmpty && (x == 0 || x == 1) else false := by unfold vlB; simp only [hnb]
  rw [hv]
  clear hv hnb hb0
  by_cases h1 : k = 1
  · subst h1
    rw [if_pos rfl]
    cases nb
    · rw [Bool.false_and]
      go_enter Tryz.func106, Tryz.ntmps106
      go_wp2_with (go_at_call 61; refine HN.out.mono ?_; rintro e w2 ⟨rfl, rfl⟩)
      go_ret
      exact ⟨rfl, HB.out⟩
    · rw [Bool.true_and]
      go_enter Tryz.func106, Tryz.ntmps106
      go_wp2_with (go_at_call 61; refine HN.out.mono ?_; rintro e w2 ⟨rfl, rfl⟩)
      go_ret
      exact ⟨rfl, HB.out⟩
  · have h1' : (k == 1) = false := by simpa using h1
    rw [if_neg h1]
    clear h1
    by_cases h2 : k = 2
    · subst h2
      rw [if_pos rfl]
      go_enter Tryz.func106, Tryz.ntmps106
      go_wp2_with fail
      go_ret
      exact ⟨ret_bool (by first | rfl | simp), HB.out⟩
    · have h2' : (k == 2) = false := by simpa using h2
      rw [if_neg h2]
      clear h2
      by_cases h3 : k = 3
      · subst h3
        rw [if_pos rfl]
        obtain ⟨eb, heb⟩ : ∃ b, n.toList.isEmpty = b := ⟨_, rfl⟩
        rw [heb]
        cases eb
        · have heb2 : (n.toList == []) = false := by cases h : n.toList <;> simp_all
          have heb3 : ¬ n.toList = [] := by cases h : n.toList <;> simp_all
          go_enter Tryz.func106, Tryz.ntmps106
          go_wp2_with fail
          go_ret
          exact ⟨rfl, HB.out⟩
        · have heb3 : n.toList = [] := by cases h : n.toList <;> simp_all
          rw [Bool.true_and]
          by_cases h0 : x = 0
          · subst h0
            go_enter Tryz.func106, Tryz.ntmps106
            go_wp2_with fail
            go_ret
            exact ⟨rfl, HB.out⟩
          · have h0' : (x == 0) = false := by simpa using h0
            rw [h0', Bool.false_or]
            clear h0
            go_enter Tryz.func106, Tryz.ntmps106
            go_wp2_with fail
            go_ret
            exact ⟨rfl, HB.out⟩
      · have h3' : (k == 3) = false := by simpa using h3
        rw [if_neg h3]
        clear h3
        go_enter Tryz.func106, Tryz.ntmps106
        go_wp2_with fail
        go_ret
        exact ⟨rfl, HB.out⟩

end Go.Proofs.YtgmdmbmkljbgiaaGreatDoor

/- Processes: more of the program's small checks. -/
namespace Go.Proofs.YtgmdmbmkljbgiaaGreatDoor
open Go.RowKit Go.Deep Go.Shelf

theorem kidForEachLabel_any (S : Nat → Prop) (p : Pr) (b o : Nat) (w : World) (hp : PrAt S w p b o) : Calls Tryz.prog 81 #[.pointer (some ⟨b, o, none⟩)] w fun e w' => e = .returned (.bool (decide (p.ps.length = p.ls.length))) ∧ Below w.heap.size w w' := by
  obtain ⟨_, _, _, _, lv, av, kv, c3, c4, c11, hl, ha, hk⟩ := PrAt.eq.1 hp
  obtain ⟨pa, len, c, rfl, hlen, _⟩ := hk.open
  obtain ⟨la, ln, lc, rfl, hln, _⟩ := hl.open
  rw [← hlen.out, ← hln.out]
  clear hp hl ha hk hlen hln
  go_enter Tryz.func81, Tryz.ntmps81
  go_wp2_with fail
  go_region
  go_wp2_with fail
  go_ret
  exact ⟨ret_bool (by rw [Bool.eq_iff_iff]; simp; omega), (Below.refl _ _).drew⟩

def partsB (ps : List Pr) : Bool := decide (∀ p ∈ ps, p.k ≠ 7) && decide (1 < ps.length)
set_option maxHeartbeats 1000000 in
theorem parts_any (S : Nat → Prop) (p : Pr) (b o : Nat) (w : World) (hp : PrAt S w p b o) : Calls Tryz.prog 84 #[.pointer (some ⟨b, o, none⟩)] w fun e w' => e = .returned (.bool (partsB p.ps)) ∧ w = w' := by
  obtain ⟨_, _, _, _, lv, av, kv, c3, c4, c11, hl, ha, hk⟩ := PrAt.eq.1 hp
  obtain ⟨pa, len, c, rfl, hlen, hm, hget⟩ := hk.open
  obtain ⟨ps, hps⟩ : ∃ ps, p.ps = ps := ⟨_, rfl⟩
  rw [hps] at hget hlen ⊢
  have HG := Lib.hid hget
  clear hp hl ha hk hget hps
  go_enter Tryz.func84, Tryz.ntmps84
  go_wp2_with fail
  go_loopw [9] (fun i wr => ∃ (j : Nat), i = .int .i64 (j : Int) ∧ j ≤ len ∧ Hid (∀ p ∈ ps.take j, p.k ≠ 7) ∧ w = wr) (fun i _ => len - (intOf i).toNat)
  case atStart => exact ⟨0, rfl, by omega, Lib.hid (by simp), rfl⟩
  case round =>
    obtain ⟨j, rfl, hj, HT, rfl⟩ := hrel
    by_cases hlt : j < len
    · obtain ⟨x, hx⟩ : ∃ x, ps[j]? = some x := ⟨_, List.getElem?_eq_getElem (by rw [← hlen.out]; exact hlt)⟩
      obtain ⟨kb, ko, rfl, hkb, hc⟩ := HG.out j x hx
      have hc0 := (PrAt.eq.1 hc).2.2.1.1
      have HX := Lib.hid hx
      obtain ⟨xk, hxk⟩ : ∃ k, x.k = k := ⟨_, rfl⟩
      rw [hxk] at hc0
      have HXK := Lib.hid hxk
      clear hx hc hxk
      by_cases h7 : xk = 7
      · subst h7
        have hf : Hid (partsB ps = false) := Lib.hid (by
          unfold partsB
          rw [Bool.and_eq_false_iff]
          left
          rw [decide_eq_false_iff_not]
          intro h
          exact h x (List.mem_of_getElem? HX.out) HXK.out)
        go_wp2_with fail
        go_ret
        exact ⟨ret_bool hf.out.symm, rfl⟩
      · have h7' : (xk == 7) = false := by simpa using h7
        have hf : Hid (∀ p ∈ ps.take (j + 1), p.k ≠ 7) := Lib.hid (by
          rw [take_snoc_get HX.out]
          intro q hq
          rcases List.mem_append.1 hq with hq | hq
          · exact HT.out q hq
          · obtain rfl := List.mem_singleton.1 hq
            rw [HXK.out]; exact h7)
        clear h7
        go_wp2_with fail
        go_roundw
        case rel => exact ⟨j + 1, by go_num, by omega, hf, by trivial⟩
        case measure => simp [intOf]; omega
    · obtain rfl : j = len := by omega
      have hn := HT.out
      rw [List.take_of_length_le (by rw [hlen.out]; exact Nat.le_refl _)] at hn
      have hf : Hid (partsB ps = decide (1 < j)) := Lib.hid (by unfold partsB; rw [decide_eq_true hn, hlen.out, Bool.true_and])
      clear hn
      go_wp2_with fail
      go_ret
      exact ⟨ret_bool (by rw [hf.out]; rw [Bool.eq_iff_iff]; simp; omega), rfl⟩

def vlsB (vs : List Vl) : Bool := decide (∀ v ∈ vs, vlB v = true)
set_option maxHeartbeats 1000000 in
theorem values_any (S : Nat → Prop) (p : Pr) (b o E : Nat) (w : World) (hS : Low S w) (he : Env E w) (hp : PrAt S w p b o) : Calls Tryz.prog 85 #[.pointer (some ⟨b, o, none⟩)] w fun e w' => e = .returned (.bool (vlsB p.vs)) ∧ Below w.heap.size w w' := by
  obtain ⟨_, _, _, _, lv, av, kv, c3, c4, c11, hl, ha, hk⟩ := PrAt.eq.1 hp
  obtain ⟨pa, len, c, rfl, hlen, hm, hget⟩ := ha.open
  obtain ⟨vs, hps⟩ : ∃ vs, p.vs = vs := ⟨_, rfl⟩
  rw [hps] at hget hlen ⊢
  have HG := Lib.hid hget
  clear hp hl ha hk hget hps
  go_enter Tryz.func85, Tryz.ntmps85
  go_wp2_with fail
  go_loopw [10] (fun i wr => ∃ (j : Nat), i = .int .i64 (j : Int) ∧ j ≤ len ∧ Hid (∀ v ∈ vs.take j, vlB v = true) ∧ Below w.heap.size w wr) (fun i _ => len - (intOf i).toNat)
  case atStart => exact ⟨0, rfl, by omega, Lib.hid (by simp), Below.refl _ _⟩
  case round =>
    obtain ⟨j, rfl, hj, HT, hw⟩ := hrel
    by_cases hlt : j < len
    · obtain ⟨x, hx⟩ : ∃ x, vs[j]? = some x := ⟨_, List.getElem?_eq_getElem (by rw [← hlen.out]; exact hlt)⟩
      obtain ⟨hxn, kb, ko, rfl, hkb, hc⟩ := HG.out j x hx
      have hc0 := (hw.cell (p := ⟨kb, ko + j * 3, none⟩) (hS kb hkb)).trans hc.1
      have hc1 := (hw.cell (p := ⟨kb, ko + j * 3 + 1, none⟩) (hS kb hkb)).trans hc.2.1
      have hc2 := (hw.cell (p := ⟨kb, ko + j * 3 + 2, none⟩) (hS kb hkb)).trans hc.2.2
      have HX := Lib.hid hx
      obtain ⟨k, n, y⟩ := x
      simp only at hc0 hc1 hc2 hxn
      have hbx : Below w.heap.size w (wr.alloc (Obj.cells #[.int .i64 k, .string n, .int .i64 y] 53)) := hw.alloc hw.size _
      have HE := Lib.hid (he.to hbx)
      obtain ⟨vb, hvb⟩ : ∃ b, vlB ⟨k, n, y⟩ = b := ⟨_, rfl⟩
      have HV := Lib.hid (valueFits_any k y n hxn E _ HE.out)
      rw [hvb] at HV
      have HVB := Lib.hid hvb
      have HBX := Lib.hid hbx
      clear hx hc hvb hbx
      cases vb with
      | false =>
        have hf : Hid (vlsB vs = false) := Lib.hid (by
          unfold vlsB
          rw [decide_eq_false_iff_not]
          intro h
          have := h _ (List.mem_of_getElem? HX.out)
          rw [HVB.out] at this
          cases this)
        go_wp2_with (go_at_call 106; refine HV.out.mono ?_; rintro e w2 ⟨rfl, hb2⟩)
        go_ret
        exact ⟨ret_bool hf.out.symm, HBX.out.trans (hb2.mono HBX.out.size)⟩
      | true =>
        have hf : Hid (∀ v ∈ vs.take (j + 1), vlB v = true) := Lib.hid (by
          rw [take_snoc_get HX.out]
          intro q hq
          rcases List.mem_append.1 hq with hq | hq
          · exact HT.out q hq
          · obtain rfl := List.mem_singleton.1 hq
            exact HVB.out)
        go_wp2_with (go_at_call 106; refine HV.out.mono ?_; rintro e w2 ⟨rfl, hb2⟩)
        go_roundw
        case rel => exact ⟨j + 1, by go_num, by omega, hf, HBX.out.trans (hb2.mono HBX.out.size)⟩
        case measure => simp [intOf]; omega
    · obtain rfl : j = len := by omega
      have hn := HT.out
      rw [List.take_of_length_le (by rw [hlen.out]; exact Nat.le_refl _)] at hn
      have hf : Hid (vlsB vs = true) := Lib.hid (by unfold vlsB; rw [decide_eq_true hn])
      clear hn
      go_wp2_with fail
      go_ret
      exact ⟨ret_bool hf.out.symm, hw⟩

theorem oneValue_any (S : Nat → Prop) (p : Pr) (b o E : Nat) (w : World) (hS : Low S w) (he : Env E w) (hp : PrAt S w p b o) : Calls Tryz.prog 76 #[.pointer (some ⟨b, o, none⟩)] w fun e w' => e = .returned (.bool (decide (p.vs.length = 1) && vlsB p.vs)) ∧ Below w.heap.size w w' := by
  have HV := Lib.hid (values_any S p b o E w hS he hp)
  obtain ⟨_, _, _, _, lv, av, kv, c3, c4, c11, hl, ha, hk⟩ := PrAt.eq.1 hp
  obtain ⟨pa, len, c, rfl, hlen, hm, hget⟩ := ha.open
  obtain ⟨vb, hvb⟩ : ∃ b, vlsB p.vs = b := ⟨_, rfl⟩
  rw [hvb] at HV ⊢
  rw [← hlen.out]
  clear hp hl ha hk hget hlen hvb
  by_cases h1 : len = 1
  · subst h1
    go_enter Tryz.func76, Tryz.ntmps76
    go_wp2_with (go_at_call 85; refine HV.out.mono ?_; rintro e w2 ⟨rfl, hb2⟩)
    go_ret
    exact ⟨ret_bool (by simp), hb2⟩
  · have h1' : ((len : Int) == 1) = false := by simp; omega
    go_enter Tryz.func76, Tryz.ntmps76
    go_wp2_with fail
    go_ret
    exact ⟨ret_bool (by simp [h1]), Below.refl _ _⟩

theorem oneLabel_any (S : Nat → Prop) (p : Pr) (b o E : Nat) (w : World) (he : Env E w) (hp : PrAt S w p b o) : Calls Tryz.prog 79 #[.pointer (some ⟨b, o, none⟩)] w fun e w' => e = .returned (.bool (decide (p.ls.length = 1) && labelsB p.ls)) ∧ Below w.heap.size w w' := by
  obtain ⟨_, _, _, _, lv, av, kv, c3, c4, c11, hl, ha, hk⟩ := PrAt.eq.1 hp
  obtain ⟨pa, len, c, rfl, hlen, hm, hget⟩ := hl.open
  obtain ⟨ls, hls⟩ : ∃ ls, p.ls = ls := ⟨_, rfl⟩
  rw [hls] at hget hlen ⊢
  by_cases h1 : len = 1
  · subst h1
    obtain ⟨x, hx⟩ : ∃ x, ls = [x] := by
      have := hlen.out
      cases ls with
      | nil => simp at this
      | cons x r => cases r with
        | nil => exact ⟨x, rfl⟩
        | cons y r => simp at this
    subst hx
    obtain ⟨hxs, kb, ko, rfl, hkb, hc⟩ := hget 0 x rfl
    rw [Nat.add_zero] at hc
    have HN := Lib.hid (tname_is x _ rfl hxs E w he)
    have hlb : labelsB [x] = nameB x := by rw [show [x] = [] ++ [x] from rfl, labelsB_snoc]; simp [labelsB, memB]
    rw [hlb]
    obtain ⟨nb, hnb⟩ : ∃ b, nameB x = b := ⟨_, rfl⟩
    rw [hnb] at HN ⊢
    clear hp hl ha hk hget hlen hlb hnb hls
    go_enter Tryz.func79, Tryz.ntmps79
    go_wp2_with (go_at_call 61; refine HN.out.mono ?_; rintro e w2 ⟨rfl, rfl⟩)
    go_ret
    exact ⟨ret_bool (by simp), Below.refl _ _⟩
  · have h1' : ((len : Int) == 1) = false := by simp; omega
    have hf : (decide (ls.length = 1) && labelsB ls) = false := by rw [← hlen.out]; simp [h1]
    have HF := Lib.hid hf
    clear hp hl ha hk hget hlen hls hf
    go_enter Tryz.func79, Tryz.ntmps79
    go_wp2_with fail
    go_ret
    exact ⟨ret_bool HF.out.symm, Below.refl _ _⟩

end Go.Proofs.YtgmdmbmkljbgiaaGreatDoor

/- Processes: differentLabels, rightSession, varIsOtherName. -/
namespace Go.Proofs.YtgmdmbmkljbgiaaGreatDoor
open Go.RowKit Go.Deep Go.Shelf

theorem Seen.len {w : World} {b j : Nat} {l : List ByteArray} (h : Seen w b j l) (hj : l = [] → j = 0) (ty : TypeId) :
    ∃ q : Nat, (Builtin.len_ #[67] ty #[.map (some b)]).run Tryz.prog w = .ok (.int .i64 q) w ∧ (0 < q ↔ 0 < l.length) := by
  obtain ⟨D, ho, hat⟩ := h
  refine ⟨_, ho.len Tryz.underlying67 ty, ?_⟩
  obtain ⟨es, rfl⟩ := ho.isMap
  cases l with
  | nil =>
    have := ho.size_le
    have h0 := hj rfl
    simp only [List.length_nil]
    omega
  | cons x r =>
    simp only [List.length_cons]
    refine ⟨fun _ => by omega, fun _ => ?_⟩
    have h1 := hat x
    rw [memB_true.2 (by simp)] at h1
    cases es with
    | nil => simp [DataW.atKey] at h1
    | cons e r' => simp [Maps.size_eq]

set_option maxHeartbeats 2000000 in
theorem differentLabels_any (S : Nat → Prop) (p : Pr) (b o E : Nat) (w : World) (hB : Low S w) (he : Env E w) (hp : PrAt S w p b o) :
    Calls Tryz.prog 80 #[.pointer (some ⟨b, o, none⟩)] w fun e w' => e = .returned (.bool (labelsB p.ls && decide (0 < p.ls.length))) ∧ Below w.heap.size w w' := by
  obtain ⟨hSb, _, _, _, lv, av, kv, c3, c4, c11, hl, ha, hk⟩ := PrAt.eq.1 hp
  have hbl := hB _ hSb
  have hsz := hl.2
  obtain ⟨pa, len, c, rfl, hlen, hm, hget⟩ := hl.open
  obtain ⟨ls, hls⟩ : ∃ ls, p.ls = ls := ⟨_, rfl⟩
  rw [hls] at hget hlen hsz ⊢
  have HG := Lib.hid hget
  have HS := Lib.hid hsz
  clear hp hl ha hk hget hls hsz
  have hmk := run_makeMap_hint
  go_enter Tryz.func80, Tryz.ntmps80
  go_wp2_with fail
  go_loopw [17] (fun i wr => ∃ (j : Nat), i = .int .i64 (j : Int) ∧ j ≤ len ∧ Hid (labelsB (ls.take j) = true) ∧ Hid (Seen wr w.heap.size j (ls.take j)) ∧ Below w.heap.size w wr) (fun i _ => len - (intOf i).toNat)
  case atStart => exact ⟨0, rfl, by omega, Lib.hid (by simp [labelsB]), Lib.hid ⟨_, World.ownsMap_made w _ _ _, fun s => rfl⟩, (Below.refl _ _).alloc (Nat.le_refl _) _⟩
  case round =>
    obtain ⟨j, rfl, hj, HT, HSE, hw⟩ := hrel
    by_cases hlt : j < len
    · obtain ⟨x, hx⟩ : ∃ x, ls[j]? = some x := ⟨_, List.getElem?_eq_getElem (by rw [← hlen.out]; exact hlt)⟩
      obtain ⟨hxs, kb, ko, rfl, hkb, hc⟩ := HG.out j x hx
      replace hc := (hw.cell (p := ⟨kb, ko + j, none⟩) (hB kb hkb)).trans hc
      have hj' : j < maxLen := by unfold maxLen; omega
      have hlk := HSE.out.look hxs
      have HE := Lib.hid (he.below (hw.mono he.size))
      have HX := Lib.hid hx
      cases hmb : memB x (ls.take j) with
      | true =>
        have hf : Hid ((labelsB ls && decide (0 < ls.length)) = false) := Lib.hid (by rw [labelsB_prefix (j := j + 1) (by rw [take_snoc_get HX.out, labelsB_snoc, hmb]; simp)]; rfl)
        rw [hmb] at hlk
        clear hx hmb
        go_wp2_with fail
        go_ret
        exact ⟨ret_bool hf.out.symm, hw⟩
      | false =>
        rw [hmb] at hlk
        have HNM := Lib.hid (name_any x hxs E wr HE.out)
        cases hn : nameB x with
        | false =>
          have hf : Hid ((labelsB ls && decide (0 < ls.length)) = false) := Lib.hid (by rw [labelsB_prefix (j := j + 1) (by rw [take_snoc_get HX.out, labelsB_snoc, hn]; simp)]; rfl)
          rw [hn] at HNM
          clear hx hmb hn
          go_wp2_with (go_at_call 61; refine HNM.out.mono ?_; rintro e w2 ⟨rfl, rfl⟩)
          go_ret
          exact ⟨ret_bool hf.out.symm, hw⟩
        | true =>
          have hf : Hid (labelsB (ls.take (j + 1)) = true) := Lib.hid (by rw [take_snoc_get HX.out, labelsB_snoc, hn, hmb, HT.out]; rfl)
          rw [hn] at HNM
          obtain ⟨w1, hup, hse1, hgr⟩ := HSE.out.put hj' hxs
          have hse2 : Hid (Seen w1 w.heap.size (j + 1) (ls.take (j + 1))) := Lib.hid (by rw [take_snoc_get HX.out]; exact hse1)
          have hw1 : Hid (Below w.heap.size w w1) := Lib.hid (hw.grown hgr hw.size (fun k e => by cases e; exact Nat.le_refl _))
          clear hx hmb hn hse1 hgr
          go_wp2_with (go_at_call 61; refine HNM.out.mono ?_; rintro e w2 ⟨rfl, rfl⟩)
          go_roundw
          case rel => exact ⟨j + 1, by go_num, by omega, hf, hse2, hw1.out⟩
          case measure => (simp [intOf]) <;> omega
    · obtain rfl : j = len := by omega
      have hall : ls.take j = ls := List.take_of_length_le (by rw [hlen.out]; exact Nat.le_refl _)
      have hn : labelsB ls = true := by have := HT.out; rwa [hall] at this
      have hse := HSE.out
      rw [hall] at hse
      obtain ⟨q, hln, hq⟩ := hse.len (fun e => by rw [hlen.out, e]; rfl) 3
      have HN : Hid ((labelsB ls && decide (0 < ls.length)) = decide (0 < q)) := Lib.hid (by rw [hn, Bool.true_and]; exact decide_eq_decide.2 hq.symm)
      have hqm : (q : Int) ≤ 9223372036854775807 := by
        have hl2 := hln
        obtain ⟨D, ho, _⟩ := hse
        rw [ho.len Tryz.underlying67 3] at hl2
        have h3 := ho.size_le
        injection hl2 with h4
        injection h4 with _ h5
        try omega
      clear hn hall hq hse
      go_wp2_with fail
      go_ret
      exact ⟨ret_bool (by rw [HN.out]), hw⟩

theorem rightSession_any (S : Nat → Prop) (p : Pr) (b o E : Nat) (w : World) (hS : Low S w) (he : Env E w) (hf : p.t.fine) (hdep : p.t.depth ≤ 1000) (hp : PrAt S w p b o) :
    Calls Tryz.prog 83 #[.pointer (some ⟨b, o, none⟩)] w fun e w' => e = .returned (.bool ((p.t.k != 1 && p.t.k != 2) && rightE p.t == 0)) ∧ Below w.heap.size w w' := by
  obtain ⟨hSb, _, _, hty, _⟩ := PrAt.eq.1 hp
  have hbl := hS _ hSb
  obtain ⟨la, ln, lc, ka, kn, kc, ⟨d0, d1, d2, d3, d4, d5⟩, hv⟩ := hty.load'
  have HT := Lib.hid (fun (W : World) (hW : Below w.heap.size w W) => tright_any E S p.t hf hdep _ W (hS.le hW.size) (he.below (hW.mono he.size)) (hv.to hS hW))
  obtain ⟨sb, hsb⟩ : ∃ b, (p.t.k != 1 && p.t.k != 2) = b := ⟨_, rfl⟩
  have hs1 := tsession_any p.t.k p.t.p p.t.s p.t.n (.slice la ln lc) (.slice ka kn kc) w
  rw [hsb] at hs1
  have HS1 := Lib.hid hs1
  rw [hsb]
  obtain ⟨r, hr⟩ : ∃ r, rightE p.t = r := ⟨_, rfl⟩
  rw [hr] at HT ⊢
  clear hty hv hp hsb hs1 hr
  cases sb
  · go_enter Tryz.func83, Tryz.ntmps83
    go_wp2_with (go_at_call 105; refine HS1.out.mono ?_; rintro e w2 ⟨rfl, hb2⟩)
    go_ret
    exact ⟨rfl, hb2⟩
  · go_enter Tryz.func83, Tryz.ntmps83
    go_wp2_with (first | (go_at_call 105; refine HS1.out.mono ?_; rintro e w2 ⟨rfl, hb2⟩; have e0 := (hb2.cell (p := ⟨b, o + 5, none⟩) hbl).trans d0; have e1 := (hb2.cell (p := ⟨b, o + 5 + 1, none⟩) hbl).trans d1; have e2 := (hb2.cell (p := ⟨b, o + 5 + 2, none⟩) hbl).trans d2; have e3 := (hb2.cell (p := ⟨b, o + 5 + 3, none⟩) hbl).trans d3; have e4 := (hb2.cell (p := ⟨b, o + 5 + 4, none⟩) hbl).trans d4; have e5 := (hb2.cell (p := ⟨b, o + 5 + 5, none⟩) hbl).trans d5) | (go_at_call 62; refine (HT.out _ hb2).mono ?_; rintro e w3 ⟨rfl, hb3⟩))
    go_ret
    exact ⟨ret_bool (by first | rfl | simp), below_seq hb2 hb3⟩

end Go.Proofs.YtgmdmbmkljbgiaaGreatDoor

/- Processes: varIsOtherName, prefix, nodesAt. -/
namespace Go.Proofs.YtgmdmbmkljbgiaaGreatDoor
open Go.RowKit Go.Deep Go.Shelf

def prefixB (k : Int) : Bool := k == 2 || (k == 3 || (k == 4 || k == 5))
theorem prefix_any (k : Int) (w : World) : Calls Tryz.prog 96 #[.int .i64 k] w fun e w' => e = .returned (.bool (prefixB k)) ∧ w = w' := by
  unfold prefixB
  by_cases h2 : k = 2
  · subst h2
    go_enter Tryz.func96, Tryz.ntmps96
    go_wp2_with fail
    go_ret
    exact ⟨rfl, rfl⟩
  · have h2' : (k == 2) = false := by simpa using h2
    by_cases h3 : k = 3
    · subst h3
      go_enter Tryz.func96, Tryz.ntmps96
      go_wp2_with fail
      go_ret
      exact ⟨rfl, rfl⟩
    · have h3' : (k == 3) = false := by simpa using h3
      by_cases h4 : k = 4
      · subst h4
        go_enter Tryz.func96, Tryz.ntmps96
        go_wp2_with fail
        go_ret
        exact ⟨rfl, rfl⟩
      · have h4' : (k == 4) = false := by simpa using h4
        rw [h2', h3', h4', Bool.false_or, Bool.false_or, Bool.false_or]
        clear h2 h3 h4
        by_cases h5 : k = 5
        · subst h5
          go_enter Tryz.func96, Tryz.ntmps96
          go_wp2_with fail
          go_ret
          exact ⟨rfl, rfl⟩
        · have h5' : (k == 5) = false := by simpa using h5
          clear h5
          go_enter Tryz.func96, Tryz.ntmps96
          go_wp2_with fail
          go_ret
          exact ⟨ret_bool (by first | rfl | rw [h5']), rfl⟩

set_option maxHeartbeats 1000000 in
theorem varIsOtherName_any (S : Nat → Prop) (p : Pr) (b o E : Nat) (w : World) (hS : Low S w) (he : Env E w) (hp : PrAt S w p b o) :
    Calls Tryz.prog 82 #[.pointer (some ⟨b, o, none⟩)] w fun e w' => e = .returned (.bool (nameB p.x && !decide (p.x = p.c))) ∧ Below w.heap.size w w' := by
  obtain ⟨hSb, ⟨hc, hx⟩, ⟨c0, c1, c2⟩, _⟩ := PrAt.eq.1 hp
  have hbl := hS b hSb
  obtain ⟨nb, hnb⟩ : ∃ b, nameB p.x = b := ⟨_, rfl⟩
  have HN := Lib.hid (fun (W : World) (hW : Below w.heap.size w W) => tname_is p.x nb hnb hx E W (he.below (hW.mono he.size)))
  have HW0 : Hid (Below w.heap.size w w) := Lib.hid (Below.refl _ _)
  rw [hnb]
  have p1 : ∀ q : Later w.heap.size w, q.1.cell? ⟨b, o + 1, none⟩ = some (.string p.c) := fun q => (q.2.cell (p := ⟨b, _, none⟩) hbl).trans c1
  have p2 : ∀ q : Later w.heap.size w, q.1.cell? ⟨b, o + 2, none⟩ = some (.string p.x) := fun q => (q.2.cell (p := ⟨b, _, none⟩) hbl).trans c2
  clear hp hnb hc hx c0 c1 c2
  cases nb
  · rw [Bool.false_and]
    go_enter Tryz.func82, Tryz.ntmps82
    go_wp2_with fail
    refine wp_region_later w.heap.size w (by kernel_rfl) (by kernel_rfl) HW0.out ?_
    repeat (go_big_quiet_step ((go_at_call 61; exact later_call_same _ (HN.out _ (Subtype.property _)))))
    refine wpQuiet_nil ?_
    rintro _ ⟨⟨w5, hb5⟩, rfl⟩
    go_wp2_with fail
    go_ret
    exact ⟨rfl, hb5⟩
  · rw [Bool.true_and]
    by_cases heq : p.x = p.c
    · have h1 : (p.x.toList != p.c.toList) = false := by rw [heq]; simp
      have h2 : (p.x.toList == p.c.toList) = true := by rw [heq]; simp
      rw [decide_eq_true heq]
      clear heq
      go_enter Tryz.func82, Tryz.ntmps82
      go_wp2_with fail
      refine wp_region_later w.heap.size w (by kernel_rfl) (by kernel_rfl) HW0.out ?_
      repeat (go_big_quiet_step ((go_at_call 61; exact later_call_same _ (HN.out _ (Subtype.property _)))))
      refine wpQuiet_nil ?_
      rintro _ ⟨⟨w5, hb5⟩, rfl⟩
      go_wp2_with fail
      go_ret
      exact ⟨rfl, hb5⟩
    · have h1 := str_ne heq
      have h2 : (p.x.toList == p.c.toList) = false := by simpa using h1
      rw [decide_eq_false heq]
      clear heq
      go_enter Tryz.func82, Tryz.ntmps82
      go_wp2_with fail
      refine wp_region_later w.heap.size w (by kernel_rfl) (by kernel_rfl) HW0.out ?_
      repeat (go_big_quiet_step ((go_at_call 61; exact later_call_same _ (HN.out _ (Subtype.property _)))))
      refine wpQuiet_nil ?_
      rintro _ ⟨⟨w5, hb5⟩, rfl⟩
      go_wp2_with fail
      go_ret
      exact ⟨rfl, hb5⟩

def Pr.adds (p : Pr) : Nat := if p.k = 6 then 1 + p.t.size else 1
theorem nodesAt_any (S : Nat → Prop) (p : Pr) (b o : Nat) (w : World) (hS : Low S w) (hsz : p.t.size ≤ 1000000) (hdep : p.t.depth ≤ 1000) (hp : PrAt S w p b o) :
    Calls Tryz.prog 74 #[.pointer (some ⟨b, o, none⟩)] w fun e w' => e = .returned (.int .i64 p.adds) ∧ Below w.heap.size w w' := by
  obtain ⟨hSb, _, ⟨c0, _, _⟩, hty, _⟩ := PrAt.eq.1 hp
  obtain ⟨la, ln, lc, ka, kn, kc, ⟨d0, d1, d2, d3, d4, d5⟩, hv⟩ := hty.load'
  have HT := Lib.hid (tsize_any S p.t hsz hdep _ w hS hv)
  unfold Pr.adds
  obtain ⟨k, hk⟩ : ∃ k, p.k = k := ⟨_, rfl⟩
  obtain ⟨q, hq⟩ : ∃ q, p.t.size = q := ⟨_, rfl⟩
  rw [hq] at HT hsz ⊢
  rw [hk] at c0 ⊢
  clear hty hv hp hk hq hdep
  by_cases h6 : k = 6
  · subst h6
    rw [if_pos rfl]
    go_enter Tryz.func74, Tryz.ntmps74
    go_wp2_with (go_at_call 73; refine HT.out.mono ?_; rintro e w2 ⟨rfl, hb2⟩)
    go_ret
    exact ⟨ret_int (by simp), hb2⟩
  · have h6' : (k == 6) = false := by simpa using h6
    rw [if_neg h6]
    clear h6
    go_enter Tryz.func74, Tryz.ntmps74
    go_wp2_with fail
    go_ret
    exact ⟨rfl, Below.refl _ _⟩

end Go.Proofs.YtgmdmbmkljbgiaaGreatDoor

/- Processes: fieldFits and fits. -/
namespace Go.Proofs.YtgmdmbmkljbgiaaGreatDoor
open Go.RowKit Go.Deep Go.Shelf

set_option maxRecDepth 100000 in
theorem run_equalIn_func_nil (w : World) (d : Nat) : (Op.equalIn (d + 1) 94 .nilFunc .nilFunc).run Tryz.prog w = .ok true w := by
  simp [Op.equalIn, run_underlying Tryz.underlying94]
set_option maxRecDepth 100000 in
theorem run_equalIn_func_some (w : World) (d : Nat) (f : Nat) : (Op.equalIn (d + 1) 94 (.func (.func f) #[] #[]) .nilFunc).run Tryz.prog w = .ok false w := by
  simp [Op.equalIn, run_underlying Tryz.underlying94]
theorem eqNil (w : World) : (binOp .eql 94 .nilFunc .nilFunc).run Tryz.prog w = .ok (.bool true) w := by
  simp only [binOp]
  simp [Op.equal, Op.maxDepth, run_equalIn_func_nil w 9999]
theorem eqFn (f : Nat) (w : World) : (binOp .eql 94 (.func (.func f) #[] #[]) .nilFunc).run Tryz.prog w = .ok (.bool false) w := by
  simp only [binOp]
  simp [Op.equal, Op.maxDepth, run_equalIn_func_some w 9999]

theorem fieldFits_nil (a : Option Addr) (e : Bool) (w : World) : Calls Tryz.prog 88 #[.nilFunc, .pointer a, .bool e] w fun en w' => en = .returned (.bool e) ∧ Below w.heap.size w w' := by
  have hq := eqNil
  go_enter Tryz.func88, Tryz.ntmps88
  go_wp2_with fail
  go_ret
  exact ⟨rfl, Below.refl _ _⟩

theorem fieldFits_fn (f : Nat) (eg : ∀ args w, (callFunc f args).run Tryz.prog w = .ok (.enter f args) w) (a : Option Addr) (e r : Bool) (w : World)
    (hc : Calls Tryz.prog f #[.pointer a] w fun en w' => en = .returned (.bool r) ∧ Below w.heap.size w w') :
    Calls Tryz.prog 88 #[.func (.func f) #[] #[], .pointer a, .bool e] w fun en w' => en = .returned (.bool r) ∧ Below w.heap.size w w' := by
  have HC := Lib.hid hc
  clear hc
  have hq := eqFn f
  go_enter Tryz.func88, Tryz.ntmps88
  go_wp2_with fail
  refine HC.out.mono ?_
  rintro en w2 ⟨rfl, hb2⟩
  go_wp2_with fail
  go_ret
  exact ⟨rfl, hb2⟩

end Go.Proofs.YtgmdmbmkljbgiaaGreatDoor

/- Processes: fits. -/
namespace Go.Proofs.YtgmdmbmkljbgiaaGreatDoor
open Go.RowKit Go.Deep Go.Shelf

/-- What a check of a rule answers. -/
def Chk (w : World) (f : Value) (b o : Nat) (e r : Bool) : Prop := (∀ W, Below w.heap.size w W → Calls Tryz.prog 88 #[f, .pointer (some ⟨b, o, none⟩), .bool e] W fun en w' => en = .returned (.bool r) ∧ Below W.heap.size W w')
theorem Chk.to {w : World} {f : Value} {b o : Nat} {e r : Bool} (h : Chk w f b o e r) {W : World} (hW : Below w.heap.size w W) {e' : Bool} (he : e' = e) : Calls Tryz.prog 88 #[f, .pointer (some ⟨b, o, none⟩), .bool e'] W fun en w' => en = .returned (.bool r) ∧ Below W.heap.size W w' := by subst he; exact h W hW
theorem tyVal_zero (B : Nat → Prop) (w : World) : TyVal B w (.agg #[.int .i64 0, .int .i64 0, .string ⟨#[]⟩, .int .i64 0, .slice none 0 0, .slice none 0 0]) default :=
  ⟨.slice none 0 0, .slice none 0 0, rfl, Nat.zero_le _, ⟨.inl ⟨⟨_, _, rfl⟩, rfl⟩, by simp [maxLen, default, Ty.ls], by intro s hs; cases hs⟩, ⟨.inl ⟨⟨_, _, rfl⟩, rfl⟩, by simp [maxLen, default, Ty.ts]⟩⟩

theorem run_build0 (W : World) : (Instr.build 27 #[]).run Tryz.prog W = .ok (.agg #[.int .i64 0, .int .i64 0, .string ⟨#[]⟩, .int .i64 0, .slice none 0 0, .slice none 0 0]) W := by kernel_rfl

set_option maxHeartbeats 4000000 in
theorem pfits_any (S : Nat → Prop) (p : Pr) (b o : Nat) (f0 f1 f2 f3 f4 f5 : Value) (r0 r1 r2 r3 r4 r5 : Bool) (w : World) (hS : Low S w) (hp : PrAt S w p b o)
    (h0 : Chk w f0 b o p.c.toList.isEmpty r0) (h1 : Chk w f1 b o p.x.toList.isEmpty r1) (h2 : Chk w f2 b o (decide (p.ls.length = 0)) r2) (h3 : Chk w f3 b o (decide (p.vs.length = 0)) r3)
    (h4 : Chk w f4 b o (eqB p.t default) r4) (h5 : Chk w f5 b o (decide (p.ps.length = 0)) r5) :
    Calls Tryz.prog 60 #[.agg #[f0, f1, f2, f3, f4, f5], .pointer (some ⟨b, o, none⟩)] w fun e w' => e = .returned (.bool (r0 && (r1 && (r2 && (r3 && (r4 && r5)))))) ∧ Below w.heap.size w w' := by
  obtain ⟨hSb, _, ⟨_, c1, c2⟩, hty, lv, av, kv, c3, c4, c11, hl, ha, hk⟩ := PrAt.eq.1 hp
  have hbl := hS b hSb
  obtain ⟨pa, len, c, rfl, hlen, _⟩ := hk.open
  obtain ⟨la, ln, lc, rfl, hln, _⟩ := hl.open
  obtain ⟨aa, an, ac, rfl, han, _⟩ := ha.open
  obtain ⟨tla, tln, tlc, tka, tkn, tkc, ⟨d0, d1, d2, d3, d4, d5⟩, hv⟩ := hty.load'
  rw [← hlen.out] at h5
  rw [← hln.out] at h2
  rw [← han.out] at h3
  have hsame := fun (W : World) (hW : Below w.heap.size w W) => tsame_any S p.t default _ _ W (hS.le hW.size) (hv.to hS hW) (tyVal_zero S W)
  obtain ⟨e4, he4⟩ : ∃ e, eqB p.t default = e := ⟨_, rfl⟩
  rw [he4] at hsame h4
  have HS := Lib.hid hsame
  have H0 := Lib.hid h0
  have H1 := Lib.hid h1
  have H2 := Lib.hid h2
  have H3 := Lib.hid h3
  have H4 := Lib.hid h4
  have H5 := Lib.hid h5
  have HW0 : Hid (Below (w.heap.size + 1) (w.alloc (.cells #[f0, f1, f2, f3, f4, f5] 101)) (w.alloc (.cells #[f0, f1, f2, f3, f4, f5] 101))) := Lib.hid (Below.refl _ _)
  have HSZ : Hid (w.heap.size + 1 ≤ (w.alloc (.cells #[f0, f1, f2, f3, f4, f5] 101)).heap.size) := Lib.hid (by simp)
  have p1 : ∀ q : Later (w.heap.size + 1) (w.alloc (.cells #[f0, f1, f2, f3, f4, f5] 101)), q.1.cell? ⟨b, o + 1, none⟩ = some (.string p.c) := fun q => ((blk_below q.2).cell (p := ⟨b, _, none⟩) hbl).trans c1
  have p2 : ∀ q : Later (w.heap.size + 1) (w.alloc (.cells #[f0, f1, f2, f3, f4, f5] 101)), q.1.cell? ⟨b, o + 2, none⟩ = some (.string p.x) := fun q => ((blk_below q.2).cell (p := ⟨b, _, none⟩) hbl).trans c2
  have p3 : ∀ q : Later (w.heap.size + 1) (w.alloc (.cells #[f0, f1, f2, f3, f4, f5] 101)), q.1.cell? ⟨b, o + 3, none⟩ = some (.slice la ln lc) := fun q => ((blk_below q.2).cell (p := ⟨b, _, none⟩) hbl).trans c3
  have p4 : ∀ q : Later (w.heap.size + 1) (w.alloc (.cells #[f0, f1, f2, f3, f4, f5] 101)), q.1.cell? ⟨b, o + 4, none⟩ = some (.slice aa an ac) := fun q => ((blk_below q.2).cell (p := ⟨b, _, none⟩) hbl).trans c4
  have p5 : ∀ q : Later (w.heap.size + 1) (w.alloc (.cells #[f0, f1, f2, f3, f4, f5] 101)), q.1.cell? ⟨b, o + 11, none⟩ = some (.slice pa len c) := fun q => ((blk_below q.2).cell (p := ⟨b, _, none⟩) hbl).trans c11
  have t0 : ∀ q : Later (w.heap.size + 1) (w.alloc (.cells #[f0, f1, f2, f3, f4, f5] 101)), q.1.cell? ⟨b, o + 5, none⟩ = some (.int .i64 p.t.k) := fun q => ((blk_below q.2).cell (p := ⟨b, _, none⟩) hbl).trans d0
  have t1 : ∀ q : Later (w.heap.size + 1) (w.alloc (.cells #[f0, f1, f2, f3, f4, f5] 101)), q.1.cell? ⟨b, o + 5 + 1, none⟩ = some (.int .i64 p.t.p) := fun q => ((blk_below q.2).cell (p := ⟨b, _, none⟩) hbl).trans d1
  have t2 : ∀ q : Later (w.heap.size + 1) (w.alloc (.cells #[f0, f1, f2, f3, f4, f5] 101)), q.1.cell? ⟨b, o + 5 + 2, none⟩ = some (.string p.t.n) := fun q => ((blk_below q.2).cell (p := ⟨b, _, none⟩) hbl).trans d2
  have t3 : ∀ q : Later (w.heap.size + 1) (w.alloc (.cells #[f0, f1, f2, f3, f4, f5] 101)), q.1.cell? ⟨b, o + 5 + 3, none⟩ = some (.int .i64 p.t.s) := fun q => ((blk_below q.2).cell (p := ⟨b, _, none⟩) hbl).trans d3
  have t4 : ∀ q : Later (w.heap.size + 1) (w.alloc (.cells #[f0, f1, f2, f3, f4, f5] 101)), q.1.cell? ⟨b, o + 5 + 4, none⟩ = some (.slice tla tln tlc) := fun q => ((blk_below q.2).cell (p := ⟨b, _, none⟩) hbl).trans d4
  have t5 : ∀ q : Later (w.heap.size + 1) (w.alloc (.cells #[f0, f1, f2, f3, f4, f5] 101)), q.1.cell? ⟨b, o + 5 + 5, none⟩ = some (.slice tka tkn tkc) := fun q => ((blk_below q.2).cell (p := ⟨b, _, none⟩) hbl).trans d5
  have u0 : ∀ q : Later (w.heap.size + 1) (w.alloc (.cells #[f0, f1, f2, f3, f4, f5] 101)), q.1.cell? ⟨w.heap.size, 0, none⟩ = some f0 := fun q => blk_cell q.2 0 rfl
  have u1 : ∀ q : Later (w.heap.size + 1) (w.alloc (.cells #[f0, f1, f2, f3, f4, f5] 101)), q.1.cell? ⟨w.heap.size, 1, none⟩ = some f1 := fun q => blk_cell q.2 1 rfl
  have u2 : ∀ q : Later (w.heap.size + 1) (w.alloc (.cells #[f0, f1, f2, f3, f4, f5] 101)), q.1.cell? ⟨w.heap.size, 2, none⟩ = some f2 := fun q => blk_cell q.2 2 rfl
  have u3 : ∀ q : Later (w.heap.size + 1) (w.alloc (.cells #[f0, f1, f2, f3, f4, f5] 101)), q.1.cell? ⟨w.heap.size, 3, none⟩ = some f3 := fun q => blk_cell q.2 3 rfl
  have u4 : ∀ q : Later (w.heap.size + 1) (w.alloc (.cells #[f0, f1, f2, f3, f4, f5] 101)), q.1.cell? ⟨w.heap.size, 4, none⟩ = some f4 := fun q => blk_cell q.2 4 rfl
  have u5 : ∀ q : Later (w.heap.size + 1) (w.alloc (.cells #[f0, f1, f2, f3, f4, f5] 101)), q.1.cell? ⟨w.heap.size, 5, none⟩ = some f5 := fun q => blk_cell q.2 5 rfl
  have hbd := fun (q : Later (w.heap.size + 1) (w.alloc (.cells #[f0, f1, f2, f3, f4, f5] 101))) => run_build0 q.1
  clear h0 h1 h2 h3 h4 h5 hl ha hk hp hty hv hsame he4 c1 c2 c3 c4 c11 d0 d1 d2 d3 d4 d5 hlen hln han
  cases r0
  · rw [Bool.false_and]
    go_enter Tryz.func60, Tryz.ntmps60
    go_wp2_with fail
    refine wp_region_later (w.heap.size + 1) (w.alloc (.cells #[f0, f1, f2, f3, f4, f5] 101)) (by kernel_rfl) (by kernel_rfl) HW0.out ?_
    dsimp only [List.append]
    repeat (go_big_quiet_step (first | (go_at_call 88; with_reducible exact later_call _ HSZ.out (H0.out.to (blk_below (Subtype.property _)) (by first | rfl | (rw [Bool.eq_iff_iff]; simp))))  | (go_at_call 88; with_reducible exact later_call _ HSZ.out (H1.out.to (blk_below (Subtype.property _)) (by first | rfl | (rw [Bool.eq_iff_iff]; simp))))  | (go_at_call 88; with_reducible exact later_call _ HSZ.out (H2.out.to (blk_below (Subtype.property _)) (by first | rfl | (rw [Bool.eq_iff_iff]; simp))))  | (go_at_call 88; with_reducible exact later_call _ HSZ.out (H3.out.to (blk_below (Subtype.property _)) (by first | rfl | (rw [Bool.eq_iff_iff]; simp))))  | (go_at_call 88; with_reducible exact later_call _ HSZ.out (H4.out.to (blk_below (Subtype.property _)) (by first | rfl | (rw [Bool.eq_iff_iff]; simp))))  | (go_at_call 88; with_reducible exact later_call _ HSZ.out (H5.out.to (blk_below (Subtype.property _)) (by first | rfl | (rw [Bool.eq_iff_iff]; simp))))  | (go_at_call 89; exact later_call _ HSZ.out (HS.out _ (blk_below (Subtype.property _))))))
    refine wpQuiet_nil ?_
    rintro _ ⟨⟨w5, hb5⟩, rfl⟩
    clear u0 u1 u2 u3 u4 u5 p1 p2 p3 p4 p5 t0 t1 t2 t3 t4 t5 hbd
    go_wp2_with fail
    go_ret
    exact ⟨rfl, blk_below hb5⟩
  · rw [Bool.true_and]
    cases r1
    · rw [Bool.false_and]
      go_enter Tryz.func60, Tryz.ntmps60
      go_wp2_with fail
      refine wp_region_later (w.heap.size + 1) (w.alloc (.cells #[f0, f1, f2, f3, f4, f5] 101)) (by kernel_rfl) (by kernel_rfl) HW0.out ?_
      dsimp only [List.append]
      repeat (go_big_quiet_step (first | (go_at_call 88; with_reducible exact later_call _ HSZ.out (H0.out.to (blk_below (Subtype.property _)) (by first | rfl | (rw [Bool.eq_iff_iff]; simp))))  | (go_at_call 88; with_reducible exact later_call _ HSZ.out (H1.out.to (blk_below (Subtype.property _)) (by first | rfl | (rw [Bool.eq_iff_iff]; simp))))  | (go_at_call 88; with_reducible exact later_call _ HSZ.out (H2.out.to (blk_below (Subtype.property _)) (by first | rfl | (rw [Bool.eq_iff_iff]; simp))))  | (go_at_call 88; with_reducible exact later_call _ HSZ.out (H3.out.to (blk_below (Subtype.property _)) (by first | rfl | (rw [Bool.eq_iff_iff]; simp))))  | (go_at_call 88; with_reducible exact later_call _ HSZ.out (H4.out.to (blk_below (Subtype.property _)) (by first | rfl | (rw [Bool.eq_iff_iff]; simp))))  | (go_at_call 88; with_reducible exact later_call _ HSZ.out (H5.out.to (blk_below (Subtype.property _)) (by first | rfl | (rw [Bool.eq_iff_iff]; simp))))  | (go_at_call 89; exact later_call _ HSZ.out (HS.out _ (blk_below (Subtype.property _))))))
      refine wpQuiet_nil ?_
      rintro _ ⟨⟨w5, hb5⟩, rfl⟩
      clear u0 u1 u2 u3 u4 u5 p1 p2 p3 p4 p5 t0 t1 t2 t3 t4 t5 hbd
      go_wp2_with fail
      go_ret
      exact ⟨rfl, blk_below hb5⟩
    · rw [Bool.true_and]
      cases r2
      · rw [Bool.false_and]
        go_enter Tryz.func60, Tryz.ntmps60
        go_wp2_with fail
        refine wp_region_later (w.heap.size + 1) (w.alloc (.cells #[f0, f1, f2, f3, f4, f5] 101)) (by kernel_rfl) (by kernel_rfl) HW0.out ?_
        dsimp only [List.append]
        repeat (go_big_quiet_step (first | (go_at_call 88; with_reducible exact later_call _ HSZ.out (H0.out.to (blk_below (Subtype.property _)) (by first | rfl | (rw [Bool.eq_iff_iff]; simp))))  | (go_at_call 88; with_reducible exact later_call _ HSZ.out (H1.out.to (blk_below (Subtype.property _)) (by first | rfl | (rw [Bool.eq_iff_iff]; simp))))  | (go_at_call 88; with_reducible exact later_call _ HSZ.out (H2.out.to (blk_below (Subtype.property _)) (by first | rfl | (rw [Bool.eq_iff_iff]; simp))))  | (go_at_call 88; with_reducible exact later_call _ HSZ.out (H3.out.to (blk_below (Subtype.property _)) (by first | rfl | (rw [Bool.eq_iff_iff]; simp))))  | (go_at_call 88; with_reducible exact later_call _ HSZ.out (H4.out.to (blk_below (Subtype.property _)) (by first | rfl | (rw [Bool.eq_iff_iff]; simp))))  | (go_at_call 88; with_reducible exact later_call _ HSZ.out (H5.out.to (blk_below (Subtype.property _)) (by first | rfl | (rw [Bool.eq_iff_iff]; simp))))  | (go_at_call 89; exact later_call _ HSZ.out (HS.out _ (blk_below (Subtype.property _))))))
        refine wpQuiet_nil ?_
        rintro _ ⟨⟨w5, hb5⟩, rfl⟩
        clear u0 u1 u2 u3 u4 u5 p1 p2 p3 p4 p5 t0 t1 t2 t3 t4 t5 hbd
        go_wp2_with fail
        go_ret
        exact ⟨rfl, blk_below hb5⟩
      · rw [Bool.true_and]
        cases r3
        · rw [Bool.false_and]
          go_enter Tryz.func60, Tryz.ntmps60
          go_wp2_with fail
          refine wp_region_later (w.heap.size + 1) (w.alloc (.cells #[f0, f1, f2, f3, f4, f5] 101)) (by kernel_rfl) (by kernel_rfl) HW0.out ?_
          dsimp only [List.append]
          repeat (go_big_quiet_step (first | (go_at_call 88; with_reducible exact later_call _ HSZ.out (H0.out.to (blk_below (Subtype.property _)) (by first | rfl | (rw [Bool.eq_iff_iff]; simp))))  | (go_at_call 88; with_reducible exact later_call _ HSZ.out (H1.out.to (blk_below (Subtype.property _)) (by first | rfl | (rw [Bool.eq_iff_iff]; simp))))  | (go_at_call 88; with_reducible exact later_call _ HSZ.out (H2.out.to (blk_below (Subtype.property _)) (by first | rfl | (rw [Bool.eq_iff_iff]; simp))))  | (go_at_call 88; with_reducible exact later_call _ HSZ.out (H3.out.to (blk_below (Subtype.property _)) (by first | rfl | (rw [Bool.eq_iff_iff]; simp))))  | (go_at_call 88; with_reducible exact later_call _ HSZ.out (H4.out.to (blk_below (Subtype.property _)) (by first | rfl | (rw [Bool.eq_iff_iff]; simp))))  | (go_at_call 88; with_reducible exact later_call _ HSZ.out (H5.out.to (blk_below (Subtype.property _)) (by first | rfl | (rw [Bool.eq_iff_iff]; simp))))  | (go_at_call 89; exact later_call _ HSZ.out (HS.out _ (blk_below (Subtype.property _))))))
          refine wpQuiet_nil ?_
          rintro _ ⟨⟨w5, hb5⟩, rfl⟩
          clear u0 u1 u2 u3 u4 u5 p1 p2 p3 p4 p5 t0 t1 t2 t3 t4 t5 hbd
          go_wp2_with fail
          go_ret
          exact ⟨rfl, blk_below hb5⟩
        · rw [Bool.true_and]
          cases r4
          · rw [Bool.false_and]
            go_enter Tryz.func60, Tryz.ntmps60
            go_wp2_with fail
            refine wp_region_later (w.heap.size + 1) (w.alloc (.cells #[f0, f1, f2, f3, f4, f5] 101)) (by kernel_rfl) (by kernel_rfl) HW0.out ?_
            dsimp only [List.append]
            repeat (go_big_quiet_step (first | (go_at_call 88; with_reducible exact later_call _ HSZ.out (H0.out.to (blk_below (Subtype.property _)) (by first | rfl | (rw [Bool.eq_iff_iff]; simp))))  | (go_at_call 88; with_reducible exact later_call _ HSZ.out (H1.out.to (blk_below (Subtype.property _)) (by first | rfl | (rw [Bool.eq_iff_iff]; simp))))  | (go_at_call 88; with_reducible exact later_call _ HSZ.out (H2.out.to (blk_below (Subtype.property _)) (by first | rfl | (rw [Bool.eq_iff_iff]; simp))))  | (go_at_call 88; with_reducible exact later_call _ HSZ.out (H3.out.to (blk_below (Subtype.property _)) (by first | rfl | (rw [Bool.eq_iff_iff]; simp))))  | (go_at_call 88; with_reducible exact later_call _ HSZ.out (H4.out.to (blk_below (Subtype.property _)) (by first | rfl | (rw [Bool.eq_iff_iff]; simp))))  | (go_at_call 88; with_reducible exact later_call _ HSZ.out (H5.out.to (blk_below (Subtype.property _)) (by first | rfl | (rw [Bool.eq_iff_iff]; simp))))  | (go_at_call 89; exact later_call _ HSZ.out (HS.out _ (blk_below (Subtype.property _))))))
            refine wpQuiet_nil ?_
            rintro _ ⟨⟨w5, hb5⟩, rfl⟩
            clear u0 u1 u2 u3 u4 u5 p1 p2 p3 p4 p5 t0 t1 t2 t3 t4 t5 hbd
            go_wp2_with fail
            go_ret
            exact ⟨rfl, blk_below hb5⟩
          · rw [Bool.true_and]
            cases r5
            all_goals
              go_enter Tryz.func60, Tryz.ntmps60
              go_wp2_with fail
              refine wp_region_later (w.heap.size + 1) (w.alloc (.cells #[f0, f1, f2, f3, f4, f5] 101)) (by kernel_rfl) (by kernel_rfl) HW0.out ?_
              dsimp only [List.append]
              repeat (go_big_quiet_step (first | (go_at_call 88; with_reducible exact later_call _ HSZ.out (H0.out.to (blk_below (Subtype.property _)) (by first | rfl | (rw [Bool.eq_iff_iff]; simp))))  | (go_at_call 88; with_reducible exact later_call _ HSZ.out (H1.out.to (blk_below (Subtype.property _)) (by first | rfl | (rw [Bool.eq_iff_iff]; simp))))  | (go_at_call 88; with_reducible exact later_call _ HSZ.out (H2.out.to (blk_below (Subtype.property _)) (by first | rfl | (rw [Bool.eq_iff_iff]; simp))))  | (go_at_call 88; with_reducible exact later_call _ HSZ.out (H3.out.to (blk_below (Subtype.property _)) (by first | rfl | (rw [Bool.eq_iff_iff]; simp))))  | (go_at_call 88; with_reducible exact later_call _ HSZ.out (H4.out.to (blk_below (Subtype.property _)) (by first | rfl | (rw [Bool.eq_iff_iff]; simp))))  | (go_at_call 88; with_reducible exact later_call _ HSZ.out (H5.out.to (blk_below (Subtype.property _)) (by first | rfl | (rw [Bool.eq_iff_iff]; simp))))  | (go_at_call 89; exact later_call _ HSZ.out (HS.out _ (blk_below (Subtype.property _))))))
              refine wpQuiet_nil ?_
              rintro _ ⟨⟨w5, hb5⟩, rfl⟩
              clear u0 u1 u2 u3 u4 u5 p1 p2 p3 p4 p5 t0 t1 t2 t3 t4 t5 hbd
              go_wp2_with fail
              go_ret
              exact ⟨rfl, blk_below hb5⟩

end Go.Proofs.YtgmdmbmkljbgiaaGreatDoor

/- Processes: the program's table of rules, made. -/
namespace Go.Proofs.YtgmdmbmkljbgiaaGreatDoor
open Go.RowKit Go.Deep Go.Shelf

def pknK (k : Int) : Bool := decide (1 ≤ k) && decide (k ≤ 8)
def pruleVal (k : Int) : Value :=
  if k = 2 then .agg #[.func (.func 75) #[] #[], .nilFunc, .nilFunc, .func (.func 76) #[] #[], .nilFunc, .func (.func 77) #[] #[]]
  else if k = 3 then .agg #[.func (.func 75) #[] #[], .func (.func 78) #[] #[], .nilFunc, .nilFunc, .nilFunc, .func (.func 77) #[] #[]]
  else if k = 4 then .agg #[.func (.func 75) #[] #[], .nilFunc, .func (.func 79) #[] #[], .nilFunc, .nilFunc, .func (.func 77) #[] #[]]
  else if k = 5 then .agg #[.func (.func 75) #[] #[], .nilFunc, .func (.func 80) #[] #[], .nilFunc, .nilFunc, .func (.func 81) #[] #[]]
  else if k = 6 then .agg #[.func (.func 75) #[] #[], .func (.func 82) #[] #[], .nilFunc, .nilFunc, .func (.func 83) #[] #[], .func (.func 77) #[] #[]]
  else if k = 7 then .agg #[.nilFunc, .nilFunc, .nilFunc, .nilFunc, .nilFunc, .func (.func 84) #[] #[]]
  else if k = 8 then .agg #[.func (.func 75) #[] #[], .nilFunc, .nilFunc, .func (.func 85) #[] #[], .nilFunc, .nilFunc]
  else .agg #[.nilFunc, .nilFunc, .nilFunc, .nilFunc, .nilFunc, .nilFunc]
def pruleF : Lit → Option Value
  | .int .i64 k => if pknK k then some (pruleVal k) else none
  | _ => none
def PRulesAt (w : World) (b : Nat) : Prop := MapIs w 3 b 8 pruleF
theorem pruleInfo : (Tryz.prog.info? 101).map (fun i => (i.zero, i.size, i.bytes)) = some (some (.agg #[.nilFunc, .nilFunc, .nilFunc, .nilFunc, .nilFunc, .nilFunc]), 6, 48) := by kernel_rfl
theorem zero_prule (w : World) : (zeroValue 101).run Tryz.prog w = .ok (.agg #[.nilFunc, .nilFunc, .nilFunc, .nilFunc, .nilFunc, .nilFunc]) w := by
  obtain ⟨i0, hi, hz0, hz1, hz2⟩ := info_parts pruleInfo
  simp [zeroValue, typeInfo, hi, hz0]
theorem prule_unknown {k : Int} (h : pknK k = false) : pruleVal k = .agg #[.nilFunc, .nilFunc, .nilFunc, .nilFunc, .nilFunc, .nilFunc] := by
  have h1 : ¬ (1 ≤ k ∧ k ≤ 8) := by simpa [pknK] using h
  unfold pruleVal
  rw [if_neg (by omega), if_neg (by omega), if_neg (by omega), if_neg (by omega), if_neg (by omega), if_neg (by omega), if_neg (by omega)]
theorem PRulesAt.look_ok {w : World} {b : Nat} (h : PRulesAt w b) {k : Int} (h1 : -9223372036854775808 ≤ k) (h2 : k ≤ 9223372036854775807) : (Instr.lookup 95 (.map (some b)) (.int .i64 k) true).run Tryz.prog w = .ok (.tuple #[pruleVal k, .bool (pknK k)]) w := by
  rw [MapIs.look_ok h intKeyed Tryz.underlying95 (zero_prule w) (key_int h1 h2)]
  simp only [pruleF]
  cases hk : pknK k with
  | true => rfl
  | false => rw [prule_unknown hk]; rfl
theorem run_makeMap_prules (w : World) : (Instr.makeMap 95 none).run Tryz.prog w = .ok (.map (some w.heap.size)) (w.alloc (.map #[] 0)) := by
  simp [Instr.makeMap]

open Classical in
set_option maxHeartbeats 2000000 in
theorem prules_any (w : World) :
    Calls Tryz.prog 58 #[] w fun e w' => ∃ b, e = .returned (.map (some b)) ∧ PRulesAt w' b ∧ Below w.heap.size w w' ∧ w.heap.size ≤ b := by
  have hmk := run_makeMap_prules w
  have m0 := MapIs.made w 3
  obtain ⟨w1, u1, m1, g1⟩ := m0.put intKeyed Tryz.underlying95 (by unfold maxLen; omega) (key_int (a := 1) (by omega) (by omega)) trivial (val := .agg #[.nilFunc, .nilFunc, .nilFunc, .nilFunc, .nilFunc, .nilFunc])
  obtain ⟨w2, u2, m2, g2⟩ := m1.put intKeyed Tryz.underlying95 (by unfold maxLen; omega) (key_int (a := 2) (by omega) (by omega)) trivial (val := .agg #[.func (.func 75) #[] #[], .nilFunc, .nilFunc, .func (.func 76) #[] #[], .nilFunc, .func (.func 77) #[] #[]])
  obtain ⟨w3, u3, m3, g3⟩ := m2.put intKeyed Tryz.underlying95 (by unfold maxLen; omega) (key_int (a := 3) (by omega) (by omega)) trivial (val := .agg #[.func (.func 75) #[] #[], .func (.func 78) #[] #[], .nilFunc, .nilFunc, .nilFunc, .func (.func 77) #[] #[]])
  obtain ⟨w4, u4, m4, g4⟩ := m3.put intKeyed Tryz.underlying95 (by unfold maxLen; omega) (key_int (a := 4) (by omega) (by omega)) trivial (val := .agg #[.func (.func 75) #[] #[], .nilFunc, .func (.func 79) #[] #[], .nilFunc, .nilFunc, .func (.func 77) #[] #[]])
  obtain ⟨w5, u5, m5, g5⟩ := m4.put intKeyed Tryz.underlying95 (by unfold maxLen; omega) (key_int (a := 5) (by omega) (by omega)) trivial (val := .agg #[.func (.func 75) #[] #[], .nilFunc, .func (.func 80) #[] #[], .nilFunc, .nilFunc, .func (.func 81) #[] #[]])
  obtain ⟨w6, u6, m6, g6⟩ := m5.put intKeyed Tryz.underlying95 (by unfold maxLen; omega) (key_int (a := 6) (by omega) (by omega)) trivial (val := .agg #[.func (.func 75) #[] #[], .func (.func 82) #[] #[], .nilFunc, .nilFunc, .func (.func 83) #[] #[], .func (.func 77) #[] #[]])
  obtain ⟨w7, u7, m7, g7⟩ := m6.put intKeyed Tryz.underlying95 (by unfold maxLen; omega) (key_int (a := 7) (by omega) (by omega)) trivial (val := .agg #[.nilFunc, .nilFunc, .nilFunc, .nilFunc, .nilFunc, .func (.func 84) #[] #[]])
  obtain ⟨w8, u8, m8, g8⟩ := m7.put intKeyed Tryz.underlying95 (by unfold maxLen; omega) (key_int (a := 8) (by omega) (by omega)) trivial (val := .agg #[.func (.func 75) #[] #[], .nilFunc, .nilFunc, .func (.func 85) #[] #[], .nilFunc, .nilFunc])
  have hb0 : Below w.heap.size w (w.alloc (.map #[] 0)) := (Below.refl _ _).alloc (Nat.le_refl _) _
  have hb1 := hb0.grown g1 hb0.size (fun k e => by cases e; exact Nat.le_refl _)
  have hb2 := hb1.grown g2 hb1.size (fun k e => by cases e; exact Nat.le_refl _)
  have hb3 := hb2.grown g3 hb2.size (fun k e => by cases e; exact Nat.le_refl _)
  have hb4 := hb3.grown g4 hb3.size (fun k e => by cases e; exact Nat.le_refl _)
  have hb5 := hb4.grown g5 hb4.size (fun k e => by cases e; exact Nat.le_refl _)
  have hb6 := hb5.grown g6 hb5.size (fun k e => by cases e; exact Nat.le_refl _)
  have hb7 := hb6.grown g7 hb6.size (fun k e => by cases e; exact Nat.le_refl _)
  have hb8 := hb7.grown g8 hb7.size (fun k e => by cases e; exact Nat.le_refl _)
  have hr : PRulesAt w8 w.heap.size := by
    refine m8.congr (fun l => ?_)
    by_cases hl : ∃ k, l = .int .i64 k
    · obtain ⟨k, rfl⟩ := hl
      simp only [Lit.int.injEq, true_and, pruleF]
      by_cases hk : pknK k
      · rw [if_pos hk]
        have hk' : 1 ≤ k ∧ k ≤ 8 := by simpa [pknK] using hk
        have hcase : k = 1 ∨ k = 2 ∨ k = 3 ∨ k = 4 ∨ k = 5 ∨ k = 6 ∨ k = 7 ∨ k = 8 := by omega
        rcases hcase with rfl | rfl | rfl | rfl | rfl | rfl | rfl | rfl <;> simp [pruleVal]
      · rw [if_neg hk]
        have hk' : ¬ (1 ≤ k ∧ k ≤ 8) := by simpa [pknK] using hk
        rw [if_neg (by omega), if_neg (by omega), if_neg (by omega), if_neg (by omega), if_neg (by omega), if_neg (by omega), if_neg (by omega), if_neg (by omega)]
    · have hne : ∀ k, l ≠ .int .i64 k := fun k e => hl ⟨k, e⟩
      have hn : pruleF l = none := by
        unfold pruleF
        split
        · rename_i k; exact absurd rfl (hne k)
        · rfl
      rw [hn]
      simp only [hne, if_false]
  have HR := Lib.hid hr
  have HB := Lib.hid hb8
  clear m0 m1 m2 m3 m4 m5 m6 m7 m8 g1 g2 g3 g4 g5 g6 g7 g8 hb0 hb1 hb2 hb3 hb4 hb5 hb6 hb7 hb8 hr
  go_enter Tryz.func58, Tryz.ntmps58
  go_wp2_with fail
  go_ret
  exact ⟨_, rfl, HR.out, HB.out, Nat.le_refl _⟩

end Go.Proofs.YtgmdmbmkljbgiaaGreatDoor

/- Processes: what the rule of a kind says of a node. -/
namespace Go.Proofs.YtgmdmbmkljbgiaaGreatDoor
open Go.RowKit Go.Deep Go.Shelf

theorem chk_nil (w : World) (b o : Nat) (e : Bool) : Chk w .nilFunc b o e e := fun W _ => fieldFits_nil _ e W
theorem chk_fn {w : World} {b o : Nat} {e r : Bool} (f : Nat) (eg : ∀ args w, (callFunc f args).run Tryz.prog w = .ok (.enter f args) w) (h : ∀ W, Below w.heap.size w W → Calls Tryz.prog f #[.pointer (some ⟨b, o, none⟩)] W fun en w' => en = .returned (.bool r) ∧ Below W.heap.size W w') :
    Chk w (.func (.func f) #[] #[]) b o e r := fun W hW => fieldFits_fn f eg _ e r W (h W hW)

noncomputable def Pr.r0 (p : Pr) : Bool :=
  if p.k = 2 then (nameB p.c) else if p.k = 3 then (nameB p.c) else if p.k = 4 then (nameB p.c) else if p.k = 5 then (nameB p.c) else if p.k = 6 then (nameB p.c) else if p.k = 8 then (nameB p.c) else p.c.toList.isEmpty
noncomputable def Pr.r1 (p : Pr) : Bool :=
  if p.k = 3 then (nameB p.x) else if p.k = 6 then (nameB p.x && !decide (p.x = p.c)) else p.x.toList.isEmpty
noncomputable def Pr.r2 (p : Pr) : Bool :=
  if p.k = 4 then (decide (p.ls.length = 1) && labelsB p.ls) else if p.k = 5 then (labelsB p.ls && decide (0 < p.ls.length)) else decide (p.ls.length = 0)
noncomputable def Pr.r3 (p : Pr) : Bool :=
  if p.k = 2 then (decide (p.vs.length = 1) && vlsB p.vs) else if p.k = 8 then (vlsB p.vs) else decide (p.vs.length = 0)
noncomputable def Pr.r4 (p : Pr) : Bool :=
  if p.k = 6 then ((p.t.k != 1 && p.t.k != 2) && rightE p.t == 0) else eqB p.t default
noncomputable def Pr.r5 (p : Pr) : Bool :=
  if p.k = 2 then (decide (p.ps.length = 1)) else if p.k = 3 then (decide (p.ps.length = 1)) else if p.k = 4 then (decide (p.ps.length = 1)) else if p.k = 5 then (decide (p.ps.length = p.ls.length)) else if p.k = 6 then (decide (p.ps.length = 1)) else if p.k = 7 then (partsB p.ps) else decide (p.ps.length = 0)
/-- Is a node shaped as its kind asks? -/
noncomputable def Pr.shp (p : Pr) : Bool := p.r0 && (p.r1 && (p.r2 && (p.r3 && (p.r4 && p.r5))))

set_option maxHeartbeats 1000000 in
theorem pfits_shp (S : Nat → Prop) (p : Pr) (b o E : Nat) (w : World) (hS : Low S w) (he : Env E w) (hf : p.t.fine) (hdep : p.t.depth ≤ 1000) (hp : PrAt S w p b o) (hk : pknK p.k = true) :
    Calls Tryz.prog 60 #[pruleVal p.k, .pointer (some ⟨b, o, none⟩)] w fun e w' => e = .returned (.bool p.shp) ∧ Below w.heap.size w w' := by
  have K : ∀ W, Below w.heap.size w W → PrAt S W p b o := fun W hW => PrAt.keep (hW.keeps'.mono hS) _ _ _ hp
  have C_chanIsName : ∀ e, Chk w (.func (.func 75) #[] #[]) b o e (nameB p.c) := fun e => chk_fn _ (enters_of Tryz.func75 (by kernel_rfl) rfl) (fun W hW => chanIsName_any S p b o E W (he.below (hW.mono he.size)) (K W hW))
  have C_differentLabels : ∀ e, Chk w (.func (.func 80) #[] #[]) b o e (labelsB p.ls && decide (0 < p.ls.length)) := fun e => chk_fn _ (enters_of Tryz.func80 (by kernel_rfl) rfl) (fun W hW => differentLabels_any S p b o E W (hS.le hW.size) (he.below (hW.mono he.size)) (K W hW))
  have C_kidForEachLabel : ∀ e, Chk w (.func (.func 81) #[] #[]) b o e (decide (p.ps.length = p.ls.length)) := fun e => chk_fn _ (enters_of Tryz.func81 (by kernel_rfl) rfl) (fun W hW => kidForEachLabel_any S p b o W (K W hW))
  have C_oneKid : ∀ e, Chk w (.func (.func 77) #[] #[]) b o e (decide (p.ps.length = 1)) := fun e => chk_fn _ (enters_of Tryz.func77 (by kernel_rfl) rfl) (fun W hW => oneKid_any S p b o W (K W hW))
  have C_oneLabel : ∀ e, Chk w (.func (.func 79) #[] #[]) b o e (decide (p.ls.length = 1) && labelsB p.ls) := fun e => chk_fn _ (enters_of Tryz.func79 (by kernel_rfl) rfl) (fun W hW => oneLabel_any S p b o E W (he.below (hW.mono he.size)) (K W hW))
  have C_oneValue : ∀ e, Chk w (.func (.func 76) #[] #[]) b o e (decide (p.vs.length = 1) && vlsB p.vs) := fun e => chk_fn _ (enters_of Tryz.func76 (by kernel_rfl) rfl) (fun W hW => oneValue_any S p b o E W (hS.le hW.size) (he.below (hW.mono he.size)) (K W hW))
  have C_parts : ∀ e, Chk w (.func (.func 84) #[] #[]) b o e (partsB p.ps) := fun e => chk_fn _ (enters_of Tryz.func84 (by kernel_rfl) rfl) (fun W hW => (parts_any S p b o W (K W hW)).mono (fun _ _ ⟨h1, h2⟩ => ⟨h1, by subst h2; exact Below.refl _ _⟩))
  have C_rightSession : ∀ e, Chk w (.func (.func 83) #[] #[]) b o e ((p.t.k != 1 && p.t.k != 2) && rightE p.t == 0) := fun e => chk_fn _ (enters_of Tryz.func83 (by kernel_rfl) rfl) (fun W hW => rightSession_any S p b o E W (hS.le hW.size) (he.below (hW.mono he.size)) hf hdep (K W hW))
  have C_values : ∀ e, Chk w (.func (.func 85) #[] #[]) b o e (vlsB p.vs) := fun e => chk_fn _ (enters_of Tryz.func85 (by kernel_rfl) rfl) (fun W hW => values_any S p b o E W (hS.le hW.size) (he.below (hW.mono he.size)) (K W hW))
  have C_varIsName : ∀ e, Chk w (.func (.func 78) #[] #[]) b o e (nameB p.x) := fun e => chk_fn _ (enters_of Tryz.func78 (by kernel_rfl) rfl) (fun W hW => varIsName_any S p b o E W (he.below (hW.mono he.size)) (K W hW))
  have C_varIsOtherName : ∀ e, Chk w (.func (.func 82) #[] #[]) b o e (nameB p.x && !decide (p.x = p.c)) := fun e => chk_fn _ (enters_of Tryz.func82 (by kernel_rfl) rfl) (fun W hW => varIsOtherName_any S p b o E W (hS.le hW.size) (he.below (hW.mono he.size)) (K W hW))
  have hk' : 1 ≤ p.k ∧ p.k ≤ 8 := by simpa [pknK] using hk
  have hcase : p.k = 1 ∨ p.k = 2 ∨ p.k = 3 ∨ p.k = 4 ∨ p.k = 5 ∨ p.k = 6 ∨ p.k = 7 ∨ p.k = 8 := by omega
  unfold Pr.shp Pr.r0 Pr.r1 Pr.r2 Pr.r3 Pr.r4 Pr.r5
  rcases hcase with e | e | e | e | e | e | e | e
  · rw [e, show pruleVal 1 = .agg #[.nilFunc, .nilFunc, .nilFunc, .nilFunc, .nilFunc, .nilFunc] from by simp [pruleVal]]
    simp only [if_false, Int.reduceEq]
    exact pfits_any S p b o _ _ _ _ _ _ _ _ _ _ _ _ w hS hp (chk_nil _ _ _ _) (chk_nil _ _ _ _) (chk_nil _ _ _ _) (chk_nil _ _ _ _) (chk_nil _ _ _ _) (chk_nil _ _ _ _)
  · rw [e, show pruleVal 2 = .agg #[.func (.func 75) #[] #[], .nilFunc, .nilFunc, .func (.func 76) #[] #[], .nilFunc, .func (.func 77) #[] #[]] from by simp [pruleVal]]
    simp only [if_true, if_false, Int.reduceEq]
    exact pfits_any S p b o _ _ _ _ _ _ _ _ _ _ _ _ w hS hp (C_chanIsName _) (chk_nil _ _ _ _) (chk_nil _ _ _ _) (C_oneValue _) (chk_nil _ _ _ _) (C_oneKid _)
  · rw [e, show pruleVal 3 = .agg #[.func (.func 75) #[] #[], .func (.func 78) #[] #[], .nilFunc, .nilFunc, .nilFunc, .func (.func 77) #[] #[]] from by simp [pruleVal]]
    simp only [if_true, if_false, Int.reduceEq]
    exact pfits_any S p b o _ _ _ _ _ _ _ _ _ _ _ _ w hS hp (C_chanIsName _) (C_varIsName _) (chk_nil _ _ _ _) (chk_nil _ _ _ _) (chk_nil _ _ _ _) (C_oneKid _)
  · rw [e, show pruleVal 4 = .agg #[.func (.func 75) #[] #[], .nilFunc, .func (.func 79) #[] #[], .nilFunc, .nilFunc, .func (.func 77) #[] #[]] from by simp [pruleVal]]
    simp only [if_true, if_false, Int.reduceEq]
    exact pfits_any S p b o _ _ _ _ _ _ _ _ _ _ _ _ w hS hp (C_chanIsName _) (chk_nil _ _ _ _) (C_oneLabel _) (chk_nil _ _ _ _) (chk_nil _ _ _ _) (C_oneKid _)
  · rw [e, show pruleVal 5 = .agg #[.func (.func 75) #[] #[], .nilFunc, .func (.func 80) #[] #[], .nilFunc, .nilFunc, .func (.func 81) #[] #[]] from by simp [pruleVal]]
    simp only [if_true, if_false, Int.reduceEq]
    exact pfits_any S p b o _ _ _ _ _ _ _ _ _ _ _ _ w hS hp (C_chanIsName _) (chk_nil _ _ _ _) (C_differentLabels _) (chk_nil _ _ _ _) (chk_nil _ _ _ _) (C_kidForEachLabel _)
  · rw [e, show pruleVal 6 = .agg #[.func (.func 75) #[] #[], .func (.func 82) #[] #[], .nilFunc, .nilFunc, .func (.func 83) #[] #[], .func (.func 77) #[] #[]] from by simp [pruleVal]]
    simp only [if_true, if_false, Int.reduceEq]
    exact pfits_any S p b o _ _ _ _ _ _ _ _ _ _ _ _ w hS hp (C_chanIsName _) (C_varIsOtherName _) (chk_nil _ _ _ _) (chk_nil _ _ _ _) (C_rightSession _) (C_oneKid _)
  · rw [e, show pruleVal 7 = .agg #[.nilFunc, .nilFunc, .nilFunc, .nilFunc, .nilFunc, .func (.func 84) #[] #[]] from by simp [pruleVal]]
    simp only [if_true, if_false, Int.reduceEq]
    exact pfits_any S p b o _ _ _ _ _ _ _ _ _ _ _ _ w hS hp (chk_nil _ _ _ _) (chk_nil _ _ _ _) (chk_nil _ _ _ _) (chk_nil _ _ _ _) (chk_nil _ _ _ _) (C_parts _)
  · rw [e, show pruleVal 8 = .agg #[.func (.func 75) #[] #[], .nilFunc, .nilFunc, .func (.func 85) #[] #[], .nilFunc, .nilFunc] from by simp [pruleVal]]
    simp only [if_true, if_false, Int.reduceEq]
    exact pfits_any S p b o _ _ _ _ _ _ _ _ _ _ _ _ w hS hp (C_chanIsName _) (chk_nil _ _ _ _) (chk_nil _ _ _ _) (C_values _) (chk_nil _ _ _ _) (chk_nil _ _ _ _)

end Go.Proofs.YtgmdmbmkljbgiaaGreatDoor

/- Processes: sameness, by the program. -/
namespace Go.Proofs.YtgmdmbmkljbgiaaGreatDoor
open Go.RowKit Go.Deep Go.Shelf

noncomputable def eqP (p q : Pr) : Bool := @decide (p = q) (Classical.propDecidable _)
theorem eqP_true {p q : Pr} : eqP p q = true ↔ p = q := by unfold eqP; simp
theorem eqP_self (p : Pr) : eqP p p = true := eqP_true.2 rfl
theorem eqP_ne {p q : Pr} (h : p ≠ q) : eqP p q = false := by
  cases e : eqP p q with
  | false => rfl
  | true => exact absurd (eqP_true.1 e) h
noncomputable def eqQ (p q : List Pr) : Bool := @decide (p = q) (Classical.propDecidable _)
theorem eqQ_true {p q : List Pr} : eqQ p q = true ↔ p = q := by unfold eqQ; simp
theorem eqQ_ne {p q : List Pr} (h : p ≠ q) : eqQ p q = false := by
  cases e : eqQ p q with
  | false => rfl
  | true => exact absurd (eqQ_true.1 e) h
/-- What is asked of a function that compares two processes in memory. -/
def SameP (f : Nat) (B : Nat → Prop) (p : Pr) : Prop := ∀ (q : Pr) (b o b' o' : Nat) (w : World), Low B w → PrAt B w p b o → PrAt B w q b' o' → Calls Tryz.prog f #[.pointer (some ⟨b, o, none⟩), .pointer (some ⟨b', o', none⟩)] w fun e w' => e = .returned (.bool (eqP p q)) ∧ Below w.heap.size w w'

end Go.Proofs.YtgmdmbmkljbgiaaGreatDoor

/- Processes: Prefix and Same. -/
namespace Go.Proofs.YtgmdmbmkljbgiaaGreatDoor
open Go.RowKit Go.Deep Go.Shelf

theorem pprefix_any (B : Nat → Prop) (p : Pr) (v : Value) (w : World) (hv : PrVal B w v p) :
    Calls Tryz.prog 63 #[v] w fun e w' => e = .returned (.bool (prefixB p.k)) ∧ Below w.heap.size w w' := by
  obtain ⟨lv, av, tl, tk, kv, rfl, _⟩ := hv
  have HP := Lib.hid (prefix_any p.k (w.alloc (cell12 p lv av tl tk kv)))
  obtain ⟨pb, hpb⟩ : ∃ b, prefixB p.k = b := ⟨_, rfl⟩
  rw [hpb] at HP ⊢
  clear hpb
  unfold prAgg
  go_enter Tryz.func63, Tryz.ntmps63
  go_wp2_with (go_at_call 96; refine HP.out.mono ?_; rintro e w2 ⟨rfl, rfl⟩)
  go_ret
  exact ⟨rfl, blkBelow w _ _⟩

end Go.Proofs.YtgmdmbmkljbgiaaGreatDoor

/- Processes: the reference's In. -/
namespace Go.Proofs.YtgmdmbmkljbgiaaGreatDoor
open Go.RowKit

set_option maxHeartbeats 1000000 in
theorem prin_any (B : Nat → Prop) (s : ByteArray) (v : Value) (ls : List ByteArray) (w : World) (h : StrSl B w v ls) :
    Calls Tryz.prog 16 #[.string s, v] w fun e w' => e = .returned (.bool (memB s ls)) ∧ w = w' := by
  obtain ⟨pa, len, c, rfl, hlen, hm, hget⟩ := h.open
  have HG := Lib.hid hget
  clear hget h
  go_enter Tryz.func16, Tryz.ntmps16
  go_wp2_with fail
  go_loop [5] (fun i => ∃ (j : Nat), i = .int .i64 j ∧ j ≤ len ∧ Hid (s ∉ ls.take j)) (fun i => len - (intOf i).toNat)
  case atStart => exact ⟨0, rfl, by omega, Lib.hid (by simp)⟩
  case round =>
    obtain ⟨j, rfl, hj, HT⟩ := hrel
    by_cases hlt : j < len
    · obtain ⟨x, hx⟩ : ∃ x, ls[j]? = some x := ⟨_, List.getElem?_eq_getElem (by rw [← hlen.out]; exact hlt)⟩
      obtain ⟨_, kb, ko, rfl, hkb, hc⟩ := HG.out j x hx
      by_cases he : x = s
      · subst he
        have hin : Hid (x ∈ ls) := Lib.hid (List.mem_of_getElem? hx)
        clear hx
        go_wp2_with fail
        go_ret
        exact ⟨ret_bool (memB_true.2 hin.out).symm, rfl⟩
      · have hn : Hid (s ∉ ls.take (j + 1)) := Lib.hid (by rw [take_snoc_get hx]; simp only [List.mem_append, List.mem_singleton, not_or]; exact ⟨HT.out, fun e => he e.symm⟩)
        have h1 := str_ne he
        have h2 : (x.toList == s.toList) = false := by simpa using h1
        clear hx he
        go_wp2_with fail
        go_round
        case rel => exact ⟨j + 1, by go_num, by omega, hn⟩
        case measure => simp [intOf]; omega
    · obtain rfl : j = len := by omega
      have hn : s ∉ ls := by have := HT.out; rwa [List.take_of_length_le (by rw [hlen.out]; exact Nat.le_refl _)] at this
      have HN := Lib.hid hn
      clear hn
      go_wp2_with fail
      go_ret
      exact ⟨ret_bool (memB_false HN.out).symm, rfl⟩

end Go.Proofs.YtgmdmbmkljbgiaaGreatDoor

/- Processes: binders. -/
namespace Go.Proofs.YtgmdmbmkljbgiaaGreatDoor
open Go.RowKit Go.Deep Go.Shelf

/-- The names that a node binds. -/
def Pr.bnd (p : Pr) : List ByteArray := if p.k = 3 then [p.x] else if p.k = 6 then [p.c, p.x] else []
theorem strSl_made {w W : World} (l : List ByteArray) (hb : Below (w.heap.size + 1) (w.alloc (.cells (l.map Value.string).toArray 9)) W) (hs : ∀ s ∈ l, s.size ≤ maxLen) (hl : l.length ≤ maxLen) :
    StrSl (Fresh w.heap.size W.heap.size) W (.slice (some ⟨w.heap.size, 0, none⟩) l.length l.length) l :=
  ⟨.inr ⟨_, _, _, rfl, ⟨Nat.le_refl _, by have := hb.size; rw [World.size_alloc] at this; omega⟩, Nat.le_refl _, fun j s hj => by rw [Nat.zero_add]; exact blk_cell hb j (by simp [hj])⟩, hl, hs⟩
end Go.Proofs.YtgmdmbmkljbgiaaGreatDoor

/- Programs: a datatype for them, and how they lie in memory. -/
namespace Go.Proofs.YtgmdmbmkljbgiaaGreatDoor
open Go.RowKit

structure Pm where
  n : ByteArray
  t : Ty
structure Df where
  n : ByteArray
  ms : List Pm
  b : Pr
structure Pg where
  ds : List Df
  m : Pr

/-- A parameter lies at cell o of block b. -/
def PmAt (B : Nat → Prop) (w : World) (a : Pm) (b o : Nat) : Prop := a.n.size ≤ maxLen ∧ w.cell? ⟨b, o, none⟩ = some (.string a.n) ∧ TyAt B w a.t b (o + 1)
theorem PmAt.keep {B : Nat → Prop} {w w' : World} (h : Keeps B w w') {a : Pm} {b o : Nat} (hb : B b) (ha : PmAt B w a b o) : PmAt B w' a b o := ⟨ha.1, h.cell hb ha.2.1, ha.2.2.keep h⟩
theorem PmAt.mono {B C : Nat → Prop} {w : World} (h : ∀ k, B k → C k) {a : Pm} {b o : Nat} (ha : PmAt B w a b o) : PmAt C w a b o := ⟨ha.1, ha.2.1, ha.2.2.mono h⟩
/-- A value that is a slice of parameters. -/
def PmSl (B : Nat → Prop) (w : World) (v : Value) (l : List Pm) : Prop :=
  (((∃ a c, v = .slice a 0 c) ∧ l = []) ∨ ∃ b o c, v = .slice (some ⟨b, o, none⟩) l.length c ∧ B b ∧ ∀ (j : Nat) (a : Pm), l[j]? = some a → PmAt B w a b (o + j * 7)) ∧ l.length ≤ maxLen
theorem PmSl.keep {B : Nat → Prop} {w w' : World} (h : Keeps B w w') {v : Value} {l : List Pm} (hv : PmSl B w v l) : PmSl B w' v l := by
  refine ⟨?_, hv.2⟩
  rcases hv.1 with h1 | ⟨b, o, c, h1, h2, h3⟩
  · exact .inl h1
  · exact .inr ⟨b, o, c, h1, h2, fun j a hj => PmAt.keep h h2 (h3 j a hj)⟩
theorem PmSl.mono {B C : Nat → Prop} {w : World} (h : ∀ k, B k → C k) {v : Value} {l : List Pm} (hv : PmSl B w v l) : PmSl C w v l := by
  refine ⟨?_, hv.2⟩
  rcases hv.1 with h1 | ⟨b, o, c, h1, h2, h3⟩
  · exact .inl h1
  · exact .inr ⟨b, o, c, h1, h _ h2, fun j a hj => PmAt.mono h (h3 j a hj)⟩
theorem PmSl.open {B : Nat → Prop} {w : World} {v : Value} {l : List Pm} (h : PmSl B w v l) :
    ∃ pa len c, v = .slice pa len c ∧ Hid (len = l.length) ∧ len ≤ 9223372036854775807 ∧ ∀ i a, l[i]? = some a → ∃ kb ko, pa = some ⟨kb, ko, none⟩ ∧ B kb ∧ PmAt B w a kb (ko + i * 7) := by
  obtain ⟨h, hm⟩ := h
  unfold maxLen at hm
  rcases h with ⟨⟨a, c, rfl⟩, rfl⟩ | ⟨kb, ko, c, rfl, hkb, hrow⟩
  · exact ⟨a, 0, c, rfl, Lib.hid rfl, by omega, fun i t hi => by simp at hi⟩
  · exact ⟨_, _, _, rfl, Lib.hid rfl, by omega, fun i t hi => ⟨kb, ko, rfl, hkb, hrow i t hi⟩⟩

/-- A definition lies at cell o of block b. -/
def DfAt (B : Nat → Prop) (w : World) (d : Df) (b o : Nat) : Prop := d.n.size ≤ maxLen ∧ w.cell? ⟨b, o, none⟩ = some (.string d.n) ∧ (∃ mv, w.cell? ⟨b, o + 1, none⟩ = some mv ∧ PmSl B w mv d.ms) ∧ PrAt B w d.b b (o + 2)
theorem DfAt.keep {B : Nat → Prop} {w w' : World} (h : Keeps B w w') {a : Df} {b o : Nat} (hb : B b) (ha : DfAt B w a b o) : DfAt B w' a b o := by
  obtain ⟨h1, h2, ⟨mv, h3, h4⟩, h5⟩ := ha
  exact ⟨h1, h.cell hb h2, ⟨mv, h.cell hb h3, h4.keep h⟩, PrAt.keep h _ _ _ h5⟩
theorem DfAt.mono {B C : Nat → Prop} {w : World} (h : ∀ k, B k → C k) {a : Df} {b o : Nat} (ha : DfAt B w a b o) : DfAt C w a b o := by
  obtain ⟨h1, h2, ⟨mv, h3, h4⟩, h5⟩ := ha
  exact ⟨h1, h2, ⟨mv, h3, h4.mono h⟩, PrAt.mono h _ _ _ h5⟩
/-- A value that is a slice of definitions. -/
def DfSl (B : Nat → Prop) (w : World) (v : Value) (l : List Df) : Prop :=
  (((∃ a c, v = .slice a 0 c) ∧ l = []) ∨ ∃ b o c, v = .slice (some ⟨b, o, none⟩) l.length c ∧ B b ∧ ∀ (j : Nat) (a : Df), l[j]? = some a → DfAt B w a b (o + j * 14)) ∧ l.length ≤ maxLen
theorem DfSl.keep {B : Nat → Prop} {w w' : World} (h : Keeps B w w') {v : Value} {l : List Df} (hv : DfSl B w v l) : DfSl B w' v l := by
  refine ⟨?_, hv.2⟩
  rcases hv.1 with h1 | ⟨b, o, c, h1, h2, h3⟩
  · exact .inl h1
  · exact .inr ⟨b, o, c, h1, h2, fun j a hj => DfAt.keep h h2 (h3 j a hj)⟩
theorem DfSl.mono {B C : Nat → Prop} {w : World} (h : ∀ k, B k → C k) {v : Value} {l : List Df} (hv : DfSl B w v l) : DfSl C w v l := by
  refine ⟨?_, hv.2⟩
  rcases hv.1 with h1 | ⟨b, o, c, h1, h2, h3⟩
  · exact .inl h1
  · exact .inr ⟨b, o, c, h1, h _ h2, fun j a hj => DfAt.mono h (h3 j a hj)⟩
theorem DfSl.open {B : Nat → Prop} {w : World} {v : Value} {l : List Df} (h : DfSl B w v l) :
    ∃ pa len c, v = .slice pa len c ∧ Hid (len = l.length) ∧ len ≤ 9223372036854775807 ∧ ∀ i a, l[i]? = some a → ∃ kb ko, pa = some ⟨kb, ko, none⟩ ∧ B kb ∧ DfAt B w a kb (ko + i * 14) := by
  obtain ⟨h, hm⟩ := h
  unfold maxLen at hm
  rcases h with ⟨⟨a, c, rfl⟩, rfl⟩ | ⟨kb, ko, c, rfl, hkb, hrow⟩
  · exact ⟨a, 0, c, rfl, Lib.hid rfl, by omega, fun i t hi => by simp at hi⟩
  · exact ⟨_, _, _, rfl, Lib.hid rfl, by omega, fun i t hi => ⟨kb, ko, rfl, hkb, hrow i t hi⟩⟩

/-- A program lies at cell o of block b. -/
def PgAt (B : Nat → Prop) (w : World) (g : Pg) (b o : Nat) : Prop := B b ∧ (∃ dv, w.cell? ⟨b, o, none⟩ = some dv ∧ DfSl B w dv g.ds) ∧ PrAt B w g.m b (o + 1)
theorem PgAt.keep {B : Nat → Prop} {w w' : World} (h : Keeps B w w') {g : Pg} {b o : Nat} (hg : PgAt B w g b o) : PgAt B w' g b o := by
  obtain ⟨hb, ⟨dv, h1, h2⟩, h3⟩ := hg
  exact ⟨hb, ⟨dv, h.cell hb h1, h2.keep h⟩, PrAt.keep h _ _ _ h3⟩
/-- A value that is a program. -/
def PgVal (B : Nat → Prop) (w : World) (v : Value) (g : Pg) : Prop :=
  ∃ dv lv av tl tk kv, v = .agg #[dv, .int .i64 g.m.k, .string g.m.c, .string g.m.x, lv, av, .int .i64 g.m.t.k, .int .i64 g.m.t.p, .string g.m.t.n, .int .i64 g.m.t.s, tl, tk, kv] ∧ DfSl B w dv g.ds ∧ PrVal B w (prAgg g.m lv av tl tk kv) g.m
theorem PgVal.keep {B : Nat → Prop} {w w' : World} (h : Keeps B w w') {v : Value} {g : Pg} (hv : PgVal B w v g) : PgVal B w' v g := by
  obtain ⟨dv, lv, av, tl, tk, kv, e, hd, hp⟩ := hv
  exact ⟨dv, lv, av, tl, tk, kv, e, hd.keep h, hp.keep h⟩
theorem PgVal.mono {B C : Nat → Prop} {w : World} (h : ∀ k, B k → C k) {v : Value} {g : Pg} (hv : PgVal B w v g) : PgVal C w v g := by
  obtain ⟨dv, lv, av, tl, tk, kv, e, hd, hp⟩ := hv
  exact ⟨dv, lv, av, tl, tk, kv, e, hd.mono h, hp.mono h⟩
theorem PgVal.to {B : Nat → Prop} {C : Nat} {w w' : World} (hBC : ∀ k, B k → k < C) (hb : Below C w w') {v : Value} {g : Pg} (hv : PgVal B w v g) : PgVal B w' v g := hv.keep (hb.keeps'.mono hBC)

end Go.Proofs.YtgmdmbmkljbgiaaGreatDoor
