/- Types: a value that is a type, anywhere in memory; the law's send and loop. -/
import Derived.Test.YtfmadgoieppmkaaDoorTySg
namespace Go.Proofs.YtfmadgoieppmkaaDoor
open Go.RowKit Go.Deep Go.Shelf

/-- A value is a type that lies in w. -/
def Lies (w : World) (v : Value) (t : Ty) : Prop := TyVal (fun k => k < w.heap.size) w v t
theorem Lies.to {w w' : World} {v : Value} {t : Ty} (h : Lies w v t) (hb : Below w.heap.size w w') : Lies w' v t :=
  TyVal.mono (fun _ hk => Nat.lt_of_lt_of_le hk hb.size) (TyVal.to (fun _ hk => hk) hb h)
theorem lies_low (w : World) : Low (fun k => k < w.heap.size) w := fun _ h => h
/-- A type is returned that lies in new memory and in B. -/
def TyIn (B : Nat → Prop) (w : World) (g : Ty) (e : Ending) (w' : World) : Prop :=
  ∃ la ln lc ka kn kc, e = .returned (.agg #[.int .i64 g.k, .int .i64 g.p, .string g.n, .int .i64 g.s, .slice la ln lc, .slice ka kn kc]) ∧
    TyVal (fun k => B k ∨ Fresh w.heap.size w'.heap.size k) w' (.agg #[.int .i64 g.k, .int .i64 g.p, .string g.n, .int .i64 g.s, .slice la ln lc, .slice ka kn kc]) g ∧ Below w.heap.size w w'
/-- A type is returned. -/
def TyOut (w : World) (g : Ty) (e : Ending) (w' : World) : Prop :=
  ∃ la ln lc ka kn kc, e = .returned (.agg #[.int .i64 g.k, .int .i64 g.p, .string g.n, .int .i64 g.s, .slice la ln lc, .slice ka kn kc]) ∧
    Lies w' (.agg #[.int .i64 g.k, .int .i64 g.p, .string g.n, .int .i64 g.s, .slice la ln lc, .slice ka kn kc]) g ∧ Below w.heap.size w w'
theorem TyRet.out {w : World} {g : Ty} {e : Ending} {w' : World} (h : TyRet w g e w') : TyOut w g e w' := by
  obtain ⟨la, ln, lc, ka, kn, kc, h1, h2, h3⟩ := h
  exact ⟨la, ln, lc, ka, kn, kc, h1, TyVal.mono (fun k hk => hk.2) h2, h3⟩

def tT : ByteArray := ⟨#[116]⟩
def e0 : ByteArray := ⟨#[]⟩
def leafT (k : Int) : Ty := .mk k 0 e0 0 [] []
def varT (s : Int) : Ty := .mk 9 0 tT s [] []
def sendT (p : Int) (r : Ty) : Ty := .mk 4 p e0 0 [] [leafT 1, r]
def loopT (p k : Int) : Ty := .mk 8 0 tT 0 [] [sendT p (varT k)]
def bareT : Ty := .mk 8 0 tT 0 [] [varT 0]

theorem nil_strs (B : Nat → Prop) (w : World) : StrSl B w (.slice none 0 0) [] := ⟨.inl ⟨⟨_, _, rfl⟩, rfl⟩, by simp [maxLen], fun s h => by cases h⟩
theorem nil_tys (B : Nat → Prop) (w : World) : TySl B w (.slice none 0 0) [] := ⟨.inl ⟨⟨_, _, rfl⟩, rfl⟩, by simp [maxLen]⟩
theorem val_leaf (B : Nat → Prop) (w : World) (k p s : Int) (n : ByteArray) (hn : n.size ≤ maxLen) : TyVal B w (.agg #[.int .i64 k, .int .i64 p, .string n, .int .i64 s, .slice none 0 0, .slice none 0 0]) (.mk k p n s [] []) :=
  ⟨_, _, rfl, hn, nil_strs _ _, nil_tys _ _⟩
theorem lies_leaf (w : World) (k p s : Int) (n : ByteArray) (hn : n.size ≤ maxLen) : Lies w (.agg #[.int .i64 k, .int .i64 p, .string n, .int .i64 s, .slice none 0 0, .slice none 0 0]) (.mk k p n s [] []) :=
  ⟨_, _, rfl, hn, nil_strs _ _, nil_tys _ _⟩
theorem lies_lies {w : World} {k p s : Int} {n : ByteArray} {lv kv : Value} {t : Ty} (h : Lies w (.agg #[.int .i64 k, .int .i64 p, .string n, .int .i64 s, lv, kv]) t) : t.k = k ∧ t.p = p ∧ t.n = n ∧ t.s = s ∧ n.size ≤ maxLen ∧ StrSl (fun k => k < w.heap.size) w lv t.ls ∧ TySl (fun k => k < w.heap.size) w kv t.ts := by
  obtain ⟨lv', kv', e, h1, h2, h3⟩ := h
  simp only [Value.agg.injEq, Array.mk.injEq, List.cons.injEq, Value.int.injEq, Value.string.injEq, and_true, true_and] at e
  obtain ⟨e1, e2, e3, e4, rfl, rfl⟩ := e
  exact ⟨e1.symm, e2.symm, e3.symm, e4.symm, by rw [e3]; exact h1, h2, h3⟩
theorem alloc_lt {w w2 : World} {o : Obj} (hb : Below (w.alloc o).heap.size (w.alloc o) w2) : w.heap.size < w2.heap.size := by
  have := hb.size; simp at this; omega
theorem cell_of {W : World} {b : Nat} {cs : Array Value} {t : TypeId} {fr : Nat × Nat} (h : W.heap[b]? = some (.cells cs t fr)) (j : Nat) : W.cell? ⟨b, j, none⟩ = cs[j]? := by simp [World.cell?, h]
/-- The cells of an int and another type. -/
def send12 (k p s : Int) (n : ByteArray) (lv kv : Value) : Array Value := #[.int .i64 1, .int .i64 0, .string ⟨#[]⟩, .int .i64 0, .slice none 0 0, .slice none 0 0, .int .i64 k, .int .i64 p, .string n, .int .i64 s, lv, kv]
theorem send_rest {B : Nat → Prop} {W : World} {p : Int} {r : Ty} {lv kv : Value} (hB : Low B W) (h : TyVal B W (.agg #[.int .i64 r.k, .int .i64 r.p, .string r.n, .int .i64 r.s, lv, kv]) r) :
    TyVal (fun k => B k ∨ k = W.heap.size) (W.alloc (.cells (send12 r.k r.p r.s r.n lv kv) 25)) (.agg #[.int .i64 4, .int .i64 p, .string ⟨#[]⟩, .int .i64 0, .slice none 0 0, .slice (some ⟨W.heap.size, 0, none⟩) 2 2]) (sendT p r) := by
  have hb := blkBelow W (send12 r.k r.p r.s r.n lv kv) 25
  have hw : TyVal (fun k => B k ∨ k = W.heap.size) _ _ _ := (h.to hB hb).mono (fun _ h => .inl h)
  have hc : ∀ (j : Nat) (v : Value), (send12 r.k r.p r.s r.n lv kv)[j]? = some v → (W.alloc (.cells (send12 r.k r.p r.s r.n lv kv) 25)).cell? ⟨W.heap.size, j, none⟩ = some v := fun j v hv => blk_cell (Below.refl _ _) j hv
  refine ⟨_, _, rfl, (by decide : (⟨#[]⟩ : ByteArray).size ≤ maxLen), nil_strs _ _, ⟨.inr ⟨W.heap.size, 0, 2, rfl, .inr rfl, ?_⟩, by simp [sendT, Ty.ts, maxLen]⟩⟩
  show TyAt _ _ (leafT 1) _ _ ∧ TyAt _ _ r _ _ ∧ True
  exact ⟨tyAt_of (.inr rfl) (hc 0 _ rfl) (hc 1 _ rfl) (hc 2 _ rfl) (hc 3 _ rfl) (hc 4 _ rfl) (hc 5 _ rfl) (val_leaf _ _ 1 0 0 e0 (by decide)), tyAt_of (.inr rfl) (hc 6 _ rfl) (hc 7 _ rfl) (hc 8 _ rfl) (hc 9 _ rfl) (hc 10 _ rfl) (hc 11 _ rfl) hw, trivial⟩

/-- A type that names one Kid in a block of its own. -/
theorem rec_val {B : Nat → Prop} {W : World} {k p s : Int} {n : ByteArray} {u : Ty} {lv kv : Value} (hn : n.size ≤ maxLen) (hB : Low B W) (h : TyVal B W (.agg #[.int .i64 u.k, .int .i64 u.p, .string u.n, .int .i64 u.s, lv, kv]) u) :
    TyVal (fun j => B j ∨ j = W.heap.size) (W.alloc (.cells #[.int .i64 u.k, .int .i64 u.p, .string u.n, .int .i64 u.s, lv, kv] 25)) (.agg #[.int .i64 k, .int .i64 p, .string n, .int .i64 s, .slice none 0 0, .slice (some ⟨W.heap.size, 0, none⟩) 1 1]) (.mk k p n s [] [u]) := by
  have hb := blkBelow W #[.int .i64 u.k, .int .i64 u.p, .string u.n, .int .i64 u.s, lv, kv] 25
  have hw : TyVal (fun j => B j ∨ j = W.heap.size) _ _ _ := (h.to hB hb).mono (fun _ h => .inl h)
  have hc : ∀ (j : Nat) (v : Value), #[.int .i64 u.k, .int .i64 u.p, .string u.n, .int .i64 u.s, lv, kv][j]? = some v → (W.alloc (.cells #[.int .i64 u.k, .int .i64 u.p, .string u.n, .int .i64 u.s, lv, kv] 25)).cell? ⟨W.heap.size, j, none⟩ = some v := fun j v hv => blk_cell (Below.refl _ _) j hv
  refine ⟨_, _, rfl, hn, nil_strs _ _, ⟨.inr ⟨W.heap.size, 0, 1, rfl, .inr rfl, ?_⟩, by simp [Ty.ts, maxLen]⟩⟩
  show TyAt _ _ u _ _ ∧ True
  exact ⟨tyAt_of (.inr rfl) (hc 0 _ rfl) (hc 1 _ rfl) (hc 2 _ rfl) (hc 3 _ rfl) (hc 4 _ rfl) (hc 5 _ rfl) hw, trivial⟩

set_option maxHeartbeats 1000000 in
set_option maxRecDepth 100000 in
theorem send_any (B : Nat → Prop) (p : Int) (r : Ty) (v : Value) (w : World) (hB : Low B w) (h : TyVal B w v r) : Calls Tryd.prog 44 #[.int .i64 p, v] w (TyIn B w (sendT p r)) := by
  have h' := h
  obtain ⟨lv, kv, rfl, hn, hl, hk⟩ := h'
  obtain ⟨pa, len, c, rfl, _, _, _⟩ := hk.open
  obtain ⟨la, ln, lc, rfl, _, _, _⟩ := hl.open
  have HL := Lib.hid h
  clear h hl hk hn
  go_enter Tryd.func44, Tryd.ntmps44
  go_wp2_with fail
  obtain ⟨W1, hW1⟩ : ∃ W1, ((w.alloc (.cells #[.int .i64 r.k, .int .i64 r.p, .string r.n, .int .i64 r.s, .slice la ln lc, .slice pa len c] 25)).alloc (.cells #[.int .i64 4, .int .i64 p, .string ⟨#[]⟩, .int .i64 0, .slice none 0 0, .slice (some ⟨w.heap.size + 1 + 1, 0, none⟩) 2 2] 25)) = W1 := ⟨_, rfl⟩
  rw [hW1]
  have hs : w.heap.size + 1 + 1 = W1.heap.size := by rw [← hW1]; simp
  have hb1 : Below w.heap.size w W1 := by rw [← hW1]; exact box2_below w _ _
  have hr := send_rest (p := p) (hB.le hb1.size) (HL.out.to hB hb1)
  have hbx := below_seq hb1 (blkBelow W1 (send12 r.k r.p r.s r.n (.slice la ln lc) (.slice pa len c)) 25)
  have k1 : (W1.alloc (.cells (send12 r.k r.p r.s r.n (.slice la ln lc) (.slice pa len c)) 25)).heap[w.heap.size + 1]? = some (.cells #[.int .i64 4, .int .i64 p, .string ⟨#[]⟩, .int .i64 0, .slice none 0 0, .slice (some ⟨w.heap.size + 1 + 1, 0, none⟩) 2 2] 25 (0, 0)) := by
    refine (Below.heap_alloc _ _ _ (by omega)).trans ?_
    rw [← hW1]
    have h := World.alloc_heap_new (w.alloc (.cells #[.int .i64 r.k, .int .i64 r.p, .string r.n, .int .i64 r.s, .slice la ln lc, .slice pa len c] 25)) (.cells #[.int .i64 4, .int .i64 p, .string ⟨#[]⟩, .int .i64 0, .slice none 0 0, .slice (some ⟨w.heap.size + 1 + 1, 0, none⟩) 2 2] 25)
    rw [World.size_alloc] at h
    exact h
  have hs2 : W1.heap.size < (W1.alloc (.cells (send12 r.k r.p r.s r.n (.slice la ln lc) (.slice pa len c)) 25)).heap.size := by simp
  have hr2 : TyVal (fun k => B k ∨ Fresh w.heap.size (W1.alloc (.cells (send12 r.k r.p r.s r.n (.slice la ln lc) (.slice pa len c)) 25)).heap.size k) _ _ _ := hr.mono (fun k h => h.imp id (fun e => ⟨by omega, by rw [e]; exact hs2⟩))
  rw [hs] at k1 ⊢
  have c0 := cell_of k1 0
  have c1 := cell_of k1 1
  have c2 := cell_of k1 2
  have c3 := cell_of k1 3
  have c4 := cell_of k1 4
  have c5 := cell_of k1 5
  simp at c0 c1 c2 c3 c4 c5
  unfold send12 at *
  generalize W1.alloc _ = W2 at *
  exact bodyPost_ret (v := .agg #[.int .i64 4, .int .i64 p, .string ⟨#[]⟩, .int .i64 0, .slice none 0 0, .slice (some ⟨W1.heap.size, 0, none⟩) 2 2]) (by simp [results, Tryd.results44, go_sem, c0, c1, c2, c3, c4, c5]) rfl ⟨_, _, _, _, _, _, rfl, hr2, hbx⟩

set_option maxHeartbeats 1000000 in
set_option maxRecDepth 100000 in
theorem loop_any (p k : Int) (w : World) : Calls Tryd.prog 43 #[.int .i64 p, .int .i64 k] w (TyOut w (loopT p k)) := by
  have HS : Hid (∀ W, Calls Tryd.prog 44 #[.int .i64 p, .agg #[.int .i64 9, .int .i64 0, .string ⟨#[116]⟩, .int .i64 k, .slice none 0 0, .slice none 0 0]] W fun e w' => ∃ la ln lc ka kn kc, e = .returned (.agg #[.int .i64 4, .int .i64 p, .string ⟨#[]⟩, .int .i64 0, .slice la ln lc, .slice ka kn kc]) ∧
      TyVal (fun k => False ∨ Fresh W.heap.size w'.heap.size k) w' (.agg #[.int .i64 4, .int .i64 p, .string ⟨#[]⟩, .int .i64 0, .slice la ln lc, .slice ka kn kc]) (sendT p (varT k)) ∧ Below W.heap.size W w') := Lib.hid (fun W => send_any (fun _ => False) p (varT k) (.agg #[.int .i64 9, .int .i64 0, .string ⟨#[116]⟩, .int .i64 k, .slice none 0 0, .slice none 0 0]) W (fun _ h => h.elim) (val_leaf _ W 9 0 k tT (by decide)))
  go_enter Tryd.func43, Tryd.ntmps43
  go_wp2_with (go_at_call 44; refine (HS.out _).mono ?_; rintro e w2 ⟨la, ln, lc, ka, kn, kc, rfl, hv2, hb2⟩; obtain ⟨⟨d0, d1, d2, d3, d4, d5⟩, hf6⟩ := ((Six.new w (.int .i64 0) (.int .i64 0) (.string ⟨#[]⟩) (.int .i64 0) (.slice none 0 0) (.slice none 0 0)).to hb2).cells; have hq2 := alloc_lt hb2; replace hv2 := Lib.hid hv2)
  have h6 := ((Six.new w (.int .i64 0) (.int .i64 0) (.string ⟨#[]⟩) (.int .i64 0) (.slice none 0 0) (.slice none 0 0)).to hb2).fill (.int .i64 8) (.int .i64 0) (.string ⟨#[116]⟩) (.int .i64 0) (.slice none 0 0) (.slice (some ⟨w2.heap.size, 0, none⟩) 1 1)
  have hsz : (w2.setCells w.heap.size 0 [.int .i64 8, .int .i64 0, .string ⟨#[116]⟩, .int .i64 0, .slice none 0 0, .slice (some ⟨w2.heap.size, 0, none⟩) 1 1]).heap.size = w2.heap.size := size_setCells _ _ _ _
  have hv5 : TyVal (fun k => False ∨ Fresh (w.heap.size + 1) w2.heap.size k) (w2.setCells w.heap.size 0 [.int .i64 8, .int .i64 0, .string ⟨#[116]⟩, .int .i64 0, .slice none 0 0, .slice (some ⟨w2.heap.size, 0, none⟩) 1 1]) (.agg #[.int .i64 4, .int .i64 p, .string ⟨#[]⟩, .int .i64 0, .slice la ln lc, .slice ka kn kc]) (sendT p (varT k)) := by
    have h := hv2.out
    rw [World.size_alloc] at h
    refine h.keep (fun j o hj ho _ => (heap_setCells_other (g := w.heap.size) ?_ _ _ _).trans ho)
    rcases hj with hj | hj
    · exact hj.elim
    · have := hj.1; omega
  have hb5 : Below w.heap.size w (w2.setCells w.heap.size 0 [.int .i64 8, .int .i64 0, .string ⟨#[116]⟩, .int .i64 0, .slice none 0 0, .slice (some ⟨w2.heap.size, 0, none⟩) 1 1]) := (below_seq (blkBelow w _ _) hb2).trans (below_setCells _ (Nat.le_refl _) _ _ _)
  rw [setCells6] at hsz hv5 hb5
  simp only [Nat.zero_add] at hsz hv5 hb5
  generalize (((((w2.setCell _ _).setCell _ _).setCell _ _).setCell _ _).setCell _ _).setCell _ _ = W5 at *
  rw [← hsz] at h6 ⊢
  have hr := rec_val (k := 8) (p := 0) (s := 0) (u := sendT p (varT k)) (lv := .slice la ln lc) (kv := .slice ka kn kc) (n := tT) (by decide) (fun j hj => hj.elim (fun h => h.elim) (fun h => by rw [hsz]; exact h.2) : Low (fun k => False ∨ Fresh (w.heap.size + 1) w2.heap.size k) W5) hv5
  have k6 := h6.to (blkBelow W5 #[.int .i64 4, .int .i64 p, .string ⟨#[]⟩, .int .i64 0, .slice la ln lc, .slice ka kn kc] 25)
  have hbx := hb5.trans ((blkBelow W5 #[.int .i64 4, .int .i64 p, .string ⟨#[]⟩, .int .i64 0, .slice la ln lc, .slice ka kn kc] 25).mono hb5.size)
  obtain ⟨⟨c0, c1, c2, c3, c4, c5⟩, _⟩ := k6.cells
  have hlt : W5.heap.size < (W5.alloc (.cells #[.int .i64 4, .int .i64 p, .string ⟨#[]⟩, .int .i64 0, .slice la ln lc, .slice ka kn kc] 25)).heap.size := by simp
  have hl : Lies (W5.alloc (.cells #[.int .i64 4, .int .i64 p, .string ⟨#[]⟩, .int .i64 0, .slice la ln lc, .slice ka kn kc] 25)) (.agg #[.int .i64 8, .int .i64 0, .string ⟨#[116]⟩, .int .i64 0, .slice none 0 0, .slice (some ⟨W5.heap.size, 0, none⟩) 1 1]) (loopT p k) := hr.mono (fun j hj => by
    rcases hj with (hj | hj) | hj
    · exact hj.elim
    · have := hj.2; omega
    · omega)
  clear h6 hv5 hr k6 hb2 hv2 d0 d1 d2 d3 d4 d5 hf6
  generalize W5.alloc _ = W6 at *
  exact bodyPost_ret (v := .agg #[.int .i64 8, .int .i64 0, .string ⟨#[116]⟩, .int .i64 0, .slice none 0 0, .slice (some ⟨W5.heap.size, 0, none⟩) 1 1]) (by simp [results, Tryd.results43, go_sem, c0, c1, c2, c3, c4, c5]) rfl ⟨_, _, _, _, _, _, rfl, hl, hbx⟩

end Go.Proofs.YtfmadgoieppmkaaDoor
