/- Heads: a range over a function whose body makes rows of its own; slices.Values, slices.AppendSeq. (and what follows from it) -/
import Derived.Test.YtjmnaibbljakaaaGreatDoorPu10
import Derived.Test.YtjmnaibbljakaaaGreatDoorPu9

/- Heads: a range over a function whose body makes rows of its own; slices.Values, slices.AppendSeq. -/
namespace Go.Proofs.YtjmnaibbljakaaaGreatDoor
open Go.RowKit Go.Deep Go.Shelf
attribute [local go_sem] Oper.semAt_some

/-- J abides whatever is done to one block from B on that is no cells, and new blocks. -/
def AbidesN {β : Type} (B : Nat) (J : β → World → Prop) : Prop :=
  ∀ s W W' row, J s W → W.grownBy W' row → (∀ r, row = some r → B ≤ r ∧ ∃ o : Obj, W.heap[r]? = some o ∧ o.isCells = false) → J s W'
theorem AbidesN.alloc {β : Type} {B : Nat} {J : β → World → Prop} (h : AbidesN B J) {s : β} {W : World} (o : Obj) (hs : J s W) : J s (W.alloc o) :=
  h s W _ none hs (World.grownBy_alloc W o none) (fun r e => by cases e)
theorem AbidesN.put {β : Type} {B : Nat} {J : β → World → Prop} (h : AbidesN B J) {s : β} {W : World} {l : Nat} (o : Obj) (hs : J s W) (hB : B ≤ l) {o' : Obj} (hl : W.heap[l]? = some o') (hc : o'.isCells = false) : J s (W.putObj l o) :=
  h s W _ (some l) hs (grownBy_putObj' W l o) (fun r e => by cases e; exact ⟨hB, o', hl, hc⟩)
theorem AbidesN.and {β : Type} {B : Nat} {J K : β → World → Prop} (h : AbidesN B J) (k : AbidesN B K) : AbidesN B (fun s W => J s W ∧ K s W) :=
  fun s A B' row hs hg hr => ⟨h s A B' row hs.1 hg hr, k s A B' row hs.2 hg hr⟩
theorem AbidesN.mono {β : Type} {B C : Nat} {J : β → World → Prop} (h : AbidesN B J) (hBC : B ≤ C) : AbidesN C J :=
  fun s A B' row hs hg hr => h s A B' row hs hg (fun r e => ⟨Nat.le_trans hBC (hr r e).1, (hr r e).2⟩)
theorem AbidesAll.toN {β : Type} {B : Nat} {J : β → World → Prop} (h : AbidesAll B J) : AbidesN B J := fun s A B' row hs hg hr => h s A B' row hs hg (fun r e => (hr r e).1)
theorem abidesN_block {β : Type} {B k : Nat} {o : Obj} (hk : k < B) : AbidesN B (fun (_ : β) W => W.heap[k]? = some o) := (abidesAll_block hk).toN

def TellsN {α : Type} (F : Fence) (n : Nat) (P : Program) (g : Nat) (lb : Array Value) (encs : α → Array Value) (Px : List α → α → World → Prop) (Kp : World → World → Prop) (S Sp : List α → Prop) (w : World) : Prop :=
  ∀ (l : Nat) (J Jx : List α → World → Prop) (W : World), Below w.heap.size w W → AbidesN W.heap.size J → AbidesN W.heap.size Jx →
    (∀ pre x W1, J pre W1 → Px pre x W1 → YieldAt F (n - 1) P l (encs x) W1 fun e W' =>
      (e = .returned (.bool true) ∧ J (pre ++ [x]) W' ∧ Kp W1 W') ∨ (e = .returned (.bool false) ∧ Jx (pre ++ [x]) W')) →
    J [] W →
    CallsIn F n P g (#[.func (.yield l) #[] #[]] ++ lb) W fun e W' => (∃ v, e = .returned v) ∧ ((∃ xs, S xs ∧ J xs W') ∨ (∃ pre, Sp pre ∧ Jx pre W'))

variable {F : Fence} {n : Nat} {P : Program}

theorem wpIn_range_toldN {α : Type} {g : Operand} {ps : Array Tmp} {assign body : Code} {Q : Exit → Act → World → Prop} {a : Act} {w : World}
    (hro : F.round = none) (h1 : 1 ≤ n) {gf : Nat} {lb : Array Value} (hg : a.eval g = .func (.func gf) #[] lb) (hFg : F.fn gf) (eg : ∀ args w, (callFunc gf args).run P w = .ok (.enter gf args) w)
    {encs : α → Array Value} {Px : List α → α → World → Prop} {Kp : World → World → Prop} {S Sp : List α → Prop} {w0 : World} (hseq : TellsN F (n - 1) P gf lb encs Px Kp S Sp w0)
    (hKt : ∀ {A B C : World}, Kp A B → Kp B C → Kp A C) (hKb : ∀ (W : World) (l : Nat) (o o' : Obj), w.heap.size ≤ l → W.heap[l]? = some o → o.isCells = false → o.isWalk = false → Kp W (W.putObj l o'))
    (hPx : ∀ pre x A B, CellsKept A B → Px pre x A → Px pre x B) (hb0 : Below w0.heap.size w0 w) (hps : ∀ x, (encs x).size = ps.size)
    (I : List α → World → Prop) (Ix : Code → List α → World → Prop) (hI : AbidesN w.heap.size I) (hIx : ∀ c, AbidesN w.heap.size (Ix c)) (h0 : I [] w) (Ax : α → Act → World → Prop) (hAx : ∀ x a' A B, CellsKept A B → Ax x a' A → Ax x a' B)
    (hassign : ∀ (l : Nat) (pre : List α) (x : α) (W : World) (K : Act → World → Prop), I pre W → Px pre x W → (∀ a' W', KeepsFrom w.heap.size W W' → Kp W W' → I pre W' → Px pre x W' → Ax x a' W' → K a' W') →
      assign.wpIn (F.inRound l) (n - 1 - 1) P (Exit.then K (fun _ _ _ => False)) { tmps := (ps.zip (encs x)).foldl (fun t (p, v) => t.setIfInBounds p v) a.tmps, defers := [] } W)
    (hbody : ∀ (l : Nat) (pre : List α) (x : α) (a' : Act) (W : World), w.heap.size ≤ l → (∃ r, W.heap[l]? = some (.loop r)) → I pre W → Px pre x W → Ax x a' W → body.wpIn (F.inRound l) (n - 1 - 1) P (ownPostG w.heap.size Kp I Ix (pre ++ [x]) W) a' W)
    (hdone : ∀ (D : Nat) (xs : List α) (W : World), w.heap.size ≤ D → S xs → I xs W → W.heap[D]? = some (.deferred (some [])) → Q .normal { a with defers := { target := .collected D, args := #[] } :: a.defers } W)
    (hstop : ∀ (D : Nat) (c : Code) (pre : List α) (W : World), w.heap.size ≤ D → Sp pre → Ix c pre W → W.heap[D]? = some (.deferred (some [])) → c.wpIn F n P Q { a with defers := { target := .collected D, args := #[] } :: a.defers } W) :
    (Code.rangeFunc g ps assign body).wpIn F n P Q a w := by
  refine wpIn_rangeFunc ?_
  intro fn hfn
  rw [hro]
  generalize hL : w.heap.size + 1 = L
  have hLw : w.heap.size < L := by omega
  let rec_ (st : LoopState) (pe : Option Code) : Loop := { state := st, pending := pe, fn, tmps := a.tmps, params := ps, assign, body, defers := w.heap.size }
  obtain ⟨W1, hW1⟩ : ∃ W1, (w.alloc (.deferred (some []))).alloc (.loop (rec_ .ready none)) = W1 := ⟨_, rfl⟩
  have hs1 : W1.heap.size = L + 1 := by rw [← hW1]; simp; omega
  have hL1 : W1.heap[L]? = some (.loop (rec_ .ready none)) := by
    have h := World.alloc_heap_new (w.alloc (.deferred (some []))) (.loop (rec_ .ready none))
    rw [World.size_alloc, hL, hW1] at h; exact h
  have hK1 : W1.heap[w.heap.size]? = some (.deferred (some [])) := by
    rw [← hW1]; exact (Below.heap_alloc _ _ _ (by simp)).trans (World.alloc_heap_new w _)
  have hI1 : I [] W1 := by rw [← hW1]; exact hI.alloc _ (hI.alloc _ h0)
  have hb1 : Below w0.heap.size w0 W1 := by
    rw [← hW1]; exact hb0.trans ((((Below.refl _ w).alloc (Nat.le_refl _) _).alloc (by simp) _).mono hb0.size)
  refine ⟨L, [{ target := .collected w.heap.size, args := #[] }], W1, { target := .fn (.func gf) lb, args := #[.func (.yield L) #[] #[]] }, W1, gf, #[.func (.yield L) #[] #[]] ++ lb, W1, ?_, ?_, ?_, ?_, fun _ => h1, ?_⟩
  · rw [← hW1, ← hL]; exact run_enterLoop_outer _ _ _ _ _
  · simp only [resolve, hg]
    simp [go_sem]
  · intro f' hf'; simp [Target.leads] at hf'; subst hf'; exact hFg
  · simp [invoke, go_sem, eg]
  refine (hseq L (fun pre W => I pre W ∧ W.heap[L]? = some (.loop (rec_ .ready none)) ∧ W.heap[w.heap.size]? = some (.deferred (some [])))
    (fun pre W => ∃ c, Ix c pre W ∧ W.heap[L]? = some (.loop (rec_ .done (some c))) ∧ W.heap[w.heap.size]? = some (.deferred (some []))) W1 hb1
    ((hI.mono (by omega)).and ((abidesN_block (by omega)).and (abidesN_block (by omega)))) ?_ ?_ ⟨hI1, hL1, hK1⟩).mono ?_
  · rintro s A B row ⟨c, hc⟩ hg' hr
    exact ⟨c, ((hIx c).mono (by omega)).and ((abidesN_block (by omega)).and (abidesN_block (by omega))) s A B row hc hg' hr⟩
  · -- one round
    rintro pre x W ⟨hi, hl, hk⟩ hpx
    have hy := run_yield (P := P) (args := encs x) hl (hps x)
    refine ⟨fn, _, assign, body, hy, roundIn_of_wpIn hfn (hassign _ pre x W _ hi hpx ?_)⟩
    clear hy
    intro a' V hkf hkp hiV hpV hax
    have hlV := hkf.same _ _ (by omega) hl rfl
    have hkV := hkf.same _ _ (Nat.le_refl _) hk rfl
    refine ⟨_, run_beginRound hlV rfl, ?_⟩
    have hl2 : (V.putObj L (.loop (rec_ .busy none))).heap[L]? = some (.loop (rec_ .busy none)) := World.putObj_heap_same (Array.getElem?_eq_some_iff.1 hlV).1
    have hk2 : (V.putObj L (.loop (rec_ .busy none))).heap[w.heap.size]? = some (.deferred (some [])) := (World.putObj_heap_other (by omega)).trans hkV
    have hp2 : Kp V (V.putObj L (.loop (rec_ .busy none))) := hKb _ _ _ _ (by omega) hlV rfl rfl
    refine wpIn_mono (hbody _ pre x a' _ (by omega) ⟨_, hl2⟩ (hI.put _ hiV (by omega) hlV rfl) (hPx pre x _ _ (cellsKept_put hlV rfl) hpV) (hAx x a' _ _ (cellsKept_put hlV rfl) hax)) ?_
    have fin : ∀ (jump : Option Code) (X : World), KeepsFrom w.heap.size (V.putObj L (.loop (rec_ .busy none))) X →
        (Instr.endRound L jump).run P X = .ok (.bool jump.isNone) (X.putObj L (.loop (rec_ (if jump.isNone then .ready else .done) jump))) ∧ X.heap[L]? = some (.loop (rec_ .busy none)) ∧
        (X.putObj L (.loop (rec_ (if jump.isNone then .ready else .done) jump))).heap[L]? = some (.loop (rec_ (if jump.isNone then .ready else .done) jump)) ∧
        (X.putObj L (.loop (rec_ (if jump.isNone then .ready else .done) jump))).heap[w.heap.size]? = some (.deferred (some [])) := fun jump X hX => by
      have h3 := hX.same _ _ (by omega) hl2 rfl
      exact ⟨run_endRound (P := P) jump h3, h3, World.putObj_heap_same (Array.getElem?_eq_some_iff.1 h3).1, (World.putObj_heap_other (by omega)).trans (hX.same _ _ (Nat.le_refl _) hk2 rfl)⟩
    rintro e a3 X hp
    cases e with
    | normal =>
      obtain ⟨hX, hkp3, hi3⟩ := hp
      obtain ⟨hr, hl3, hl4, hk4⟩ := fin none X hX
      exact ⟨_, _, hr, .inl ⟨rfl, ⟨hI.put _ hi3 (by omega) hl3 rfl, hl4, hk4⟩, hKt hkp (hKt (hKt hp2 hkp3) (hKb _ _ _ _ (by omega) hl3 rfl rfl))⟩⟩
    | ret =>
      obtain ⟨hX, hi3⟩ := hp
      obtain ⟨hr, hl3, hl4, hk4⟩ := fin (some .ret) X hX
      exact ⟨_, _, hr, .inr ⟨rfl, .ret, (hIx _).put _ hi3 (by omega) hl3 rfl, hl4, hk4⟩⟩
    | exit id =>
      obtain ⟨hX, hi3⟩ := hp
      obtain ⟨hr, hl3, hl4, hk4⟩ := fin (some (.exit id)) X hX
      exact ⟨_, _, hr, .inr ⟨rfl, .exit id, (hIx _).put _ hi3 (by omega) hl3 rfl, hl4, hk4⟩⟩
    | goto t =>
      obtain ⟨hX, hi3⟩ := hp
      obtain ⟨hr, hl3, hl4, hk4⟩ := fin (some (.goto t)) X hX
      exact ⟨_, _, hr, .inr ⟨rfl, .goto t, (hIx _).put _ hi3 (by omega) hl3 rfl, hl4, hk4⟩⟩
    | panic ch => exact hp.elim
    | outgrown => exact hp.elim
  · -- behind the iterator
    rintro e W2 ⟨⟨v, rfl⟩, (⟨xs, hS, hi, hl, hk⟩ | ⟨pre, hSp, c, hi, hl, hk⟩)⟩
    · exact ⟨none, _, run_endLoop (P := P) hl (by simp [rec_]), hdone _ xs _ (Nat.le_refl _) hS (hI.put _ hi (by omega) hl rfl) ((World.putObj_heap_other (by omega)).trans hk)⟩
    · exact ⟨some c, _, run_endLoop (P := P) hl (by simp [rec_]), hstop _ c pre _ (Nat.le_refl _) hSp ((hIx c).put _ hi (by omega) hl rfl) ((World.putObj_heap_other (by omega)).trans hk)⟩


/-! ### slices.Values -/
abbrev slO (ra : Option Addr) (rn rc : Nat) : Obj := .cells #[.slice ra rn rc] 22
set_option maxRecDepth 100000 in
set_option maxHeartbeats 4000000 in
/-- The iterator of values tells the values. -/
theorem vals_tells (n B0 bl : Nat) (ls : List ByteArray) (ra : Option Addr) (rn rc : Nat) (X : Nat → Prop) (w : World) (hX : ∀ k, X k → B0 ≤ k) (hB0 : B0 ≤ w.heap.size) (hbl : bl < B0)
    (hc : w.heap[bl]? = some (slO ra rn rc)) (hls : StrSl (fun k => k < B0) w (.slice ra rn rc) ls) (hrl : rn ≤ 1000000) :
    TellsN Fence.wide n Tryz.prog 78 #[.pointer (some ⟨bl, 0, none⟩)] (fun s : ByteArray => #[.string s]) (fun pre x _ => pre ++ [x] <+: ls) (Kp X) (fun ys => ys = ls) (fun pre => pre <+: ls) w := by
  intro l J Jx W hW hJ _ hY h0
  have hY' : ∀ m pre x W1, J pre W1 → pre ++ [x] <+: ls → YieldAt Fence.wide m Tryz.prog l #[.string x] W1 fun e W' => (e = .returned (.bool true) ∧ J (pre ++ [x]) W' ∧ Kp X W1 W') ∨ (e = .returned (.bool false) ∧ Jx (pre ++ [x]) W') :=
    fun m pre x W1 hj hpx => yield_any rfl m (hY pre x W1 hj hpx)
  have hkW : Keeps (fun k => k < B0) w W := hW.keeps'.mono (fun k hk => Nat.lt_of_lt_of_le hk hB0)
  obtain ⟨_, _, _, e, hrn, _, hget⟩ := (hls.keep hkW).open
  simp only [Value.slice.injEq] at e
  obtain ⟨rfl, rfl, rfl⟩ := e
  have hcW : W.heap[bl]? = some (slO ra rn rc) := (hW.block _ (by omega)).trans hc
  have hkv : ∀ V, Kp X W V → Keeps (fun k => k < B0) W V := fun V h => h.keeps (fun k hk => ⟨fun hx => by have := hX k hx; omega, by simp [Value.ownBlock]⟩)
  have HCELL : Hid (∀ V, Kp X W V → ∀ i r, ls[i]? = some r → ∃ b o, ra = some ⟨b, o, none⟩ ∧ V.cell? ⟨b, o + i, none⟩ = some (.string r)) := Lib.hid (fun V hV i r hi => by
    obtain ⟨_, b, o, e, hb, h0⟩ := hget i r hi
    exact ⟨b, o, e, (hkv V hV).cell hb h0⟩)
  have c0 : W.cell? ⟨bl, 0, none⟩ = some (.slice ra rn rc) := by simp [World.cell?, hcW]
  have HY := Lib.hid hY'
  have H0 := Lib.hid h0
  have HRN := Lib.hid hrn.out
  have HJ := Lib.hid hJ
  clear hY hY' h0 hW hkW hget hcW hkv hls hc hrn hJ
  refine callsIn_of_wp Tryz.func78 rfl trivial ?_ rfl
  simp only [Tryz.ntmps78, List.size_toArray, List.length_cons, List.length_nil, Nat.reduceAdd, Nat.reduceSub, Array.replicate_succ, Array.replicate_zero, List.push_toArray, List.append_toArray, List.nil_append, List.cons_append]
  gi_wp2_with fail
  gi_loopw [7] (fun i wr => ∃ (j : Nat), i = .int .i64 j ∧ j ≤ rn ∧ Hid (J (ls.take j) wr) ∧ Hid (Kp X W wr)) (fun i _ => rn - (intOf i).toNat)
  case atStart => exact ⟨0, rfl, by omega, Lib.hid (by simpa using H0.out), Lib.hid (KV.refl _ _ _)⟩
  case round =>
    obtain ⟨j, rfl, hj, HJJ, HKV⟩ := hrel
    by_cases hlt : j < rn
    · obtain ⟨r, hr⟩ : ∃ r, ls[j]? = some r := ⟨_, List.getElem?_eq_getElem (by rw [← HRN.out]; exact hlt)⟩
      obtain ⟨b, o, rfl, r0⟩ := HCELL.out wr HKV.out j r hr
      have HTK := Lib.hid (take_snoc_get hr)
      obtain ⟨fn, tmps, assign, body, hy, hR⟩ := HY.out (n - 1) (ls.take j) r wr HJJ.out (by rw [← HTK.out]; exact List.take_prefix _ _)
      have HR := Lib.hid hR
      clear hr hR
      gi_wp2_with fail
      refine ⟨fun h => (by cases h), HR.out.mono ?_⟩
      rintro e w7 (⟨rfl, hj7, hk7⟩ | ⟨rfl, hx7⟩)
      · have HJ7 := Lib.hid hj7
        have HK7 := Lib.hid (HKV.out.trans hk7)
        clear hj7 hk7 hy
        gi_wp2_with fail
        refine ⟨⟨j + 1, by go_num, by omega, Lib.hid (by rw [HTK.out]; exact HJ7.out), HK7⟩, ?_⟩
        simp [intOf]; omega
      · have HX7 := Lib.hid hx7
        have HPF : Hid (ls.take j ++ [r] <+: ls) := Lib.hid (by rw [← HTK.out]; exact List.take_prefix _ _)
        clear hx7 hy
        gi_wp2_with fail
        exact bodyPost_ret (results_none rfl _ _ _) rfl ⟨⟨_, rfl⟩, .inr ⟨_, HPF.out, HX7.out⟩⟩
    · obtain rfl : j = rn := by omega
      have HQ : Hid (ls.take j = ls) := Lib.hid (List.take_of_length_le (by rw [HRN.out]; exact Nat.le_refl _))
      gi_wp2
      go_end0
      exact ⟨⟨_, rfl⟩, .inl ⟨_, HQ.out, HJJ.out⟩⟩

/-! ### slices.AppendSeq, at nil -/
theorem wpListIn_appG {F : Fence} {n : Nat} {sl el : TypeId} {sz base : Nat} {v : Value} {es : List (List Value)} {ops : Array Oper} {rest : List Oper} {o : Oper} {a : Act} {w : World} {Q : Exit → Act → World → Prop} (I : ElemOf sl el sz) (hgd : o.guard = none) (s x : Operand)
    (ho : o.op = .call { callee := .builtin .append, args := #[s, x], argTypes := #[sl, sl] })
    (hs : a.eval s = v) (h : GRow el sz base w v es) (na : Option Addr) (nn nc : Nat) (news : List (List Value)) (hx : a.eval x = .slice na nn nc) (hnn : nn = news.length) (hlen : ∀ e ∈ news, e.length = sz) (hsrc : RowSrc sz w na news) (hone : ∀ e ∈ news, ∀ u ∈ e, u.oneCell' = true) (h63 : es.length + news.length ≤ 1000000000) (hbase : base ≤ w.heap.size)
    (hk : ∀ ga gn gc w', GRow el sz base w' (.slice ga gn gc) (es ++ news) → w.grownBy w' v.ownBlock → ((Value.slice ga gn gc).ownBlock = v.ownBlock ∨ (Value.slice ga gn gc).ownBlock = some w.heap.size) → wpListIn F n Tryz.prog ops Q rest (a.put o.dst (.slice ga gn gc)) w') : wpListIn F n Tryz.prog ops Q (o :: rest) a w := by
  refine wpListIn_plain hgd fun K hK => ?_
  obtain ⟨ga, gn, gc, w', hr, h2, h3, h4⟩ := run_appG I o.type h na nn nc news hnn hlen hsrc hone h63 hbase
  unfold Oper.wpIn
  refine ⟨?_, ?_⟩
  · simp [Oper.about, ho, resolve, Target.leads, Sem.run_pure]
  · rw [Oper.semAt_plain F _ _ (by rw [ho]; intro c hc'; cases hc')]
    simp only [execOp, ho, resolve, invoke, builtin, Sem.run_bind, Sem.run_pure, Result.andThen_ok, List.map_toArray, List.map_cons, List.map_nil, hs, hx, hr]
    exact hK _ _ (hk ga gn gc w' h2 h3 h4)
theorem slO_lt {W : World} {b : Nat} {ra : Option Addr} {rn rc : Nat} (h : W.heap[b]? = some (slO ra rn rc)) : b < W.heap.size := (Array.getElem?_eq_some_iff.1 h).1
theorem app_abides (w : World) (B : Nat) (hB : w.heap.size + 1 ≤ B) : AbidesN B (fun (pre : List ByteArray) W => ∃ a n c, W.heap[w.heap.size]? = some (slO a n c) ∧ GRow 9 1 (w.heap.size + 1) W (.slice a n c) (pre.map strCells) ∧ Below w.heap.size w W) := by
  rintro s W W' row ⟨a, n, c, h1, h2, h3⟩ hg hr
  refine ⟨a, n, c, (hg.block _ (slO_lt h1) (fun e => by have := (hr _ e.symm).1; omega)).trans h1, h2.kept (fun k hk => hg.block k (h2.lt k hk).2 (fun e => ?_)), h3.grown hg h3.size (fun k e => by have := (hr k e).1; omega)⟩
  obtain ⟨cs, hc⟩ := h2.obj hk
  obtain ⟨_, o, ho, hn⟩ := hr k e.symm
  rw [hc] at ho
  cases ho
  cases hn
set_option maxRecDepth 100000 in
set_option maxHeartbeats 4000000 in
theorem appendSeq_in (n : Nat) (hn : 3 ≤ n) (bl : Nat) (ls : List ByteArray) (ra : Option Addr) (rn rc : Nat) (w : World) (hbl : bl < w.heap.size)
    (hc : w.heap[bl]? = some (slO ra rn rc)) (hls : StrSl (fun k => k < w.heap.size) w (.slice ra rn rc) ls) (hlen : ls.length ≤ 1000000) (hrl : rn ≤ 1000000) :
    CallsIn Fence.wide n Tryz.prog 89 #[.slice none 0 0, .func (.func 78) #[] #[.pointer (some ⟨bl, 0, none⟩)]] w fun e w' => ∃ a m c, e = .returned (.slice a m c) ∧ GRow 9 1 (w.heap.size + 1) w' (.slice a m c) (ls.map strCells) ∧ Below w.heap.size w w' := by
  have h1 : 1 ≤ n := by omega
  obtain ⟨W1, hW1⟩ : ∃ W1, w.alloc (slO none 0 0) = W1 := ⟨_, rfl⟩
  have hb0 : Below w.heap.size w W1 := by rw [← hW1]; exact blkBelow w _ _
  have x0 : W1.heap[w.heap.size]? = some (slO none 0 0) := by rw [← hW1]; exact World.alloc_heap_new _ _
  have hs1 : W1.heap.size = w.heap.size + 1 := by rw [← hW1]; simp
  refine callsIn_of_wp_marks Tryz.func89 rfl trivial ?_ rfl
  simp only [Tryz.ntmps89, List.size_toArray, List.length_cons, List.length_nil, Nat.reduceAdd, Nat.reduceSub, Array.replicate_succ, Array.replicate_zero, List.push_toArray, List.append_toArray, List.nil_append, List.cons_append]
  gi_wp2_with fail
  clear hW1
  refine wpIn_range_toldN rfl h1 (gf := 78) (lb := #[.pointer (some ⟨bl, 0, none⟩)]) rfl trivial (enters_of Tryz.func78 (by kernel_rfl) rfl)
    (vals_tells (n - 1) w.heap.size bl ls ra rn rc (fun k => w.heap.size ≤ k) W1 (fun k hk => hk) (by omega) hbl ((hb0.block _ hbl).trans hc) (hls.keep (hb0.keeps'.mono (fun k hk => hk))) hrl) (fun h g => KV.trans h g) (fun W l o o' _ h ho _ => KV.of_cells (by simp) (cellsKept_put h ho)) (fun _ _ _ _ _ h => h) (Below.refl _ _) (fun _ => rfl)
    (fun pre W => ∃ a n c, W.heap[w.heap.size]? = some (slO a n c) ∧ GRow 9 1 (w.heap.size + 1) W (.slice a n c) (pre.map strCells) ∧ Below w.heap.size w W) (fun _ _ _ => False)
    (app_abides w _ (by omega)) (fun _ _ _ _ _ h _ _ => h) ⟨_, _, _, x0, GRow.nil _ _ _ _, hb0⟩
    (fun x a' _ => a' = { tmps := #[.slice none 0 0, .func (.func 78) #[] #[.pointer (some ⟨bl, 0, none⟩)], .pointer (some ⟨w.heap.size, 0, none⟩), undef, .slice none 0 0, .string x, .func (.func 78) #[] #[.pointer (some ⟨bl, 0, none⟩)], .string x, undef, undef, undef, undef, undef], defers := [] }) (fun _ _ _ _ _ h => h) ?assign ?body ?done ?stop
  case assign =>
    intro l pre x W K hi hp hK
    gi_wp2
    exact hK _ _ (KeepsFrom.refl _ _) (KV.refl _ _ _) hi hp (by first | rfl | simp)
  case body =>
    rintro l pre x a' W hl' _ ⟨a, m, c, hb, hr, hbw⟩ hpx rfl
    have c0 : W.cell? ⟨w.heap.size, 0, none⟩ = some (.slice a m c) := by simp [World.cell?, hb]
    have hpl : pre.length + 1 ≤ ls.length := by have := hpx.length_le; simpa using this
    have HB := Lib.hid hb
    have HR := Lib.hid hr
    have HBW := Lib.hid hbw
    have HPL := Lib.hid hpl
    have hw1 : w.heap.size + 1 ≤ W.heap.size := slO_lt hb
    clear hb hr hbw hpx hpl
    gi_wp2_with (gi_at_builtin; refine wpListIn_appG gstrElem rfl _ _ rfl rfl (HR.out.alloc _) (some ⟨W.heap.size, 0, none⟩) 1 1 [strCells x] rfl rfl ?_ ?_ ?_ ?_ ?_ ?_)
    · intro e he; rw [List.mem_singleton.1 he]; rfl
    · exact src_new W (strCells x) _
    · intro e he u hu
      rw [List.mem_singleton.1 he] at hu
      simp only [strCells, List.mem_cons, List.not_mem_nil, or_false] at hu
      subst hu; rfl
    · have := HPL.out
      simp only [List.length_map, List.length_singleton]; omega
    · rw [World.size_alloc]; omega
    intro ga gn gc w6 hr6 hg6 hq6
    have h6s := hg6.size
    rw [World.size_alloc] at h6s
    have hown : ∀ k, (Value.slice a m c).ownBlock = some k → w.heap.size + 1 ≤ k := fun k hk => (HR.out.lt k hk).1
    have hk6 : ∀ k, k < W.heap.size → some k ≠ (Value.slice a m c).ownBlock → w6.heap[k]? = W.heap[k]? := fun k hk hn => (hg6.block k (by rw [World.size_alloc]; omega) hn).trans (Below.heap_alloc _ _ _ hk)
    have hb6 : w6.heap[w.heap.size]? = some (slO a m c) := (hk6 _ (by omega) (fun e => by have := hown _ e.symm; omega)).trans HB.out
    have c6 : w6.cell? ⟨w.heap.size, 0, none⟩ = some (.slice a m c) := by simp [World.cell?, hb6]
    have f6 : w6.frozen? ⟨w.heap.size, 0, none⟩ = false := frozen_of_block hb6 0
    have HR6 := Lib.hid hr6
    have HB6 := Lib.hid hb6
    have HK6 := Lib.hid hk6
    have HG6 := Lib.hid hg6
    have HO := Lib.hid hown
    clear hr6 hb6 hk6 hg6 hq6 hown c0
    gi_wp2_with fail
    clear c6 f6
    have hst : ∀ k, k ≠ w.heap.size → (w6.setCell ⟨w.heap.size, 0, none⟩ (.slice ga gn gc)).heap[k]? = w6.heap[k]? := fun k hk => set_oth _ _ _ hk
    have hsz : (w6.setCell ⟨w.heap.size, 0, none⟩ (.slice ga gn gc)).heap.size = w6.heap.size := by simp [World.setCell]
    have hbe : Below w.heap.size W (w6.setCell ⟨w.heap.size, 0, none⟩ (.slice ga gn gc)) := ((((Below.refl w.heap.size W).alloc (by omega) _).grown HG6.out (by rw [World.size_alloc]; omega) (fun k hk => by have := HO.out k hk; omega)).setCell (p := ⟨w.heap.size, 0, none⟩) (Nat.le_refl _) _)
    refine ⟨⟨hbe.size, fun k o hlo hk hc => ?_⟩, ⟨hbe.size, fun k o hk hc hx _ => (hbe.block k (by omega)).trans hk⟩, ga, gn, gc, set_block HB6.out 0 _, ?_, HBW.out.trans hbe⟩
    · have hkl := (Array.getElem?_eq_some_iff.1 hk).1
      refine (hst k (by omega)).trans ((HK6.out k hkl (fun e => ?_)).trans hk)
      obtain ⟨cs, hcs⟩ := HR.out.obj e.symm
      rw [hk] at hcs
      cases hcs
      cases hc
    · have h := HR6.out.kept (W' := w6.setCell ⟨w.heap.size, 0, none⟩ (.slice ga gn gc)) (fun k hk => hst k (by have := (HR6.out.lt k hk).1; omega))
      rw [List.map_append]; exact h
  case done =>
    rintro D ys W hD hys ⟨a, m, c, hb, hr, hbw⟩ hK
    subst hys
    have c0 : W.cell? ⟨w.heap.size, 0, none⟩ = some (.slice a m c) := by simp [World.cell?, hb]
    have HK := Lib.hid hK
    have HBW := Lib.hid hbw
    have HR := Lib.hid hr
    clear hb hr hK hbw
    gi_wp2_with fail
    have hk : W.heap[D]? = some (.deferred (some [])) := HK.out
    refine ⟨by simp, .inl ⟨_, _, rfl, run_takeDeferred hk, ?_⟩⟩
    refine ⟨.slice a m c, by simp [results, Tryz.results89, go_sem], a, m, c, rfl, ?_, HBW.out.trans (belowK_b (w := w) (Nat.le_refl _) W D _ _ (by omega) hk rfl rfl)⟩
    exact HR.out.kept (fun k hk' => World.putObj_heap_other (fun e => by subst e; obtain ⟨cs, hcs⟩ := HR.out.obj hk'; rw [hk] at hcs; cases hcs))
  case stop =>
    rintro D c pre W _ _ h _
    exact h.elim
end Go.Proofs.YtjmnaibbljakaaaGreatDoor

/- Equality: substitution in types, and what a reference of a graph stands for. -/
namespace Go.Proofs.YtjmnaibbljakaaaGreatDoor

theorem raise_raise (a b : Int) : ∀ t : Ty, (t.raise a).raise b = t.raise (a + b) := by
  refine Ty.ind ?_
  intro k p n s ls ts ih
  simp only [Ty.raise, Ty.raises_map, List.map_map]
  congr 1
  · cases actB k <;> simp [Int.add_assoc]
  · exact List.map_congr_left fun t ht => ih t ht
theorem put_raise (nm : ByteArray) (j : Int) : ∀ (t b : Ty), (Ty.put nm b t).raise j = Ty.put nm (b.raise j) (t.raise j) := by
  refine Ty.ind ?_
  intro k p n s ls ts ih b
  rw [Ty.put, putC, Ty.raise, Ty.put, putC]
  by_cases h9 : k = 9 ∧ n = nm
  · rw [if_pos h9, if_pos h9, raise_raise, raise_raise, Int.add_comm]
  · rw [if_neg h9, if_neg h9]
    by_cases h8 : k = 8 ∧ n = nm
    · rw [if_pos h8, if_pos h8, Ty.raise]
    · rw [if_neg h8, if_neg h8, Ty.raise]
      congr 1
      rw [Ty.puts_map, Ty.puts_map, Ty.raises_map, Ty.raises_map, List.map_map, List.map_map]
      exact List.map_congr_left fun t ht => ih t ht b
theorem raise_rc (j : Int) : ∀ t : Ty, (t.raise j).rc = t.rc := by
  refine Ty.ind ?_
  intro k p n s ls ts ih
  rw [Ty.raise, Ty.rc, Ty.rc]
  match ts, ih with
  | [], _ => rw [Ty.raises]
  | t :: r, ih => rw [Ty.raises, Ty.rc1, Ty.rc1, ih t (by simp)]
theorem raise_unf (j : Int) : ∀ (f : Nat) (t : Ty), (t.unf f).raise j = (t.raise j).unf f
  | 0, t => by rw [Ty.unf, Ty.unf]
  | f + 1, .mk k p n s ls ts => by
    by_cases h8 : k = 8
    · subst h8
      match ts with
      | [] => rw [Ty.unf, if_pos rfl, Ty.raise, Ty.raises, Ty.unf, if_pos rfl]
      | b :: r =>
        rw [Ty.unf, if_pos rfl, Ty.raise, Ty.raises, Ty.unf, if_pos rfl]
        rw [raise_unf j f, put_raise, Ty.raise, Ty.raises]
    · match ts with
      | [] => rw [Ty.unf, if_neg h8, Ty.raise, Ty.raises, Ty.unf, if_neg h8]
      | b :: r => rw [Ty.unf, if_neg h8, Ty.raise, Ty.raises, Ty.unf, if_neg h8]
/-- A type, unfolded. -/
def unfT (t : Ty) : Ty := t.unf t.rc
theorem raise_unfT (j : Int) (t : Ty) : unfT (t.raise j) = (unfT t).raise j := by
  rw [unfT, raise_rc, unfT, raise_unf]

/-! ### Substitution for all names at once -/
def dropS (σ : ByteArray → Option Ty) (n : ByteArray) : ByteArray → Option Ty := fun x => if n = x then none else σ x
def setS (σ : ByteArray → Option Ty) (n : ByteArray) (R : Ty) : ByteArray → Option Ty := fun x => if n = x then some R else σ x
mutual
def Ty.sub (σ : ByteArray → Option Ty) : Ty → Ty
  | .mk k p n s ls ts => if k = 9 then (match σ n with | some R => R.raise s | none => .mk k p n s ls ts) else if k = 8 then .mk k p n s ls (Ty.subs (dropS σ n) ts) else .mk k p n s ls (Ty.subs σ ts)
def Ty.subs (σ : ByteArray → Option Ty) : List Ty → List Ty
  | [] => []
  | t :: r => t.sub σ :: Ty.subs σ r
end
theorem subs_map (σ : ByteArray → Option Ty) : ∀ ts : List Ty, Ty.subs σ ts = ts.map (Ty.sub σ)
  | [] => rfl
  | t :: r => by rw [Ty.subs, List.map_cons, subs_map σ r]
/-- A type in which nothing is free. -/
def Inert (t : Ty) : Prop := ∀ x R, Ty.put x R t = t
theorem Inert.raise {t : Ty} (h : Inert t) (s : Int) : Inert (t.raise s) := by
  intro x R
  have h1 := put_raise x s t (R.raise (-s))
  rw [h x, raise_raise, show -s + s = 0 by omega, Ty.raise_0] at h1
  exact h1.symm
theorem put_sub (x : ByteArray) (R : Ty) : ∀ (b : Ty) (σ : ByteArray → Option Ty), b.okg → (∀ y S, σ y = some S → Inert S) → Ty.put x R (b.sub (dropS σ x)) = b.sub (setS σ x R) := by
  refine Ty.ind ?_
  intro k p n s ls ts ih σ hok hσ
  simp only [Ty.okg] at hok
  rw [Ty.sub, Ty.sub]
  by_cases h9 : k = 9
  · rw [if_pos h9, if_pos h9]
    by_cases hn : x = n
    · subst hn
      simp only [dropS, setS, if_true]
      rw [Ty.put, putC, if_pos ⟨h9, rfl⟩]
    · simp only [dropS, setS, if_neg hn]
      cases hs : σ n with
      | some S => exact (hσ n S hs).raise s x R
      | none =>
        simp only
        rw [Ty.put, putC, if_neg (fun h => hn h.2.symm), if_neg (fun h => hn h.2.symm), hok.2.2.1 h9, Ty.puts]
  · rw [if_neg h9, if_neg h9]
    have hoks := Ty.okgs_mem hok.2.2.2.2
    by_cases h8 : k = 8
    · rw [if_pos h8, if_pos h8, Ty.put, putC, if_neg (fun h => h9 h.1)]
      by_cases hn : n = x
      · subst hn
        rw [if_pos ⟨h8, rfl⟩]
        congr 2
        funext y
        simp only [dropS, setS]
        split <;> rfl
      · rw [if_neg (fun h => hn h.2)]
        congr 1
        rw [Ty.puts_map, subs_map, subs_map, List.map_map]
        refine List.map_congr_left fun t ht => ?_
        have h1 := ih t ht (dropS σ n) (hoks t ht) (fun y S hy => hσ y S (by
          simp only [dropS] at hy
          split at hy
          · cases hy
          · exact hy))
        have e1 : dropS (dropS σ n) x = dropS (dropS σ x) n := by
          funext y
          simp only [dropS]
          split <;> split <;> rfl
        have e2 : setS (dropS σ n) x R = dropS (setS σ x R) n := by
          funext y
          simp only [dropS, setS]
          by_cases h1 : x = y
          · rw [if_pos h1, if_pos h1, if_neg (fun h => hn (h.trans h1.symm))]
          · rw [if_neg h1, if_neg h1]
        rw [e1, e2] at h1
        exact h1
    · rw [if_neg h8, if_neg h8, Ty.put, putC, if_neg (fun h => h9 h.1), if_neg (fun h => h8 h.1)]
      congr 1
      rw [Ty.puts_map, subs_map, subs_map, List.map_map]
      exact List.map_congr_left fun t ht => ih t ht σ (hoks t ht) hσ
mutual
/-- The names that are free are among some. -/
def Ty.cov (D : ByteArray → Prop) : Ty → Prop
  | .mk k _ n _ _ ts => if k = 9 then D n else if k = 8 then Ty.covs (fun x => n = x ∨ D x) ts else Ty.covs D ts
def Ty.covs (D : ByteArray → Prop) : List Ty → Prop
  | [] => True
  | t :: r => t.cov D ∧ Ty.covs D r
end
theorem covs_mem {D : ByteArray → Prop} : ∀ {ts : List Ty}, Ty.covs D ts → ∀ t ∈ ts, t.cov D
  | [], _, _, h => by cases h
  | u :: r, h, t, ht => by
    rw [Ty.covs] at h
    rcases List.mem_cons.1 ht with rfl | ht
    · exact h.1
    · exact covs_mem h.2 t ht
theorem sub_still (x : ByteArray) (R : Ty) : ∀ (u : Ty) (D : ByteArray → Prop) (σ : ByteArray → Option Ty), u.cov D → (∀ y, D y → (∃ S, σ y = some S ∧ Inert S) ∨ (σ y = none ∧ y ≠ x)) → u.okg → Ty.put x R (u.sub σ) = u.sub σ := by
  refine Ty.ind ?_
  intro k p n s ls ts ih D σ hc hD hok
  simp only [Ty.okg] at hok
  have hoks := Ty.okgs_mem hok.2.2.2.2
  rw [Ty.cov] at hc
  rw [Ty.sub]
  by_cases h9 : k = 9
  · rw [if_pos h9] at hc ⊢
    rcases hD n hc with ⟨S, hs, hS⟩ | ⟨hs, hn⟩
    · rw [hs]
      exact hS.raise s x R
    · rw [hs]
      simp only
      rw [Ty.put, putC, if_neg (fun h => hn h.2), if_neg (fun h => hn h.2), hok.2.2.1 h9, Ty.puts]
  · rw [if_neg h9] at hc ⊢
    by_cases h8 : k = 8
    · rw [if_pos h8] at hc ⊢
      rw [Ty.put, putC, if_neg (fun h => h9 h.1)]
      by_cases hn : n = x
      · rw [if_pos ⟨h8, hn⟩]
      · rw [if_neg (fun h => hn h.2)]
        congr 1
        rw [Ty.puts_map, subs_map, List.map_map]
        refine List.map_congr_left fun t ht => ?_
        refine ih t ht _ (dropS σ n) (covs_mem hc t ht) (fun y hy => ?_) (hoks t ht)
        simp only [dropS]
        by_cases hny : n = y
        · rw [if_pos hny]; exact .inr ⟨rfl, fun e => hn (hny.trans e)⟩
        · rw [if_neg hny]
          exact hD y (hy.resolve_left hny)
    · rw [if_neg h8] at hc ⊢
      rw [Ty.put, putC, if_neg (fun h => h9 h.1), if_neg (fun h => h8 h.1)]
      congr 1
      rw [Ty.puts_map, subs_map, List.map_map]
      exact List.map_congr_left fun t ht => ih t ht D σ (covs_mem hc t ht) hD (hoks t ht)
/-- Closed by the substitution. -/
theorem sub_inert {u : Ty} {D : ByteArray → Prop} {σ : ByteArray → Option Ty} (hc : u.cov D) (hD : ∀ y, D y → ∃ S, σ y = some S ∧ Inert S) (hok : u.okg) : Inert (u.sub σ) := fun x R =>
  sub_still x R u D σ hc (fun y hy => .inl (hD y hy)) hok
/-- The chain of TRecs in front stays. -/
theorem sub_rc : ∀ (u : Ty) (σ : ByteArray → Option Ty), u.ch = true → (u.sub σ).rc = u.rc := by
  refine Ty.ind ?_
  intro k p n s ls ts ih σ hc
  rw [Ty.sub]
  by_cases h8 : k = 8
  · subst h8
    obtain ⟨b, rfl, hb⟩ := ch_8 hc
    rw [if_neg (by decide), if_pos rfl, Ty.rc, if_pos rfl, Ty.rc, if_pos rfl, Ty.subs, Ty.rc1, Ty.rc1, ih b (by simp) _ hb]
  · rw [Ty.ch, if_neg h8] at hc
    have h9 : k ≠ 9 := by simpa using hc
    rw [if_neg h9, if_neg h8, Ty.rc, if_neg h8, Ty.rc, if_neg h8]
/-- The unfolding of a TRec under a substitution. -/
theorem unf_sub {p s : Int} {x : ByteArray} {ls : List ByteArray} {b : Ty} {σ : ByteArray → Option Ty} (hb : b.ch = true) (hok : b.okg) (hσ : ∀ y S, σ y = some S → Inert S) :
    unfT (Ty.sub σ (.mk 8 p x s ls [b])) = unfT (b.sub (setS σ x (Ty.sub σ (.mk 8 p x s ls [b])))) := by
  obtain ⟨R, hR⟩ : ∃ R, Ty.sub σ (.mk 8 p x s ls [b]) = R := ⟨_, rfl⟩
  have hR' : R = .mk 8 p x s ls [b.sub (dropS σ x)] := by
    rw [← hR, Ty.sub, if_neg (by decide), if_pos rfl, Ty.subs, Ty.subs]
  have hp := put_sub x R b σ hok hσ
  rw [hR]
  have h1 : R.rc = b.rc + 1 := by rw [hR', Ty.rc, if_pos rfl, Ty.rc1, sub_rc b _ hb]
  unfold unfT
  rw [h1, sub_rc b _ hb]
  conv => lhs; rw [hR', Ty.unf, if_pos rfl]
  rw [← hR', hp]
theorem unf_sub_id {k p s : Int} {n : ByteArray} {ls : List ByteArray} {ts : List Ty} {σ : ByteArray → Option Ty} (h8 : k ≠ 8) (h9 : k ≠ 9) : unfT (Ty.sub σ (.mk k p n s ls ts)) = .mk k p n s ls (ts.map (Ty.sub σ)) := by
  rw [Ty.sub, if_neg h9, if_neg h8, unfT, Ty.rc, if_neg h8, Ty.unf, subs_map]
end Go.Proofs.YtjmnaibbljakaaaGreatDoor

/- Equality: what a reference of a graph stands for; TRecs around a TVar. -/
namespace Go.Proofs.YtjmnaibbljakaaaGreatDoor

/-- As far as paths of less than n steps tell, the reference stands for the closed type. -/
def REP (ns : List GNode) : Nat → GRef → Ty → Prop
  | 0, _, _ => True
  | n + 1, r, t => ∃ g, ns[r.n]? = some g ∧ g.k = (unfT t).k ∧ (actI g.k = true → g.p + r.s = (unfT t).p) ∧ g.ls = (unfT t).ls ∧ g.nx.length = (unfT t).ts.length ∧
      ∀ (i : Nat) (q : GRef) (u : Ty), g.nx[i]? = some q → (unfT t).ts[i]? = some u → REP ns n (upG q r.s) u
section
variable {ns : List GNode}
theorem REP.less : ∀ (n : Nat) (r : GRef) (t : Ty), REP ns (n + 1) r t → REP ns n r t
  | 0, _, _, _ => trivial
  | n + 1, _, _, ⟨g, h1, h2, h3, h4, h5, h6⟩ => ⟨g, h1, h2, h3, h4, h5, fun i q u hq hu => REP.less n _ _ (h6 i q u hq hu)⟩
/-- What a type stands for is a matter of its unfolding. -/
theorem REP.of_unf {n : Nat} {r : GRef} {t u : Ty} (h : REP ns n r t) (e : unfT t = unfT u) : REP ns n r u := by
  cases n with
  | zero => trivial
  | succ n =>
    obtain ⟨g, h⟩ := h
    rw [e] at h
    exact ⟨g, h⟩
theorem REP.up (j : Int) : ∀ (n : Nat) (r : GRef) (t : Ty), REP ns n r t → REP ns n (upG r j) (t.raise j)
  | 0, _, _, _ => trivial
  | n + 1, r, t, ⟨g, h1, h2, h3, h4, h5, h6⟩ => by
    obtain ⟨v, hv⟩ : ∃ v, unfT t = v := ⟨_, rfl⟩
    rw [hv] at h2 h3 h4 h5 h6
    have hu : unfT (t.raise j) = v.raise j := by rw [raise_unfT, hv]
    refine ⟨g, h1, ?_⟩
    rw [hu]
    obtain ⟨k, p, m, s, ls, ts⟩ := v
    refine ⟨h2, fun ha => ?_, h4, ?_, fun i q u hq hx => ?_⟩
    · have h0 := h3 ha
      have hk : actB k = true := by
        have h2' : g.k = k := h2
        rw [← h2']; exact ha
      show g.p + (r.s + j) = if actB k = true then p + j else p
      rw [if_pos hk]
      have h0' : g.p + r.s = p := h0
      omega
    · rw [h5]
      show ts.length = (Ty.raises j ts).length
      rw [Ty.raises_map, List.length_map]
    · have hx' : (Ty.raises j ts)[i]? = some u := hx
      rw [Ty.raises_map, List.getElem?_map] at hx'
      obtain ⟨u', hu', rfl⟩ := Option.map_eq_some_iff.1 hx'
      have h7 := REP.up j n _ _ (h6 i q u' hq hu')
      rw [upG_up] at h7
      exact h7
/-- An unfolded type is its own unfolding. -/
theorem unf_8 : ∀ (f : Nat) (t : Ty), t.rc = f → t.ch = true → (t.unf f).k ≠ 8
  | 0, .mk k p n s ls ts, hf, hc => by
    by_cases h8 : k = 8
    · rw [Ty.rc, if_pos h8] at hf; omega
    · rw [Ty.unf]; exact h8
  | f + 1, .mk k p n s ls ts, hf, hc => by
    by_cases h8 : k = 8
    · subst h8
      obtain ⟨b, rfl, hb⟩ := ch_8 hc
      rw [Ty.rc, if_pos rfl, Ty.rc1] at hf
      obtain ⟨_, _, h3, h4⟩ := put_hd n (.mk 8 p n s ls [b]) b hb
      rw [Ty.unf, if_pos rfl]
      exact unf_8 f _ (by omega) h4
    · rw [Ty.rc, if_neg h8] at hf; omega
theorem unfT_unfT {t : Ty} (hc : t.ch = true) : unfT (unfT t) = unfT t := by
  have h := unf_8 t.rc t rfl hc
  obtain ⟨v, hv⟩ : ∃ v, t.unf t.rc = v := ⟨_, rfl⟩
  rw [hv] at h
  rw [unfT, unfT, hv]
  obtain ⟨k, p, n, s, ls, ts⟩ := v
  have h8 : k ≠ 8 := h
  rw [Ty.rc, if_neg h8, Ty.unf]
end

/-! ### TRecs around a TVar of the outside -/
inductive Alias : Ty → ByteArray → Int → Prop
  | var (p s : Int) (y : ByteArray) (ls : List ByteArray) : Alias (.mk 9 p y s ls []) y s
  | rec_ (p s' s : Int) (x y : ByteArray) (ls : List ByteArray) (b : Ty) (h : Alias b y s) (hn : y ≠ x) : Alias (.mk 8 p x s' ls [b]) y s
theorem Alias.pref {u : Ty} {y : ByteArray} {s : Int} (h : Alias u y s) : ∀ (i : Nat) (e : ByteArray → Nat), u.pref i e = ⟨e y, s⟩ := by
  induction h with
  | var p s y ls => intro i e; rw [Ty.pref, if_neg (by decide), if_pos rfl]
  | rec_ p s' s x y ls b _ hn ih =>
    intro i e
    rw [Ty.pref, if_pos rfl, Ty.pref1, ih, upE, if_neg (fun e => hn e.symm)]
theorem Alias.cov {u : Ty} {y : ByteArray} {s : Int} (h : Alias u y s) : ∀ D : ByteArray → Prop, D y → u.cov D := by
  induction h with
  | var p s y ls => intro D hD; rw [Ty.cov, if_pos rfl]; exact hD
  | rec_ p s' s x y ls b _ hn ih =>
    intro D hD
    rw [Ty.cov, if_neg (by decide), if_pos rfl, Ty.covs, Ty.covs]
    exact ⟨ih _ (.inr hD), trivial⟩
theorem Alias.unf {u : Ty} {y : ByteArray} {s : Int} (h : Alias u y s) : ∀ (σ : ByteArray → Option Ty) (S : Ty), u.okg → σ y = some S → Inert S → unfT (u.sub σ) = unfT (S.raise s) := by
  induction h with
  | var p s y ls =>
    intro σ S _ hs _
    rw [Ty.sub, if_pos rfl, hs]
  | rec_ p s' s x y ls b hb hn ih =>
    intro σ S hok hs hS
    simp only [Ty.okg, Ty.okgs] at hok
    have hokb := hok.2.2.2.2.1
    have hd : dropS σ x y = some S := by rw [dropS, if_neg (fun e => hn e.symm)]; exact hs
    have h1 := ih (dropS σ x) S hokb hd hS
    have hi : Inert (b.sub (dropS σ x)) := sub_inert (D := fun z => z = y) (hb.cov _ rfl) (fun z hz => ⟨S, by rw [hz]; exact hd, hS⟩) hokb
    rw [← h1, Ty.sub, if_neg (by decide), if_pos rfl, Ty.subs, Ty.subs]
    conv => lhs; rw [unfT, Ty.rc, if_pos rfl, Ty.rc1, Ty.unf, if_pos rfl, hi]
    rw [unfT]

/-! ### Where a type lies in a graph -/
def Placed (ns : List GNode) (i : Nat) (l : List GNode) : Prop := ∀ (a : Nat) (g : GNode), l[a]? = some g → ns[i + a]? = some g
theorem Placed.left {ns : List GNode} {i : Nat} {l r : List GNode} (h : Placed ns i (l ++ r)) : Placed ns i l := fun a g ha => h a g (by
  rw [List.getElem?_append_left (List.getElem?_eq_some_iff.1 ha).1]; exact ha)
theorem Placed.right {ns : List GNode} {i : Nat} {l r : List GNode} (h : Placed ns i (l ++ r)) : Placed ns (i + l.length) r := fun a g ha => by
  rw [Nat.add_assoc]
  refine h _ g ?_
  rw [List.getElem?_append_right (Nat.le_add_right _ _), Nat.add_sub_cancel_left]
  exact ha
theorem kids_at {ns : List GNode} {e : ByteArray → Nat} : ∀ (l : List Ty) (i j : Nat) (t : Ty), Ty.okgs l → l[j]? = some t → Placed ns i (Ty.pnods i e l) → ∃ i', (Ty.prefs i e l)[j]? = some (t.pref i' e) ∧ Placed ns i' (t.pnod i' e)
  | [], _, _, _, _, h, _ => by simp at h
  | u :: r, i, 0, t, _, h, hp => by
    obtain rfl : u = t := by simpa using h
    rw [Ty.pnods] at hp
    exact ⟨i, by rw [Ty.prefs]; rfl, hp.left⟩
  | u :: r, i, j + 1, t, hok, h, hp => by
    simp only [Ty.okgs] at hok
    rw [Ty.pnods] at hp
    have h2 := hp.right
    rw [pnod_ok u hok.1] at h2
    obtain ⟨i', h3, h4⟩ := kids_at r (i + u.gcnt) j t hok.2 (by simpa using h) h2
    exact ⟨i', by rw [Ty.prefs, List.getElem?_cons_succ]; exact h3, h4⟩
end Go.Proofs.YtjmnaibbljakaaaGreatDoor

/- Equality: the graph of right types stands for them. -/
namespace Go.Proofs.YtjmnaibbljakaaaGreatDoor

theorem kidsR_mem {names : List ByteArray} {g : Nat} {f : Bool} : ∀ (l : List Ty) (i : Nat), kidsR names g f i l = 0 → ∀ t ∈ l, ∃ se, nodeR names g se t = 0
  | [], _, _, _, h => by cases h
  | u :: r, i, h, t, ht => by
    rw [kidsR] at h
    by_cases h0 : nodeR names g (f || decide (0 < i)) u = 0
    · rw [if_pos h0] at h
      rcases List.mem_cons.1 ht with rfl | ht
      · exact ⟨_, h0⟩
      · exact kidsR_mem r (i + 1) h t ht
    · rw [if_neg h0] at h
      exact absurd h h0
theorem vR_mem {names : List ByteArray} {g : Nat} {y : ByteArray} : ∀ i : Nat, vR names g y i = 0 → y ∈ names
  | 0, h => by rw [vR] at h; cases h
  | i + 1, h => by
    rw [vR] at h
    split at h
    · next he => exact List.mem_of_getElem? he
    · exact vR_mem i h
theorem vR_end {names : List ByteArray} {g : Nat} {x y : ByteArray} : ∀ i : Nat, i ≤ names.length → vR (names ++ [x]) g y i = vR names g y i
  | 0, _ => by rw [vR, vR]
  | i + 1, h => by
    rw [vR, vR, List.getElem?_append_left (by omega), vR_end i (by omega)]
theorem varR_snoc {names : List ByteArray} {g : Nat} {x y : ByteArray} (hg : g ≤ names.length) (h : varR (names ++ [x]) g y = 0) : y ≠ x ∧ varR names g y = 0 := by
  unfold varR at h
  rw [List.length_append, List.length_singleton, vR] at h
  have hx : (names ++ [x])[names.length]? = some x := by simp
  rw [hx] at h
  by_cases hyx : x = y
  · rw [if_pos (by rw [hyx]), if_neg (by omega)] at h
    cases h
  · rw [if_neg (fun e => hyx (Option.some.inj e)), vR_end _ (Nat.le_refl _)] at h
    exact ⟨fun e => hyx e.symm, h⟩
theorem nodeR_cov : ∀ (u : Ty) (names : List ByteArray) (g : Nat) (se : Bool), nodeR names g se u = 0 → u.cov (fun y => y ∈ names) := by
  refine Ty.ind ?_
  intro k p n s ls ts ih names g se h
  obtain ⟨_, h2⟩ := nodeR_shape h
  have covs_of : ∀ (D : ByteArray → Prop) (l : List Ty), (∀ t ∈ l, t.cov D) → Ty.covs D l := by
    intro D l
    induction l with
    | nil => intro _; rw [Ty.covs]; trivial
    | cons t r ih => intro h; rw [Ty.covs]; exact ⟨h t (by simp), ih (fun u hu => h u (by simp [hu]))⟩
  rw [Ty.cov]
  by_cases h9 : k = 9
  · rw [if_pos h9] at h2 ⊢
    exact vR_mem _ h2
  · rw [if_neg h9] at h2 ⊢
    by_cases h8 : k = 8
    · rw [if_pos h8] at h2 ⊢
      refine covs_of _ _ (fun t ht => ?_)
      obtain ⟨se', h3⟩ := kidsR_mem _ _ h2 t ht
      have h4 := ih t ht _ _ _ h3
      have e : (fun y => y ∈ names ++ [n]) = (fun x => n = x ∨ x ∈ names) := by
        funext y
        simp only [List.mem_append, List.mem_singleton, eq_iff_iff]
        constructor
        · rintro (h | h)
          · exact .inr h
          · exact .inl h.symm
        · rintro (h | h)
          · exact .inr h.symm
          · exact .inl h
      rw [e] at h4
      exact h4
    · rw [if_neg h8] at h2 ⊢
      refine covs_of _ _ (fun t ht => ?_)
      obtain ⟨se', h3⟩ := kidsR_mem _ _ h2 t ht
      exact ih t ht _ _ _ h3
/-- A right type begins with a node, or is another name of a TVar of the outside. -/
theorem real_or : ∀ (u : Ty) (names : List ByteArray) (g : Nat) (se : Bool), g ≤ names.length → u.okg → nodeR names g se u = 0 → u.real = true ∨ ∃ y s, Alias u y s ∧ varR names g y = 0 := by
  refine Ty.ind ?_
  intro k p n s ls ts ih names g se hg hok h
  obtain ⟨_, h2⟩ := nodeR_shape h
  simp only [Ty.okg] at hok
  by_cases h9 : k = 9
  · subst h9
    rw [if_pos rfl] at h2
    obtain rfl := hok.2.2.1 rfl
    exact .inr ⟨n, s, .var p s n ls, h2⟩
  · rw [if_neg h9] at h2
    rw [Ty.real]
    by_cases h8 : k = 8
    · subst h8
      rw [if_pos rfl] at h2 ⊢
      have hl := hok.2.1 rfl
      match ts, hl, ih, hok, h2 with
      | [b], _, ih, hok, h2 =>
        obtain ⟨se', h3⟩ := kidsR_mem _ _ h2 b (by simp)
        simp only [Ty.okgs] at hok
        rcases ih b (by simp) _ g se' (by rw [List.length_append]; omega) hok.2.2.2.2.1 h3 with h4 | ⟨y, s', h4, h5⟩
        · exact .inl (by rw [Ty.real1]; exact h4)
        · obtain ⟨h6, h7⟩ := varR_snoc hg h5
          exact .inr ⟨y, s', .rec_ p s s' n y ls b h4 h6, h7⟩
    · rw [if_neg h8]
      exact .inl (by simpa using h9)
theorem Placed.tail {ns : List GNode} {i : Nat} {x : GNode} {l : List GNode} (h : Placed ns i (x :: l)) : ns[i]? = some x ∧ Placed ns (i + 1) l :=
  ⟨h 0 x rfl, fun a g ha => by rw [Nat.add_assoc, Nat.add_comm 1 a]; exact h (a + 1) g (by simpa using ha)⟩
/-- The claim for paths of less than n steps. -/
def RepC (ns : List GNode) (n : Nat) : Prop := ∀ (u : Ty) (names : List ByteArray) (g : Nat) (se : Bool) (i : Nat) (e : ByteArray → Nat) (σ : ByteArray → Option Ty), g ≤ names.length → nodeR names g se u = 0 → u.okg → Placed ns i (u.pnod i e) →
  (∀ y S, σ y = some S → Inert S) → (∀ y ∈ names, ∃ S, σ y = some S) → (∀ y S, varR names g y = 0 → σ y = some S → REP ns n ⟨e y, 0⟩ S) → (∀ y S, y ∈ names → σ y = some S → REP ns (n - 1) ⟨e y, 0⟩ S) → REP ns n (u.pref i e) (u.sub σ)
theorem REP.pred {ns : List GNode} {n : Nat} {r : GRef} {t : Ty} (h : REP ns n r t) : REP ns (n - 1) r t := by
  cases n with
  | zero => trivial
  | succ n => exact REP.less n r t h
theorem rep_head {ns : List GNode} {n : Nat} (hC : RepC ns n) : ∀ (u : Ty) (names : List ByteArray) (g : Nat) (se : Bool) (i : Nat) (e : ByteArray → Nat) (σ : ByteArray → Option Ty), g ≤ names.length → nodeR names g se u = 0 → u.okg → u.real = true → Placed ns i (u.pnod i e) →
    (∀ y S, σ y = some S → Inert S) → (∀ y ∈ names, ∃ S, σ y = some S) → (∀ y S, y ∈ names → σ y = some S → REP ns n ⟨e y, 0⟩ S) → REP ns (n + 1) ⟨i, 0⟩ (u.sub σ) := by
  refine Ty.ind ?_
  intro k p x s ls ts ih names g se i e σ hg h hok hre hp hσ hnm hE
  have hwhole : REP ns n ⟨i, 0⟩ (Ty.sub σ (.mk k p x s ls ts)) := by
    have h0 := hC _ names g se i e σ hg h hok hp hσ hnm (fun y S hy hs => hE y S (vR_mem _ hy) hs) (fun y S hy hs => (hE y S hy hs).pred)
    rw [real_pref _ i e hre] at h0
    exact h0
  have hinert : Inert (Ty.sub σ (.mk k p x s ls ts)) := sub_inert (nodeR_cov _ _ _ _ h) (fun y hy => by
    obtain ⟨S, hs⟩ := hnm y hy
    exact ⟨S, hs, hσ y S hs⟩) hok
  obtain ⟨_, h2⟩ := nodeR_shape h
  have hok' := hok
  simp only [Ty.okg] at hok
  rw [Ty.real] at hre
  by_cases h8 : k = 8
  · subst h8
    rw [if_pos rfl] at hre
    rw [if_neg (by decide), if_pos rfl] at h2
    have hl := hok.2.1 rfl
    match ts, hl, ih, hok, h2, hre, hp, hwhole, hinert with
    | [b], _, ih, hok, h2, hre, hp, hwhole, hinert =>
      obtain ⟨se', h3⟩ := kidsR_mem _ _ h2 b (by simp)
      simp only [Ty.okgs] at hok
      have hokb := hok.2.2.2.2.1
      rw [Ty.real1] at hre
      rw [Ty.pnod, if_pos rfl, Ty.pnod1] at hp
      have h4 := ih b (by simp) (names ++ [x]) g se' i (upE e x i) (setS σ x (Ty.sub σ (.mk 8 p x s ls [b]))) (by rw [List.length_append]; omega) h3 hokb hre hp
        (fun y S hy => by
          simp only [setS] at hy
          split at hy
          · obtain rfl := Option.some.inj hy; exact hinert
          · exact hσ y S hy)
        (fun y hy => by
          simp only [setS]
          split
          · exact ⟨_, rfl⟩
          · next hn =>
            rcases List.mem_append.1 hy with hy | hy
            · exact hnm y hy
            · exact absurd (List.mem_singleton.1 hy).symm hn)
        (fun y S hy hs => by
          simp only [setS] at hs
          simp only [upE]
          split at hs
          · next hn =>
            obtain rfl := Option.some.inj hs
            rw [if_pos hn]; exact hwhole
          · next hn =>
            rw [if_neg hn]
            rcases List.mem_append.1 hy with hy | hy
            · exact hE y S hy hs
            · exact absurd (List.mem_singleton.1 hy).symm hn)
      exact h4.of_unf (unf_sub (ch_of b hokb hre) hokb hσ).symm
  · have h9 : k ≠ 9 := by
      rw [if_neg h8] at hre
      simpa using hre
    rw [if_neg h9, if_neg h8] at h2
    rw [Ty.pnod, if_neg h8, if_neg h9] at hp
    obtain ⟨hp1, hp2⟩ := hp.tail
    refine ⟨_, hp1, ?_⟩
    rw [unf_sub_id h8 h9]
    refine ⟨rfl, fun _ => by show p + 0 = p; omega, rfl, ?_, fun j q u hq hu => ?_⟩
    · show (Ty.prefs (i + 1) e ts).length = (ts.map (Ty.sub σ)).length
      rw [prefs_len, List.length_map]
    · have hu' : (ts.map (Ty.sub σ))[j]? = some u := hu
      rw [List.getElem?_map] at hu'
      obtain ⟨t, ht, rfl⟩ := Option.map_eq_some_iff.1 hu'
      obtain ⟨i', h3, h4⟩ := kids_at ts (i + 1) j t hok.2.2.2.2 ht hp2
      have hq' : (Ty.prefs (i + 1) e ts)[j]? = some q := hq
      obtain rfl := Option.some.inj (h3.symm.trans hq')
      have hm := List.mem_of_getElem? ht
      obtain ⟨se', h5⟩ := kidsR_mem _ _ h2 t hm
      have h6 := hC t names names.length se' i' e σ (Nat.le_refl _) h5 (Ty.okgs_mem hok.2.2.2.2 t hm) h4 hσ hnm (fun y S hy hs => hE y S (vR_mem _ hy) hs) (fun y S hy hs => (hE y S hy hs).pred)
      show REP ns n (upG _ 0) _
      rw [upG_zero]
      exact h6
theorem rep_all (ns : List GNode) : ∀ n, RepC ns n
  | 0 => fun _ _ _ _ _ _ _ _ _ _ _ _ _ _ _ => trivial
  | n + 1 => fun u names g se i e σ hg h hok hp hσ hnm hG hE => by
    rcases real_or u names g se hg hok h with hre | ⟨y, s, ha, hv⟩
    · rw [real_pref u i e hre]
      exact rep_head (rep_all ns n) u names g se i e σ hg h hok hre hp hσ hnm hE
    · obtain ⟨S, hs⟩ := hnm y (vR_mem _ hv)
      have h1 := REP.up s (n + 1) _ _ (hG y S hv hs)
      rw [ha.pref]
      have h2 : upG ⟨e y, 0⟩ s = (⟨e y, s⟩ : GRef) := by simp [upG]
      rw [h2] at h1
      exact h1.of_unf (ha.unf σ S hok hs (hσ y S hs)).symm
theorem sub_none : ∀ t : Ty, t.sub (fun _ => none) = t := by
  refine Ty.ind ?_
  intro k p n s ls ts ih
  have hd : dropS (fun _ => none) n = (fun _ => none) := by funext x; simp [dropS]
  have hm : ts.map (Ty.sub fun _ => none) = ts := by
    conv => rhs; rw [← List.map_id ts]
    exact List.map_congr_left fun t ht => ih t ht
  rw [Ty.sub, hd, subs_map, hm]
  split
  · rfl
  · split <;> rfl
/-- The references of the graph of right types stand for them. -/
theorem graph_rep {ts : List Ty} (h : ∀ t ∈ ts, nodeR [] 0 false t = 0) (hok : Ty.okgs ts) {j : Nat} {t : Ty} (hj : ts[j]? = some t) : ∃ r, (gRefs ts)[j]? = some r ∧ ∀ n, REP (gNodes ts) n r t := by
  obtain ⟨i', h1, h2⟩ := kids_at (ns := gNodes ts) (e := fun _ => 0) ts 0 j t hok hj (fun a g ha => by rw [Nat.zero_add]; exact ha)
  refine ⟨_, h1, fun n => ?_⟩
  have hm := List.mem_of_getElem? hj
  have h3 := rep_all (gNodes ts) n t [] 0 false i' (fun _ => 0) (fun _ => none) (Nat.zero_le _) (h t hm) (Ty.okgs_mem hok t hm) h2 (fun y S hs => by cases hs) (fun y hy => by cases hy) (fun y S _ hs => by cases hs) (fun y S hy _ => by cases hy)
  rw [sub_none] at h3
  exact h3
end Go.Proofs.YtjmnaibbljakaaaGreatDoor

/- Equality: references that stand for one type are equal; what graphs of right types have. -/
namespace Go.Proofs.YtjmnaibbljakaaaGreatDoor

/-- The reference behind a label. -/
def atLab (g : GNode) (l : ByteArray) : Option GRef := (g.ls.findIdx? (fun x => decide (x = l))).bind (fun i => g.nx[i]?)
/-- The references behind a node; those of labels in the order that srt gives. -/
def chE (srt : List ByteArray → List ByteArray) (g : GNode) : List GRef := if g.ls = [] then g.nx else (srt g.ls).filterMap (atLab g)
def lgOf (srt : List ByteArray → List ByteArray) (ns : List GNode) : LG where
  kind n := match ns[n]? with | some g => g.k | none => 0
  labs n := match ns[n]? with | some g => srt g.ls | none => []
  prio n := match ns[n]? with | some g => if actI g.k = true then some g.p else none | none => none
  ch n := match ns[n]? with | some g => chE srt g | none => []
/-- A node of the graph of a right type. -/
structure NodeOk (g : GNode) : Prop where
  kind : 1 ≤ g.k ∧ g.k ≤ 7
  leaf : g.k ≤ 3 → g.ls = [] ∧ g.nx = []
  two : g.k = 4 ∨ g.k = 5 → g.ls = [] ∧ g.nx.length = 2
  many : g.k = 6 ∨ g.k = 7 → g.ls ≠ [] ∧ g.nx.length = g.ls.length
section
variable {srt : List ByteArray → List ByteArray} {ns : List GNode}
theorem atLab_some {g : GNode} (hl : g.nx.length = g.ls.length) {l : ByteArray} (h : l ∈ g.ls) : ∃ q, atLab g l = some q := by
  unfold atLab
  cases hi : g.ls.findIdx? (fun x => decide (x = l)) with
  | none =>
    rw [List.findIdx?_eq_none_iff] at hi
    have := hi l h
    simp at this
  | some i =>
    rw [List.findIdx?_eq_some_iff_getElem] at hi
    obtain ⟨h1, _⟩ := hi
    exact ⟨_, List.getElem?_eq_getElem (by rw [hl]; exact h1)⟩
theorem filterMap_len {α β : Type} {f : α → Option β} : ∀ (l : List α), (∀ x ∈ l, ∃ y, f x = some y) → (l.filterMap f).length = l.length
  | [], _ => rfl
  | x :: r, h => by
    obtain ⟨y, hy⟩ := h x (by simp)
    rw [List.filterMap_cons, hy, List.length_cons, List.length_cons, filterMap_len r (fun z hz => h z (by simp [hz]))]
theorem filterMap_at {α β : Type} {f : α → Option β} : ∀ (l : List α), (∀ x ∈ l, ∃ y, f x = some y) → ∀ (i : Nat) (y : β), (l.filterMap f)[i]? = some y → ∃ x, l[i]? = some x ∧ f x = some y
  | [], _, i, y, h => by simp at h
  | x :: r, hl, i, y, h => by
    obtain ⟨z, hz⟩ := hl x (by simp)
    rw [List.filterMap_cons, hz] at h
    cases i with
    | zero => exact ⟨x, rfl, by rw [hz]; simpa using h⟩
    | succ i =>
      obtain ⟨x', h1, h2⟩ := filterMap_at r (fun w hw => hl w (by simp [hw])) i y (by simpa using h)
      exact ⟨x', by simpa using h1, h2⟩
theorem chE_len {g : GNode} (hs : ∀ l : List ByteArray, ∀ x, x ∈ srt l ↔ x ∈ l) (ho : NodeOk g) : (chE srt g).length = if g.ls = [] then g.nx.length else (srt g.ls).length := by
  unfold chE
  split
  · rfl
  · next he =>
    have hk : g.k = 6 ∨ g.k = 7 := by
      have h1 := ho.kind
      have h2 := ho.leaf
      have h3 := ho.two
      by_cases h4 : g.k ≤ 3
      · exact absurd (h2 h4).1 he
      · by_cases h5 : g.k = 4 ∨ g.k = 5
        · exact absurd (h3 h5).1 he
        · omega
    exact filterMap_len _ (fun x hx => atLab_some (ho.many hk).2 ((hs _ x).1 hx))
theorem lg_ok (hs : ∀ l : List ByteArray, ∀ x, x ∈ srt l ↔ x ∈ l) (hz : ∀ l : List ByteArray, srt l = [] ↔ l = []) (ho : ∀ g ∈ ns, NodeOk g) : (lgOf srt ns).Ok := by
  have act : ∀ k : Int, actI k = true ↔ 4 ≤ k ∧ k ≤ 7 := fun k => by simp [actI]
  refine ⟨fun m k h => ?_, fun m h => ?_, fun m k h h2 => ?_⟩
  · simp only [lgOf] at h ⊢
    cases hm : ns[m]? with
    | none =>
      rw [hm] at h
      cases hk : ns[k]? with
      | none => rfl
      | some g =>
        rw [hk] at h
        have := (ho g (List.mem_of_getElem? hk)).kind
        simp only at h
        omega
    | some g =>
      rw [hm] at h
      cases hk : ns[k]? with
      | none =>
        rw [hk] at h
        have := (ho g (List.mem_of_getElem? hm)).kind
        simp only at h
        omega
      | some g' =>
        rw [hk] at h
        simp only at h ⊢
        rw [h]
        cases actI g'.k <;> simp
  · simp only [lgOf] at h ⊢
    cases hm : ns[m]? with
    | none => rfl
    | some g =>
      rw [hm] at h
      simp only at h ⊢
      have h1 := ho g (List.mem_of_getElem? hm)
      have ha : ¬ actI g.k = true := by
        intro ha
        rw [if_pos ha] at h
        cases h
      rw [act] at ha
      have hk := h1.kind
      obtain ⟨h2, h3⟩ := h1.leaf (by omega)
      unfold chE
      rw [if_pos h2, h3]
  · simp only [lgOf] at h h2 ⊢
    cases hm : ns[m]? with
    | none =>
      rw [hm] at h
      cases hk : ns[k]? with
      | none => rfl
      | some g =>
        rw [hk] at h
        have := (ho g (List.mem_of_getElem? hk)).kind
        simp only at h
        omega
    | some g =>
      rw [hm] at h h2
      cases hk : ns[k]? with
      | none =>
        rw [hk] at h
        have := (ho g (List.mem_of_getElem? hm)).kind
        simp only at h
        omega
      | some g' =>
        rw [hk] at h h2
        simp only at h h2 ⊢
        have o1 := ho g (List.mem_of_getElem? hm)
        have o2 := ho g' (List.mem_of_getElem? hk)
        rw [chE_len hs o1, chE_len hs o2]
        have hls : g.ls = [] ↔ g'.ls = [] := by rw [← hz g.ls, ← hz g'.ls, h2]
        by_cases he : g.ls = []
        · rw [if_pos he, if_pos (hls.1 he)]
          have k1 := o1.kind
          by_cases h4 : g.k ≤ 3
          · rw [(o1.leaf h4).2, (o2.leaf (by rw [← h]; exact h4)).2]
          · by_cases h5 : g.k = 4 ∨ g.k = 5
            · rw [(o1.two h5).2, (o2.two (by rw [← h]; exact h5)).2]
            · exact absurd he (o1.many (by omega)).1
        · rw [if_neg he, if_neg (fun e => he (hls.2 e)), h2]
/-- References that stand for one type are equal. -/
theorem rep_eqN (hs : ∀ l : List ByteArray, ∀ x, x ∈ srt l ↔ x ∈ l) (ho : ∀ g ∈ ns, NodeOk g) : ∀ (n : Nat) (r q : GRef) (t : Ty), REP ns n r t → REP ns n q t → (lgOf srt ns).eqN false n r q
  | 0, _, _, _, _, _ => trivial
  | n + 1, r, q, t, ⟨g, h1, h2, h3, h4, h5, h6⟩, ⟨g', k1, k2, k3, k4, k5, k6⟩ => by
    have hk : g.k = g'.k := h2.trans k2.symm
    have hl : g.ls = g'.ls := h4.trans k4.symm
    have hx : g.nx.length = g'.nx.length := h5.trans k5.symm
    have o1 := ho g (List.mem_of_getElem? h1)
    refine ⟨⟨⟨?_, .inr ?_⟩, ?_⟩, fun i a b ha hb => ?_⟩
    · simp only [lgOf, h1, k1]; exact hk
    · simp only [LG.rp, lgOf, h1, k1]
      by_cases ha : actI g.k = true
      · rw [if_pos ha, if_pos (by rw [← hk]; exact ha)]
        simp only [Option.map_some, Option.some.injEq]
        rw [h3 ha, k3 (by rw [← hk]; exact ha)]
      · rw [if_neg ha, if_neg (by rw [← hk]; exact ha)]
        rfl
    · simp only [lgOf, h1, k1]; rw [hl]
    · have step : ∀ (j : Nat) (c d : GRef), g.nx[j]? = some c → g'.nx[j]? = some d → (lgOf srt ns).eqN false n (upG c r.s) (upG d q.s) := by
        intro j c d hc hd
        have hj : j < (unfT t).ts.length := by rw [← h5]; exact (List.getElem?_eq_some_iff.1 hc).1
        exact rep_eqN hs ho n _ _ _ (h6 j c _ hc (List.getElem?_eq_getElem hj)) (k6 j d _ hd (List.getElem?_eq_getElem hj))
      simp only [LG.beh, lgOf, h1, k1] at ha hb
      rw [List.getElem?_map] at ha hb
      obtain ⟨c, hc, rfl⟩ := Option.map_eq_some_iff.1 ha
      obtain ⟨d, hd, rfl⟩ := Option.map_eq_some_iff.1 hb
      by_cases he : g.ls = []
      · unfold chE at hc hd
        rw [if_pos he] at hc
        rw [if_pos (by rw [← hl]; exact he)] at hd
        exact step i c d hc hd
      · have o2 := ho g' (List.mem_of_getElem? k1)
        have hk6 : g.k = 6 ∨ g.k = 7 := by
          have h1 := o1.kind
          by_cases h4 : g.k ≤ 3
          · exact absurd (o1.leaf h4).1 he
          · by_cases h5 : g.k = 4 ∨ g.k = 5
            · exact absurd (o1.two h5).1 he
            · omega
        have hall : ∀ x ∈ srt g.ls, ∃ y, atLab g x = some y := fun x hx => atLab_some (o1.many hk6).2 ((hs _ x).1 hx)
        have hall' : ∀ x ∈ srt g'.ls, ∃ y, atLab g' x = some y := fun x hx => atLab_some (o2.many (by rw [← hk]; exact hk6)).2 ((hs _ x).1 hx)
        unfold chE at hc hd
        rw [if_neg he] at hc
        rw [if_neg (by rw [← hl]; exact he)] at hd
        obtain ⟨l1, e1, e2⟩ := filterMap_at _ hall i c hc
        obtain ⟨l2, f1, f2⟩ := filterMap_at _ hall' i d hd
        rw [← hl] at f1
        obtain rfl := Option.some.inj (e1.symm.trans f1)
        unfold atLab at e2 f2
        rw [← hl] at f2
        cases hi : g.ls.findIdx? (fun x => decide (x = l1)) with
        | none => rw [hi] at e2; cases e2
        | some j =>
          rw [hi] at e2 f2
          exact step j c d e2 f2
end
end Go.Proofs.YtjmnaibbljakaaaGreatDoor

/- Equality: the nodes of the graph of right types; a type and its unfolding; two references to right types. -/
namespace Go.Proofs.YtjmnaibbljakaaaGreatDoor

theorem shape_node {k p s : Int} {n : ByteArray} {ls : List ByteArray} {nx : List GRef} {m : Nat} (h : shapeC k p s n ls m = true) (h8 : k ≠ 8) (h9 : k ≠ 9) (hm : nx.length = m) : NodeOk ⟨k, p, ls, nx⟩ := by
  unfold shapeC at h
  split at h
  · next hk =>
    simp only [Bool.and_eq_true, beq_iff_eq, List.isEmpty_iff, decide_eq_true_eq] at h
    obtain ⟨_, _, _, h1, h2⟩ := h
    refine ⟨by show 1 ≤ k ∧ k ≤ 7; omega, fun _ => ⟨h1, List.eq_nil_of_length_eq_zero (by rw [hm, h2])⟩, fun hk' => ?_, fun hk' => ?_⟩
    · have : k = 4 ∨ k = 5 := hk'
      omega
    · have : k = 6 ∨ k = 7 := hk'
      omega
  · split at h
    · next hk1 hk =>
      simp only [Bool.and_eq_true, beq_iff_eq, List.isEmpty_iff, decide_eq_true_eq] at h
      obtain ⟨_, _, _, h1, h2⟩ := h
      refine ⟨by show 1 ≤ k ∧ k ≤ 7; omega, fun hk' => ?_, fun _ => ⟨h1, hm.trans h2⟩, fun hk' => ?_⟩
      · have : k ≤ 3 := hk'
        omega
      · have : k = 6 ∨ k = 7 := hk'
        omega
    · split at h
      · next hk1 hk2 hk =>
        simp only [Bool.and_eq_true, beq_iff_eq, Bool.not_eq_true', decide_eq_true_eq] at h
        obtain ⟨_, _, _, h1, _, h2⟩ := h
        refine ⟨by show 1 ≤ k ∧ k ≤ 7; omega, fun hk' => ?_, fun hk' => ?_, fun _ => ⟨fun e => ?_, hm.trans h2⟩⟩
        · have : k ≤ 3 := hk'
          omega
        · have : k = 4 ∨ k = 5 := hk'
          omega
        · have e' : ls = [] := e
          rw [e'] at h1
          simp at h1
      · cases h
theorem pnod_nodes : ∀ (u : Ty) (names : List ByteArray) (g : Nat) (se : Bool) (i : Nat) (e : ByteArray → Nat), nodeR names g se u = 0 → ∀ x ∈ u.pnod i e, NodeOk x := by
  refine Ty.ind ?_
  intro k p n s ls ts ih names g se i e h x hx
  obtain ⟨hs, h2⟩ := nodeR_shape h
  have many : ∀ (l : List Ty), (∀ t ∈ l, t ∈ ts) → ∀ (names : List ByteArray) (g : Nat) (i : Nat) (e : ByteArray → Nat), (∀ t ∈ l, ∃ se, nodeR names g se t = 0) → ∀ x ∈ Ty.pnods i e l, NodeOk x := by
    intro l
    induction l with
    | nil => intro _ _ _ i e _ x hx; rw [Ty.pnods] at hx; cases hx
    | cons t r ihl =>
      intro hm names g i e hr x hx
      rw [Ty.pnods] at hx
      rcases List.mem_append.1 hx with hx | hx
      · obtain ⟨se', h3⟩ := hr t (by simp)
        exact ih t (hm t (by simp)) names g se' i e h3 x hx
      · exact ihl (fun u hu => hm u (by simp [hu])) names g _ e (fun u hu => hr u (by simp [hu])) x hx
  rw [Ty.pnod] at hx
  by_cases h8 : k = 8
  · subst h8
    rw [if_pos rfl] at hx
    rw [if_neg (by decide), if_pos rfl] at h2
    match ts, ih, h2, hx with
    | [], _, _, hx => rw [Ty.pnod1] at hx; cases hx
    | b :: r, ih, h2, hx =>
      rw [Ty.pnod1] at hx
      obtain ⟨se', h3⟩ := kidsR_mem _ _ h2 b (by simp)
      exact ih b (by simp) _ _ se' _ _ h3 x hx
  · rw [if_neg h8] at hx
    by_cases h9 : k = 9
    · rw [if_pos h9] at hx; cases hx
    · rw [if_neg h9] at hx
      rw [if_neg h9, if_neg h8] at h2
      rcases List.mem_cons.1 hx with rfl | hx
      · exact shape_node hs h8 h9 (prefs_len _ _)
      · exact many ts (fun t ht => ht) _ _ _ e (kidsR_mem _ _ h2) x hx
theorem nodes_ok : ∀ (ts : List Ty) (i : Nat), (∀ t ∈ ts, nodeR [] 0 false t = 0) → ∀ g ∈ Ty.pnods i (fun _ => 0) ts, NodeOk g
  | [], _, _, g, hg => by rw [Ty.pnods] at hg; cases hg
  | t :: r, i, h, g, hg => by
    rw [Ty.pnods] at hg
    rcases List.mem_append.1 hg with hg | hg
    · exact pnod_nodes t [] 0 false i _ (h t (by simp)) g hg
    · exact nodes_ok r _ (fun u hu => h u (by simp [hu])) g hg
section
variable {srt : List ByteArray → List ByteArray}
/-- The graph of right types is one on which equality is an equivalence relation. -/
theorem right_ok (hs : ∀ l : List ByteArray, ∀ x, x ∈ srt l ↔ x ∈ l) (hz : ∀ l : List ByteArray, srt l = [] ↔ l = []) {ts : List Ty} (h : ∀ t ∈ ts, nodeR [] 0 false t = 0) : (lgOf srt (gNodes ts)).Ok :=
  lg_ok hs hz (nodes_ok ts 0 h)
/-- Two types of a list one of which is the unfolding of the other one have equal references. -/
theorem unfolds_eqv (hs : ∀ l : List ByteArray, ∀ x, x ∈ srt l ↔ x ∈ l) {ts : List Ty} (h : ∀ t ∈ ts, nodeR [] 0 false t = 0) (hok : Ty.okgs ts) {i j : Nat} {t u : Ty} (hi : ts[i]? = some t) (hj : ts[j]? = some u) (hu : unfT t = unfT u) :
    ∃ r q, (gRefs ts)[i]? = some r ∧ (gRefs ts)[j]? = some q ∧ (lgOf srt (gNodes ts)).Eqv false r q := by
  obtain ⟨r, h1, h2⟩ := graph_rep h hok hi
  obtain ⟨q, h3, h4⟩ := graph_rep h hok hj
  exact ⟨r, q, h1, h3, fun n => rep_eqN hs (nodes_ok ts 0 h) n r q t (h2 n) ((h4 n).of_unf hu.symm)⟩
/-- Raised by another number, a reference to an action is not equal any more. -/
theorem raised_not {L : LG} {r q : GRef} {p k : Int} (h : L.Eqv false r q) (hp : L.prio r.n = some p) (hk : k ≠ 0) : ¬ L.Eqv false (upG r k) q := by
  intro h2
  have h3 := h.comp.1.2.resolve_left (by decide)
  have h4 := h2.comp.1.2.resolve_left (by decide)
  rw [rp_up, ← h3, LG.rp, hp] at h4
  simp only [Option.map_some, Option.some.injEq] at h4
  omega
/-- .. one that is to no action is. -/
theorem raised_leaf {L : LG} (ok : L.Ok) {r q : GRef} {k : Int} (h : L.Eqv false r q) (hp : L.prio r.n = none) : L.Eqv false (upG r k) q := by
  intro n
  cases n with
  | zero => trivial
  | succ n =>
    obtain ⟨⟨⟨h1, h2⟩, h3⟩, _⟩ := h (n + 1)
    refine ⟨⟨⟨h1, .inr ?_⟩, h3⟩, fun i a b ha _ => ?_⟩
    · have h4 := h2.resolve_left (by decide)
      rw [rp_up, h4, ← h4, LG.rp, hp]
      rfl
    · unfold LG.beh upG at ha
      simp only at ha
      rw [ok.leaf _ hp] at ha
      simp at ha
theorem LG.Eqv.alike {L : LG} {r q : GRef} (h : L.Eqv false r q) : L.Eqv true r q := fun n => eqN_alike n r q (h n)
theorem alike_raised {L : LG} {r q : GRef} (h : L.Eqv true r q) (j k : Int) : L.Eqv true (upG r j) (upG q k) := fun n => alike_up n r q j k (h n)
end
end Go.Proofs.YtjmnaibbljakaaaGreatDoor

/- Equality: types whose labels are in the opposite order. -/
namespace Go.Proofs.YtjmnaibbljakaaaGreatDoor

mutual
/-- All labels in the opposite order. -/
def Ty.turn : Ty → Ty
  | .mk k p n s ls ts => .mk k p n s ls.reverse (if ls = [] then Ty.turns ts else (Ty.turns ts).reverse)
def Ty.turns : List Ty → List Ty
  | [] => []
  | t :: r => t.turn :: Ty.turns r
end
theorem turns_map : ∀ ts : List Ty, Ty.turns ts = ts.map Ty.turn
  | [] => rfl
  | t :: r => by rw [Ty.turns, List.map_cons, turns_map r]
theorem raise_turn (j : Int) : ∀ t : Ty, (t.raise j).turn = t.turn.raise j := by
  refine Ty.ind ?_
  intro k p n s ls ts ih
  rw [Ty.raise, Ty.turn, Ty.turn, Ty.raise]
  congr 1
  have h : Ty.turns (Ty.raises j ts) = (Ty.turns ts).map (Ty.raise j) := by
    rw [turns_map, turns_map, Ty.raises_map, List.map_map, List.map_map]
    exact List.map_congr_left fun t ht => ih t ht
  rw [h, Ty.raises_map]
  split
  · rfl
  · rw [List.map_reverse]
theorem put_turn (x : ByteArray) (b : Ty) : ∀ t : Ty, (Ty.put x b t).turn = Ty.put x b.turn t.turn := by
  refine Ty.ind ?_
  intro k p n s ls ts ih
  rw [Ty.put, putC, Ty.turn, Ty.put, putC]
  by_cases h9 : k = 9 ∧ n = x
  · rw [if_pos h9, if_pos h9, raise_turn]
  · rw [if_neg h9, if_neg h9]
    by_cases h8 : k = 8 ∧ n = x
    · rw [if_pos h8, if_pos h8, Ty.turn]
    · rw [if_neg h8, if_neg h8, Ty.turn]
      congr 1
      have h : Ty.turns (Ty.puts x b ts) = (Ty.turns ts).map (Ty.put x b.turn) := by
        rw [turns_map, turns_map, Ty.puts_map, List.map_map, List.map_map]
        exact List.map_congr_left fun t ht => ih t ht
      rw [h, Ty.puts_map]
      split
      · rfl
      · rw [List.map_reverse]
theorem okg_raise (j : Int) : ∀ t : Ty, t.okg → (t.raise j).okg := by
  refine Ty.ind ?_
  intro k p n s ls ts ih h
  rw [Ty.raise]
  simp only [Ty.okg] at h ⊢
  obtain ⟨h1, h2, h3, h4, h5⟩ := h
  refine ⟨h1, fun e => ?_, fun e => ?_, h4, Ty.okgs_of (fun t ht => ?_)⟩
  · rw [Ty.raises_map, List.length_map]; exact h2 e
  · rw [h3 e, Ty.raises]
  · rw [Ty.raises_map] at ht
    obtain ⟨u, hu, rfl⟩ := List.mem_map.1 ht
    exact ih u hu (Ty.okgs_mem h5 u hu)
theorem okg_put (x : ByteArray) (b : Ty) (hb : b.okg) : ∀ t : Ty, t.okg → (Ty.put x b t).okg := by
  refine Ty.ind ?_
  intro k p n s ls ts ih h
  rw [Ty.put, putC]
  split
  · exact okg_raise s b hb
  · split
    · exact h
    · simp only [Ty.okg] at h ⊢
      obtain ⟨h1, h2, h3, h4, h5⟩ := h
      refine ⟨h1, fun e => ?_, fun e => ?_, h4, Ty.okgs_of (fun t ht => ?_)⟩
      · rw [Ty.puts_map, List.length_map]; exact h2 e
      · rw [h3 e, Ty.puts]
      · rw [Ty.puts_map] at ht
        obtain ⟨u, hu, rfl⟩ := List.mem_map.1 ht
        exact ih u hu (Ty.okgs_mem h5 u hu)
theorem okg_unf : ∀ (f : Nat) (t : Ty), t.okg → (t.unf f).okg
  | 0, t, h => by rw [Ty.unf]; exact h
  | f + 1, .mk k p n s ls [], h => by rw [Ty.unf]; split <;> exact h
  | f + 1, .mk k p n s ls (b :: r), h => by
    rw [Ty.unf]
    split
    · have h' := h
      simp only [Ty.okg, Ty.okgs] at h'
      exact okg_unf f _ (okg_put n _ h b h'.2.2.2.2.1)
    · exact h
theorem turn_rc : ∀ t : Ty, t.okg → t.turn.rc = t.rc := by
  refine Ty.ind ?_
  intro k p n s ls ts ih h
  simp only [Ty.okg] at h
  rw [Ty.turn, Ty.rc, Ty.rc]
  by_cases h8 : k = 8
  · rw [if_pos h8, if_pos h8]
    have hl := h.2.1 h8
    match ts, hl, ih, h with
    | [b], _, ih, h =>
      simp only [Ty.okgs] at h
      rw [Ty.turns, Ty.turns]
      have e : (if ls = [] then [b.turn] else [b.turn].reverse) = [b.turn] := by split <;> rfl
      rw [e, Ty.rc1, Ty.rc1, ih b (by simp) h.2.2.2.2.1]
  · rw [if_neg h8, if_neg h8]
theorem turn_unf : ∀ (f : Nat) (t : Ty), t.okg → (t.unf f).turn = t.turn.unf f
  | 0, t, _ => by rw [Ty.unf, Ty.unf]
  | f + 1, .mk k p n s ls ts, h => by
    have h' := h
    simp only [Ty.okg] at h'
    by_cases h8 : k = 8
    · have hl := h'.2.1 h8
      match ts, hl, h, h' with
      | [b], _, h, h' =>
        simp only [Ty.okgs] at h'
        have e : (if ls = [] then [b.turn] else [b.turn].reverse) = [b.turn] := by split <;> rfl
        have et : (Ty.mk k p n s ls [b]).turn = .mk k p n s ls.reverse [b.turn] := by
          rw [Ty.turn, Ty.turns, Ty.turns, e]
        rw [Ty.unf, if_pos h8, turn_unf f _ (okg_put n _ h b h'.2.2.2.2.1), put_turn, et, Ty.unf, if_pos h8]
    · have e1 : ∀ (ts' : List Ty) (ls' : List ByteArray), (Ty.mk k p n s ls' ts').unf (f + 1) = .mk k p n s ls' ts' := by
        intro ts' ls'
        match ts' with
        | [] => rw [Ty.unf, if_neg h8]
        | b :: r => rw [Ty.unf, if_neg h8]
      rw [e1, Ty.turn, e1]
theorem unfT_turn {t : Ty} (h : t.okg) : unfT t.turn = (unfT t).turn := by
  rw [unfT, turn_rc t h, unfT, turn_unf _ t h]
/-- The index of an element of a list in the opposite order. -/
theorem findIdx_reverse {l : List ByteArray} (hn : l.Nodup) {x : ByteArray} {i : Nat} (h : l.findIdx? (fun y => decide (y = x)) = some i) : l.reverse.findIdx? (fun y => decide (y = x)) = some (l.length - 1 - i) := by
  rw [List.findIdx?_eq_some_iff_getElem] at h ⊢
  obtain ⟨h1, h2, _⟩ := h
  simp only [decide_eq_true_eq] at h2
  refine ⟨by rw [List.length_reverse]; omega, ?_, fun j hj => ?_⟩
  · rw [List.getElem_reverse]
    have : l.length - 1 - (l.length - 1 - i) = i := by omega
    simp only [this, decide_eq_true_eq]
    exact h2
  · rw [List.getElem_reverse]
    simp only [decide_eq_true_eq]
    intro e
    have hl : j < l.length - 1 - i := hj
    exact (List.pairwise_iff_getElem.1 hn) i (l.length - 1 - j) (by omega) (by omega) (by omega) (by rw [h2, e])
end Go.Proofs.YtjmnaibbljakaaaGreatDoor

/- Equality: references to a type and to that with its labels in the opposite order are equal. -/
namespace Go.Proofs.YtjmnaibbljakaaaGreatDoor

theorem turn_eqN {srt : List ByteArray → List ByteArray} {ns : List GNode} (hs : ∀ l : List ByteArray, ∀ x, x ∈ srt l ↔ x ∈ l) (hrev : ∀ l : List ByteArray, srt l.reverse = srt l) (ho : ∀ g ∈ ns, NodeOk g) (hnd : ∀ g ∈ ns, g.ls.Nodup) :
    ∀ (n : Nat) (r q : GRef) (t : Ty), t.okg → REP ns n r t → REP ns n q t.turn → (lgOf srt ns).eqN false n r q
  | 0, _, _, _, _, _, _ => trivial
  | n + 1, r, q, t, hok, ⟨g, h1, h2, h3, h4, h5, h6⟩, ⟨g', k1, k2, k3, k4, k5, k6⟩ => by
    rw [unfT_turn hok] at k2 k3 k4 k5 k6
    have hokv : (unfT t).okg := okg_unf _ _ hok
    obtain ⟨v, hv⟩ : ∃ v, unfT t = v := ⟨_, rfl⟩
    rw [hv] at h2 h3 h4 h5 h6 k2 k3 k4 k5 k6 hokv
    obtain ⟨k, p, m, s, ls, ts⟩ := v
    have h2' : g.k = k := h2
    have h4' : g.ls = ls := h4
    have h5' : g.nx.length = ts.length := h5
    have k2' : g'.k = k := k2
    have k4' : g'.ls = ls.reverse := k4
    have k5' : g'.nx.length = (if ls = [] then Ty.turns ts else (Ty.turns ts).reverse).length := k5
    have h3' : actI g.k = true → g.p + r.s = p := h3
    have k3' : actI g'.k = true → g'.p + q.s = p := k3
    have h6' : ∀ (i : Nat) (c : GRef) (u : Ty), g.nx[i]? = some c → ts[i]? = some u → REP ns n (upG c r.s) u := h6
    have k6' : ∀ (i : Nat) (c : GRef) (u : Ty), g'.nx[i]? = some c → (if ls = [] then Ty.turns ts else (Ty.turns ts).reverse)[i]? = some u → REP ns n (upG c q.s) u := k6
    simp only [Ty.okg] at hokv
    have hoks := Ty.okgs_mem hokv.2.2.2.2
    have hk : g.k = g'.k := h2'.trans k2'.symm
    have o1 := ho g (List.mem_of_getElem? h1)
    have o2 := ho g' (List.mem_of_getElem? k1)
    refine ⟨⟨⟨?_, .inr ?_⟩, ?_⟩, fun i a b ha hb => ?_⟩
    · simp only [lgOf, h1, k1]; exact hk
    · simp only [LG.rp, lgOf, h1, k1]
      by_cases ha : actI g.k = true
      · rw [if_pos ha, if_pos (by rw [← hk]; exact ha)]
        simp only [Option.map_some, Option.some.injEq]
        rw [h3' ha, k3' (by rw [← hk]; exact ha)]
      · rw [if_neg ha, if_neg (by rw [← hk]; exact ha)]
        rfl
    · simp only [lgOf, h1, k1]; rw [h4', k4', hrev]
    · have step : ∀ (j j' : Nat) (c d : GRef) (u : Ty), g.nx[j]? = some c → g'.nx[j']? = some d → ts[j]? = some u → (if ls = [] then Ty.turns ts else (Ty.turns ts).reverse)[j']? = some u.turn → (lgOf srt ns).eqN false n (upG c r.s) (upG d q.s) := by
        intro j j' c d u hc hd hu hu'
        exact turn_eqN hs hrev ho hnd n _ _ u (hoks u (List.mem_of_getElem? hu)) (h6' j c u hc hu) (k6' j' d _ hd hu')
      simp only [LG.beh, lgOf, h1, k1] at ha hb
      rw [List.getElem?_map] at ha hb
      obtain ⟨c, hc, rfl⟩ := Option.map_eq_some_iff.1 ha
      obtain ⟨d, hd, rfl⟩ := Option.map_eq_some_iff.1 hb
      have tsat : ∀ (j : Nat), j < ts.length → ∃ u, ts[j]? = some u := fun j hj => ⟨_, List.getElem?_eq_getElem hj⟩
      by_cases he : ls = []
      · subst he
        unfold chE at hc hd
        rw [if_pos h4'] at hc
        rw [if_pos (by rw [k4']; rfl)] at hd
        obtain ⟨u, hu⟩ := tsat i (by rw [← h5']; exact (List.getElem?_eq_some_iff.1 hc).1)
        exact step i i c d u hc hd hu (by rw [if_pos rfl, turns_map, List.getElem?_map, hu]; rfl)
      · have heg : g.ls ≠ [] := by rw [h4']; exact he
        have heg' : g'.ls ≠ [] := by rw [k4']; simpa using he
        have hk6 : g.k = 6 ∨ g.k = 7 := by
          have h1 := o1.kind
          by_cases h4 : g.k ≤ 3
          · exact absurd (o1.leaf h4).1 heg
          · by_cases h5 : g.k = 4 ∨ g.k = 5
            · exact absurd (o1.two h5).1 heg
            · omega
        have hall : ∀ x ∈ srt g.ls, ∃ y, atLab g x = some y := fun x hx => atLab_some (o1.many hk6).2 ((hs _ x).1 hx)
        have hall' : ∀ x ∈ srt g'.ls, ∃ y, atLab g' x = some y := fun x hx => atLab_some (o2.many (by rw [← hk]; exact hk6)).2 ((hs _ x).1 hx)
        unfold chE at hc hd
        rw [if_neg heg] at hc
        rw [if_neg heg'] at hd
        obtain ⟨l1, e1, e2⟩ := filterMap_at _ hall i c hc
        obtain ⟨l2, f1, f2⟩ := filterMap_at _ hall' i d hd
        rw [k4', hrev, ← h4'] at f1
        obtain rfl := Option.some.inj (e1.symm.trans f1)
        unfold atLab at e2 f2
        rw [k4'] at f2
        rw [h4'] at e2
        cases hi : ls.findIdx? (fun x => decide (x = l1)) with
        | none => rw [hi] at e2; cases e2
        | some j =>
          have hnl : ls.Nodup := by rw [← h4']; exact hnd g (List.mem_of_getElem? h1)
          rw [findIdx_reverse hnl hi] at f2
          rw [hi] at e2
          have e2' : g.nx[j]? = some c := e2
          have f2' : g'.nx[ls.length - 1 - j]? = some d := f2
          have hj : j < ts.length := by rw [← h5']; exact (List.getElem?_eq_some_iff.1 e2').1
          have hll : ls.length = ts.length := by rw [← h4', ← (o1.many hk6).2, h5']
          obtain ⟨u, hu⟩ := tsat j hj
          refine step j (ls.length - 1 - j) c d u e2' f2' hu ?_
          rw [if_neg he, List.getElem?_reverse (by rw [turns_map, List.length_map]; omega), turns_map, List.length_map, List.getElem?_map]
          have : ts.length - 1 - (ls.length - 1 - j) = j := by omega
          rw [this, hu]
          rfl
theorem turns_eqv {srt : List ByteArray → List ByteArray} (hs : ∀ l : List ByteArray, ∀ x, x ∈ srt l ↔ x ∈ l) (hrev : ∀ l : List ByteArray, srt l.reverse = srt l) {ts : List Ty} (h : ∀ t ∈ ts, nodeR [] 0 false t = 0) (hok : Ty.okgs ts) (hnd : ∀ g ∈ gNodes ts, g.ls.Nodup) {i j : Nat} {t : Ty} (hi : ts[i]? = some t) (hj : ts[j]? = some t.turn) :
    ∃ r q, (gRefs ts)[i]? = some r ∧ (gRefs ts)[j]? = some q ∧ (lgOf srt (gNodes ts)).Eqv false r q := by
  obtain ⟨r, h1, h2⟩ := graph_rep h hok hi
  obtain ⟨q, h3, h4⟩ := graph_rep h hok hj
  exact ⟨r, q, h1, h3, fun n => turn_eqN hs hrev (nodes_ok ts 0 h) hnd n r q t (Ty.okgs_mem hok t (List.mem_of_getElem? hi)) (h2 n) (h4 n)⟩
end Go.Proofs.YtjmnaibbljakaaaGreatDoor

/- Equality: the labels of right types differ; right types with their labels in the opposite order are right. -/
namespace Go.Proofs.YtjmnaibbljakaaaGreatDoor

theorem shape_nodup {k p s : Int} {n : ByteArray} {ls : List ByteArray} {m : Nat} (h : shapeC k p s n ls m = true) : ls.Nodup := by
  have key : ls.isEmpty = true → ls.Nodup := fun h => by rw [List.isEmpty_iff.1 h]; exact List.nodup_nil
  unfold shapeC at h
  repeat' split at h
  all_goals try simp only [Bool.and_eq_true] at h
  · exact key h.2.2.2.1
  · exact key h.2.2.2.1
  · have h1 := h.2.2.2.2.1
    unfold labelsB at h1
    simp only [Bool.and_eq_true, decide_eq_true_eq] at h1
    exact h1.2
  · exact key h.2.2.2.1
  · exact key h.2.2.2.1
  · cases h
theorem pnod_nodup : ∀ (u : Ty) (names : List ByteArray) (g : Nat) (se : Bool) (i : Nat) (e : ByteArray → Nat), nodeR names g se u = 0 → ∀ x ∈ u.pnod i e, x.ls.Nodup := by
  refine Ty.ind ?_
  intro k p n s ls ts ih names g se i e h x hx
  obtain ⟨hs, h2⟩ := nodeR_shape h
  have many : ∀ (l : List Ty), (∀ t ∈ l, t ∈ ts) → ∀ (names : List ByteArray) (g : Nat) (i : Nat) (e : ByteArray → Nat), (∀ t ∈ l, ∃ se, nodeR names g se t = 0) → ∀ x ∈ Ty.pnods i e l, x.ls.Nodup := by
    intro l
    induction l with
    | nil => intro _ _ _ i e _ x hx; rw [Ty.pnods] at hx; cases hx
    | cons t r ihl =>
      intro hm names g i e hr x hx
      rw [Ty.pnods] at hx
      rcases List.mem_append.1 hx with hx | hx
      · obtain ⟨se', h3⟩ := hr t (by simp)
        exact ih t (hm t (by simp)) names g se' i e h3 x hx
      · exact ihl (fun u hu => hm u (by simp [hu])) names g _ e (fun u hu => hr u (by simp [hu])) x hx
  rw [Ty.pnod] at hx
  by_cases h8 : k = 8
  · subst h8
    rw [if_pos rfl] at hx
    rw [if_neg (by decide), if_pos rfl] at h2
    match ts, ih, h2, hx with
    | [], _, _, hx => rw [Ty.pnod1] at hx; cases hx
    | b :: r, ih, h2, hx =>
      rw [Ty.pnod1] at hx
      obtain ⟨se', h3⟩ := kidsR_mem _ _ h2 b (by simp)
      exact ih b (by simp) _ _ se' _ _ h3 x hx
  · rw [if_neg h8] at hx
    by_cases h9 : k = 9
    · rw [if_pos h9] at hx; cases hx
    · rw [if_neg h9] at hx
      rw [if_neg h9, if_neg h8] at h2
      rcases List.mem_cons.1 hx with rfl | hx
      · exact shape_nodup hs
      · exact many ts (fun t ht => ht) _ _ _ e (kidsR_mem _ _ h2) x hx
theorem nodes_nodup : ∀ (ts : List Ty) (i : Nat), (∀ t ∈ ts, nodeR [] 0 false t = 0) → ∀ g ∈ Ty.pnods i (fun _ => 0) ts, g.ls.Nodup
  | [], _, _, g, hg => by rw [Ty.pnods] at hg; cases hg
  | t :: r, i, h, g, hg => by
    rw [Ty.pnods] at hg
    rcases List.mem_append.1 hg with hg | hg
    · exact pnod_nodup t [] 0 false i _ (h t (by simp)) g hg
    · exact nodes_nodup r _ (fun u hu => h u (by simp [hu])) g hg

/-! ### Turned types are right -/
theorem labelsB_reverse (ls : List ByteArray) : labelsB ls.reverse = labelsB ls := by
  unfold labelsB
  rw [List.all_reverse]
  congr 1
  rw [decide_eq_decide]
  rw [List.Nodup, List.pairwise_reverse]
  exact ⟨fun h => h.imp Ne.symm, fun h => h.imp Ne.symm⟩
theorem shape_reverse (k p s : Int) (n : ByteArray) (ls : List ByteArray) (m : Nat) : shapeC k p s n ls.reverse m = shapeC k p s n ls m := by
  unfold shapeC
  rw [labelsB_reverse, List.isEmpty_reverse, List.length_reverse]
theorem kidsR_of {names : List ByteArray} {g : Nat} : ∀ (l : List Ty) (i : Nat), (∀ t ∈ l, nodeR names g true t = 0) → kidsR names g true i l = 0
  | [], _, _ => by rw [kidsR]
  | u :: r, i, h => by
    rw [kidsR, Bool.true_or, if_pos (h u (by simp))]
    exact kidsR_of r (i + 1) (fun t ht => h t (by simp [ht]))
theorem kidsR_each {names : List ByteArray} {g : Nat} : ∀ (l : List Ty) (i : Nat), kidsR names g true i l = 0 → ∀ t ∈ l, nodeR names g true t = 0
  | [], _, _, _, h => by cases h
  | u :: r, i, h, t, ht => by
    rw [kidsR, Bool.true_or] at h
    by_cases h0 : nodeR names g true u = 0
    · rw [if_pos h0] at h
      rcases List.mem_cons.1 ht with rfl | ht
      · exact h0
      · exact kidsR_each r (i + 1) h t ht
    · rw [if_neg h0] at h
      exact absurd h h0
theorem kidsR_map {names : List ByteArray} {g : Nat} {f : Bool} {F : Ty → Ty} : ∀ (l : List Ty) (i : Nat), (∀ t ∈ l, ∀ se, nodeR names g se t = 0 → nodeR names g se (F t) = 0) → kidsR names g f i l = 0 → kidsR names g f i (l.map F) = 0
  | [], _, _, h => by rw [List.map_nil, kidsR]
  | u :: r, i, hF, h => by
    rw [kidsR] at h
    by_cases h0 : nodeR names g (f || decide (0 < i)) u = 0
    · rw [if_pos h0] at h
      rw [List.map_cons, kidsR, if_pos (hF u (by simp) _ h0)]
      exact kidsR_map r (i + 1) (fun t ht => hF t (by simp [ht])) h
    · rw [if_neg h0] at h
      exact absurd h h0
theorem nodeR_turn : ∀ (u : Ty) (names : List ByteArray) (g : Nat) (se : Bool), nodeR names g se u = 0 → nodeR names g se u.turn = 0 := by
  refine Ty.ind ?_
  intro k p n s ls ts ih names g se h
  obtain ⟨hs, h2⟩ := nodeR_shape h
  obtain ⟨ts', hts⟩ : ∃ l, (if ls = [] then Ty.turns ts else (Ty.turns ts).reverse) = l := ⟨_, rfl⟩
  have hlen : ts'.length = ts.length := by
    rw [← hts, turns_map]
    split <;> simp
  have hsh : shapeC k p s n ls.reverse ts'.length = true := by rw [shape_reverse, hlen]; exact hs
  have hse : ¬ (shapeC k p s n ls.reverse ts'.length = false ∨ (se = true ∧ sessK k = false)) := by
    rw [nodeR] at h
    intro hc
    split at h
    · exact absurd h (by decide)
    · next hn =>
      refine hn (hc.imp (fun e => ?_) id)
      rw [hsh] at e
      cases e
  rw [Ty.turn, hts, nodeR, if_neg hse]
  by_cases h9 : k = 9
  · rw [if_pos h9] at h2 ⊢
    exact h2
  · rw [if_neg h9] at h2 ⊢
    have plain : ∀ (names : List ByteArray) (g : Nat) (f : Bool), ls = [] → kidsR names g f 0 ts = 0 → kidsR names g f 0 ts' = 0 := by
      intro names g f he h
      rw [← hts, if_pos he, turns_map]
      exact kidsR_map ts 0 (fun t ht se h => ih t ht names g se h) h
    by_cases h8 : k = 8
    · rw [if_pos h8] at h2 ⊢
      refine plain _ _ _ ?_ h2
      subst h8
      unfold shapeC at hs
      repeat' split at hs
      all_goals first | omega | (simp at hs; exact hs.2.2.2.1) | simp_all
    · rw [if_neg h8] at h2 ⊢
      by_cases he : ls = []
      · exact plain _ _ _ he h2
      · have hk : 5 < k := by
          unfold shapeC at hs
          repeat' split at hs
          all_goals try simp only [Bool.and_eq_true, List.isEmpty_iff] at hs
          · exact absurd hs.2.2.2.1 he
          · exact absurd hs.2.2.2.1 he
          · omega
          · cases hs
        rw [decide_eq_true hk] at h2 ⊢
        refine kidsR_of _ _ (fun t ht => ?_)
        rw [← hts, if_neg he, List.mem_reverse, turns_map] at ht
        obtain ⟨u, hu, rfl⟩ := List.mem_map.1 ht
        exact ih u hu _ _ _ (kidsR_each ts 0 h2 u hu)
end Go.Proofs.YtjmnaibbljakaaaGreatDoor

/- Equality: labels in the order of their bytes. -/
namespace Go.Proofs.YtjmnaibbljakaaaGreatDoor

def ofL (l : List UInt8) : ByteArray := ⟨l.toArray⟩
def leL (x y : List UInt8) : Bool := decide (x ≤ y)
/-- Labels, sorted by bytes. -/
def srtL (ls : List ByteArray) : List ByteArray := ((ls.map (fun s => s.data.toList)).mergeSort leL).map ofL
theorem ofL_toL (s : ByteArray) : ofL s.data.toList = s := by
  obtain ⟨d⟩ := s
  simp [ofL]
theorem toL_inj {s u : ByteArray} (h : s.data.toList = u.data.toList) : s = u := by
  rw [← ofL_toL s, ← ofL_toL u, h]
theorem srtL_mem (l : List ByteArray) (x : ByteArray) : x ∈ srtL l ↔ x ∈ l := by
  unfold srtL
  rw [List.mem_map]
  constructor
  · rintro ⟨b, hb, rfl⟩
    rw [List.mem_mergeSort] at hb
    obtain ⟨s, hs, rfl⟩ := List.mem_map.1 hb
    rw [ofL_toL]; exact hs
  · intro hx
    exact ⟨x.data.toList, by rw [List.mem_mergeSort]; exact List.mem_map.2 ⟨x, hx, rfl⟩, ofL_toL x⟩
theorem srtL_nil (l : List ByteArray) : srtL l = [] ↔ l = [] := by
  constructor
  · intro h
    refine List.eq_nil_iff_forall_not_mem.2 fun x hx => ?_
    have := (srtL_mem l x).2 hx
    rw [h] at this
    cases this
  · rintro rfl
    simp [srtL]
theorem leL_trans (a b c : List UInt8) (h : leL a b = true) (k : leL b c = true) : leL a c = true := by
  unfold leL at *
  simp only [decide_eq_true_eq] at *
  exact List.le_trans h k
theorem leL_total (a b : List UInt8) : (leL a b || leL b a) = true := by
  unfold leL
  simp only [Bool.or_eq_true, decide_eq_true_eq]
  exact List.le_total a b
theorem sort_perm {l r : List (List UInt8)} (h : l.Perm r) : l.mergeSort leL = r.mergeSort leL := by
  refine List.Perm.eq_of_pairwise (le := fun a b => leL a b = true) (fun a b _ _ h1 h2 => ?_) (List.pairwise_mergeSort leL_trans leL_total l) (List.pairwise_mergeSort leL_trans leL_total r) ?_
  · unfold leL at h1 h2
    simp only [decide_eq_true_eq] at h1 h2
    exact List.le_antisymm h1 h2
  · exact (List.mergeSort_perm l leL).trans (h.trans (List.mergeSort_perm r leL).symm)
theorem srtL_reverse (l : List ByteArray) : srtL l.reverse = srtL l := by
  unfold srtL
  rw [sort_perm ((List.reverse_perm l).map _)]
theorem srtL_length (l : List ByteArray) : (srtL l).length = l.length := by
  unfold srtL
  rw [List.length_map, List.length_mergeSort, List.length_map]
/-- The graph of right types, as the program's equality sees it. -/
def lgT (ts : List Ty) : LG := lgOf srtL (gNodes ts)
theorem lgT_ok {ts : List Ty} (h : ∀ t ∈ ts, nodeR [] 0 false t = 0) : (lgT ts).Ok := right_ok srtL_mem srtL_nil h
theorem lgT_unfolds {ts : List Ty} (h : ∀ t ∈ ts, nodeR [] 0 false t = 0) (hok : Ty.okgs ts) {i j : Nat} {t u : Ty} (hi : ts[i]? = some t) (hj : ts[j]? = some u) (hu : unfT t = unfT u) :
    ∃ r q, (gRefs ts)[i]? = some r ∧ (gRefs ts)[j]? = some q ∧ (lgT ts).Eqv false r q := unfolds_eqv srtL_mem h hok hi hj hu
theorem lgT_turns {ts : List Ty} (h : ∀ t ∈ ts, nodeR [] 0 false t = 0) (hok : Ty.okgs ts) {i j : Nat} {t : Ty} (hi : ts[i]? = some t) (hj : ts[j]? = some t.turn) :
    ∃ r q, (gRefs ts)[i]? = some r ∧ (gRefs ts)[j]? = some q ∧ (lgT ts).Eqv false r q := turns_eqv srtL_mem srtL_reverse h hok (nodes_nodup ts 0 h) hi hj
end Go.Proofs.YtjmnaibbljakaaaGreatDoor
