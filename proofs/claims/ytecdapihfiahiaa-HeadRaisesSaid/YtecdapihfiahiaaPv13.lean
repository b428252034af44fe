/- Heads: a range over a function whose body makes rows of its own; slices.Values, slices.AppendSeq. (and what follows from it) -/
import Derived.Test.YtecdapihfiahiaaPv12
import Derived.Shelf.SortM.Plain
import Derived.Ground.SlgmProg
import Derived.Sort.OwnSorted

/- Heads: a range over a function whose body makes rows of its own; slices.Values, slices.AppendSeq. -/
namespace Go.Proofs.Ytecdapihfiahiaa
open Go.RowKit Go.Deep Go.Shelf
attribute [local go_sem] Oper.semAt_some

/-- J abides whatever is done to one block from B on that is no cells, and new blocks. -/
def AbidesN {β : Type} (B : Nat) (J : β → World → Prop) : Prop :=
  ∀ s W W' row, J s W → W.grownBy W' row → (∀ r, row = some r → B ≤ r ∧ ∃ o : Obj, W.heap[r]? = some o ∧ o.isCells = false) → J s W'
theorem AbidesN.alloc {β : Type} {B : Nat} {J : β → World → Prop} (h : AbidesN B J) {s : β} {W : World} (o : Obj) (hs : J s W) : J s (W.alloc o) :=
  h s W _ none hs (World.grownBy_alloc W o none) (fun r e => by cases e)
theorem AbidesN.put {β : Type} {B : Nat} {J : β → World → Prop} (h : AbidesN B J) {s : β} {W : World} {l : Nat} (o : Obj) (hs : J s W) (hB : B ≤ l) {o' : Obj} (hl : W.heap[l]? = some o') (hc : o'.isCells = false) : J s (W.putObj l o) :=
  h s W _ (some l) hs (grownBy_putObj' W l o) (fun r e => by cases e; exact ⟨hB, o', hl, hc⟩)
theorem AbidesN.and {β : Type} {B : Nat} {J K : β → World → Prop} (h : AbidesN B J) (k : AbidesN B K) : AbidesN B (fun s W => J s W ∧ K s W) :=
  fun s A B' row hs hg hr => ⟨h s A B' row hs.1 hg hr, k s A B' row hs.2 hg hr⟩
theorem AbidesN.mono {β : Type} {B C : Nat} {J : β → World → Prop} (h : AbidesN B J) (hBC : B ≤ C) : AbidesN C J :=
  fun s A B' row hs hg hr => h s A B' row hs hg (fun r e => ⟨Nat.le_trans hBC (hr r e).1, (hr r e).2⟩)
theorem AbidesAll.toN {β : Type} {B : Nat} {J : β → World → Prop} (h : AbidesAll B J) : AbidesN B J := fun s A B' row hs hg hr => h s A B' row hs hg (fun r e => (hr r e).1)
theorem abidesN_block {β : Type} {B k : Nat} {o : Obj} (hk : k < B) : AbidesN B (fun (_ : β) W => W.heap[k]? = some o) := (abidesAll_block hk).toN

def TellsN {α : Type} (F : Fence) (n : Nat) (P : Program) (g : Nat) (lb : Array Value) (encs : α → Array Value) (Px : List α → α → World → Prop) (Kp : World → World → Prop) (S Sp : List α → Prop) (w : World) : Prop :=
  ∀ (l : Nat) (J Jx : List α → World → Prop) (W : World), Below w.heap.size w W → AbidesN W.heap.size J → AbidesN W.heap.size Jx →
    (∀ pre x W1, J pre W1 → Px pre x W1 → YieldAt F (n - 1) P l (encs x) W1 fun e W' =>
      (e = .returned (.bool true) ∧ J (pre ++ [x]) W' ∧ Kp W1 W') ∨ (e = .returned (.bool false) ∧ Jx (pre ++ [x]) W')) →
    J [] W →
    CallsIn F n P g (#[.func (.yield l) #[] #[]] ++ lb) W fun e W' => (∃ v, e = .returned v) ∧ ((∃ xs, S xs ∧ J xs W') ∨ (∃ pre, Sp pre ∧ Jx pre W'))

variable {F : Fence} {n : Nat} {P : Program}

theorem wpIn_range_toldN {α : Type} {g : Operand} {ps : Array Tmp} {assign body : Code} {Q : Exit → Act → World → Prop} {a : Act} {w : World}
    (hro : F.round = none) (h1 : 1 ≤ n) {gf : Nat} {lb : Array Value} (hg : a.eval g = .func (.func gf) #[] lb) (hFg : F.fn gf) (eg : ∀ args w, (callFunc gf args).run P w = .ok (.enter gf args) w)
    {encs : α → Array Value} {Px : List α → α → World → Prop} {Kp : World → World → Prop} {S Sp : List α → Prop} {w0 : World} (hseq : TellsN F (n - 1) P gf lb encs Px Kp S Sp w0)
    (hKt : ∀ {A B C : World}, Kp A B → Kp B C → Kp A C) (hKb : ∀ (W : World) (l : Nat) (o o' : Obj), w.heap.size ≤ l → W.heap[l]? = some o → o.isCells = false → o.isWalk = false → Kp W (W.putObj l o'))
    (hPx : ∀ pre x A B, CellsKept A B → Px pre x A → Px pre x B) (hb0 : Below w0.heap.size w0 w) (hps : ∀ x, (encs x).size = ps.size)
    (I : List α → World → Prop) (Ix : Code → List α → World → Prop) (hI : AbidesN w.heap.size I) (hIx : ∀ c, AbidesN w.heap.size (Ix c)) (h0 : I [] w) (Ax : α → Act → World → Prop) (hAx : ∀ x a' A B, CellsKept A B → Ax x a' A → Ax x a' B)
    (hassign : ∀ (l : Nat) (pre : List α) (x : α) (W : World) (K : Act → World → Prop), I pre W → Px pre x W → (∀ a' W', KeepsFrom w.heap.size W W' → Kp W W' → I pre W' → Px pre x W' → Ax x a' W' → K a' W') →
      assign.wpIn (F.inRound l) (n - 1 - 1) P (Exit.then K (fun _ _ _ => False)) { tmps := (ps.zip (encs x)).foldl (fun t (p, v) => t.setIfInBounds p v) a.tmps, defers := [] } W)
    (hbody : ∀ (l : Nat) (pre : List α) (x : α) (a' : Act) (W : World), w.heap.size ≤ l → (∃ r, W.heap[l]? = some (.loop r)) → I pre W → Px pre x W → Ax x a' W → body.wpIn (F.inRound l) (n - 1 - 1) P (ownPostG w.heap.size Kp I Ix (pre ++ [x]) W) a' W)
    (hdone : ∀ (D : Nat) (xs : List α) (W : World), w.heap.size ≤ D → S xs → I xs W → W.heap[D]? = some (.deferred (some [])) → Q .normal { a with defers := { target := .collected D, args := #[] } :: a.defers } W)
    (hstop : ∀ (D : Nat) (c : Code) (pre : List α) (W : World), w.heap.size ≤ D → Sp pre → Ix c pre W → W.heap[D]? = some (.deferred (some [])) → c.wpIn F n P Q { a with defers := { target := .collected D, args := #[] } :: a.defers } W) :
    (Code.rangeFunc g ps assign body).wpIn F n P Q a w := by
  refine wpIn_rangeFunc ?_
  intro fn hfn
  rw [hro]
  generalize hL : w.heap.size + 1 = L
  have hLw : w.heap.size < L := by omega
  let rec_ (st : LoopState) (pe : Option Code) : Loop := { state := st, pending := pe, fn, tmps := a.tmps, params := ps, assign, body, defers := w.heap.size }
  obtain ⟨W1, hW1⟩ : ∃ W1, (w.alloc (.deferred (some []))).alloc (.loop (rec_ .ready none)) = W1 := ⟨_, rfl⟩
  have hs1 : W1.heap.size = L + 1 := by rw [← hW1]; simp; omega
  have hL1 : W1.heap[L]? = some (.loop (rec_ .ready none)) := by
    have h := World.alloc_heap_new (w.alloc (.deferred (some []))) (.loop (rec_ .ready none))
    rw [World.size_alloc, hL, hW1] at h; exact h
  have hK1 : W1.heap[w.heap.size]? = some (.deferred (some [])) := by
    rw [← hW1]; exact (Below.heap_alloc _ _ _ (by simp)).trans (World.alloc_heap_new w _)
  have hI1 : I [] W1 := by rw [← hW1]; exact hI.alloc _ (hI.alloc _ h0)
  have hb1 : Below w0.heap.size w0 W1 := by
    rw [← hW1]; exact hb0.trans ((((Below.refl _ w).alloc (Nat.le_refl _) _).alloc (by simp) _).mono hb0.size)
  refine ⟨L, [{ target := .collected w.heap.size, args := #[] }], W1, { target := .fn (.func gf) lb, args := #[.func (.yield L) #[] #[]] }, W1, gf, #[.func (.yield L) #[] #[]] ++ lb, W1, ?_, ?_, ?_, ?_, fun _ => h1, ?_⟩
  · rw [← hW1, ← hL]; exact run_enterLoop_outer _ _ _ _ _
  · simp only [resolve, hg]
    simp [go_sem]
  · intro f' hf'; simp [Target.leads] at hf'; subst hf'; exact hFg
  · simp [invoke, go_sem, eg]
  refine (hseq L (fun pre W => I pre W ∧ W.heap[L]? = some (.loop (rec_ .ready none)) ∧ W.heap[w.heap.size]? = some (.deferred (some [])))
    (fun pre W => ∃ c, Ix c pre W ∧ W.heap[L]? = some (.loop (rec_ .done (some c))) ∧ W.heap[w.heap.size]? = some (.deferred (some []))) W1 hb1
    ((hI.mono (by omega)).and ((abidesN_block (by omega)).and (abidesN_block (by omega)))) ?_ ?_ ⟨hI1, hL1, hK1⟩).mono ?_
  · rintro s A B row ⟨c, hc⟩ hg' hr
    exact ⟨c, ((hIx c).mono (by omega)).and ((abidesN_block (by omega)).and (abidesN_block (by omega))) s A B row hc hg' hr⟩
  · -- one round
    rintro pre x W ⟨hi, hl, hk⟩ hpx
    have hy := run_yield (P := P) (args := encs x) hl (hps x)
    refine ⟨fn, _, assign, body, hy, roundIn_of_wpIn hfn (hassign _ pre x W _ hi hpx ?_)⟩
    clear hy
    intro a' V hkf hkp hiV hpV hax
    have hlV := hkf.same _ _ (by omega) hl rfl
    have hkV := hkf.same _ _ (Nat.le_refl _) hk rfl
    refine ⟨_, run_beginRound hlV rfl, ?_⟩
    have hl2 : (V.putObj L (.loop (rec_ .busy none))).heap[L]? = some (.loop (rec_ .busy none)) := World.putObj_heap_same (Array.getElem?_eq_some_iff.1 hlV).1
    have hk2 : (V.putObj L (.loop (rec_ .busy none))).heap[w.heap.size]? = some (.deferred (some [])) := (World.putObj_heap_other (by omega)).trans hkV
    have hp2 : Kp V (V.putObj L (.loop (rec_ .busy none))) := hKb _ _ _ _ (by omega) hlV rfl rfl
    refine wpIn_mono (hbody _ pre x a' _ (by omega) ⟨_, hl2⟩ (hI.put _ hiV (by omega) hlV rfl) (hPx pre x _ _ (cellsKept_put hlV rfl) hpV) (hAx x a' _ _ (cellsKept_put hlV rfl) hax)) ?_
    have fin : ∀ (jump : Option Code) (X : World), KeepsFrom w.heap.size (V.putObj L (.loop (rec_ .busy none))) X →
        (Instr.endRound L jump).run P X = .ok (.bool jump.isNone) (X.putObj L (.loop (rec_ (if jump.isNone then .ready else .done) jump))) ∧ X.heap[L]? = some (.loop (rec_ .busy none)) ∧
        (X.putObj L (.loop (rec_ (if jump.isNone then .ready else .done) jump))).heap[L]? = some (.loop (rec_ (if jump.isNone then .ready else .done) jump)) ∧
        (X.putObj L (.loop (rec_ (if jump.isNone then .ready else .done) jump))).heap[w.heap.size]? = some (.deferred (some [])) := fun jump X hX => by
      have h3 := hX.same _ _ (by omega) hl2 rfl
      exact ⟨run_endRound (P := P) jump h3, h3, World.putObj_heap_same (Array.getElem?_eq_some_iff.1 h3).1, (World.putObj_heap_other (by omega)).trans (hX.same _ _ (Nat.le_refl _) hk2 rfl)⟩
    rintro e a3 X hp
    cases e with
    | normal =>
      obtain ⟨hX, hkp3, hi3⟩ := hp
      obtain ⟨hr, hl3, hl4, hk4⟩ := fin none X hX
      exact ⟨_, _, hr, .inl ⟨rfl, ⟨hI.put _ hi3 (by omega) hl3 rfl, hl4, hk4⟩, hKt hkp (hKt (hKt hp2 hkp3) (hKb _ _ _ _ (by omega) hl3 rfl rfl))⟩⟩
    | ret =>
      obtain ⟨hX, hi3⟩ := hp
      obtain ⟨hr, hl3, hl4, hk4⟩ := fin (some .ret) X hX
      exact ⟨_, _, hr, .inr ⟨rfl, .ret, (hIx _).put _ hi3 (by omega) hl3 rfl, hl4, hk4⟩⟩
    | exit id =>
      obtain ⟨hX, hi3⟩ := hp
      obtain ⟨hr, hl3, hl4, hk4⟩ := fin (some (.exit id)) X hX
      exact ⟨_, _, hr, .inr ⟨rfl, .exit id, (hIx _).put _ hi3 (by omega) hl3 rfl, hl4, hk4⟩⟩
    | goto t =>
      obtain ⟨hX, hi3⟩ := hp
      obtain ⟨hr, hl3, hl4, hk4⟩ := fin (some (.goto t)) X hX
      exact ⟨_, _, hr, .inr ⟨rfl, .goto t, (hIx _).put _ hi3 (by omega) hl3 rfl, hl4, hk4⟩⟩
    | panic ch => exact hp.elim
    | outgrown => exact hp.elim
  · -- behind the iterator
    rintro e W2 ⟨⟨v, rfl⟩, (⟨xs, hS, hi, hl, hk⟩ | ⟨pre, hSp, c, hi, hl, hk⟩)⟩
    · exact ⟨none, _, run_endLoop (P := P) hl (by simp [rec_]), hdone _ xs _ (Nat.le_refl _) hS (hI.put _ hi (by omega) hl rfl) ((World.putObj_heap_other (by omega)).trans hk)⟩
    · exact ⟨some c, _, run_endLoop (P := P) hl (by simp [rec_]), hstop _ c pre _ (Nat.le_refl _) hSp ((hIx c).put _ hi (by omega) hl rfl) ((World.putObj_heap_other (by omega)).trans hk)⟩


/-! ### slices.Values -/
abbrev slO (ra : Option Addr) (rn rc : Nat) : Obj := .cells #[.slice ra rn rc] 41
set_option maxRecDepth 100000 in
set_option maxHeartbeats 4000000 in
/-- The iterator of values tells the values. -/
theorem vals_tells (n B0 bl : Nat) (ls : List ByteArray) (ra : Option Addr) (rn rc : Nat) (X : Nat → Prop) (w : World) (hX : ∀ k, X k → B0 ≤ k) (hB0 : B0 ≤ w.heap.size) (hbl : bl < B0)
    (hc : w.heap[bl]? = some (slO ra rn rc)) (hls : StrSl (fun k => k < B0) w (.slice ra rn rc) ls) (hrl : rn ≤ 1000000) :
    TellsN Fence.wide n Try.prog 32 #[.pointer (some ⟨bl, 0, none⟩)] (fun s : ByteArray => #[.string s]) (fun pre x _ => pre ++ [x] <+: ls) (Kp X) (fun ys => ys = ls) (fun pre => pre <+: ls) w := by
  intro l J Jx W hW hJ _ hY h0
  have hY' : ∀ m pre x W1, J pre W1 → pre ++ [x] <+: ls → YieldAt Fence.wide m Try.prog l #[.string x] W1 fun e W' => (e = .returned (.bool true) ∧ J (pre ++ [x]) W' ∧ Kp X W1 W') ∨ (e = .returned (.bool false) ∧ Jx (pre ++ [x]) W') :=
    fun m pre x W1 hj hpx => yield_any rfl m (hY pre x W1 hj hpx)
  have hkW : Keeps (fun k => k < B0) w W := hW.keeps'.mono (fun k hk => Nat.lt_of_lt_of_le hk hB0)
  obtain ⟨_, _, _, e, hrn, _, hget⟩ := (hls.keep hkW).open
  simp only [Value.slice.injEq] at e
  obtain ⟨rfl, rfl, rfl⟩ := e
  have hcW : W.heap[bl]? = some (slO ra rn rc) := (hW.block _ (by omega)).trans hc
  have hkv : ∀ V, Kp X W V → Keeps (fun k => k < B0) W V := fun V h => h.keeps (fun k hk => ⟨fun hx => by have := hX k hx; omega, by simp [Value.ownBlock]⟩)
  have HCELL : Hid (∀ V, Kp X W V → ∀ i r, ls[i]? = some r → ∃ b o, ra = some ⟨b, o, none⟩ ∧ V.cell? ⟨b, o + i, none⟩ = some (.string r)) := Lib.hid (fun V hV i r hi => by
    obtain ⟨_, b, o, e, hb, h0⟩ := hget i r hi
    exact ⟨b, o, e, (hkv V hV).cell hb h0⟩)
  have c0 : W.cell? ⟨bl, 0, none⟩ = some (.slice ra rn rc) := by simp [World.cell?, hcW]
  have HY := Lib.hid hY'
  have H0 := Lib.hid h0
  have HRN := Lib.hid hrn.out
  have HJ := Lib.hid hJ
  clear hY hY' h0 hW hkW hget hcW hkv hls hc hrn hJ
  refine callsIn_of_wp Try.func32 rfl trivial ?_ rfl
  simp only [Try.ntmps32, List.size_toArray, List.length_cons, List.length_nil, Nat.reduceAdd, Nat.reduceSub, Array.replicate_succ, Array.replicate_zero, List.push_toArray, List.append_toArray, List.nil_append, List.cons_append]
  gi_wp2_with fail
  gi_loopw [7] (fun i wr => ∃ (j : Nat), i = .int .i64 j ∧ j ≤ rn ∧ Hid (J (ls.take j) wr) ∧ Hid (Kp X W wr)) (fun i _ => rn - (intOf i).toNat)
  case atStart => exact ⟨0, rfl, by omega, Lib.hid (by simpa using H0.out), Lib.hid (KV.refl _ _ _)⟩
  case round =>
    obtain ⟨j, rfl, hj, HJJ, HKV⟩ := hrel
    by_cases hlt : j < rn
    · obtain ⟨r, hr⟩ : ∃ r, ls[j]? = some r := ⟨_, List.getElem?_eq_getElem (by rw [← HRN.out]; exact hlt)⟩
      obtain ⟨b, o, rfl, r0⟩ := HCELL.out wr HKV.out j r hr
      have HTK := Lib.hid (take_snoc_get hr)
      obtain ⟨fn, tmps, assign, body, hy, hR⟩ := HY.out (n - 1) (ls.take j) r wr HJJ.out (by rw [← HTK.out]; exact List.take_prefix _ _)
      have HR := Lib.hid hR
      clear hr hR
      gi_wp2_with fail
      refine ⟨fun h => (by cases h), HR.out.mono ?_⟩
      rintro e w7 (⟨rfl, hj7, hk7⟩ | ⟨rfl, hx7⟩)
      · have HJ7 := Lib.hid hj7
        have HK7 := Lib.hid (HKV.out.trans hk7)
        clear hj7 hk7 hy
        gi_wp2_with fail
        refine ⟨⟨j + 1, by go_num, by omega, Lib.hid (by rw [HTK.out]; exact HJ7.out), HK7⟩, ?_⟩
        simp [intOf]; omega
      · have HX7 := Lib.hid hx7
        have HPF : Hid (ls.take j ++ [r] <+: ls) := Lib.hid (by rw [← HTK.out]; exact List.take_prefix _ _)
        clear hx7 hy
        gi_wp2_with fail
        exact bodyPost_ret (results_none rfl _ _ _) rfl ⟨⟨_, rfl⟩, .inr ⟨_, HPF.out, HX7.out⟩⟩
    · obtain rfl : j = rn := by omega
      have HQ : Hid (ls.take j = ls) := Lib.hid (List.take_of_length_le (by rw [HRN.out]; exact Nat.le_refl _))
      gi_wp2
      go_end0
      exact ⟨⟨_, rfl⟩, .inl ⟨_, HQ.out, HJJ.out⟩⟩

/-! ### slices.AppendSeq, at nil -/
theorem wpListIn_appG {F : Fence} {n : Nat} {sl el : TypeId} {sz base : Nat} {v : Value} {es : List (List Value)} {ops : Array Oper} {rest : List Oper} {o : Oper} {a : Act} {w : World} {Q : Exit → Act → World → Prop} (I : ElemOf sl el sz) (hgd : o.guard = none) (s x : Operand)
    (ho : o.op = .call { callee := .builtin .append, args := #[s, x], argTypes := #[sl, sl] })
    (hs : a.eval s = v) (h : GRow el sz base w v es) (na : Option Addr) (nn nc : Nat) (news : List (List Value)) (hx : a.eval x = .slice na nn nc) (hnn : nn = news.length) (hlen : ∀ e ∈ news, e.length = sz) (hsrc : RowSrc sz w na news) (hone : ∀ e ∈ news, ∀ u ∈ e, u.oneCell' = true) (h63 : es.length + news.length ≤ 1000000000) (hbase : base ≤ w.heap.size)
    (hk : ∀ ga gn gc w', GRow el sz base w' (.slice ga gn gc) (es ++ news) → w.grownBy w' v.ownBlock → ((Value.slice ga gn gc).ownBlock = v.ownBlock ∨ (Value.slice ga gn gc).ownBlock = some w.heap.size) → wpListIn F n Try.prog ops Q rest (a.put o.dst (.slice ga gn gc)) w') : wpListIn F n Try.prog ops Q (o :: rest) a w := by
  refine wpListIn_plain hgd fun K hK => ?_
  obtain ⟨ga, gn, gc, w', hr, h2, h3, h4⟩ := run_appG I o.type h na nn nc news hnn hlen hsrc hone h63 hbase
  unfold Oper.wpIn
  refine ⟨?_, ?_⟩
  · simp [Oper.about, ho, resolve, Target.leads, Sem.run_pure]
  · rw [Oper.semAt_plain F _ _ (by rw [ho]; intro c hc'; cases hc')]
    simp only [execOp, ho, resolve, invoke, builtin, Sem.run_bind, Sem.run_pure, Result.andThen_ok, List.map_toArray, List.map_cons, List.map_nil, hs, hx, hr]
    exact hK _ _ (hk ga gn gc w' h2 h3 h4)
theorem slO_lt {W : World} {b : Nat} {ra : Option Addr} {rn rc : Nat} (h : W.heap[b]? = some (slO ra rn rc)) : b < W.heap.size := (Array.getElem?_eq_some_iff.1 h).1
theorem app_abides (w : World) (B : Nat) (hB : w.heap.size + 1 ≤ B) : AbidesN B (fun (pre : List ByteArray) W => ∃ a n c, W.heap[w.heap.size]? = some (slO a n c) ∧ GRow 9 1 (w.heap.size + 1) W (.slice a n c) (pre.map strCells) ∧ Below w.heap.size w W) := by
  rintro s W W' row ⟨a, n, c, h1, h2, h3⟩ hg hr
  refine ⟨a, n, c, (hg.block _ (slO_lt h1) (fun e => by have := (hr _ e.symm).1; omega)).trans h1, h2.kept (fun k hk => hg.block k (h2.lt k hk).2 (fun e => ?_)), h3.grown hg h3.size (fun k e => by have := (hr k e).1; omega)⟩
  obtain ⟨cs, hc⟩ := h2.obj hk
  obtain ⟨_, o, ho, hn⟩ := hr k e.symm
  rw [hc] at ho
  cases ho
  cases hn
set_option maxRecDepth 100000 in
set_option maxHeartbeats 4000000 in
theorem appendSeq_in (n : Nat) (hn : 3 ≤ n) (bl : Nat) (ls : List ByteArray) (ra : Option Addr) (rn rc : Nat) (w : World) (hbl : bl < w.heap.size)
    (hc : w.heap[bl]? = some (slO ra rn rc)) (hls : StrSl (fun k => k < w.heap.size) w (.slice ra rn rc) ls) (hlen : ls.length ≤ 1000000) (hrl : rn ≤ 1000000) :
    CallsIn Fence.wide n Try.prog 38 #[.slice none 0 0, .func (.func 32) #[] #[.pointer (some ⟨bl, 0, none⟩)]] w fun e w' => ∃ a m c, e = .returned (.slice a m c) ∧ GRow 9 1 (w.heap.size + 1) w' (.slice a m c) (ls.map strCells) ∧ Below w.heap.size w w' := by
  have h1 : 1 ≤ n := by omega
  obtain ⟨W1, hW1⟩ : ∃ W1, w.alloc (slO none 0 0) = W1 := ⟨_, rfl⟩
  have hb0 : Below w.heap.size w W1 := by rw [← hW1]; exact blkBelow w _ _
  have x0 : W1.heap[w.heap.size]? = some (slO none 0 0) := by rw [← hW1]; exact World.alloc_heap_new _ _
  have hs1 : W1.heap.size = w.heap.size + 1 := by rw [← hW1]; simp
  refine callsIn_of_wp_marks Try.func38 rfl trivial ?_ rfl
  simp only [Try.ntmps38, List.size_toArray, List.length_cons, List.length_nil, Nat.reduceAdd, Nat.reduceSub, Array.replicate_succ, Array.replicate_zero, List.push_toArray, List.append_toArray, List.nil_append, List.cons_append]
  gi_wp2_with fail
  clear hW1
  refine wpIn_range_toldN rfl h1 (gf := 32) (lb := #[.pointer (some ⟨bl, 0, none⟩)]) rfl trivial (enters_of Try.func32 (by kernel_rfl) rfl)
    (vals_tells (n - 1) w.heap.size bl ls ra rn rc (fun k => w.heap.size ≤ k) W1 (fun k hk => hk) (by omega) hbl ((hb0.block _ hbl).trans hc) (hls.keep (hb0.keeps'.mono (fun k hk => hk))) hrl) (fun h g => KV.trans h g) (fun W l o o' _ h ho _ => KV.of_cells (by simp) (cellsKept_put h ho)) (fun _ _ _ _ _ h => h) (Below.refl _ _) (fun _ => rfl)
    (fun pre W => ∃ a n c, W.heap[w.heap.size]? = some (slO a n c) ∧ GRow 9 1 (w.heap.size + 1) W (.slice a n c) (pre.map strCells) ∧ Below w.heap.size w W) (fun _ _ _ => False)
    (app_abides w _ (by omega)) (fun _ _ _ _ _ h _ _ => h) ⟨_, _, _, x0, GRow.nil _ _ _ _, hb0⟩
    (fun x a' _ => a' = { tmps := #[.slice none 0 0, .func (.func 32) #[] #[.pointer (some ⟨bl, 0, none⟩)], .pointer (some ⟨w.heap.size, 0, none⟩), undef, .slice none 0 0, .string x, .func (.func 32) #[] #[.pointer (some ⟨bl, 0, none⟩)], .string x, undef, undef, undef, undef, undef], defers := [] }) (fun _ _ _ _ _ h => h) ?assign ?body ?done ?stop
  case assign =>
    intro l pre x W K hi hp hK
    gi_wp2
    exact hK _ _ (KeepsFrom.refl _ _) (KV.refl _ _ _) hi hp (by first | rfl | simp)
  case body =>
    rintro l pre x a' W hl' _ ⟨a, m, c, hb, hr, hbw⟩ hpx rfl
    have c0 : W.cell? ⟨w.heap.size, 0, none⟩ = some (.slice a m c) := by simp [World.cell?, hb]
    have hpl : pre.length + 1 ≤ ls.length := by have := hpx.length_le; simpa using this
    have HB := Lib.hid hb
    have HR := Lib.hid hr
    have HBW := Lib.hid hbw
    have HPL := Lib.hid hpl
    have hw1 : w.heap.size + 1 ≤ W.heap.size := slO_lt hb
    clear hb hr hbw hpx hpl
    gi_wp2_with (gi_at_builtin; refine wpListIn_appG gstrElem rfl _ _ rfl rfl (HR.out.alloc _) (some ⟨W.heap.size, 0, none⟩) 1 1 [strCells x] rfl rfl ?_ ?_ ?_ ?_ ?_ ?_)
    · intro e he; rw [List.mem_singleton.1 he]; rfl
    · exact src_new W (strCells x) _
    · intro e he u hu
      rw [List.mem_singleton.1 he] at hu
      simp only [strCells, List.mem_cons, List.not_mem_nil, or_false] at hu
      subst hu; rfl
    · have := HPL.out
      simp only [List.length_map, List.length_singleton]; omega
    · rw [World.size_alloc]; omega
    intro ga gn gc w6 hr6 hg6 hq6
    have h6s := hg6.size
    rw [World.size_alloc] at h6s
    have hown : ∀ k, (Value.slice a m c).ownBlock = some k → w.heap.size + 1 ≤ k := fun k hk => (HR.out.lt k hk).1
    have hk6 : ∀ k, k < W.heap.size → some k ≠ (Value.slice a m c).ownBlock → w6.heap[k]? = W.heap[k]? := fun k hk hn => (hg6.block k (by rw [World.size_alloc]; omega) hn).trans (Below.heap_alloc _ _ _ hk)
    have hb6 : w6.heap[w.heap.size]? = some (slO a m c) := (hk6 _ (by omega) (fun e => by have := hown _ e.symm; omega)).trans HB.out
    have c6 : w6.cell? ⟨w.heap.size, 0, none⟩ = some (.slice a m c) := by simp [World.cell?, hb6]
    have f6 : w6.frozen? ⟨w.heap.size, 0, none⟩ = false := frozen_of_block hb6 0
    have HR6 := Lib.hid hr6
    have HB6 := Lib.hid hb6
    have HK6 := Lib.hid hk6
    have HG6 := Lib.hid hg6
    have HO := Lib.hid hown
    clear hr6 hb6 hk6 hg6 hq6 hown c0
    gi_wp2_with fail
    clear c6 f6
    have hst : ∀ k, k ≠ w.heap.size → (w6.setCell ⟨w.heap.size, 0, none⟩ (.slice ga gn gc)).heap[k]? = w6.heap[k]? := fun k hk => set_oth _ _ _ hk
    have hsz : (w6.setCell ⟨w.heap.size, 0, none⟩ (.slice ga gn gc)).heap.size = w6.heap.size := by simp [World.setCell]
    have hbe : Below w.heap.size W (w6.setCell ⟨w.heap.size, 0, none⟩ (.slice ga gn gc)) := ((((Below.refl w.heap.size W).alloc (by omega) _).grown HG6.out (by rw [World.size_alloc]; omega) (fun k hk => by have := HO.out k hk; omega)).setCell (p := ⟨w.heap.size, 0, none⟩) (Nat.le_refl _) _)
    refine ⟨⟨hbe.size, fun k o hlo hk hc => ?_⟩, ⟨hbe.size, fun k o hk hc hx _ => (hbe.block k (by omega)).trans hk⟩, ga, gn, gc, set_block HB6.out 0 _, ?_, HBW.out.trans hbe⟩
    · have hkl := (Array.getElem?_eq_some_iff.1 hk).1
      refine (hst k (by omega)).trans ((HK6.out k hkl (fun e => ?_)).trans hk)
      obtain ⟨cs, hcs⟩ := HR.out.obj e.symm
      rw [hk] at hcs
      cases hcs
      cases hc
    · have h := HR6.out.kept (W' := w6.setCell ⟨w.heap.size, 0, none⟩ (.slice ga gn gc)) (fun k hk => hst k (by have := (HR6.out.lt k hk).1; omega))
      rw [List.map_append]; exact h
  case done =>
    rintro D ys W hD hys ⟨a, m, c, hb, hr, hbw⟩ hK
    subst hys
    have c0 : W.cell? ⟨w.heap.size, 0, none⟩ = some (.slice a m c) := by simp [World.cell?, hb]
    have HK := Lib.hid hK
    have HBW := Lib.hid hbw
    have HR := Lib.hid hr
    clear hb hr hK hbw
    gi_wp2_with fail
    have hk : W.heap[D]? = some (.deferred (some [])) := HK.out
    refine ⟨by simp, .inl ⟨_, _, rfl, run_takeDeferred hk, ?_⟩⟩
    refine ⟨.slice a m c, by simp [results, Try.results38, go_sem], a, m, c, rfl, ?_, HBW.out.trans (belowK_b (w := w) (Nat.le_refl _) W D _ _ (by omega) hk rfl rfl)⟩
    exact HR.out.kept (fun k hk' => World.putObj_heap_other (fun e => by subst e; obtain ⟨cs, hcs⟩ := HR.out.obj hk'; rw [hk] at hcs; cases hcs))
  case stop =>
    rintro D c pre W _ _ h _
    exact h.elim
end Go.Proofs.Ytecdapihfiahiaa

/- Heads: slices.Sorted of slices.Values at the labels of the fixed example; Labels; the example; the law. -/
namespace Go.Proofs.Ytecdapihfiahiaa
open Go.Shelf
/-- The library's slices.Sort at this program: a table of numbers, and a field a fact of the program's own. -/
def headSortL_ren : Go.Shelf.Ren := ⟨fun | 6 => 31 | 8 => 40 | 9 => 39 | 19 => 52 | 20 => 53 | 21 => 43 | 22 => 44 | 23 => 45 | 24 => 46 | 25 => 47 | 26 => 48 | 27 => 49 | 28 => 50 | 29 => 51 | 36 => 57 | 31 => 58 | 32 => 59 | 37 => 60 | 38 => 61 | 39 => 62 | 41 => 66 | n => n, fun | 27 => 41 | 29 => 9 | 3 => 3 | 32 => 81 | 26 => 41 | 0 => 0 | 44 => 92 | 46 => 94 | 4 => 4 | 36 => 85 | 35 => 84 | 41 => 38 | 5 => 5 | 9 => 9 | 53 => 96 | 57 => 100 | 63 => 103 | 64 => 104 | n => n, fun | n => n⟩
theorem headSortL : Go.Proofs.SlLaysM.n6 Try.prog headSortL_ren := {
  mixed := by kernel_rfl
  f6 := ⟨Try.f31.name, by decide, Try.func31.trans (congrArg some (by kernel_rfl))⟩
  f8 := Try.func40.trans (congrArg some (by kernel_rfl))
  f9 := ⟨Try.f39.name, by decide, Try.func39.trans (congrArg some (by kernel_rfl))⟩
  f19 := Try.func52.trans (congrArg some (by kernel_rfl))
  f20 := Try.func53.trans (congrArg some (by kernel_rfl))
  f21 := ⟨Try.f43.name, by decide, Try.func43.trans (congrArg some (by kernel_rfl))⟩
  f22 := ⟨Try.f44.name, by decide, Try.func44.trans (congrArg some (by kernel_rfl))⟩
  f23 := ⟨Try.f45.name, by decide, Try.func45.trans (congrArg some (by kernel_rfl))⟩
  f24 := ⟨Try.f46.name, by decide, Try.func46.trans (congrArg some (by kernel_rfl))⟩
  f25 := ⟨Try.f47.name, by decide, Try.func47.trans (congrArg some (by kernel_rfl))⟩
  f26 := ⟨Try.f48.name, by decide, Try.func48.trans (congrArg some (by kernel_rfl))⟩
  f27 := ⟨Try.f49.name, by decide, Try.func49.trans (congrArg some (by kernel_rfl))⟩
  f28 := ⟨Try.f50.name, by decide, Try.func50.trans (congrArg some (by kernel_rfl))⟩
  f29 := ⟨Try.f51.name, by decide, Try.func51.trans (congrArg some (by kernel_rfl))⟩
  f31 := Try.func58.trans (congrArg some (by kernel_rfl))
  f32 := Try.func59.trans (congrArg some (by kernel_rfl))
  f36 := ⟨Try.f57.name, by decide, Try.func57.trans (congrArg some (by kernel_rfl))⟩
  f37 := ⟨Try.f60.name, by decide, Try.func60.trans (congrArg some (by kernel_rfl))⟩
  f38 := ⟨Try.f61.name, by decide, Try.func61.trans (congrArg some (by kernel_rfl))⟩
  f39 := ⟨Try.f62.name, by decide, Try.func62.trans (congrArg some (by kernel_rfl))⟩
  f41 := ⟨Try.f66.name, by decide, Try.func66.trans (congrArg some (by kernel_rfl))⟩
  t0 := Try.underlying0
  a0 := Try.isAgg0
  z0 := Try.sizeOf0
  v0 := Try.zeroValue0
  t3 := Try.underlying3
  a3 := Try.isAgg3
  z3 := Try.sizeOf3
  v3 := Try.zeroValue3
  t4 := Try.underlying4
  a4 := Try.isAgg4
  z4 := Try.sizeOf4
  v4 := Try.zeroValue4
  t5 := Try.underlying5
  a5 := Try.isAgg5
  z5 := Try.sizeOf5
  v5 := Try.zeroValue5
  t9 := Try.underlying9
  a9 := Try.isAgg9
  z9 := Try.sizeOf9
  v9 := Try.zeroValue9
  t26 := Try.underlying41
  a26 := Try.isAgg41
  z26 := Try.sizeOf41
  v26 := Try.zeroValue41
  t27 := Try.underlying41
  a27 := Try.isAgg41
  z27 := Try.sizeOf41
  v27 := Try.zeroValue41
  t29 := Try.underlying9
  a29 := Try.isAgg9
  z29 := Try.sizeOf9
  v29 := Try.zeroValue9
  t32 := Try.underlying81
  a32 := Try.isAgg81
  z32 := Try.sizeOf81
  v32 := Try.zeroValue81
  t35 := Try.underlying84
  a35 := Try.isAgg84
  z35 := Try.sizeOf84
  v35 := Try.zeroValue84
  t36 := Try.underlying85
  a36 := Try.isAgg85
  z36 := Try.sizeOf85
  v36 := Try.zeroValue85
  t41 := Try.underlying38
  a41 := Try.isAgg38
  z41 := Try.sizeOf38
  v41 := Try.zeroValue38
  t44 := Try.underlying92
  a44 := Try.isAgg92
  z44 := Try.sizeOf92
  v44 := Try.zeroValue92
  t46 := Try.underlying94
  a46 := Try.isAgg94
  z46 := Try.sizeOf94
  v46 := Try.zeroValue94
  t53 := Try.underlying96
  a53 := Try.isAgg96
  z53 := Try.sizeOf96
  v53 := Try.zeroValue96
  t57 := Try.underlying100
  a57 := Try.isAgg100
  z57 := Try.sizeOf100
  v57 := Try.zeroValue100
  t63 := Try.underlying103
  a63 := Try.isAgg103
  z63 := Try.sizeOf103
  v63 := Try.zeroValue103
  t64 := Try.underlying104
  a64 := Try.isAgg104
  z64 := Try.sizeOf104
  v64 := Try.zeroValue104 }
end Go.Proofs.Ytecdapihfiahiaa

namespace Go.Proofs.Ytecdapihfiahiaa
open Go.RowKit Go.Deep Go.Shelf Go.Sort

theorem values_any (ra : Option Addr) (rn rc : Nat) (w : World) :
    Calls Try.prog 24 #[.slice ra rn rc] w fun e w' => e = .returned (.func (.func 32) #[] #[.pointer (some ⟨w.heap.size, 0, none⟩)]) ∧ w' = w.alloc (slO ra rn rc) := by
  go_enter Try.func24, Try.ntmps24
  go_wp2
  go_ret
  exact ⟨rfl, rfl⟩
theorem collect_any (bl : Nat) (ls : List ByteArray) (ra : Option Addr) (rn rc : Nat) (w : World) (hbl : bl < w.heap.size) (hc : w.heap[bl]? = some (slO ra rn rc)) (hls : StrSl (fun k => k < w.heap.size) w (.slice ra rn rc) ls) (hlen : ls.length ≤ 1000000) (hrl : rn ≤ 1000000) :
    Calls Try.prog 30 #[.func (.func 32) #[] #[.pointer (some ⟨bl, 0, none⟩)]] w fun e w' => ∃ a m c, e = .returned (.slice a m c) ∧ GRow 9 1 (w.heap.size + 1) w' (.slice a m c) (ls.map strCells) ∧ Below w.heap.size w w' := by
  have HA := Lib.hid ((callsIn_wide (n := 3)).1 (appendSeq_in 3 (by omega) bl ls ra rn rc w hbl hc hls hlen hrl))
  clear hbl hc hls hlen hrl
  go_enter Try.func30, Try.ntmps30
  go_wp2_with (go_at_call 38; go_loud (refine HA.out.mono ?_; rintro en w1 ⟨a, m, c, rfl, hr, hb⟩; have HR := Lib.hid hr; have HB := Lib.hid hb; clear hr hb))
  go_ret
  exact ⟨a, m, c, rfl, HR.out, HB.out⟩
theorem ms2 : ([[98], [97]] : List (List UInt8)).mergeSort (fun x y => decide (x ≤ y)) = [[97], [98]] := by
  rw [List.mergeSort]
  simp [List.MergeSort.Internal.splitInTwo, List.merge]
  decide
set_option maxRecDepth 100000 in
set_option maxHeartbeats 2000000 in
theorem sorted_any (bl : Nat) (ra : Option Addr) (rn rc : Nat) (w : World) (hbl : bl < w.heap.size) (hc : w.heap[bl]? = some (slO ra rn rc)) (hls : StrSl (fun k => k < w.heap.size) w (.slice ra rn rc) [⟨#[98]⟩, ⟨#[97]⟩]) (hrl : rn ≤ 1000000) :
    Calls Try.prog 23 #[.func (.func 32) #[] #[.pointer (some ⟨bl, 0, none⟩)]] w fun e w' => ∃ a c, e = .returned (.slice a 2 c) ∧ GRow 9 1 (w.heap.size + 1) w' (.slice a 2 c) ([⟨#[97]⟩, ⟨#[98]⟩].map strCells) ∧ Below w.heap.size w w' := by
  have HA := Lib.hid (collect_any bl _ ra rn rc w hbl hc hls (by decide) hrl)
  clear hbl hc hls hrl
  go_enter Try.func23, Try.ntmps23
  go_upto_region 2 with (go_at_call 30; go_loud (refine HA.out.mono ?_; rintro en w1 ⟨a, m, c, rfl, hr, hb⟩; have HR := Lib.hid hr; have HB := Lib.hid hb; clear hr hb))
  rcases HR.out.own.2 with ⟨_, hz⟩ | ⟨gb, cap, cur, e, hbase, hgb, r1, r2, r3, r4⟩
  · exact absurd hz (by decide)
  · simp only [Value.slice.injEq] at e
    obtain ⟨rfl, e2, rfl⟩ := e
    obtain rfl : m = 2 := e2
    have hH := holds_of_block (ss := [[98], [97]]) hgb r4
    have hgl : gb < w1.heap.size := (Array.getElem?_eq_some_iff.1 hgb).1
    have cS := AnyM.slices_Sort_string headSortL gb 0 c [[98], [97]] w1 hH hgl (by decide)
    have hms := ms2
    rw [hms] at cS
    change Calls Try.prog 31 _ _ _ at cS
    have HS := Lib.hid cS
    have HX := Lib.hid (And.intro hbase (And.intro hgb (And.intro r1 (And.intro r2 r3))))
    clear hH hgl cS hms hbase hgb r1 r2 r3 r4
    go_wp2_with (go_at_call 31; go_loud (refine HS.out.mono ?_; rintro en w2 ⟨rfl, nn, os, rfl⟩))
    go_ret
    obtain ⟨hbase, hgb, r1, r2, r3⟩ := HX.out
    refine ⟨_, _, rfl, ⟨ownsRow_sorted (ss := [[98], [97]]) (ts := [[97], [98]]) rfl hbase hgb r1 r2 r3, fun e he => ?_⟩, HB.out.grown (grownBy_sorted _) HB.out.size (fun j hj => by cases hj; omega)⟩
    obtain ⟨x, _, rfl⟩ := List.mem_map.1 he; rfl
set_option maxRecDepth 100000 in
set_option maxHeartbeats 2000000 in
theorem labels_any (na : Option Addr) (nn nc : Nat) (w : World) (hns : NodeSl (fun k => k < w.heap.size) w (.slice na nn nc) yNs) :
    Calls Try.prog 14 #[grV na nn nc, rfV 2 0] w fun e w' => ∃ sa sc, e = .returned (.slice sa 2 sc) ∧ StrSl (fun k => k < w'.heap.size) w' (.slice sa 2 sc) [⟨#[97]⟩, ⟨#[98]⟩] ∧ Below w.heap.size w w' := by
  obtain ⟨_, e5, kb, ko, lv, xa, xc, rfl, hcl, _⟩ := node_at hns (a := 2) (g := ⟨7, 0, [⟨#[98]⟩, ⟨#[97]⟩], [⟨3, 0⟩, ⟨4, 0⟩]⟩) rfl
  obtain rfl : nn = 5 := e5
  obtain ⟨W2, hW2⟩ : ∃ W2, (w.alloc (grO (some ⟨kb, ko, none⟩) 5 nc)).alloc (refO (.int .i64 2) (.int .i64 0)) = W2 := ⟨_, rfl⟩
  obtain ⟨hs2, hb2, x0, x1⟩ := two_made hW2
  obtain ⟨m0, m1, m2, m3, hst⟩ := hcl W2 hb2
  obtain ⟨la, ln, lc, rfl, hln, _⟩ := hst.open
  obtain rfl : ln = 2 := hln.out
  have g0 : W2.cell? ⟨w.heap.size, 0, none⟩ = some (.slice (some ⟨kb, ko, none⟩) 5 nc) := by simp [World.cell?, x0]
  have r0 : W2.cell? ⟨w.heap.size + 1, 0, none⟩ = some (.int .i64 2) := (refO_cells x1).1
  have hvb : Below W2.heap.size W2 (W2.alloc (slO la 2 lc)) := blkBelow W2 _ _
  have HSO := Lib.hid (sorted_any W2.heap.size la 2 lc (W2.alloc (slO la 2 lc)) (by rw [World.size_alloc]; omega) (World.alloc_heap_new _ _) ((hst.keep (hvb.keeps'.mono (fun k hk => hk))).mono (fun k hk => Nat.lt_of_lt_of_le hk hvb.size)) (by decide))
  have HVA := Lib.hid (values_any la 2 lc W2)
  have HB2 := Lib.hid hb2
  have HVB := Lib.hid hvb
  have HW2 := Lib.hid hW2
  clear hns hcl x0 x1 hst hb2 hvb hln m0 m1 m3 hW2 hs2
  go_enter Try.func14, Try.ntmps14
  go_upto_region 1 with fail
  rw [show (w.alloc (.cells #[.slice (some ⟨kb, ko, none⟩) 5 nc] 29)).alloc (.cells #[.int .i64 2, .int .i64 0] 34) = W2 from HW2.out]
  go_wp2_with (first | (go_at_call 24; go_loud (refine HVA.out.mono ?_; rintro en w3 ⟨rfl, rfl⟩)) | (go_at_call 23; go_loud (refine HSO.out.mono ?_; rintro en w4 ⟨sa, sc, rfl, hr, hb⟩; have HR := Lib.hid hr; have HB := Lib.hid hb; clear hr hb)))
  go_ret
  exact ⟨sa, sc, rfl, strsB HR.out (by decide) (fun s hs => by
    simp only [List.mem_cons, List.not_mem_nil, or_false] at hs
    rcases hs with rfl | rfl <;> decide) (fun k hk => (HR.out.lt k hk).2), below_seq HB2.out (below_seq HVB.out HB.out)⟩
theorem hawake_any (w : World) : Calls Try.prog 4 #[] w fun e w' => e = .returned (.bool true) ∧ Below w.heap.size w w' := awake_of labels_any w
theorem HeadRaises_any (ts : List Ty) (v : Value) (k : Int) (hk : -32768 ≤ k ∧ k ≤ 32767) (pa : Option Addr) (pn pc : Nat) (xs : List Int) (w : World) (hts : TySl (fun k => k < w.heap.size) w v ts) (hp : IntSl w pa pn xs) :
    Calls Try.prog 3 #[v, .int .i16 k, .slice pa pn pc] w fun e w' => e = .returned (.bool true) ∧ Below w.heap.size w w' :=
  HeadRaises_of hawake_any ts v k hk pa pn pc xs w hts hp
end Go.Proofs.Ytecdapihfiahiaa
