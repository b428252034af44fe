/- Equality, laws: graphs of right types; the fixed example's graph. (and what follows from it) -/
import Derived.Test.YtjmnaibbljakaaaGreatDoorPu14
import Derived.Test.YtjmnaibbljakaaaGreatDoorPu15
import Derived.Test.YtjmnaibbljakaaaGreatDoorPu8

/- Equality, laws: graphs of right types; the fixed example's graph. -/
namespace Go.Proofs.YtjmnaibbljakaaaGreatDoor
open Go.RowKit Go.Deep Go.Shelf

/-- A row of references, read later. -/
theorem refs_at {ra : Option Addr} {rn rc : Nat} {rs : List GRef} {w : World} (h : RefSl (fun k => k < w.heap.size) w (.slice ra rn rc) rs) (h0 : 0 < rs.length) :
    rn = rs.length ∧ ∃ rb ro, ra = some ⟨rb, ro, none⟩ ∧ ∀ W, Below w.heap.size w W → ∀ (j : Nat) (r : GRef), rs[j]? = some r → W.cell? ⟨rb, ro + j * 2, none⟩ = some (.int .i64 r.n) ∧ W.cell? ⟨rb, ro + j * 2 + 1, none⟩ = some (.int .i64 r.s) := by
  obtain ⟨_, _, _, e, hl, _, hg⟩ := h.open
  simp only [Value.slice.injEq] at e
  obtain ⟨rfl, rfl, rfl⟩ := e
  obtain ⟨r0, hr0⟩ : ∃ r, rs[0]? = some r := ⟨_, List.getElem?_eq_getElem h0⟩
  obtain ⟨rb, ro, e0, _⟩ := hg 0 r0 hr0
  refine ⟨hl.out, rb, ro, e0, fun W hW j r hj => ?_⟩
  obtain ⟨kb, ko, e1, hk, c0, c1⟩ := hg j r hj
  rw [e0] at e1
  have e2 := Option.some.inj e1
  simp only [Addr.mk.injEq] at e2
  obtain ⟨rfl, rfl, _⟩ := e2
  exact ⟨(hW.cell (p := ⟨rb, _, none⟩) hk).trans c0, (hW.cell (p := ⟨rb, _, none⟩) hk).trans c1⟩
theorem ycalls_at {P : Program} {f : FuncId} {vs : Array Value} {Q : Ending → World → Prop} {W W0 : World} (h : W = W0) (k : Calls P f vs W0 Q) : Calls P f vs W Q := by rw [h]; exact k

theorem eqG_right {ts : List Ty} (h : ∀ t ∈ ts, nodeR [] 0 false t = 0) (hok : Ty.okgs ts) (hl : (gNodes ts).length ≤ 1000000) (hs : Ty.sizes ts ≤ 998) : EqG (gNodes ts) where
  len := hl
  ok := nodes_ok ts 0 h
  nd := nodes_nodup ts 0 h
  sm := small_all h
  nx := fun g hg => by
    have h1 := nodes_ok ts 0 h g hg
    have h2 := labels_all h g hg
    by_cases h3 : g.k ≤ 3
    · rw [(h1.leaf h3).2]; simp
    · by_cases h4 : g.k = 4 ∨ g.k = 5
      · rw [(h1.two h4).2]; omega
      · rw [(h1.many (by have := h1.kind; omega)).2]; omega
  wf := fun g hg q hq => by
    obtain ⟨n, hn⟩ := List.getElem?_of_mem hg
    exact hwf_all h hok n g hn q hq

abbrev q4Ts : List Ty := [loopT 0 1, sendT 0 (loopT 1 1), sendT 0 (loopT 2 1), leafT 3]
abbrev q4Ns : List GNode := [⟨4, 0, [], [⟨1, 0⟩, ⟨0, 1⟩]⟩, ⟨1, 0, [], []⟩, ⟨4, 0, [], [⟨3, 0⟩, ⟨4, 0⟩]⟩, ⟨1, 0, [], []⟩, ⟨4, 1, [], [⟨5, 0⟩, ⟨4, 1⟩]⟩, ⟨1, 0, [], []⟩, ⟨4, 0, [], [⟨7, 0⟩, ⟨8, 0⟩]⟩, ⟨1, 0, [], []⟩, ⟨4, 2, [], [⟨9, 0⟩, ⟨8, 1⟩]⟩, ⟨1, 0, [], []⟩, ⟨3, 0, [], []⟩]
abbrev q4Rs : List GRef := [⟨0, 0⟩, ⟨2, 0⟩, ⟨6, 0⟩, ⟨10, 0⟩]
theorem q4Nodes : gNodes q4Ts = q4Ns := by
  simp [gNodes, Ty.pnods, Ty.pnod, Ty.pnod1, Ty.prefs, Ty.pref, Ty.pref1, upE, Ty.gcnt, Ty.gcnts, loopT, sendT, leafT, varT]
theorem q4Refs : gRefs q4Ts = q4Rs := by
  simp [gRefs, Ty.prefs, Ty.pref, Ty.pref1, Ty.gcnt, Ty.gcnts, loopT, sendT, leafT, varT]
theorem q4Ok : Ty.okgs q4Ts := by simp [Ty.okgs, Ty.okg, loopT, sendT, leafT, varT]
theorem q4Right : ∀ t ∈ q4Ts, nodeR [] 0 false t = 0 := by
  intro t ht
  simp only [List.mem_cons, List.not_mem_nil, or_false] at ht
  rcases ht with rfl | rfl | rfl | rfl <;> decide +kernel
theorem q4EqG : EqG q4Ns := by
  have h := eqG_right q4Right q4Ok (by rw [q4Nodes]; decide) (by decide)
  rwa [q4Nodes] at h
theorem q4Lab : LabOk q4Ns := ⟨fun g hg l hl => by
  simp only [List.mem_cons, List.not_mem_nil, or_false] at hg
  rcases hg with rfl | rfl | rfl | rfl | rfl | rfl | rfl | rfl | rfl | rfl | rfl <;> cases hl⟩

theorem q4_unf : unfT (loopT 0 1) = unfT (sendT 0 (loopT 1 1)) := by kernel_rfl
theorem q4Eqv : (lgN q4Ns).Eqv false ⟨0, 0⟩ ⟨2, 0⟩ := by
  obtain ⟨r, q, hr, hq, h⟩ := lgT_unfolds (ts := q4Ts) (i := 0) (j := 1) q4Right q4Ok rfl rfl q4_unf
  rw [q4Refs] at hr hq
  unfold lgT at h
  rw [q4Nodes] at h
  cases hr
  cases hq
  exact h
/-- Two references into the fixed graph whose nodes are alike so far. -/
theorem q4_step {al : Bool} {n : Nat} {x y : GRef} {g h : GNode} (hx : q4Ns[x.n]? = some g) (hy : q4Ns[y.n]? = some h) (hk : g.k = h.k) (hgl : g.ls = []) (hhl : h.ls = []) :
    (lgN q4Ns).eqN al (n + 1) x y ↔ fitB al g x.s h y.s = true ∧ ∀ (i : Nat) (a b : GRef), (g.nx.map (upG · x.s))[i]? = some a → (h.nx.map (upG · y.s))[i]? = some b → (lgN q4Ns).eqN al n a b := by
  show (lgN q4Ns).comp al x y ∧ _ ↔ _
  have e1 : (lgN q4Ns).beh x = g.nx.map (upG · x.s) := by unfold LG.beh; rw [show (lgN q4Ns).ch x.n = g.nx by simp [lgN, lgOf, hx, chE, hgl]]
  have e2 : (lgN q4Ns).beh y = h.nx.map (upG · y.s) := by unfold LG.beh; rw [show (lgN q4Ns).ch y.n = h.nx by simp [lgN, lgOf, hy, chE, hhl]]
  unfold LG.comp
  rw [fits_iff hx hy, lgN_labs hx, lgN_labs hy, hgl, hhl, e1, e2]
  simp [hk]
theorem q4_alike : ∀ (n : Nat) (s t : Int), (lgN q4Ns).eqN true n ⟨0, s⟩ ⟨8, t⟩
  | 0, _, _ => trivial
  | n + 1, s, t => by
    refine (q4_step (g := ⟨4, 0, [], [⟨1, 0⟩, ⟨0, 1⟩]⟩) (h := ⟨4, 2, [], [⟨9, 0⟩, ⟨8, 1⟩]⟩) rfl rfl rfl rfl rfl).2 ⟨rfl, fun i a b ha hb => ?_⟩
    match i, ha, hb with
    | 0, ha, hb =>
      cases ha; cases hb
      cases n with
      | zero => trivial
      | succ n => exact (q4_step (g := ⟨1, 0, [], []⟩) (h := ⟨1, 0, [], []⟩) rfl rfl rfl rfl rfl).2 ⟨rfl, fun i a b ha hb => by simp at ha⟩
    | 1, ha, hb =>
      cases ha; cases hb
      exact q4_alike n _ _
    | i + 2, ha, hb => simp at ha
theorem q4_alike2 : (lgN q4Ns).Eqv true ⟨0, 0⟩ ⟨6, 0⟩
  | 0 => trivial
  | n + 1 => by
    refine (q4_step (g := ⟨4, 0, [], [⟨1, 0⟩, ⟨0, 1⟩]⟩) (h := ⟨4, 0, [], [⟨7, 0⟩, ⟨8, 0⟩]⟩) rfl rfl rfl rfl rfl).2 ⟨rfl, fun i a b ha hb => ?_⟩
    match i, ha, hb with
    | 0, ha, hb =>
      cases ha; cases hb
      cases n with
      | zero => trivial
      | succ n => exact (q4_step (g := ⟨1, 0, [], []⟩) (h := ⟨1, 0, [], []⟩) rfl rfl rfl rfl rfl).2 ⟨rfl, fun i a b ha hb => by simp at ha⟩
    | 1, ha, hb =>
      cases ha; cases hb
      exact q4_alike n _ _
    | i + 2, ha, hb => simp at ha
theorem q4_not : ¬ (lgN q4Ns).Eqv false ⟨0, 0⟩ ⟨6, 0⟩ := fun h => by
  have h2 := ((q4_step (g := ⟨4, 0, [], [⟨1, 0⟩, ⟨0, 1⟩]⟩) (h := ⟨4, 0, [], [⟨7, 0⟩, ⟨8, 0⟩]⟩) rfl rfl rfl rfl rfl).1 (h 2)).2 1 ⟨0, 1⟩ ⟨8, 0⟩ rfl rfl
  have h3 := ((q4_step (g := ⟨4, 0, [], [⟨1, 0⟩, ⟨0, 1⟩]⟩) (h := ⟨4, 2, [], [⟨9, 0⟩, ⟨8, 1⟩]⟩) rfl rfl rfl rfl rfl).1 h2).1
  revert h3
  decide +kernel
theorem q4_notal : ¬ (lgN q4Ns).Eqv true ⟨0, 0⟩ ⟨10, 0⟩ := fun h => by
  have h1 := (h 1).1.1.1
  rw [lgN_kind (r := ⟨0, 0⟩) (g := ⟨4, 0, [], [⟨1, 0⟩, ⟨0, 1⟩]⟩) rfl, lgN_kind (r := ⟨10, 0⟩) (g := ⟨3, 0, [], []⟩) rfl] at h1
  revert h1
  decide
theorem q4_off7 : offE q4Ns ⟨0, 0⟩ ⟨2, 7⟩ = 7 := by decide +kernel
theorem q4_off0 : offE q4Ns ⟨0, 0⟩ ⟨6, 0⟩ = 0 := by decide +kernel
theorem q4_cls {R : List Nat} (h : ClsRet q4Ns R) : R.getD 0 0 = 0 ∧ R.getD 2 0 = 0 ∧ R.length = 11 := by
  have h0 : R.getD 0 0 = 0 := Nat.le_zero.1 (h.least 0 (by decide)).1
  exact ⟨h0, ((h.eqv 2 0 (by decide) (by decide)).2 q4Eqv.symm).trans h0, h.len⟩
end Go.Proofs.YtjmnaibbljakaaaGreatDoor
