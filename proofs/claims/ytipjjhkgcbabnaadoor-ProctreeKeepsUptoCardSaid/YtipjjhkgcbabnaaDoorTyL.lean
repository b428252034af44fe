/- Types: replace. -/
import Derived.Test.YtipjjhkgcbabnaaDoorTyK
namespace Go.Proofs.YtipjjhkgcbabnaaDoor
open Go.RowKit Go.Deep Go.Shelf

def putC (nm : ByteArray) (b : Ty) (k p : Int) (n : ByteArray) (s : Int) (ls : List ByteArray) (ts ts' : List Ty) : Ty :=
  if k = 9 ∧ n = nm then b.raise s else if k = 8 ∧ n = nm then .mk k p n s ls ts else .mk k p n s ls ts'
section
variable (nm : ByteArray) (b : Ty)
mutual
def Ty.put : Ty → Ty
  | .mk k p n s ls ts => putC nm b k p n s ls ts (Ty.puts ts)
def Ty.puts : List Ty → List Ty
  | [] => []
  | t :: r => Ty.put t :: Ty.puts r
end
end
theorem Ty.puts_map (nm : ByteArray) (b : Ty) : ∀ ts : List Ty, Ty.puts nm b ts = ts.map (Ty.put nm b)
  | [] => rfl
  | t :: r => by rw [Ty.puts, List.map_cons, Ty.puts_map nm b r]

/-- The world in which replace calls. -/
abbrev box4 (w : World) (k p : Int) (n : ByteArray) (s : Int) (lv kv : Value) (nm : ByteArray) (k' p' : Int) (n' : ByteArray) (s' : Int) (lv' kv' : Value) : World :=
  (((w.alloc (cell6 k p n s lv kv)).alloc (.cells #[.string nm] 9)).alloc (cell6 k' p' n' s' lv' kv')).alloc (cell6 0 0 ⟨#[]⟩ 0 (.slice none 0 0) (.slice none 0 0))
theorem box4_below (w : World) (o o' o'' o3 : Obj) : Below w.heap.size w ((((w.alloc o).alloc o').alloc o'').alloc o3) := ((((Below.refl _ _).alloc (Nat.le_refl _) _).alloc (by simp) _).alloc (by simp; omega) _).alloc (by simp; omega) _

set_option maxHeartbeats 2000000 in
set_option maxRecDepth 100000 in
theorem replace_step (B : Nat → Prop) (nm : ByteArray) (bt : Ty) (hbm : bt.mod) (k p s : Int) (n : ByteArray) (lv kv blv bkv : Value) (ls : List ByteArray) (ts : List Ty) (hm : (Ty.mk k p n s ls ts).mod) (hnn : n.size ≤ maxLen) (w : World) (hB : Low B w) (hl : StrSl B w lv ls) (hk : TySl B w kv ts)
    (hby : TyVal B w (.agg #[.int .i64 bt.k, .int .i64 bt.p, .string bt.n, .int .i64 bt.s, blv, bkv]) bt)
    (h43 : ∀ (t : Ty) (v : Value) (wr : World), t ∈ ts → Low B wr → TyVal B wr v t → Below (box4 w k p n s lv kv nm bt.k bt.p bt.n bt.s blv bkv).heap.size (box4 w k p n s lv kv nm bt.k bt.p bt.n bt.s blv bkv) wr →
      Calls Tryd.prog 101 #[v, .pointer (some ⟨w.heap.size + 1, 0, none⟩), .pointer (some ⟨w.heap.size + 1 + 1, 0, none⟩)] wr (TyRet wr (Ty.put nm bt t))) :
    Calls Tryd.prog 77 #[.agg #[.int .i64 k, .int .i64 p, .string n, .int .i64 s, lv, kv], .string nm, .agg #[.int .i64 bt.k, .int .i64 bt.p, .string bt.n, .int .i64 bt.s, blv, bkv]] w (TyRet w (Ty.put nm bt (Ty.mk k p n s ls ts))) := by
  have hm' := hm
  simp only [Ty.mod] at hm'
  obtain ⟨hm1, hm2, hp, hs, _⟩ := hm'
  have hb0 := box4_below w (cell6 k p n s lv kv) (.cells #[.string nm] 9) (cell6 bt.k bt.p bt.n bt.s blv bkv) (cell6 0 0 ⟨#[]⟩ 0 (.slice none 0 0) (.slice none 0 0))
  have s2 := Six.new (((w.alloc (cell6 k p n s lv kv)).alloc (.cells #[.string nm] 9)).alloc (cell6 bt.k bt.p bt.n bt.s blv bkv)) (.int .i64 0) (.int .i64 0) (.string ⟨#[]⟩) (.int .i64 0) (.slice none 0 0) (.slice none 0 0)
  simp only [World.size_alloc] at s2
  have hsz : (box4 w k p n s lv kv nm bt.k bt.p bt.n bt.s blv bkv).heap.size = w.heap.size + 4 := by simp
  have HB0 := Lib.hid hb0
  have S2 := Lib.hid s2
  have HSZ := Lib.hid hsz
  have HLK := Lib.hid (And.intro (hl.keep (hb0.keeps'.mono hB)) (hk.keep (hb0.keeps'.mono hB)))
  have HV := Lib.hid (And.intro (hby.to hB hb0) (TyVal.to hB hb0 ⟨lv, kv, rfl, hnn, hl, hk⟩ : TyVal B (box4 w k p n s lv kv nm bt.k bt.p bt.n bt.s blv bkv) _ (Ty.mk k p n s ls ts)))
  have HIH := Lib.hid h43
  clear hb0 s2 hsz hl hk hby h43
  by_cases hn : n = nm
  · subst hn
    by_cases h9 : k = 9
    · subst h9
      have HC := Lib.hid (raise_any B s hs bt hbm _ _ (hB.le HB0.out.size) HV.out.1)
      have hq : Ty.put n bt (Ty.mk 9 p n s ls ts) = bt.raise s := by rw [Ty.put, putC, if_pos ⟨rfl, rfl⟩]
      rw [hq]
      obtain ⟨g, hg⟩ : ∃ g, bt.raise s = g := ⟨_, rfl⟩
      rw [hg] at HC ⊢
      clear hq hg
      go_enter Tryd.func77, Tryd.ntmps77
      go_wp2_with fail
      refine HC.out.mono ?_
      rintro e w3 ⟨la, ln, lc, ka, kn, kc, rfl, hv3, hb3⟩
      obtain ⟨⟨d0, d1, d2, d3, d4, d5⟩, hf1⟩ := (S2.out.to hb3).cells
      have HV3 := Lib.hid hv3
      have HB3 := Lib.hid hb3
      clear hv3 hb3
      go_wp2_with fail
      have hfin := ret_fill (c := w.heap.size + 1 + 1 + 1) HB0.out (by omega) (by simp) HB3.out HV3.out (.int .i64 g.k) (.int .i64 g.p) (.string g.n) (.int .i64 g.s) (.slice la ln lc) (.slice ka kn kc)
      exact bodyPost_ret (v := .agg #[.int .i64 g.k, .int .i64 g.p, .string g.n, .int .i64 g.s, .slice la ln lc, .slice ka kn kc]) (by simp [results, Tryd.results77, go_sem, d0, d1, d2, d3, d4, d5]) rfl ⟨la, ln, lc, ka, kn, kc, rfl, hfin.1, hfin.2⟩
    · by_cases h8 : k = 8
      · subst h8
        have HC := Lib.hid (copy_any B (Ty.mk 8 p n s ls ts) hm _ _ (hB.le HB0.out.size) HV.out.2)
        have hq : Ty.put n bt (Ty.mk 8 p n s ls ts) = Ty.mk 8 p n s ls ts := by rw [Ty.put, putC, if_neg (by omega), if_pos ⟨rfl, rfl⟩]
        rw [hq]
        clear hq
        dsimp only [Ty.k, Ty.p, Ty.n, Ty.s] at HC
        go_enter Tryd.func77, Tryd.ntmps77
        go_wp2_with fail
        refine HC.out.mono ?_
        rintro e w3 ⟨la, ln, lc, ka, kn, kc, rfl, hv3, hb3⟩
        dsimp only [Ty.k, Ty.p, Ty.n, Ty.s] at hv3 ⊢
        obtain ⟨⟨d0, d1, d2, d3, d4, d5⟩, hf1⟩ := (S2.out.to hb3).cells
        have HV3 := Lib.hid hv3
        have HB3 := Lib.hid hb3
        clear hv3 hb3
        go_wp2_with fail
        have hfin := ret_fill (c := w.heap.size + 1 + 1 + 1) HB0.out (by omega) (by simp) HB3.out HV3.out (.int .i64 8) (.int .i64 p) (.string n) (.int .i64 s) (.slice la ln lc) (.slice ka kn kc)
        exact bodyPost_ret (v := .agg #[.int .i64 8, .int .i64 p, .string n, .int .i64 s, .slice la ln lc, .slice ka kn kc]) (by simp [results, Tryd.results77, go_sem, d0, d1, d2, d3, d4, d5]) rfl ⟨la, ln, lc, ka, kn, kc, rfl, hfin.1, hfin.2⟩
      · have HC := Lib.hid (rebuild_any B k p s n lv kv ls ts (Ty.put n bt) 101 #[.pointer (some ⟨w.heap.size + 1, 0, none⟩), .pointer (some ⟨w.heap.size + 1 + 1, 0, none⟩)] hnn (Nat.le_trans hm1 (by decide)) hm2 _ (hB.le HB0.out.size) HLK.out.1 HLK.out.2 enters_replace1
          (fun t ht v wr hwr hv => HIH.out t v wr ht (hB.le (Nat.le_trans HB0.out.size hwr.size)) hv hwr))
        have hq : Ty.put n bt (Ty.mk k p n s ls ts) = Ty.mk k p n s ls (ts.map (Ty.put n bt)) := by rw [Ty.put, putC, if_neg (by omega), if_neg (by omega), Ty.puts_map]
        rw [hq]
        have h9' : (k == 9) = false := by simpa using h9
        have h8' : (k == 8) = false := by simpa using h8
        clear hq
        go_enter Tryd.func77, Tryd.ntmps77
        go_wp2_with fail
        refine HC.out.mono ?_
        rintro e w3 ⟨la, ln, lc, ka, kn, kc, rfl, hv3, hb3⟩
        dsimp only [Ty.k, Ty.p, Ty.n, Ty.s] at hv3 ⊢
        obtain ⟨⟨d0, d1, d2, d3, d4, d5⟩, hf1⟩ := (S2.out.to hb3).cells
        have HV3 := Lib.hid hv3
        have HB3 := Lib.hid hb3
        clear hv3 hb3
        go_wp2_with fail
        have hfin := ret_fill (c := w.heap.size + 1 + 1 + 1) HB0.out (by omega) (by simp) HB3.out HV3.out (.int .i64 k) (.int .i64 p) (.string n) (.int .i64 s) (.slice la ln lc) (.slice ka kn kc)
        exact bodyPost_ret (v := .agg #[.int .i64 k, .int .i64 p, .string n, .int .i64 s, .slice la ln lc, .slice ka kn kc]) (by simp [results, Tryd.results77, go_sem, d0, d1, d2, d3, d4, d5]) rfl ⟨la, ln, lc, ka, kn, kc, rfl, hfin.1, hfin.2⟩
  · have HC := Lib.hid (rebuild_any B k p s n lv kv ls ts (Ty.put nm bt) 101 #[.pointer (some ⟨w.heap.size + 1, 0, none⟩), .pointer (some ⟨w.heap.size + 1 + 1, 0, none⟩)] hnn (Nat.le_trans hm1 (by decide)) hm2 _ (hB.le HB0.out.size) HLK.out.1 HLK.out.2 enters_replace1
      (fun t ht v wr hwr hv => HIH.out t v wr ht (hB.le (Nat.le_trans HB0.out.size hwr.size)) hv hwr))
    have hq : Ty.put nm bt (Ty.mk k p n s ls ts) = Ty.mk k p n s ls (ts.map (Ty.put nm bt)) := by rw [Ty.put, putC, if_neg (fun h => hn h.2), if_neg (fun h => hn h.2), Ty.puts_map]
    rw [hq]
    have hn1 := str_ne hn
    have hn2 : (n.toList == nm.toList) = false := by simpa using hn1
    clear hq hn
    by_cases h9 : k = 9
    · subst h9
      go_enter Tryd.func77, Tryd.ntmps77
      go_wp2_with fail
      refine HC.out.mono ?_
      rintro e w3 ⟨la, ln, lc, ka, kn, kc, rfl, hv3, hb3⟩
      dsimp only [Ty.k, Ty.p, Ty.n, Ty.s] at hv3 ⊢
      obtain ⟨⟨d0, d1, d2, d3, d4, d5⟩, hf1⟩ := (S2.out.to hb3).cells
      have HV3 := Lib.hid hv3
      have HB3 := Lib.hid hb3
      clear hv3 hb3
      go_wp2_with fail
      have hfin := ret_fill (c := w.heap.size + 1 + 1 + 1) HB0.out (by omega) (by simp) HB3.out HV3.out (.int .i64 9) (.int .i64 p) (.string n) (.int .i64 s) (.slice la ln lc) (.slice ka kn kc)
      exact bodyPost_ret (v := .agg #[.int .i64 9, .int .i64 p, .string n, .int .i64 s, .slice la ln lc, .slice ka kn kc]) (by simp [results, Tryd.results77, go_sem, d0, d1, d2, d3, d4, d5]) rfl ⟨la, ln, lc, ka, kn, kc, rfl, hfin.1, hfin.2⟩
    · have h9' : (k == 9) = false := by simpa using h9
      by_cases h8 : k = 8
      · subst h8
        go_enter Tryd.func77, Tryd.ntmps77
        go_wp2_with fail
        refine HC.out.mono ?_
        rintro e w3 ⟨la, ln, lc, ka, kn, kc, rfl, hv3, hb3⟩
        dsimp only [Ty.k, Ty.p, Ty.n, Ty.s] at hv3 ⊢
        obtain ⟨⟨d0, d1, d2, d3, d4, d5⟩, hf1⟩ := (S2.out.to hb3).cells
        have HV3 := Lib.hid hv3
        have HB3 := Lib.hid hb3
        clear hv3 hb3
        go_wp2_with fail
        have hfin := ret_fill (c := w.heap.size + 1 + 1 + 1) HB0.out (by omega) (by simp) HB3.out HV3.out (.int .i64 8) (.int .i64 p) (.string n) (.int .i64 s) (.slice la ln lc) (.slice ka kn kc)
        exact bodyPost_ret (v := .agg #[.int .i64 8, .int .i64 p, .string n, .int .i64 s, .slice la ln lc, .slice ka kn kc]) (by simp [results, Tryd.results77, go_sem, d0, d1, d2, d3, d4, d5]) rfl ⟨la, ln, lc, ka, kn, kc, rfl, hfin.1, hfin.2⟩
      · have h8' : (k == 8) = false := by simpa using h8
        go_enter Tryd.func77, Tryd.ntmps77
        go_wp2_with fail
        refine HC.out.mono ?_
        rintro e w3 ⟨la, ln, lc, ka, kn, kc, rfl, hv3, hb3⟩
        dsimp only [Ty.k, Ty.p, Ty.n, Ty.s] at hv3 ⊢
        obtain ⟨⟨d0, d1, d2, d3, d4, d5⟩, hf1⟩ := (S2.out.to hb3).cells
        have HV3 := Lib.hid hv3
        have HB3 := Lib.hid hb3
        clear hv3 hb3
        go_wp2_with fail
        have hfin := ret_fill (c := w.heap.size + 1 + 1 + 1) HB0.out (by omega) (by simp) HB3.out HV3.out (.int .i64 k) (.int .i64 p) (.string n) (.int .i64 s) (.slice la ln lc) (.slice ka kn kc)
        exact bodyPost_ret (v := .agg #[.int .i64 k, .int .i64 p, .string n, .int .i64 s, .slice la ln lc, .slice ka kn kc]) (by simp [results, Tryd.results77, go_sem, d0, d1, d2, d3, d4, d5]) rfl ⟨la, ln, lc, ka, kn, kc, rfl, hfin.1, hfin.2⟩

set_option maxHeartbeats 1000000 in
set_option maxRecDepth 100000 in
theorem replace1_any (k p s : Int) (n : ByteArray) (lv kv : Value) (nm : ByteArray) (a0 a1 a2 a3 a4 a5 : Value) (b1 b2 : Nat) (g : Ty) (w : World) (h1 : w.cell? ⟨b1, 0, none⟩ = some (.string nm)) (hl1 : b1 < w.heap.size) (h2 : Six w b2 a0 a1 a2 a3 a4 a5)
    (ih : ∀ (wr : World), Below w.heap.size w wr → w.heap.size < wr.heap.size → Calls Tryd.prog 77 #[.agg #[.int .i64 k, .int .i64 p, .string n, .int .i64 s, lv, kv], .string nm, .agg #[a0, a1, a2, a3, a4, a5]] wr (TyRet wr g)) :
    Calls Tryd.prog 101 #[.agg #[.int .i64 k, .int .i64 p, .string n, .int .i64 s, lv, kv], .pointer (some ⟨b1, 0, none⟩), .pointer (some ⟨b2, 0, none⟩)] w (TyRet w g) := by
  have hb0 := box2_below w (cell6 k p n s lv kv) (cell6 0 0 ⟨#[]⟩ 0 (.slice none 0 0) (.slice none 0 0))
  obtain ⟨s0, s1⟩ := Six.two w (.int .i64 k) (.int .i64 p) (.string n) (.int .i64 s) lv kv (.int .i64 0) (.int .i64 0) (.string ⟨#[]⟩) (.int .i64 0) (.slice none 0 0) (.slice none 0 0)
  have HR := Lib.hid (ih _ hb0 (by simp; omega))
  have S1 := Lib.hid s1
  have HB0 := Lib.hid hb0
  have hck := (hb0.cell (p := ⟨b1, 0, none⟩) hl1).trans h1
  obtain ⟨⟨e0, e1, e2, e3, e4, e5⟩, hf2⟩ := (h2.to hb0).cells
  clear s0 s1 ih hb0
  go_enter Tryd.func101, Tryd.ntmps101
  go_wp2_with fail
  refine HR.out.mono ?_
  rintro e w3 ⟨la, ln, lc, ka, kn, kc, rfl, hv3, hb3⟩
  clear e0 e1 e2 e3 e4 e5 hf2 hck
  obtain ⟨⟨d0, d1, d2, d3, d4, d5⟩, hf1⟩ := (S1.out.to hb3).cells
  have HV := Lib.hid hv3
  have HB3 := Lib.hid hb3
  clear hv3 hb3
  go_wp2_with fail
  have hfin := ret_fill (c := w.heap.size + 1) HB0.out (by omega) (by simp) HB3.out HV.out (.int .i64 g.k) (.int .i64 g.p) (.string g.n) (.int .i64 g.s) (.slice la ln lc) (.slice ka kn kc)
  exact bodyPost_ret (v := .agg #[.int .i64 g.k, .int .i64 g.p, .string g.n, .int .i64 g.s, .slice la ln lc, .slice ka kn kc]) (by simp [results, Tryd.results101, go_sem, d0, d1, d2, d3, d4, d5]) rfl ⟨la, ln, lc, ka, kn, kc, rfl, hfin.1, hfin.2⟩

theorem replace_any (B : Nat → Prop) (nm : ByteArray) (bt : Ty) (hbm : bt.mod) : ∀ t : Ty, t.mod → ∀ (v vb : Value) (w : World), Low B w → TyVal B w v t → TyVal B w vb bt → Calls Tryd.prog 77 #[v, .string nm, vb] w (TyRet w (Ty.put nm bt t)) := by
  refine Ty.ind ?_
  intro k p n s ls ts ih hm v vb w hB hv hvb
  obtain ⟨lv, kv, rfl, hn, hl, hk⟩ := hv
  have hm' := hm
  simp only [Ty.mod] at hm'
  have hvb' := hvb
  obtain ⟨blv, bkv, rfl, _⟩ := hvb'
  have IH := fun t ht => ih t ht (Ty.mods_mem hm'.2.2.2.2 t ht)
  refine replace_step B nm bt hbm k p s n lv kv blv bkv ls ts hm hn w hB hl hk hvb ?_
  intro t v wr ht hBr hv hwr
  obtain ⟨lv', kv', rfl, hv2⟩ := hv
  have hb0 := box4_below w (cell6 k p n s lv kv) (.cells #[.string nm] 9) (cell6 bt.k bt.p bt.n bt.s blv bkv) (cell6 0 0 ⟨#[]⟩ 0 (.slice none 0 0) (.slice none 0 0))
  have c1 : (box4 w k p n s lv kv nm bt.k bt.p bt.n bt.s blv bkv).cell? ⟨w.heap.size + 1, 0, none⟩ = some (.string nm) := by
    have h := blk_cell (w := w.alloc (cell6 k p n s lv kv)) (cs := #[.string nm]) (t := 9) (Below.refl _ _) 0 rfl
    rw [World.size_alloc] at h
    exact ((box2_below ((w.alloc (cell6 k p n s lv kv)).alloc (.cells #[.string nm] 9)) _ _).cell (p := ⟨w.heap.size + 1, 0, none⟩) (by simp)).trans h
  have s2 := (Six.new ((w.alloc (cell6 k p n s lv kv)).alloc (.cells #[.string nm] 9)) (.int .i64 bt.k) (.int .i64 bt.p) (.string bt.n) (.int .i64 bt.s) blv bkv).to (blkBelow _ #[.int .i64 0, .int .i64 0, .string ⟨#[]⟩, .int .i64 0, .slice none 0 0, .slice none 0 0] 25)
  simp only [World.size_alloc] at s2
  have hsz : w.heap.size + 4 ≤ wr.heap.size := by have := hwr.size; simp at this; omega
  exact replace1_any _ _ _ _ lv' kv' nm _ _ _ _ _ _ (w.heap.size + 1) (w.heap.size + 1 + 1) _ wr ((hwr.cell (p := ⟨w.heap.size + 1, 0, none⟩) (by simp)).trans c1) (by omega) (s2.to hwr)
    (fun wr' hwr' _ => IH t ht _ _ wr' (hBr.le hwr'.size) (TyVal.to hBr hwr' ⟨lv', kv', rfl, hv2⟩) (hvb.to hB (hb0.trans ((hwr.mono (by simp; omega)).trans (hwr'.mono (by omega))))))

end Go.Proofs.YtipjjhkgcbabnaaDoor
