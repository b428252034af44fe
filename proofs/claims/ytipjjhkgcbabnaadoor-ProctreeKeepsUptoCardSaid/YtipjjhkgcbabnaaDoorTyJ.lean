/- Types: Copy, Raise. -/
import Derived.Test.YtipjjhkgcbabnaaDoorTyI
import Derived.Shelf.Abstract
namespace Go.Proofs.YtipjjhkgcbabnaaDoor
open Go.RowKit Go.Deep Go.Shelf

/-- Types whose lists are not too long, and whose priorities and shifts are not too great. -/
def okI (p : Int) : Prop := -1000000000000 ≤ p ∧ p ≤ 1000000000000
mutual
def Ty.mod : Ty → Prop
  | .mk _ p _ s ls ts => ls.length ≤ 1048576 ∧ ts.length ≤ 1048576 ∧ okI p ∧ okI s ∧ Ty.mods ts
def Ty.mods : List Ty → Prop
  | [] => True
  | t :: r => t.mod ∧ Ty.mods r
end
theorem Ty.mods_mem : ∀ {ts : List Ty}, Ty.mods ts → ∀ t ∈ ts, t.mod
  | [], _, _, h => by cases h
  | u :: r, h, t, ht => by
    simp only [Ty.mods] at h
    rcases List.mem_cons.1 ht with rfl | ht
    · exact h.1
    · exact Ty.mods_mem h.2 t ht

mutual
/-- Types whose lists can be copied. -/
def Ty.modc : Ty → Prop
  | .mk _ _ _ _ ls ts => ls.length ≤ 400000000 ∧ ts.length ≤ 1048576 ∧ Ty.modcs ts
def Ty.modcs : List Ty → Prop
  | [] => True
  | t :: r => t.modc ∧ Ty.modcs r
end
theorem Ty.modcs_mem : ∀ {ts : List Ty}, Ty.modcs ts → ∀ t ∈ ts, t.modc
  | [], _, _, h => by cases h
  | u :: r, h, t, ht => by
    simp only [Ty.modcs] at h
    rcases List.mem_cons.1 ht with rfl | ht
    · exact h.1
    · exact Ty.modcs_mem h.2 t ht
mutual
theorem Ty.mod_c : ∀ t : Ty, t.mod → t.modc
  | .mk _ _ _ _ ls ts, h => by
    simp only [Ty.mod] at h
    simp only [Ty.modc]
    exact ⟨Nat.le_trans h.1 (by decide), h.2.1, Ty.mods_c ts h.2.2.2.2⟩
theorem Ty.mods_c : ∀ ts : List Ty, Ty.mods ts → Ty.modcs ts
  | [], _ => by simp only [Ty.modcs]
  | t :: r, h => by
    simp only [Ty.mods] at h
    simp only [Ty.modcs]
    exact ⟨Ty.mod_c t h.1, Ty.mods_c r h.2⟩
end

/-- A type that was returned, stored into a box of the caller's and read from it. -/
theorem ret_fill {w W w3 : World} {c : Nat} (hW : Below w.heap.size w W) (hwc : w.heap.size ≤ c) (hc : c < W.heap.size) (hb3 : Below W.heap.size W w3) {g : Ty} {v : Value} (hv : TyVal (Fresh W.heap.size w3.heap.size) w3 v g) (v0 v1 v2 v3 v4 v5 : Value) :
    TyVal (Fresh w.heap.size ((((((w3.setCell ⟨c, 0, none⟩ v0).setCell ⟨c, 1, none⟩ v1).setCell ⟨c, 2, none⟩ v2).setCell ⟨c, 3, none⟩ v3).setCell ⟨c, 4, none⟩ v4).setCell ⟨c, 5, none⟩ v5).heap.size)
      ((((((w3.setCell ⟨c, 0, none⟩ v0).setCell ⟨c, 1, none⟩ v1).setCell ⟨c, 2, none⟩ v2).setCell ⟨c, 3, none⟩ v3).setCell ⟨c, 4, none⟩ v4).setCell ⟨c, 5, none⟩ v5) v g ∧
    Below w.heap.size w ((((((w3.setCell ⟨c, 0, none⟩ v0).setCell ⟨c, 1, none⟩ v1).setCell ⟨c, 2, none⟩ v2).setCell ⟨c, 3, none⟩ v3).setCell ⟨c, 4, none⟩ v4).setCell ⟨c, 5, none⟩ v5) := by
  have ha := (Above.refl W.heap.size w3).fill hc v0 v1 v2 v3 v4 v5
  exact ⟨(hv.keep ha.keeps).mono (Fresh.mono hW.size ha.size), below_fill (below_seq hW hb3) hwc v0 v1 v2 v3 v4 v5⟩

theorem enters_copy : ∀ args w, (callFunc 74 args).run Tryd.prog w = .ok (.enter 74 args) w := enters_of Tryd.func74 (by kernel_rfl) rfl
theorem enters_raise1 : ∀ args w, (callFunc 79 args).run Tryd.prog w = .ok (.enter 79 args) w := enters_of Tryd.func79 (by kernel_rfl) rfl
theorem enters_replace1 : ∀ args w, (callFunc 101 args).run Tryd.prog w = .ok (.enter 101 args) w := enters_of Tryd.func101 (by kernel_rfl) rfl

set_option maxHeartbeats 1000000 in
set_option maxRecDepth 100000 in
theorem copy_step (B : Nat → Prop) (k p s : Int) (n : ByteArray) (lv kv : Value) (ls : List ByteArray) (ts : List Ty) (hm : (Ty.mk k p n s ls ts).modc) (hnn : n.size ≤ maxLen) (w : World) (hB : Low B w) (hl : StrSl B w lv ls) (hk : TySl B w kv ts)
    (ih : ∀ t ∈ ts, ∀ (v : Value) (w : World), Low B w → TyVal B w v t → Calls Tryd.prog 74 #[v] w (TyRet w t)) :
    Calls Tryd.prog 74 #[.agg #[.int .i64 k, .int .i64 p, .string n, .int .i64 s, lv, kv]] w (TyRet w (.mk k p n s ls ts)) := by
  simp only [Ty.modc] at hm
  obtain ⟨hm1, hm2, _⟩ := hm
  have hb0 := box2_below w (cell6 k p n s lv kv) (cell6 0 0 ⟨#[]⟩ 0 (.slice none 0 0) (.slice none 0 0))
  obtain ⟨s0, s1⟩ := Six.two w (.int .i64 k) (.int .i64 p) (.string n) (.int .i64 s) lv kv (.int .i64 0) (.int .i64 0) (.string ⟨#[]⟩) (.int .i64 0) (.slice none 0 0) (.slice none 0 0)
  have HR := Lib.hid (rebuild_any B k p s n lv kv ls ts id 74 #[] hnn hm1 hm2 _ (hB.le hb0.size) (hl.keep (hb0.keeps'.mono hB)) (hk.keep (hb0.keeps'.mono hB)) enters_copy
    (fun t ht v wr hwr hv => ih t ht v wr (hB.le (Nat.le_trans hb0.size hwr.size)) hv))
  have S1 := Lib.hid s1
  have HB0 := Lib.hid hb0
  clear s0 s1 hl hk ih hb0
  rw [List.map_id] at HR
  go_enter Tryd.func74, Tryd.ntmps74
  go_wp2_with fail
  refine HR.out.mono ?_
  rintro e w3 ⟨la, ln, lc, ka, kn, kc, rfl, hv3, hb3⟩
  obtain ⟨⟨d0, d1, d2, d3, d4, d5⟩, hf1⟩ := (S1.out.to hb3).cells
  have HV := Lib.hid hv3
  have HB3 := Lib.hid hb3
  clear hv3 hb3
  go_wp2_with fail
  have hfin := ret_fill (c := w.heap.size + 1) HB0.out (by omega) (by simp) HB3.out HV.out (.int .i64 k) (.int .i64 p) (.string n) (.int .i64 s) (.slice la ln lc) (.slice ka kn kc)
  exact bodyPost_ret (v := .agg #[.int .i64 k, .int .i64 p, .string n, .int .i64 s, .slice la ln lc, .slice ka kn kc]) (by simp [results, Tryd.results74, go_sem, d0, d1, d2, d3, d4, d5, Ty.k, Ty.p, Ty.n, Ty.s]) rfl ⟨la, ln, lc, ka, kn, kc, rfl, hfin.1, hfin.2⟩

theorem copy_anyc (B : Nat → Prop) : ∀ t : Ty, t.modc → ∀ (v : Value) (w : World), Low B w → TyVal B w v t → Calls Tryd.prog 74 #[v] w (TyRet w t) := by
  refine Ty.ind ?_
  intro k p n s ls ts ih hm v w hB hv
  obtain ⟨lv, kv, rfl, hn, hl, hk⟩ := hv
  have hm' := hm
  simp only [Ty.modc] at hm'
  exact copy_step B k p s n lv kv ls ts hm hn w hB hl hk (fun t ht => ih t ht (Ty.modcs_mem hm'.2.2 t ht))
theorem copy_any (B : Nat → Prop) (t : Ty) (hm : t.mod) : ∀ (v : Value) (w : World), Low B w → TyVal B w v t → Calls Tryd.prog 74 #[v] w (TyRet w t) := copy_anyc B t (Ty.mod_c t hm)

/-! ### Raise -/
mutual
def Ty.raise (j : Int) : Ty → Ty
  | .mk k p n s ls ts => .mk k (if actB k then p + j else p) n s ls (Ty.raises j ts)
def Ty.raises (j : Int) : List Ty → List Ty
  | [] => []
  | t :: r => t.raise j :: Ty.raises j r
end
theorem Ty.raises_map (j : Int) : ∀ ts : List Ty, Ty.raises j ts = ts.map (Ty.raise j)
  | [] => rfl
  | t :: r => by rw [Ty.raises, List.map_cons, Ty.raises_map j r]

set_option maxHeartbeats 1000000 in
set_option maxRecDepth 100000 in
theorem raise1_any (k p s : Int) (n : ByteArray) (lv kv : Value) (j : Int) (bk : Nat) (g : Ty) (w : World) (hbk : w.cell? ⟨bk, 0, none⟩ = some (.int .i64 j)) (hlt : bk < w.heap.size)
    (ih : ∀ (wr : World), Below w.heap.size w wr → w.heap.size < wr.heap.size → Calls Tryd.prog 46 #[.agg #[.int .i64 k, .int .i64 p, .string n, .int .i64 s, lv, kv], .int .i64 j] wr (TyRet wr g)) :
    Calls Tryd.prog 79 #[.agg #[.int .i64 k, .int .i64 p, .string n, .int .i64 s, lv, kv], .pointer (some ⟨bk, 0, none⟩)] w (TyRet w g) := by
  have hb0 := box2_below w (cell6 k p n s lv kv) (cell6 0 0 ⟨#[]⟩ 0 (.slice none 0 0) (.slice none 0 0))
  obtain ⟨s0, s1⟩ := Six.two w (.int .i64 k) (.int .i64 p) (.string n) (.int .i64 s) lv kv (.int .i64 0) (.int .i64 0) (.string ⟨#[]⟩) (.int .i64 0) (.slice none 0 0) (.slice none 0 0)
  have HR := Lib.hid (ih _ hb0 (by simp; omega))
  have S1 := Lib.hid s1
  have HB0 := Lib.hid hb0
  have hck := (hb0.cell (p := ⟨bk, 0, none⟩) hlt).trans hbk
  clear s0 s1 ih hb0
  go_enter Tryd.func79, Tryd.ntmps79
  go_wp2_with fail
  refine HR.out.mono ?_
  rintro e w3 ⟨la, ln, lc, ka, kn, kc, rfl, hv3, hb3⟩
  obtain ⟨⟨d0, d1, d2, d3, d4, d5⟩, hf1⟩ := (S1.out.to hb3).cells
  have HV := Lib.hid hv3
  have HB3 := Lib.hid hb3
  clear hv3 hb3 hck
  go_wp2_with fail
  have hfin := ret_fill (c := w.heap.size + 1) HB0.out (by omega) (by simp) HB3.out HV.out (.int .i64 g.k) (.int .i64 g.p) (.string g.n) (.int .i64 g.s) (.slice la ln lc) (.slice ka kn kc)
  exact bodyPost_ret (v := .agg #[.int .i64 g.k, .int .i64 g.p, .string g.n, .int .i64 g.s, .slice la ln lc, .slice ka kn kc]) (by simp [results, Tryd.results79, go_sem, d0, d1, d2, d3, d4, d5]) rfl ⟨la, ln, lc, ka, kn, kc, rfl, hfin.1, hfin.2⟩

end Go.Proofs.YtipjjhkgcbabnaaDoor
