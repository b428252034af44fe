/- Types: Copy, Raise. -/
import Derived.Test.YtjmnaibbljakaaaGreatDoorTyI
import Derived.Shelf.Abstract
namespace Go.Proofs.YtjmnaibbljakaaaGreatDoor
open Go.RowKit Go.Deep Go.Shelf

/-- Types whose lists are not too long, and whose priorities and shifts are not too great. -/
def okI (p : Int) : Prop := -1000000000000 ≤ p ∧ p ≤ 1000000000000
mutual
def Ty.mod : Ty → Prop
  | .mk _ p _ s ls ts => ls.length ≤ 1048576 ∧ ts.length ≤ 1048576 ∧ okI p ∧ okI s ∧ Ty.mods ts
def Ty.mods : List Ty → Prop
  | [] => True
  | t :: r => t.mod ∧ Ty.mods r
end
theorem Ty.mods_mem : ∀ {ts : List Ty}, Ty.mods ts → ∀ t ∈ ts, t.mod
  | [], _, _, h => by cases h
  | u :: r, h, t, ht => by
    simp only [Ty.mods] at h
    rcases List.mem_cons.1 ht with rfl | ht
    · exact h.1
    · exact Ty.mods_mem h.2 t ht

mutual
/-- Types whose lists can be copied. -/
def Ty.modc : Ty → Prop
  | .mk _ _ _ _ ls ts => ls.length ≤ 400000000 ∧ ts.length ≤ 1048576 ∧ Ty.modcs ts
def Ty.modcs : List Ty → Prop
  | [] => True
  | t :: r => t.modc ∧ Ty.modcs r
end
theorem Ty.modcs_mem : ∀ {ts : List Ty}, Ty.modcs ts → ∀ t ∈ ts, t.modc
  | [], _, _, h => by cases h
  | u :: r, h, t, ht => by
    simp only [Ty.modcs] at h
    rcases List.mem_cons.1 ht with rfl | ht
    · exact h.1
    · exact Ty.modcs_mem h.2 t ht
mutual
theorem Ty.mod_c : ∀ t : Ty, t.mod → t.modc
  | .mk _ _ _ _ ls ts, h => by
    simp only [Ty.mod] at h
    simp only [Ty.modc]
    exact ⟨Nat.le_trans h.1 (by decide), h.2.1, Ty.mods_c ts h.2.2.2.2⟩
theorem Ty.mods_c : ∀ ts : List Ty, Ty.mods ts → Ty.modcs ts
  | [], _ => by simp only [Ty.modcs]
  | t :: r, h => by
    simp only [Ty.mods] at h
    simp only [Ty.modcs]
    exact ⟨Ty.mod_c t h.1, Ty.mods_c r h.2⟩
end

/-- A type that was returned, stored into a box of the caller's and read from it. -/
theorem ret_fill {w W w3 : World} {c : Nat} (hW : Below w.heap.size w W) (hwc : w.heap.size ≤ c) (hc : c < W.heap.size) (hb3 : Below W.heap.size W w3) {g : Ty} {v : Value} (hv : TyVal (Fresh W.heap.size w3.heap.size) w3 v g) (v0 v1 v2 v3 v4 v5 : Value) :
    TyVal (Fresh w.heap.size ((((((w3.setCell ⟨c, 0, none⟩ v0).setCell ⟨c, 1, none⟩ v1).setCell ⟨c, 2, none⟩ v2).setCell ⟨c, 3, none⟩ v3).setCell ⟨c, 4, none⟩ v4).setCell ⟨c, 5, none⟩ v5).heap.size)
      ((((((w3.setCell ⟨c, 0, none⟩ v0).setCell ⟨c, 1, none⟩ v1).setCell ⟨c, 2, none⟩ v2).setCell ⟨c, 3, none⟩ v3).setCell ⟨c, 4, none⟩ v4).setCell ⟨c, 5, none⟩ v5) v g ∧
    Below w.heap.size w ((((((w3.setCell ⟨c, 0, none⟩ v0).setCell ⟨c, 1, none⟩ v1).setCell ⟨c, 2, none⟩ v2).setCell ⟨c, 3, none⟩ v3).setCell ⟨c, 4, none⟩ v4).setCell ⟨c, 5, none⟩ v5) := by
  have ha := (Above.refl W.heap.size w3).fill hc v0 v1 v2 v3 v4 v5
  exact ⟨(hv.keep ha.keeps).mono (Fresh.mono hW.size ha.size), below_fill (below_seq hW hb3) hwc v0 v1 v2 v3 v4 v5⟩

/-! ### Raise -/
mutual
def Ty.raise (j : Int) : Ty → Ty
  | .mk k p n s ls ts => .mk k (if actB k then p + j else p) n s ls (Ty.raises j ts)
def Ty.raises (j : Int) : List Ty → List Ty
  | [] => []
  | t :: r => t.raise j :: Ty.raises j r
end
theorem Ty.raises_map (j : Int) : ∀ ts : List Ty, Ty.raises j ts = ts.map (Ty.raise j)
  | [] => rfl
  | t :: r => by rw [Ty.raises, List.map_cons, Ty.raises_map j r]

end Go.Proofs.YtjmnaibbljakaaaGreatDoor
