/- Types: replace. -/
import Derived.Test.YtjmnaibbljakaaaGreatDoorTyK
namespace Go.Proofs.YtjmnaibbljakaaaGreatDoor
open Go.RowKit Go.Deep Go.Shelf

def putC (nm : ByteArray) (b : Ty) (k p : Int) (n : ByteArray) (s : Int) (ls : List ByteArray) (ts ts' : List Ty) : Ty :=
  if k = 9 ∧ n = nm then b.raise s else if k = 8 ∧ n = nm then .mk k p n s ls ts else .mk k p n s ls ts'
section
variable (nm : ByteArray) (b : Ty)
mutual
def Ty.put : Ty → Ty
  | .mk k p n s ls ts => putC nm b k p n s ls ts (Ty.puts ts)
def Ty.puts : List Ty → List Ty
  | [] => []
  | t :: r => Ty.put t :: Ty.puts r
end
end
theorem Ty.puts_map (nm : ByteArray) (b : Ty) : ∀ ts : List Ty, Ty.puts nm b ts = ts.map (Ty.put nm b)
  | [] => rfl
  | t :: r => by rw [Ty.puts, List.map_cons, Ty.puts_map nm b r]

/-- The world in which replace calls. -/
abbrev box4 (w : World) (k p : Int) (n : ByteArray) (s : Int) (lv kv : Value) (nm : ByteArray) (k' p' : Int) (n' : ByteArray) (s' : Int) (lv' kv' : Value) : World :=
  (((w.alloc (cell6 k p n s lv kv)).alloc (.cells #[.string nm] 9)).alloc (cell6 k' p' n' s' lv' kv')).alloc (cell6 0 0 ⟨#[]⟩ 0 (.slice none 0 0) (.slice none 0 0))
theorem box4_below (w : World) (o o' o'' o3 : Obj) : Below w.heap.size w ((((w.alloc o).alloc o').alloc o'').alloc o3) := ((((Below.refl _ _).alloc (Nat.le_refl _) _).alloc (by simp) _).alloc (by simp; omega) _).alloc (by simp; omega) _

end Go.Proofs.YtjmnaibbljakaaaGreatDoor
