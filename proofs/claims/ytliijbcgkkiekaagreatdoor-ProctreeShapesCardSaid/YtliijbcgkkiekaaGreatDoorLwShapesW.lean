/- Processes: the law about shapes. -/
import Derived.Test.YtliijbcgkkiekaaGreatDoorPz16
import Derived.Test.YtliijbcgkkiekaaGreatDoorPz19
namespace Go.Proofs.YtliijbcgkkiekaaGreatDoor
open Go.RowKit Go.Deep Go.Shelf

theorem ProctreeShapes_any (t0 : Pr) (hf0 : t0.fine) (v0 : Value) (t1 : Pg) (hf1 : Pg.fine t1) (v1 : Value) (E : Nat) (w : World) (he : Env E w) (h0 : PLies w v0 t0) (h1 : GLies w v1 t1) :
    Calls Tryz.prog 3 #[v0, v1] w fun e w' => e = .returned (.bool true) ∧ Below w.heap.size w w' :=
  ProctreeShapes_of pawake_any t0 t1 v0 v1 hf0 hf1 E w he h0 h1

end Go.Proofs.YtliijbcgkkiekaaGreatDoor
