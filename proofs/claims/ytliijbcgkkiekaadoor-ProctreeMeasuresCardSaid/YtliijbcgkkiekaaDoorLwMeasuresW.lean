/- Processes: the law about measures. -/
import Derived.Test.YtliijbcgkkiekaaDoorPb31
import Derived.Test.YtliijbcgkkiekaaDoorPb36
namespace Go.Proofs.YtliijbcgkkiekaaDoor
open Go.RowKit Go.Deep Go.Shelf

theorem ProctreeMeasures_any (t0 : Pr) (_ : t0.fine) (v0 : Value) (t1 : Pr) (_ : t1.fine) (v1 : Value) (t2 : Pg) (hf2 : Pg.fine t2) (v2 : Value) (t3 : Pg) (hf3 : Pg.fine t3) (v3 : Value) (E : Nat) (w : World) (he : Env E w) (h0 : PLies w v0 t0) (h1 : PLies w v1 t1) (h2 : GLies w v2 t2) (h3 : GLies w v3 t3) :
    Calls Tryd.prog 5 #[v0, v1, v2, v3] w fun e w' => e = .returned (.bool true) ∧ Below w.heap.size w w' :=
  ProctreeMeasures_of pawake_any t0 t1 t2 t3 v0 v1 v2 v3 hf2 hf3 E w he h0 h1 h2 h3

end Go.Proofs.YtliijbcgkkiekaaDoor
