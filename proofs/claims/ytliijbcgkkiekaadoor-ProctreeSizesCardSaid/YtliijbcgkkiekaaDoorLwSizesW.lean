/- Processes: the law about sizes. -/
import Derived.Test.YtliijbcgkkiekaaDoorPb31
import Derived.Test.YtliijbcgkkiekaaDoorPb32
namespace Go.Proofs.YtliijbcgkkiekaaDoor
open Go.RowKit Go.Deep Go.Shelf

theorem ProctreeSizes_any (t0 : Pr) (hf0 : t0.fine) (v0 : Value) (t1 : Pr) (hf1 : t1.fine) (v1 : Value) (E : Nat) (w : World) (he : Env E w) (h0 : PLies w v0 t0) (h1 : PLies w v1 t1) :
    Calls Tryd.prog 9 #[v0, v1] w fun e w' => e = .returned (.bool true) ∧ Below w.heap.size w w' :=
  ProctreeSizes_of pawake_any t0 t1 v0 v1 hf0 hf1 E w he h0 h1

end Go.Proofs.YtliijbcgkkiekaaDoor
