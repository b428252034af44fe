/- Processes: the law about free names. -/
import Derived.Test.YtliijbcgkkiekaaDoorPb31
import Derived.Test.YtliijbcgkkiekaaDoorPb38
namespace Go.Proofs.YtliijbcgkkiekaaDoor
open Go.RowKit Go.Deep Go.Shelf

theorem ProctreeFree_any (t0 : Pr) (_ : t0.fine) (v0 : Value) (hn : t0.nms ≤ 400000000) (E : Nat) (w : World) (he : Env E w) (h0 : PLies w v0 t0) :
    Calls Tryd.prog 6 #[v0] w fun e w' => e = .returned (.bool true) ∧ Below w.heap.size w w' :=
  ProctreeFree_of pawake_any t0 v0 (by omega) E w he h0

end Go.Proofs.YtliijbcgkkiekaaDoor
