/- Processes: the law about binding. -/
import Derived.Test.YtliijbcgkkiekaaDoorPb31
import Derived.Test.YtliijbcgkkiekaaDoorPb39
namespace Go.Proofs.YtliijbcgkkiekaaDoor
open Go.RowKit Go.Deep Go.Shelf

theorem ProctreeBinds_any (t0 : Pr) (_ : t0.fine) (v0 : Value) (hm0 : t0.nms ≤ 400000000) (t1 : Pr) (_ : t1.fine) (v1 : Value) (hm1 : t1.nms ≤ 400000000) (c : ByteArray) (hc : c.size ≤ maxLen) (x : ByteArray) (hx : x.size ≤ maxLen) (E : Nat) (w : World) (he : Env E w) (h0 : PLies w v0 t0) (h1 : PLies w v1 t1) :
    Calls Tryd.prog 7 #[v0, v1, .string c, .string x] w fun e w' => e = .returned (.bool true) ∧ Below w.heap.size w w' :=
  ProctreeBinds_of pawake_any t0 t1 v0 v1 c x hc hx hm0 hm1 E w he h0 h1

end Go.Proofs.YtliijbcgkkiekaaDoor
