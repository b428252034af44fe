/- Types: recsInFront and Unfold, where one TRec stands in front. -/
import Derived.Test.YtjmnaibbljakaaaGreatDoorTyL
namespace Go.Proofs.YtjmnaibbljakaaaGreatDoor
open Go.RowKit Go.Deep Go.Shelf

/-- Between two rounds of recsInFront. -/
def RecI (w : World) (o : Obj) (b : Ty) (la : Option Addr) (ln lc : Nat) (ka : Option Addr) (kn kc : Nat) (m : Nat) (wr : World) : Prop :=
  (m = 0 ∧ wr = w.alloc o) ∨ (m = 1 ∧ Six wr w.heap.size (.int .i64 b.k) (.int .i64 b.p) (.string b.n) (.int .i64 b.s) (.slice la ln lc) (.slice ka kn kc) ∧ Below w.heap.size w wr)

theorem TyVal.drew {B : Nat → Prop} {w : World} {v : Value} {t : Ty} (h : TyVal B w v t) : TyVal B w.drew v t := TyVal.keep (w := w) (w' := w.drew) (fun _ _ _ h _ => h) h
/-- Between two rounds of Unfold. -/
def UnfI (w w5 : World) (lo : Nat) (g : Ty) (m : Nat) (wr : World) : Prop :=
  (m = 0 ∧ wr = w5) ∨ (m = 1 ∧ ∃ la ln lc ka kn kc, Six wr lo (.int .i64 g.k) (.int .i64 g.p) (.string g.n) (.int .i64 g.s) (.slice la ln lc) (.slice ka kn kc) ∧
    TyVal (Fresh (lo + 1) wr.heap.size) wr (.agg #[.int .i64 g.k, .int .i64 g.p, .string g.n, .int .i64 g.s, .slice la ln lc, .slice ka kn kc]) g ∧
    Six wr (w.heap.size + 1) (.int .i64 0) (.int .i64 0) (.string ⟨#[]⟩) (.int .i64 0) (.slice none 0 0) (.slice none 0 0) ∧ Below w.heap.size w wr)

end Go.Proofs.YtjmnaibbljakaaaGreatDoor
