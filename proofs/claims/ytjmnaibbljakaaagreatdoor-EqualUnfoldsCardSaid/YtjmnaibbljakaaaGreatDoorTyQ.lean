/- A region that draws its order and whose calls make memory: quiet in the class of all worlds that have kept what lay below a block. -/
import Derived.Test.YtjmnaibbljakaaaGreatDoorTyNc
namespace Go.Proofs.YtjmnaibbljakaaaGreatDoor
open Go.RowKit

/-- The worlds in which everything below block n lies as in w0. -/
def Later (n : Nat) (w0 : World) : Type := { w' : World // Below n w0 w' }
instance (n : Nat) (w0 : World) : Nonempty (Later n w0) := ⟨⟨w0, Below.refl _ _⟩⟩

theorem wp_region_later {P : Program} {id : Nat} {Q : Exit → Act → World → Prop} {a : Act} {w : World} {l : List Oper} (n : Nat) (w0 : World) (hm : P.follows .mixedOrders = true) (hB : Region.lexB .any l.toArray = true) (hC : Below n w0 w)
    (h : wpQuiet P l.toArray (fun w' => ∃ q : Later n w0, w' = q.1) (fun a' => ∀ w', (∃ q : Later n w0, w' = q.1) → Q .normal a' w') l a) : (Code.region id l.toArray true).wp P Q a w :=
  wp_region_quiet (C := fun w' => ∃ q : Later n w0, w' = q.1) hm hB ⟨⟨_, hC.drew⟩, rfl⟩ (by simpa using h)
theorem later_call {P : Program} {n : Nat} {w0 : World} {f : FuncId} {args : Array Value} {v : Value} (q : Later n w0) (hn : n ≤ w0.heap.size) (h : Calls P f args q.1 fun e w' => e = .returned v ∧ Below q.1.heap.size q.1 w') :
    Calls P f args q.1 fun e w'' => e = .returned v ∧ ∃ q' : Later n w0, w'' = q'.1 :=
  h.mono fun _ w2 ⟨he, hb⟩ => ⟨he, ⟨⟨w2, q.2.trans (hb.mono (Nat.le_trans hn q.2.size))⟩, rfl⟩⟩
theorem later_call_same {P : Program} {n : Nat} {w0 : World} {f : FuncId} {args : Array Value} {v : Value} (q : Later n w0) (h : Calls P f args q.1 fun e w' => e = .returned v ∧ q.1 = w') :
    Calls P f args q.1 fun e w'' => e = .returned v ∧ ∃ q' : Later n w0, w'' = q'.1 :=
  h.mono fun _ _ ⟨he, hb⟩ => ⟨he, ⟨q, hb.symm⟩⟩

end Go.Proofs.YtjmnaibbljakaaaGreatDoor
