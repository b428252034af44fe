/-
  NARROWER THAN 'FOR EVERY INPUT', by the rows' own cells (each row's printed sentence says how): DualMatchesReference: loops · DualInvolution: loops · DualPaths: loops.
  DERIVED. THE GIVEN ROWS OF THIS SEAT. 4 by the template 'for every input the law returns true; each argument reads behind the call as it read before'; 0 by the template 'total and deterministic' (their statements: YtkjngbliomckiaaTotals.lean).
  GIVEN WITH THE SEED: the statements are not yours to turn. If you find one false, say at which input.
  Laid BY PROGRAM, IN A SANDBOX (cutbox-rows.mjs): the forced cells as the released guide's own fill.sh prints them over the translation 96e6e3f9f0b11f20… (all of the seat's roots in one cut). By AI agents, Wed Nov 11 2026. No macro, syntax, notation, axiom, sorry.
-/
import Derived.Test.YtkjngbliomckiaaChecked
import GoSem.Claim
import GoSem.ClaimJoined
import GoSem.ClaimMapViews
import Derived.JoinedTies
import Derived.KernelRfl
namespace Go.Proofs.Ytkjngbliomckiaa
/- THE CELL 'sum', in the pinned program and in every row, IS THE sha256 OF THE DUMP (.gsa) THAT YtkjngbliomckiaaProg.lean LOADS. Nothing in Lean hashes anything: it is a label: what it is worth is what the hold of that sum in a sandbox is worth. -/
noncomputable def Try.pinned : Pinned := { name := "ytkjngbliomckiaa", sum := "96e6e3f9f0b11f20655ae9641146bae47f5c744d3e4d1a5da52b5b2401a1f35a", checked := Try.checked }
namespace Rows
def none {H : Type} : Left H := { results := [], args := [] }

/-- 'duologuelaw09.DualMatchesReference': WHATEVER THE INPUT: true; the input reads as it did. -/
def dualMatchesReferenceSpec : ChangeSpec := { name := "dualMatchesReference", fn := fun _ => fun
  | [d1, d2] => { results := [.lit (.bool true)], args := [d1, d2] }
  | _ => none }
def dualMatchesReferenceRow : OpenClaim := { program := "ytkjngbliomckiaa", sum := "96e6e3f9f0b11f20655ae9641146bae47f5c744d3e4d1a5da52b5b2401a1f35a", func := "duologue/duologuelaw09.DualMatchesReference", spec := "dualMatchesReference", unfollowed := true, recurses := true, loops := true, apart := false }
def DualMatchesReferenceSaid : Prop := dualMatchesReferenceRow.holds Try.pinned (OpenSpec.ofChange dualMatchesReferenceSpec)

/-- ITS FALSE NEIGHBOUR: 'it returns false'. Refute it at one input. -/
def dualMatchesReferenceWrong : ChangeSpec := { name := "dualMatchesReference", fn := fun _ => fun
  | [d1, d2] => { results := [.lit (.bool false)], args := [d1, d2] }
  | _ => none }
def DualMatchesReferenceWrongFalsely : Prop := dualMatchesReferenceRow.holds Try.pinned (OpenSpec.ofChange dualMatchesReferenceWrong)

/-- 'duologuelaw09.DualInvolution': WHATEVER THE INPUT: true; the input reads as it did. -/
def dualInvolutionSpec : ChangeSpec := { name := "dualInvolution", fn := fun _ => fun
  | [d1, d2, d3] => { results := [.lit (.bool true)], args := [d1, d2, d3] }
  | _ => none }
def dualInvolutionRow : OpenClaim := { program := "ytkjngbliomckiaa", sum := "96e6e3f9f0b11f20655ae9641146bae47f5c744d3e4d1a5da52b5b2401a1f35a", func := "duologue/duologuelaw09.DualInvolution", spec := "dualInvolution", unfollowed := true, recurses := true, loops := true, apart := false }
def DualInvolutionSaid : Prop := dualInvolutionRow.holds Try.pinned (OpenSpec.ofChange dualInvolutionSpec)

/-- ITS FALSE NEIGHBOUR: 'it returns false'. Refute it at one input. -/
def dualInvolutionWrong : ChangeSpec := { name := "dualInvolution", fn := fun _ => fun
  | [d1, d2, d3] => { results := [.lit (.bool false)], args := [d1, d2, d3] }
  | _ => none }
def DualInvolutionWrongFalsely : Prop := dualInvolutionRow.holds Try.pinned (OpenSpec.ofChange dualInvolutionWrong)

/-- 'duologuelaw09.DualKinds': WHATEVER THE INPUT: true; the input reads as it did. -/
def dualKindsSpec : ChangeSpec := { name := "dualKinds", fn := fun _ => fun
  | [d] => { results := [.lit (.bool true)], args := [d] }
  | _ => none }
def dualKindsRow : OpenClaim := { program := "ytkjngbliomckiaa", sum := "96e6e3f9f0b11f20655ae9641146bae47f5c744d3e4d1a5da52b5b2401a1f35a", func := "duologue/duologuelaw09.DualKinds", spec := "dualKinds", unfollowed := true, recurses := true, apart := false }
def DualKindsSaid : Prop := dualKindsRow.holds Try.pinned (OpenSpec.ofChange dualKindsSpec)

/-- ITS FALSE NEIGHBOUR: 'it returns false'. Refute it at one input. -/
def dualKindsWrong : ChangeSpec := { name := "dualKinds", fn := fun _ => fun
  | [d] => { results := [.lit (.bool false)], args := [d] }
  | _ => none }
def DualKindsWrongFalsely : Prop := dualKindsRow.holds Try.pinned (OpenSpec.ofChange dualKindsWrong)

/-- 'duologuelaw09.DualPaths': WHATEVER THE INPUT: true; the input reads as it did. -/
def dualPathsSpec : ChangeSpec := { name := "dualPaths", fn := fun _ => fun
  | [d1, d2] => { results := [.lit (.bool true)], args := [d1, d2] }
  | _ => none }
def dualPathsRow : OpenClaim := { program := "ytkjngbliomckiaa", sum := "96e6e3f9f0b11f20655ae9641146bae47f5c744d3e4d1a5da52b5b2401a1f35a", func := "duologue/duologuelaw09.DualPaths", spec := "dualPaths", unfollowed := true, recurses := true, loops := true, apart := false }
def DualPathsSaid : Prop := dualPathsRow.holds Try.pinned (OpenSpec.ofChange dualPathsSpec)

/-- ITS FALSE NEIGHBOUR: 'it returns false'. Refute it at one input. -/
def dualPathsWrong : ChangeSpec := { name := "dualPaths", fn := fun _ => fun
  | [d1, d2] => { results := [.lit (.bool false)], args := [d1, d2] }
  | _ => none }
def DualPathsWrongFalsely : Prop := dualPathsRow.holds Try.pinned (OpenSpec.ofChange dualPathsWrong)

/- THE SECOND FORM. 'bulk': how many values and letters a reading holds, each counted each time it is reached (what is shared counts as often as it is met; a slice's spare places count too). A statement '..UptoSaid' is the law's where the arguments, and the package variables that the reading takes, are together of bulk at most 1048576: NARROWER than '..Said'. Prove '..Said' where nothing that the law and all that it calls make is longer than what came in: it says more and counts as full. Else prove '..UptoSaid'. A law counts once. -/
mutual
def uptoBulk {H : Type} : DataW H → Nat
  | .lit (.string bytes) => bytes.length + 1
  | .lit _ => 1
  | .nil => 1
  | .ptr d => uptoBulk d + 1
  | .slice elems spare => uptoBulkAll elems + uptoBulkAll spare + 1
  | .agg parts => uptoBulkAll parts + 1
  | .iface _ d => uptoBulk d + 1
  | .map entries => uptoBulkEntries entries + 1
  | .held _ => 1
def uptoBulkAll {H : Type} : List (DataW H) → Nat
  | [] => 0
  | d :: r => uptoBulk d + uptoBulkAll r
def uptoBulkEntries {H : Type} : List (Lit × DataW H) → Nat
  | [] => 0
  | x :: r => uptoBulkEntry x + uptoBulkEntries r
def uptoBulkEntry {H : Type} : Lit × DataW H → Nat
  | (.string bytes, d) => bytes.length + uptoBulk d + 1
  | (_, d) => uptoBulk d + 1
 end
def uptoSmall : (H : Type) → List (DataW H) → Bool := fun _ ds => decide (uptoBulkAll ds ≤ 1048576)
def OpenSpec.upto (s : _root_.Go.ChangeSpec) : _root_.Go.OpenSpec := { _root_.Go.OpenSpec.ofChange s with cond := some uptoSmall }

/-- 'duologuelaw09.DualMatchesReference', WHERE WHAT IT READS IS OF BULK AT MOST 1048576: true; the input reads as it did. -/
def dualMatchesReferenceUptoRow : OpenClaim := { program := "ytkjngbliomckiaa", sum := "96e6e3f9f0b11f20655ae9641146bae47f5c744d3e4d1a5da52b5b2401a1f35a", func := "duologue/duologuelaw09.DualMatchesReference", spec := "dualMatchesReference", unfollowed := true, recurses := true, loops := true, apart := false, narrowed := true }
def DualMatchesReferenceUptoSaid : Prop := dualMatchesReferenceUptoRow.holds Try.pinned (OpenSpec.upto dualMatchesReferenceSpec)

/-- 'duologuelaw09.DualInvolution', WHERE WHAT IT READS IS OF BULK AT MOST 1048576: true; the input reads as it did. -/
def dualInvolutionUptoRow : OpenClaim := { program := "ytkjngbliomckiaa", sum := "96e6e3f9f0b11f20655ae9641146bae47f5c744d3e4d1a5da52b5b2401a1f35a", func := "duologue/duologuelaw09.DualInvolution", spec := "dualInvolution", unfollowed := true, recurses := true, loops := true, apart := false, narrowed := true }
def DualInvolutionUptoSaid : Prop := dualInvolutionUptoRow.holds Try.pinned (OpenSpec.upto dualInvolutionSpec)

/-- 'duologuelaw09.DualKinds', WHERE WHAT IT READS IS OF BULK AT MOST 1048576: true; the input reads as it did. -/
def dualKindsUptoRow : OpenClaim := { program := "ytkjngbliomckiaa", sum := "96e6e3f9f0b11f20655ae9641146bae47f5c744d3e4d1a5da52b5b2401a1f35a", func := "duologue/duologuelaw09.DualKinds", spec := "dualKinds", unfollowed := true, recurses := true, apart := false, narrowed := true }
def DualKindsUptoSaid : Prop := dualKindsUptoRow.holds Try.pinned (OpenSpec.upto dualKindsSpec)

/-- 'duologuelaw09.DualPaths', WHERE WHAT IT READS IS OF BULK AT MOST 1048576: true; the input reads as it did. -/
def dualPathsUptoRow : OpenClaim := { program := "ytkjngbliomckiaa", sum := "96e6e3f9f0b11f20655ae9641146bae47f5c744d3e4d1a5da52b5b2401a1f35a", func := "duologue/duologuelaw09.DualPaths", spec := "dualPaths", unfollowed := true, recurses := true, loops := true, apart := false, narrowed := true }
def DualPathsUptoSaid : Prop := dualPathsUptoRow.holds Try.pinned (OpenSpec.upto dualPathsSpec)

end Rows
end Go.Proofs.Ytkjngbliomckiaa
