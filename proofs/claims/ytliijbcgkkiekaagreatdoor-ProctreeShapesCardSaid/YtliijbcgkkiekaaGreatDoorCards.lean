/-
  DERIVED. GIVEN WITH THE SEED: THE CARDS: each row of YtliijbcgkkiekaaGreatDoorRows.lean that lists a variable, with what it lists TIED to the program's text (the seventh form; the later family's looks); each row that meets fmt, with fmt's text TOLD by the authors' own Lean function (tested against real Go, not proved from fmt's source: count such statements apart). THE CARD IS WHAT COUNTS. Prove the row's statement (the work); the ties are given (YtliijbcgkkiekaaGreatDoorTie.lean); close each card by the builder's one call (the guide's Derived/Test/ToyasCard.lean, 'card_holds'). Laid BY PROGRAM, IN A SANDBOX (cutbox-door.mjs). By AI agents, Wed Nov 11 2026. No macro, syntax, notation, axiom, sorry.
-/
import Derived.Test.YtliijbcgkkiekaaGreatDoorRows
import GoSem.ClaimSeven
namespace Go.Proofs.YtliijbcgkkiekaaGreatDoor
namespace Rows

/-- THE TIED CARD OF 'duologuelaw03.ProctreeShapes'. -/
def proctreeShapesCard : Claim7 := { stood := { row := proctreeShapesRow, standIns := [], harness := (true, "88df084bd7965950c95c457d1d39d52e4ccd8164fec494a27781aab38d0234ce"), looks := false }, kinds := [], alts := [], laidByText := true, laidKinds := [.data], laidTests := true, laidLooks := .later }
def ProctreeShapesCardSaid : Prop := Claim7.holds Tryz.pinned (.plain (OpenSpec.ofChange proctreeShapesSpec)) proctreeShapesCard

/-- THE SECOND FORM's CARD OF 'duologuelaw03.ProctreeShapes'. -/
def proctreeShapesUptoCard : Claim7 := { stood := { row := proctreeShapesUptoRow, standIns := [], harness := (true, "88df084bd7965950c95c457d1d39d52e4ccd8164fec494a27781aab38d0234ce"), looks := false }, kinds := [], alts := [], laidByText := true, laidKinds := [.data], laidTests := true, laidLooks := .later }
def ProctreeShapesUptoCardSaid : Prop := Claim7.holds Tryz.pinned (.plain (OpenSpec.upto proctreeShapesSpec)) proctreeShapesUptoCard
end Rows
end Go.Proofs.YtliijbcgkkiekaaGreatDoor
