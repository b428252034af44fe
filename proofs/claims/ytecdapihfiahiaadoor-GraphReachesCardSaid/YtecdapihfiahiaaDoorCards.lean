/-
  DERIVED. GIVEN WITH THE SEED: THE CARDS: each row of YtecdapihfiahiaaDoorRows.lean that lists a variable, with what it lists TIED to the program's text (the seventh form; the later family's looks); each row that meets fmt, with fmt's text TOLD by the authors' own Lean function (tested against real Go, not proved from fmt's source: count such statements apart). THE CARD IS WHAT COUNTS. Prove the row's statement (the work); the ties are given (YtecdapihfiahiaaDoorTie.lean); close each card by the builder's one call (the guide's Derived/Test/ToyasCard.lean, 'card_holds'). Laid BY PROGRAM, IN A SANDBOX (cutbox-door.mjs). By AI agents, Wed Nov 11 2026. No macro, syntax, notation, axiom, sorry.
-/
import Derived.Test.YtecdapihfiahiaaDoorRows
import GoSem.ClaimSeven
namespace Go.Proofs.YtecdapihfiahiaaDoor
namespace Rows

/-- THE TIED CARD OF 'duologuelaw07.GraphMatchesReference'. -/
def graphMatchesReferenceCard : Claim7 := { stood := { row := graphMatchesReferenceRow, standIns := [], harness := (true, "12d5b4742af396e60365a4be8e1995f4389f636bec19a1f433fa3e185570b6d1"), looks := true }, kinds := [], alts := [], laidByText := true, laidKinds := [.data], laidTests := true, laidLooks := .later }
def GraphMatchesReferenceCardSaid : Prop := Claim7.holds Tryd.pinned (.plain (OpenSpec.ofChange graphMatchesReferenceSpec)) graphMatchesReferenceCard

/-- THE TIED CARD OF 'duologuelaw07.GraphReaches'. -/
def graphReachesCard : Claim7 := { stood := { row := graphReachesRow, standIns := [], harness := (true, "12d5b4742af396e60365a4be8e1995f4389f636bec19a1f433fa3e185570b6d1"), looks := true }, kinds := [], alts := [], laidByText := true, laidKinds := [.data], laidTests := true, laidLooks := .later }
def GraphReachesCardSaid : Prop := Claim7.holds Tryd.pinned (.plain (OpenSpec.ofChange graphReachesSpec)) graphReachesCard

/-- THE TIED CARD OF 'duologuelaw07.GraphCounts'. -/
def graphCountsCard : Claim7 := { stood := { row := graphCountsRow, standIns := [], harness := (true, "12d5b4742af396e60365a4be8e1995f4389f636bec19a1f433fa3e185570b6d1"), looks := true }, kinds := [], alts := [], laidByText := true, laidKinds := [.data], laidTests := true, laidLooks := .later }
def GraphCountsCardSaid : Prop := Claim7.holds Tryd.pinned (.plain (OpenSpec.ofChange graphCountsSpec)) graphCountsCard

/-- THE TIED CARD OF 'duologuelaw07.GraphUnites'. -/
def graphUnitesCard : Claim7 := { stood := { row := graphUnitesRow, standIns := [], harness := (true, "12d5b4742af396e60365a4be8e1995f4389f636bec19a1f433fa3e185570b6d1"), looks := true }, kinds := [], alts := [], laidByText := true, laidKinds := [.data], laidTests := true, laidLooks := .later }
def GraphUnitesCardSaid : Prop := Claim7.holds Tryd.pinned (.plain (OpenSpec.ofChange graphUnitesSpec)) graphUnitesCard

/-- THE SECOND FORM's CARD OF 'duologuelaw07.GraphMatchesReference'. -/
def graphMatchesReferenceUptoCard : Claim7 := { stood := { row := graphMatchesReferenceUptoRow, standIns := [], harness := (true, "12d5b4742af396e60365a4be8e1995f4389f636bec19a1f433fa3e185570b6d1"), looks := true }, kinds := [], alts := [], laidByText := true, laidKinds := [.data], laidTests := true, laidLooks := .later }
def GraphMatchesReferenceUptoCardSaid : Prop := Claim7.holds Tryd.pinned (.plain (OpenSpec.upto graphMatchesReferenceSpec)) graphMatchesReferenceUptoCard

/-- THE SECOND FORM's CARD OF 'duologuelaw07.GraphReaches'. -/
def graphReachesUptoCard : Claim7 := { stood := { row := graphReachesUptoRow, standIns := [], harness := (true, "12d5b4742af396e60365a4be8e1995f4389f636bec19a1f433fa3e185570b6d1"), looks := true }, kinds := [], alts := [], laidByText := true, laidKinds := [.data], laidTests := true, laidLooks := .later }
def GraphReachesUptoCardSaid : Prop := Claim7.holds Tryd.pinned (.plain (OpenSpec.upto graphReachesSpec)) graphReachesUptoCard

/-- THE SECOND FORM's CARD OF 'duologuelaw07.GraphCounts'. -/
def graphCountsUptoCard : Claim7 := { stood := { row := graphCountsUptoRow, standIns := [], harness := (true, "12d5b4742af396e60365a4be8e1995f4389f636bec19a1f433fa3e185570b6d1"), looks := true }, kinds := [], alts := [], laidByText := true, laidKinds := [.data], laidTests := true, laidLooks := .later }
def GraphCountsUptoCardSaid : Prop := Claim7.holds Tryd.pinned (.plain (OpenSpec.upto graphCountsSpec)) graphCountsUptoCard

/-- THE SECOND FORM's CARD OF 'duologuelaw07.GraphUnites'. -/
def graphUnitesUptoCard : Claim7 := { stood := { row := graphUnitesUptoRow, standIns := [], harness := (true, "12d5b4742af396e60365a4be8e1995f4389f636bec19a1f433fa3e185570b6d1"), looks := true }, kinds := [], alts := [], laidByText := true, laidKinds := [.data], laidTests := true, laidLooks := .later }
def GraphUnitesUptoCardSaid : Prop := Claim7.holds Tryd.pinned (.plain (OpenSpec.upto graphUnitesSpec)) graphUnitesUptoCard
end Rows
end Go.Proofs.YtecdapihfiahiaaDoor
