/-
  DERIVED. GIVEN WITH THE SEED: THE CARDS: each row of YtjmnaibbljakaaaGreatDoorRows.lean that lists a variable, with what it lists TIED to the program's text (the seventh form; the later family's looks); each row that meets fmt, with fmt's text TOLD by the authors' own Lean function (tested against real Go, not proved from fmt's source: count such statements apart). THE CARD IS WHAT COUNTS. Prove the row's statement (the work); the ties are given (YtjmnaibbljakaaaGreatDoorTie.lean); close each card by the builder's one call (the guide's Derived/Test/ToyasCard.lean, 'card_holds'). Laid BY PROGRAM, IN A SANDBOX (cutbox-door.mjs). By AI agents, Wed Nov 11 2026. No macro, syntax, notation, axiom, sorry.
-/
import Derived.Test.YtjmnaibbljakaaaGreatDoorRows
import GoSem.ClaimSeven
namespace Go.Proofs.YtjmnaibbljakaaaGreatDoor
namespace Rows

/-- THE TIED CARD OF 'duologuelaw10.EqualUnfolds'. -/
def equalUnfoldsCard : Claim7 := { stood := { row := equalUnfoldsRow, standIns := [], harness := (true, "d288febed031a3f3a8c04835cbb76e6617a8693fa43d34c206bdc0fb89e1578a"), looks := false }, kinds := [], alts := [], laidByText := true, laidKinds := [.data, .data, .data], laidTests := true, laidLooks := .later }
def EqualUnfoldsCardSaid : Prop := Claim7.holds Tryz.pinned (.plain (OpenSpec.ofChange equalUnfoldsSpec)) equalUnfoldsCard

/-- THE TIED CARD OF 'duologuelaw10.EqualOffsets'. -/
def equalOffsetsCard : Claim7 := { stood := { row := equalOffsetsRow, standIns := [], harness := (true, "d288febed031a3f3a8c04835cbb76e6617a8693fa43d34c206bdc0fb89e1578a"), looks := false }, kinds := [], alts := [], laidByText := true, laidKinds := [.data, .data, .data], laidTests := true, laidLooks := .later }
def EqualOffsetsCardSaid : Prop := Claim7.holds Tryz.pinned (.plain (OpenSpec.ofChange equalOffsetsSpec)) equalOffsetsCard

/-- THE TIED CARD OF 'duologuelaw10.EqualClasses'. -/
def equalClassesCard : Claim7 := { stood := { row := equalClassesRow, standIns := [], harness := (true, "d288febed031a3f3a8c04835cbb76e6617a8693fa43d34c206bdc0fb89e1578a"), looks := false }, kinds := [], alts := [], laidByText := true, laidKinds := [.data, .data, .data], laidTests := true, laidLooks := .later }
def EqualClassesCardSaid : Prop := Claim7.holds Tryz.pinned (.plain (OpenSpec.ofChange equalClassesSpec)) equalClassesCard

/-- THE TIED CARD OF 'duologuelaw10.EqualChains'. -/
def equalChainsCard : Claim7 := { stood := { row := equalChainsRow, standIns := [], harness := (true, "d288febed031a3f3a8c04835cbb76e6617a8693fa43d34c206bdc0fb89e1578a"), looks := false }, kinds := [], alts := [], laidByText := true, laidKinds := [.data, .data, .data], laidTests := true, laidLooks := .later }
def EqualChainsCardSaid : Prop := Claim7.holds Tryz.pinned (.plain (OpenSpec.ofChange equalChainsSpec)) equalChainsCard

/-- THE SECOND FORM's CARD OF 'duologuelaw10.EqualUnfolds'. -/
def equalUnfoldsUptoCard : Claim7 := { stood := { row := equalUnfoldsUptoRow, standIns := [], harness := (true, "d288febed031a3f3a8c04835cbb76e6617a8693fa43d34c206bdc0fb89e1578a"), looks := false }, kinds := [], alts := [], laidByText := true, laidKinds := [.data, .data, .data], laidTests := true, laidLooks := .later }
def EqualUnfoldsUptoCardSaid : Prop := Claim7.holds Tryz.pinned (.plain (OpenSpec.upto equalUnfoldsSpec)) equalUnfoldsUptoCard

/-- THE SECOND FORM's CARD OF 'duologuelaw10.EqualOffsets'. -/
def equalOffsetsUptoCard : Claim7 := { stood := { row := equalOffsetsUptoRow, standIns := [], harness := (true, "d288febed031a3f3a8c04835cbb76e6617a8693fa43d34c206bdc0fb89e1578a"), looks := false }, kinds := [], alts := [], laidByText := true, laidKinds := [.data, .data, .data], laidTests := true, laidLooks := .later }
def EqualOffsetsUptoCardSaid : Prop := Claim7.holds Tryz.pinned (.plain (OpenSpec.upto equalOffsetsSpec)) equalOffsetsUptoCard

/-- THE SECOND FORM's CARD OF 'duologuelaw10.EqualClasses'. -/
def equalClassesUptoCard : Claim7 := { stood := { row := equalClassesUptoRow, standIns := [], harness := (true, "d288febed031a3f3a8c04835cbb76e6617a8693fa43d34c206bdc0fb89e1578a"), looks := false }, kinds := [], alts := [], laidByText := true, laidKinds := [.data, .data, .data], laidTests := true, laidLooks := .later }
def EqualClassesUptoCardSaid : Prop := Claim7.holds Tryz.pinned (.plain (OpenSpec.upto equalClassesSpec)) equalClassesUptoCard

/-- THE SECOND FORM's CARD OF 'duologuelaw10.EqualChains'. -/
def equalChainsUptoCard : Claim7 := { stood := { row := equalChainsUptoRow, standIns := [], harness := (true, "d288febed031a3f3a8c04835cbb76e6617a8693fa43d34c206bdc0fb89e1578a"), looks := false }, kinds := [], alts := [], laidByText := true, laidKinds := [.data, .data, .data], laidTests := true, laidLooks := .later }
def EqualChainsUptoCardSaid : Prop := Claim7.holds Tryz.pinned (.plain (OpenSpec.upto equalChainsSpec)) equalChainsUptoCard
end Rows
end Go.Proofs.YtjmnaibbljakaaaGreatDoor
