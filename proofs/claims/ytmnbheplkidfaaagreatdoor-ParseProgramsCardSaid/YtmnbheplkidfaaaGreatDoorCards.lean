/-
  DERIVED. GIVEN WITH THE SEED: THE CARDS: each row of YtmnbheplkidfaaaGreatDoorRows.lean that lists a variable, with what it lists TIED to the program's text (the seventh form; the later family's looks); each row that meets fmt, with fmt's text TOLD by the authors' own Lean function (tested against real Go, not proved from fmt's source: count such statements apart). THE CARD IS WHAT COUNTS. Prove the row's statement (the work); the ties are given (YtmnbheplkidfaaaGreatDoorTie.lean); close each card by the builder's one call (the guide's Derived/Test/ToyasCard.lean, 'card_holds'). Laid BY PROGRAM, IN A SANDBOX (cutbox-door.mjs). By AI agents, Wed Nov 11 2026. No macro, syntax, notation, axiom, sorry.
-/
import Derived.Test.YtmnbheplkidfaaaGreatDoorRows
import GoSem.ClaimSeven
namespace Go.Proofs.YtmnbheplkidfaaaGreatDoor
namespace Rows

/-- THE TIED CARD OF 'duologuelaw04.ParsePrograms'. -/
def parseProgramsCard : Claim7 := { stood := { row := parseProgramsRow, standIns := [], harness := (true, "1e4d03dbe54a4b8ee506a7d4ca2fa62abde33f4305ec1d5e52b947df8bc0b099"), looks := true }, kinds := [], alts := [], laidByText := true, laidKinds := [.data, .data, .data, .sentinel, .sentinel, .data], laidTests := true, laidLooks := .later }
def ParseProgramsCardSaid : Prop := Claim7.holds Tryz.pinned (.plain (OpenSpec.ofChange parseProgramsSpec)) parseProgramsCard

/-- THE TIED CARD OF 'duologuelaw04.ParseProcesses'. -/
def parseProcessesCard : Claim7 := { stood := { row := parseProcessesRow, standIns := [], harness := (true, "1e4d03dbe54a4b8ee506a7d4ca2fa62abde33f4305ec1d5e52b947df8bc0b099"), looks := true }, kinds := [], alts := [], laidByText := true, laidKinds := [.data, .data, .data, .sentinel, .sentinel, .data], laidTests := true, laidLooks := .later }
def ParseProcessesCardSaid : Prop := Claim7.holds Tryz.pinned (.plain (OpenSpec.ofChange parseProcessesSpec)) parseProcessesCard

/-- THE TIED CARD OF 'duologuelaw04.ParseTypes'. -/
def parseTypesCard : Claim7 := { stood := { row := parseTypesRow, standIns := [], harness := (true, "1e4d03dbe54a4b8ee506a7d4ca2fa62abde33f4305ec1d5e52b947df8bc0b099"), looks := true }, kinds := [], alts := [], laidByText := true, laidKinds := [.data, .data, .data, .sentinel, .sentinel, .data], laidTests := true, laidLooks := .later }
def ParseTypesCardSaid : Prop := Claim7.holds Tryz.pinned (.plain (OpenSpec.ofChange parseTypesSpec)) parseTypesCard

/-- THE TIED CARD OF 'duologuelaw04.ParseBlanks'. -/
def parseBlanksCard : Claim7 := { stood := { row := parseBlanksRow, standIns := [], harness := (true, "1e4d03dbe54a4b8ee506a7d4ca2fa62abde33f4305ec1d5e52b947df8bc0b099"), looks := true }, kinds := [], alts := [], laidByText := true, laidKinds := [.data, .data, .data, .sentinel, .sentinel, .data], laidTests := true, laidLooks := .later }
def ParseBlanksCardSaid : Prop := Claim7.holds Tryz.pinned (.plain (OpenSpec.ofChange parseBlanksSpec)) parseBlanksCard

/-- THE TIED CARD OF 'duologuelaw04.ParseMains'. -/
def parseMainsCard : Claim7 := { stood := { row := parseMainsRow, standIns := [], harness := (true, "1e4d03dbe54a4b8ee506a7d4ca2fa62abde33f4305ec1d5e52b947df8bc0b099"), looks := true }, kinds := [], alts := [], laidByText := true, laidKinds := [.data, .data, .data, .sentinel, .sentinel, .data], laidTests := true, laidLooks := .later }
def ParseMainsCardSaid : Prop := Claim7.holds Tryz.pinned (.plain (OpenSpec.ofChange parseMainsSpec)) parseMainsCard

/-- THE SECOND FORM's CARD OF 'duologuelaw04.ParsePrograms'. -/
def parseProgramsUptoCard : Claim7 := { stood := { row := parseProgramsUptoRow, standIns := [], harness := (true, "1e4d03dbe54a4b8ee506a7d4ca2fa62abde33f4305ec1d5e52b947df8bc0b099"), looks := true }, kinds := [], alts := [], laidByText := true, laidKinds := [.data, .data, .data, .sentinel, .sentinel, .data], laidTests := true, laidLooks := .later }
def ParseProgramsUptoCardSaid : Prop := Claim7.holds Tryz.pinned (.plain (OpenSpec.upto parseProgramsSpec)) parseProgramsUptoCard

/-- THE SECOND FORM's CARD OF 'duologuelaw04.ParseProcesses'. -/
def parseProcessesUptoCard : Claim7 := { stood := { row := parseProcessesUptoRow, standIns := [], harness := (true, "1e4d03dbe54a4b8ee506a7d4ca2fa62abde33f4305ec1d5e52b947df8bc0b099"), looks := true }, kinds := [], alts := [], laidByText := true, laidKinds := [.data, .data, .data, .sentinel, .sentinel, .data], laidTests := true, laidLooks := .later }
def ParseProcessesUptoCardSaid : Prop := Claim7.holds Tryz.pinned (.plain (OpenSpec.upto parseProcessesSpec)) parseProcessesUptoCard

/-- THE SECOND FORM's CARD OF 'duologuelaw04.ParseTypes'. -/
def parseTypesUptoCard : Claim7 := { stood := { row := parseTypesUptoRow, standIns := [], harness := (true, "1e4d03dbe54a4b8ee506a7d4ca2fa62abde33f4305ec1d5e52b947df8bc0b099"), looks := true }, kinds := [], alts := [], laidByText := true, laidKinds := [.data, .data, .data, .sentinel, .sentinel, .data], laidTests := true, laidLooks := .later }
def ParseTypesUptoCardSaid : Prop := Claim7.holds Tryz.pinned (.plain (OpenSpec.upto parseTypesSpec)) parseTypesUptoCard

/-- THE SECOND FORM's CARD OF 'duologuelaw04.ParseBlanks'. -/
def parseBlanksUptoCard : Claim7 := { stood := { row := parseBlanksUptoRow, standIns := [], harness := (true, "1e4d03dbe54a4b8ee506a7d4ca2fa62abde33f4305ec1d5e52b947df8bc0b099"), looks := true }, kinds := [], alts := [], laidByText := true, laidKinds := [.data, .data, .data, .sentinel, .sentinel, .data], laidTests := true, laidLooks := .later }
def ParseBlanksUptoCardSaid : Prop := Claim7.holds Tryz.pinned (.plain (OpenSpec.upto parseBlanksSpec)) parseBlanksUptoCard

/-- THE SECOND FORM's CARD OF 'duologuelaw04.ParseMains'. -/
def parseMainsUptoCard : Claim7 := { stood := { row := parseMainsUptoRow, standIns := [], harness := (true, "1e4d03dbe54a4b8ee506a7d4ca2fa62abde33f4305ec1d5e52b947df8bc0b099"), looks := true }, kinds := [], alts := [], laidByText := true, laidKinds := [.data, .data, .data, .sentinel, .sentinel, .data], laidTests := true, laidLooks := .later }
def ParseMainsUptoCardSaid : Prop := Claim7.holds Tryz.pinned (.plain (OpenSpec.upto parseMainsSpec)) parseMainsUptoCard
end Rows
end Go.Proofs.YtmnbheplkidfaaaGreatDoor
