/-
  DERIVED. GIVEN WITH THE SEED: THE CARDS: each row of YtmedijheidbmhaaDoorRows.lean that lists a variable, with what it lists TIED to the program's text (the seventh form; the later family's looks); each row that meets fmt, with fmt's text TOLD by the authors' own Lean function (tested against real Go, not proved from fmt's source: count such statements apart). THE CARD IS WHAT COUNTS. Prove the row's statement (the work); the ties are given (YtmedijheidbmhaaDoorTie.lean); close each card by the builder's one call (the guide's Derived/Test/ToyasCard.lean, 'card_holds'). Laid BY PROGRAM, IN A SANDBOX (cutbox-door.mjs). By AI agents, Wed Nov 11 2026. No macro, syntax, notation, axiom, sorry.
-/
import Derived.Test.YtmedijheidbmhaaDoorRows
import GoSem.ClaimSeven
namespace Go.Proofs.YtmedijheidbmhaaDoor
namespace Rows

/-- THE TIED CARD OF 'duologuelaw06.ScopeFinds'. -/
def scopeFindsCard : Claim7 := { stood := { row := scopeFindsRow, standIns := [], harness := (true, "b8486ea4e9c0040a6974f8a9ad5a3f469dbd0c540e3d84d1f338f1b03d5d1888"), looks := true }, kinds := [], alts := [], laidByText := true, laidKinds := [.data], laidTests := true, laidLooks := .later }
def ScopeFindsCardSaid : Prop := Claim7.holds Tryd.pinned (.plain (OpenSpec.ofChange scopeFindsSpec)) scopeFindsCard

/-- THE TIED CARD OF 'duologuelaw06.ScopeOrders'. -/
def scopeOrdersCard : Claim7 := { stood := { row := scopeOrdersRow, standIns := [], harness := (true, "b8486ea4e9c0040a6974f8a9ad5a3f469dbd0c540e3d84d1f338f1b03d5d1888"), looks := true }, kinds := [], alts := [], laidByText := true, laidKinds := [.data], laidTests := true, laidLooks := .later }
def ScopeOrdersCardSaid : Prop := Claim7.holds Tryd.pinned (.plain (OpenSpec.ofChange scopeOrdersSpec)) scopeOrdersCard

/-- THE SECOND FORM's CARD OF 'duologuelaw06.ScopeFinds'. -/
def scopeFindsUptoCard : Claim7 := { stood := { row := scopeFindsUptoRow, standIns := [], harness := (true, "b8486ea4e9c0040a6974f8a9ad5a3f469dbd0c540e3d84d1f338f1b03d5d1888"), looks := true }, kinds := [], alts := [], laidByText := true, laidKinds := [.data], laidTests := true, laidLooks := .later }
def ScopeFindsUptoCardSaid : Prop := Claim7.holds Tryd.pinned (.plain (OpenSpec.upto scopeFindsSpec)) scopeFindsUptoCard

/-- THE SECOND FORM's CARD OF 'duologuelaw06.ScopeOrders'. -/
def scopeOrdersUptoCard : Claim7 := { stood := { row := scopeOrdersUptoRow, standIns := [], harness := (true, "b8486ea4e9c0040a6974f8a9ad5a3f469dbd0c540e3d84d1f338f1b03d5d1888"), looks := true }, kinds := [], alts := [], laidByText := true, laidKinds := [.data], laidTests := true, laidLooks := .later }
def ScopeOrdersUptoCardSaid : Prop := Claim7.holds Tryd.pinned (.plain (OpenSpec.upto scopeOrdersSpec)) scopeOrdersUptoCard
end Rows
end Go.Proofs.YtmedijheidbmhaaDoor
