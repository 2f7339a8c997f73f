/-
  DERIVED. GIVEN WITH THE SEED: THE CARDS: each row of YtbjpnjgkpkfngaaGreatDoorRows.lean that lists a variable, with what it lists TIED to the program's text (the seventh form; the later family's looks); each row that meets fmt, with fmt's text TOLD by the authors' own Lean function (tested against real Go, not proved from fmt's source: count such statements apart). THE CARD IS WHAT COUNTS. Prove the row's statement (the work); the ties are given (YtbjpnjgkpkfngaaGreatDoorTie.lean); close each card by the builder's one call (the guide's Derived/Test/ToyasCard.lean, 'card_holds'). Laid BY PROGRAM, IN A SANDBOX (cutbox-door.mjs). By AI agents, Wed Nov 11 2026. No macro, syntax, notation, axiom, sorry.
-/
import Derived.Test.YtbjpnjgkpkfngaaGreatDoorRows
import GoSem.ClaimSeven
namespace Go.Proofs.YtbjpnjgkpkfngaaGreatDoor
namespace Rows

/-- THE TIED CARD OF 'signalboxlaw07.ConfChecks'. -/
def confChecksCard : Claim7 := { stood := { row := confChecksRow, standIns := [], harness := (true, "e622e9fa5f9d850a5514a83bbcdd3fd49f965b4f94de6330057fffbfa95e3d53"), looks := true }, kinds := [], alts := [], laidByText := true, laidKinds := [.data, .data, .data, .sentinel, .sentinel, .data], laidTests := true, laidLooks := .later }
def ConfChecksCardSaid : Prop := Claim7.holds Tryz.pinned (.plain (OpenSpec.ofChange confChecksSpec)) confChecksCard

/-- THE TIED CARD OF 'signalboxlaw07.ConfTexts'. -/
def confTextsCard : Claim7 := { stood := { row := confTextsRow, standIns := [], harness := (true, "e622e9fa5f9d850a5514a83bbcdd3fd49f965b4f94de6330057fffbfa95e3d53"), looks := true }, kinds := [], alts := [], laidByText := true, laidKinds := [.data, .data, .data, .sentinel, .sentinel, .data], laidTests := true, laidLooks := .later }
def ConfTextsCardSaid : Prop := Claim7.holds Tryz.pinned (.plain (OpenSpec.ofChange confTextsSpec)) confTextsCard

/-- THE TIED CARD OF 'signalboxlaw07.ConfSame'. -/
def confSameCard : Claim7 := { stood := { row := confSameRow, standIns := [], harness := (true, "e622e9fa5f9d850a5514a83bbcdd3fd49f965b4f94de6330057fffbfa95e3d53"), looks := true }, kinds := [], alts := [], laidByText := true, laidKinds := [.data, .data, .data, .sentinel, .sentinel, .data], laidTests := true, laidLooks := .later }
def ConfSameCardSaid : Prop := Claim7.holds Tryz.pinned (.plain (OpenSpec.ofChange confSameSpec)) confSameCard

/-- THE SECOND FORM's CARD OF 'signalboxlaw07.ConfChecks'. -/
def confChecksUptoCard : Claim7 := { stood := { row := confChecksUptoRow, standIns := [], harness := (true, "e622e9fa5f9d850a5514a83bbcdd3fd49f965b4f94de6330057fffbfa95e3d53"), looks := true }, kinds := [], alts := [], laidByText := true, laidKinds := [.data, .data, .data, .sentinel, .sentinel, .data], laidTests := true, laidLooks := .later }
def ConfChecksUptoCardSaid : Prop := Claim7.holds Tryz.pinned (.plain (OpenSpec.upto confChecksSpec)) confChecksUptoCard

/-- THE SECOND FORM's CARD OF 'signalboxlaw07.ConfTexts'. -/
def confTextsUptoCard : Claim7 := { stood := { row := confTextsUptoRow, standIns := [], harness := (true, "e622e9fa5f9d850a5514a83bbcdd3fd49f965b4f94de6330057fffbfa95e3d53"), looks := true }, kinds := [], alts := [], laidByText := true, laidKinds := [.data, .data, .data, .sentinel, .sentinel, .data], laidTests := true, laidLooks := .later }
def ConfTextsUptoCardSaid : Prop := Claim7.holds Tryz.pinned (.plain (OpenSpec.upto confTextsSpec)) confTextsUptoCard

/-- THE SECOND FORM's CARD OF 'signalboxlaw07.ConfSame'. -/
def confSameUptoCard : Claim7 := { stood := { row := confSameUptoRow, standIns := [], harness := (true, "e622e9fa5f9d850a5514a83bbcdd3fd49f965b4f94de6330057fffbfa95e3d53"), looks := true }, kinds := [], alts := [], laidByText := true, laidKinds := [.data, .data, .data, .sentinel, .sentinel, .data], laidTests := true, laidLooks := .later }
def ConfSameUptoCardSaid : Prop := Claim7.holds Tryz.pinned (.plain (OpenSpec.upto confSameSpec)) confSameUptoCard
end Rows
end Go.Proofs.YtbjpnjgkpkfngaaGreatDoor
