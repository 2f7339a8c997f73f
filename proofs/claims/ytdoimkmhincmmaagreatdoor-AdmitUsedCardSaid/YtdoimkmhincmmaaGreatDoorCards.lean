/-
  DERIVED. GIVEN WITH THE SEED: THE CARDS: each row of YtdoimkmhincmmaaGreatDoorRows.lean that lists a variable, with what it lists TIED to the program's text (the seventh form; the later family's looks); each row that meets fmt, with fmt's text TOLD by the authors' own Lean function (tested against real Go, not proved from fmt's source: count such statements apart). THE CARD IS WHAT COUNTS. Prove the row's statement (the work); the ties are given (YtdoimkmhincmmaaGreatDoorTie.lean); close each card by the builder's one call (the guide's Derived/Test/ToyasCard.lean, 'card_holds'). Laid BY PROGRAM, IN A SANDBOX (cutbox-door.mjs). By AI agents, Wed Nov 11 2026. No macro, syntax, notation, axiom, sorry.
-/
import Derived.Test.YtdoimkmhincmmaaGreatDoorRows
import GoSem.ClaimSeven
namespace Go.Proofs.YtdoimkmhincmmaaGreatDoor
namespace Rows

/-- THE TIED CARD OF 'signalboxlaw28.AdmitTells'. -/
def admitTellsCard : Claim7 := { stood := { row := admitTellsRow, standIns := [], harness := (true, "16f49fcf34b6485d4ccfb5fb03619a4b84de99ee24fbc1133fe3a9c77c735758"), looks := false }, kinds := [], alts := [], laidByText := true, laidKinds := [.data], laidTests := true, laidLooks := .later }
def AdmitTellsCardSaid : Prop := Claim7.holds Tryz.pinned (.plain (OpenSpec.ofChange admitTellsSpec)) admitTellsCard

/-- THE TIED CARD OF 'signalboxlaw28.AdmitUsed'. -/
def admitUsedCard : Claim7 := { stood := { row := admitUsedRow, standIns := [], harness := (true, "16f49fcf34b6485d4ccfb5fb03619a4b84de99ee24fbc1133fe3a9c77c735758"), looks := false }, kinds := [], alts := [], laidByText := true, laidKinds := [.data], laidTests := true, laidLooks := .later }
def AdmitUsedCardSaid : Prop := Claim7.holds Tryz.pinned (.plain (OpenSpec.ofChange admitUsedSpec)) admitUsedCard

/-- THE SECOND FORM's CARD OF 'signalboxlaw28.AdmitTells'. -/
def admitTellsUptoCard : Claim7 := { stood := { row := admitTellsUptoRow, standIns := [], harness := (true, "16f49fcf34b6485d4ccfb5fb03619a4b84de99ee24fbc1133fe3a9c77c735758"), looks := false }, kinds := [], alts := [], laidByText := true, laidKinds := [.data], laidTests := true, laidLooks := .later }
def AdmitTellsUptoCardSaid : Prop := Claim7.holds Tryz.pinned (.plain (OpenSpec.upto admitTellsSpec)) admitTellsUptoCard

/-- THE SECOND FORM's CARD OF 'signalboxlaw28.AdmitUsed'. -/
def admitUsedUptoCard : Claim7 := { stood := { row := admitUsedUptoRow, standIns := [], harness := (true, "16f49fcf34b6485d4ccfb5fb03619a4b84de99ee24fbc1133fe3a9c77c735758"), looks := false }, kinds := [], alts := [], laidByText := true, laidKinds := [.data], laidTests := true, laidLooks := .later }
def AdmitUsedUptoCardSaid : Prop := Claim7.holds Tryz.pinned (.plain (OpenSpec.upto admitUsedSpec)) admitUsedUptoCard
end Rows
end Go.Proofs.YtdoimkmhincmmaaGreatDoor
