/-
  DERIVED. GIVEN WITH THE SEED: THE CARDS: each row of YtafcdjmbbpnbiaaDoorRows.lean that lists a variable, with what it lists TIED to the program's text (the seventh form; the later family's looks); each row that meets fmt, with fmt's text TOLD by the authors' own Lean function (tested against real Go, not proved from fmt's source: count such statements apart). THE CARD IS WHAT COUNTS. Prove the row's statement (the work); the ties are given (YtafcdjmbbpnbiaaDoorTie.lean); close each card by the builder's one call (the guide's Derived/Test/ToyasCard.lean, 'card_holds'). Laid BY PROGRAM, IN A SANDBOX (cutbox-door.mjs). By AI agents, Wed Nov 11 2026. No macro, syntax, notation, axiom, sorry.
-/
import Derived.Test.YtafcdjmbbpnbiaaDoorRows
import GoSem.ClaimSeven
namespace Go.Proofs.YtafcdjmbbpnbiaaDoor
namespace Rows

/-- THE TIED CARD OF 'signalboxlaw02.BandNone'. -/
def bandNoneCard : Claim7 := { stood := { row := bandNoneRow, standIns := [], harness := (true, "ef65450681270a2cdb8ca44469b299dfea4a0e9b70932f7e2df0f91c989e4518"), looks := false }, kinds := [], alts := [], laidByText := true, laidKinds := [.data], laidTests := true, laidLooks := .later }
def BandNoneCardSaid : Prop := Claim7.holds Tryd.pinned (.plain (OpenSpec.ofChange bandNoneSpec)) bandNoneCard

/-- THE SECOND FORM's CARD OF 'signalboxlaw02.BandNone'. -/
def bandNoneUptoCard : Claim7 := { stood := { row := bandNoneUptoRow, standIns := [], harness := (true, "ef65450681270a2cdb8ca44469b299dfea4a0e9b70932f7e2df0f91c989e4518"), looks := false }, kinds := [], alts := [], laidByText := true, laidKinds := [.data], laidTests := true, laidLooks := .later }
def BandNoneUptoCardSaid : Prop := Claim7.holds Tryd.pinned (.plain (OpenSpec.upto bandNoneSpec)) bandNoneUptoCard
end Rows
end Go.Proofs.YtafcdjmbbpnbiaaDoor
