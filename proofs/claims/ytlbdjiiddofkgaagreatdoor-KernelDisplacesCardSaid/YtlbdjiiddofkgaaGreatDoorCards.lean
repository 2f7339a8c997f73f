/-
  DERIVED. GIVEN WITH THE SEED: THE CARDS: each row of YtlbdjiiddofkgaaGreatDoorRows.lean that lists a variable, with what it lists TIED to the program's text (the seventh form; the later family's looks); each row that meets fmt, with fmt's text TOLD by the authors' own Lean function (tested against real Go, not proved from fmt's source: count such statements apart). THE CARD IS WHAT COUNTS. Prove the row's statement (the work); the ties are given (YtlbdjiiddofkgaaGreatDoorTie.lean); close each card by the builder's one call (the guide's Derived/Test/ToyasCard.lean, 'card_holds'). Laid BY PROGRAM, IN A SANDBOX (cutbox-door.mjs). By AI agents, Wed Nov 11 2026. No macro, syntax, notation, axiom, sorry.
-/
import Derived.Test.YtlbdjiiddofkgaaGreatDoorRows
import GoSem.ClaimSeven
namespace Go.Proofs.YtlbdjiiddofkgaaGreatDoor
namespace Rows

/-- THE TIED CARD OF 'signalboxlaw18.KernelParts'. -/
def kernelPartsCard : Claim7 := { stood := { row := kernelPartsRow, standIns := [], harness := (true, "48fb90cb72fc7a6afab1d3a6a51a34a3a086bce7ca13886a845ee9feab5528ae"), looks := true }, kinds := [], alts := [], laidByText := true, laidKinds := [.data], laidTests := true, laidLooks := .later }
def KernelPartsCardSaid : Prop := Claim7.holds Tryz.pinned (.plain (OpenSpec.ofChange kernelPartsSpec)) kernelPartsCard

/-- THE TIED CARD OF 'signalboxlaw18.KernelDisplaces'. -/
def kernelDisplacesCard : Claim7 := { stood := { row := kernelDisplacesRow, standIns := [], harness := (true, "48fb90cb72fc7a6afab1d3a6a51a34a3a086bce7ca13886a845ee9feab5528ae"), looks := true }, kinds := [], alts := [], laidByText := true, laidKinds := [.data], laidTests := true, laidLooks := .later }
def KernelDisplacesCardSaid : Prop := Claim7.holds Tryz.pinned (.plain (OpenSpec.ofChange kernelDisplacesSpec)) kernelDisplacesCard

/-- THE TIED CARD OF 'signalboxlaw18.KernelAlone'. -/
def kernelAloneCard : Claim7 := { stood := { row := kernelAloneRow, standIns := [], harness := (true, "48fb90cb72fc7a6afab1d3a6a51a34a3a086bce7ca13886a845ee9feab5528ae"), looks := true }, kinds := [], alts := [], laidByText := true, laidKinds := [.data], laidTests := true, laidLooks := .later }
def KernelAloneCardSaid : Prop := Claim7.holds Tryz.pinned (.plain (OpenSpec.ofChange kernelAloneSpec)) kernelAloneCard

/-- THE TIED CARD OF 'signalboxlaw18.KernelFrames'. -/
def kernelFramesCard : Claim7 := { stood := { row := kernelFramesRow, standIns := [], harness := (true, "48fb90cb72fc7a6afab1d3a6a51a34a3a086bce7ca13886a845ee9feab5528ae"), looks := true }, kinds := [], alts := [], laidByText := true, laidKinds := [.data], laidTests := true, laidLooks := .later }
def KernelFramesCardSaid : Prop := Claim7.holds Tryz.pinned (.plain (OpenSpec.ofChange kernelFramesSpec)) kernelFramesCard

/-- THE TIED CARD OF 'signalboxlaw22.PlayRuns'. -/
def playRunsCard : Claim7 := { stood := { row := playRunsRow, standIns := [], harness := (true, "48fb90cb72fc7a6afab1d3a6a51a34a3a086bce7ca13886a845ee9feab5528ae"), looks := true }, kinds := [], alts := [], laidByText := true, laidKinds := [.data, .data, .data, .data, .sentinel, .sentinel, .data, .data, .pinned], laidTests := true, laidLooks := .later }
def PlayRunsCardSaid : Prop := Claim7.holds Tryz.pinned (.plain (OpenSpec.ofChange playRunsSpec)) playRunsCard

/-- THE TIED CARD OF 'signalboxlaw22.PlayKept'. -/
def playKeptCard : Claim7 := { stood := { row := playKeptRow, standIns := [], harness := (true, "48fb90cb72fc7a6afab1d3a6a51a34a3a086bce7ca13886a845ee9feab5528ae"), looks := true }, kinds := [], alts := [], laidByText := true, laidKinds := [.data, .data, .data, .data, .sentinel, .sentinel, .data, .data, .pinned], laidTests := true, laidLooks := .later }
def PlayKeptCardSaid : Prop := Claim7.holds Tryz.pinned (.plain (OpenSpec.ofChange playKeptSpec)) playKeptCard

/-- THE SECOND FORM's CARD OF 'signalboxlaw18.KernelParts'. -/
def kernelPartsUptoCard : Claim7 := { stood := { row := kernelPartsUptoRow, standIns := [], harness := (true, "48fb90cb72fc7a6afab1d3a6a51a34a3a086bce7ca13886a845ee9feab5528ae"), looks := true }, kinds := [], alts := [], laidByText := true, laidKinds := [.data], laidTests := true, laidLooks := .later }
def KernelPartsUptoCardSaid : Prop := Claim7.holds Tryz.pinned (.plain (OpenSpec.upto kernelPartsSpec)) kernelPartsUptoCard

/-- THE SECOND FORM's CARD OF 'signalboxlaw18.KernelDisplaces'. -/
def kernelDisplacesUptoCard : Claim7 := { stood := { row := kernelDisplacesUptoRow, standIns := [], harness := (true, "48fb90cb72fc7a6afab1d3a6a51a34a3a086bce7ca13886a845ee9feab5528ae"), looks := true }, kinds := [], alts := [], laidByText := true, laidKinds := [.data], laidTests := true, laidLooks := .later }
def KernelDisplacesUptoCardSaid : Prop := Claim7.holds Tryz.pinned (.plain (OpenSpec.upto kernelDisplacesSpec)) kernelDisplacesUptoCard

/-- THE SECOND FORM's CARD OF 'signalboxlaw18.KernelAlone'. -/
def kernelAloneUptoCard : Claim7 := { stood := { row := kernelAloneUptoRow, standIns := [], harness := (true, "48fb90cb72fc7a6afab1d3a6a51a34a3a086bce7ca13886a845ee9feab5528ae"), looks := true }, kinds := [], alts := [], laidByText := true, laidKinds := [.data], laidTests := true, laidLooks := .later }
def KernelAloneUptoCardSaid : Prop := Claim7.holds Tryz.pinned (.plain (OpenSpec.upto kernelAloneSpec)) kernelAloneUptoCard

/-- THE SECOND FORM's CARD OF 'signalboxlaw18.KernelFrames'. -/
def kernelFramesUptoCard : Claim7 := { stood := { row := kernelFramesUptoRow, standIns := [], harness := (true, "48fb90cb72fc7a6afab1d3a6a51a34a3a086bce7ca13886a845ee9feab5528ae"), looks := true }, kinds := [], alts := [], laidByText := true, laidKinds := [.data], laidTests := true, laidLooks := .later }
def KernelFramesUptoCardSaid : Prop := Claim7.holds Tryz.pinned (.plain (OpenSpec.upto kernelFramesSpec)) kernelFramesUptoCard

/-- THE SECOND FORM's CARD OF 'signalboxlaw22.PlayRuns'. -/
def playRunsUptoCard : Claim7 := { stood := { row := playRunsUptoRow, standIns := [], harness := (true, "48fb90cb72fc7a6afab1d3a6a51a34a3a086bce7ca13886a845ee9feab5528ae"), looks := true }, kinds := [], alts := [], laidByText := true, laidKinds := [.data, .data, .data, .data, .sentinel, .sentinel, .data, .data, .pinned], laidTests := true, laidLooks := .later }
def PlayRunsUptoCardSaid : Prop := Claim7.holds Tryz.pinned (.plain (OpenSpec.upto playRunsSpec)) playRunsUptoCard

/-- THE SECOND FORM's CARD OF 'signalboxlaw22.PlayKept'. -/
def playKeptUptoCard : Claim7 := { stood := { row := playKeptUptoRow, standIns := [], harness := (true, "48fb90cb72fc7a6afab1d3a6a51a34a3a086bce7ca13886a845ee9feab5528ae"), looks := true }, kinds := [], alts := [], laidByText := true, laidKinds := [.data, .data, .data, .data, .sentinel, .sentinel, .data, .data, .pinned], laidTests := true, laidLooks := .later }
def PlayKeptUptoCardSaid : Prop := Claim7.holds Tryz.pinned (.plain (OpenSpec.upto playKeptSpec)) playKeptUptoCard
end Rows
end Go.Proofs.YtlbdjiiddofkgaaGreatDoor
