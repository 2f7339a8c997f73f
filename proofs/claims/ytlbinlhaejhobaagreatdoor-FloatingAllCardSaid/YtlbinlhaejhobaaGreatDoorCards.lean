/-
  DERIVED. GIVEN WITH THE SEED: THE CARDS: each row of YtlbinlhaejhobaaGreatDoorRows.lean that lists a variable, with what it lists TIED to the program's text (the seventh form; the later family's looks); each row that meets fmt, with fmt's text TOLD by the authors' own Lean function (tested against real Go, not proved from fmt's source: count such statements apart). THE CARD IS WHAT COUNTS. Prove the row's statement (the work); the ties are given (YtlbinlhaejhobaaGreatDoorTie.lean); close each card by the builder's one call (the guide's Derived/Test/ToyasCard.lean, 'card_holds'). Laid BY PROGRAM, IN A SANDBOX (cutbox-door.mjs). By AI agents, Wed Nov 11 2026. No macro, syntax, notation, axiom, sorry.
-/
import Derived.Test.YtlbinlhaejhobaaGreatDoorRows
import GoSem.ClaimSeven
namespace Go.Proofs.YtlbinlhaejhobaaGreatDoor
namespace Rows

/-- THE TIED CARD OF 'signalboxlaw28.AdmitTells'. -/
def admitTellsCard : Claim7 := { stood := { row := admitTellsRow, standIns := [], harness := (true, "0e627fc9734dd7ab2f503aab14dd1ccf35c9fc3285685084b2ce0c9d16b66c22"), looks := false }, kinds := [], alts := [], laidByText := true, laidKinds := [.data], laidTests := true, laidLooks := .later }
def AdmitTellsCardSaid : Prop := Claim7.holds Tryz.pinned (.plain (OpenSpec.ofChange admitTellsSpec)) admitTellsCard

/-- THE TIED CARD OF 'signalboxlaw29.AssignPasses'. -/
def assignPassesCard : Claim7 := { stood := { row := assignPassesRow, standIns := [], harness := (true, "0e627fc9734dd7ab2f503aab14dd1ccf35c9fc3285685084b2ce0c9d16b66c22"), looks := false }, kinds := [], alts := [], laidByText := true, laidKinds := [.data], laidTests := true, laidLooks := .later }
def AssignPassesCardSaid : Prop := Claim7.holds Tryz.pinned (.plain (OpenSpec.ofChange assignPassesSpec)) assignPassesCard

/-- THE TIED CARD OF 'signalboxlaw29.AssignNone'. -/
def assignNoneCard : Claim7 := { stood := { row := assignNoneRow, standIns := [], harness := (true, "0e627fc9734dd7ab2f503aab14dd1ccf35c9fc3285685084b2ce0c9d16b66c22"), looks := false }, kinds := [], alts := [], laidByText := true, laidKinds := [.data], laidTests := true, laidLooks := .later }
def AssignNoneCardSaid : Prop := Claim7.holds Tryz.pinned (.plain (OpenSpec.ofChange assignNoneSpec)) assignNoneCard

/-- THE TIED CARD OF 'signalboxlaw29.AssignMost'. -/
def assignMostCard : Claim7 := { stood := { row := assignMostRow, standIns := [], harness := (true, "0e627fc9734dd7ab2f503aab14dd1ccf35c9fc3285685084b2ce0c9d16b66c22"), looks := false }, kinds := [], alts := [], laidByText := true, laidKinds := [.data], laidTests := true, laidLooks := .later }
def AssignMostCardSaid : Prop := Claim7.holds Tryz.pinned (.plain (OpenSpec.ofChange assignMostSpec)) assignMostCard

/-- THE TIED CARD OF 'signalboxlaw29.AssignLower'. -/
def assignLowerCard : Claim7 := { stood := { row := assignLowerRow, standIns := [], harness := (true, "0e627fc9734dd7ab2f503aab14dd1ccf35c9fc3285685084b2ce0c9d16b66c22"), looks := false }, kinds := [], alts := [], laidByText := true, laidKinds := [.data], laidTests := true, laidLooks := .later }
def AssignLowerCardSaid : Prop := Claim7.holds Tryz.pinned (.plain (OpenSpec.ofChange assignLowerSpec)) assignLowerCard

/-- THE TIED CARD OF 'signalboxlaw30.FloatingMost'. -/
def floatingMostCard : Claim7 := { stood := { row := floatingMostRow, standIns := [], harness := (true, "0e627fc9734dd7ab2f503aab14dd1ccf35c9fc3285685084b2ce0c9d16b66c22"), looks := false }, kinds := [], alts := [], laidByText := true, laidKinds := [.data], laidTests := true, laidLooks := .later }
def FloatingMostCardSaid : Prop := Claim7.holds Tryz.pinned (.plain (OpenSpec.ofChange floatingMostSpec)) floatingMostCard

/-- THE TIED CARD OF 'signalboxlaw30.FloatingAll'. -/
def floatingAllCard : Claim7 := { stood := { row := floatingAllRow, standIns := [], harness := (true, "0e627fc9734dd7ab2f503aab14dd1ccf35c9fc3285685084b2ce0c9d16b66c22"), looks := false }, kinds := [], alts := [], laidByText := true, laidKinds := [.data], laidTests := true, laidLooks := .later }
def FloatingAllCardSaid : Prop := Claim7.holds Tryz.pinned (.plain (OpenSpec.ofChange floatingAllSpec)) floatingAllCard

/-- THE SECOND FORM's CARD OF 'signalboxlaw28.AdmitTells'. -/
def admitTellsUptoCard : Claim7 := { stood := { row := admitTellsUptoRow, standIns := [], harness := (true, "0e627fc9734dd7ab2f503aab14dd1ccf35c9fc3285685084b2ce0c9d16b66c22"), looks := false }, kinds := [], alts := [], laidByText := true, laidKinds := [.data], laidTests := true, laidLooks := .later }
def AdmitTellsUptoCardSaid : Prop := Claim7.holds Tryz.pinned (.plain (OpenSpec.upto admitTellsSpec)) admitTellsUptoCard

/-- THE SECOND FORM's CARD OF 'signalboxlaw29.AssignPasses'. -/
def assignPassesUptoCard : Claim7 := { stood := { row := assignPassesUptoRow, standIns := [], harness := (true, "0e627fc9734dd7ab2f503aab14dd1ccf35c9fc3285685084b2ce0c9d16b66c22"), looks := false }, kinds := [], alts := [], laidByText := true, laidKinds := [.data], laidTests := true, laidLooks := .later }
def AssignPassesUptoCardSaid : Prop := Claim7.holds Tryz.pinned (.plain (OpenSpec.upto assignPassesSpec)) assignPassesUptoCard

/-- THE SECOND FORM's CARD OF 'signalboxlaw29.AssignNone'. -/
def assignNoneUptoCard : Claim7 := { stood := { row := assignNoneUptoRow, standIns := [], harness := (true, "0e627fc9734dd7ab2f503aab14dd1ccf35c9fc3285685084b2ce0c9d16b66c22"), looks := false }, kinds := [], alts := [], laidByText := true, laidKinds := [.data], laidTests := true, laidLooks := .later }
def AssignNoneUptoCardSaid : Prop := Claim7.holds Tryz.pinned (.plain (OpenSpec.upto assignNoneSpec)) assignNoneUptoCard

/-- THE SECOND FORM's CARD OF 'signalboxlaw29.AssignMost'. -/
def assignMostUptoCard : Claim7 := { stood := { row := assignMostUptoRow, standIns := [], harness := (true, "0e627fc9734dd7ab2f503aab14dd1ccf35c9fc3285685084b2ce0c9d16b66c22"), looks := false }, kinds := [], alts := [], laidByText := true, laidKinds := [.data], laidTests := true, laidLooks := .later }
def AssignMostUptoCardSaid : Prop := Claim7.holds Tryz.pinned (.plain (OpenSpec.upto assignMostSpec)) assignMostUptoCard

/-- THE SECOND FORM's CARD OF 'signalboxlaw29.AssignLower'. -/
def assignLowerUptoCard : Claim7 := { stood := { row := assignLowerUptoRow, standIns := [], harness := (true, "0e627fc9734dd7ab2f503aab14dd1ccf35c9fc3285685084b2ce0c9d16b66c22"), looks := false }, kinds := [], alts := [], laidByText := true, laidKinds := [.data], laidTests := true, laidLooks := .later }
def AssignLowerUptoCardSaid : Prop := Claim7.holds Tryz.pinned (.plain (OpenSpec.upto assignLowerSpec)) assignLowerUptoCard

/-- THE SECOND FORM's CARD OF 'signalboxlaw30.FloatingMost'. -/
def floatingMostUptoCard : Claim7 := { stood := { row := floatingMostUptoRow, standIns := [], harness := (true, "0e627fc9734dd7ab2f503aab14dd1ccf35c9fc3285685084b2ce0c9d16b66c22"), looks := false }, kinds := [], alts := [], laidByText := true, laidKinds := [.data], laidTests := true, laidLooks := .later }
def FloatingMostUptoCardSaid : Prop := Claim7.holds Tryz.pinned (.plain (OpenSpec.upto floatingMostSpec)) floatingMostUptoCard

/-- THE SECOND FORM's CARD OF 'signalboxlaw30.FloatingAll'. -/
def floatingAllUptoCard : Claim7 := { stood := { row := floatingAllUptoRow, standIns := [], harness := (true, "0e627fc9734dd7ab2f503aab14dd1ccf35c9fc3285685084b2ce0c9d16b66c22"), looks := false }, kinds := [], alts := [], laidByText := true, laidKinds := [.data], laidTests := true, laidLooks := .later }
def FloatingAllUptoCardSaid : Prop := Claim7.holds Tryz.pinned (.plain (OpenSpec.upto floatingAllSpec)) floatingAllUptoCard
end Rows
end Go.Proofs.YtlbinlhaejhobaaGreatDoor
