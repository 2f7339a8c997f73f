/-
  No cell of these rows narrows 'for every input' (looked for: loops, veiled, ifaces, maps, wideKeys, modest, calm, conditions, laid).
  DERIVED. THE GIVEN ROWS OF THIS SEAT. 7 by the template 'for every input the law returns true; each argument reads behind the call as it read before'; 0 by the template 'total and deterministic' (their statements: YtcgnboplpibcgaaTotals.lean).
  GIVEN WITH THE SEED: the statements are not yours to turn. If you find one false, say at which input.
  Laid BY PROGRAM, IN A SANDBOX (cutbox-rows.mjs): the forced cells as the released guide's own fill.sh prints them over the translation ea0b377fdeb61801… (all of the seat's roots in one cut). By AI agents, Wed Nov 11 2026. No macro, syntax, notation, axiom, sorry.
-/
import Derived.Test.YtcgnboplpibcgaaChecked
import GoSem.Claim
import GoSem.ClaimJoined
import GoSem.ClaimMapViews
import Derived.JoinedTies
import Derived.KernelRfl
namespace Go.Proofs.Ytcgnboplpibcgaa
/- THE CELL 'sum', in the pinned program and in every row, IS THE sha256 OF THE DUMP (.gsa) THAT YtcgnboplpibcgaaProg.lean LOADS. Nothing in Lean hashes anything: it is a label: what it is worth is what the hold of that sum in a sandbox is worth. -/
noncomputable def Try.pinned : Pinned := { name := "ytcgnboplpibcgaa", sum := "ea0b377fdeb6180107904c8c05bd226ab254ebe2f4d630542edddb2d2dbfad4a", checked := Try.checked }
namespace Rows
def none {H : Type} : Left H := { results := [], args := [] }

/-- 'signalboxlaw25.BusyWindows': WHATEVER THE INPUT: true; the input reads as it did. -/
def busyWindowsSpec : ChangeSpec := { name := "busyWindows", fn := fun _ => fun
  | [d1, d2, d3, d4] => { results := [.lit (.bool true)], args := [d1, d2, d3, d4] }
  | _ => none }
def busyWindowsRow : OpenClaim := { program := "ytcgnboplpibcgaa", sum := "ea0b377fdeb6180107904c8c05bd226ab254ebe2f4d630542edddb2d2dbfad4a", func := "signalbox/signalboxlaw25.BusyWindows", spec := "busyWindows", unfollowed := true, recurses := true, apart := false }
def BusyWindowsSaid : Prop := busyWindowsRow.holds Try.pinned (OpenSpec.ofChange busyWindowsSpec)

/-- ITS FALSE NEIGHBOUR: 'it returns false'. Refute it at one input. -/
def busyWindowsWrong : ChangeSpec := { name := "busyWindows", fn := fun _ => fun
  | [d1, d2, d3, d4] => { results := [.lit (.bool false)], args := [d1, d2, d3, d4] }
  | _ => none }
def BusyWindowsWrongFalsely : Prop := busyWindowsRow.holds Try.pinned (OpenSpec.ofChange busyWindowsWrong)

/-- 'signalboxlaw25.BusySlacks': WHATEVER THE INPUT: true; the input reads as it did. -/
def busySlacksSpec : ChangeSpec := { name := "busySlacks", fn := fun _ => fun
  | [d1, d2] => { results := [.lit (.bool true)], args := [d1, d2] }
  | _ => none }
def busySlacksRow : OpenClaim := { program := "ytcgnboplpibcgaa", sum := "ea0b377fdeb6180107904c8c05bd226ab254ebe2f4d630542edddb2d2dbfad4a", func := "signalbox/signalboxlaw25.BusySlacks", spec := "busySlacks", unfollowed := true, recurses := true, apart := false }
def BusySlacksSaid : Prop := busySlacksRow.holds Try.pinned (OpenSpec.ofChange busySlacksSpec)

/-- ITS FALSE NEIGHBOUR: 'it returns false'. Refute it at one input. -/
def busySlacksWrong : ChangeSpec := { name := "busySlacks", fn := fun _ => fun
  | [d1, d2] => { results := [.lit (.bool false)], args := [d1, d2] }
  | _ => none }
def BusySlacksWrongFalsely : Prop := busySlacksRow.holds Try.pinned (OpenSpec.ofChange busySlacksWrong)

/-- 'signalboxlaw25.BusyRises': WHATEVER THE INPUT: true; the input reads as it did. -/
def busyRisesSpec : ChangeSpec := { name := "busyRises", fn := fun _ => fun
  | [d1, d2, d3, d4] => { results := [.lit (.bool true)], args := [d1, d2, d3, d4] }
  | _ => none }
def busyRisesRow : OpenClaim := { program := "ytcgnboplpibcgaa", sum := "ea0b377fdeb6180107904c8c05bd226ab254ebe2f4d630542edddb2d2dbfad4a", func := "signalbox/signalboxlaw25.BusyRises", spec := "busyRises", unfollowed := true, recurses := true, apart := false }
def BusyRisesSaid : Prop := busyRisesRow.holds Try.pinned (OpenSpec.ofChange busyRisesSpec)

/-- ITS FALSE NEIGHBOUR: 'it returns false'. Refute it at one input. -/
def busyRisesWrong : ChangeSpec := { name := "busyRises", fn := fun _ => fun
  | [d1, d2, d3, d4] => { results := [.lit (.bool false)], args := [d1, d2, d3, d4] }
  | _ => none }
def BusyRisesWrongFalsely : Prop := busyRisesRow.holds Try.pinned (OpenSpec.ofChange busyRisesWrong)

/-- 'signalboxlaw25.BusyWorks': WHATEVER THE INPUT: true; the input reads as it did. -/
def busyWorksSpec : ChangeSpec := { name := "busyWorks", fn := fun _ => fun
  | [d1, d2, d3] => { results := [.lit (.bool true)], args := [d1, d2, d3] }
  | _ => none }
def busyWorksRow : OpenClaim := { program := "ytcgnboplpibcgaa", sum := "ea0b377fdeb6180107904c8c05bd226ab254ebe2f4d630542edddb2d2dbfad4a", func := "signalbox/signalboxlaw25.BusyWorks", spec := "busyWorks", unfollowed := true, recurses := true, apart := false }
def BusyWorksSaid : Prop := busyWorksRow.holds Try.pinned (OpenSpec.ofChange busyWorksSpec)

/-- ITS FALSE NEIGHBOUR: 'it returns false'. Refute it at one input. -/
def busyWorksWrong : ChangeSpec := { name := "busyWorks", fn := fun _ => fun
  | [d1, d2, d3] => { results := [.lit (.bool false)], args := [d1, d2, d3] }
  | _ => none }
def BusyWorksWrongFalsely : Prop := busyWorksRow.holds Try.pinned (OpenSpec.ofChange busyWorksWrong)

/-- 'signalboxlaw26.ChainTells': WHATEVER THE INPUT: true; the input reads as it did. -/
def chainTellsSpec : ChangeSpec := { name := "chainTells", fn := fun _ => fun
  | [d] => { results := [.lit (.bool true)], args := [d] }
  | _ => none }
def chainTellsRow : OpenClaim := { program := "ytcgnboplpibcgaa", sum := "ea0b377fdeb6180107904c8c05bd226ab254ebe2f4d630542edddb2d2dbfad4a", func := "signalbox/signalboxlaw26.ChainTells", spec := "chainTells", unfollowed := true, recurses := true, apart := false }
def ChainTellsSaid : Prop := chainTellsRow.holds Try.pinned (OpenSpec.ofChange chainTellsSpec)

/-- ITS FALSE NEIGHBOUR: 'it returns false'. Refute it at one input. -/
def chainTellsWrong : ChangeSpec := { name := "chainTells", fn := fun _ => fun
  | [d] => { results := [.lit (.bool false)], args := [d] }
  | _ => none }
def ChainTellsWrongFalsely : Prop := chainTellsRow.holds Try.pinned (OpenSpec.ofChange chainTellsWrong)

/-- 'signalboxlaw26.ChainGroups': WHATEVER THE INPUT: true; the input reads as it did. -/
def chainGroupsSpec : ChangeSpec := { name := "chainGroups", fn := fun _ => fun
  | [d] => { results := [.lit (.bool true)], args := [d] }
  | _ => none }
def chainGroupsRow : OpenClaim := { program := "ytcgnboplpibcgaa", sum := "ea0b377fdeb6180107904c8c05bd226ab254ebe2f4d630542edddb2d2dbfad4a", func := "signalbox/signalboxlaw26.ChainGroups", spec := "chainGroups", unfollowed := true, recurses := true, apart := false }
def ChainGroupsSaid : Prop := chainGroupsRow.holds Try.pinned (OpenSpec.ofChange chainGroupsSpec)

/-- ITS FALSE NEIGHBOUR: 'it returns false'. Refute it at one input. -/
def chainGroupsWrong : ChangeSpec := { name := "chainGroups", fn := fun _ => fun
  | [d] => { results := [.lit (.bool false)], args := [d] }
  | _ => none }
def ChainGroupsWrongFalsely : Prop := chainGroupsRow.holds Try.pinned (OpenSpec.ofChange chainGroupsWrong)

/-- 'signalboxlaw26.ChainCan': WHATEVER THE INPUT: true; the input reads as it did. -/
def chainCanSpec : ChangeSpec := { name := "chainCan", fn := fun _ => fun
  | [d1, d2, d3, d4] => { results := [.lit (.bool true)], args := [d1, d2, d3, d4] }
  | _ => none }
def chainCanRow : OpenClaim := { program := "ytcgnboplpibcgaa", sum := "ea0b377fdeb6180107904c8c05bd226ab254ebe2f4d630542edddb2d2dbfad4a", func := "signalbox/signalboxlaw26.ChainCan", spec := "chainCan", unfollowed := true, recurses := true, apart := false }
def ChainCanSaid : Prop := chainCanRow.holds Try.pinned (OpenSpec.ofChange chainCanSpec)

/-- ITS FALSE NEIGHBOUR: 'it returns false'. Refute it at one input. -/
def chainCanWrong : ChangeSpec := { name := "chainCan", fn := fun _ => fun
  | [d1, d2, d3, d4] => { results := [.lit (.bool false)], args := [d1, d2, d3, d4] }
  | _ => none }
def ChainCanWrongFalsely : Prop := chainCanRow.holds Try.pinned (OpenSpec.ofChange chainCanWrong)

/- THE SECOND FORM. 'bulk': how many values and letters a reading holds, each counted each time it is reached (what is shared counts as often as it is met; a slice's spare places count too). A statement '..UptoSaid' is the law's where the arguments, and the package variables that the reading takes, are together of bulk at most 1048576: NARROWER than '..Said'. Prove '..Said' where nothing that the law and all that it calls make is longer than what came in: it says more and counts as full. Else prove '..UptoSaid'. A law counts once. -/
mutual
def uptoBulk {H : Type} : DataW H → Nat
  | .lit (.string bytes) => bytes.length + 1
  | .lit _ => 1
  | .nil => 1
  | .ptr d => uptoBulk d + 1
  | .slice elems spare => uptoBulkAll elems + uptoBulkAll spare + 1
  | .agg parts => uptoBulkAll parts + 1
  | .iface _ d => uptoBulk d + 1
  | .map entries => uptoBulkEntries entries + 1
  | .held _ => 1
def uptoBulkAll {H : Type} : List (DataW H) → Nat
  | [] => 0
  | d :: r => uptoBulk d + uptoBulkAll r
def uptoBulkEntries {H : Type} : List (Lit × DataW H) → Nat
  | [] => 0
  | x :: r => uptoBulkEntry x + uptoBulkEntries r
def uptoBulkEntry {H : Type} : Lit × DataW H → Nat
  | (.string bytes, d) => bytes.length + uptoBulk d + 1
  | (_, d) => uptoBulk d + 1
 end
def uptoSmall : (H : Type) → List (DataW H) → Bool := fun _ ds => decide (uptoBulkAll ds ≤ 1048576)
def OpenSpec.upto (s : _root_.Go.ChangeSpec) : _root_.Go.OpenSpec := { _root_.Go.OpenSpec.ofChange s with cond := some uptoSmall }

/-- 'signalboxlaw25.BusyWindows', WHERE WHAT IT READS IS OF BULK AT MOST 1048576: true; the input reads as it did. -/
def busyWindowsUptoRow : OpenClaim := { program := "ytcgnboplpibcgaa", sum := "ea0b377fdeb6180107904c8c05bd226ab254ebe2f4d630542edddb2d2dbfad4a", func := "signalbox/signalboxlaw25.BusyWindows", spec := "busyWindows", unfollowed := true, recurses := true, apart := false, narrowed := true }
def BusyWindowsUptoSaid : Prop := busyWindowsUptoRow.holds Try.pinned (OpenSpec.upto busyWindowsSpec)

/-- 'signalboxlaw25.BusySlacks', WHERE WHAT IT READS IS OF BULK AT MOST 1048576: true; the input reads as it did. -/
def busySlacksUptoRow : OpenClaim := { program := "ytcgnboplpibcgaa", sum := "ea0b377fdeb6180107904c8c05bd226ab254ebe2f4d630542edddb2d2dbfad4a", func := "signalbox/signalboxlaw25.BusySlacks", spec := "busySlacks", unfollowed := true, recurses := true, apart := false, narrowed := true }
def BusySlacksUptoSaid : Prop := busySlacksUptoRow.holds Try.pinned (OpenSpec.upto busySlacksSpec)

/-- 'signalboxlaw25.BusyRises', WHERE WHAT IT READS IS OF BULK AT MOST 1048576: true; the input reads as it did. -/
def busyRisesUptoRow : OpenClaim := { program := "ytcgnboplpibcgaa", sum := "ea0b377fdeb6180107904c8c05bd226ab254ebe2f4d630542edddb2d2dbfad4a", func := "signalbox/signalboxlaw25.BusyRises", spec := "busyRises", unfollowed := true, recurses := true, apart := false, narrowed := true }
def BusyRisesUptoSaid : Prop := busyRisesUptoRow.holds Try.pinned (OpenSpec.upto busyRisesSpec)

/-- 'signalboxlaw25.BusyWorks', WHERE WHAT IT READS IS OF BULK AT MOST 1048576: true; the input reads as it did. -/
def busyWorksUptoRow : OpenClaim := { program := "ytcgnboplpibcgaa", sum := "ea0b377fdeb6180107904c8c05bd226ab254ebe2f4d630542edddb2d2dbfad4a", func := "signalbox/signalboxlaw25.BusyWorks", spec := "busyWorks", unfollowed := true, recurses := true, apart := false, narrowed := true }
def BusyWorksUptoSaid : Prop := busyWorksUptoRow.holds Try.pinned (OpenSpec.upto busyWorksSpec)

/-- 'signalboxlaw26.ChainTells', WHERE WHAT IT READS IS OF BULK AT MOST 1048576: true; the input reads as it did. -/
def chainTellsUptoRow : OpenClaim := { program := "ytcgnboplpibcgaa", sum := "ea0b377fdeb6180107904c8c05bd226ab254ebe2f4d630542edddb2d2dbfad4a", func := "signalbox/signalboxlaw26.ChainTells", spec := "chainTells", unfollowed := true, recurses := true, apart := false, narrowed := true }
def ChainTellsUptoSaid : Prop := chainTellsUptoRow.holds Try.pinned (OpenSpec.upto chainTellsSpec)

/-- 'signalboxlaw26.ChainGroups', WHERE WHAT IT READS IS OF BULK AT MOST 1048576: true; the input reads as it did. -/
def chainGroupsUptoRow : OpenClaim := { program := "ytcgnboplpibcgaa", sum := "ea0b377fdeb6180107904c8c05bd226ab254ebe2f4d630542edddb2d2dbfad4a", func := "signalbox/signalboxlaw26.ChainGroups", spec := "chainGroups", unfollowed := true, recurses := true, apart := false, narrowed := true }
def ChainGroupsUptoSaid : Prop := chainGroupsUptoRow.holds Try.pinned (OpenSpec.upto chainGroupsSpec)

/-- 'signalboxlaw26.ChainCan', WHERE WHAT IT READS IS OF BULK AT MOST 1048576: true; the input reads as it did. -/
def chainCanUptoRow : OpenClaim := { program := "ytcgnboplpibcgaa", sum := "ea0b377fdeb6180107904c8c05bd226ab254ebe2f4d630542edddb2d2dbfad4a", func := "signalbox/signalboxlaw26.ChainCan", spec := "chainCan", unfollowed := true, recurses := true, apart := false, narrowed := true }
def ChainCanUptoSaid : Prop := chainCanUptoRow.holds Try.pinned (OpenSpec.upto chainCanSpec)

end Rows
end Go.Proofs.Ytcgnboplpibcgaa
