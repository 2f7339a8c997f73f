/-
  No cell of these rows narrows 'for every input' (looked for: loops, veiled, ifaces, maps, wideKeys, modest, calm, conditions, laid).
  DERIVED. THE GIVEN ROWS OF THIS SEAT. 4 by the template 'for every input the law returns true; each argument reads behind the call as it read before'; 0 by the template 'total and deterministic' (their statements: YtbmpmmfomcnchaaTotals.lean).
  GIVEN WITH THE SEED: the statements are not yours to turn. If you find one false, say at which input.
  Laid BY PROGRAM, IN A SANDBOX (cutbox-rows.mjs): the forced cells as the released guide's own fill.sh prints them over the translation 74ec834ab69b3c44… (all of the seat's roots in one cut). By AI agents, Wed Nov 11 2026. No macro, syntax, notation, axiom, sorry.
-/
import Derived.Test.YtbmpmmfomcnchaaChecked
import GoSem.Claim
import GoSem.ClaimJoined
import GoSem.ClaimMapViews
import Derived.JoinedTies
import Derived.KernelRfl
namespace Go.Proofs.Ytbmpmmfomcnchaa
/- THE CELL 'sum', in the pinned program and in every row, IS THE sha256 OF THE DUMP (.gsa) THAT YtbmpmmfomcnchaaProg.lean LOADS. Nothing in Lean hashes anything: it is a label: what it is worth is what the hold of that sum in a sandbox is worth. -/
noncomputable def Try.pinned : Pinned := { name := "ytbmpmmfomcnchaa", sum := "74ec834ab69b3c44fed6bfeeed85beccbb6e719051dae1451435227c975c4383", checked := Try.checked }
namespace Rows
def none {H : Type} : Left H := { results := [], args := [] }

/-- 'signalboxlaw11.FlagsPlay': WHATEVER THE INPUT: true; the input reads as it did. -/
def flagsPlaySpec : ChangeSpec := { name := "flagsPlay", fn := fun _ => fun
  | [d1, d2] => { results := [.lit (.bool true)], args := [d1, d2] }
  | _ => none }
def flagsPlayRow : OpenClaim := { program := "ytbmpmmfomcnchaa", sum := "74ec834ab69b3c44fed6bfeeed85beccbb6e719051dae1451435227c975c4383", func := "signalbox/signalboxlaw11.FlagsPlay", spec := "flagsPlay", unfollowed := true, recurses := true, apart := false }
def FlagsPlaySaid : Prop := flagsPlayRow.holds Try.pinned (OpenSpec.ofChange flagsPlaySpec)

/-- ITS FALSE NEIGHBOUR: 'it returns false'. Refute it at one input. -/
def flagsPlayWrong : ChangeSpec := { name := "flagsPlay", fn := fun _ => fun
  | [d1, d2] => { results := [.lit (.bool false)], args := [d1, d2] }
  | _ => none }
def FlagsPlayWrongFalsely : Prop := flagsPlayRow.holds Try.pinned (OpenSpec.ofChange flagsPlayWrong)

/-- 'signalboxlaw11.FlagsBack': WHATEVER THE INPUT: true; the input reads as it did. -/
def flagsBackSpec : ChangeSpec := { name := "flagsBack", fn := fun _ => fun
  | [d1, d2, d3] => { results := [.lit (.bool true)], args := [d1, d2, d3] }
  | _ => none }
def flagsBackRow : OpenClaim := { program := "ytbmpmmfomcnchaa", sum := "74ec834ab69b3c44fed6bfeeed85beccbb6e719051dae1451435227c975c4383", func := "signalbox/signalboxlaw11.FlagsBack", spec := "flagsBack", unfollowed := true, recurses := true, apart := false }
def FlagsBackSaid : Prop := flagsBackRow.holds Try.pinned (OpenSpec.ofChange flagsBackSpec)

/-- ITS FALSE NEIGHBOUR: 'it returns false'. Refute it at one input. -/
def flagsBackWrong : ChangeSpec := { name := "flagsBack", fn := fun _ => fun
  | [d1, d2, d3] => { results := [.lit (.bool false)], args := [d1, d2, d3] }
  | _ => none }
def FlagsBackWrongFalsely : Prop := flagsBackRow.holds Try.pinned (OpenSpec.ofChange flagsBackWrong)

/-- 'signalboxlaw12.CountPlays': WHATEVER THE INPUT: true; the input reads as it did. -/
def countPlaysSpec : ChangeSpec := { name := "countPlays", fn := fun _ => fun
  | [d1, d2, d3] => { results := [.lit (.bool true)], args := [d1, d2, d3] }
  | _ => none }
def countPlaysRow : OpenClaim := { program := "ytbmpmmfomcnchaa", sum := "74ec834ab69b3c44fed6bfeeed85beccbb6e719051dae1451435227c975c4383", func := "signalbox/signalboxlaw12.CountPlays", spec := "countPlays", apart := false }
def CountPlaysSaid : Prop := countPlaysRow.holds Try.pinned (OpenSpec.ofChange countPlaysSpec)

/-- ITS FALSE NEIGHBOUR: 'it returns false'. Refute it at one input. -/
def countPlaysWrong : ChangeSpec := { name := "countPlays", fn := fun _ => fun
  | [d1, d2, d3] => { results := [.lit (.bool false)], args := [d1, d2, d3] }
  | _ => none }
def CountPlaysWrongFalsely : Prop := countPlaysRow.holds Try.pinned (OpenSpec.ofChange countPlaysWrong)

/-- 'signalboxlaw12.CountBalance': WHATEVER THE INPUT: true; the input reads as it did. -/
def countBalanceSpec : ChangeSpec := { name := "countBalance", fn := fun _ => fun
  | [d1, d2] => { results := [.lit (.bool true)], args := [d1, d2] }
  | _ => none }
def countBalanceRow : OpenClaim := { program := "ytbmpmmfomcnchaa", sum := "74ec834ab69b3c44fed6bfeeed85beccbb6e719051dae1451435227c975c4383", func := "signalbox/signalboxlaw12.CountBalance", spec := "countBalance", apart := false }
def CountBalanceSaid : Prop := countBalanceRow.holds Try.pinned (OpenSpec.ofChange countBalanceSpec)

/-- ITS FALSE NEIGHBOUR: 'it returns false'. Refute it at one input. -/
def countBalanceWrong : ChangeSpec := { name := "countBalance", fn := fun _ => fun
  | [d1, d2] => { results := [.lit (.bool false)], args := [d1, d2] }
  | _ => none }
def CountBalanceWrongFalsely : Prop := countBalanceRow.holds Try.pinned (OpenSpec.ofChange countBalanceWrong)

/- THE SECOND FORM. 'bulk': how many values and letters a reading holds, each counted each time it is reached (what is shared counts as often as it is met; a slice's spare places count too). A statement '..UptoSaid' is the law's where the arguments, and the package variables that the reading takes, are together of bulk at most 1048576: NARROWER than '..Said'. Prove '..Said' where nothing that the law and all that it calls make is longer than what came in: it says more and counts as full. Else prove '..UptoSaid'. A law counts once. -/
mutual
def uptoBulk {H : Type} : DataW H → Nat
  | .lit (.string bytes) => bytes.length + 1
  | .lit _ => 1
  | .nil => 1
  | .ptr d => uptoBulk d + 1
  | .slice elems spare => uptoBulkAll elems + uptoBulkAll spare + 1
  | .agg parts => uptoBulkAll parts + 1
  | .iface _ d => uptoBulk d + 1
  | .map entries => uptoBulkEntries entries + 1
  | .held _ => 1
def uptoBulkAll {H : Type} : List (DataW H) → Nat
  | [] => 0
  | d :: r => uptoBulk d + uptoBulkAll r
def uptoBulkEntries {H : Type} : List (Lit × DataW H) → Nat
  | [] => 0
  | x :: r => uptoBulkEntry x + uptoBulkEntries r
def uptoBulkEntry {H : Type} : Lit × DataW H → Nat
  | (.string bytes, d) => bytes.length + uptoBulk d + 1
  | (_, d) => uptoBulk d + 1
 end
def uptoSmall : (H : Type) → List (DataW H) → Bool := fun _ ds => decide (uptoBulkAll ds ≤ 1048576)
def OpenSpec.upto (s : _root_.Go.ChangeSpec) : _root_.Go.OpenSpec := { _root_.Go.OpenSpec.ofChange s with cond := some uptoSmall }

/-- 'signalboxlaw11.FlagsPlay', WHERE WHAT IT READS IS OF BULK AT MOST 1048576: true; the input reads as it did. -/
def flagsPlayUptoRow : OpenClaim := { program := "ytbmpmmfomcnchaa", sum := "74ec834ab69b3c44fed6bfeeed85beccbb6e719051dae1451435227c975c4383", func := "signalbox/signalboxlaw11.FlagsPlay", spec := "flagsPlay", unfollowed := true, recurses := true, apart := false, narrowed := true }
def FlagsPlayUptoSaid : Prop := flagsPlayUptoRow.holds Try.pinned (OpenSpec.upto flagsPlaySpec)

/-- 'signalboxlaw11.FlagsBack', WHERE WHAT IT READS IS OF BULK AT MOST 1048576: true; the input reads as it did. -/
def flagsBackUptoRow : OpenClaim := { program := "ytbmpmmfomcnchaa", sum := "74ec834ab69b3c44fed6bfeeed85beccbb6e719051dae1451435227c975c4383", func := "signalbox/signalboxlaw11.FlagsBack", spec := "flagsBack", unfollowed := true, recurses := true, apart := false, narrowed := true }
def FlagsBackUptoSaid : Prop := flagsBackUptoRow.holds Try.pinned (OpenSpec.upto flagsBackSpec)

/-- 'signalboxlaw12.CountPlays', WHERE WHAT IT READS IS OF BULK AT MOST 1048576: true; the input reads as it did. -/
def countPlaysUptoRow : OpenClaim := { program := "ytbmpmmfomcnchaa", sum := "74ec834ab69b3c44fed6bfeeed85beccbb6e719051dae1451435227c975c4383", func := "signalbox/signalboxlaw12.CountPlays", spec := "countPlays", apart := false, narrowed := true }
def CountPlaysUptoSaid : Prop := countPlaysUptoRow.holds Try.pinned (OpenSpec.upto countPlaysSpec)

/-- 'signalboxlaw12.CountBalance', WHERE WHAT IT READS IS OF BULK AT MOST 1048576: true; the input reads as it did. -/
def countBalanceUptoRow : OpenClaim := { program := "ytbmpmmfomcnchaa", sum := "74ec834ab69b3c44fed6bfeeed85beccbb6e719051dae1451435227c975c4383", func := "signalbox/signalboxlaw12.CountBalance", spec := "countBalance", apart := false, narrowed := true }
def CountBalanceUptoSaid : Prop := countBalanceUptoRow.holds Try.pinned (OpenSpec.upto countBalanceSpec)

end Rows
end Go.Proofs.Ytbmpmmfomcnchaa
