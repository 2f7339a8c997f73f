/-
  No cell of these rows narrows 'for every input' (looked for: loops, veiled, ifaces, maps, wideKeys, modest, calm, conditions, laid).
  DERIVED. THE GIVEN ROWS OF THIS SEAT. 3 by the template 'for every input the law returns true; each argument reads behind the call as it read before'; 0 by the template 'total and deterministic' (their statements: YtifpndjpijohfaaTotals.lean).
  GIVEN WITH THE SEED: the statements are not yours to turn. If you find one false, say at which input.
  Laid BY PROGRAM, IN A SANDBOX (cutbox-rows.mjs): the forced cells as the released guide's own fill.sh prints them over the translation 87f48405cf575861… (all of the seat's roots in one cut). By AI agents, Wed Nov 11 2026. No macro, syntax, notation, axiom, sorry.
-/
import Derived.Test.YtifpndjpijohfaaChecked
import GoSem.Claim
import GoSem.ClaimJoined
import GoSem.ClaimMapViews
import Derived.JoinedTies
import Derived.KernelRfl
namespace Go.Proofs.Ytifpndjpijohfaa
/- THE CELL 'sum', in the pinned program and in every row, IS THE sha256 OF THE DUMP (.gsa) THAT YtifpndjpijohfaaProg.lean LOADS. Nothing in Lean hashes anything: it is a label: what it is worth is what the hold of that sum in a sandbox is worth. -/
noncomputable def Try.pinned : Pinned := { name := "ytifpndjpijohfaa", sum := "87f48405cf575861526ef7daa05daa91aabe0b3ca6b9f69a6a6ec4ea32d264aa", checked := Try.checked }
namespace Rows
def none {H : Type} : Left H := { results := [], args := [] }

/-- 'signalboxlaw17.JobParts': WHATEVER THE INPUT: true; the input reads as it did. -/
def jobPartsSpec : ChangeSpec := { name := "jobParts", fn := fun _ => fun
  | [d1, d2, d3, d4, d5] => { results := [.lit (.bool true)], args := [d1, d2, d3, d4, d5] }
  | _ => none }
def jobPartsRow : OpenClaim := { program := "ytifpndjpijohfaa", sum := "87f48405cf575861526ef7daa05daa91aabe0b3ca6b9f69a6a6ec4ea32d264aa", func := "signalbox/signalboxlaw17.JobParts", spec := "jobParts", apart := false }
def JobPartsSaid : Prop := jobPartsRow.holds Try.pinned (OpenSpec.ofChange jobPartsSpec)

/-- ITS FALSE NEIGHBOUR: 'it returns false'. Refute it at one input. -/
def jobPartsWrong : ChangeSpec := { name := "jobParts", fn := fun _ => fun
  | [d1, d2, d3, d4, d5] => { results := [.lit (.bool false)], args := [d1, d2, d3, d4, d5] }
  | _ => none }
def JobPartsWrongFalsely : Prop := jobPartsRow.holds Try.pinned (OpenSpec.ofChange jobPartsWrong)

/-- 'signalboxlaw17.JobRuns': WHATEVER THE INPUT: true; the input reads as it did. -/
def jobRunsSpec : ChangeSpec := { name := "jobRuns", fn := fun _ => fun
  | [d1, d2] => { results := [.lit (.bool true)], args := [d1, d2] }
  | _ => none }
def jobRunsRow : OpenClaim := { program := "ytifpndjpijohfaa", sum := "87f48405cf575861526ef7daa05daa91aabe0b3ca6b9f69a6a6ec4ea32d264aa", func := "signalbox/signalboxlaw17.JobRuns", spec := "jobRuns", apart := false }
def JobRunsSaid : Prop := jobRunsRow.holds Try.pinned (OpenSpec.ofChange jobRunsSpec)

/-- ITS FALSE NEIGHBOUR: 'it returns false'. Refute it at one input. -/
def jobRunsWrong : ChangeSpec := { name := "jobRuns", fn := fun _ => fun
  | [d1, d2] => { results := [.lit (.bool false)], args := [d1, d2] }
  | _ => none }
def JobRunsWrongFalsely : Prop := jobRunsRow.holds Try.pinned (OpenSpec.ofChange jobRunsWrong)

/-- 'signalboxlaw17.JobNone': WHATEVER THE INPUT: true; the input reads as it did. -/
def jobNoneSpec : ChangeSpec := { name := "jobNone", fn := fun _ => fun
  | [d] => { results := [.lit (.bool true)], args := [d] }
  | _ => none }
def jobNoneRow : OpenClaim := { program := "ytifpndjpijohfaa", sum := "87f48405cf575861526ef7daa05daa91aabe0b3ca6b9f69a6a6ec4ea32d264aa", func := "signalbox/signalboxlaw17.JobNone", spec := "jobNone", apart := false }
def JobNoneSaid : Prop := jobNoneRow.holds Try.pinned (OpenSpec.ofChange jobNoneSpec)

/-- ITS FALSE NEIGHBOUR: 'it returns false'. Refute it at one input. -/
def jobNoneWrong : ChangeSpec := { name := "jobNone", fn := fun _ => fun
  | [d] => { results := [.lit (.bool false)], args := [d] }
  | _ => none }
def JobNoneWrongFalsely : Prop := jobNoneRow.holds Try.pinned (OpenSpec.ofChange jobNoneWrong)

/- THE SECOND FORM. 'bulk': how many values and letters a reading holds, each counted each time it is reached (what is shared counts as often as it is met; a slice's spare places count too). A statement '..UptoSaid' is the law's where the arguments, and the package variables that the reading takes, are together of bulk at most 1048576: NARROWER than '..Said'. Prove '..Said' where nothing that the law and all that it calls make is longer than what came in: it says more and counts as full. Else prove '..UptoSaid'. A law counts once. -/
mutual
def uptoBulk {H : Type} : DataW H → Nat
  | .lit (.string bytes) => bytes.length + 1
  | .lit _ => 1
  | .nil => 1
  | .ptr d => uptoBulk d + 1
  | .slice elems spare => uptoBulkAll elems + uptoBulkAll spare + 1
  | .agg parts => uptoBulkAll parts + 1
  | .iface _ d => uptoBulk d + 1
  | .map entries => uptoBulkEntries entries + 1
  | .held _ => 1
def uptoBulkAll {H : Type} : List (DataW H) → Nat
  | [] => 0
  | d :: r => uptoBulk d + uptoBulkAll r
def uptoBulkEntries {H : Type} : List (Lit × DataW H) → Nat
  | [] => 0
  | x :: r => uptoBulkEntry x + uptoBulkEntries r
def uptoBulkEntry {H : Type} : Lit × DataW H → Nat
  | (.string bytes, d) => bytes.length + uptoBulk d + 1
  | (_, d) => uptoBulk d + 1
 end
def uptoSmall : (H : Type) → List (DataW H) → Bool := fun _ ds => decide (uptoBulkAll ds ≤ 1048576)
def OpenSpec.upto (s : _root_.Go.ChangeSpec) : _root_.Go.OpenSpec := { _root_.Go.OpenSpec.ofChange s with cond := some uptoSmall }

/-- 'signalboxlaw17.JobParts', WHERE WHAT IT READS IS OF BULK AT MOST 1048576: true; the input reads as it did. -/
def jobPartsUptoRow : OpenClaim := { program := "ytifpndjpijohfaa", sum := "87f48405cf575861526ef7daa05daa91aabe0b3ca6b9f69a6a6ec4ea32d264aa", func := "signalbox/signalboxlaw17.JobParts", spec := "jobParts", apart := false, narrowed := true }
def JobPartsUptoSaid : Prop := jobPartsUptoRow.holds Try.pinned (OpenSpec.upto jobPartsSpec)

/-- 'signalboxlaw17.JobRuns', WHERE WHAT IT READS IS OF BULK AT MOST 1048576: true; the input reads as it did. -/
def jobRunsUptoRow : OpenClaim := { program := "ytifpndjpijohfaa", sum := "87f48405cf575861526ef7daa05daa91aabe0b3ca6b9f69a6a6ec4ea32d264aa", func := "signalbox/signalboxlaw17.JobRuns", spec := "jobRuns", apart := false, narrowed := true }
def JobRunsUptoSaid : Prop := jobRunsUptoRow.holds Try.pinned (OpenSpec.upto jobRunsSpec)

/-- 'signalboxlaw17.JobNone', WHERE WHAT IT READS IS OF BULK AT MOST 1048576: true; the input reads as it did. -/
def jobNoneUptoRow : OpenClaim := { program := "ytifpndjpijohfaa", sum := "87f48405cf575861526ef7daa05daa91aabe0b3ca6b9f69a6a6ec4ea32d264aa", func := "signalbox/signalboxlaw17.JobNone", spec := "jobNone", apart := false, narrowed := true }
def JobNoneUptoSaid : Prop := jobNoneUptoRow.holds Try.pinned (OpenSpec.upto jobNoneSpec)

end Rows
end Go.Proofs.Ytifpndjpijohfaa
