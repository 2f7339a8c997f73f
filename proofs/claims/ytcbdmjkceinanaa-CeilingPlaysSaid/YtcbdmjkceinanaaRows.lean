/-
  No cell of these rows narrows 'for every input' (looked for: loops, veiled, ifaces, maps, wideKeys, modest, calm, conditions, laid).
  DERIVED. THE GIVEN ROWS OF THIS SEAT. 4 by the template 'for every input the law returns true; each argument reads behind the call as it read before'; 0 by the template 'total and deterministic' (their statements: YtcbdmjkceinanaaTotals.lean).
  GIVEN WITH THE SEED: the statements are not yours to turn. If you find one false, say at which input.
  Laid BY PROGRAM, IN A SANDBOX (cutbox-rows.mjs): the forced cells as the released guide's own fill.sh prints them over the translation 7b80af99811c47e7… (all of the seat's roots in one cut). By AI agents, Wed Nov 11 2026. No macro, syntax, notation, axiom, sorry.
-/
import Derived.Test.YtcbdmjkceinanaaChecked
import GoSem.Claim
import GoSem.ClaimJoined
import GoSem.ClaimMapViews
import Derived.JoinedTies
import Derived.KernelRfl
namespace Go.Proofs.Ytcbdmjkceinanaa
/- THE CELL 'sum', in the pinned program and in every row, IS THE sha256 OF THE DUMP (.gsa) THAT YtcbdmjkceinanaaProg.lean LOADS. Nothing in Lean hashes anything: it is a label: what it is worth is what the hold of that sum in a sandbox is worth. -/
noncomputable def Try.pinned : Pinned := { name := "ytcbdmjkceinanaa", sum := "7b80af99811c47e71a323c9b87b88f2e805bd5d871823a4708057db0242eb6ac", checked := Try.checked }
namespace Rows
def none {H : Type} : Left H := { results := [], args := [] }

/-- 'signalboxlaw13.CeilingPlays': WHATEVER THE INPUT: true; the input reads as it did. -/
def ceilingPlaysSpec : ChangeSpec := { name := "ceilingPlays", fn := fun _ => fun
  | [d1, d2, d3, d4] => { results := [.lit (.bool true)], args := [d1, d2, d3, d4] }
  | _ => none }
def ceilingPlaysRow : OpenClaim := { program := "ytcbdmjkceinanaa", sum := "7b80af99811c47e71a323c9b87b88f2e805bd5d871823a4708057db0242eb6ac", func := "signalbox/signalboxlaw13.CeilingPlays", spec := "ceilingPlays", apart := false }
def CeilingPlaysSaid : Prop := ceilingPlaysRow.holds Try.pinned (OpenSpec.ofChange ceilingPlaysSpec)

/-- ITS FALSE NEIGHBOUR: 'it returns false'. Refute it at one input. -/
def ceilingPlaysWrong : ChangeSpec := { name := "ceilingPlays", fn := fun _ => fun
  | [d1, d2, d3, d4] => { results := [.lit (.bool false)], args := [d1, d2, d3, d4] }
  | _ => none }
def CeilingPlaysWrongFalsely : Prop := ceilingPlaysRow.holds Try.pinned (OpenSpec.ofChange ceilingPlaysWrong)

/-- 'signalboxlaw13.CeilingRises': WHATEVER THE INPUT: true; the input reads as it did. -/
def ceilingRisesSpec : ChangeSpec := { name := "ceilingRises", fn := fun _ => fun
  | [d1, d2, d3] => { results := [.lit (.bool true)], args := [d1, d2, d3] }
  | _ => none }
def ceilingRisesRow : OpenClaim := { program := "ytcbdmjkceinanaa", sum := "7b80af99811c47e71a323c9b87b88f2e805bd5d871823a4708057db0242eb6ac", func := "signalbox/signalboxlaw13.CeilingRises", spec := "ceilingRises", apart := false }
def CeilingRisesSaid : Prop := ceilingRisesRow.holds Try.pinned (OpenSpec.ofChange ceilingRisesSpec)

/-- ITS FALSE NEIGHBOUR: 'it returns false'. Refute it at one input. -/
def ceilingRisesWrong : ChangeSpec := { name := "ceilingRises", fn := fun _ => fun
  | [d1, d2, d3] => { results := [.lit (.bool false)], args := [d1, d2, d3] }
  | _ => none }
def CeilingRisesWrongFalsely : Prop := ceilingRisesRow.holds Try.pinned (OpenSpec.ofChange ceilingRisesWrong)

/-- 'signalboxlaw14.LinesPlay': WHATEVER THE INPUT: true; the input reads as it did. -/
def linesPlaySpec : ChangeSpec := { name := "linesPlay", fn := fun _ => fun
  | [d1, d2] => { results := [.lit (.bool true)], args := [d1, d2] }
  | _ => none }
def linesPlayRow : OpenClaim := { program := "ytcbdmjkceinanaa", sum := "7b80af99811c47e71a323c9b87b88f2e805bd5d871823a4708057db0242eb6ac", func := "signalbox/signalboxlaw14.LinesPlay", spec := "linesPlay", apart := false }
def LinesPlaySaid : Prop := linesPlayRow.holds Try.pinned (OpenSpec.ofChange linesPlaySpec)

/-- ITS FALSE NEIGHBOUR: 'it returns false'. Refute it at one input. -/
def linesPlayWrong : ChangeSpec := { name := "linesPlay", fn := fun _ => fun
  | [d1, d2] => { results := [.lit (.bool false)], args := [d1, d2] }
  | _ => none }
def LinesPlayWrongFalsely : Prop := linesPlayRow.holds Try.pinned (OpenSpec.ofChange linesPlayWrong)

/-- 'signalboxlaw14.LinesOnce': WHATEVER THE INPUT: true; the input reads as it did. -/
def linesOnceSpec : ChangeSpec := { name := "linesOnce", fn := fun _ => fun
  | [d1, d2] => { results := [.lit (.bool true)], args := [d1, d2] }
  | _ => none }
def linesOnceRow : OpenClaim := { program := "ytcbdmjkceinanaa", sum := "7b80af99811c47e71a323c9b87b88f2e805bd5d871823a4708057db0242eb6ac", func := "signalbox/signalboxlaw14.LinesOnce", spec := "linesOnce", apart := false }
def LinesOnceSaid : Prop := linesOnceRow.holds Try.pinned (OpenSpec.ofChange linesOnceSpec)

/-- ITS FALSE NEIGHBOUR: 'it returns false'. Refute it at one input. -/
def linesOnceWrong : ChangeSpec := { name := "linesOnce", fn := fun _ => fun
  | [d1, d2] => { results := [.lit (.bool false)], args := [d1, d2] }
  | _ => none }
def LinesOnceWrongFalsely : Prop := linesOnceRow.holds Try.pinned (OpenSpec.ofChange linesOnceWrong)

/- THE SECOND FORM. 'bulk': how many values and letters a reading holds, each counted each time it is reached (what is shared counts as often as it is met; a slice's spare places count too). A statement '..UptoSaid' is the law's where the arguments, and the package variables that the reading takes, are together of bulk at most 1048576: NARROWER than '..Said'. Prove '..Said' where nothing that the law and all that it calls make is longer than what came in: it says more and counts as full. Else prove '..UptoSaid'. A law counts once. -/
mutual
def uptoBulk {H : Type} : DataW H → Nat
  | .lit (.string bytes) => bytes.length + 1
  | .lit _ => 1
  | .nil => 1
  | .ptr d => uptoBulk d + 1
  | .slice elems spare => uptoBulkAll elems + uptoBulkAll spare + 1
  | .agg parts => uptoBulkAll parts + 1
  | .iface _ d => uptoBulk d + 1
  | .map entries => uptoBulkEntries entries + 1
  | .held _ => 1
def uptoBulkAll {H : Type} : List (DataW H) → Nat
  | [] => 0
  | d :: r => uptoBulk d + uptoBulkAll r
def uptoBulkEntries {H : Type} : List (Lit × DataW H) → Nat
  | [] => 0
  | x :: r => uptoBulkEntry x + uptoBulkEntries r
def uptoBulkEntry {H : Type} : Lit × DataW H → Nat
  | (.string bytes, d) => bytes.length + uptoBulk d + 1
  | (_, d) => uptoBulk d + 1
 end
def uptoSmall : (H : Type) → List (DataW H) → Bool := fun _ ds => decide (uptoBulkAll ds ≤ 1048576)
def OpenSpec.upto (s : _root_.Go.ChangeSpec) : _root_.Go.OpenSpec := { _root_.Go.OpenSpec.ofChange s with cond := some uptoSmall }

/-- 'signalboxlaw13.CeilingPlays', WHERE WHAT IT READS IS OF BULK AT MOST 1048576: true; the input reads as it did. -/
def ceilingPlaysUptoRow : OpenClaim := { program := "ytcbdmjkceinanaa", sum := "7b80af99811c47e71a323c9b87b88f2e805bd5d871823a4708057db0242eb6ac", func := "signalbox/signalboxlaw13.CeilingPlays", spec := "ceilingPlays", apart := false, narrowed := true }
def CeilingPlaysUptoSaid : Prop := ceilingPlaysUptoRow.holds Try.pinned (OpenSpec.upto ceilingPlaysSpec)

/-- 'signalboxlaw13.CeilingRises', WHERE WHAT IT READS IS OF BULK AT MOST 1048576: true; the input reads as it did. -/
def ceilingRisesUptoRow : OpenClaim := { program := "ytcbdmjkceinanaa", sum := "7b80af99811c47e71a323c9b87b88f2e805bd5d871823a4708057db0242eb6ac", func := "signalbox/signalboxlaw13.CeilingRises", spec := "ceilingRises", apart := false, narrowed := true }
def CeilingRisesUptoSaid : Prop := ceilingRisesUptoRow.holds Try.pinned (OpenSpec.upto ceilingRisesSpec)

/-- 'signalboxlaw14.LinesPlay', WHERE WHAT IT READS IS OF BULK AT MOST 1048576: true; the input reads as it did. -/
def linesPlayUptoRow : OpenClaim := { program := "ytcbdmjkceinanaa", sum := "7b80af99811c47e71a323c9b87b88f2e805bd5d871823a4708057db0242eb6ac", func := "signalbox/signalboxlaw14.LinesPlay", spec := "linesPlay", apart := false, narrowed := true }
def LinesPlayUptoSaid : Prop := linesPlayUptoRow.holds Try.pinned (OpenSpec.upto linesPlaySpec)

/-- 'signalboxlaw14.LinesOnce', WHERE WHAT IT READS IS OF BULK AT MOST 1048576: true; the input reads as it did. -/
def linesOnceUptoRow : OpenClaim := { program := "ytcbdmjkceinanaa", sum := "7b80af99811c47e71a323c9b87b88f2e805bd5d871823a4708057db0242eb6ac", func := "signalbox/signalboxlaw14.LinesOnce", spec := "linesOnce", apart := false, narrowed := true }
def LinesOnceUptoSaid : Prop := linesOnceUptoRow.holds Try.pinned (OpenSpec.upto linesOnceSpec)

end Rows
end Go.Proofs.Ytcbdmjkceinanaa
