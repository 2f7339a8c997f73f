/-
  No cell of these rows narrows 'for every input' (looked for: loops, veiled, ifaces, maps, wideKeys, modest, calm, conditions, laid).
  DERIVED. THE GIVEN ROWS OF THIS SEAT. 7 by the template 'for every input the law returns true; each argument reads behind the call as it read before'; 0 by the template 'total and deterministic' (their statements: YtkolbaadakhciaaTotals.lean).
  GIVEN WITH THE SEED: the statements are not yours to turn. If you find one false, say at which input.
  Laid BY PROGRAM, IN A SANDBOX (cutbox-rows.mjs): the forced cells as the released guide's own fill.sh prints them over the translation c5092aad257655f8… (all of the seat's roots in one cut). By AI agents, Wed Nov 11 2026. No macro, syntax, notation, axiom, sorry.
-/
import Derived.Test.YtkolbaadakhciaaChecked
import GoSem.Claim
import GoSem.ClaimJoined
import GoSem.ClaimMapViews
import Derived.JoinedTies
import Derived.KernelRfl
namespace Go.Proofs.Ytkolbaadakhciaa
/- THE CELL 'sum', in the pinned program and in every row, IS THE sha256 OF THE DUMP (.gsa) THAT YtkolbaadakhciaaProg.lean LOADS. Nothing in Lean hashes anything: it is a label: what it is worth is what the hold of that sum in a sandbox is worth. -/
noncomputable def Try.pinned : Pinned := { name := "ytkolbaadakhciaa", sum := "c5092aad257655f841215637c2466f932eff9fa3c0db6d6db75cf6f9e62da406", checked := Try.checked }
namespace Rows
def none {H : Type} : Left H := { results := [], args := [] }

/-- 'signalboxlaw32.HyperTells': WHATEVER THE INPUT: true; the input reads as it did. -/
def hyperTellsSpec : ChangeSpec := { name := "hyperTells", fn := fun _ => fun
  | [d1, d2, d3] => { results := [.lit (.bool true)], args := [d1, d2, d3] }
  | _ => none }
def hyperTellsRow : OpenClaim := { program := "ytkolbaadakhciaa", sum := "c5092aad257655f841215637c2466f932eff9fa3c0db6d6db75cf6f9e62da406", func := "signalbox/signalboxlaw32.HyperTells", spec := "hyperTells", apart := false }
def HyperTellsSaid : Prop := hyperTellsRow.holds Try.pinned (OpenSpec.ofChange hyperTellsSpec)

/-- ITS FALSE NEIGHBOUR: 'it returns false'. Refute it at one input. -/
def hyperTellsWrong : ChangeSpec := { name := "hyperTells", fn := fun _ => fun
  | [d1, d2, d3] => { results := [.lit (.bool false)], args := [d1, d2, d3] }
  | _ => none }
def HyperTellsWrongFalsely : Prop := hyperTellsRow.holds Try.pinned (OpenSpec.ofChange hyperTellsWrong)

/-- 'signalboxlaw32.HyperShares': WHATEVER THE INPUT: true; the input reads as it did. -/
def hyperSharesSpec : ChangeSpec := { name := "hyperShares", fn := fun _ => fun
  | [d1, d2] => { results := [.lit (.bool true)], args := [d1, d2] }
  | _ => none }
def hyperSharesRow : OpenClaim := { program := "ytkolbaadakhciaa", sum := "c5092aad257655f841215637c2466f932eff9fa3c0db6d6db75cf6f9e62da406", func := "signalbox/signalboxlaw32.HyperShares", spec := "hyperShares", recurses := true, apart := false }
def HyperSharesSaid : Prop := hyperSharesRow.holds Try.pinned (OpenSpec.ofChange hyperSharesSpec)

/-- ITS FALSE NEIGHBOUR: 'it returns false'. Refute it at one input. -/
def hyperSharesWrong : ChangeSpec := { name := "hyperShares", fn := fun _ => fun
  | [d1, d2] => { results := [.lit (.bool false)], args := [d1, d2] }
  | _ => none }
def HyperSharesWrongFalsely : Prop := hyperSharesRow.holds Try.pinned (OpenSpec.ofChange hyperSharesWrong)

/-- 'signalboxlaw32.HyperDivides': WHATEVER THE INPUT: true; the input reads as it did. -/
def hyperDividesSpec : ChangeSpec := { name := "hyperDivides", fn := fun _ => fun
  | [d1, d2] => { results := [.lit (.bool true)], args := [d1, d2] }
  | _ => none }
def hyperDividesRow : OpenClaim := { program := "ytkolbaadakhciaa", sum := "c5092aad257655f841215637c2466f932eff9fa3c0db6d6db75cf6f9e62da406", func := "signalbox/signalboxlaw32.HyperDivides", spec := "hyperDivides", apart := false }
def HyperDividesSaid : Prop := hyperDividesRow.holds Try.pinned (OpenSpec.ofChange hyperDividesSpec)

/-- ITS FALSE NEIGHBOUR: 'it returns false'. Refute it at one input. -/
def hyperDividesWrong : ChangeSpec := { name := "hyperDivides", fn := fun _ => fun
  | [d1, d2] => { results := [.lit (.bool false)], args := [d1, d2] }
  | _ => none }
def HyperDividesWrongFalsely : Prop := hyperDividesRow.holds Try.pinned (OpenSpec.ofChange hyperDividesWrong)

/-- 'signalboxlaw32.HyperOrders': WHATEVER THE INPUT: true; the input reads as it did. -/
def hyperOrdersSpec : ChangeSpec := { name := "hyperOrders", fn := fun _ => fun
  | [d1, d2, d3] => { results := [.lit (.bool true)], args := [d1, d2, d3] }
  | _ => none }
def hyperOrdersRow : OpenClaim := { program := "ytkolbaadakhciaa", sum := "c5092aad257655f841215637c2466f932eff9fa3c0db6d6db75cf6f9e62da406", func := "signalbox/signalboxlaw32.HyperOrders", spec := "hyperOrders", apart := false }
def HyperOrdersSaid : Prop := hyperOrdersRow.holds Try.pinned (OpenSpec.ofChange hyperOrdersSpec)

/-- ITS FALSE NEIGHBOUR: 'it returns false'. Refute it at one input. -/
def hyperOrdersWrong : ChangeSpec := { name := "hyperOrders", fn := fun _ => fun
  | [d1, d2, d3] => { results := [.lit (.bool false)], args := [d1, d2, d3] }
  | _ => none }
def HyperOrdersWrongFalsely : Prop := hyperOrdersRow.holds Try.pinned (OpenSpec.ofChange hyperOrdersWrong)

/-- 'signalboxlaw33.EdfRuns': WHATEVER THE INPUT: true; the input reads as it did. -/
def edfRunsSpec : ChangeSpec := { name := "edfRuns", fn := fun _ => fun
  | [d1, d2] => { results := [.lit (.bool true)], args := [d1, d2] }
  | _ => none }
def edfRunsRow : OpenClaim := { program := "ytkolbaadakhciaa", sum := "c5092aad257655f841215637c2466f932eff9fa3c0db6d6db75cf6f9e62da406", func := "signalbox/signalboxlaw33.EdfRuns", spec := "edfRuns", unfollowed := true, recurses := true, apart := false }
def EdfRunsSaid : Prop := edfRunsRow.holds Try.pinned (OpenSpec.ofChange edfRunsSpec)

/-- ITS FALSE NEIGHBOUR: 'it returns false'. Refute it at one input. -/
def edfRunsWrong : ChangeSpec := { name := "edfRuns", fn := fun _ => fun
  | [d1, d2] => { results := [.lit (.bool false)], args := [d1, d2] }
  | _ => none }
def EdfRunsWrongFalsely : Prop := edfRunsRow.holds Try.pinned (OpenSpec.ofChange edfRunsWrong)

/-- 'signalboxlaw33.EdfBest': WHATEVER THE INPUT: true; the input reads as it did. -/
def edfBestSpec : ChangeSpec := { name := "edfBest", fn := fun _ => fun
  | [d1, d2, d3] => { results := [.lit (.bool true)], args := [d1, d2, d3] }
  | _ => none }
def edfBestRow : OpenClaim := { program := "ytkolbaadakhciaa", sum := "c5092aad257655f841215637c2466f932eff9fa3c0db6d6db75cf6f9e62da406", func := "signalbox/signalboxlaw33.EdfBest", spec := "edfBest", unfollowed := true, recurses := true, apart := false }
def EdfBestSaid : Prop := edfBestRow.holds Try.pinned (OpenSpec.ofChange edfBestSpec)

/-- ITS FALSE NEIGHBOUR: 'it returns false'. Refute it at one input. -/
def edfBestWrong : ChangeSpec := { name := "edfBest", fn := fun _ => fun
  | [d1, d2, d3] => { results := [.lit (.bool false)], args := [d1, d2, d3] }
  | _ => none }
def EdfBestWrongFalsely : Prop := edfBestRow.holds Try.pinned (OpenSpec.ofChange edfBestWrong)

/-- 'signalboxlaw33.EdfFits': WHATEVER THE INPUT: true; the input reads as it did. -/
def edfFitsSpec : ChangeSpec := { name := "edfFits", fn := fun _ => fun
  | [d1, d2] => { results := [.lit (.bool true)], args := [d1, d2] }
  | _ => none }
def edfFitsRow : OpenClaim := { program := "ytkolbaadakhciaa", sum := "c5092aad257655f841215637c2466f932eff9fa3c0db6d6db75cf6f9e62da406", func := "signalbox/signalboxlaw33.EdfFits", spec := "edfFits", unfollowed := true, recurses := true, apart := false }
def EdfFitsSaid : Prop := edfFitsRow.holds Try.pinned (OpenSpec.ofChange edfFitsSpec)

/-- ITS FALSE NEIGHBOUR: 'it returns false'. Refute it at one input. -/
def edfFitsWrong : ChangeSpec := { name := "edfFits", fn := fun _ => fun
  | [d1, d2] => { results := [.lit (.bool false)], args := [d1, d2] }
  | _ => none }
def EdfFitsWrongFalsely : Prop := edfFitsRow.holds Try.pinned (OpenSpec.ofChange edfFitsWrong)

/- THE SECOND FORM. 'bulk': how many values and letters a reading holds, each counted each time it is reached (what is shared counts as often as it is met; a slice's spare places count too). A statement '..UptoSaid' is the law's where the arguments, and the package variables that the reading takes, are together of bulk at most 1048576: NARROWER than '..Said'. Prove '..Said' where nothing that the law and all that it calls make is longer than what came in: it says more and counts as full. Else prove '..UptoSaid'. A law counts once. -/
mutual
def uptoBulk {H : Type} : DataW H → Nat
  | .lit (.string bytes) => bytes.length + 1
  | .lit _ => 1
  | .nil => 1
  | .ptr d => uptoBulk d + 1
  | .slice elems spare => uptoBulkAll elems + uptoBulkAll spare + 1
  | .agg parts => uptoBulkAll parts + 1
  | .iface _ d => uptoBulk d + 1
  | .map entries => uptoBulkEntries entries + 1
  | .held _ => 1
def uptoBulkAll {H : Type} : List (DataW H) → Nat
  | [] => 0
  | d :: r => uptoBulk d + uptoBulkAll r
def uptoBulkEntries {H : Type} : List (Lit × DataW H) → Nat
  | [] => 0
  | x :: r => uptoBulkEntry x + uptoBulkEntries r
def uptoBulkEntry {H : Type} : Lit × DataW H → Nat
  | (.string bytes, d) => bytes.length + uptoBulk d + 1
  | (_, d) => uptoBulk d + 1
 end
def uptoSmall : (H : Type) → List (DataW H) → Bool := fun _ ds => decide (uptoBulkAll ds ≤ 1048576)
def OpenSpec.upto (s : _root_.Go.ChangeSpec) : _root_.Go.OpenSpec := { _root_.Go.OpenSpec.ofChange s with cond := some uptoSmall }

/-- 'signalboxlaw32.HyperTells', WHERE WHAT IT READS IS OF BULK AT MOST 1048576: true; the input reads as it did. -/
def hyperTellsUptoRow : OpenClaim := { program := "ytkolbaadakhciaa", sum := "c5092aad257655f841215637c2466f932eff9fa3c0db6d6db75cf6f9e62da406", func := "signalbox/signalboxlaw32.HyperTells", spec := "hyperTells", apart := false, narrowed := true }
def HyperTellsUptoSaid : Prop := hyperTellsUptoRow.holds Try.pinned (OpenSpec.upto hyperTellsSpec)

/-- 'signalboxlaw32.HyperShares', WHERE WHAT IT READS IS OF BULK AT MOST 1048576: true; the input reads as it did. -/
def hyperSharesUptoRow : OpenClaim := { program := "ytkolbaadakhciaa", sum := "c5092aad257655f841215637c2466f932eff9fa3c0db6d6db75cf6f9e62da406", func := "signalbox/signalboxlaw32.HyperShares", spec := "hyperShares", recurses := true, apart := false, narrowed := true }
def HyperSharesUptoSaid : Prop := hyperSharesUptoRow.holds Try.pinned (OpenSpec.upto hyperSharesSpec)

/-- 'signalboxlaw32.HyperDivides', WHERE WHAT IT READS IS OF BULK AT MOST 1048576: true; the input reads as it did. -/
def hyperDividesUptoRow : OpenClaim := { program := "ytkolbaadakhciaa", sum := "c5092aad257655f841215637c2466f932eff9fa3c0db6d6db75cf6f9e62da406", func := "signalbox/signalboxlaw32.HyperDivides", spec := "hyperDivides", apart := false, narrowed := true }
def HyperDividesUptoSaid : Prop := hyperDividesUptoRow.holds Try.pinned (OpenSpec.upto hyperDividesSpec)

/-- 'signalboxlaw32.HyperOrders', WHERE WHAT IT READS IS OF BULK AT MOST 1048576: true; the input reads as it did. -/
def hyperOrdersUptoRow : OpenClaim := { program := "ytkolbaadakhciaa", sum := "c5092aad257655f841215637c2466f932eff9fa3c0db6d6db75cf6f9e62da406", func := "signalbox/signalboxlaw32.HyperOrders", spec := "hyperOrders", apart := false, narrowed := true }
def HyperOrdersUptoSaid : Prop := hyperOrdersUptoRow.holds Try.pinned (OpenSpec.upto hyperOrdersSpec)

/-- 'signalboxlaw33.EdfRuns', WHERE WHAT IT READS IS OF BULK AT MOST 1048576: true; the input reads as it did. -/
def edfRunsUptoRow : OpenClaim := { program := "ytkolbaadakhciaa", sum := "c5092aad257655f841215637c2466f932eff9fa3c0db6d6db75cf6f9e62da406", func := "signalbox/signalboxlaw33.EdfRuns", spec := "edfRuns", unfollowed := true, recurses := true, apart := false, narrowed := true }
def EdfRunsUptoSaid : Prop := edfRunsUptoRow.holds Try.pinned (OpenSpec.upto edfRunsSpec)

/-- 'signalboxlaw33.EdfBest', WHERE WHAT IT READS IS OF BULK AT MOST 1048576: true; the input reads as it did. -/
def edfBestUptoRow : OpenClaim := { program := "ytkolbaadakhciaa", sum := "c5092aad257655f841215637c2466f932eff9fa3c0db6d6db75cf6f9e62da406", func := "signalbox/signalboxlaw33.EdfBest", spec := "edfBest", unfollowed := true, recurses := true, apart := false, narrowed := true }
def EdfBestUptoSaid : Prop := edfBestUptoRow.holds Try.pinned (OpenSpec.upto edfBestSpec)

/-- 'signalboxlaw33.EdfFits', WHERE WHAT IT READS IS OF BULK AT MOST 1048576: true; the input reads as it did. -/
def edfFitsUptoRow : OpenClaim := { program := "ytkolbaadakhciaa", sum := "c5092aad257655f841215637c2466f932eff9fa3c0db6d6db75cf6f9e62da406", func := "signalbox/signalboxlaw33.EdfFits", spec := "edfFits", unfollowed := true, recurses := true, apart := false, narrowed := true }
def EdfFitsUptoSaid : Prop := edfFitsUptoRow.holds Try.pinned (OpenSpec.upto edfFitsSpec)

end Rows
end Go.Proofs.Ytkolbaadakhciaa
