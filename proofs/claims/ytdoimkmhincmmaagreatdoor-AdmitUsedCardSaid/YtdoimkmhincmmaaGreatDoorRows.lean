/-
  NARROWER THAN 'FOR EVERY INPUT', by the rows' own cells (each row's printed sentence says how): AdmitTells: laid · AdmitUsed: laid.
  DERIVED. THE GIVEN ROWS OF THIS SEAT. 2 by the template 'for every input the law returns true; each argument reads behind the call as it read before'; 0 by the template 'total and deterministic' (their statements: YtdoimkmhincmmaaGreatDoorTotals.lean).
  GIVEN WITH THE SEED: the statements are not yours to turn. If you find one false, say at which input.
  Laid BY PROGRAM, IN A SANDBOX (cutbox-rows.mjs): the forced cells as the released guide's own fill.sh prints them over the translation 00ce17a9c7048dcb… (all of the seat's roots in one cut). By AI agents, Wed Nov 11 2026. No macro, syntax, notation, axiom, sorry.
-/
import Derived.Test.YtdoimkmhincmmaaGreatDoorChecked
import GoSem.Claim
import GoSem.ClaimJoined
import GoSem.ClaimMapViews
import Derived.JoinedTies
import Derived.KernelRfl
namespace Go.Proofs.YtdoimkmhincmmaaGreatDoor
/- THE CELL 'sum', in the pinned program and in every row, IS THE sha256 OF THE DUMP (.gsa) THAT YtdoimkmhincmmaaGreatDoorProg.lean LOADS. Nothing in Lean hashes anything: it is a label: what it is worth is what the hold of that sum in a sandbox is worth. -/
noncomputable def Tryz.pinned : Pinned := { name := "ytdoimkmhincmmaagreatdoor", sum := "00ce17a9c7048dcb3db9815ac940a1ae5a7daace09152534e7bab4abfee79db6", checked := Tryz.checked }
namespace Rows
def none {H : Type} : Left H := { results := [], args := [] }

/- WHAT THE LISTED PACKAGE-LEVEL VARIABLES READ AS WHEN THE CALL BEGINS. Each datum BY PROGRAM (the guide's laid-datum.mjs) off the statement by which the dump's own 'gosem.cut.vars' lays the variable. In a bare row this is a premise. The card (YtdoimkmhincmmaaGreatDoorCards.lean) ties it to the program's text. -/
def laid_signalbox_prog_words {H : Type} : DataW H := .agg [.agg [.lit (.string []), .lit (.int .i64 0)], .agg [.lit (.string [99, 111, 109, 112, 117, 116, 101]), .lit (.int .i64 1)], .agg [.lit (.string [97, 99, 99, 101, 115, 115]), .lit (.int .i64 1)], .agg [.lit (.string [101, 110, 116, 101, 114]), .lit (.int .i64 0)], .agg [.lit (.string [101, 120, 105, 116]), .lit (.int .i64 0)], .agg [.lit (.string [108, 111, 99, 107]), .lit (.int .i64 1)], .agg [.lit (.string [117, 110, 108, 111, 99, 107]), .lit (.int .i64 1)], .agg [.lit (.string [112, 117, 115, 104]), .lit (.int .i64 1)], .agg [.lit (.string [112, 111, 112]), .lit (.int .i64 1)], .agg [.lit (.string [115, 101, 110, 100]), .lit (.int .i64 2)], .agg [.lit (.string [114, 101, 99, 118]), .lit (.int .i64 1)], .agg [.lit (.string [115, 101, 116]), .lit (.int .i64 2)], .agg [.lit (.string [99, 108, 101, 97, 114]), .lit (.int .i64 2)], .agg [.lit (.string [116, 101, 115, 116]), .lit (.int .i64 2)], .agg [.lit (.string [103, 105, 118, 101]), .lit (.int .i64 1)], .agg [.lit (.string [116, 97, 107, 101]), .lit (.int .i64 1)]]

/-- 'signalboxlaw28.AdmitTells': WHATEVER THE INPUT: true; the input reads as it did. -/
def admitTellsSpec : ChangeSpec := { name := "admitTells", fn := fun _ => fun
  | [d] => { results := [.lit (.bool true)], args := [d] }
  | _ => none }
def admitTellsRow : OpenClaim := { program := "ytdoimkmhincmmaagreatdoor", sum := "00ce17a9c7048dcb3db9815ac940a1ae5a7daace09152534e7bab4abfee79db6", func := "signalbox/signalboxlaw28.AdmitTells", spec := "admitTells", unfollowed := true, recurses := true, named := ["signalbox/prog.words"], apart := false, laid := [("signalbox/prog.words", laid_signalbox_prog_words)] }
def AdmitTellsSaid : Prop := admitTellsRow.holds Tryz.pinned (OpenSpec.ofChange admitTellsSpec)

/-- ITS FALSE NEIGHBOUR: 'it returns false'. Refute it at one input. -/
def admitTellsWrong : ChangeSpec := { name := "admitTells", fn := fun _ => fun
  | [d] => { results := [.lit (.bool false)], args := [d] }
  | _ => none }
def AdmitTellsWrongFalsely : Prop := admitTellsRow.holds Tryz.pinned (OpenSpec.ofChange admitTellsWrong)

/-- 'signalboxlaw28.AdmitUsed': WHATEVER THE INPUT: true; the input reads as it did. -/
def admitUsedSpec : ChangeSpec := { name := "admitUsed", fn := fun _ => fun
  | [d] => { results := [.lit (.bool true)], args := [d] }
  | _ => none }
def admitUsedRow : OpenClaim := { program := "ytdoimkmhincmmaagreatdoor", sum := "00ce17a9c7048dcb3db9815ac940a1ae5a7daace09152534e7bab4abfee79db6", func := "signalbox/signalboxlaw28.AdmitUsed", spec := "admitUsed", unfollowed := true, recurses := true, named := ["signalbox/prog.words"], apart := false, laid := [("signalbox/prog.words", laid_signalbox_prog_words)] }
def AdmitUsedSaid : Prop := admitUsedRow.holds Tryz.pinned (OpenSpec.ofChange admitUsedSpec)

/-- ITS FALSE NEIGHBOUR: 'it returns false'. Refute it at one input. -/
def admitUsedWrong : ChangeSpec := { name := "admitUsed", fn := fun _ => fun
  | [d] => { results := [.lit (.bool false)], args := [d] }
  | _ => none }
def AdmitUsedWrongFalsely : Prop := admitUsedRow.holds Tryz.pinned (OpenSpec.ofChange admitUsedWrong)

/- THE SECOND FORM. 'bulk': how many values and letters a reading holds, each counted each time it is reached (what is shared counts as often as it is met; a slice's spare places count too). A statement '..UptoSaid' is the law's where the arguments, and the package variables that the reading takes, are together of bulk at most 1048576: NARROWER than '..Said'. Prove '..Said' where nothing that the law and all that it calls make is longer than what came in: it says more and counts as full. Else prove '..UptoSaid'. A law counts once. -/
mutual
def uptoBulk {H : Type} : DataW H → Nat
  | .lit (.string bytes) => bytes.length + 1
  | .lit _ => 1
  | .nil => 1
  | .ptr d => uptoBulk d + 1
  | .slice elems spare => uptoBulkAll elems + uptoBulkAll spare + 1
  | .agg parts => uptoBulkAll parts + 1
  | .iface _ d => uptoBulk d + 1
  | .map entries => uptoBulkEntries entries + 1
  | .held _ => 1
def uptoBulkAll {H : Type} : List (DataW H) → Nat
  | [] => 0
  | d :: r => uptoBulk d + uptoBulkAll r
def uptoBulkEntries {H : Type} : List (Lit × DataW H) → Nat
  | [] => 0
  | x :: r => uptoBulkEntry x + uptoBulkEntries r
def uptoBulkEntry {H : Type} : Lit × DataW H → Nat
  | (.string bytes, d) => bytes.length + uptoBulk d + 1
  | (_, d) => uptoBulk d + 1
 end
def uptoSmall : (H : Type) → List (DataW H) → Bool := fun _ ds => decide (uptoBulkAll ds ≤ 1048576)
def OpenSpec.upto (s : _root_.Go.ChangeSpec) : _root_.Go.OpenSpec := { _root_.Go.OpenSpec.ofChange s with cond := some uptoSmall }

/-- 'signalboxlaw28.AdmitTells', WHERE WHAT IT READS IS OF BULK AT MOST 1048576: true; the input reads as it did. -/
def admitTellsUptoRow : OpenClaim := { program := "ytdoimkmhincmmaagreatdoor", sum := "00ce17a9c7048dcb3db9815ac940a1ae5a7daace09152534e7bab4abfee79db6", func := "signalbox/signalboxlaw28.AdmitTells", spec := "admitTells", unfollowed := true, recurses := true, named := ["signalbox/prog.words"], apart := false, laid := [("signalbox/prog.words", laid_signalbox_prog_words)], narrowed := true }
def AdmitTellsUptoSaid : Prop := admitTellsUptoRow.holds Tryz.pinned (OpenSpec.upto admitTellsSpec)

/-- 'signalboxlaw28.AdmitUsed', WHERE WHAT IT READS IS OF BULK AT MOST 1048576: true; the input reads as it did. -/
def admitUsedUptoRow : OpenClaim := { program := "ytdoimkmhincmmaagreatdoor", sum := "00ce17a9c7048dcb3db9815ac940a1ae5a7daace09152534e7bab4abfee79db6", func := "signalbox/signalboxlaw28.AdmitUsed", spec := "admitUsed", unfollowed := true, recurses := true, named := ["signalbox/prog.words"], apart := false, laid := [("signalbox/prog.words", laid_signalbox_prog_words)], narrowed := true }
def AdmitUsedUptoSaid : Prop := admitUsedUptoRow.holds Tryz.pinned (OpenSpec.upto admitUsedSpec)

end Rows
end Go.Proofs.YtdoimkmhincmmaaGreatDoor
