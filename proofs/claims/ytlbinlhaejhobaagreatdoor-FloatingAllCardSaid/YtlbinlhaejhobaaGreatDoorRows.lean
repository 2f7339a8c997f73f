/-
  NARROWER THAN 'FOR EVERY INPUT', by the rows' own cells (each row's printed sentence says how): AdmitTells: laid · AssignPasses: laid · AssignNone: laid · AssignMost: laid · AssignLower: laid · FloatingMost: laid · FloatingAll: laid.
  DERIVED. THE GIVEN ROWS OF THIS SEAT. 7 by the template 'for every input the law returns true; each argument reads behind the call as it read before'; 0 by the template 'total and deterministic' (their statements: YtlbinlhaejhobaaGreatDoorTotals.lean).
  GIVEN WITH THE SEED: the statements are not yours to turn. If you find one false, say at which input.
  Laid BY PROGRAM, IN A SANDBOX (cutbox-rows.mjs): the forced cells as the released guide's own fill.sh prints them over the translation 69a5110ec0ca8089… (all of the seat's roots in one cut). By AI agents, Wed Nov 11 2026. No macro, syntax, notation, axiom, sorry.
-/
import Derived.Test.YtlbinlhaejhobaaGreatDoorChecked
import GoSem.Claim
import GoSem.ClaimJoined
import GoSem.ClaimMapViews
import Derived.JoinedTies
import Derived.KernelRfl
namespace Go.Proofs.YtlbinlhaejhobaaGreatDoor
/- THE CELL 'sum', in the pinned program and in every row, IS THE sha256 OF THE DUMP (.gsa) THAT YtlbinlhaejhobaaGreatDoorProg.lean LOADS. Nothing in Lean hashes anything: it is a label: what it is worth is what the hold of that sum in a sandbox is worth. -/
noncomputable def Tryz.pinned : Pinned := { name := "ytlbinlhaejhobaagreatdoor", sum := "69a5110ec0ca8089828d3cd97acf4ea23d02c5ea2f9ec230bca94cdb960fe74f", checked := Tryz.checked }
namespace Rows
def none {H : Type} : Left H := { results := [], args := [] }

/- WHAT THE LISTED PACKAGE-LEVEL VARIABLES READ AS WHEN THE CALL BEGINS. Each datum BY PROGRAM (the guide's laid-datum.mjs) off the statement by which the dump's own 'gosem.cut.vars' lays the variable. In a bare row this is a premise. The card (YtlbinlhaejhobaaGreatDoorCards.lean) ties it to the program's text. -/
def laid_signalbox_prog_words {H : Type} : DataW H := .agg [.agg [.lit (.string []), .lit (.int .i64 0)], .agg [.lit (.string [99, 111, 109, 112, 117, 116, 101]), .lit (.int .i64 1)], .agg [.lit (.string [97, 99, 99, 101, 115, 115]), .lit (.int .i64 1)], .agg [.lit (.string [101, 110, 116, 101, 114]), .lit (.int .i64 0)], .agg [.lit (.string [101, 120, 105, 116]), .lit (.int .i64 0)], .agg [.lit (.string [108, 111, 99, 107]), .lit (.int .i64 1)], .agg [.lit (.string [117, 110, 108, 111, 99, 107]), .lit (.int .i64 1)], .agg [.lit (.string [112, 117, 115, 104]), .lit (.int .i64 1)], .agg [.lit (.string [112, 111, 112]), .lit (.int .i64 1)], .agg [.lit (.string [115, 101, 110, 100]), .lit (.int .i64 2)], .agg [.lit (.string [114, 101, 99, 118]), .lit (.int .i64 1)], .agg [.lit (.string [115, 101, 116]), .lit (.int .i64 2)], .agg [.lit (.string [99, 108, 101, 97, 114]), .lit (.int .i64 2)], .agg [.lit (.string [116, 101, 115, 116]), .lit (.int .i64 2)], .agg [.lit (.string [103, 105, 118, 101]), .lit (.int .i64 1)], .agg [.lit (.string [116, 97, 107, 101]), .lit (.int .i64 1)]]

/-- 'signalboxlaw28.AdmitTells': WHATEVER THE INPUT: true; the input reads as it did. -/
def admitTellsSpec : ChangeSpec := { name := "admitTells", fn := fun _ => fun
  | [d] => { results := [.lit (.bool true)], args := [d] }
  | _ => none }
def admitTellsRow : OpenClaim := { program := "ytlbinlhaejhobaagreatdoor", sum := "69a5110ec0ca8089828d3cd97acf4ea23d02c5ea2f9ec230bca94cdb960fe74f", func := "signalbox/signalboxlaw28.AdmitTells", spec := "admitTells", unfollowed := true, recurses := true, named := ["signalbox/prog.words"], apart := false, laid := [("signalbox/prog.words", laid_signalbox_prog_words)] }
def AdmitTellsSaid : Prop := admitTellsRow.holds Tryz.pinned (OpenSpec.ofChange admitTellsSpec)

/-- ITS FALSE NEIGHBOUR: 'it returns false'. Refute it at one input. -/
def admitTellsWrong : ChangeSpec := { name := "admitTells", fn := fun _ => fun
  | [d] => { results := [.lit (.bool false)], args := [d] }
  | _ => none }
def AdmitTellsWrongFalsely : Prop := admitTellsRow.holds Tryz.pinned (OpenSpec.ofChange admitTellsWrong)

/-- 'signalboxlaw29.AssignPasses': WHATEVER THE INPUT: true; the input reads as it did. -/
def assignPassesSpec : ChangeSpec := { name := "assignPasses", fn := fun _ => fun
  | [d1, d2] => { results := [.lit (.bool true)], args := [d1, d2] }
  | _ => none }
def assignPassesRow : OpenClaim := { program := "ytlbinlhaejhobaagreatdoor", sum := "69a5110ec0ca8089828d3cd97acf4ea23d02c5ea2f9ec230bca94cdb960fe74f", func := "signalbox/signalboxlaw29.AssignPasses", spec := "assignPasses", unfollowed := true, recurses := true, named := ["signalbox/prog.words"], apart := false, laid := [("signalbox/prog.words", laid_signalbox_prog_words)] }
def AssignPassesSaid : Prop := assignPassesRow.holds Tryz.pinned (OpenSpec.ofChange assignPassesSpec)

/-- ITS FALSE NEIGHBOUR: 'it returns false'. Refute it at one input. -/
def assignPassesWrong : ChangeSpec := { name := "assignPasses", fn := fun _ => fun
  | [d1, d2] => { results := [.lit (.bool false)], args := [d1, d2] }
  | _ => none }
def AssignPassesWrongFalsely : Prop := assignPassesRow.holds Tryz.pinned (OpenSpec.ofChange assignPassesWrong)

/-- 'signalboxlaw29.AssignNone': WHATEVER THE INPUT: true; the input reads as it did. -/
def assignNoneSpec : ChangeSpec := { name := "assignNone", fn := fun _ => fun
  | [d1, d2] => { results := [.lit (.bool true)], args := [d1, d2] }
  | _ => none }
def assignNoneRow : OpenClaim := { program := "ytlbinlhaejhobaagreatdoor", sum := "69a5110ec0ca8089828d3cd97acf4ea23d02c5ea2f9ec230bca94cdb960fe74f", func := "signalbox/signalboxlaw29.AssignNone", spec := "assignNone", unfollowed := true, recurses := true, named := ["signalbox/prog.words"], apart := false, laid := [("signalbox/prog.words", laid_signalbox_prog_words)] }
def AssignNoneSaid : Prop := assignNoneRow.holds Tryz.pinned (OpenSpec.ofChange assignNoneSpec)

/-- ITS FALSE NEIGHBOUR: 'it returns false'. Refute it at one input. -/
def assignNoneWrong : ChangeSpec := { name := "assignNone", fn := fun _ => fun
  | [d1, d2] => { results := [.lit (.bool false)], args := [d1, d2] }
  | _ => none }
def AssignNoneWrongFalsely : Prop := assignNoneRow.holds Tryz.pinned (OpenSpec.ofChange assignNoneWrong)

/-- 'signalboxlaw29.AssignMost': WHATEVER THE INPUT: true; the input reads as it did. -/
def assignMostSpec : ChangeSpec := { name := "assignMost", fn := fun _ => fun
  | [d1, d2, d3] => { results := [.lit (.bool true)], args := [d1, d2, d3] }
  | _ => none }
def assignMostRow : OpenClaim := { program := "ytlbinlhaejhobaagreatdoor", sum := "69a5110ec0ca8089828d3cd97acf4ea23d02c5ea2f9ec230bca94cdb960fe74f", func := "signalbox/signalboxlaw29.AssignMost", spec := "assignMost", unfollowed := true, recurses := true, named := ["signalbox/prog.words"], apart := false, laid := [("signalbox/prog.words", laid_signalbox_prog_words)] }
def AssignMostSaid : Prop := assignMostRow.holds Tryz.pinned (OpenSpec.ofChange assignMostSpec)

/-- ITS FALSE NEIGHBOUR: 'it returns false'. Refute it at one input. -/
def assignMostWrong : ChangeSpec := { name := "assignMost", fn := fun _ => fun
  | [d1, d2, d3] => { results := [.lit (.bool false)], args := [d1, d2, d3] }
  | _ => none }
def AssignMostWrongFalsely : Prop := assignMostRow.holds Tryz.pinned (OpenSpec.ofChange assignMostWrong)

/-- 'signalboxlaw29.AssignLower': WHATEVER THE INPUT: true; the input reads as it did. -/
def assignLowerSpec : ChangeSpec := { name := "assignLower", fn := fun _ => fun
  | [d1, d2, d3] => { results := [.lit (.bool true)], args := [d1, d2, d3] }
  | _ => none }
def assignLowerRow : OpenClaim := { program := "ytlbinlhaejhobaagreatdoor", sum := "69a5110ec0ca8089828d3cd97acf4ea23d02c5ea2f9ec230bca94cdb960fe74f", func := "signalbox/signalboxlaw29.AssignLower", spec := "assignLower", unfollowed := true, recurses := true, named := ["signalbox/prog.words"], apart := false, laid := [("signalbox/prog.words", laid_signalbox_prog_words)] }
def AssignLowerSaid : Prop := assignLowerRow.holds Tryz.pinned (OpenSpec.ofChange assignLowerSpec)

/-- ITS FALSE NEIGHBOUR: 'it returns false'. Refute it at one input. -/
def assignLowerWrong : ChangeSpec := { name := "assignLower", fn := fun _ => fun
  | [d1, d2, d3] => { results := [.lit (.bool false)], args := [d1, d2, d3] }
  | _ => none }
def AssignLowerWrongFalsely : Prop := assignLowerRow.holds Tryz.pinned (OpenSpec.ofChange assignLowerWrong)

/-- 'signalboxlaw30.FloatingMost': WHATEVER THE INPUT: true; the input reads as it did. -/
def floatingMostSpec : ChangeSpec := { name := "floatingMost", fn := fun _ => fun
  | [d1, d2, d3] => { results := [.lit (.bool true)], args := [d1, d2, d3] }
  | _ => none }
def floatingMostRow : OpenClaim := { program := "ytlbinlhaejhobaagreatdoor", sum := "69a5110ec0ca8089828d3cd97acf4ea23d02c5ea2f9ec230bca94cdb960fe74f", func := "signalbox/signalboxlaw30.FloatingMost", spec := "floatingMost", unfollowed := true, recurses := true, named := ["signalbox/prog.words"], apart := false, laid := [("signalbox/prog.words", laid_signalbox_prog_words)] }
def FloatingMostSaid : Prop := floatingMostRow.holds Tryz.pinned (OpenSpec.ofChange floatingMostSpec)

/-- ITS FALSE NEIGHBOUR: 'it returns false'. Refute it at one input. -/
def floatingMostWrong : ChangeSpec := { name := "floatingMost", fn := fun _ => fun
  | [d1, d2, d3] => { results := [.lit (.bool false)], args := [d1, d2, d3] }
  | _ => none }
def FloatingMostWrongFalsely : Prop := floatingMostRow.holds Tryz.pinned (OpenSpec.ofChange floatingMostWrong)

/-- 'signalboxlaw30.FloatingAll': WHATEVER THE INPUT: true; the input reads as it did. -/
def floatingAllSpec : ChangeSpec := { name := "floatingAll", fn := fun _ => fun
  | [d1, d2, d3] => { results := [.lit (.bool true)], args := [d1, d2, d3] }
  | _ => none }
def floatingAllRow : OpenClaim := { program := "ytlbinlhaejhobaagreatdoor", sum := "69a5110ec0ca8089828d3cd97acf4ea23d02c5ea2f9ec230bca94cdb960fe74f", func := "signalbox/signalboxlaw30.FloatingAll", spec := "floatingAll", unfollowed := true, recurses := true, named := ["signalbox/prog.words"], apart := false, laid := [("signalbox/prog.words", laid_signalbox_prog_words)] }
def FloatingAllSaid : Prop := floatingAllRow.holds Tryz.pinned (OpenSpec.ofChange floatingAllSpec)

/-- ITS FALSE NEIGHBOUR: 'it returns false'. Refute it at one input. -/
def floatingAllWrong : ChangeSpec := { name := "floatingAll", fn := fun _ => fun
  | [d1, d2, d3] => { results := [.lit (.bool false)], args := [d1, d2, d3] }
  | _ => none }
def FloatingAllWrongFalsely : Prop := floatingAllRow.holds Tryz.pinned (OpenSpec.ofChange floatingAllWrong)

/- THE SECOND FORM. 'bulk': how many values and letters a reading holds, each counted each time it is reached (what is shared counts as often as it is met; a slice's spare places count too). A statement '..UptoSaid' is the law's where the arguments, and the package variables that the reading takes, are together of bulk at most 1048576: NARROWER than '..Said'. Prove '..Said' where nothing that the law and all that it calls make is longer than what came in: it says more and counts as full. Else prove '..UptoSaid'. A law counts once. -/
mutual
def uptoBulk {H : Type} : DataW H → Nat
  | .lit (.string bytes) => bytes.length + 1
  | .lit _ => 1
  | .nil => 1
  | .ptr d => uptoBulk d + 1
  | .slice elems spare => uptoBulkAll elems + uptoBulkAll spare + 1
  | .agg parts => uptoBulkAll parts + 1
  | .iface _ d => uptoBulk d + 1
  | .map entries => uptoBulkEntries entries + 1
  | .held _ => 1
def uptoBulkAll {H : Type} : List (DataW H) → Nat
  | [] => 0
  | d :: r => uptoBulk d + uptoBulkAll r
def uptoBulkEntries {H : Type} : List (Lit × DataW H) → Nat
  | [] => 0
  | x :: r => uptoBulkEntry x + uptoBulkEntries r
def uptoBulkEntry {H : Type} : Lit × DataW H → Nat
  | (.string bytes, d) => bytes.length + uptoBulk d + 1
  | (_, d) => uptoBulk d + 1
 end
def uptoSmall : (H : Type) → List (DataW H) → Bool := fun _ ds => decide (uptoBulkAll ds ≤ 1048576)
def OpenSpec.upto (s : _root_.Go.ChangeSpec) : _root_.Go.OpenSpec := { _root_.Go.OpenSpec.ofChange s with cond := some uptoSmall }

/-- 'signalboxlaw28.AdmitTells', WHERE WHAT IT READS IS OF BULK AT MOST 1048576: true; the input reads as it did. -/
def admitTellsUptoRow : OpenClaim := { program := "ytlbinlhaejhobaagreatdoor", sum := "69a5110ec0ca8089828d3cd97acf4ea23d02c5ea2f9ec230bca94cdb960fe74f", func := "signalbox/signalboxlaw28.AdmitTells", spec := "admitTells", unfollowed := true, recurses := true, named := ["signalbox/prog.words"], apart := false, laid := [("signalbox/prog.words", laid_signalbox_prog_words)], narrowed := true }
def AdmitTellsUptoSaid : Prop := admitTellsUptoRow.holds Tryz.pinned (OpenSpec.upto admitTellsSpec)

/-- 'signalboxlaw29.AssignPasses', WHERE WHAT IT READS IS OF BULK AT MOST 1048576: true; the input reads as it did. -/
def assignPassesUptoRow : OpenClaim := { program := "ytlbinlhaejhobaagreatdoor", sum := "69a5110ec0ca8089828d3cd97acf4ea23d02c5ea2f9ec230bca94cdb960fe74f", func := "signalbox/signalboxlaw29.AssignPasses", spec := "assignPasses", unfollowed := true, recurses := true, named := ["signalbox/prog.words"], apart := false, laid := [("signalbox/prog.words", laid_signalbox_prog_words)], narrowed := true }
def AssignPassesUptoSaid : Prop := assignPassesUptoRow.holds Tryz.pinned (OpenSpec.upto assignPassesSpec)

/-- 'signalboxlaw29.AssignNone', WHERE WHAT IT READS IS OF BULK AT MOST 1048576: true; the input reads as it did. -/
def assignNoneUptoRow : OpenClaim := { program := "ytlbinlhaejhobaagreatdoor", sum := "69a5110ec0ca8089828d3cd97acf4ea23d02c5ea2f9ec230bca94cdb960fe74f", func := "signalbox/signalboxlaw29.AssignNone", spec := "assignNone", unfollowed := true, recurses := true, named := ["signalbox/prog.words"], apart := false, laid := [("signalbox/prog.words", laid_signalbox_prog_words)], narrowed := true }
def AssignNoneUptoSaid : Prop := assignNoneUptoRow.holds Tryz.pinned (OpenSpec.upto assignNoneSpec)

/-- 'signalboxlaw29.AssignMost', WHERE WHAT IT READS IS OF BULK AT MOST 1048576: true; the input reads as it did. -/
def assignMostUptoRow : OpenClaim := { program := "ytlbinlhaejhobaagreatdoor", sum := "69a5110ec0ca8089828d3cd97acf4ea23d02c5ea2f9ec230bca94cdb960fe74f", func := "signalbox/signalboxlaw29.AssignMost", spec := "assignMost", unfollowed := true, recurses := true, named := ["signalbox/prog.words"], apart := false, laid := [("signalbox/prog.words", laid_signalbox_prog_words)], narrowed := true }
def AssignMostUptoSaid : Prop := assignMostUptoRow.holds Tryz.pinned (OpenSpec.upto assignMostSpec)

/-- 'signalboxlaw29.AssignLower', WHERE WHAT IT READS IS OF BULK AT MOST 1048576: true; the input reads as it did. -/
def assignLowerUptoRow : OpenClaim := { program := "ytlbinlhaejhobaagreatdoor", sum := "69a5110ec0ca8089828d3cd97acf4ea23d02c5ea2f9ec230bca94cdb960fe74f", func := "signalbox/signalboxlaw29.AssignLower", spec := "assignLower", unfollowed := true, recurses := true, named := ["signalbox/prog.words"], apart := false, laid := [("signalbox/prog.words", laid_signalbox_prog_words)], narrowed := true }
def AssignLowerUptoSaid : Prop := assignLowerUptoRow.holds Tryz.pinned (OpenSpec.upto assignLowerSpec)

/-- 'signalboxlaw30.FloatingMost', WHERE WHAT IT READS IS OF BULK AT MOST 1048576: true; the input reads as it did. -/
def floatingMostUptoRow : OpenClaim := { program := "ytlbinlhaejhobaagreatdoor", sum := "69a5110ec0ca8089828d3cd97acf4ea23d02c5ea2f9ec230bca94cdb960fe74f", func := "signalbox/signalboxlaw30.FloatingMost", spec := "floatingMost", unfollowed := true, recurses := true, named := ["signalbox/prog.words"], apart := false, laid := [("signalbox/prog.words", laid_signalbox_prog_words)], narrowed := true }
def FloatingMostUptoSaid : Prop := floatingMostUptoRow.holds Tryz.pinned (OpenSpec.upto floatingMostSpec)

/-- 'signalboxlaw30.FloatingAll', WHERE WHAT IT READS IS OF BULK AT MOST 1048576: true; the input reads as it did. -/
def floatingAllUptoRow : OpenClaim := { program := "ytlbinlhaejhobaagreatdoor", sum := "69a5110ec0ca8089828d3cd97acf4ea23d02c5ea2f9ec230bca94cdb960fe74f", func := "signalbox/signalboxlaw30.FloatingAll", spec := "floatingAll", unfollowed := true, recurses := true, named := ["signalbox/prog.words"], apart := false, laid := [("signalbox/prog.words", laid_signalbox_prog_words)], narrowed := true }
def FloatingAllUptoSaid : Prop := floatingAllUptoRow.holds Tryz.pinned (OpenSpec.upto floatingAllSpec)

end Rows
end Go.Proofs.YtlbinlhaejhobaaGreatDoor
