/- ReadyPlays: the switch of a round, its text. -/
import Derived.Test.YteniphdfhmbbeaaDoorPlays16a
import Derived.Test.YteniphdfhmbbeaaDoorMC
import Derived.Deep.CutBlock
import Derived.Deep.RegionHeld3
import Derived.Deep.RegionHeldLaw
import Derived.Deep.RegionLaw
namespace Go.Proofs.YteniphdfhmbbeaaDoor
open Go Go.RowKit Go.Maps Ring Band
/-- A block of the function's text, by its number. -/
def findBlock (n : Nat) : Code → Option Code
  | .block m c => if m = n then some (.block m c) else findBlock n c
  | .seq a b => match findBlock n a with
    | some c => some c
    | none => findBlock n b
  | .loop c => findBlock n c
  | .scope c => findBlock n c
  | .cond _ a b => match findBlock n a with
    | some c => some c
    | none => findBlock n b
  | _ => none
noncomputable def sw16 : Code := ((Tryd.f3.body.bind (findBlock 4)).getD .skip)
end Go.Proofs.YteniphdfhmbbeaaDoor
