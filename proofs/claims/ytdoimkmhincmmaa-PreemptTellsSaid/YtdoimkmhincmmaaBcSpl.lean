/- split: the costs and the periods of loads, in rows of their own. -/
import Derived.Test.YtdoimkmhincmmaaBcDem
import Derived.Test.YtdoimkmhincmmaaPair
import Derived.Deep.RegionLaw
import Derived.Deep.RegionLawGrows
namespace Go.Proofs.Ytdoimkmhincmmaa
namespace Bch
open Go Go.RowKit
theorem info22 : (Try.prog.info? 28).map (fun i => (i.zero, i.size, i.bytes)) = some (some (Value.int .u64 0), 1, 8) := by kernel_rfl
theorem take_snoc {α : Type} {m : List α} {j : Nat} {x : α} (h : m[j]? = some x) : m.take (j + 1) = m.take j ++ [x] := by
  rw [List.take_add_one, h]; rfl
def uU (n : Nat) : Value := .int .u64 (n : Int)
def SplitEnd (l : List Ld) (n : Nat) (w : World) (e : Ending) (w' : World) : Prop :=
  ∃ va ha vb hb, e = .returned (.tuple #[va, vb]) ∧ Pair 22 w w' va ha n ((l.map (·.1)).map uU) vb hb n ((l.map (·.2)).map uU)
end Bch
end Go.Proofs.Ytdoimkmhincmmaa
