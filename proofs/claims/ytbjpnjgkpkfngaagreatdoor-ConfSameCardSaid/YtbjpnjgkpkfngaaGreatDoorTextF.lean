/- An answer that is a text and a bool; an index into two numbers. -/
import Derived.Test.YtbjpnjgkpkfngaaGreatDoorBuild
import Derived.Test.YtbjpnjgkpkfngaaGreatDoorShelf
namespace Go.Proofs.YtbjpnjgkpkfngaaGreatDoor
open Go Go.RowKit

def GrowT (s : ByteArray) (v : Bool) (w : World) (e : Ending) (w' : World) : Prop := e = .returned (.tuple #[.string s, .bool v]) ∧ Only (fun _ => False) w w'
theorem idx0 (x y : Value) (w : World) : (Instr.index 129 (.agg #[x, y]) (.int .i64 0)).run Tryz.prog w = .ok x w := by kernel_rfl
theorem idx1 (x y : Value) (w : World) : (Instr.index 129 (.agg #[x, y]) (.int .i64 1)).run Tryz.prog w = .ok y w := by kernel_rfl

end Go.Proofs.YtbjpnjgkpkfngaaGreatDoor
