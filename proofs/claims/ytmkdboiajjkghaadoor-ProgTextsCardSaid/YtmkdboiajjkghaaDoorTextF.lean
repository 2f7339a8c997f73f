/- An answer that is a text and a bool; an index into two numbers. -/
import Derived.Test.YtmkdboiajjkghaaDoorBuild
import Derived.Test.YtmkdboiajjkghaaDoorShelf
namespace Go.Proofs.YtmkdboiajjkghaaDoor
open Go Go.RowKit

def GrowT (s : ByteArray) (v : Bool) (w : World) (e : Ending) (w' : World) : Prop := e = .returned (.tuple #[.string s, .bool v]) ∧ Only (fun _ => False) w w'
theorem idx0 (x y : Value) (w : World) : (Instr.index 70 (.agg #[x, y]) (.int .i64 0)).run Tryd.prog w = .ok x w := by kernel_rfl
theorem idx1 (x y : Value) (w : World) : (Instr.index 70 (.agg #[x, y]) (.int .i64 1)).run Tryd.prog w = .ok y w := by kernel_rfl

end Go.Proofs.YtmkdboiajjkghaaDoor
