/- Rooms; too many; what objects may be. -/
import Derived.Test.YteeleelkepjoaaaConf2
namespace Go.Proofs.Yteeleelkepjoaaa
open Go Go.RowKit

def ConfV.room (c : ConfV) : RoomV := ⟨c.mb.n, c.g, c.cn.n, c.ce.n⟩
def max4 (a b c d : Int) : Int := (fun x => if d > x then d else x) ((fun x => if c > x then c else x) (if b > a then b else a))
theorem max4_lt (a b c d : Int) : 4 < max4 a b c d ↔ (4 < a ∨ 4 < b ∨ 4 < c ∨ 4 < d) := by
  unfold max4
  simp only
  split <;> split <;> split <;> omega
theorem run_max4 (P : Program) (t : Array TypeId) (y : TypeId) (a b c d : Int) (w : World) : Sem.run P (Builtin.max_ t y #[.int .i64 a, .int .i64 b, .int .i64 c, .int .i64 d]) w = .ok (.int .i64 (max4 a b c d)) w := rfl

def manyB (c : ConfV) : Bool := decide (4 < (c.mb.n : Int) ∨ 4 < c.g ∨ 4 < (c.cn.n : Int) ∨ 4 < (c.ce.n : Int) ∨ 8 < (c.ta.n : Int) ∨ 8 < (c.li.n : Int))
end Go.Proofs.Yteeleelkepjoaaa
