/- Machines and tasks: their numbers. -/
import Derived.Test.YteeleelkepjoaaaConf
namespace Go.Proofs.Yteeleelkepjoaaa
open Go Go.RowKit

def machB (s wy h mi : Int) : Bool := inB 1 16 s && inB 1 4 wy && inB 1 100 h && inB h 100 mi
def taskB (p th pe de fr fl : Int) : Bool := inB 0 63 p && inB p 63 th && inB 1 1048576 pe && inB 1 pe de && inB 0 4096 fr && inB 0 1048576 fl
theorem retg_bool {a b : Bool} (h : a = b) {w w' : World} (ho : Only (fun _ => False) w w') : GrowB b w (.returned (.bool a)) w' := ⟨by rw [h], ho⟩

end Go.Proofs.Yteeleelkepjoaaa
