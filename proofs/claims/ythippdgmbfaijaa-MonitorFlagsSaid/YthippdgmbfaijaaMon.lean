/- Numbers that count as at most so much; records and reports in memory. -/
import Derived.Test.YthippdgmbfaijaaCfg
import Derived.Test.YthippdgmbfaijaaWin
import Derived.Test.YthippdgmbfaijaaTail
import Derived.Test.YthippdgmbfaijaaActs
import Derived.Deep.RegionLaw
import Derived.Deep.RegionWith
import Derived.Deep.QuietTactic
import Derived.Deep.CutRange
import Derived.Deep.DeepCutAuto
import Derived.Deep.LoopGhost
namespace Go.Proofs.Ythippdgmbfaijaa
open Go Go.RowKit

def RetI (v : Int) (w : World) (e : Ending) (w' : World) : Prop := e = .returned (.int .i64 v) ∧ w = w'
def GrowI (v : Int) (w : World) (e : Ending) (w' : World) : Prop := e = .returned (.int .i64 v) ∧ Only (fun _ => False) w w'
def RetB (v : Bool) (w : World) (e : Ending) (w' : World) : Prop := e = .returned (.bool v) ∧ w = w'
def GrowB (v : Bool) (w : World) (e : Ending) (w' : World) : Prop := e = .returned (.bool v) ∧ Only (fun _ => False) w w'
theorem ret_int {k : IntKind} {a b : Int} (h : a = b) : Ending.returned (.int k a) = .returned (.int k b) := by rw [h]
theorem ret_bool {a b : Bool} (h : a = b) : Ending.returned (.bool a) = .returned (.bool b) := by rw [h]

/-- What a number counts as. -/
def cl (n : Int) : Int := min (max n (-1099511627776)) 1099511627776
theorem cl_lo {n : Int} (h : n < -1099511627776) : cl n = -1099511627776 := by unfold cl; omega
theorem cl_hi {n : Int} (h : 1099511627776 < n) : cl n = 1099511627776 := by unfold cl; omega
theorem cl_in {n : Int} (h1 : -1099511627776 ≤ n) (h2 : n ≤ 1099511627776) : cl n = n := by unfold cl; omega
theorem cl_bd (n : Int) : -1099511627776 ≤ cl n ∧ cl n ≤ 1099511627776 := by unfold cl; omega

theorem counted_any (n : Int) (w : World) : Calls Try.prog 16 #[.int .i64 n] w (RetI (cl n) w) := by
  by_cases h1 : n < -1099511627776
  · have e := Lib.hid (cl_lo h1)
    go_enter Try.func16, Try.ntmps16
    go_wp2
    go_ret
    exact ⟨ret_int (by rw [e.out]), rfl⟩
  · by_cases h2 : 1099511627776 < n
    · have e := Lib.hid (cl_hi h2)
      go_enter Try.func16, Try.ntmps16
      go_wp2
      go_ret
      exact ⟨ret_int (by rw [e.out]), rfl⟩
    · have e := Lib.hid (cl_in (n := n) (by omega) (by omega))
      go_enter Try.func16, Try.ntmps16
      go_wp2
      go_ret
      exact ⟨ret_int (by rw [e.out]), rfl⟩
end Go.Proofs.Ythippdgmbfaijaa
