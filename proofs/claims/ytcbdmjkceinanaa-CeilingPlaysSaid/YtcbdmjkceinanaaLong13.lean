/- CeilingPlays: too many ceilings or acts. -/
import Derived.Test.YtcbdmjkceinanaaFixed13
namespace Go.Proofs.Ytcbdmjkceinanaa
open Go Go.RowKit

set_option maxRecDepth 100000 in
theorem plays13_long (A0 : Option Addr) (n cap0 : Nat) (A : Option Addr) (len cap : Nat) (who base : Int) (w : World) (hl : 20 < n ∨ 150 < len) :
    Calls Try.prog 3 #[.slice A0 n cap0, .slice A len cap, .int .i64 who, .int .i64 base] w fun e w' => e = .returned (.bool true) ∧ Below w.heap.size w w' := by
  by_cases h1 : 20 < n
  · go_enter Try.func3, Try.ntmps3
    go_wp2_with (go_at_call 7; refine (fixed13_any _).mono ?_; rintro e w1 ⟨rfl, hb1⟩; have hb1' := Lib.hid hb1; clear hb1)
    go_ret
    exact ⟨rfl, hb1'.out⟩
  · have h2 : 150 < len := by omega
    clear hl
    go_enter Try.func3, Try.ntmps3
    go_wp2_with (go_at_call 7; refine (fixed13_any _).mono ?_; rintro e w1 ⟨rfl, hb1⟩; have hb1' := Lib.hid hb1; clear hb1)
    go_ret
    exact ⟨rfl, hb1'.out⟩
end Go.Proofs.Ytcbdmjkceinanaa
