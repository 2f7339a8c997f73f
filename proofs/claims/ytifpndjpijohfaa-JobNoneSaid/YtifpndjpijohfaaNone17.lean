/- JobNone's walk. -/
import Derived.Test.YtifpndjpijohfaaWay17
namespace Go.Proofs.Ytifpndjpijohfaa
open Go Go.RowKit

set_option maxRecDepth 100000 in
theorem none17 (n : Int) (w : World) (_ : (Lit.int .i64 n).wf = true) : Calls Try.prog 5 #[.int .i64 n] w fun e w' => e = .returned (.bool true) ∧ Below w.heap.size w w' := by
  obtain ⟨B, hB⟩ : ∃ B, B = w.heap.size := ⟨_, rfl⟩
  rw [← hB]
  have hBw := Lib.hid (Nat.le_of_eq hB)
  clear hB
  go_enter Try.func5, Try.ntmps5
  go_wp2_with fail
  refine (fixed17_any w).mono ?_
  rintro e w1 ⟨rfl, hb1⟩
  have h1 := Lib.hid (Only.of_new hb1 (fun _ => False))
  clear hb1
  go_wp2_with fail
  refine (jop_nil w1).mono ?_
  rintro e w2 ⟨rfl, h2⟩
  have h2' := Lib.hid ((h1.out.trans' h2).alloc (.cells #[.int .i64 0, .int .i64 0, .int .i64 0] 39))
  clear h1 h2
  unfold zop Opn.val
  go_wp2_with fail
  refine (jleft_nil _).mono ?_
  rintro e w' ⟨rfl, rfl⟩
  go_wp2_with fail
  refine (jover_nil _).mono ?_
  rintro e w' ⟨rfl, m, rfl⟩
  have h3 := Lib.hid (h2'.out.drewN m)
  clear h2'
  go_wp2_with fail
  refine (jbegin_nil _ n).mono ?_
  rintro e w4 ⟨rfl, h4⟩
  have h4' := Lib.hid (h3.out.trans' h4)
  clear h3 h4
  go_wp2_with fail
  refine (jburn_nil _ n).mono ?_
  rintro e w' ⟨rfl, rfl⟩
  go_wp2_with fail
  refine (jrest_nil _).mono ?_
  rintro e w' ⟨rfl, rfl⟩
  go_wp2_with fail
  refine (jpushed_nil _).mono ?_
  rintro e w' ⟨rfl, rfl⟩
  go_wp2_with fail
  refine (jat_nil _).mono ?_
  rintro e w' ⟨rfl, rfl⟩
  go_wp2_with fail
  refine (jopen_nil _).mono ?_
  rintro e w' ⟨rfl, rfl⟩
  go_wp2_with fail
  refine (jfault_nil _).mono ?_
  rintro e w' ⟨rfl, rfl⟩
  go_wp2_with fail
  refine (jwh_nil _).mono ?_
  rintro e w' ⟨rfl, m, rfl⟩
  have h5 := Lib.hid (h4'.out.drewN m)
  clear h4'
  go_wp2
  go_ret
  exact ⟨rfl, h5.out.below hBw.out (fun k h => h.elim)⟩
end Go.Proofs.Ytifpndjpijohfaa
