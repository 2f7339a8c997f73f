/- The fixed calls of ReloadBounds. -/
import Derived.Test.YteeleelkepjoaaaTwo
import Derived.Test.YteeleelkepjoaaaStep
import Derived.Deep.CutRange
namespace Go.Proofs.Yteeleelkepjoaaa
namespace Rld
open Go Go.RowKit Rca Srt

def Two2 (w : World) (e : Ending) (w' : World) : Prop := ∃ X, e = .returned (.agg #[.int .i64 2, .int .i64 1, .int .i64 1, .int .i64 5, .slice none 0 0, .int .i64 0, .slice none 0 0, .slice none 0 0, .slice (some ⟨X + 2, 0, none⟩) 2 2, .slice none 0 0]) ∧ CfOk w' (twoC X) (twoP X) 2 ∧ Only (fun _ => False) w w'
theorem two2_any (w : World) : Calls Try.prog 25 #[] w (Two2 w) := (two_any w).mono fun _ _ ⟨X, h1, h2⟩ => ⟨X, h1, h2⟩
theorem fld5 (a b c d e f g h i j : Value) (w : World) : Sem.run Try.prog (Instr.field 27 (.agg #[a, b, c, d, e, f, g, h, i, j]) 5) w = .ok i w := by kernel_rfl
theorem fld0 (a b c d : Int) (e f g h i j : Value) (w : World) : Sem.run Try.prog (Instr.field 27 (.agg #[.int .i64 a, .int .i64 b, .int .i64 c, .int .i64 d, e, f, g, h, i, j]) 0) w = .ok (.agg #[.int .i64 a, .int .i64 b, .int .i64 c, .int .i64 d]) w := by kernel_rfl
theorem two_prog {w : World} {X : Nat} (h : CfOk w (twoC X) (twoP X) 2) : w.cell? ⟨X + 2, 6, none⟩ = some (.slice (some ⟨X, 0, none⟩) 3 3) ∧ X + 2 < w.heap.size := by
  obtain ⟨b, off, hA, hb, hC⟩ := h.t.at_ 0 (twoT 1 X 3) rfl
  cases hA
  exact ⟨hC.c6, hb⟩
theorem two_loads {w : World} {X : Nat} (h : CfOk w (twoC X) (twoP X) 2) : Calls Try.prog 24 #[.slice (some ⟨X, 0, none⟩) 3 3, .agg #[.int .i64 2, .int .i64 1, .int .i64 1, .int .i64 5]] w (LodEnd 2 twoA w) := by
  have hp := h.p.row 0 (twoT 1 X 3) twoA rfl
  exact loads_any (cap := 3) hp.1 hp.2.1 hp.2.2.1 (h.ok 0 _ _ rfl) 2 1 1 5 (by omega) (by omega)
theorem two_load0 : loadS 2 twoA 0 = 1 := by decide
theorem two_load1 : loadS 2 twoA 1 = 2 := by decide
theorem two_touch : (touB 2 (twoP 0) [1] 0 = false) ∧ (touB 2 (twoP 0) [1] 1 = true) := by decide

theorem two_abo (X : Nat) : aboU (twoP X).ts 1 2 = [1] := by rfl
theorem two_tou (X : Nat) : brow 2 (touB 2 (twoP X) [1]) = [.bool false, .bool true] := by rfl
theorem two_bnd (X : Nat) : bndZ (twoC X) (twoP X) 2 1 twoA = 1 := by rfl
theorem two_above {w : World} {X : Nat} (h : CfOk w (twoC X) (twoP X) 2) : Calls Try.prog 26 #[(twoC X).val, .int .i64 0] w (RowEnd w [1]) := by
  have := above_any h.t h.n (i := 0) (ti := twoT 1 X 3) rfl
  rw [show (twoC X).ta.n = 2 from rfl, show (twoT 1 X 3).th = 1 from rfl, two_abo] at this
  exact this
theorem two_bound {w : World} {X : Nat} (h : CfOk w (twoC X) (twoP X) 2) : Calls Try.prog 13 #[(twoC X).val, .int .i64 0] w (AnsI 1 w) := by
  have := bound_any h (show (0 : Int) ≤ 1 by decide) (show (1 : Int) ≤ 1000 by decide) (i := 0) (t := twoT 1 X 3) (l := twoA) rfl
  rw [show (twoT 1 X 3).th = 1 from rfl, two_bnd] at this
  exact this
theorem two_bound2 {w : World} {X : Nat} : Calls Try.prog 13 #[(twoC X).val, .int .i64 2] w (AnsI 0 w) := bound_none (by rfl)
theorem two_cost {w : World} {X : Nat} (h : CfOk w (twoC X) (twoP X) 2) : Calls Try.prog 28 #[(twoC X).val, .int .i64 0] w (AnsI 4 w) := by
  have := cost_any (c := twoC X) (z := 0) (B := 1) (w := w) (fun W hW => two_bound (h.new hW)) (by decide) (by decide)
  rw [show costZ 1 (twoC X).h (twoC X).mi = 4 from rfl] at this
  exact this

set_option maxRecDepth 100000 in
set_option maxHeartbeats 4000000 in
theorem fixed23_any (w : World) : Calls Try.prog 6 #[] w (GrowB true w) := by
  have tk : Hid True := Lib.hid trivial
  have q5 := fld5
  have q0 := fld0
  go_enter Try.func6, Try.ntmps6
  go_upto_region 1 with fail
  go_cut [1] from 4 to 11 (fun v wd => ∃ g, v = .slice (some ⟨g, 0, none⟩) 2 2 ∧ wd.heap[g]? = some (.cells #[.int .i64 1, .int .i64 2] 3 (0, 0)) ∧ Only (fun _ => False) w wd)
  case first =>
    go_region_law (first
      | (have := tk; refine step_call rfl Try.func25 (by kernel_rfl) rfl [] _ rfl [] rfl (two2_any _) ?_; rintro e w1 ⟨X1, rfl, hc1, ho1⟩; refine ⟨_, rfl, ?_⟩; have ho1' : Only (fun _ => False) w w1 := Only.trans' (by repeat (first | assumption | exact Only.refl _ _ | apply Only.drew | apply Only.drewN)) ho1; have hc1' := Lib.hid hc1; obtain ⟨f1, f2⟩ := two_prog hc1; clear tk hc1 ho1)
      | (refine step_call rfl Try.func25 (by kernel_rfl) rfl [] _ rfl [] rfl (two2_any _) ?_; rintro e w2 ⟨X2, rfl, hc2, ho2⟩; refine ⟨_, rfl, ?_⟩; have ho2' : Only (fun _ => False) w w2 := Only.trans' (by repeat (first | assumption | exact Only.refl _ _ | apply Only.drew | apply Only.drewN)) ho2; have hc2' := Lib.hid hc2; have hc1'' := Lib.hid (hc1'.out.new ho2); obtain ⟨f3, f4⟩ := two_prog hc2; obtain ⟨f5, f6⟩ := two_prog hc1''.out; clear hc2 ho2)
      | (refine step_call rfl Try.func24 (by kernel_rfl) rfl [.tmp 8, .tmp 10] _ rfl [_, _] rfl (by first | exact two_loads hc1''.out | exact two_loads hc2'.out) ?_; rintro e w3 ⟨g, rfl, hge, hrow, ho3⟩; refine ⟨_, rfl, ?_⟩; have ho3' : Only (fun _ => False) w w3 := Only.trans' (by repeat (first | assumption | exact Only.refl _ _ | apply Only.drew | apply Only.drewN)) ho3; have hrow' := Lib.hid hrow; clear hrow hge ho3))
    all_goals
      go_wp2
      go_meet
      case rel => exact ⟨g, rfl, by have := hrow'.out; simpa [loadsL, List.range_succ, two_load0, two_load1] using this, ho3'⟩
  obtain ⟨g, rfl, hg, hO0⟩ := hcut
  have hg' := Lib.hid hg
  have hO0' := Lib.hid hO0
  clear hg hO0 q5 q0 tk
  go_wp2_with fail
  refine (two2_any _).mono ?_
  rintro e w1 ⟨X1, rfl, hc1, ho1⟩
  have hc1' := Lib.hid (two_above hc1)
  have hO1 := Lib.hid (hO0'.out.trans' ho1)
  have hg1 := Lib.hid (ho1.heap hg'.out (fun h => h))
  rw [show (twoC X1).val = .agg #[.int .i64 2, .int .i64 1, .int .i64 1, .int .i64 5, .slice none 0 0, .int .i64 0, .slice none 0 0, .slice none 0 0, .slice (some ⟨X1 + 2, 0, none⟩) 2 2, .slice none 0 0] from rfl] at hc1'
  clear hc1 ho1 hO0' hg'
  go_wp2_with fail
  refine (hc1'.out).mono ?_
  rintro e w2 ⟨p2, c2, h2, rfl, hW2, _, ho2⟩
  have hO2 := Lib.hid (hO1.out.trans' ho2)
  have hg2 := Lib.hid (ho2.heap hg1.out (fun h => h))
  have hW2' := Lib.hid hW2
  rw [show [1].length = 1 from rfl] at hW2' ⊢
  clear hc1' hO1 hg1 ho2 hW2
  go_wp2_with fail
  refine (two2_any _).mono ?_
  rintro e w3 ⟨X3, rfl, hc3, ho3⟩
  have hO3 := Lib.hid (hO2.out.trans' ho3)
  have hg3 := Lib.hid (ho3.heap hg2.out (fun h => h))
  have hW3 := Lib.hid (hW2'.out.kept ho3 (fun _ _ h => h))
  have hc3' := Lib.hid (touched_any hc3 hW3.out (by intro i hi; simp at hi; subst hi; simp [twoP]) (by omega))
  rw [show (twoC X3).val = .agg #[.int .i64 2, .int .i64 1, .int .i64 1, .int .i64 5, .slice none 0 0, .int .i64 0, .slice none 0 0, .slice none 0 0, .slice (some ⟨X3 + 2, 0, none⟩) 2 2, .slice none 0 0] from rfl] at hc3'
  clear hc3 ho3 hO2 hg2 hW2'
  go_wp2_with fail
  refine (hc3'.out).mono ?_
  rintro e w4 ⟨g4, rfl, _, hr4, ho4⟩
  have hO4 := Lib.hid (hO3.out.trans' ho4)
  have hg4 := Lib.hid (ho4.heap hg3.out (fun h => h))
  have hW4 := Lib.hid (hW3.out.kept ho4 (fun _ _ h => h))
  rw [two_tou] at hr4
  have hr4' := Lib.hid hr4
  clear hc3' ho4 hO3 hg3 hW3 hr4
  have d0 := row_cell (L := [.int .i64 1, .int .i64 2]) hg4.out (i := 0) rfl
  have d1 := row_cell (L := [.int .i64 1, .int .i64 2]) hg4.out (i := 1) rfl
  have dl := row_lt hg4.out
  have e0 := row_cell hr4'.out (i := 0) rfl
  have e1 := row_cell hr4'.out (i := 1) rfl
  have el := row_lt hr4'.out
  obtain ⟨ga, oa, ca, _, hv, _, _, hal, hac, _⟩ := hW4.out.at_ (by omega)
  cases hv
  have a0 : w4.cell? ⟨ga, oa, none⟩ = some (.int .i64 1) := hac 0 _ (dat_at (L := [1]) rfl)
  clear hac hg4 hr4' hW4
  go_wp2_with fail
  refine (two2_any _).mono ?_
  rintro e w5 ⟨X5, rfl, hc5, ho5⟩
  have hO5 := Lib.hid (hO4.out.trans' ho5)
  have hc5' := Lib.hid (two_bound hc5)
  rw [show (twoC X5).val = .agg #[.int .i64 2, .int .i64 1, .int .i64 1, .int .i64 5, .slice none 0 0, .int .i64 0, .slice none 0 0, .slice none 0 0, .slice (some ⟨X5 + 2, 0, none⟩) 2 2, .slice none 0 0] from rfl] at hc5'
  clear hc5 ho5 hO4 d0 d1 dl e0 e1 el hal a0
  go_wp2_with fail
  refine (hc5'.out).mono ?_
  rintro e w6 ⟨rfl, ho6⟩
  have hO6 := Lib.hid (hO5.out.trans' ho6)
  clear hc5' ho6 hO5
  go_wp2_with fail
  refine (two2_any _).mono ?_
  rintro e w7 ⟨X7, rfl, hc7, ho7⟩
  have hO7 := Lib.hid (hO6.out.trans' ho7)
  have hc7' := Lib.hid (two_cost hc7)
  rw [show (twoC X7).val = .agg #[.int .i64 2, .int .i64 1, .int .i64 1, .int .i64 5, .slice none 0 0, .int .i64 0, .slice none 0 0, .slice none 0 0, .slice (some ⟨X7 + 2, 0, none⟩) 2 2, .slice none 0 0] from rfl] at hc7'
  clear hc7 ho7 hO6
  go_wp2_with fail
  refine (hc7'.out).mono ?_
  rintro e w8 ⟨rfl, ho8⟩
  have hO8 := Lib.hid (hO7.out.trans' ho8)
  clear hc7' ho8 hO7
  go_wp2_with fail
  refine (two2_any _).mono ?_
  rintro e w9 ⟨X9, rfl, hc9, ho9⟩
  have hO9 := Lib.hid (hO8.out.trans' ho9)
  have hc9' := Lib.hid (two_bound2 (w := w9) (X := X9))
  rw [show (twoC X9).val = .agg #[.int .i64 2, .int .i64 1, .int .i64 1, .int .i64 5, .slice none 0 0, .int .i64 0, .slice none 0 0, .slice none 0 0, .slice (some ⟨X9 + 2, 0, none⟩) 2 2, .slice none 0 0] from rfl] at hc9'
  clear hc9 ho9 hO8
  go_wp2_with fail
  refine (hc9'.out).mono ?_
  rintro e wa ⟨rfl, hoa⟩
  have hOa := Lib.hid (hO9.out.trans' hoa)
  clear hc9' hoa hO9
  go_wp2
  go_ret
  exact ⟨rfl, hOa.out⟩
end Rld
end Go.Proofs.Yteeleelkepjoaaa
