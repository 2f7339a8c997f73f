/- The flags' fixed calls; FlagsBack. -/
import Derived.Test.YtbmpmmfomcnchaaFlags2
namespace Go.Proofs.Ytbmpmmfomcnchaa
open Go Go.RowKit

set_option maxRecDepth 100000 in
theorem fixed11_any (w : World) : Calls Try.prog 7 #[] w fun e w' => e = .returned (.bool true) ∧ Below w.heap.size w w' := by
  obtain ⟨b, hb⟩ : ∃ b, b = w.heap.size + 1 := ⟨_, rfl⟩
  obtain ⟨g, hg⟩ : ∃ g, g = w.heap.size := ⟨_, rfl⟩
  obtain ⟨B, hB⟩ : ∃ B, B = w.heap.size := ⟨_, rfl⟩
  have hBg : B ≤ g := by omega
  rw [← hB]
  go_enter Try.func7, Try.ntmps7
  go_wp2_with fail
  refine (gnew_any 2 w).mono ?_
  rintro e w1 ⟨rfl, hG, hO⟩
  rw [show manyN 2 = 2 from by decide] at hG
  rw [← hb, ← hg] at hG
  rw [← hb]
  have hO1 := Lib.hid (hO.mono (T := fun k => B ≤ k) (fun _ _ h => h.elim))
  have hBw : B ≤ w.heap.size := Nat.le_of_eq hB
  clear hO hb hg hB
  go_wp2_with fail
  refine (set_yes hG (i := 1) (by decide) 3).mono ?_
  rintro e w2 ⟨rfl, hG2, hO⟩
  have hO2 := Lib.hid (hO1.out.trans hO (fun x _ h => by subst h; exact hBg))
  rw [show ((0#8).toNat : Int) = 0 from rfl]
  rw [show (0#8 ||| low 3) = 3#8 from by decide] at hG2
  clear hO hO1 hG
  go_wp2_with fail
  refine (clear_yes hG2 (i := 1) (by decide) 1).mono ?_
  rintro e w3 ⟨rfl, hG3, hO⟩
  have hO3 := Lib.hid (hO2.out.trans hO (fun x _ h => by subst h; exact hBg))
  rw [upd_self, show (3#8 &&& ~~~ low 1) = 2#8 from by decide] at hG3
  rw [upd_self, show ((3#8).toNat : Int) = 3 from rfl]
  clear hO hO2 hG2
  go_wp2_with fail
  refine (gvalue_yes hG3 (i := 1) (by decide)).mono ?_
  rintro e w4 ⟨rfl, hG4, hO⟩
  have hO4 := Lib.hid (hO3.out.trans hO (fun x _ h => by subst h; exact hBg))
  rw [upd_self, show ((2#8).toNat : Int) = 2 from rfl]
  clear hO hO3 hG3
  go_wp2_with fail
  refine (test_true hG4 (i := 1) (by decide) 3).mono ?_
  rintro e w5 ⟨rfl, hG5, hO⟩
  have hO5 := Lib.hid (hO4.out.trans hO (fun x _ h => by subst h; exact hBg))
  rw [upd_self, show allUp 2#8 (low 3) 8 = false from by decide]
  clear hO hO4 hG4
  go_wp2_with fail
  refine (test_false hG5 (i := 1) (by decide) 3).mono ?_
  rintro e w6 ⟨rfl, hG6, hO⟩
  have hO6 := Lib.hid (hO5.out.trans hO (fun x _ h => by subst h; exact hBg))
  rw [upd_self, show anyUp 2#8 (low 3) 8 = true from by decide]
  clear hO hO5 hG5
  go_wp2_with fail
  refine (set_no hG6 (i := 2) (.inr (by decide)) 1).mono ?_
  rintro e w7 ⟨rfl, hO⟩
  have hO7 := Lib.hid (hO6.out.trans hO (fun x _ h => h.elim))
  have hl := Lib.hid (glen_any (hG6.new hO).cell)
  clear hO hO6 hG6
  go_wp2_with fail
  refine hl.out.mono ?_
  rintro e w' ⟨rfl, hw⟩
  subst hw
  go_wp2
  go_ret
  exact ⟨rfl, hO7.out.below hBw (fun k h => h)⟩

set_option maxRecDepth 100000 in
theorem back_any (i first mask : Int) (w : World) (hi : 0 ≤ i ∧ i ≤ 255) : Calls Try.prog 4 #[.int .u8 i, .int .i64 first, .int .i64 mask] w fun e w' => e = .returned (.bool true) ∧ Below w.heap.size w w' := by
  obtain ⟨k, hk, hk4⟩ : ∃ k : Nat, i % 4 = (k : Int) ∧ k < 4 := ⟨(i % 4).toNat, by omega, by omega⟩
  obtain ⟨hi0, hi1⟩ := hi
  have x1 : bits .and .i64 first 255 = ((low first).toNat : Int) := bits_and_255 first
  have x2 : bits .and .i64 (bits .or .i64 first mask) 255 = ((low first ||| low mask).toNat : Int) := by rw [bits_and_255, low_or]
  have x3 : bits .and .i64 (bits .andNot .i64 first mask) 255 = (((low first ||| low mask) &&& ~~~ low mask).toNat : Int) := by
    rw [bits_and_255, low_andNot]
    congr 2
    apply BitVec.eq_of_getLsbD_eq
    intro j hj
    simp only [BitVec.getLsbD_and, BitVec.getLsbD_or, BitVec.getLsbD_not]
    generalize (low first).getLsbD j = p
    generalize (low mask).getLsbD j = q
    cases p <;> cases q <;> simp
  obtain ⟨p1, hp1⟩ : ∃ p, p = low first := ⟨_, rfl⟩
  obtain ⟨p2, hp2⟩ : ∃ p, p = low first ||| low mask := ⟨_, rfl⟩
  obtain ⟨p3, hp3⟩ : ∃ p, p = (low first ||| low mask) &&& ~~~ low mask := ⟨_, rfl⟩
  rw [← hp1] at x1
  rw [← hp2] at x2
  rw [← hp3] at x3
  have hp1' := Lib.hid hp1
  have hp2' := Lib.hid hp2
  have hp3' := Lib.hid hp3
  clear hp1 hp2 hp3
  obtain ⟨B, hB⟩ : ∃ B, B = w.heap.size := ⟨_, rfl⟩
  rw [← hB]
  go_enter Try.func4, Try.ntmps4
  go_wp2_with (go_at_call 7; refine (fixed11_any _).mono ?_; rintro e w1 ⟨rfl, hb1⟩; have hb1' := Lib.hid hb1; clear hb1)
  refine (gnew_any 4 _).mono ?_
  rintro e w2 ⟨rfl, hG, hO⟩
  rw [show manyN 4 = 4 from by decide] at hG
  obtain ⟨b, hb⟩ : ∃ b, b = w1.heap.size + 1 := ⟨_, rfl⟩
  obtain ⟨g, hg⟩ : ∃ g, g = w1.heap.size := ⟨_, rfl⟩
  rw [← hb, ← hg] at hG
  rw [← hb]
  have hBg : B ≤ g := by
    have := hb1'.out.size
    omega
  have hO1 := Lib.hid (((Only.of_new hb1'.out (fun k => B ≤ k))).trans hO (fun _ _ h => h.elim))
  have hBw : B ≤ w.heap.size := Nat.le_of_eq hB
  clear hO hb hg hb1' hB
  go_wp2_with fail
  refine (set_yes hG hk4 first).mono ?_
  rintro e w3 ⟨rfl, hG3, hO⟩
  have hO3 := Lib.hid (hO1.out.trans hO (fun x _ h => by subst h; exact hBg))
  rw [show (0#8 ||| low first) = p1 from by rw [hp1'.out]; simp] at hG3
  clear hO hO1 hG
  go_wp2_with fail
  refine (set_yes hG3 hk4 mask).mono ?_
  rintro e w4 ⟨rfl, hG4, hO⟩
  have hO4 := Lib.hid (hO3.out.trans hO (fun x _ h => by subst h; exact hBg))
  rw [upd_self, show p1 ||| low mask = p2 from by rw [hp1'.out, hp2'.out]] at hG4
  rw [upd_self]
  clear hO hO3 hG3
  go_wp2_with fail
  refine (clear_yes hG4 hk4 mask).mono ?_
  rintro e w5 ⟨rfl, hG5, hO⟩
  have hO5 := Lib.hid (hO4.out.trans hO (fun x _ h => by subst h; exact hBg))
  rw [upd_self, show p2 &&& ~~~ low mask = p3 from by rw [hp2'.out, hp3'.out]] at hG5
  rw [upd_self]
  clear hO hO4 hG4
  go_wp2_with fail
  refine (gvalue_yes hG5 hk4).mono ?_
  rintro e w6 ⟨rfl, hG6, hO⟩
  have hO6 := Lib.hid (hO5.out.trans hO (fun x _ h => by subst h; exact hBg))
  rw [upd_self]
  clear hO hO5 hG5 hG6
  go_wp2
  go_ret
  exact ⟨rfl, hO6.out.below hBw (fun k h => h)⟩

theorem back (i first mask : Int) (w : World) (hi : (Lit.int .u8 i).wf = true) (_ : (Lit.int .i64 first).wf = true) (_ : (Lit.int .i64 mask).wf = true) : Calls Try.prog 4 #[.int .u8 i, .int .i64 first, .int .i64 mask] w fun e w' => e = .returned (.bool true) ∧ Below w.heap.size w w' :=
  back_any i first mask w (bounds_u8 hi)
end Go.Proofs.Ytbmpmmfomcnchaa
