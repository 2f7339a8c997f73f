/- BandNone's fixed calls, and the calls on a nil set. -/
import Derived.Test.YtafcdjmbbpnbiaaDoorAbove
namespace Go.Proofs.YtafcdjmbbpnbiaaDoor
open Go.RowKit

theorem fixed_any (w : World) (h0 : 0 < w.heap.size) (ht : w.cell? ⟨0, 31, none⟩ = some (.int .u8 5)) : Calls Tryd.prog 4 #[] w fun e w' => e = .returned (.bool true) ∧ Below w.heap.size w w' := by
  go_enter Tryd.func4, Tryd.ntmps4
  go_wp2_with fail
  refine (new_4 w.heap.size _ (by simp) (by simp [go_sem]) (by simp [go_sem]) (by simp [go_sem]) (by simp [go_sem])).mono ?_
  rintro e w1 ⟨rfl, hS1, hb1⟩
  have hS1' : Hid (St w1 (w.heap.size + 1) 40 1) := Lib.hid (by simpa using hS1)
  have hb1' : Hid (Below (w.heap.size + 1) (w.alloc (.cells #[.int .i64 3, .int .i64 64, .int .i64 5, .int .i64 99] 3)) w1) := Lib.hid (by simpa using hb1)
  clear hS1 hb1
  go_wp2_with fail
  refine (above_3 _ _ hS1'.out).mono ?_
  rintro e w2 ⟨v, rfl, hown, hS2, hb2⟩
  obtain ⟨g, cap, rfl, hg⟩ : ∃ g cap, v = .slice (some ⟨g, 0, none⟩) 2 cap ∧ w2.ownsRow (w1.heap.size + 1) 3 1 (.slice (some ⟨g, 0, none⟩) 2 cap) 2 [.int .i64 64, .int .i64 5] := by
    have h := hown
    obtain ⟨_, hn | ⟨g, cap, cur, rfl, _⟩⟩ := h
    · exact absurd hn.2 (by simp)
    · exact ⟨g, cap, rfl, hown⟩
  have c0 : w2.cell? ⟨g, 0, none⟩ = some (.int .i64 64) := hg.cellAt 0 (by omega)
  have hS2' := Lib.hid hS2
  have hb2' := Lib.hid hb2
  have hz1 : w.heap.size + 1 < w1.heap.size := by exact hS1'.out.2.2.2.2
  have ht2 : w2.cell? ⟨0, 31, none⟩ = some (.int .u8 5) := by
    rw [← ht]
    exact (hb2'.out.cell (p := ⟨0, 31, none⟩) (by show 0 < _; omega)).trans ((hb1'.out.cell (p := ⟨0, 31, none⟩) (by show 0 < _; omega)).trans (((Below.refl w.heap.size w).alloc (Nat.le_refl _) _).cell (p := ⟨0, 31, none⟩) h0))
  have ht2' := Lib.hid ht2
  clear hS2 hb2 hown hg ht2
  go_wp2_with fail
  refine (top_40_1 _ _ hS2'.out).mono ?_; rintro e w' ⟨rfl, rfl⟩
  go_wp2_with fail
  refine (len_40_1 _ _ hS2'.out).mono ?_; rintro e w' ⟨rfl, rfl⟩
  go_wp2_with fail
  refine (next_3 _ _ hS2'.out ht2'.out).mono ?_; rintro e w' ⟨rfl, rfl⟩
  go_wp2_with fail
  refine (drop_64_40_1 _ _ hS2'.out).mono ?_; rintro e w3 ⟨rfl, hS3, hg3⟩; have hS3' := Lib.hid hS3; have hg3' := Lib.hid hg3; clear hS3 hg3
  go_wp2_with fail
  refine (drop_64_40_0 _ _ hS3'.out).mono ?_; rintro e w4 ⟨rfl, hS4, hg4⟩; have hS4' := Lib.hid hS4; have hg4' := Lib.hid hg4; clear hS4 hg4
  go_wp2_with fail
  refine (top_40_0 _ _ hS4'.out).mono ?_; rintro e w' ⟨rfl, rfl⟩
  go_wp2_with fail
  refine (put_m1_40_0 _ _ hS4'.out).mono ?_; rintro e w5 ⟨rfl, hS5, hg5⟩; have hg5' := Lib.hid hg5; have hz4 := hS4'.out.2.2.2.2; clear hS5 hg5
  go_wp2
  go_ret
  refine ⟨rfl, ?_⟩
  have z2 := hb2'.out.size
  have z3 := hg3'.out.size
  have z4 := hg4'.out.size
  have A := ((Below.refl w.heap.size w).alloc (Nat.le_refl _) (.cells #[.int .i64 3, .int .i64 64, .int .i64 5, .int .i64 99] 3)).trans (hb1'.out.mono (Nat.le_succ _))
  have B := A.trans (hb2'.out.mono (by omega))
  have C := B.trans (below_of_grownBy hg3'.out (Nat.le_succ _) (by omega))
  have D := C.trans (below_of_grownBy hg4'.out (Nat.le_succ _) (by omega))
  exact D.trans (below_of_grownBy hg5'.out (Nat.le_succ _) (by omega))

theorem put_nil (n : Int) (w : World) : Calls Tryd.prog 5 #[.pointer none, .int .i64 n] w fun e w' => e = .returned (.bool false) ∧ w = w' := by
  go_enter Tryd.func5, Tryd.ntmps5
  go_wp2
  go_ret
  exact ⟨rfl, rfl⟩
theorem has_nil (n : Int) (w : World) : Calls Tryd.prog 7 #[.pointer none, .int .i64 n] w fun e w' => e = .returned (.bool false) ∧ Below w.heap.size w w' := by
  go_enter Tryd.func7, Tryd.ntmps7
  go_wp2
  go_quiet (fail)
  go_wp2
  go_ret
  exact ⟨rfl, below_drewN (Below.refl _ _) _⟩
theorem drop_nil (n : Int) (w : World) : Calls Tryd.prog 6 #[.pointer none, .int .i64 n] w fun e w' => e = .returned (.bool false) ∧ Below w.heap.size w w' := by
  go_enter Tryd.func6, Tryd.ntmps6
  go_wp2_with (go_at_call 7; refine (has_nil n _).mono ?_; rintro e w1 ⟨rfl, hb⟩; have hb' := Lib.hid hb; clear hb)
  go_ret
  exact ⟨rfl, hb'.out⟩
theorem top_nil (w : World) : Calls Tryd.prog 8 #[.pointer none] w fun e w' => e = .returned (.int .i64 (-1)) ∧ w = w' := by
  go_enter Tryd.func8, Tryd.ntmps8
  go_wp2
  go_ret
  exact ⟨rfl, rfl⟩
theorem next_nil (n : Int) (w : World) : Calls Tryd.prog 9 #[.pointer none, .int .i64 n] w fun e w' => e = .returned (.int .i64 (-1)) ∧ w = w' := by
  go_enter Tryd.func9, Tryd.ntmps9
  go_wp2
  go_ret
  exact ⟨rfl, rfl⟩
theorem len_nil (w : World) : Calls Tryd.prog 10 #[.pointer none] w fun e w' => e = .returned (.int .i64 0) ∧ w = w' := by
  go_enter Tryd.func10, Tryd.ntmps10
  go_wp2
  go_ret
  exact ⟨rfl, rfl⟩
theorem above_nil (n : Int) (w : World) : Calls Tryd.prog 11 #[.pointer none, .int .i64 n] w fun e w' => e = .returned (.slice none 0 0) ∧ w = w' := by
  go_enter Tryd.func11, Tryd.ntmps11
  go_wp2
  go_ret
  exact ⟨rfl, rfl⟩
theorem none_any (n : Int) (w : World) (h0 : 0 < w.heap.size) (ht : w.cell? ⟨0, 31, none⟩ = some (.int .u8 5)) : Calls Tryd.prog 3 #[.int .i64 n] w fun e w' => e = .returned (.bool true) ∧ Below w.heap.size w w' := by
  go_enter Tryd.func3, Tryd.ntmps3
  go_wp2_with fail
  refine (fixed_any _ h0 ht).mono ?_; rintro e w1 ⟨rfl, h1⟩; have h1' := Lib.hid h1; clear h1
  go_wp2_with (first | (go_at_call 5; refine (put_nil n _).mono ?_; rintro e w' ⟨rfl, rfl⟩) | (go_at_call 6; refine (drop_nil n _).mono ?_; rintro e w2 ⟨rfl, h2⟩; have h2' := Lib.hid h2; clear h2) | (go_at_call 7; refine (has_nil n _).mono ?_; rintro e w3 ⟨rfl, h3⟩; have h3' := Lib.hid h3; clear h3) | (go_at_call 8; refine (top_nil _).mono ?_; rintro e w' ⟨rfl, rfl⟩) | (go_at_call 9; refine (next_nil n _).mono ?_; rintro e w' ⟨rfl, rfl⟩) | (go_at_call 10; refine (len_nil _).mono ?_; rintro e w' ⟨rfl, rfl⟩) | (go_at_call 11; refine (above_nil n _).mono ?_; rintro e w' ⟨rfl, rfl⟩))
  go_ret
  refine ⟨rfl, ?_⟩
  have z1 := h1'.out.size
  have z2 := h2'.out.size
  exact (h1'.out.trans (h2'.out.mono z1)).trans (h3'.out.mono (Nat.le_trans z1 z2))
end Go.Proofs.YtafcdjmbbpnbiaaDoor
