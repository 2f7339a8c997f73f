/- The contracts of the functions that BandNone calls, at the numbers at which it calls them. -/
import Derived.Test.YtafcdjmbbpnbiaaDoorRows
import Derived.WalkKit
import Derived.ProofKit
import Derived.OpenShut
import Derived.Below
import Derived.Deep.QuietTactic
import Derived.BigQuiet
import Derived.StillTailTactics
import Derived.Outline
import Derived.IntWalk
import Derived.WalkLawsBesides
import Derived.WalkSpells
import Derived.Lib.Hide
import Derived.WalkSmall
import Derived.OwnWalk
import Derived.Maps.AppendAt
import Derived.KernelRfl
namespace Go.Proofs.YtafcdjmbbpnbiaaDoor
open Go.RowKit

/-- The set of the block b has these two words. -/
def St (w : World) (b : Nat) (x y : Int) : Prop :=
  w.cell? ⟨b, 0, none⟩ = some (.int .u64 x) ∧ w.cell? ⟨b, 1, none⟩ = some (.int .u64 y) ∧ w.frozen? ⟨b, 0, none⟩ = false ∧ w.frozen? ⟨b, 1, none⟩ = false ∧ b < w.heap.size
/-- What a call leaves: an answer, the set of the block b with two words, and all below b as it was. -/
def Left2 (w : World) (b : Nat) (x y : Int) (v : Value) (e : Ending) (w' : World) : Prop := e = .returned v ∧ St w' b x y ∧ w.grownBy w' (some b)
theorem grownBy_drewN {a w : World} {row : Option Nat} (h : a.grownBy w row) (n : Nat) : a.grownBy (w.drewN n) row := h.trans ⟨rfl, rfl, rfl, Nat.le_refl _, fun _ _ _ => rfl⟩
theorem grownBy_drew1 {a w : World} {row : Option Nat} (h : a.grownBy w row) : a.grownBy ({ w with drawn := w.drawn + 1 } : World) row := h.trans ⟨rfl, rfl, rfl, Nat.le_refl _, fun _ _ _ => rfl⟩
theorem grownBy_setCell {a w : World} {b : Nat} (h : a.grownBy w (some b)) (o : Nat) (u : Value) : a.grownBy (w.setCell ⟨b, o, none⟩ u) (some b) :=
  h.trans ⟨rfl, rfl, rfl, by simp, fun k _ hk => Below.heap_setCell w _ u k (fun e => hk (by rw [e]))⟩
theorem below_of_grownBy {a w : World} {b B : Nat} (h : a.grownBy w (some b)) (hB : B ≤ b) (hb : B ≤ a.heap.size) : Below B a w :=
  ⟨h.os, h.tape, h.output, h.size, fun k hk => h.block k (Nat.lt_of_lt_of_le hk hb) (fun e => by cases e; omega)⟩
theorem St.set0 {W : World} {b : Nat} {x y v x' : Int} (h : St W b x y) (e : v = x') : St (W.setCell ⟨b, 0, none⟩ (.int .u64 v)) b x' y := by
  obtain ⟨h0, h1, f0, f1, hb⟩ := h
  subst e
  exact ⟨by simp [go_sem, h0], by simp [go_sem, h1], by simp [go_sem, f0], by simp [go_sem, f1], by simpa using hb⟩
theorem St.set1 {W : World} {b : Nat} {x y v y' : Int} (h : St W b x y) (e : v = y') : St (W.setCell ⟨b, 1, none⟩ (.int .u64 v)) b x y' := by
  obtain ⟨h0, h1, f0, f1, hb⟩ := h
  subst e
  exact ⟨by simp [go_sem, h0], by simp [go_sem, h1], by simp [go_sem, f0], by simp [go_sem, f1], by simpa using hb⟩
theorem pri (n : Int) (w : World) : Calls Tryd.prog 13 #[.int .i64 n] w fun e w' => e = .returned (.bool (decide (0 ≤ n) && decide (n ≤ 64))) ∧ w' = w := by
  by_cases h : 0 ≤ n
  · go_enter Tryd.func13, Tryd.ntmps13
    go_wp2
    go_ret
    exact ⟨by simp [h], rfl⟩
  · go_enter Tryd.func13, Tryd.ntmps13
    go_wp2
    go_ret
    exact ⟨by simp; omega, rfl⟩
theorem pri_3 (w : World) : Calls Tryd.prog 13 #[.int .i64 3] w fun e w' => e = .returned (.bool true) ∧ w' = w := pri 3 w
theorem pri_5 (w : World) : Calls Tryd.prog 13 #[.int .i64 5] w fun e w' => e = .returned (.bool true) ∧ w' = w := pri 5 w
theorem pri_64 (w : World) : Calls Tryd.prog 13 #[.int .i64 64] w fun e w' => e = .returned (.bool true) ∧ w' = w := pri 64 w
theorem pri_99 (w : World) : Calls Tryd.prog 13 #[.int .i64 99] w fun e w' => e = .returned (.bool false) ∧ w' = w := pri 99 w
theorem pri_m1 (w : World) : Calls Tryd.prog 13 #[.int .i64 (-1)] w fun e w' => e = .returned (.bool false) ∧ w' = w := pri (-1) w
theorem bit_3 (w : World) : Calls Tryd.prog 14 #[.int .i64 3] w fun e w' => e = .returned (.int .u64 8) ∧ w' = w := by
  go_enter Tryd.func14, Tryd.ntmps14
  go_wp2
  go_ret
  exact ⟨rfl, rfl⟩
theorem bit_4 (w : World) : Calls Tryd.prog 14 #[.int .i64 4] w fun e w' => e = .returned (.int .u64 16) ∧ w' = w := by
  go_enter Tryd.func14, Tryd.ntmps14
  go_wp2
  go_ret
  exact ⟨rfl, rfl⟩
theorem bit_5 (w : World) : Calls Tryd.prog 14 #[.int .i64 5] w fun e w' => e = .returned (.int .u64 32) ∧ w' = w := by
  go_enter Tryd.func14, Tryd.ntmps14
  go_wp2
  go_ret
  exact ⟨rfl, rfl⟩
theorem bit_64 (w : World) : Calls Tryd.prog 14 #[.int .i64 64] w fun e w' => e = .returned (.int .u64 1) ∧ w' = w := by
  go_enter Tryd.func14, Tryd.ntmps14
  go_wp2
  go_ret
  exact ⟨rfl, rfl⟩
set_option maxRecDepth 100000 in
theorem lead_1 (w : World) : Calls Tryd.prog 15 #[.int .u64 1] w fun e w' => e = .returned (.int .i64 63) ∧ w' = w := by
  go_enter Tryd.func15, Tryd.ntmps15
  go_wp2
  go_ret
  exact ⟨by kernel_rfl, rfl⟩
set_option maxRecDepth 100000 in
theorem lead_40 (w : World) : Calls Tryd.prog 15 #[.int .u64 40] w fun e w' => e = .returned (.int .i64 58) ∧ w' = w := by
  go_enter Tryd.func15, Tryd.ntmps15
  go_wp2
  go_ret
  exact ⟨by kernel_rfl, rfl⟩
set_option maxRecDepth 100000 in
theorem lead_8 (w : World) : Calls Tryd.prog 15 #[.int .u64 8] w fun e w' => e = .returned (.int .i64 60) ∧ w' = w := by
  go_enter Tryd.func15, Tryd.ntmps15
  go_wp2
  go_ret
  exact ⟨by kernel_rfl, rfl⟩
theorem ones_1 (w : World) : Calls Tryd.prog 17 #[.int .u64 1] w fun e w' => e = .returned (.int .i64 1) ∧ w' = w := by
  go_enter Tryd.func17, Tryd.ntmps17
  go_wp2
  go_ret
  exact ⟨by kernel_rfl, rfl⟩
theorem ones_40 (w : World) : Calls Tryd.prog 17 #[.int .u64 40] w fun e w' => e = .returned (.int .i64 2) ∧ w' = w := by
  go_enter Tryd.func17, Tryd.ntmps17
  go_wp2
  go_ret
  exact ⟨by kernel_rfl, rfl⟩
theorem has_3_0_0 (b : Nat) (w : World) (h : St w b 0 0) : Calls Tryd.prog 7 #[.pointer (some ⟨b, 0, none⟩), .int .i64 3] w (Left2 w b 0 0 (.bool false)) := by
  obtain ⟨h0, h1, f0, f1, hb⟩ := h
  go_enter Tryd.func7, Tryd.ntmps7
  go_wp2
  go_quiet ((first | (go_at_call 13; exact Calls.quiet_of_same (pri_3 _)) | (go_at_call 14; exact Calls.quiet_of_same (bit_3 _))))
  go_wp2
  go_ret
  exact ⟨rfl, ⟨h0, h1, f0, f1, hb⟩, grownBy_drewN (World.grownBy.refl _ _) _⟩
theorem has_64_8_0 (b : Nat) (w : World) (h : St w b 8 0) : Calls Tryd.prog 7 #[.pointer (some ⟨b, 0, none⟩), .int .i64 64] w (Left2 w b 8 0 (.bool false)) := by
  obtain ⟨h0, h1, f0, f1, hb⟩ := h
  go_enter Tryd.func7, Tryd.ntmps7
  go_wp2
  go_quiet ((first | (go_at_call 13; exact Calls.quiet_of_same (pri_64 _)) | (go_at_call 14; exact Calls.quiet_of_same (bit_64 _))))
  go_wp2
  go_ret
  exact ⟨rfl, ⟨h0, h1, f0, f1, hb⟩, grownBy_drewN (World.grownBy.refl _ _) _⟩
theorem has_5_8_1 (b : Nat) (w : World) (h : St w b 8 1) : Calls Tryd.prog 7 #[.pointer (some ⟨b, 0, none⟩), .int .i64 5] w (Left2 w b 8 1 (.bool false)) := by
  obtain ⟨h0, h1, f0, f1, hb⟩ := h
  go_enter Tryd.func7, Tryd.ntmps7
  go_wp2
  go_quiet ((first | (go_at_call 13; exact Calls.quiet_of_same (pri_5 _)) | (go_at_call 14; exact Calls.quiet_of_same (bit_5 _))))
  go_wp2
  go_ret
  exact ⟨rfl, ⟨h0, h1, f0, f1, hb⟩, grownBy_drewN (World.grownBy.refl _ _) _⟩
theorem has_64_40_1 (b : Nat) (w : World) (h : St w b 40 1) : Calls Tryd.prog 7 #[.pointer (some ⟨b, 0, none⟩), .int .i64 64] w (Left2 w b 40 1 (.bool true)) := by
  obtain ⟨h0, h1, f0, f1, hb⟩ := h
  go_enter Tryd.func7, Tryd.ntmps7
  go_wp2
  go_quiet ((first | (go_at_call 13; exact Calls.quiet_of_same (pri_64 _)) | (go_at_call 14; exact Calls.quiet_of_same (bit_64 _))))
  go_wp2
  go_ret
  exact ⟨rfl, ⟨h0, h1, f0, f1, hb⟩, grownBy_drewN (World.grownBy.refl _ _) _⟩
theorem has_5_40_0 (b : Nat) (w : World) (h : St w b 40 0) : Calls Tryd.prog 7 #[.pointer (some ⟨b, 0, none⟩), .int .i64 5] w (Left2 w b 40 0 (.bool true)) := by
  obtain ⟨h0, h1, f0, f1, hb⟩ := h
  go_enter Tryd.func7, Tryd.ntmps7
  go_wp2
  go_quiet ((first | (go_at_call 13; exact Calls.quiet_of_same (pri_5 _)) | (go_at_call 14; exact Calls.quiet_of_same (bit_5 _))))
  go_wp2
  go_ret
  exact ⟨rfl, ⟨h0, h1, f0, f1, hb⟩, grownBy_drewN (World.grownBy.refl _ _) _⟩
theorem has_64_40_0 (b : Nat) (w : World) (h : St w b 40 0) : Calls Tryd.prog 7 #[.pointer (some ⟨b, 0, none⟩), .int .i64 64] w (Left2 w b 40 0 (.bool false)) := by
  obtain ⟨h0, h1, f0, f1, hb⟩ := h
  go_enter Tryd.func7, Tryd.ntmps7
  go_wp2
  go_quiet ((first | (go_at_call 13; exact Calls.quiet_of_same (pri_64 _)) | (go_at_call 14; exact Calls.quiet_of_same (bit_64 _))))
  go_wp2
  go_ret
  exact ⟨rfl, ⟨h0, h1, f0, f1, hb⟩, grownBy_drewN (World.grownBy.refl _ _) _⟩
theorem put_3_0_0 (b : Nat) (w : World) (h : St w b 0 0) : Calls Tryd.prog 5 #[.pointer (some ⟨b, 0, none⟩), .int .i64 3] w (Left2 w b 8 0 (.bool true)) := by
  have z0 : IntKind.i64.wrap 0 = 0 := rfl
  have z1 : IntKind.i64.wrap 1 = 1 := rfl
  go_enter Tryd.func5, Tryd.ntmps5
  go_wp2_with (first | (go_at_call 13; refine (pri_3 _).mono ?_; rintro e w1 ⟨rfl, hw⟩; obtain rfl := hw.symm) | (go_at_call 7; refine (has_3_0_0 b _ h).mono ?_; rintro e w1 ⟨rfl, ⟨h0, h1, f0, f1, hb⟩, hbe⟩))
  refine wp_region_still_tail 13 (by kernel_rfl) (by kernel_rfl) ?_
  have hS : St ({ w1 with drawn := w1.drawn + 1 } : World) b 0 0 := ⟨h0, h1, f0, f1, hb⟩
  have hB : w.grownBy ({ w1 with drawn := w1.drawn + 1 } : World) (some b) := grownBy_drew1 hbe
  generalize ({ w1 with drawn := w1.drawn + 1 } : World) = W at hS hB ⊢
  clear h0 h1 f0 f1 hb hbe
  obtain ⟨h0, h1, f0, f1, hb⟩ := hS
  simp only [List.take_succ_cons, List.take_zero, List.drop_succ_cons, List.drop_zero]
  repeat still_step
  still_call (bit_3 _)
  repeat still_step
  refine wpStill_nil ?_
  go_wp2
  go_ret
  exact ⟨rfl, St.set0 ⟨h0, h1, f0, f1, hb⟩ (by kernel_rfl), grownBy_setCell hB _ _⟩
theorem put_64_8_0 (b : Nat) (w : World) (h : St w b 8 0) : Calls Tryd.prog 5 #[.pointer (some ⟨b, 0, none⟩), .int .i64 64] w (Left2 w b 8 1 (.bool true)) := by
  have z0 : IntKind.i64.wrap 0 = 0 := rfl
  have z1 : IntKind.i64.wrap 1 = 1 := rfl
  go_enter Tryd.func5, Tryd.ntmps5
  go_wp2_with (first | (go_at_call 13; refine (pri_64 _).mono ?_; rintro e w1 ⟨rfl, hw⟩; obtain rfl := hw.symm) | (go_at_call 7; refine (has_64_8_0 b _ h).mono ?_; rintro e w1 ⟨rfl, ⟨h0, h1, f0, f1, hb⟩, hbe⟩))
  refine wp_region_still_tail 13 (by kernel_rfl) (by kernel_rfl) ?_
  have hS : St ({ w1 with drawn := w1.drawn + 1 } : World) b 8 0 := ⟨h0, h1, f0, f1, hb⟩
  have hB : w.grownBy ({ w1 with drawn := w1.drawn + 1 } : World) (some b) := grownBy_drew1 hbe
  generalize ({ w1 with drawn := w1.drawn + 1 } : World) = W at hS hB ⊢
  clear h0 h1 f0 f1 hb hbe
  obtain ⟨h0, h1, f0, f1, hb⟩ := hS
  simp only [List.take_succ_cons, List.take_zero, List.drop_succ_cons, List.drop_zero]
  repeat still_step
  still_call (bit_64 _)
  repeat still_step
  refine wpStill_nil ?_
  go_wp2
  go_ret
  exact ⟨rfl, St.set1 ⟨h0, h1, f0, f1, hb⟩ (by kernel_rfl), grownBy_setCell hB _ _⟩
theorem put_5_8_1 (b : Nat) (w : World) (h : St w b 8 1) : Calls Tryd.prog 5 #[.pointer (some ⟨b, 0, none⟩), .int .i64 5] w (Left2 w b 40 1 (.bool true)) := by
  have z0 : IntKind.i64.wrap 0 = 0 := rfl
  have z1 : IntKind.i64.wrap 1 = 1 := rfl
  go_enter Tryd.func5, Tryd.ntmps5
  go_wp2_with (first | (go_at_call 13; refine (pri_5 _).mono ?_; rintro e w1 ⟨rfl, hw⟩; obtain rfl := hw.symm) | (go_at_call 7; refine (has_5_8_1 b _ h).mono ?_; rintro e w1 ⟨rfl, ⟨h0, h1, f0, f1, hb⟩, hbe⟩))
  refine wp_region_still_tail 13 (by kernel_rfl) (by kernel_rfl) ?_
  have hS : St ({ w1 with drawn := w1.drawn + 1 } : World) b 8 1 := ⟨h0, h1, f0, f1, hb⟩
  have hB : w.grownBy ({ w1 with drawn := w1.drawn + 1 } : World) (some b) := grownBy_drew1 hbe
  generalize ({ w1 with drawn := w1.drawn + 1 } : World) = W at hS hB ⊢
  clear h0 h1 f0 f1 hb hbe
  obtain ⟨h0, h1, f0, f1, hb⟩ := hS
  simp only [List.take_succ_cons, List.take_zero, List.drop_succ_cons, List.drop_zero]
  repeat still_step
  still_call (bit_5 _)
  repeat still_step
  refine wpStill_nil ?_
  go_wp2
  go_ret
  exact ⟨rfl, St.set0 ⟨h0, h1, f0, f1, hb⟩ (by kernel_rfl), grownBy_setCell hB _ _⟩
theorem put_99_40_1 (b : Nat) (w : World) (h : St w b 40 1) : Calls Tryd.prog 5 #[.pointer (some ⟨b, 0, none⟩), .int .i64 99] w (Left2 w b 40 1 (.bool false)) := by
  go_enter Tryd.func5, Tryd.ntmps5
  go_wp2_with (go_at_call 13; refine (pri_99 _).mono ?_; rintro e w1 ⟨rfl, hw⟩; obtain rfl := hw.symm)
  go_ret
  exact ⟨rfl, h, World.grownBy.refl _ _⟩
theorem put_m1_40_0 (b : Nat) (w : World) (h : St w b 40 0) : Calls Tryd.prog 5 #[.pointer (some ⟨b, 0, none⟩), .int .i64 (-1)] w (Left2 w b 40 0 (.bool false)) := by
  go_enter Tryd.func5, Tryd.ntmps5
  go_wp2_with (go_at_call 13; refine (pri_m1 _).mono ?_; rintro e w1 ⟨rfl, hw⟩; obtain rfl := hw.symm)
  go_ret
  exact ⟨rfl, h, World.grownBy.refl _ _⟩
theorem drop_64_40_1 (b : Nat) (w : World) (h : St w b 40 1) : Calls Tryd.prog 6 #[.pointer (some ⟨b, 0, none⟩), .int .i64 64] w (Left2 w b 40 0 (.bool true)) := by
  have z0 : IntKind.i64.wrap 0 = 0 := rfl
  have z1 : IntKind.i64.wrap 1 = 1 := rfl
  go_enter Tryd.func6, Tryd.ntmps6
  go_wp2_with (go_at_call 7; refine (has_64_40_1 b _ h).mono ?_; rintro e w1 ⟨rfl, ⟨h0, h1, f0, f1, hb⟩, hbe⟩)
  refine wp_region_still_tail 13 (by kernel_rfl) (by kernel_rfl) ?_
  have hS : St ({ w1 with drawn := w1.drawn + 1 } : World) b 40 1 := ⟨h0, h1, f0, f1, hb⟩
  have hB : w.grownBy ({ w1 with drawn := w1.drawn + 1 } : World) (some b) := grownBy_drew1 hbe
  generalize ({ w1 with drawn := w1.drawn + 1 } : World) = W at hS hB ⊢
  clear h0 h1 f0 f1 hb hbe
  obtain ⟨h0, h1, f0, f1, hb⟩ := hS
  simp only [List.take_succ_cons, List.take_zero, List.drop_succ_cons, List.drop_zero]
  repeat still_step
  still_call (bit_64 _)
  repeat still_step
  refine wpStill_nil ?_
  go_wp2
  go_ret
  exact ⟨rfl, St.set1 ⟨h0, h1, f0, f1, hb⟩ (by kernel_rfl), grownBy_setCell hB _ _⟩
theorem drop_5_40_0 (b : Nat) (w : World) (h : St w b 40 0) : Calls Tryd.prog 6 #[.pointer (some ⟨b, 0, none⟩), .int .i64 5] w (Left2 w b 8 0 (.bool true)) := by
  have z0 : IntKind.i64.wrap 0 = 0 := rfl
  have z1 : IntKind.i64.wrap 1 = 1 := rfl
  go_enter Tryd.func6, Tryd.ntmps6
  go_wp2_with (go_at_call 7; refine (has_5_40_0 b _ h).mono ?_; rintro e w1 ⟨rfl, ⟨h0, h1, f0, f1, hb⟩, hbe⟩)
  refine wp_region_still_tail 13 (by kernel_rfl) (by kernel_rfl) ?_
  have hS : St ({ w1 with drawn := w1.drawn + 1 } : World) b 40 0 := ⟨h0, h1, f0, f1, hb⟩
  have hB : w.grownBy ({ w1 with drawn := w1.drawn + 1 } : World) (some b) := grownBy_drew1 hbe
  generalize ({ w1 with drawn := w1.drawn + 1 } : World) = W at hS hB ⊢
  clear h0 h1 f0 f1 hb hbe
  obtain ⟨h0, h1, f0, f1, hb⟩ := hS
  simp only [List.take_succ_cons, List.take_zero, List.drop_succ_cons, List.drop_zero]
  repeat still_step
  still_call (bit_5 _)
  repeat still_step
  refine wpStill_nil ?_
  go_wp2
  go_ret
  exact ⟨rfl, St.set0 ⟨h0, h1, f0, f1, hb⟩ (by kernel_rfl), grownBy_setCell hB _ _⟩
theorem drop_64_40_0 (b : Nat) (w : World) (h : St w b 40 0) : Calls Tryd.prog 6 #[.pointer (some ⟨b, 0, none⟩), .int .i64 64] w (Left2 w b 40 0 (.bool false)) := by
  go_enter Tryd.func6, Tryd.ntmps6
  go_wp2_with (go_at_call 7; refine (has_64_40_0 b _ h).mono ?_; rintro e w1 ⟨rfl, hS, hbe⟩)
  go_ret
  exact ⟨rfl, hS, hbe⟩
theorem lead_of (n k : Int) (w : World) (h : Calls Tryd.prog 15 #[.int .u64 n] w fun e w' => e = .returned (.int .i64 k) ∧ w' = w) : Calls Tryd.prog 15 #[.int .u64 n] w fun e w' => e = .returned (.int .i64 k) ∧ w = w' := h.mono fun _ _ g => ⟨g.1, g.2.symm⟩
theorem top_40_1 (b : Nat) (w : World) (h : St w b 40 1) : Calls Tryd.prog 8 #[.pointer (some ⟨b, 0, none⟩)] w fun e w' => e = .returned (.int .i64 64) ∧ w = w' := by
  obtain ⟨h0, h1, f0, f1, hb⟩ := h
  go_enter Tryd.func8, Tryd.ntmps8
  go_wp2
  go_loop [3, 4] (fun i _ => i = .int .i64 1) (fun i _ => (intOf i).toNat)
  case atStart => exact rfl
  case round =>
    obtain rfl := hrel
    go_wp2_with (go_at_call 15; refine (lead_of 1 63 _ (lead_1 _)).mono ?_; rintro e w' ⟨rfl, rfl⟩)
    go_ret
    exact ⟨rfl, rfl⟩
theorem top_40_0 (b : Nat) (w : World) (h : St w b 40 0) : Calls Tryd.prog 8 #[.pointer (some ⟨b, 0, none⟩)] w fun e w' => e = .returned (.int .i64 5) ∧ w = w' := by
  obtain ⟨h0, h1, f0, f1, hb⟩ := h
  go_enter Tryd.func8, Tryd.ntmps8
  go_wp2
  go_loop [3, 4] (fun i _ => i = .int .i64 1 ∨ i = .int .i64 0) (fun i _ => (intOf i).toNat)
  case atStart => exact .inl rfl
  case round =>
    rcases hrel with rfl | rfl
    · go_wp2
      go_round
      case rel => exact .inr rfl
      case measure => simp [intOf]
    · go_wp2_with (go_at_call 15; refine (lead_of 40 58 _ (lead_40 _)).mono ?_; rintro e w' ⟨rfl, rfl⟩)
      go_ret
      exact ⟨rfl, rfl⟩
theorem top_8_0 (b : Nat) (w : World) (h : St w b 8 0) : Calls Tryd.prog 8 #[.pointer (some ⟨b, 0, none⟩)] w fun e w' => e = .returned (.int .i64 3) ∧ w = w' := by
  obtain ⟨h0, h1, f0, f1, hb⟩ := h
  go_enter Tryd.func8, Tryd.ntmps8
  go_wp2
  go_loop [3, 4] (fun i _ => i = .int .i64 1 ∨ i = .int .i64 0) (fun i _ => (intOf i).toNat)
  case atStart => exact .inl rfl
  case round =>
    rcases hrel with rfl | rfl
    · go_wp2
      go_round
      case rel => exact .inr rfl
      case measure => simp [intOf]
    · go_wp2_with (go_at_call 15; refine (lead_of 8 60 _ (lead_8 _)).mono ?_; rintro e w' ⟨rfl, rfl⟩)
      go_ret
      exact ⟨rfl, rfl⟩
theorem ones_of (n k : Int) (w : World) (h : Calls Tryd.prog 17 #[.int .u64 n] w fun e w' => e = .returned (.int .i64 k) ∧ w' = w) : Calls Tryd.prog 17 #[.int .u64 n] w fun e w' => e = .returned (.int .i64 k) ∧ w = w' := h.mono fun _ _ g => ⟨g.1, g.2.symm⟩
theorem len_40_1 (b : Nat) (w : World) (h : St w b 40 1) : Calls Tryd.prog 10 #[.pointer (some ⟨b, 0, none⟩)] w fun e w' => e = .returned (.int .i64 3) ∧ w = w' := by
  obtain ⟨h0, h1, f0, f1, hb⟩ := h
  have i0 : ∀ w, (Instr.index 31 (.agg #[.int .u64 40, .int .u64 1]) (.int .i64 0)).run Tryd.prog w = .ok (.int .u64 40) w := fun _ => by kernel_rfl
  have i1 : ∀ w, (Instr.index 31 (.agg #[.int .u64 40, .int .u64 1]) (.int .i64 1)).run Tryd.prog w = .ok (.int .u64 1) w := fun _ => by kernel_rfl
  go_enter Tryd.func10, Tryd.ntmps10
  go_wp2
  go_loop [3, 5, 12] (fun n _ i => (n = .int .i64 0 ∧ i = .int .i64 0) ∨ (n = .int .i64 2 ∧ i = .int .i64 1) ∨ (n = .int .i64 3 ∧ i = .int .i64 2)) (fun _ _ i => 2 - (intOf i).toNat)
  case atStart => exact .inl ⟨rfl, rfl⟩
  case round =>
    rcases hrel with ⟨rfl, rfl⟩ | ⟨rfl, rfl⟩ | ⟨rfl, rfl⟩
    · go_wp2_with (go_at_call 17; refine (ones_of 40 2 _ (ones_40 _)).mono ?_; rintro e w' ⟨rfl, rfl⟩)
      go_round
      case rel => exact .inr (.inl ⟨rfl, rfl⟩)
      case measure => simp [intOf]
    · go_wp2_with (go_at_call 17; refine (ones_of 1 1 _ (ones_1 _)).mono ?_; rintro e w' ⟨rfl, rfl⟩)
      go_round
      case rel => exact .inr (.inr ⟨rfl, rfl⟩)
      case measure => simp [intOf]
    · go_wp2
      go_ret
      exact ⟨rfl, rfl⟩
theorem tz_32 (w : World) (h : w.cell? ⟨0, 31, none⟩ = some (.int .u8 5)) : Calls Tryd.prog 16 #[.int .u64 32] w fun e w' => e = .returned (.int .i64 5) ∧ w = w' := by
  have e1 : bits BinOp.and IntKind.u64 32 (IntKind.u64.wrap (-32)) = 32 := by kernel_rfl
  go_enter Tryd.func16, Tryd.ntmps16
  go_wp2
  go_ret
  exact ⟨by kernel_rfl, rfl⟩
theorem bit_4w (w : World) : Calls Tryd.prog 14 #[.int .i64 4] w fun e w' => e = .returned (.int .u64 16) ∧ w = w' := (bit_4 w).mono fun _ _ g => ⟨g.1, g.2.symm⟩
theorem next_3 (b : Nat) (w : World) (h : St w b 40 1) (ht : w.cell? ⟨0, 31, none⟩ = some (.int .u8 5)) : Calls Tryd.prog 9 #[.pointer (some ⟨b, 0, none⟩), .int .i64 3] w fun e w' => e = .returned (.int .i64 5) ∧ w = w' := by
  obtain ⟨h0, h1, f0, f1, hb⟩ := h
  have e1 : bits BinOp.andNot IntKind.u64 40 15 = 32 := by kernel_rfl
  go_enter Tryd.func9, Tryd.ntmps9
  go_wp2_with (go_at_call 14; refine (bit_4w _).mono ?_; rintro e w' ⟨rfl, rfl⟩)
  go_loop [6, 7, 8] (fun p i _ => p = .int .u64 15 ∧ i = .int .i64 0) (fun _ _ _ => 0)
  case atStart => exact ⟨rfl, rfl⟩
  case round =>
    obtain ⟨rfl, rfl⟩ := hrel
    go_wp2_with (go_at_call 16; refine (tz_32 _ ht).mono ?_; rintro e w' ⟨rfl, rfl⟩)
    go_ret
    exact ⟨rfl, rfl⟩
def New4 (w : World) (e : Ending) (w' : World) : Prop := e = .returned (.pointer (some ⟨w.heap.size, 0, none⟩)) ∧ St w' w.heap.size 40 1 ∧ Below w.heap.size w w'
theorem new_4 (a : Nat) (w : World) (ha : a < w.heap.size) (c0 : w.cell? ⟨a, 0, none⟩ = some (.int .i64 3)) (c1 : w.cell? ⟨a, 1, none⟩ = some (.int .i64 64)) (c2 : w.cell? ⟨a, 2, none⟩ = some (.int .i64 5)) (c3 : w.cell? ⟨a, 3, none⟩ = some (.int .i64 99)) :
    Calls Tryd.prog 12 #[.slice (some ⟨a, 0, none⟩) 4 4] w (New4 w) := by
  have C0 := Lib.hid c0
  have C1 := Lib.hid c1
  have C2 := Lib.hid c2
  have C3 := Lib.hid c3
  clear c0 c1 c2 c3
  go_enter Tryd.func12, Tryd.ntmps12
  go_wp2
  go_loopw [5, 10] (fun _ i wr => Below w.heap.size w wr ∧ ((i = .int .i64 0 ∧ St wr w.heap.size 0 0) ∨ (i = .int .i64 1 ∧ St wr w.heap.size 8 0) ∨ (i = .int .i64 2 ∧ St wr w.heap.size 8 1) ∨ (i = .int .i64 3 ∧ St wr w.heap.size 40 1) ∨ (i = .int .i64 4 ∧ St wr w.heap.size 40 1))) (fun _ i _ => 4 - (intOf i).toNat)
  case atStart => exact ⟨(Below.refl _ _).alloc (Nat.le_refl _) _, .inl ⟨rfl, by simp [St, go_sem]⟩⟩
  case round =>
    obtain ⟨hbe, hrel⟩ := hrel
    have D0 := (hbe.cell (p := ⟨a, 0, none⟩) ha).trans C0.out
    have D1 := (hbe.cell (p := ⟨a, 1, none⟩) ha).trans C1.out
    have D2 := (hbe.cell (p := ⟨a, 2, none⟩) ha).trans C2.out
    have D3 := (hbe.cell (p := ⟨a, 3, none⟩) ha).trans C3.out
    have hbe' := Lib.hid hbe
    clear hbe
    rcases hrel with ⟨rfl, hS⟩ | ⟨rfl, hS⟩ | ⟨rfl, hS⟩ | ⟨rfl, hS⟩ | ⟨rfl, hS⟩
    · go_wp2_with (go_at_call 5; refine (put_3_0_0 _ _ hS).mono ?_; rintro e w1 ⟨rfl, hT, hB⟩; have hT' := Lib.hid hT; have hB' := Lib.hid hB; clear hT hB)
      go_roundw
      case rel =>
        have hT := hT'.out
        exact ⟨hbe'.out.trans (below_of_grownBy hB'.out (Nat.le_refl _) hbe'.out.size), .inr (.inl ⟨rfl, hT⟩)⟩
      case measure => simp [intOf]
    · go_wp2_with (go_at_call 5; refine (put_64_8_0 _ _ hS).mono ?_; rintro e w1 ⟨rfl, hT, hB⟩; have hT' := Lib.hid hT; have hB' := Lib.hid hB; clear hT hB)
      go_roundw
      case rel =>
        have hT := hT'.out
        exact ⟨hbe'.out.trans (below_of_grownBy hB'.out (Nat.le_refl _) hbe'.out.size), .inr (.inr (.inl ⟨rfl, hT⟩))⟩
      case measure => simp [intOf]
    · go_wp2_with (go_at_call 5; refine (put_5_8_1 _ _ hS).mono ?_; rintro e w1 ⟨rfl, hT, hB⟩; have hT' := Lib.hid hT; have hB' := Lib.hid hB; clear hT hB)
      go_roundw
      case rel =>
        have hT := hT'.out
        exact ⟨hbe'.out.trans (below_of_grownBy hB'.out (Nat.le_refl _) hbe'.out.size), .inr (.inr (.inr (.inl ⟨rfl, hT⟩)))⟩
      case measure => simp [intOf]
    · go_wp2_with (go_at_call 5; refine (put_99_40_1 _ _ hS).mono ?_; rintro e w1 ⟨rfl, hT, hB⟩; have hT' := Lib.hid hT; have hB' := Lib.hid hB; clear hT hB)
      go_roundw
      case rel =>
        have hT := hT'.out
        exact ⟨hbe'.out.trans (below_of_grownBy hB'.out (Nat.le_refl _) hbe'.out.size), .inr (.inr (.inr (.inr ⟨rfl, hT⟩)))⟩
      case measure => simp [intOf]
    · go_wp2
      go_ret
      exact ⟨rfl, hS, hbe'.out⟩
end Go.Proofs.YtafcdjmbbpnbiaaDoor
