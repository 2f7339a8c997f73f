/- The law of lines. -/
import Derived.Test.YtgfgjbbpochiiaaDoorSf
namespace Go.Proofs.YtgfgjbbpochiiaaDoor
open Go Go.RowKit

theorem evO_nil : evO [] = none := evO_no fun e he => by
  have h := he.2
  have hp := itoa_pos e.at_
  have : (lineE e).length = 0 := by rw [h]; rfl
  unfold lineE wordsE at this
  simp only [joinL] at this
  rw [List.length_append] at this
  omega
set_option maxRecDepth 100000 in
set_option maxHeartbeats 4000000 in
theorem lines_law {w : World} (hb : Bas w) (r : EvV) (hf : r.fit) : Calls Tryd.prog 3 #[r.val] w (GrowB true w) := by
  obtain ⟨W1, hW1⟩ : ∃ W1, W1 = w.alloc (.cells r.cells.toArray 23) := ⟨_, rfl⟩
  have hO1 : Only (fun _ => False) w W1 := by rw [hW1]; exact (Only.refl _ w).alloc _
  have h1 : W1.heap[w.heap.size]? = some (.cells r.cells.toArray 23 (0, 0)) := by rw [hW1]; exact heap_new_at _ _ rfl
  have hB := Lib.hid (fun W (hW : Only (fun _ => False) W1 W) => (hb.new hO1).new hW)
  have q0 := Lib.hid (fixed_any (hb.new hO1))
  have q1 := Lib.hid (fun W (hW : Only (fun _ => False) W1 W) => line_any (hB.out W hW) r hf)
  have q2 := Lib.hid (fun W => rline_any W r)
  have hW1' := Lib.hid hW1
  have hO1' := Lib.hid hO1
  have c0 := row_cell h1 (i := 0) rfl
  have c1 := row_cell h1 (i := 1) rfl
  have c2 := row_cell h1 (i := 2) rfl
  have c3 := row_cell h1 (i := 3) rfl
  have c4 := row_cell h1 (i := 4) rfl
  have hl := row_lt h1
  unfold LineEnd at q1 q2
  by_cases hk : okE r
  · have q3 := Lib.hid (fun W (hW : Only (fun _ => False) W1 W) => parse_any (hB.out W hW) (lineE r) (Nat.le_trans (lineE_len hk) (by omega)))
    unfold ParseEnd at q3
    rw [evO_is ⟨hk, rfl⟩] at q3
    rw [if_pos hk, decide_eq_true hk] at q1 q2
    obtain ⟨L, hL⟩ : ∃ L, L = toBA (lineE r) := ⟨_, rfl⟩
    rw [← hL] at q1 q2 q3
    clear hO1 hb hf hW1 h1 hB hL hk
    obtain ⟨x0, x1, x2, x3, x4⟩ := r
    unfold EvV.val at q1 q2 q3 ⊢
    unfold EvV.cells at hW1'
    simp only [Option.getD_some, Option.isSome_some] at q3
    dsimp only at q1 q2 q3 hW1' c0 c1 c2 c3 c4 ⊢
    go_enter Tryd.func3, Tryd.ntmps3
    go_wp2_with fail
    rw [← hW1'.out]
    refine q0.out.mono ?_
    rintro e w2 ⟨rfl, hO2⟩
    have hO2' := Lib.hid hO2
    replace c0 := hO2.cell c0 (fun h => h)
    replace c1 := hO2.cell c1 (fun h => h)
    replace c2 := hO2.cell c2 (fun h => h)
    replace c3 := hO2.cell c3 (fun h => h)
    replace c4 := hO2.cell c4 (fun h => h)
    replace hl := Nat.lt_of_lt_of_le hl hO2.size
    clear hO2
    go_wp2_with fail
    refine (q1.out _ hO2'.out).mono ?_
    rintro e w3 ⟨rfl, hO3⟩
    have hO3' := Lib.hid (hO2'.out.trans' hO3)
    replace c0 := hO3.cell c0 (fun h => h)
    replace c1 := hO3.cell c1 (fun h => h)
    replace c2 := hO3.cell c2 (fun h => h)
    replace c3 := hO3.cell c3 (fun h => h)
    replace c4 := hO3.cell c4 (fun h => h)
    replace hl := Nat.lt_of_lt_of_le hl hO3.size
    clear hO3
    go_wp2_with fail
    refine (q2.out _).mono ?_
    rintro e w4 ⟨rfl, hO4⟩
    have hO4' := Lib.hid (hO3'.out.trans' hO4)
    replace c0 := hO4.cell c0 (fun h => h)
    replace c1 := hO4.cell c1 (fun h => h)
    replace c2 := hO4.cell c2 (fun h => h)
    replace c3 := hO4.cell c3 (fun h => h)
    replace c4 := hO4.cell c4 (fun h => h)
    replace hl := Nat.lt_of_lt_of_le hl hO4.size
    clear hO4
    go_wp2_with fail
    refine (q3.out _ hO4'.out).mono ?_
    rintro e w5 ⟨rfl, hO5⟩
    have hO5' := Lib.hid (hO4'.out.trans' hO5)
    replace c0 := hO5.cell c0 (fun h => h)
    replace c1 := hO5.cell c1 (fun h => h)
    replace c2 := hO5.cell c2 (fun h => h)
    replace c3 := hO5.cell c3 (fun h => h)
    replace c4 := hO5.cell c4 (fun h => h)
    replace hl := Nat.lt_of_lt_of_le hl hO5.size
    clear hO5
    go_wp2
    go_ret
    exact ⟨rfl, (hO1'.out.trans' hO5'.out).alloc _⟩
  · have q3 := Lib.hid (fun W (hW : Only (fun _ => False) W1 W) => parse_any (hB.out W hW) [] (by simp))
    unfold ParseEnd at q3
    rw [evO_nil] at q3
    rw [if_neg hk, decide_eq_false hk] at q1 q2
    have q4 := Lib.hid (show ∀ W, Only (fun _ => False) W1 W → Calls Tryd.prog 9 #[.string ⟨#[]⟩] W (fun e w' => e = .returned (.tuple #[.agg #[.int .i64 0, .int .i64 0, .int .i64 0, .int .i64 0, .int .i64 0], .bool false]) ∧ Only (fun _ => False) W w') from q3.out)
    clear hO1 hb hf hW1 h1 hB hk q3
    obtain ⟨x0, x1, x2, x3, x4⟩ := r
    unfold EvV.val at q1 q2 ⊢
    unfold EvV.cells at hW1'
    dsimp only at q1 q2 hW1' c0 c1 c2 c3 c4 ⊢
    go_enter Tryd.func3, Tryd.ntmps3
    go_wp2_with fail
    rw [← hW1'.out]
    refine q0.out.mono ?_
    rintro e w2 ⟨rfl, hO2⟩
    have hO2' := Lib.hid hO2
    replace c0 := hO2.cell c0 (fun h => h)
    replace c1 := hO2.cell c1 (fun h => h)
    replace c2 := hO2.cell c2 (fun h => h)
    replace c3 := hO2.cell c3 (fun h => h)
    replace c4 := hO2.cell c4 (fun h => h)
    replace hl := Nat.lt_of_lt_of_le hl hO2.size
    clear hO2
    go_wp2_with fail
    refine (q1.out _ hO2'.out).mono ?_
    rintro e w3 ⟨rfl, hO3⟩
    have hO3' := Lib.hid (hO2'.out.trans' hO3)
    replace c0 := hO3.cell c0 (fun h => h)
    replace c1 := hO3.cell c1 (fun h => h)
    replace c2 := hO3.cell c2 (fun h => h)
    replace c3 := hO3.cell c3 (fun h => h)
    replace c4 := hO3.cell c4 (fun h => h)
    replace hl := Nat.lt_of_lt_of_le hl hO3.size
    clear hO3
    go_wp2_with fail
    refine (q2.out _).mono ?_
    rintro e w4 ⟨rfl, hO4⟩
    have hO4' := Lib.hid (hO3'.out.trans' hO4)
    replace c0 := hO4.cell c0 (fun h => h)
    replace c1 := hO4.cell c1 (fun h => h)
    replace c2 := hO4.cell c2 (fun h => h)
    replace c3 := hO4.cell c3 (fun h => h)
    replace c4 := hO4.cell c4 (fun h => h)
    replace hl := Nat.lt_of_lt_of_le hl hO4.size
    clear hO4
    go_wp2_with fail
    refine (q4.out _ hO4'.out).mono ?_
    rintro e w5 ⟨rfl, hO5⟩
    have hO5' := Lib.hid (hO4'.out.trans' hO5)
    replace c0 := hO5.cell c0 (fun h => h)
    replace c1 := hO5.cell c1 (fun h => h)
    replace c2 := hO5.cell c2 (fun h => h)
    replace c3 := hO5.cell c3 (fun h => h)
    replace c4 := hO5.cell c4 (fun h => h)
    replace hl := Nat.lt_of_lt_of_le hl hO5.size
    clear hO5
    go_wp2
    go_ret
    exact ⟨rfl, (hO1'.out.trans' hO5'.out).alloc _⟩
end Go.Proofs.YtgfgjbbpochiiaaDoor
