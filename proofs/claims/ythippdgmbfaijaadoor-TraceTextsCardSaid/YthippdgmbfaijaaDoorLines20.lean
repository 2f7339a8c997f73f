/- The law of lines. -/
import Derived.Test.YthippdgmbfaijaaDoorTx15
namespace Go.Proofs.YthippdgmbfaijaaDoor
open Go Go.RowKit

theorem parse_nil : parseO [] = none := parseO_no fun h => by
  have := h.1
  simp [splitL] at this

set_option maxRecDepth 100000 in
set_option maxHeartbeats 4000000 in
theorem lines_law {w : World} (hb : Bas w) (r : RecV) (hf : r.fit) : Calls Tryd.prog 3 #[r.val] w (GrowB true w) := by
  obtain ⟨W1, hW1⟩ : ∃ W1, W1 = w.alloc (.cells r.cells.toArray 24) := ⟨_, rfl⟩
  have hO1 : Only (fun _ => False) w W1 := by rw [hW1]; exact (Only.refl _ w).alloc _
  have h1 : W1.heap[w.heap.size]? = some (.cells r.cells.toArray 24 (0, 0)) := by rw [hW1]; exact heap_new_at _ _ rfl
  have hB := Lib.hid (fun W (hW : Only (fun _ => False) W1 W) => (hb.new hO1).new hW)
  have q0 := Lib.hid (fixed_any (hb.new hO1))
  have q1 := Lib.hid (fun W (hW : Only (fun _ => False) W1 W) => line_any (hB.out W hW) r hf)
  have q2 := Lib.hid (fun W => rline_any W r hf)
  have q3 := Lib.hid (fun W (hW : Only (fun _ => False) W1 W) => parse_any (hB.out W hW) (if okK r.k = true then lineL r else []) (by
    split
    · next h => exact Nat.le_trans (lineL_len hf (of_decide_eq_true h)) (by omega)
    · simp))
  have hp : parseO (if okK r.k = true then lineL r else []) = if okK r.k = true then some r else none := by
    split
    · next h => exact parse_line hf h
    · exact parse_nil
  unfold LineEnd at q1 q2
  unfold ParseEnd at q3
  rw [hp] at q3
  have hW1' := Lib.hid hW1
  have h1' := Lib.hid h1
  have hO1' := Lib.hid hO1
  have c0 := row_cell h1 (i := 0) rfl
  have c1 := row_cell h1 (i := 1) rfl
  have c2 := row_cell h1 (i := 2) rfl
  have c3 := row_cell h1 (i := 3) rfl
  have c4 := row_cell h1 (i := 4) rfl
  have c5 := row_cell h1 (i := 5) rfl
  have c6 := row_cell h1 (i := 6) rfl
  have hl := row_lt h1
  clear hp hO1 hb hf hW1 h1 hB
  obtain ⟨L, hL⟩ : ∃ L, L = toBA (lineL r) := ⟨_, rfl⟩
  obtain ⟨k, hk⟩ : ∃ k, k = okK r.k := ⟨_, rfl⟩
  have hL0 : (⟨#[]⟩ : ByteArray) = toBA [] := rfl
  rw [← hk] at q1 q2 q3
  cases k with
  | true =>
    simp only [if_true] at q1 q2 q3
    rw [← hL] at q1 q2 q3
    clear hL hL0 hk
    obtain ⟨x0, x1, x2, x3, x4, x5, x6⟩ := r
    unfold RecV.val at q1 q2 q3 ⊢
    unfold RecV.cells at hW1' h1'
    dsimp only at q1 q2 q3 hW1' h1' c0 c1 c2 c3 c4 c5 c6 ⊢
    go_enter Tryd.func3, Tryd.ntmps3
    go_wp2_with fail
    rw [← hW1'.out]
    refine q0.out.mono ?_
    rintro e w2 ⟨rfl, hO2⟩
    have hO2' := Lib.hid hO2
    replace c0 := hO2.cell c0 (fun h => h)
    replace c1 := hO2.cell c1 (fun h => h)
    replace c2 := hO2.cell c2 (fun h => h)
    replace c3 := hO2.cell c3 (fun h => h)
    replace c4 := hO2.cell c4 (fun h => h)
    replace c5 := hO2.cell c5 (fun h => h)
    replace c6 := hO2.cell c6 (fun h => h)
    replace hl := Nat.lt_of_lt_of_le hl hO2.size
    clear hO2
    go_wp2_with fail
    refine (q1.out _ hO2'.out).mono ?_
    rintro e w3 ⟨rfl, hO3⟩
    have hO3' := Lib.hid (hO2'.out.trans' hO3)
    replace c0 := hO3.cell c0 (fun h => h)
    replace c1 := hO3.cell c1 (fun h => h)
    replace c2 := hO3.cell c2 (fun h => h)
    replace c3 := hO3.cell c3 (fun h => h)
    replace c4 := hO3.cell c4 (fun h => h)
    replace c5 := hO3.cell c5 (fun h => h)
    replace c6 := hO3.cell c6 (fun h => h)
    replace hl := Nat.lt_of_lt_of_le hl hO3.size
    clear hO3
    go_wp2_with fail
    refine (q2.out _).mono ?_
    rintro e w4 ⟨rfl, hO4⟩
    have hO4' := Lib.hid (hO3'.out.trans' hO4)
    replace c0 := hO4.cell c0 (fun h => h)
    replace c1 := hO4.cell c1 (fun h => h)
    replace c2 := hO4.cell c2 (fun h => h)
    replace c3 := hO4.cell c3 (fun h => h)
    replace c4 := hO4.cell c4 (fun h => h)
    replace c5 := hO4.cell c5 (fun h => h)
    replace c6 := hO4.cell c6 (fun h => h)
    replace hl := Nat.lt_of_lt_of_le hl hO4.size
    clear hO4
    go_wp2_with fail
    refine (q3.out _ hO4'.out).mono ?_
    rintro e w5 ⟨rfl, hO5⟩
    have hO5' := Lib.hid (hO4'.out.trans' hO5)
    replace c0 := hO5.cell c0 (fun h => h)
    replace c1 := hO5.cell c1 (fun h => h)
    replace c2 := hO5.cell c2 (fun h => h)
    replace c3 := hO5.cell c3 (fun h => h)
    replace c4 := hO5.cell c4 (fun h => h)
    replace c5 := hO5.cell c5 (fun h => h)
    replace c6 := hO5.cell c6 (fun h => h)
    replace hl := Nat.lt_of_lt_of_le hl hO5.size
    clear hO5
    simp only [Option.getD_some, Option.isSome_some]
    go_wp2
    go_ret
    exact ⟨rfl, (hO1'.out.trans' hO5'.out).alloc _⟩
  | false =>
    simp only [Bool.false_eq_true, if_false] at q1 q2 q3
    rw [← hL0] at q3
    clear hL hL0 hk
    obtain ⟨x0, x1, x2, x3, x4, x5, x6⟩ := r
    unfold RecV.val zrec at q3
    unfold RecV.val at q1 q2 ⊢
    unfold RecV.cells at hW1' h1'
    dsimp only at q1 q2 q3 hW1' h1' c0 c1 c2 c3 c4 c5 c6 ⊢
    go_enter Tryd.func3, Tryd.ntmps3
    go_wp2_with fail
    rw [← hW1'.out]
    refine q0.out.mono ?_
    rintro e w2 ⟨rfl, hO2⟩
    have hO2' := Lib.hid hO2
    replace c0 := hO2.cell c0 (fun h => h)
    replace c1 := hO2.cell c1 (fun h => h)
    replace c2 := hO2.cell c2 (fun h => h)
    replace c3 := hO2.cell c3 (fun h => h)
    replace c4 := hO2.cell c4 (fun h => h)
    replace c5 := hO2.cell c5 (fun h => h)
    replace c6 := hO2.cell c6 (fun h => h)
    replace hl := Nat.lt_of_lt_of_le hl hO2.size
    clear hO2
    go_wp2_with fail
    refine (q1.out _ hO2'.out).mono ?_
    rintro e w3 ⟨rfl, hO3⟩
    have hO3' := Lib.hid (hO2'.out.trans' hO3)
    replace c0 := hO3.cell c0 (fun h => h)
    replace c1 := hO3.cell c1 (fun h => h)
    replace c2 := hO3.cell c2 (fun h => h)
    replace c3 := hO3.cell c3 (fun h => h)
    replace c4 := hO3.cell c4 (fun h => h)
    replace c5 := hO3.cell c5 (fun h => h)
    replace c6 := hO3.cell c6 (fun h => h)
    replace hl := Nat.lt_of_lt_of_le hl hO3.size
    clear hO3
    go_wp2_with fail
    refine (q2.out _).mono ?_
    rintro e w4 ⟨rfl, hO4⟩
    have hO4' := Lib.hid (hO3'.out.trans' hO4)
    clear c0 c1 c2 c3 c4 c5 c6 hl hO4
    go_wp2_with fail
    refine (q3.out _ hO4'.out).mono ?_
    rintro e w5 ⟨rfl, hO5⟩
    have hO5' := Lib.hid (hO4'.out.trans' hO5)
    clear hO5
    go_wp2
    go_ret
    exact ⟨rfl, (hO1'.out.trans' hO5'.out).alloc _⟩
end Go.Proofs.YthippdgmbfaijaaDoor
