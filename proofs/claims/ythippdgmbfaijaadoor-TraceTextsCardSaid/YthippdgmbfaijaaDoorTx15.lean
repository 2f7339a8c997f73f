/- The calls whose answers the document fixes. -/
import Derived.Test.YthippdgmbfaijaaDoorTx14
namespace Go.Proofs.YthippdgmbfaijaaDoor
open Go Go.RowKit

def r1 : RecV := ⟨0, 99, 0, 0, 0, 0, 0⟩
theorem r0_ok : okK r0.k = true := by decide
theorem r0_text : toBA (textL [r0]) = ⟨#[51, 32, 115, 116, 97, 114, 116, 32, 49, 32, 48, 32, 48, 32, 48, 32, 48, 10]⟩ := by
  simp [textL, r0_line, toBA]
theorem r0_read : readO (textL [r0]) = some [r0] := read_text (by simp [r0_fit]) (by simp [r0_ok])
theorem recs_made {w : World} {b : Nat} {l : List RecV} (h : w.heap[b]? = some (.cells (recCells l).toArray 24 (0, 0))) : RecRow w (some ⟨b, 0, none⟩) l := fun k x hx => by
  refine ⟨b, 0, rfl, row_lt h, RecAt.of_cells (L := recCells l) (fun i u hu => ?_) (recCells_at l k x hx)⟩
  rw [Nat.zero_add]
  exact row_cell h hu
theorem fix1 : cntL [r0, r1] 3 = 1 ∧ cntL [r0, r1] 0 = 1 := by decide
theorem fix2 : ofL 1 0 [r0] = [r0] := rfl

set_option maxRecDepth 100000 in
set_option maxHeartbeats 2000000 in
theorem fixed_any {w : World} (hb : Bas w) : Calls Tryd.prog 6 #[] w (GrowB true w) := by
  obtain ⟨W1, hW1⟩ : ∃ W1, W1 = w.alloc (.cells r0.cells.toArray 24) := ⟨_, rfl⟩
  have hO1 : Only (fun _ => False) w W1 := by rw [hW1]; exact (Only.refl _ w).alloc _
  have h1 : W1.heap[w.heap.size]? = some (.cells r0.cells.toArray 24 (0, 0)) := by rw [hW1]; exact heap_new_at _ _ rfl
  have hB := Lib.hid (fun W (hW : Only (fun _ => False) W1 W) => (hb.new hO1).new hW)
  have q1 := Lib.hid (line_any (hb.new hO1) r0 r0_fit)
  have q2 := Lib.hid (fun W (hW : Only (fun _ => False) W1 W) => parse_any (hB.out W hW) (lineL r0) (Nat.le_trans (lineL_len r0_fit (of_decide_eq_true r0_ok)) (by omega)))
  have q3 := Lib.hid (fun W (hW : Only (fun _ => False) W1 W) => read_any (hB.out W hW) (textL [r0]) (by simp [textL, r0_line]))
  have q4 := Lib.hid (fun (W : World) => count_any (w := W.alloc (.cells (recCells [r0, r1]).toArray 24)) (A := some ⟨W.heap.size, 0, none⟩) (n := 2) (cap := 2) (recs_made (heap_new_at _ _ rfl)) rfl (by omega))
  unfold LineEnd at q1
  unfold ParseEnd at q2
  unfold ReadEnd at q3
  unfold CountEnd at q4
  rw [parse_line r0_fit r0_ok] at q2
  rw [r0_read, r0_text] at q3
  rw [if_pos r0_ok, r0_ok] at q1
  rw [r0_line] at q1 q2
  have hW1' := Lib.hid (show W1 = w.alloc (.cells #[.int .i64 3, .int .i64 3, .int .i64 1, .int .i64 0, .int .i64 0, .int .i64 0, .int .i64 0] 24) from hW1)
  have h1' := Lib.hid h1
  have hO1' := Lib.hid hO1
  have q1 := Lib.hid (show Calls Tryd.prog 7 #[.agg #[.int .i64 3, .int .i64 3, .int .i64 1, .int .i64 0, .int .i64 0, .int .i64 0, .int .i64 0]] W1 (fun e w' => e = .returned (.tuple #[.string ⟨#[51, 32, 115, 116, 97, 114, 116, 32, 49, 32, 48, 32, 48, 32, 48, 32, 48]⟩, .bool true]) ∧ Only (fun _ => False) W1 w') from q1.out)
  have q2 := Lib.hid (show ∀ W, Only (fun _ => False) W1 W → Calls Tryd.prog 9 #[.string ⟨#[51, 32, 115, 116, 97, 114, 116, 32, 49, 32, 48, 32, 48, 32, 48, 32, 48]⟩] W (fun e w' => e = .returned (.tuple #[.agg #[.int .i64 3, .int .i64 3, .int .i64 1, .int .i64 0, .int .i64 0, .int .i64 0, .int .i64 0], .bool true]) ∧ Only (fun _ => False) W w') from q2.out)
  have e0 := row_cell h1 (i := 0) rfl
  have e1 := row_cell h1 (i := 1) rfl
  have e2 := row_cell h1 (i := 2) rfl
  have e3 := row_cell h1 (i := 3) rfl
  have e4 := row_cell h1 (i := 4) rfl
  have e5 := row_cell h1 (i := 5) rfl
  have e6 := row_cell h1 (i := 6) rfl
  have hl := row_lt h1
  clear hW1 hO1 h1 hb
  go_enter Tryd.func6, Tryd.ntmps6
  go_wp2_with fail
  rw [← hW1'.out]
  refine q1.out.mono ?_
  rintro e w2 ⟨rfl, hO2⟩
  have hO2' := Lib.hid hO2
  clear hO2
  go_wp2_with fail
  refine (q2.out _ hO2'.out).mono ?_
  rintro e w3 ⟨rfl, hO3⟩
  have hO3' := Lib.hid (hO2'.out.trans' hO3)
  clear hO3
  have hb3 := Lib.hid (heap_new_at w3 (.cells r0.cells.toArray 24) rfl)
  have o3 := Lib.hid (hO3'.out.alloc (.cells r0.cells.toArray 24))
  go_wp2_with fail
  refine (q3.out _ o3.out).mono ?_
  rintro e w4 ⟨p4, c4, h4, rfl, hW4, hn4, hO4⟩
  have hrec := Lib.hid (hW4.recs rfl)
  have hb4 := Lib.hid (hO4.heap hb3.out (fun h => h))
  have o4 := Lib.hid (o3.out.trans' hO4)
  have hlt4 := row_lt hb4.out
  clear hW4 hn4 hO4 e0 e1 e2 e3 e4 e5 e6 hl
  have hb1 := o4.out.heap h1'.out (fun h => h)
  have e0 := row_cell hb1 (i := 0) rfl
  have e1 := row_cell hb1 (i := 1) rfl
  have e2 := row_cell hb1 (i := 2) rfl
  have e3 := row_cell hb1 (i := 3) rfl
  have e4 := row_cell hb1 (i := 4) rfl
  have e5 := row_cell hb1 (i := 5) rfl
  have e6 := row_cell hb1 (i := 6) rfl
  have hl := row_lt hb1
  clear hb1 hlt4
  go_wp2_with fail
  refine (q4.out w4).mono ?_
  rintro e w5 ⟨rfl, hO5⟩
  have o45 := Lib.hid (((Only.refl (fun _ => False) w4).alloc (.cells (recCells [r0, r1]).toArray 24)).trans' hO5)
  have o5 := Lib.hid (o4.out.trans' o45.out)
  have hb5 := o45.out.heap hb4.out (fun h => h)
  have hb1 := o5.out.heap h1'.out (fun h => h)
  clear hO5 e0 e1 e2 e3 e4 e5 e6 hl
  have e0 := row_cell hb1 (i := 0) rfl
  have e1 := row_cell hb1 (i := 1) rfl
  have e2 := row_cell hb1 (i := 2) rfl
  have e3 := row_cell hb1 (i := 3) rfl
  have e4 := row_cell hb1 (i := 4) rfl
  have e5 := row_cell hb1 (i := 5) rfl
  have e6 := row_cell hb1 (i := 6) rfl
  have g0 := row_cell hb5 (i := 0) rfl
  have g1 := row_cell hb5 (i := 1) rfl
  have g2 := row_cell hb5 (i := 2) rfl
  have g3 := row_cell hb5 (i := 3) rfl
  have g4 := row_cell hb5 (i := 4) rfl
  have g5 := row_cell hb5 (i := 5) rfl
  have g6 := row_cell hb5 (i := 6) rfl
  have hl1 := row_lt hb1
  have hl5 := row_lt hb5
  have k0 := fix1.1
  have k1 := fix1.2
  have hof := Lib.hid (of_any (cap := c4) 1 0 (hrec.out.new (o45.out.alloc (.cells (row9 (cntL [r0, r1])).toArray 37))) rfl (by simp))
  rw [fix2] at hof
  have hfin := Lib.hid ((hO1'.out.trans' o5.out).alloc (.cells (row9 (cntL [r0, r1])).toArray 37))
  unfold row9 at hof hfin ⊢
  rw [k0, k1] at hof hfin ⊢
  clear hb1 hb5 k0 k1
  go_wp2_with fail
  refine hof.out.mono ?_
  rintro e w6 ⟨p6, c6, h6, rfl, -, -, hO6⟩
  have hend := Lib.hid (hfin.out.trans' hO6)
  clear hO6
  go_wp2
  go_ret
  exact ⟨rfl, hend.out⟩
end Go.Proofs.YthippdgmbfaijaaDoor
