/- The calls whose answers the document fixes. -/
import Derived.Test.YthippdgmbfaijaaMon9
namespace Go.Proofs.Ythippdgmbfaijaa
open Go Go.RowKit

def ft : List TaskV := [⟨0, 0, 10, 10, 0, 0, ⟨none, 0, 0⟩⟩]
def fr : List RecV := [⟨0, 1, 0, 0, 0, 0, 0⟩, ⟨5, 3, 0, 0, 0, 0, 0⟩, ⟨9, 2, 0, 0, 0, 0, 0⟩, ⟨19, 1, 0, 0, 0, 0, 0⟩]
def fp : List RepV := [⟨0, 0, 3, 0, 13, false, 0, 0, 0, 0, 0⟩, ⟨0, 0, 3, 0, 14, false, 0, 0, 0, 0, 0⟩, ⟨0, 0, 3, 0, -1, false, 0, 0, 0, 0, 0⟩]
def fc (b : Nat) : ConfV := ⟨0, 0, 0, 0, ⟨none, 0, 0⟩, 0, ⟨none, 0, 0⟩, ⟨none, 0, 0⟩, ⟨some ⟨b, 0, none⟩, 1, 1⟩, ⟨none, 0, 0⟩⟩
theorem fix1 : flagsL ft fr = [(9, 0)] := by decide
theorem fix2 : gapsL 0 (folL fr) = [9, 10] := by decide
theorem fix3 : lateL ft 14 fp = [1, 2] := by decide
theorem tasks_made {w : World} {b : Nat} (h : w.heap[b]? = some (.cells (ft.flatMap TaskV.cells).toArray 37 (0, 0))) : TasksAt w (fc b).ta ft := by
  refine ⟨rfl, Nat.le_refl _, fun k t ht => ?_⟩
  obtain rfl : k = 0 := by
    have := (List.getElem?_eq_some_iff.1 ht).1
    simp [ft] at this
    exact this
  cases ht
  exact ⟨b, 0, rfl, row_lt h, row_cell h rfl, row_cell h rfl, row_cell h rfl, row_cell h rfl, row_cell h rfl, row_cell h rfl, row_cell h rfl⟩
theorem recs_made {w : World} {b : Nat} (h : w.heap[b]? = some (.cells (fr.flatMap RecV.cells).toArray 33 (0, 0))) : RecRow w (some ⟨b, 0, none⟩) fr := by
  intro k t ht
  have hk := (List.getElem?_eq_some_iff.1 ht).1
  simp [fr] at hk
  match k, hk with
  | 0, _ | 1, _ | 2, _ | 3, _ =>
    cases ht
    exact ⟨b, 0, rfl, row_lt h, row_cell h rfl, row_cell h rfl, row_cell h rfl, row_cell h rfl, row_cell h rfl, row_cell h rfl, row_cell h rfl⟩
theorem reps_made {w : World} {b : Nat} (h : w.heap[b]? = some (.cells (fp.flatMap RepV.cells).toArray 48 (0, 0))) : RepRow w (some ⟨b, 0, none⟩) fp := by
  intro k t ht
  have hk := (List.getElem?_eq_some_iff.1 ht).1
  simp [fp] at hk
  match k, hk with
  | 0, _ | 1, _ | 2, _ =>
    cases ht
    refine ⟨b, 0, rfl, row_lt h, fun j v hv => row_cell h ?_⟩
    have hj := (List.getElem?_eq_some_iff.1 hv).1
    simp [RepV.cells] at hj
    match j, hj with
    | 0, _ | 1, _ | 2, _ | 3, _ | 4, _ | 5, _ | 6, _ | 7, _ | 8, _ | 9, _ | 10, _ => exact hv

set_option maxRecDepth 100000 in
set_option maxHeartbeats 2000000 in
theorem fixed19_any (w : World) : Calls Try.prog 5 #[] w (GrowB true w) := by
  go_enter Try.func5, Try.ntmps5
  go_wp2_with fail
  obtain ⟨W3, hW3⟩ : ∃ W3, W3 = ((w.alloc (.cells (ft.flatMap TaskV.cells).toArray 37)).alloc (.cells (fc w.heap.size).cells.toArray 27)).alloc (.cells (fr.flatMap RecV.cells).toArray 33) := ⟨_, rfl⟩
  have hO : Only (fun _ => False) w W3 := by rw [hW3]; exact (((Only.refl _ w).alloc _).alloc _).alloc _
  have h0 : W3.heap[w.heap.size]? = some (.cells (ft.flatMap TaskV.cells).toArray 37 (0, 0)) := by rw [hW3]; exact heap_kept_alloc (heap_kept_alloc (heap_new_at _ _ rfl) _) _
  have h1 : W3.heap[w.heap.size + 1]? = some (.cells (fc w.heap.size).cells.toArray 27 (0, 0)) := by rw [hW3]; exact heap_kept_alloc (heap_new_at _ _ (by simp)) _
  have h2 : W3.heap[w.heap.size + 1 + 1]? = some (.cells (fr.flatMap RecV.cells).toArray 33 (0, 0)) := by rw [hW3]; exact heap_new_at _ _ (by simp)
  have hrfl : W3 = ((w.alloc (.cells #[.int .i64 0, .int .i64 0, .int .i64 10, .int .i64 10, .int .i64 0, .int .i64 0, .slice none 0 0] 37)).alloc (.cells #[.int .i64 0, .int .i64 0, .int .i64 0, .int .i64 0, .slice none 0 0, .int .i64 0, .slice none 0 0, .slice none 0 0, .slice (some ⟨w.heap.size, 0, none⟩) 1 1, .slice none 0 0] 27)).alloc (.cells #[.int .i64 0, .int .i64 1, .int .i64 0, .int .i64 0, .int .i64 0, .int .i64 0, .int .i64 0, .int .i64 5, .int .i64 3, .int .i64 0, .int .i64 0, .int .i64 0, .int .i64 0, .int .i64 0, .int .i64 9, .int .i64 2, .int .i64 0, .int .i64 0, .int .i64 0, .int .i64 0, .int .i64 0, .int .i64 19, .int .i64 1, .int .i64 0, .int .i64 0, .int .i64 0, .int .i64 0, .int .i64 0] 33) := hW3
  rw [← hrfl]
  have q9 := Lib.hid (fun W (hW : Only (fun _ => False) W3 W) => first_any (cap := 4) (recs_made (hW.heap h2 (fun h => h))) rfl (by decide) (by unfold fitR; decide) (tasks_made (hW.heap h0 (fun h => h))) (by show 1 ≤ 9223372036854775807; omega))
  have q8 := Lib.hid (fun W (hW : Only (fun _ => False) W3 W) => gaps_any (cap := 4) 0 (recs_made (hW.heap h2 (fun h => h))) rfl (by decide) (by unfold fitR; decide))
  have q7 := Lib.hid (fun W (hW : Only (fun _ => False) W3 W) => all_any (cap := 4) (recs_made (hW.heap h2 (fun h => h))) rfl (by decide) (by unfold fitR; decide) (tasks_made (hW.heap h0 (fun h => h))) (by show 1 ≤ 9223372036854775807; omega))
  have q10 := Lib.hid (fun (W : World) (hW : Only (fun _ => False) W3 W) => late_any (w := W.alloc (.cells (fp.flatMap RepV.cells).toArray 48)) (A := some ⟨W.heap.size, 0, none⟩) (n := 3) (cap := 3) 14 (tasks_made ((hW.alloc _).heap h0 (fun h => h))) (by show 1 ≤ 9223372036854775807; omega) (reps_made (heap_new_at _ _ rfl)) rfl (by decide))
  rw [fix1] at q9 q7
  rw [fix2] at q8
  rw [fix3] at q10
  have hb1 := Lib.hid h1
  have hO' := Lib.hid hO
  clear hW3 hrfl h0 h1 h2 hO
  refine (q9.out _ (Only.refl _ W3)).mono ?_
  rintro e w4 ⟨rfl, hO4⟩
  unfold firstV
  have o4 := Lib.hid hO4
  have o5 := Lib.hid (hO4.alloc (.cells #[.int .i64 9, .int .i64 0] 39))
  have hb5 := Lib.hid (heap_new_at w4 (.cells #[.int .i64 9, .int .i64 0] 39) rfl)
  clear hO4
  go_wp2_with fail
  refine (q8.out _ o5.out).mono ?_
  rintro e w8 ⟨p8, c8, h8, rfl, hW8, hn8, hO8⟩
  obtain ⟨g8, f8, k8, -, hv8, -, -, hl8, hc8, -⟩ := hW8.at_ (by decide)
  cases hv8
  have a0 := hc8 0 _ rfl
  have a1 := hc8 1 _ rfl
  have o8 := Lib.hid (o5.out.trans' hO8)
  have hb8 := Lib.hid (hO8.heap hb5.out (fun h => h))
  have hb18 := Lib.hid (o8.out.heap hb1.out (fun h => h))
  have a8 := Lib.hid (And.intro a0 (And.intro a1 hl8))
  clear hW8 hn8 hO8 hc8 a0 a1 hl8 o5
  have d0 := row_cell hb18.out (i := 0) rfl
  have d1 := row_cell hb18.out (i := 1) rfl
  have d2 := row_cell hb18.out (i := 2) rfl
  have d3 := row_cell hb18.out (i := 3) rfl
  have d4 := row_cell hb18.out (i := 4) rfl
  have d5 := row_cell hb18.out (i := 5) rfl
  have d6 := row_cell hb18.out (i := 6) rfl
  have d7 := row_cell hb18.out (i := 7) rfl
  have d8 := row_cell hb18.out (i := 8) rfl
  have d9 := row_cell hb18.out (i := 9) rfl
  have hl18 := row_lt hb18.out
  go_wp2_with fail
  refine (q10.out _ o8.out).mono ?_
  rintro e w9 ⟨p9, c9, h9, rfl, hW9, hn9, hO9⟩
  obtain ⟨g9, f9, k9, -, hv9, -, -, hl9, hc9, -⟩ := hW9.at_ (by decide)
  cases hv9
  have b0 := Lib.hid (hc9 0 _ rfl)
  have b1 := Lib.hid (hc9 1 _ rfl)
  have hO89 := Lib.hid (((Only.refl (fun _ => False) w8).alloc (.cells (fp.flatMap RepV.cells).toArray 48)).trans' hO9)
  have o9 := Lib.hid (o8.out.trans' hO89.out)
  have hb9 := Lib.hid (hO89.out.heap hb8.out (fun h => h))
  have hb19 := Lib.hid (o9.out.heap hb1.out (fun h => h))
  have hl9' := Lib.hid hl9
  clear hW9 hn9 hO9 hc9 hl9 o8 hl18 d0 d1 d2 d3 d4 d5 d6 d7 d8 d9
  have d0 := row_cell hb19.out (i := 0) rfl
  have d1 := row_cell hb19.out (i := 1) rfl
  have d2 := row_cell hb19.out (i := 2) rfl
  have d3 := row_cell hb19.out (i := 3) rfl
  have d4 := row_cell hb19.out (i := 4) rfl
  have d5 := row_cell hb19.out (i := 5) rfl
  have d6 := row_cell hb19.out (i := 6) rfl
  have d7 := row_cell hb19.out (i := 7) rfl
  have d8 := row_cell hb19.out (i := 8) rfl
  have d9 := row_cell hb19.out (i := 9) rfl
  have hl19 := row_lt hb19.out
  have s0 := row_cell hb9.out (i := 0) rfl
  have s1 := row_cell hb9.out (i := 1) rfl
  have hlb9 := row_lt hb9.out
  go_wp2_with fail
  refine (q7.out _ o9.out).mono ?_
  rintro e w7 ⟨p7, c7, h7, rfl, hW7, hn7, hO7⟩
  have o7 := Lib.hid (o9.out.trans' hO7)
  obtain ⟨x0, x1, x2⟩ := a8.out
  have x0 := hO7.cell (hO89.out.cell x0 (fun h => h)) (fun h => h)
  have x1 := hO7.cell (hO89.out.cell x1 (fun h => h)) (fun h => h)
  have x2 := Nat.lt_of_lt_of_le (Nat.lt_of_lt_of_le x2 hO89.out.size) hO7.size
  have y0 := hO7.cell b0.out (fun h => h)
  have y1 := hO7.cell b1.out (fun h => h)
  have y2 := Nat.lt_of_lt_of_le hl9'.out hO7.size
  clear hW7 hn7 hO7 hl19 d0 d1 d2 d3 d4 d5 d6 d7 d8 d9 s0 s1 hlb9
  rw [Nat.add_zero] at x0 y0
  unfold mkI at x0 x1 y0 y1
  go_wp2
  go_ret
  exact ⟨rfl, hO'.out.trans' o7.out⟩
end Go.Proofs.Ythippdgmbfaijaa
