/- The mailboxes' fixed calls. -/
import Derived.Test.YtjioljfggmhgcaaBoxCalls
namespace Go.Proofs.Ytjioljfggmhgcaa
open Go Go.RowKit RingI

theorem row_lits (w : World) (xs : List Int) {g : Nat} (hg : w.heap[g]? = some (.cells (xs.map fun x => Value.int .i64 x).toArray 3 (0, 0))) : Row w (some ⟨g, 0, none⟩) xs.length (fun i => .int .i64 (xs.getD i 0)) := fun k hk => by
  refine ⟨g, 0, rfl, ?_, row_lt hg⟩
  rw [Nat.zero_add]
  refine row_cell hg ?_
  rw [List.getElem?_map, List.getElem?_eq_getElem hk]
  simp [hk]
theorem new_lits (w : World) (xs : List Int) (cap : Nat) {g : Nat} (hl : xs.length ≤ 4096) (hg : w.heap[g]? = some (.cells (xs.map fun x => Value.int .i64 x).toArray 3 (0, 0))) : Calls Try.prog 6 #[.slice (some ⟨g, 0, none⟩) xs.length cap] w (NewEnd xs.length (fun i => xs.getD i 0) w) :=
  new_boxes w _ _ cap _ hl (row_lits w xs hg)

theorem bfp_upd {b g n i : Nat} {r : Nat → Nat} {o : Nat → Option Nat} (hi : i < n) : ∀ k, fp (r i) (o i) k → bfp b g n r o k := fun _ hk => .inr (.inr ⟨i, hi, hk⟩)

theorem fixed_any (w : World) : Calls Try.prog 5 #[] w fun e w' => e = .returned (.bool true) ∧ Below w.heap.size w w' := by
  go_enter Try.func5, Try.ntmps5
  go_wp2_with fail
  have hnew := new_lits (w.alloc (.cells #[.int .i64 1, .int .i64 99] 3)) [1, 99] 2 (g := w.heap.size) (by simp) (heap_alloc_new _ _)
  refine hnew.mono ?_
  rintro e w1 ⟨b, g, r, rfl, hB1, ho1⟩
  clear hnew
  have hO1 := Lib.hid (show Only (fun k => w.heap.size ≤ k) w w1 from (((Only.refl (fun _ => False) w).alloc _).trans' ho1).mono (fun _ _ h => h.elim))
  have hB1' := hB1.base
  obtain ⟨B, hB⟩ : ∃ B, B = (w.alloc (.cells #[.int .i64 1, .int .i64 99] 3)).heap.size := ⟨_, rfl⟩
  rw [← hB] at hB1
  have hBB : w.heap.size ≤ B := by rw [hB]; simp
  simp only [List.length_cons, List.length_nil, Nat.zero_add, Nat.reduceAdd] at hB1 
  clear ho1 hB1' hB
  go_wp2_with fail
  refine (send_room hB1 (i := 0) (by decide) (by decide) 7).mono ?_
  rintro e w2 ⟨rfl, o2, hB2, hoo, ho2⟩
  have hO2 := Lib.hid (hO1.out.trans ho2 (fun x hx h => Nat.le_trans hBB (hB1.own 0 (by decide) x h).2.2))
  clear hoo ho2 hB1 hO1
  simp only [List.nil_append] at hB2
  go_wp2_with fail
  refine (send_full hB2 (i := 0) (by decide) (by rw [upd_self]; decide) 8).mono ?_
  rintro e _ ⟨rfl, m, rfl⟩
  go_wp2_with fail
  refine (send_no (hB2.drewN m) (i := 2) (.inr (by decide)) 9).mono ?_
  rintro e w' ⟨rfl, rfl⟩
  go_wp2_with fail
  refine (recv_some (hB2.drewN m) (i := 0) (by decide) (upd_self _ _ _)).mono ?_
  rintro e w3 ⟨rfl, hB3, ho3⟩
  have hO3 := Lib.hid ((hO2.out.drewN m).trans ho3 (fun x hx h => Nat.le_trans hBB (hB2.own 0 (by decide) x h).2.2))
  clear ho3 hO2 hB2
  go_wp2_with fail
  refine (recv_none hB3 (i := 1) (by decide) (by rw [upd_ne _ _ (by decide), upd_ne _ _ (by decide)])).mono ?_
  rintro e w' ⟨rfl, rfl⟩
  have hl := Lib.hid (len_boxes hB3.cells.1)
  clear hB3
  go_wp2_with (go_at_call 10; refine hl.out.mono ?_; rintro e w' ⟨rfl, rfl⟩)
  go_ret
  exact ⟨rfl, hO3.out.below (Nat.le_refl _) (fun k h => h)⟩
end Go.Proofs.Ytjioljfggmhgcaa
