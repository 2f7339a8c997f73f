/- The counts' fixed calls. -/
import Derived.Test.YtbmpmmfomcnchaaCountNew
namespace Go.Proofs.Ytbmpmmfomcnchaa
open Go Go.RowKit

theorem row_one (w : World) (x : Int) {g : Nat} (hg : w.heap[g]? = some (.cells #[.int .i64 x] 3 (0, 0))) : Row w (some ⟨g, 0, none⟩) 1 (fun _ => .int .i64 x) := fun k hk => by
  refine ⟨g, 0, rfl, ?_, row_lt hg⟩
  obtain rfl : k = 0 := by omega
  exact row_cell (L := [.int .i64 x]) hg rfl
/-- One count, its most x, from a row made for it. -/
theorem new_one (w : World) (x : Int) (cap : Nat) {g : Nat} (hg : w.heap[g]? = some (.cells #[.int .i64 x] 3 (0, 0))) : Calls Try.prog 15 #[.slice (some ⟨g, 0, none⟩) 1 cap] w (NewEnd 1 (fun _ => x) w) :=
  new_counts w _ 1 cap _ (by omega) (row_one w x hg)

theorem fixed12_any (w : World) : Calls Try.prog 14 #[] w fun e w' => e = .returned (.bool true) ∧ Below w.heap.size w w' := by
  go_enter Try.func14, Try.ntmps14
  go_wp2_with fail
  have hnew := new_one (w.alloc (.cells #[.int .i64 1] 3)) 1 1 (g := w.heap.size) (heap_alloc_new _ _)
  refine hnew.mono ?_
  rintro e w1 ⟨b, g, m, rfl, hC1, hm, B1, B2, ho1⟩
  clear hnew
  have hO1 := Lib.hid (show Only (fun k => w.heap.size ≤ k) w w1 from (((Only.refl (fun _ => False) w).alloc _).trans' ho1).mono (fun _ _ h => h.elim))
  have hm0 : m 0 = 1 := hm 0 (by decide)
  have hgB : w.heap.size ≤ g := by
    rw [alloc_size] at B2
    omega
  clear ho1 hm B1 B2
  go_wp2_with fail
  refine (give_some hC1 (i := 0) (by decide) (by rw [hm0]; decide)).mono ?_
  rintro e w2 ⟨rfl, hC2, ho2⟩
  have hO2 := Lib.hid (hO1.out.trans ho2 (fun x hx h => by subst h; exact hgB))
  clear ho2 hC1 hO1
  go_wp2_with fail
  refine (give_full hC2 (i := 0) (by decide) (by rw [upd_self, hm0])).mono ?_
  rintro e _ ⟨rfl, k, rfl⟩
  rw [upd_self]
  have hC2' := hC2.drewN k
  have hO3 := Lib.hid (hO2.out.drewN k)
  clear hC2 hO2
  generalize w2.drewN k = w3 at hC2' hO3 ⊢
  go_wp2_with fail
  refine (take_some hC2' (i := 0) (x := 0) (by decide) (by rw [upd_self])).mono ?_
  rintro e w4 ⟨rfl, hC4, ho4⟩
  have hO4 := Lib.hid (hO3.out.trans ho4 (fun x hx h => by subst h; exact hgB))
  clear ho4 hC2' hO3
  go_wp2_with fail
  refine (take_none hC4 (i := 0) (by decide) (by rw [upd_self])).mono ?_
  rintro e w' ⟨rfl, rfl⟩
  go_wp2_with fail
  refine (value_no hC4 (i := 1) (.inr (by decide))).mono ?_
  rintro e w' ⟨rfl, rfl⟩
  have hl := Lib.hid (len_any hC4.cell)
  clear hC4
  go_wp2_with (go_at_call 19; refine hl.out.mono ?_; rintro e w' ⟨rfl, rfl⟩)
  go_ret
  exact ⟨rfl, hO4.out.below (Nat.le_refl _) (fun k h => h)⟩
end Go.Proofs.Ytbmpmmfomcnchaa
