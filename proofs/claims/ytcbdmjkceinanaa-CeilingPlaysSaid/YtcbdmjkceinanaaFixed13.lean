/- The locks' fixed calls. -/
import Derived.Test.YtcbdmjkceinanaaLockRows2
namespace Go.Proofs.Ytcbdmjkceinanaa
open Go Go.RowKit

def z2 : Nat → Int := fun i => if i = 0 then 7 else 2
theorem row_z2 (w : World) {g : Nat} (hg : w.heap[g]? = some (.cells #[.int .i64 7, .int .i64 2] 3 (0, 0))) : Row w (some ⟨g, 0, none⟩) 2 (fun i => .int .i64 (z2 i)) := fun k hk => by
  refine ⟨g, 0, rfl, ?_, row_lt hg⟩
  match k, hk with
  | 0, _ => exact row_cell (L := [.int .i64 7, .int .i64 2]) hg rfl
  | 1, _ => exact row_cell (L := [.int .i64 7, .int .i64 2]) hg rfl
def h13 : Nat → Int := upd (fun _ => 0) 0 5
def d13 : Nat → Bool := upd (fun _ => false) 0 true

set_option maxRecDepth 100000 in
theorem fixed13_any (w : World) : Calls Try.prog 7 #[] w fun e w' => e = .returned (.bool true) ∧ Below w.heap.size w w' := by
  go_enter Try.func7, Try.ntmps7
  go_wp2_with fail
  refine (new_any (w.alloc (.cells #[.int .i64 7, .int .i64 2] 3)) (some ⟨w.heap.size, 0, none⟩) 2 2 z2 (by decide) (row_z2 _ (heap_new_at w _ rfl))).mono ?_
  rintro e w1 ⟨rfl, h1, o1⟩
  obtain ⟨b, hb⟩ : ∃ b, b = (w.alloc (.cells #[.int .i64 7, .int .i64 2] 3)).heap.size + 1 := ⟨_, rfl⟩
  obtain ⟨g, hg⟩ : ∃ g, g = (w.alloc (.cells #[.int .i64 7, .int .i64 2] 3)).heap.size := ⟨_, rfl⟩
  rw [← hb, ← hg] at h1
  rw [← hb]
  obtain ⟨B, hB⟩ : ∃ B, B = w.heap.size := ⟨_, rfl⟩
  rw [← hB]
  have hBw := Lib.hid hB
  have hBg : B ≤ g := by
    rw [alloc_size] at hg
    omega
  have O1 := Lib.hid (show Only (fun k => B ≤ k) w w1 from (((Only.refl (fun _ => False) w).alloc _).trans' o1).mono (fun _ _ h => h.elim))
  have hsub : ∀ u v : World, Only (fun k => B ≤ k) w u → Only (fun k => k = g) u v → Only (fun k => B ≤ k) w v := fun u v h0 h => h0.trans h (fun x _ e => by subst e; exact hBg)
  have hsub' := Lib.hid hsub
  clear o1 hb hg hB hsub
  go_wp2_with fail
  refine (lock_free h1 (i := 0) (by decide) rfl 5).mono ?_
  rintro e w2 ⟨rfl, h2, o2⟩
  have O2 := Lib.hid (hsub'.out _ _ O1.out o2)
  clear o2 O1 h1
  go_wp2_with fail
  refine (lock_twice h2 (i := 0) (by decide) rfl 6).mono ?_
  rintro e w' ⟨rfl, hw⟩
  subst hw
  go_wp2_with fail
  refine (unlock_not h2 (i := 0) (by decide) 6 (by decide)).mono ?_
  rintro e w' ⟨rfl, hw⟩
  subst hw
  go_wp2_with fail
  refine (holder_yes h2 (i := 0) (by decide)).mono ?_
  rintro e w' ⟨rfl, hw⟩
  subst hw
  rw [show whose (upd (fun _ => 0) 0 5) (upd (fun _ => false) 0 true) 0 = 5 from by decide, show upd (fun _ => false) 0 true 0 = true from rfl]
  go_wp2_with fail
  refine (holder_yes h2 (i := 1) (by decide)).mono ?_
  rintro e w' ⟨rfl, hw⟩
  subst hw
  rw [show whose (upd (fun _ => 0) 0 5) (upd (fun _ => false) 0 true) 1 = 0 from by decide, show upd (fun _ => false) 0 true 1 = false from rfl]
  go_wp2_with fail
  refine (level_any h2 (by decide) 5 3).mono ?_
  rintro e w' ⟨rfl, hw⟩
  subst hw
  rw [show lev 3 z2 (mine (upd (fun _ => 0) 0 5) (upd (fun _ => false) 0 true) 5) 2 = 7 from by decide]
  go_wp2_with fail
  refine (level_any h2 (by decide) 6 3).mono ?_
  rintro e w' ⟨rfl, hw⟩
  subst hw
  rw [show lev 3 z2 (mine (upd (fun _ => 0) 0 5) (upd (fun _ => false) 0 true) 6) 2 = 3 from by decide]
  go_wp2_with fail
  refine (free_any h2 (by decide) 5).mono ?_
  rintro e w3 ⟨rfl, h3, o3⟩
  have O3 := Lib.hid (hsub'.out _ _ O2.out o3)
  rw [show (pick (mine (upd (fun _ => 0) 0 5) (upd (fun _ => false) 0 true) 5) 2).length = 1 from by decide]
  clear o3 O2 h2
  go_wp2_with fail
  refine (held_any h3 (by decide) 5).mono ?_
  rintro e w4 ⟨v, h', rfl, hW, _, o4⟩
  rw [show (pick (mine (offH (upd (fun _ => 0) 0 5) (mine (upd (fun _ => 0) 0 5) (upd (fun _ => false) 0 true) 5)) (offD (upd (fun _ => false) 0 true) (mine (upd (fun _ => 0) 0 5) (upd (fun _ => false) 0 true) 5)) 5) 2).length = 0 from by decide] at hW
  obtain ⟨A, cap, rfl, _, _⟩ := hW.form
  have h4 := h3.new o4
  have O4 := Lib.hid (O3.out.trans o4 (fun x _ h => h.elim))
  clear o4 O3 h3 hW
  go_wp2_with fail
  refine (lock_no h4 (i := 2) (.inr (by decide)) 1).mono ?_
  rintro e w' ⟨rfl, hw⟩
  subst hw
  go_wp2
  go_ret
  exact ⟨rfl, O4.out.below (Nat.le_refl _) (fun k h => by have := hBw.out; omega)⟩
end Go.Proofs.Ytcbdmjkceinanaa
