/- Layer 25's fixed calls. -/
import Derived.Test.YtcgnboplpibcgaaSlk
namespace Go.Proofs.Ytcgnboplpibcgaa
open Go Go.RowKit
theorem lb_one {c p : Nat} (hc : c ≤ 18446744073709551615) (hp : p ≤ 18446744073709551615) : LB [(c, p)] := fun k a b h => by
  cases k with
  | zero => simp at h; omega
  | succ k => simp at h
theorem lrow_one {w : World} {X c p : Nat} (h : w.heap[X]? = some (.cells [U c, U p].toArray 37 (0, 0))) : LRow w (some ⟨X, 0, none⟩) [(c, p)] := fun k a b hk => by
  cases k with
  | zero =>
    simp at hk
    obtain ⟨rfl, rfl⟩ := hk
    exact ⟨X, 0, rfl, row_cell h (i := 0) rfl, row_cell h (i := 1) rfl, row_lt h⟩
  | succ k => simp at hk
theorem info37 : (Try.prog.info? 37).map (fun i => i.size) = some 2 := by kernel_rfl
theorem fix_w1 {w : World} {X : Nat} (h : w.heap[X]? = some (.cells [U 3, U 10].toArray 37 (0, 0))) : Calls Try.prog 14 #[U 2, .slice (some ⟨X, 0, none⟩) 1 1, U 50] w (WinEnd 5 w) := by
  have := window_any (cap := 1) (d := 2) (most := 50) (lrow_one h) rfl (by decide) (lb_one (by omega) (by omega)) (by omega) (by omega)
  rwa [show win (dem 2 [(3, 10)]) (min 50 16777216) = 5 from by decide] at this
theorem fix_w2 {w : World} {X : Nat} (h : w.heap[X]? = some (.cells [U 10, U 10].toArray 37 (0, 0))) : Calls Try.prog 14 #[U 2, .slice (some ⟨X, 0, none⟩) 1 1, U 50] w (WinEnd 0 w) := by
  have := window_any (cap := 1) (d := 2) (most := 50) (lrow_one h) rfl (by decide) (lb_one (by omega) (by omega)) (by omega) (by omega)
  rwa [show win (dem 2 [(10, 10)]) (min 50 16777216) = 0 from by decide] at this
theorem fix_s {w : World} {X : Nat} (h : w.heap[X]? = some (.cells [U 3, U 10].toArray 37 (0, 0))) : Calls Try.prog 16 #[.slice (some ⟨X, 0, none⟩) 1 1, U 9] w fun e w' => e = .returned (.tuple #[U 6, .bool true]) ∧ Only (fun _ => False) w w' := by
  have := slack_any (cap := 1) (most := 9) (lrow_one h) rfl (by decide) (lb_one (by omega) (by omega)) (by omega)
  refine this.mono ?_
  rintro e w' ⟨s, b, rfl, ho, hs⟩
  refine ⟨?_, ho⟩
  have key : ∀ d, d ≤ 9 → (fitB [(3, 10)] 9 d = decide (d ≤ 6)) := by decide
  rw [show min 9 16777216 = 9 from rfl] at hs
  rcases hs with ⟨rfl, rfl, h0⟩ | ⟨rfl, h1, h2, h3⟩
  · rw [key 0 (by omega)] at h0
    cases h0
  · rw [key s h1] at h2
    have h2' : s ≤ 6 := by simpa using h2
    rcases h3 with h3 | h3
    · omega
    · rw [key (s + 1) (by omega)] at h3
      have h3' : ¬ (s + 1 ≤ 6) := by simpa using h3
      obtain rfl : s = 6 := by omega
      rfl
theorem fix_d {w : World} {X : Nat} (h : w.heap[X]? = some (.cells [U 3, U 10].toArray 37 (0, 0))) : Calls Try.prog 12 #[U 1, .slice (some ⟨X, 0, none⟩) 1 1, U 11] w (GrowU 7 w) := by
  have := demand_any (cap := 1) (d := 1) (x := 11) (lrow_one h) rfl (by decide) (lb_one (by omega) (by omega)) (by omega) (by omega)
  rwa [show dem 1 [(3, 10)] 11 = 7 from by decide] at this
set_option maxHeartbeats 2000000 in
theorem fixed25_any (w : World) : Calls Try.prog 10 #[] w (AnsB true w) := by
  obtain ⟨Z, hZ⟩ : ∃ Z, Z = AnsB true w := ⟨_, rfl⟩
  rw [← hZ]
  have hZ' := Lib.hid hZ
  clear hZ
  go_enter Try.func10, Try.ntmps10
  go_wp2_with fail
  refine (fix_w1 (heap_new_at _ _ rfl)).mono ?_
  rintro e w2 ⟨rfl, ho⟩
  have hO2 := Lib.hid (((Only.refl (fun _ => False) w).alloc _).trans' ho)
  clear ho
  go_wp2_with fail
  refine (fix_w2 (heap_new_at _ _ rfl)).mono ?_
  rintro e w3 ⟨rfl, ho⟩
  have hO3 := Lib.hid ((hO2.out.alloc _).trans' ho)
  clear ho
  go_wp2_with fail
  refine (fix_s (heap_new_at _ _ rfl)).mono ?_
  rintro e w4 ⟨rfl, ho⟩
  have hO4 := Lib.hid ((hO3.out.alloc _).trans' ho)
  clear ho
  go_wp2_with fail
  refine (fix_d (heap_new_at _ _ rfl)).mono ?_
  rintro e w5 ⟨rfl, ho⟩
  have hO5 := Lib.hid ((hO4.out.alloc _).trans' ho)
  clear ho
  go_wp2
  rw [hZ'.out]
  exact ⟨rfl, hO5.out⟩
end Go.Proofs.Ytcgnboplpibcgaa
