/- edf: the fixed calls. -/
import Derived.Test.YtkolbaadakhciaaEFit
import Derived.Test.YtkolbaadakhciaaELate
namespace Go.Proofs.Ytkolbaadakhciaa
namespace Edf
open Go Go.RowKit
open Bch (U)

theorem fin_same {l : List Wk} {i e e' : Nat} (h : FinAt l i e) (h' : FinAt l i e') : e = e' := by
  rcases h with ⟨h1, h2⟩ | ⟨h1, h2, h3, h4⟩ <;> rcases h' with ⟨k1, k2⟩ | ⟨k1, k2, k3, k4⟩
  · omega
  · omega
  · omega
  · rcases Nat.lt_trichotomy e e' with hlt | heq | hgt
    · have h5 := lef_mono l (show e ≤ e' - 1 by omega) i
      have h6 := (goes_some k3).2.2.1
      omega
    · exact heq
    · have h5 := lef_mono l (show e' ≤ e - 1 by omega) i
      have h6 := (goes_some h3).2.2.1
      omega
def fl1 : List Wk := [⟨0, 2, 4⟩, ⟨0, 2, 2⟩]
def fl2 : List Wk := [⟨1, 1, 4⟩]
def fl3 : List Wk := [⟨0, 2, 1⟩]
def fs1 : List St := [⟨2, 5, 10⟩]
def fs2 : List St := [⟨2, 1, 10⟩]
theorem fe1 : FinAt fl1 0 4 ∧ FinAt fl1 1 2 := ⟨.inr ⟨by decide, by decide, by decide, by decide⟩, .inr ⟨by decide, by decide, by decide, by decide⟩⟩
theorem fe3 : FinAt fl3 0 2 := .inr ⟨by decide, by decide, by decide, by decide⟩
theorem wrow_one {w : World} {X : Nat} {r c d : Int} (h : w.heap[X]? = some (.cells [.int .i64 r, .int .i64 c, .int .i64 d].toArray 53 (0, 0))) : WRow w (some ⟨X, 0, none⟩) [⟨r, c, d⟩] := fun k x hk => by
  cases k with
  | zero => cases hk; exact ⟨X, 0, rfl, row_lt h, row_cell h (i := 0) rfl, row_cell h (i := 1) rfl, row_cell h (i := 2) rfl⟩
  | succ k => simp at hk
theorem srow_one {w : World} {X c d p : Nat} (h : w.heap[X]? = some (.cells [U c, U d, U p].toArray 61 (0, 0))) : SRow w (some ⟨X, 0, none⟩) [⟨c, d, p⟩] := fun k x hk => by
  cases k with
  | zero => cases hk; exact ⟨X, 0, rfl, row_lt h, row_cell h (i := 0) rfl, row_cell h (i := 1) rfl, row_cell h (i := 2) rfl⟩
  | succ k => simp at hk
def RowIs (X : Nat) (l : List Int) (w : World) (e : Ending) (w' : World) : Prop := e = .returned (.slice (some ⟨X, 0, none⟩) l.length l.length) ∧ w'.heap[X]? = some (.cells (l.map (Value.int .i64)).toArray 3 (0, 0)) ∧ Only (fun _ => False) w w'
theorem fx_run {w : World} {X : Nat} (h : w.heap[X]? = some (.cells [.int .i64 0, .int .i64 2, .int .i64 4, .int .i64 0, .int .i64 2, .int .i64 2].toArray 53 (0, 0))) : Calls Try.prog 25 #[.slice (some ⟨X, 0, none⟩) 2 2] w fun e w' => ∃ Y, RowIs Y [4, 2] w e w' := by
  have hr : WRow w (some ⟨X, 0, none⟩) [⟨0, 2, 4⟩, ⟨0, 2, 2⟩] := fun k x hk => by
    match k, hk with
    | 0, hk => cases hk; exact ⟨X, 0, rfl, row_lt h, row_cell h (i := 0) rfl, row_cell h (i := 1) rfl, row_cell h (i := 2) rfl⟩
    | 1, hk => cases hk; exact ⟨X, 0, rfl, row_lt h, row_cell h (i := 3) rfl, row_cell h (i := 4) rfl, row_cell h (i := 5) rfl⟩
    | k + 2, hk => simp at hk
  refine (run_any (n := 2) (cap := 2) sorts_19 hr rfl (by omega) (by omega)).mono ?_
  rintro e w' ⟨Y, E, rfl, -, h1, h2, h3, h4⟩
  have hl : ([⟨0, 2, 4⟩, ⟨0, 2, 2⟩] : List RW).map clampW = fl1 := rfl
  rw [hl] at h2 h3 ⊢
  refine ⟨Y, rfl, ?_, h4⟩
  obtain ⟨e0, i0, f0⟩ := h3 0 (by decide)
  obtain ⟨e1, i1, f1⟩ := h3 1 (by decide)
  obtain rfl := fin_same f0 fe1.1
  obtain rfl := fin_same f1 fe1.2
  have : E = [4, 2] := by
    match E, h2, i0, i1 with
    | [a, b], _, i0, i1 => simp at i0 i1; rw [i0, i1]
  rw [h1, this]
  rfl
theorem fx_order {w : World} {X : Nat} (h : w.heap[X]? = some (.cells [.int .i64 1, .int .i64 1, .int .i64 4].toArray 53 (0, 0))) : Calls Try.prog 27 #[.slice (some ⟨X, 0, none⟩) 1 1, .int .i64 3] w fun e w' => ∃ Y, RowIs Y [-1, 0, -1] w e w' := by
  refine (order_any (n := 1) (cap := 1) (T := 3) sorts_19 (wrow_one h) rfl (by omega) (by omega) (by omega)).mono ?_
  rintro e w' ⟨Y, rfl, -, h1, h4⟩
  have hl : ([⟨1, 1, 4⟩] : List RW).map clampW = fl2 := rfl
  rw [hl] at h1
  refine ⟨Y, rfl, ?_, h4⟩
  rw [h1]
  rfl
theorem fx_late {w : World} {X : Nat} (h : w.heap[X]? = some (.cells [.int .i64 0, .int .i64 2, .int .i64 1].toArray 53 (0, 0))) : Calls Try.prog 26 #[.slice (some ⟨X, 0, none⟩) 1 1] w fun e w' => ∃ p cap, e = .returned (.slice p 1 cap) ∧ Only (fun _ => False) w w' := by
  refine (late_any (n := 1) (cap := 1) sorts_19 (wrow_one h) rfl (by omega) (by omega)).mono ?_
  rintro e w' ⟨v, hh, E, rfl, h1, h2, h3, h4⟩
  have hl : ([⟨0, 2, 1⟩] : List RW).map clampW = fl3 := rfl
  rw [hl] at h1 h2 h3
  obtain ⟨e0, i0, f0⟩ := h3 0 (by decide)
  obtain rfl := fin_same f0 fe3
  have hE : E = [2] := by
    match E, h2, i0 with
    | [a], _, i0 => simp at i0; rw [i0]
  rw [hE, show (lateTo fl3 [2] fl3.length) = [0] from by decide] at h1
  obtain ⟨g, off, cc, _, hv, _⟩ := h1.at_ (by decide)
  exact ⟨_, _, by rw [hv]; rfl, h4⟩
theorem fx_dem {w : World} {X : Nat} (h : w.heap[X]? = some (.cells [U 2, U 5, U 10].toArray 61 (0, 0))) : Calls Try.prog 34 #[.slice (some ⟨X, 0, none⟩) 1 1, U 15] w fun e w' => e = .returned (U 4) ∧ Only (fun _ => False) w w' := by
  have := demand_any (n := 1) (cap := 1) (x := 15) (srow_one h) (by intro s hs; rw [List.mem_singleton.1 hs]; exact ⟨by decide, by decide, by decide⟩) rfl (by omega) (by omega)
  rwa [show demS [⟨2, 5, 10⟩] 15 = 4 from by decide] at this
theorem fx_fits {w : World} {X : Nat} (h : w.heap[X]? = some (.cells [U 2, U 1, U 10].toArray 61 (0, 0))) : Calls Try.prog 28 #[.slice (some ⟨X, 0, none⟩) 1 1, U 5] w fun e w' => e = .returned (.bool false) ∧ Only (fun _ => False) w w' := by
  refine (fits_any (n := 1) (cap := 1) (T := 5) (srow_one h) (by intro s hs; rw [List.mem_singleton.1 hs]; exact ⟨by decide, by decide, by decide⟩) rfl (by omega) (by omega)).mono ?_
  rintro e w' ⟨B, rfl, h1, h2⟩
  refine ⟨?_, h2⟩
  cases B with
  | false => rfl
  | true =>
    exfalso
    rcases h1.1 rfl with h3 | h3
    · exact absurd h3 (by decide)
    · exact absurd (h3.2 1 (by decide) (by decide)) (by decide)
set_option maxRecDepth 100000 in
set_option maxHeartbeats 4000000 in
theorem fixed33_any (w : World) : Calls Try.prog 22 #[] w fun e w' => e = .returned (.bool true) ∧ Only (fun _ => False) w w' := by
  obtain ⟨Z, hZ⟩ : ∃ Z : Ending → World → Prop, Z = fun e w' => e = .returned (.bool true) ∧ Only (fun _ => False) w w' := ⟨_, rfl⟩
  rw [← hZ]
  have hZ' := Lib.hid hZ
  clear hZ
  go_enter Try.func22, Try.ntmps22
  go_wp2_with fail
  refine (fx_run (heap_new_at _ _ rfl)).mono ?_
  rintro e w2 ⟨A, rfl, r1, ho⟩
  have hO2 := Lib.hid (((Only.refl (fun _ => False) w).alloc _).trans' ho)
  have hr1 := Lib.hid r1
  clear ho r1
  go_wp2_with fail
  refine (fx_order (heap_new_at _ _ rfl)).mono ?_
  rintro e w3 ⟨B, rfl, r2, ho⟩
  have hO3 := Lib.hid ((hO2.out.alloc _).trans' ho)
  have r1 := ho.heap (heap_kept_alloc hr1.out _) (fun h => h)
  have a0 := row_cell r1 (i := 0) rfl
  have a1 := row_cell r1 (i := 1) rfl
  have b0 := row_cell r2 (i := 0) rfl
  have b1 := row_cell r2 (i := 1) rfl
  clear ho r1 r2 hr1
  go_wp2_with fail
  refine (fx_late (heap_new_at _ _ rfl)).mono ?_
  rintro e w4 ⟨p, cap, rfl, ho⟩
  have hO4 := Lib.hid ((hO3.out.alloc _).trans' ho)
  clear ho a0 a1 b0 b1
  go_wp2_with fail
  refine (fx_dem (heap_new_at _ _ rfl)).mono ?_
  rintro e w5 ⟨rfl, ho⟩
  have hO5 := Lib.hid ((hO4.out.alloc _).trans' ho)
  clear ho
  go_wp2_with fail
  refine (fx_fits (heap_new_at _ _ rfl)).mono ?_
  rintro e w6 ⟨rfl, ho⟩
  have hO6 := Lib.hid ((hO5.out.alloc _).trans' ho)
  clear ho
  go_wp2
  rw [hZ'.out]
  exact ⟨rfl, hO6.out⟩
end Edf
end Go.Proofs.Ytkolbaadakhciaa
