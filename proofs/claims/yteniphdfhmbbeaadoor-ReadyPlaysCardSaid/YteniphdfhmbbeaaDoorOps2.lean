/- Package prog's Op, and the document's own: one answer for both. -/
import Derived.Test.YteniphdfhmbbeaaDoorOps
namespace Go.Proofs.YteniphdfhmbbeaaDoor
open Go Go.RowKit

/-- An operation. -/
structure Opn where
  k : Int
  a : Int
  b : Int
def Opn.val (o : Opn) : Value := .agg #[.int .i64 o.k, .int .i64 o.a, .int .i64 o.b]
def Opn.cells (o : Opn) : List Value := [.int .i64 o.k, .int .i64 o.a, .int .i64 o.b]
/-- The answer for a kind that is one. -/
def opV (k : Nat) (a b : Int) (r : RoomV) : Int := if inB (loA k) (hiA k r) a = true ∧ inB 0 (hiB k) b = true then 0 else 5
def opZ (o : Opn) (r : RoomV) : Int :=
  if o.k < 1 ∨ 15 < o.k then 1 else opV o.k.toNat o.a o.b r

set_option maxHeartbeats 800000 in
theorem seconds_any {w : World} (hw : Words w) (k : Nat) (h1 : 1 ≤ k) (h2 : k ≤ 15) : Calls Tryd.prog 65 #[.int .i64 k] w (GrowV (spanV 0 (hiB k)) w) := by
  have hn := Lib.hid (fun W (hW : Only (fun _ => False) w W) => numbers_any (hw.new hW) (k : Int))
  have hnz := numZ_in h1 h2
  by_cases h22 : numZ (k : Int) = 2
  · have hb : hiB k = 255 := by
      rw [hnz] at h22
      have hk : k = 1 ∨ k = 2 ∨ k = 3 ∨ k = 4 ∨ k = 5 ∨ k = 6 ∨ k = 7 ∨ k = 8 ∨ k = 9 ∨ k = 10 ∨ k = 11 ∨ k = 12 ∨ k = 13 ∨ k = 14 ∨ k = 15 := by omega
      rcases hk with rfl | rfl | rfl | rfl | rfl | rfl | rfl | rfl | rfl | rfl | rfl | rfl | rfl | rfl | rfl <;> first | rfl | (exfalso; revert h22; decide)
    rw [hb]
    rw [h22] at hn
    clear hnz hw h1 h2 hb h22
    go_enter Tryd.func65, Tryd.ntmps65
    go_wp2_with (go_at_call 62; refine (hn.out _ ((Only.refl _ w).alloc _)).mono ?_; rintro e w' ⟨rfl, rfl⟩)
    exact bodyPost_ret (v := spanV 0 255) (by simp [results, Tryd.results65, go_sem, spanV]) rfl ⟨rfl, (Only.refl _ w).alloc _⟩
  · have hb : hiB k = 0 := by
      rw [hnz] at h22
      have hk : k = 1 ∨ k = 2 ∨ k = 3 ∨ k = 4 ∨ k = 5 ∨ k = 6 ∨ k = 7 ∨ k = 8 ∨ k = 9 ∨ k = 10 ∨ k = 11 ∨ k = 12 ∨ k = 13 ∨ k = 14 ∨ k = 15 := by omega
      rcases hk with rfl | rfl | rfl | rfl | rfl | rfl | rfl | rfl | rfl | rfl | rfl | rfl | rfl | rfl | rfl <;> first | rfl | (exfalso; revert h22; decide)
    rw [hb]
    have hne : (numZ (k : Int) == 2) = false := by simpa using h22
    obtain ⟨z, hz⟩ : ∃ z, z = numZ (k : Int) := ⟨_, rfl⟩
    rw [← hz] at hn hne
    clear hnz hw h1 h2 hb h22 hz
    go_enter Tryd.func65, Tryd.ntmps65
    go_wp2_with (go_at_call 62; refine (hn.out _ ((Only.refl _ w).alloc _)).mono ?_; rintro e w' ⟨rfl, rfl⟩)
    exact bodyPost_ret (v := spanV 0 0) (by simp [results, Tryd.results65, go_sem, spanV]) rfl ⟨rfl, (Only.refl _ w).alloc _⟩

set_option maxHeartbeats 800000 in
theorem op_none {w : World} (hw : Words w) (o : Opn) (r : RoomV) (hk : o.k < 1 ∨ 15 < o.k) : Calls Tryd.prog 51 #[o.val, r.val] w (GrowI 1 w) := by
  have hn := fun W (hW : Only (fun _ => False) w W) => numbers_any (hw.new hW) o.k
  rw [show numZ o.k = -1 by unfold numZ; rw [if_pos hk]] at hn
  have hn' := Lib.hid hn
  clear hw hk hn
  unfold Opn.val RoomV.val
  go_enter Tryd.func51, Tryd.ntmps51
  go_wp2_with (go_at_call 62; refine (hn'.out _ (((Only.refl _ w).alloc _).alloc _)).mono ?_; rintro e w' ⟨rfl, rfl⟩)
  go_ret
  exact ⟨rfl, ((Only.refl _ w).alloc _).alloc _⟩

set_option maxHeartbeats 2000000 in
theorem op_some {w : World} (hw : Words w) (a b : Int) (k : Nat) (h1 : 1 ≤ k) (h2 : k ≤ 15) (r : RoomV) (hr : r.ok) : Calls Tryd.prog 51 #[Opn.val ⟨k, a, b⟩, r.val] w (GrowI (opV k a b r) w) := by
  have hn := fun W (hW : Only (fun _ => False) w W) => numbers_any (hw.new hW) (k : Int)
  rw [numZ_in h1 h2] at hn
  obtain ⟨z, hz⟩ : ∃ z, z = wnums.getD k 0 := ⟨_, rfl⟩
  rw [← hz] at hn
  have hz0 : ¬ z < 0 := by
    rw [hz]
    have hk : k = 1 ∨ k = 2 ∨ k = 3 ∨ k = 4 ∨ k = 5 ∨ k = 6 ∨ k = 7 ∨ k = 8 ∨ k = 9 ∨ k = 10 ∨ k = 11 ∨ k = 12 ∨ k = 13 ∨ k = 14 ∨ k = 15 := by omega
    rcases hk with rfl | rfl | rfl | rfl | rfl | rfl | rfl | rfl | rfl | rfl | rfl | rfl | rfl | rfl | rfl <;> decide
  have hn' := Lib.hid hn
  have hw' := Lib.hid hw
  have hr' := Lib.hid hr
  clear hw hr hz hn
  unfold Opn.val
  have hrv : r.val = .agg #[.int .i64 r.m, .int .i64 r.g, .int .i64 r.c, .int .i64 r.l] := rfl
  rw [hrv]
  have hrv' := Lib.hid hrv
  clear hrv
  go_enter Tryd.func51, Tryd.ntmps51
  go_wp2_with (go_at_call 62; refine (hn'.out _ (((Only.refl _ w).alloc _).alloc _)).mono ?_; rintro e w' ⟨rfl, rfl⟩)
  have hO : Only (fun _ => False) w ((w.alloc (.cells #[.int .i64 k, .int .i64 a, .int .i64 b] 56)).alloc (.cells #[.int .i64 r.m, .int .i64 r.g, .int .i64 r.c, .int .i64 r.l] 91)) := ((Only.refl _ w).alloc _).alloc _
  have b1 : ((w.alloc (.cells #[.int .i64 k, .int .i64 a, .int .i64 b] 56)).alloc (.cells #[.int .i64 r.m, .int .i64 r.g, .int .i64 r.c, .int .i64 r.l] 91)).heap[w.heap.size]? = some (.cells [.int .i64 k, .int .i64 a, .int .i64 b].toArray 56 (0, 0)) := heap_kept_alloc (heap_new_at _ _ rfl) _
  have b2 : ((w.alloc (.cells #[.int .i64 k, .int .i64 a, .int .i64 b] 56)).alloc (.cells #[.int .i64 r.m, .int .i64 r.g, .int .i64 r.c, .int .i64 r.l] 91)).heap[w.heap.size + 1]? = some (.cells [.int .i64 r.m, .int .i64 r.g, .int .i64 r.c, .int .i64 r.l].toArray 91 (0, 0)) := heap_new_at _ _ (by simp)
  generalize World.alloc (World.alloc w _) _ = W0 at *
  have c0 := wd_cell (row_cell b1 (i := 0) rfl)
  have c1 := wd_cell (row_cell b1 (i := 1) rfl)
  have c2 := wd_cell (row_cell b1 (i := 2) rfl)
  have r0 := wd_cell (row_cell b2 (i := 0) rfl)
  have r1 := wd_cell (row_cell b2 (i := 1) rfl)
  have r2 := wd_cell (row_cell b2 (i := 2) rfl)
  have r3 := wd_cell (row_cell b2 (i := 3) rfl)
  have hex := wd_ex W0
  have hO' := Lib.hid hO
  have hfi := Lib.hid (fun x : Wd W0 => Calls.wd (x := x) (firsts_any x.W r hr'.out k h1 h2))
  have hse := Lib.hid (fun x : Wd W0 => Calls.wd (x := x) (seconds_any (hw'.out.new (hO.trans' x.ok)) k h1 h2))
  rw [hrv'.out] at hfi
  obtain ⟨iA, hiA'⟩ : ∃ iA, iA = inB (loA k) (hiA k r) a := ⟨_, rfl⟩
  obtain ⟨iB, hiB'⟩ : ∃ iB, iB = inB 0 (hiB k) b := ⟨_, rfl⟩
  have hhA := fun x : Wd W0 => Calls.wd (x := x) (has_any x.W a (loA k) (hiA k r))
  have hhB := fun x : Wd W0 => Calls.wd (x := x) (has_any x.W b 0 (hiB k))
  rw [← hiA'] at hhA
  rw [← hiB'] at hhB
  have hAB := Lib.hid (And.intro hiA' hiB')
  have hhA' := Lib.hid hhA
  have hhB' := Lib.hid hhB
  clear b1 b2 hO hhA hhB hiA' hiB' h1 h2
  cases iA with
  | false =>
    refine wp_region_wd (by kernel_rfl) (by kernel_rfl) ?_
    repeat (go_big_quiet_step (first | (go_at_call 63; exact hfi.out _) | (go_at_call 64; exact hhA'.out _)))
    refine wpQuiet_nil ?_
    rintro _ ⟨x, rfl⟩
    have hx := Lib.hid (hO'.out.trans' x.ok)
    go_wp2
    go_ret
    exact ⟨ret_int (by unfold opV; rw [← hAB.out.1, ← hAB.out.2, if_neg (by simp)]), hx.out⟩
  | true =>
    cases iB with
    | false =>
      refine wp_region_wd (by kernel_rfl) (by kernel_rfl) ?_
      repeat (go_big_quiet_step (first | (go_at_call 63; exact hfi.out _) | (go_at_call 65; exact hse.out _) | (go_at_call 64; first | (with_reducible exact hhA'.out _) | (with_reducible exact hhB'.out _))))
      refine wpQuiet_nil ?_
      rintro _ ⟨x, rfl⟩
      have hx := Lib.hid (hO'.out.trans' x.ok)
      go_wp2
      go_ret
      exact ⟨ret_int (by unfold opV; rw [← hAB.out.1, ← hAB.out.2, if_neg (by simp)]), hx.out⟩
    | true =>
      refine wp_region_wd (by kernel_rfl) (by kernel_rfl) ?_
      repeat (go_big_quiet_step (first | (go_at_call 63; exact hfi.out _) | (go_at_call 65; exact hse.out _) | (go_at_call 64; first | (with_reducible exact hhA'.out _) | (with_reducible exact hhB'.out _))))
      refine wpQuiet_nil ?_
      rintro _ ⟨x, rfl⟩
      have hx := Lib.hid (hO'.out.trans' x.ok)
      go_wp2
      go_ret
      exact ⟨ret_int (by unfold opV; rw [← hAB.out.1, ← hAB.out.2, if_pos (by simp)]), hx.out⟩

theorem op_any {w : World} (hw : Words w) (o : Opn) (r : RoomV) (hr : r.ok) : Calls Tryd.prog 51 #[o.val, r.val] w (GrowI (opZ o r) w) := by
  obtain ⟨k, a, b⟩ := o
  by_cases hk : k < 1 ∨ 15 < k
  · have := op_none hw ⟨k, a, b⟩ r hk
    rwa [show opZ ⟨k, a, b⟩ r = 1 by unfold opZ; rw [if_pos hk]]
  · obtain ⟨n, rfl⟩ : ∃ n : Nat, k = n := ⟨k.toNat, by omega⟩
    have := op_some hw a b n (by omega) (by omega) r hr
    rwa [show opZ ⟨(n : Int), a, b⟩ r = opV n a b r by unfold opZ; rw [if_neg hk]; rfl]
end Go.Proofs.YteniphdfhmbbeaaDoor
