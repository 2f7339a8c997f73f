/- The fixed calls of layer 24's laws. -/
import Derived.Test.YteeleelkepjoaaaRch
namespace Go.Proofs.Yteeleelkepjoaaa
namespace Sct
open Go Go.RowKit Lin Lck Cst Srt

def oneT (X : Nat) : TaskV := ⟨1, 2, 0, 0, 0, 0, ⟨some ⟨X + 1, 0, none⟩, 6, 6⟩⟩
def oneC (X : Nat) : ConfV := ⟨1, 1, 1, 5, ⟨none, 0, 0⟩, 0, ⟨none, 0, 0⟩, ⟨some ⟨X, 0, none⟩, 1, 1⟩, ⟨some ⟨X + 2, 0, none⟩, 1, 1⟩, ⟨none, 0, 0⟩⟩
def oneO : List Opn := [⟨1, 5, 0⟩, ⟨3, 0, 0⟩, ⟨1, 2, 0⟩, ⟨4, 0, 0⟩, ⟨5, 0, 0⟩, ⟨6, 0, 0⟩]
def oneP (X : Nat) : Tks := [(oneT X, oneO)]
def oneD : ConfL := ⟨[], [], [7], []⟩
def oneOps : List Value := [.int .i64 1, .int .i64 5, .int .i64 0, .int .i64 3, .int .i64 0, .int .i64 0, .int .i64 1, .int .i64 2, .int .i64 0, .int .i64 4, .int .i64 0, .int .i64 0, .int .i64 5, .int .i64 0, .int .i64 0, .int .i64 6, .int .i64 0, .int .i64 0]
theorem ints_none (w : World) : IntsAt w ⟨none, 0, 0⟩ [] := ⟨rfl, Nat.le_refl _, fun k z hz => by simp at hz⟩
theorem one_in {w : World} {X : Nat} (h1 : w.heap[X]? = some (.cells [.int .i64 7].toArray 3 (0, 0))) (h2 : w.heap[X + 1]? = some (.cells oneOps.toArray 39 (0, 0))) (h3 : w.heap[X + 2]? = some (.cells (oneT X).cells.toArray 36 (0, 0))) : ConfIn w (oneC X) oneD (oneP X) := by
  have hA : OpnRow w (some ⟨X + 1, 0, none⟩) oneO := fun k o ho => by
    match k, ho with
    | 0, ho => cases ho; exact ⟨X + 1, 0, rfl, row_lt h2, row_cell h2 (i := 0) rfl, row_cell h2 (i := 1) rfl, row_cell h2 (i := 2) rfl⟩
    | 1, ho => cases ho; exact ⟨X + 1, 0, rfl, row_lt h2, row_cell h2 (i := 3) rfl, row_cell h2 (i := 4) rfl, row_cell h2 (i := 5) rfl⟩
    | 2, ho => cases ho; exact ⟨X + 1, 0, rfl, row_lt h2, row_cell h2 (i := 6) rfl, row_cell h2 (i := 7) rfl, row_cell h2 (i := 8) rfl⟩
    | 3, ho => cases ho; exact ⟨X + 1, 0, rfl, row_lt h2, row_cell h2 (i := 9) rfl, row_cell h2 (i := 10) rfl, row_cell h2 (i := 11) rfl⟩
    | 4, ho => cases ho; exact ⟨X + 1, 0, rfl, row_lt h2, row_cell h2 (i := 12) rfl, row_cell h2 (i := 13) rfl, row_cell h2 (i := 14) rfl⟩
    | 5, ho => cases ho; exact ⟨X + 1, 0, rfl, row_lt h2, row_cell h2 (i := 15) rfl, row_cell h2 (i := 16) rfl, row_cell h2 (i := 17) rfl⟩
    | k + 6, ho => simp [oneO] at ho
  refine ⟨ints_none _, ints_none _, ⟨rfl, Nat.le_refl _, fun k z hz => ?_⟩, ints_none _, ⟨rfl, Nat.le_refl _, fun k t ht => ?_⟩, fun i t l ht => ?_, (by show 1 ≤ 9223372036854775807; omega)⟩
  · match k, hz with
    | 0, hz => cases hz; exact ⟨X, 0, rfl, row_lt h1, row_cell h1 (i := 0) rfl⟩
    | k + 1, hz => simp [oneD] at hz
  · match k, ht with
    | 0, ht => cases ht; exact ⟨X + 2, 0, rfl, row_lt h3, row_cell h3 (i := 0) rfl, row_cell h3 (i := 1) rfl, row_cell h3 (i := 2) rfl, row_cell h3 (i := 3) rfl, row_cell h3 (i := 4) rfl, row_cell h3 (i := 5) rfl, row_cell h3 (i := 6) rfl⟩
    | k + 1, ht => simp [oneP, Tks.ts] at ht
  · match i, ht with
    | 0, ht => cases ht; exact ⟨hA, rfl, Nat.le_refl _⟩
    | k + 1, ht => simp [oneP] at ht
def One2 (w : World) (e : Ending) (w' : World) : Prop := ∃ X, e = .returned (.agg #[.int .i64 1, .int .i64 1, .int .i64 1, .int .i64 5, .slice none 0 0, .int .i64 0, .slice none 0 0, .slice (some ⟨X, 0, none⟩) 1 1, .slice (some ⟨X + 2, 0, none⟩) 1 1, .slice none 0 0]) ∧ ConfIn w' (oneC X) oneD (oneP X) ∧ Only (fun _ => False) w w'
set_option maxHeartbeats 2000000 in
theorem one_any (w : World) : Calls Try.prog 34 #[] w (One2 w) := by
  go_enter Try.func34, Try.ntmps34
  go_wp2
  generalize hW : (((w.alloc (.cells #[.int .i64 1, .int .i64 1, .int .i64 1, .int .i64 5, .slice none 0 0, .int .i64 0, .slice none 0 0, .slice (some ⟨w.heap.size + 1, 0, none⟩) 1 1, .slice (some ⟨w.heap.size + 1 + 1 + 1, 0, none⟩) 1 1, .slice none 0 0] 27)).alloc _).alloc _).alloc _ = W9
  have hO : Only (fun _ => False) w W9 := by rw [← hW]; exact ((((Only.refl _ w).alloc _).alloc _).alloc _).alloc _
  have b0 : W9.heap[w.heap.size]? = some (.cells [.int .i64 1, .int .i64 1, .int .i64 1, .int .i64 5, .slice none 0 0, .int .i64 0, .slice none 0 0, .slice (some ⟨w.heap.size + 1, 0, none⟩) 1 1, .slice (some ⟨w.heap.size + 1 + 2, 0, none⟩) 1 1, .slice none 0 0].toArray 27 (0, 0)) := by
    rw [← hW]; exact heap_kept_alloc (heap_kept_alloc (heap_kept_alloc (heap_new_at _ _ rfl) _) _) _
  have h1 : W9.heap[w.heap.size + 1]? = some (.cells [.int .i64 7].toArray 3 (0, 0)) := by
    rw [← hW]; exact heap_kept_alloc (heap_kept_alloc (heap_new_at _ _ (by simp)) _) _
  have h2 : W9.heap[w.heap.size + 1 + 1]? = some (.cells oneOps.toArray 39 (0, 0)) := by
    rw [← hW]; exact heap_kept_alloc (heap_new_at _ _ (by simp)) _
  have h3 : W9.heap[w.heap.size + 1 + 2]? = some (.cells (oneT (w.heap.size + 1)).cells.toArray 36 (0, 0)) := by
    rw [← hW]; exact heap_new_at _ _ (by simp)
  clear hW
  have c0 := row_cell b0 (i := 0) rfl
  have c1 := row_cell b0 (i := 1) rfl
  have c2 := row_cell b0 (i := 2) rfl
  have c3 := row_cell b0 (i := 3) rfl
  have c4 := row_cell b0 (i := 4) rfl
  have c5 := row_cell b0 (i := 5) rfl
  have c6 := row_cell b0 (i := 6) rfl
  have c7 := row_cell b0 (i := 7) rfl
  have c8 := row_cell b0 (i := 8) rfl
  have c9 := row_cell b0 (i := 9) rfl
  exact bodyPost_ret (v := .agg #[.int .i64 1, .int .i64 1, .int .i64 1, .int .i64 5, .slice none 0 0, .int .i64 0, .slice none 0 0, .slice (some ⟨w.heap.size + 1, 0, none⟩) 1 1, .slice (some ⟨w.heap.size + 1 + 2, 0, none⟩) 1 1, .slice none 0 0]) (by simp [results, Try.results34, go_sem, c0, c1, c2, c3, c4, c5, c6, c7, c8, c9]) rfl ⟨w.heap.size + 1, rfl, one_in h1 h2 h3, hO⟩
def oneV (X : Nat) : Value := .agg #[.int .i64 1, .int .i64 1, .int .i64 1, .int .i64 5, .slice none 0 0, .int .i64 0, .slice none 0 0, .slice (some ⟨X, 0, none⟩) 1 1, .slice (some ⟨X + 2, 0, none⟩) 1 1, .slice none 0 0]
theorem one_levels {w : World} {X : Nat} (h : ConfIn w (oneC X) oneD (oneP X)) : Calls Try.prog 17 #[oneV X, .int .i64 0] w (LvsEnd 2 (ceZ [7]) 1 oneO w) := levels_any h (by show 1 ≤ 4096; omega) (i := 0) (t := oneT X) (l := oneO) rfl (by decide) (by show 1 ≤ 1000000; omega)
theorem one_longest {w : World} {X : Nat} (h : ConfIn w (oneC X) oneD (oneP X)) (lev : Int) : Calls Try.prog 19 #[oneV X, .int .i64 0, .int .i64 lev] w (GrowI (lonZ 2 (ceZ [7]) 1 oneO 1 5 lev) w) := longest_any h (by show 1 ≤ 4096; omega) (i := 0) (t := oneT X) (l := oneO) rfl (by decide) (by show 1 ≤ 1000000; omega) lev
theorem one_reach {w : World} {X : Nat} (h : ConfIn w (oneC X) oneD (oneP X)) : Calls Try.prog 18 #[oneV X, .int .i64 0] w (IntsEnd w (rchL 2 (levK 2 (ceZ [7]) 1 oneO) 6)) := reach_any h (by show 1 ≤ 4096; omega) (i := 0) (t := oneT X) (l := oneO) rfl (by decide) (by show 1 ≤ 1000000; omega)
theorem lv1 : levK 2 (ceZ [7]) 1 oneO 1 = 2 := by decide
theorem lv2 : levK 2 (ceZ [7]) 1 oneO 2 = 64 := by decide
theorem lo64 : lonZ 2 (ceZ [7]) 1 oneO 1 5 64 = 4 := by decide
theorem lo7 : lonZ 2 (ceZ [7]) 1 oneO 1 5 7 = 6 := by decide
theorem lo2 : lonZ 2 (ceZ [7]) 1 oneO 1 5 2 = 11 := by decide
theorem rc : rchL 2 (levK 2 (ceZ [7]) 1 oneO) 6 = [7, 64] := by
  refine sorted_ext (rchL_sorted _ _ _) (by simp) (fun x => ?_)
  rw [rchL_mem]
  constructor
  · rintro ⟨j, hj, rfl, h⟩
    have : j = 0 ∨ j = 1 ∨ j = 2 ∨ j = 3 ∨ j = 4 ∨ j = 5 := by omega
    rcases this with rfl | rfl | rfl | rfl | rfl | rfl <;> revert h <;> decide
  · intro h
    simp at h
    rcases h with rfl | rfl
    · exact ⟨4, by omega, by decide, by decide⟩
    · exact ⟨1, by omega, by decide, by decide⟩
end Sct
end Go.Proofs.Yteeleelkepjoaaa
