/- The fixed calls of ReloadBounds. -/
import Derived.Test.YteeleelkepjoaaaMis
namespace Go.Proofs.Yteeleelkepjoaaa
namespace Rld
open Go Go.RowKit Rca Srt

def twoT (p : Int) (X n : Nat) : TaskV := ⟨p, p, 0, 0, 0, 0, ⟨some ⟨X, 0, none⟩, n, n⟩⟩
def twoC (X : Nat) : ConfV := ⟨2, 1, 1, 5, ⟨none, 0, 0⟩, 0, ⟨none, 0, 0⟩, ⟨none, 0, 0⟩, ⟨some ⟨X + 2, 0, none⟩, 2, 2⟩, ⟨none, 0, 0⟩⟩
def twoA : List Opn := [⟨2, 1, 0⟩, ⟨2, 3, 0⟩, ⟨2, 4, 0⟩]
def twoB : List Opn := [⟨2, 7, 0⟩]
def twoP (X : Nat) : Tks := [(twoT 1 X 3, twoA), (twoT 2 (X + 1) 1, twoB)]
def TwoEnd (w : World) (e : Ending) (w' : World) : Prop := ∃ X, e = .returned (twoC X).val ∧ CfOk w' (twoC X) (twoP X) 2 ∧ Only (fun _ => False) w w'
theorem two_ok {w : World} {X : Nat} (h1 : w.heap[X]? = some (.cells [.int .i64 2, .int .i64 1, .int .i64 0, .int .i64 2, .int .i64 3, .int .i64 0, .int .i64 2, .int .i64 4, .int .i64 0].toArray 39 (0, 0)))
    (h2 : w.heap[X + 1]? = some (.cells [.int .i64 2, .int .i64 7, .int .i64 0].toArray 39 (0, 0)))
    (h3 : w.heap[X + 2]? = some (.cells ((twoT 1 X 3).cells ++ (twoT 2 (X + 1) 1).cells).toArray 36 (0, 0))) : CfOk w (twoC X) (twoP X) 2 := by
  have hA : OpnRow w (some ⟨X, 0, none⟩) twoA := fun k o ho => by
    match k, ho with
    | 0, ho => cases ho; exact ⟨X, 0, rfl, row_lt h1, row_cell h1 (i := 0) rfl, row_cell h1 (i := 1) rfl, row_cell h1 (i := 2) rfl⟩
    | 1, ho => cases ho; exact ⟨X, 0, rfl, row_lt h1, row_cell h1 (i := 3) rfl, row_cell h1 (i := 4) rfl, row_cell h1 (i := 5) rfl⟩
    | 2, ho => cases ho; exact ⟨X, 0, rfl, row_lt h1, row_cell h1 (i := 6) rfl, row_cell h1 (i := 7) rfl, row_cell h1 (i := 8) rfl⟩
    | k + 3, ho => simp [twoA] at ho
  have hB : OpnRow w (some ⟨X + 1, 0, none⟩) twoB := fun k o ho => by
    match k, ho with
    | 0, ho => cases ho; exact ⟨X + 1, 0, rfl, row_lt h2, row_cell h2 (i := 0) rfl, row_cell h2 (i := 1) rfl, row_cell h2 (i := 2) rfl⟩
    | k + 1, ho => simp [twoB] at ho
  refine ⟨rfl, by omega, by omega, (by show 2 ≤ 1000000; omega), ⟨rfl, Nat.le_refl _, fun k t ht => ?_⟩, ⟨fun i t l ht => ?_⟩, fun i t l ht => ?_⟩
  · match k, ht with
    | 0, ht => cases ht; exact ⟨X + 2, 0, rfl, row_lt h3, row_cell h3 (i := 0) rfl, row_cell h3 (i := 1) rfl, row_cell h3 (i := 2) rfl, row_cell h3 (i := 3) rfl, row_cell h3 (i := 4) rfl, row_cell h3 (i := 5) rfl, row_cell h3 (i := 6) rfl⟩
    | 1, ht => cases ht; exact ⟨X + 2, 0, rfl, row_lt h3, row_cell h3 (i := 7) rfl, row_cell h3 (i := 8) rfl, row_cell h3 (i := 9) rfl, row_cell h3 (i := 10) rfl, row_cell h3 (i := 11) rfl, row_cell h3 (i := 12) rfl, row_cell h3 (i := 13) rfl⟩
    | k + 2, ht => simp [twoP, Tks.ts] at ht
  · match i, ht with
    | 0, ht => cases ht; exact ⟨hA, rfl, (by show 3 ≤ 1000000; omega), Nat.le_refl _⟩
    | 1, ht => cases ht; exact ⟨hB, rfl, (by show 1 ≤ 1000000; omega), Nat.le_refl _⟩
    | k + 2, ht => simp [twoP] at ht
  · match i, ht with
    | 0, ht => cases ht; intro o ho _; simp [twoA] at ho; rcases ho with rfl | rfl | rfl <;> exact ⟨by decide, by decide⟩
    | 1, ht => cases ht; intro o ho _; simp [twoB] at ho; subst ho; exact ⟨by decide, by decide⟩
    | k + 2, ht => simp [twoP] at ht

set_option maxHeartbeats 1000000 in
theorem two_any (w : World) : Calls Try.prog 25 #[] w (TwoEnd w) := by
  go_enter Try.func25, Try.ntmps25
  go_wp2
  generalize hW : (((w.alloc (.cells #[.int .i64 2, .int .i64 1, .int .i64 1, .int .i64 5, .slice none 0 0, .int .i64 0, .slice none 0 0, .slice none 0 0, .slice (some ⟨w.heap.size + 1 + 1 + 1, 0, none⟩) 2 2, .slice none 0 0] 27)).alloc _).alloc _).alloc _ = W9
  have hO : Only (fun _ => False) w W9 := by rw [← hW]; exact ((((Only.refl _ w).alloc _).alloc _).alloc _).alloc _
  have b0 : W9.heap[w.heap.size]? = some (.cells [.int .i64 2, .int .i64 1, .int .i64 1, .int .i64 5, .slice none 0 0, .int .i64 0, .slice none 0 0, .slice none 0 0, .slice (some ⟨w.heap.size + 1 + 2, 0, none⟩) 2 2, .slice none 0 0].toArray 27 (0, 0)) := by
    rw [← hW]; exact heap_kept_alloc (heap_kept_alloc (heap_kept_alloc (heap_new_at _ _ rfl) _) _) _
  have h1 : W9.heap[w.heap.size + 1]? = some (.cells [.int .i64 2, .int .i64 1, .int .i64 0, .int .i64 2, .int .i64 3, .int .i64 0, .int .i64 2, .int .i64 4, .int .i64 0].toArray 39 (0, 0)) := by
    rw [← hW]; exact heap_kept_alloc (heap_kept_alloc (heap_new_at _ _ (by simp)) _) _
  have h2 : W9.heap[w.heap.size + 1 + 1]? = some (.cells [.int .i64 2, .int .i64 7, .int .i64 0].toArray 39 (0, 0)) := by
    rw [← hW]; exact heap_kept_alloc (heap_new_at _ _ (by simp)) _
  have h3 : W9.heap[w.heap.size + 1 + 2]? = some (.cells ((twoT 1 (w.heap.size + 1) 3).cells ++ (twoT 2 (w.heap.size + 1 + 1) 1).cells).toArray 36 (0, 0)) := by
    rw [← hW]; exact heap_new_at _ _ (by simp)
  clear hW
  have c0 := row_cell b0 (i := 0) rfl
  have c1 := row_cell b0 (i := 1) rfl
  have c2 := row_cell b0 (i := 2) rfl
  have c3 := row_cell b0 (i := 3) rfl
  have c4 := row_cell b0 (i := 4) rfl
  have c5 := row_cell b0 (i := 5) rfl
  have c6 := row_cell b0 (i := 6) rfl
  have c7 := row_cell b0 (i := 7) rfl
  have c8 := row_cell b0 (i := 8) rfl
  have c9 := row_cell b0 (i := 9) rfl
  exact bodyPost_ret (v := (twoC (w.heap.size + 1)).val) (by simp [results, Try.results25, go_sem, c0, c1, c2, c3, c4, c5, c6, c7, c8, c9, twoC, ConfV.val]) rfl ⟨w.heap.size + 1, rfl, two_ok h1 h2 h3, hO⟩
end Rld
end Go.Proofs.Yteeleelkepjoaaa
