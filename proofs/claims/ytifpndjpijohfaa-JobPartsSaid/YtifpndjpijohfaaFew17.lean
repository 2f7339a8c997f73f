/- Is the program small? -/
import Derived.Test.YtifpndjpijohfaaJob7
namespace Go.Proofs.Ytifpndjpijohfaa
open Go Go.RowKit

def smallB (l : List Opn) : Bool := l.all fun x => decide (-1073741824 ≤ x.a) && decide (x.a ≤ 1073741824)
def fewB (l : List Opn) : Bool := smallB l && decide (l.length ≤ 80)
theorem small_of {l : List Opn} (h : ∀ (k : Nat) x, l[k]? = some x → -1073741824 ≤ x.a ∧ x.a ≤ 1073741824) : smallB l = true := by
  unfold smallB
  rw [List.all_eq_true]
  intro x hx
  obtain ⟨k, hk⟩ := List.getElem?_of_mem hx
  have := h k x hk
  simp
  omega
theorem small_not {l : List Opn} {k : Nat} {x : Opn} (h : l[k]? = some x) (hx : x.a < -1073741824 ∨ 1073741824 < x.a) : smallB l = false := by
  unfold smallB
  rw [List.all_eq_false]
  exact ⟨x, List.mem_of_getElem? h, by simp; omega⟩
theorem few_in {l : List Opn} (h : fewB l = true) : l.length ≤ 80 ∧ ∀ (k : Nat) x, l[k]? = some x → -1073741824 ≤ x.a ∧ x.a ≤ 1073741824 := by
  unfold fewB smallB at h
  rw [Bool.and_eq_true, List.all_eq_true] at h
  refine ⟨by simpa using h.2, fun k x hx => ?_⟩
  have := h.1 x (List.mem_of_getElem? hx)
  simpa using this
set_option maxRecDepth 100000 in
set_option maxHeartbeats 1000000 in
theorem few_any {w : World} {t : TaskV} {l : List Opn} (hl : OpnRow w t.o.A l) (hn : l.length = t.o.n) (hmax : t.o.n ≤ 9223372036854775807) : Calls Try.prog 7 #[t.val, .slice none 0 0] w (GrowB (fewB l) w) := by
  obtain ⟨pr, th, pe, de, fr, fl, ⟨A, n, cap⟩⟩ := t
  dsimp only at hl hn hmax
  have hl' := Lib.hid hl
  have hn' := Lib.hid hn
  obtain ⟨r, hr⟩ : ∃ r, r = fewB l := ⟨_, rfl⟩
  rw [← hr]
  have hr' := Lib.hid hr
  unfold TaskV.val
  dsimp only
  clear hl hn hr
  go_enter Try.func7, Try.ntmps7
  go_wp2
  obtain ⟨X, hX⟩ : ∃ X, X = w.heap.size := ⟨_, rfl⟩
  obtain ⟨W1, hW1⟩ : ∃ W1, W1 = w.alloc (.cells #[.int .i64 pr, .int .i64 th, .int .i64 pe, .int .i64 de, .int .i64 fr, .int .i64 fl, .slice A n cap] 24) := ⟨_, rfl⟩
  have hXc : W1.heap[X]? = some (.cells [.int .i64 pr, .int .i64 th, .int .i64 pe, .int .i64 de, .int .i64 fr, .int .i64 fl, .slice A n cap].toArray 24 (0, 0)) := by rw [hW1]; exact heap_new_at _ _ hX.symm
  have hO1 : Only (fun _ => False) w W1 := by rw [hW1]; exact (Only.refl _ w).alloc _
  rw [← hX, ← hW1]
  have hXc' := Lib.hid hXc
  have hO1' := Lib.hid hO1
  clear hXc hO1 hX hW1
  go_loopw [6, 10] (fun _ i wr => ∃ k : Nat, k ≤ n ∧ i = .int .i64 k ∧ (∀ (j : Nat) x, j < k → l[j]? = some x → -1073741824 ≤ x.a ∧ x.a ≤ 1073741824) ∧ Only (fun _ => False) W1 wr) (fun _ i _ => n - (intOf i).toNat)
  case atStart => exact ⟨0, Nat.zero_le _, rfl, fun j x hj => absurd hj (by omega), Only.refl _ _⟩
  case round =>
    obtain ⟨k, hk, rfl, hall, ho⟩ := hrel
    obtain ⟨ws, hws⟩ : ∃ ws : World, ws = wr := ⟨_, rfl⟩
    subst hws
    have ho' := Lib.hid ho
    have hall' := Lib.hid hall
    clear ho hall
    by_cases hlt : k < n
    · obtain ⟨x, hx⟩ : ∃ x, l[k]? = some x := ⟨_, List.getElem?_eq_getElem (by have := hn'.out; omega)⟩
      obtain ⟨g, off, rfl, hg, a0, a1, a2⟩ := (hl'.out.new (hO1'.out.trans' ho'.out)) k x hx
      have hx' := Lib.hid hx
      obtain ⟨K, a, b2⟩ := x
      dsimp only at a0 a1 a2
      have hcase : a < -1073741824 ∨ (¬ a < -1073741824 ∧ 1073741824 < a) ∨ (¬ a < -1073741824 ∧ ¬ 1073741824 < a) := by omega
      clear hx
      rcases hcase with h1 | ⟨h1, h2⟩ | ⟨h1, h2⟩
      · have hf := Lib.hid (show r = false by rw [hr'.out]; unfold fewB; rw [small_not hx'.out (.inl h1)]; rfl)
        go_wp2
        go_ret
        rw [hf.out]
        exact ⟨rfl, hO1'.out.trans' (ho'.out.alloc _)⟩
      · have hf := Lib.hid (show r = false by rw [hr'.out]; unfold fewB; rw [small_not hx'.out (.inr h2)]; rfl)
        go_wp2
        go_ret
        rw [hf.out]
        exact ⟨rfl, hO1'.out.trans' (ho'.out.alloc _)⟩
      · have h12 := Lib.hid (show -1073741824 ≤ a ∧ a ≤ 1073741824 by omega)
        go_wp2
        go_roundw
        case rel =>
          refine ⟨k + 1, by omega, by go_num, fun j y hj hy => ?_, ho'.out.alloc _⟩
          by_cases hjk : j < k
          · exact hall'.out j y hjk hy
          · obtain rfl : j = k := by omega
            rw [hx'.out] at hy
            cases hy
            exact h12.out
        case measure => simp [intOf]; omega
    · obtain rfl : k = n := by omega
      have d6 := row_cell (ho'.out.heap hXc'.out (fun h => h)) (i := 6) rfl
      have hXl := row_lt (ho'.out.heap hXc'.out (fun h => h))
      have hs := Lib.hid (show smallB l = true from small_of (fun j x hx => hall'.out j x (by have := (List.getElem?_eq_some_iff.1 hx).1; have := hn'.out; omega) hx))
      by_cases h80 : k ≤ 80
      · have hf := Lib.hid (show r = true by rw [hr'.out]; unfold fewB; rw [hs.out, hn'.out]; simp [h80])
        have h80i : (k : Int) ≤ 80 := by omega
        go_wp2
        go_ret
        rw [hf.out]
        exact ⟨rfl, hO1'.out.trans' ho'.out⟩
      · have hf := Lib.hid (show r = false by rw [hr'.out]; unfold fewB; rw [hs.out, hn'.out]; simp [h80])
        have h80i : ¬ (k : Int) ≤ 80 := by omega
        go_wp2
        go_ret
        rw [hf.out]
        exact ⟨rfl, hO1'.out.trans' ho'.out⟩
end Go.Proofs.Ytifpndjpijohfaa
