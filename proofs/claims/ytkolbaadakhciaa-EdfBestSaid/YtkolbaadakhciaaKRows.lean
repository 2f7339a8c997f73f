/- Rows of elements of several cells, over any kind of element. Speaks of no program. -/
import Derived.Test.YtkolbaadakhciaaWin
namespace Go.Proofs.Ytkolbaadakhciaa
namespace Krn
open Go Go.RowKit

section
variable {α : Type} {f : α → List Value} {sz : Nat}
def rowC (f : α → List Value) (l : List α) : List Value := l.flatMap f
theorem rowC_append (a b : List α) : rowC f (a ++ b) = rowC f a ++ rowC f b := by simp [rowC]
theorem rowC_one (x : α) : rowC f [x] = f x := by simp [rowC]
theorem rowC_len (hf : ∀ x, (f x).length = sz) (l : List α) : (rowC f l).length = l.length * sz := by
  induction l with
  | nil => simp [rowC]
  | cons x l ih =>
    rw [show rowC f (x :: l) = f x ++ rowC f l from rfl, List.length_append, ih, hf, List.length_cons, Nat.add_mul]
    omega
theorem rowC_at (hf : ∀ x, (f x).length = sz) : ∀ (l : List α) (i : Nat) (x : α), l[i]? = some x → ∀ j, j < sz → (rowC f l)[i * sz + j]? = (f x)[j]?
  | [], i, x, h, _, _ => by simp at h
  | y :: l, 0, x, h, j, hj => by
    obtain rfl : y = x := by simpa using h
    rw [show rowC f (y :: l) = f y ++ rowC f l from rfl, List.getElem?_append_left (by rw [hf]; omega)]
    congr 1
    omega
  | y :: l, i + 1, x, h, j, hj => by
    rw [show rowC f (y :: l) = f y ++ rowC f l from rfl, List.getElem?_append_right (by rw [hf, Nat.add_mul]; omega), hf]
    have e : (i + 1) * sz + j - sz = i * sz + j := by rw [Nat.add_mul]; omega
    rw [e]
    exact rowC_at hf l i x (by simpa using h) j hj
theorem rowC_mem {u : Value} {l : List α} (h : u ∈ rowC f l) : ∃ x ∈ l, u ∈ f x := List.mem_flatMap.1 h
/-- One cell of an element turned: the element turned. -/
theorem rowC_set (hf : ∀ x, (f x).length = sz) : ∀ (l : List α) (i : Nat) (x y : α) (j : Nat) (u : Value), l[i]? = some x → j < sz → f y = (f x).set j u → (rowC f l).set (i * sz + j) u = rowC f (l.set i y)
  | [], i, x, y, j, u, h, _, _ => by simp at h
  | z :: l, 0, x, y, j, u, h, hj, hy => by
    obtain rfl : z = x := by simpa using h
    rw [show rowC f (z :: l) = f z ++ rowC f l from rfl, List.set_append_left _ _ (by rw [hf]; omega), List.set_cons_zero, show rowC f (y :: l) = f y ++ rowC f l from rfl, hy]
    congr 2
    omega
  | z :: l, i + 1, x, y, j, u, h, hj, hy => by
    rw [show rowC f (z :: l) = f z ++ rowC f l from rfl, List.set_append_right _ _ (by rw [hf, Nat.add_mul]; omega), hf]
    have e : (i + 1) * sz + j - sz = i * sz + j := by rw [Nat.add_mul]; omega
    rw [e, rowC_set hf l i x y j u (by simpa using h) hj hy, List.set_cons_succ]
    rfl
end

section
variable {w w' : World} {e : TypeId} {sz n : Nat} {v : Value} {o : Option Nat} {xs : List Value}
/-- A cell of a slice of the call's own turned. -/
theorem win_setCell {g off cap k : Nat} (hW : Win w e sz (.slice (some ⟨g, off, none⟩) n cap) o n xs) (hn : 0 < n) (hk : k < n * sz) (u : Value) : Win (w.setCell ⟨g, off + k, none⟩ u) e sz (.slice (some ⟨g, off, none⟩) n cap) o n (xs.set k u) := by
  obtain ⟨hl, p, cap', hv, h1, h2, h3⟩ := hW
  simp only [Value.slice.injEq, true_and] at hv
  obtain ⟨hp, rfl⟩ := hv
  refine ⟨by rw [List.length_set]; exact hl, _, _, rfl, h1, h2, ?_⟩
  rcases h3 with h3 | ⟨g', off', L, hg, hp', hh, h4, h5⟩
  · omega
  · rw [← hp] at hp'
    simp only [Option.some.injEq, Addr.mk.injEq, and_true] at hp'
    obtain ⟨rfl, rfl⟩ := hp'
    refine .inr ⟨g, off, L.set (off + k) u, hg, rfl, row_set hh _ _, by rw [List.length_set]; exact h4, ?_⟩
    rw [← h5]
    apply List.ext_getElem?
    intro i
    rw [List.getElem?_take, List.getElem?_set]
    by_cases hi : i < n * sz
    · rw [if_pos hi, List.getElem?_drop, List.getElem?_set]
      by_cases hik : k = i
      · subst hik
        have hlen : off + k < L.length := by
          have : n * sz ≤ cap * sz := Nat.mul_le_mul_right _ h1
          omega
        have hlen2 : k < (List.take (n * sz) (List.drop off L)).length := by rw [List.length_take, List.length_drop]; omega
        rw [if_pos rfl, if_pos rfl, if_pos hlen, if_pos hlen2]
      · rw [if_neg (by omega), if_neg hik, List.getElem?_take, if_pos hi, List.getElem?_drop]
    · rw [if_neg hi, if_neg (by omega), List.getElem?_take, if_neg hi]
/-- Where there is an element: the slice's address, each element's cells. -/
theorem win_row {α : Type} {f : α → List Value} {l : List α} (hf : ∀ x, (f x).length = sz) (hW : Win w e sz v o l.length (rowC f l)) {i : Nat} {x : α} (hx : l[i]? = some x) : ∃ g off cap, o = some g ∧ v = .slice (some ⟨g, off, none⟩) l.length cap ∧ l.length ≤ cap ∧ cap ≤ maxLen ∧ i < l.length ∧ g < w.heap.size ∧ (∀ j u, (f x)[j]? = some u → w.cell? ⟨g, off + i * sz + j, none⟩ = some u) ∧ ∀ k, w.frozen? ⟨g, k, none⟩ = false := by
  have hi := (List.getElem?_eq_some_iff.1 hx).1
  obtain ⟨g, off, cap, h1, h2, h3, h4, h5, h6, h7⟩ := hW.at_ (by omega)
  refine ⟨g, off, cap, h1, h2, h3, h4, hi, h5, fun j u hu => ?_, h7⟩
  have hj : j < sz := by have := (List.getElem?_eq_some_iff.1 hu).1; rw [hf] at this; exact this
  rw [Nat.add_assoc]
  exact h6 _ _ ((rowC_at hf l i x hx j hj).trans hu)
/-- One cell of an element turned. -/
theorem win_turn {α : Type} {f : α → List Value} {l : List α} (hf : ∀ x, (f x).length = sz) {g off cap : Nat} (hW : Win w e sz (.slice (some ⟨g, off, none⟩) l.length cap) o l.length (rowC f l)) {i : Nat} {x y : α} (hx : l[i]? = some x) {j : Nat} {u : Value} (hj : j < sz) (hy : f y = (f x).set j u) :
    Win (w.setCell ⟨g, off + i * sz + j, none⟩ u) e sz (.slice (some ⟨g, off, none⟩) (l.set i y).length cap) o (l.set i y).length (rowC f (l.set i y)) := by
  have hi := (List.getElem?_eq_some_iff.1 hx).1
  have hk : i * sz + j < l.length * sz := by
    have : (i + 1) * sz ≤ l.length * sz := Nat.mul_le_mul_right _ hi
    rw [Nat.add_mul] at this
    omega
  have := win_setCell hW (by omega) hk u
  rw [rowC_set hf l i x y j u hx hj hy, ← Nat.add_assoc] at this
  rw [List.length_set]
  exact this
end
end Krn
end Go.Proofs.Ytkolbaadakhciaa
