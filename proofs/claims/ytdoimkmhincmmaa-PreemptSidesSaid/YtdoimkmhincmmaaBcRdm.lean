/- The document's demand and window. -/
import Derived.Test.YtdoimkmhincmmaaBcSpl
namespace Go.Proofs.Ytdoimkmhincmmaa
namespace Bch
open Go Go.RowKit
/-- r is the least x from 1 on whose D isn't above it, up to most; 0: there is none. -/
def IsWin (D : Nat → Nat) (most r : Nat) : Prop := (r = 0 ∧ ∀ x, 1 ≤ x → x ≤ most → x < D x) ∨ (1 ≤ r ∧ r ≤ most ∧ D r ≤ r ∧ ∀ x, 1 ≤ x → x < r → x < D x)
theorem IsWin.uniq {D : Nat → Nat} {most r s : Nat} (h : IsWin D most r) (k : IsWin D most s) : r = s := by
  rcases h with ⟨rfl, h⟩ | ⟨h1, h2, h3, h4⟩ <;> rcases k with ⟨rfl, k⟩ | ⟨k1, k2, k3, k4⟩
  · rfl
  · have := h s k1 k2; omega
  · have := k r h1 h2; omega
  · rcases Nat.lt_trichotomy r s with hh | hh | hh
    · have := k4 r h1 hh; omega
    · exact hh
    · have := h4 s k1 hh; omega
def winF (D : Nat → Nat) : Nat → Nat → Nat
  | 0, _ => 0
  | f + 1, x => if D x ≤ x then x else winF D f (x + 1)
theorem winF_is (D : Nat → Nat) : ∀ f x, 1 ≤ x → (∀ y, 1 ≤ y → y < x → y < D y) → IsWin D (x + f - 1) (winF D f x)
  | 0, x, hx, h => .inl ⟨rfl, fun y h1 h2 => h y h1 (by omega)⟩
  | f + 1, x, hx, h => by
    unfold winF
    split
    · next hd => exact .inr ⟨hx, by omega, hd, h⟩
    · next hd =>
      have := winF_is D f (x + 1) (by omega) (fun y h1 h2 => by
        rcases Nat.lt_or_ge y x with h3 | h3
        · exact h y h1 h3
        · obtain rfl : y = x := by omega
          omega)
      rwa [show x + 1 + f - 1 = x + (f + 1) - 1 by omega] at this
def win (D : Nat → Nat) (most : Nat) : Nat := winF D most 1
theorem win_is (D : Nat → Nat) (most : Nat) : IsWin D most (win D most) := by
  have := winF_is D most 1 (Nat.le_refl _) (fun y h1 h2 => by omega)
  rwa [show 1 + most - 1 = most by omega] at this

theorem uU_at {l : List Nat} {k c : Nat} (h : l[k]? = some c) : (l.map uU)[k]? = some (uU c) := by rw [List.getElem?_map, h]; rfl
end Bch
end Go.Proofs.Ytdoimkmhincmmaa
