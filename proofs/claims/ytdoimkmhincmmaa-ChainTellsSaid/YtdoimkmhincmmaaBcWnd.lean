/- A window: Least and Window. -/
import Derived.Test.YtdoimkmhincmmaaBcClm
import Derived.Deep.LoopGhost
namespace Go.Proofs.Ytdoimkmhincmmaa
namespace Bch
open Go Go.RowKit
theorem sA_mono {a a' b b' : Nat} (h : a ≤ a') (k : b ≤ b') : sA a b ≤ sA a' b' := by unfold sA; split <;> split <;> omega
theorem sM_mono {a b b' : Nat} (k : b ≤ b') : sM a b ≤ sM a b' := by
  have := Nat.mul_le_mul_left a k
  unfold sM
  split <;> split <;> omega
theorem sC_mono {a a' b : Nat} (h : a ≤ a') (ha : a' ≤ 18446744073709551615) : sC a b ≤ sC a' b := by
  unfold sC
  by_cases h0 : a = 0
  · rw [if_pos h0]; omega
  rw [if_neg h0, if_neg (show ¬ a' = 0 by omega)]
  by_cases h1 : b = 0 ∨ a = 18446744073709551615
  · rw [if_pos h1, if_pos (by omega)]; omega
  rw [if_neg h1]
  have := Nat.div_le_div_right (c := b) (show a - 1 ≤ a' - 1 by omega)
  have := Nat.div_le_self (a - 1) b
  split <;> omega
theorem dem_mono {d d' : Nat} (hd : d ≤ d') (l : List Ld) {x x' : Nat} (hx : x ≤ x') (h : x' ≤ 18446744073709551615) : dem d l x ≤ dem d' l x' := by
  induction l generalizing d d' with
  | nil => exact hd
  | cons y l ih => exact ih (sA_mono hd (sM_mono (sC_mono hx h)))
theorem sA_self {a b : Nat} (h : a ≤ 18446744073709551615) : a ≤ sA a b := by unfold sA; split <;> omega
theorem dem_snoc {d : Nat} {l : List Ld} {y : Ld} {x : Nat} (hd : d ≤ 18446744073709551615) : dem d l x ≤ dem d (l ++ [y]) x := by
  unfold dem
  rw [List.foldl_append]
  exact sA_self (dem_le hd l x)
/-- The demand, everywhere: beyond the numbers there are it stands still. -/
def demC (d : Nat) (l : List Ld) (x : Nat) : Nat := dem d l (min x 18446744073709551615)
theorem demC_mono (d : Nat) (l : List Ld) (a b : Nat) (h : a ≤ b) : demC d l a ≤ demC d l b := dem_mono (Nat.le_refl _) l (by omega) (by omega)
theorem demC_eq {d : Nat} {l : List Ld} {x : Nat} (h : x ≤ 18446744073709551615) : demC d l x = dem d l x := by rw [demC, Nat.min_eq_left h]
theorem isWin_congr {D E : Nat → Nat} {m r : Nat} (h : IsWin D m r) (he : ∀ x, x ≤ m → D x = E x) : IsWin E m r := by
  rcases h with ⟨rfl, h⟩ | ⟨h1, h2, h3, h4⟩
  · exact .inl ⟨rfl, fun x a b => by rw [← he x b]; exact h x a b⟩
  · exact .inr ⟨h1, h2, by rw [← he r h2]; exact h3, fun x a b => by rw [← he x (by omega)]; exact h4 x a b⟩
theorem win_demC {d : Nat} {l : List Ld} {m : Nat} (hm : m ≤ 18446744073709551615) : win (demC d l) m = win (dem d l) m :=
  (isWin_congr (win_is (demC d l) m) (fun x hx => demC_eq (by omega))).uniq (win_is _ _)

def LeastEnd (D : Nat → Nat) (m x0 p d : Nat) (A : Option Addr) (n cap : Nat) (l : List Ld) (w : World) (e : Ending) (w' : World) : Prop :=
  ∃ v b r', e = .returned (.tuple #[U v, .bool b]) ∧ WorkAt w' p d A n cap l r' ∧ Only (fun k => k = p) w w' ∧
    ((b = true ∧ 1 ≤ v ∧ IsWin D m v) ∨ (b = false ∧ ((m < r' ∧ IsWin D m 0) ∨ (r' ≤ m ∧ x0 < r' ∧ Below1 D r'))))
def orU (r : Nat) : Nat := if r = 0 then 18446744073709551615 else r
def WinEnd (r : Nat) (w : World) (e : Ending) (w' : World) : Prop := e = .returned (.tuple #[U (orU r), .bool (decide (0 < r))]) ∧ Only (fun _ => False) w w'
end Bch
end Go.Proofs.Ytdoimkmhincmmaa
