/- Decimal digits, and what Cut makes of texts. Speaks of no program. -/
import Derived.Test.YtbjpnjgkpkfngaaGreatDoorNumber
import Derived.Lib.ItoaNum
import Derived.Lib.IndexMore
namespace Go.Proofs.YtbjpnjgkpkfngaaGreatDoor
open Go Go.RowKit

theorem dig_byte {d : Nat} (h : d < 10) : (UInt8.ofNat (48 + d)).toNat = 48 + d := by
  rw [UInt8.toNat_ofNat']
  omega
theorem dec_dig (u : Nat) : ∀ b ∈ Lib.decDigits u, isDig b := by
  induction u using Nat.strongRecOn with
  | _ u ih =>
    intro b hb
    rw [Lib.decDigits] at hb
    split at hb
    · rename_i h
      rw [List.mem_singleton] at hb
      subst hb
      unfold isDig
      rw [dig_byte h]
      omega
    · rename_i h
      rcases List.mem_append.1 hb with hb | hb
      · exact ih (u / 10) (by omega) b hb
      · rw [List.mem_singleton] at hb
        subst hb
        unfold isDig
        rw [dig_byte (by omega)]
        omega
theorem dec_val (u : Nat) : valD (Lib.decDigits u) = (u : Int) := by
  induction u using Nat.strongRecOn with
  | _ u ih =>
    rw [Lib.decDigits]
    split
    · rename_i h
      show 10 * (0 : Int) + (((UInt8.ofNat (48 + u)).toNat : Int) - 48) = u
      rw [dig_byte h]
      omega
    · rename_i h
      rw [valD_snoc, ih (u / 10) (by omega), dig_byte (by omega)]
      omega
theorem dec_pos (u : Nat) : 1 ≤ (Lib.decDigits u).length := by
  rw [Lib.decDigits_length]
  exact Lib.nDigits_pos u
theorem dec_small : ∀ (k u : Nat), u < 10 ^ (k + 1) → (Lib.decDigits u).length ≤ k + 1
  | 0, u, h => by rw [Lib.decDigits_length, Lib.nDigits_small (by simpa using h)]; exact Nat.le_refl _
  | k + 1, u, h => by
    by_cases hu : u < 10
    · rw [Lib.decDigits_length, Lib.nDigits_small hu]
      omega
    · have := dec_small k (u / 10) (by rw [Nat.pow_succ] at h; omega)
      rw [Lib.decDigits_length] at this ⊢
      rw [Lib.nDigits_big hu]
      omega
theorem dec_nine {u : Nat} (h : u < 1000000000) : (Lib.decDigits u).length ≤ 9 := dec_small 8 u (by simpa using h)
theorem dec_nineteen {u : Nat} (h : u < 10 ^ 19) : (Lib.decDigits u).length ≤ 19 := dec_small 18 u (by simpa using h)
/-- No needless nought ahead. -/
theorem dec_head (u : Nat) (hu : 0 < u) : ∀ b, (Lib.decDigits u)[0]? = some b → b.toNat ≠ 48 := by
  induction u using Nat.strongRecOn with
  | _ u ih =>
    intro b hb
    rw [Lib.decDigits] at hb
    split at hb
    · rename_i h
      simp only [List.getElem?_cons_zero, Option.some.injEq] at hb
      subst hb
      rw [dig_byte h]
      omega
    · rename_i h
      rw [List.getElem?_append_left (dec_pos _)] at hb
      exact ih (u / 10) (by omega) (by omega) b hb
theorem dec_ahead (u : Nat) : (Lib.decDigits u).length = 1 ∨ ∀ b, (Lib.decDigits u)[0]? = some b → b.toNat ≠ 48 := by
  by_cases h : u = 0
  · subst h
    exact .inl (by rw [Lib.decDigits_length, Lib.nDigits_small (by omega)])
  · exact .inr (dec_head u (by omega))

theorem index_not (c : UInt8) : ∀ a : List UInt8, c ∉ a → Lib.index a [c] = -1
  | [], _ => rfl
  | x :: a, h => by
    rw [List.mem_cons, not_or] at h
    unfold Lib.index
    rw [index_not c a h.2]
    have : ([c].isPrefixOf (x :: a)) = false := by
      simp [List.isPrefixOf, h.1]
    rw [this]
    rfl
theorem index_at (c : UInt8) (r : List UInt8) : ∀ a : List UInt8, c ∉ a → Lib.index (a ++ c :: r) [c] = (a.length : Int)
  | [], _ => by
    unfold Lib.index
    simp [List.isPrefixOf]
  | x :: a, h => by
    rw [List.mem_cons, not_or] at h
    rw [List.cons_append]
    unfold Lib.index
    rw [index_at c r a h.2]
    have : ([c].isPrefixOf (x :: (a ++ c :: r))) = false := by
      simp [List.isPrefixOf, h.1]
    rw [this]
    have h2 : ((a.length : Int) == -1) = false := by rw [beq_eq_false_iff_ne]; omega
    simp [h2]
theorem cut_not (c : UInt8) (a : List UInt8) (h : c ∉ a) : Lib.cut a [c] = (a, [], false) := by
  unfold Lib.cut
  rw [index_not c a h]
  rfl
theorem cut_at (c : UInt8) (a r : List UInt8) (h : c ∉ a) : Lib.cut (a ++ c :: r) [c] = (a, r, true) := by
  unfold Lib.cut
  rw [index_at c r a h, if_pos (by omega)]
  simp
end Go.Proofs.YtbjpnjgkpkfngaaGreatDoor
