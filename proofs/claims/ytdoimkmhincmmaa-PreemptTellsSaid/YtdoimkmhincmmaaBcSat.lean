/- Layer 1's numbers, the program's and the document's: contracts. -/
import Derived.Test.YtdoimkmhincmmaaMem
import Derived.Test.YtdoimkmhincmmaaRows
import Derived.Deep.QuietTactic
import Derived.BigQuiet
import Derived.Outline
import Derived.IntWalk
import Derived.WalkLawsBesides
import Derived.WalkSmall
import Derived.Lib.Mul64
import Derived.Laws.Bits64b
namespace Go.Proofs.Ytdoimkmhincmmaa
namespace Bch
open Go Go.RowKit
theorem ret_u {k : IntKind} {a b : Int} (h : a = b) : Ending.returned (.int k a) = .returned (.int k b) := by rw [h]

def sA (a b : Nat) : Nat := if 18446744073709551615 < a + b then 18446744073709551615 else a + b
def sM (a b : Nat) : Nat := if 18446744073709551615 < a * b then 18446744073709551615 else a * b
def sC (a b : Nat) : Nat := if a = 0 then 0 else if b = 0 ∨ a = 18446744073709551615 then 18446744073709551615 else (a - 1) / b + 1
theorem sA_le (a b : Nat) : sA a b ≤ 18446744073709551615 := by unfold sA; split <;> omega
theorem sM_le (a b : Nat) : sM a b ≤ 18446744073709551615 := by unfold sM; split <;> omega
theorem sC_le {a b : Nat} (ha : a ≤ 18446744073709551615) : sC a b ≤ 18446744073709551615 := by
  unfold sC
  split
  · omega
  · split
    · omega
    · have := Nat.div_le_self (a - 1) b
      omega

abbrev U (n : Nat) : Value := .int .u64 (n : Int)

theorem add_any (a b : Nat) (w : World) (ha : a ≤ 18446744073709551615) (hb : b ≤ 18446744073709551615) :
    Calls Try.prog 51 #[U a, U b] w fun e w' => e = .returned (U (sA a b)) ∧ w' = w := by
  by_cases h : 18446744073709551615 < a + b
  · have hw : IntKind.u64.wrap ((a : Int) + b) = (a : Int) + b - 18446744073709551616 := by rw [IntKind.wrap_u64]; omega
    have h' : (a : Int) + b - 18446744073709551616 < a := by omega
    go_enter Try.func51, Try.ntmps51
    go_wp2
    go_ret
    exact ⟨ret_u (by rw [sA, if_pos h]; rfl), rfl⟩
  · have h' : ¬ (a : Int) + b < a := by omega
    go_enter Try.func51, Try.ntmps51
    go_wp2
    go_ret
    exact ⟨ret_u (by rw [sA, if_neg (by omega)]; omega), rfl⟩
theorem radd_any (a b : Nat) (w : World) (ha : a ≤ 18446744073709551615) (hb : b ≤ 18446744073709551615) :
    Calls Try.prog 37 #[U a, U b] w fun e w' => e = .returned (U (sA a b)) ∧ w' = w := by
  by_cases h : 18446744073709551615 < a + b
  · have h' : 18446744073709551615 - (b : Int) < a := by omega
    go_enter Try.func37, Try.ntmps37
    go_wp2
    go_ret
    exact ⟨ret_u (by rw [sA, if_pos h]; rfl), rfl⟩
  · have h' : ¬ 18446744073709551615 - (b : Int) < a := by omega
    go_enter Try.func37, Try.ntmps37
    go_wp2
    go_ret
    exact ⟨ret_u (by rw [sA, if_neg (by omega)]; omega), rfl⟩

namespace Mul64
theorem maskN (a : Nat) (ha : a < 18446744073709551616) : bits .and .u64 (a : Int) 4294967295 = ((a % 4294967296 : Nat) : Int) := by
  have h := bits_and_u64_nat a 4294967295 ha (by omega)
  have e : a &&& 4294967295 = a % 4294967296 := Nat.and_two_pow_sub_one_eq_mod a 32
  rw [e] at h
  exact h
theorem divN (a : Nat) : (a : Int) / 4294967296 = ((a / 4294967296 : Nat) : Int) := by omega
theorem mulN (a b : Nat) : (a : Int) * (b : Int) = ((a * b : Nat) : Int) := (Int.natCast_mul a b).symm
theorem addN (a b : Nat) : (a : Int) + (b : Int) = ((a + b : Nat) : Int) := (Int.natCast_add a b).symm
theorem wrapN (a : Nat) (ha : a < 18446744073709551616) : IntKind.u64.wrap (a : Int) = (a : Int) := by rw [IntKind.wrap_u64]; omega
theorem wrapM (a : Nat) : IntKind.u64.wrap (a : Int) = ((a % 18446744073709551616 : Nat) : Int) := by rw [IntKind.wrap_u64]; omega
end Mul64
theorem ceil_any (a b : Nat) (w : World) (ha : a ≤ 18446744073709551615) (hb : b ≤ 18446744073709551615) :
    Calls Try.prog 28 #[U a, U b] w fun e w' => e = .returned (U (sC a b)) ∧ w' = w := by
  by_cases h0 : a = 0
  · subst h0
    go_enter Try.func28, Try.ntmps28
    go_wp2
    go_ret
    exact ⟨ret_u (by rw [sC, if_pos rfl]; rfl), rfl⟩
  have h0' : ((a : Int) == 0) = false := by simpa using h0
  by_cases h1 : b = 0
  · subst h1
    go_enter Try.func28, Try.ntmps28
    go_wp2
    go_ret
    exact ⟨ret_u (by rw [sC, if_neg h0, if_pos (.inl rfl)]; rfl), rfl⟩
  have h1' : ((b : Int) == 0) = false := by simpa using h1
  by_cases h2 : a = 18446744073709551615
  · subst h2
    go_enter Try.func28, Try.ntmps28
    go_wp2
    go_ret
    exact ⟨ret_u (by rw [sC, if_neg h0, if_pos (.inr rfl)]; rfl), rfl⟩
  have h2' : ((a : Int) == 18446744073709551615) = false := by simp; omega
  obtain ⟨q, hq⟩ : ∃ q, q = (a - 1) / b := ⟨_, rfl⟩
  have hqa : q ≤ a - 1 := by rw [hq]; exact Nat.div_le_self _ _
  have hq' : ((a : Int) - 1) / (b : Int) = (q : Int) := by
    rw [hq, show (a : Int) - 1 = ((a - 1 : Nat) : Int) by omega]; rfl
  have hs : sC a b = q + 1 := by rw [sC, if_neg h0, if_neg (by omega), hq]
  have hb0 : (b : Int) ≠ 0 := by omega
  clear hq
  go_enter Try.func28, Try.ntmps28
  go_wp2
  go_ret
  exact ⟨ret_u (by rw [hs]; rfl), rfl⟩
theorem rceil_any (a b : Nat) (w : World) (ha : a ≤ 18446744073709551615) (hb : b ≤ 18446744073709551615) :
    Calls Try.prog 38 #[U a, U b] w fun e w' => e = .returned (U (sC a b)) ∧ w' = w := by
  by_cases h0 : a = 0
  · subst h0
    go_enter Try.func38, Try.ntmps38
    go_wp2
    go_ret
    exact ⟨ret_u (by rw [sC, if_pos rfl]; rfl), rfl⟩
  have h0' : ((a : Int) == 0) = false := by simpa using h0
  by_cases h1 : b = 0
  · subst h1
    go_enter Try.func38, Try.ntmps38
    go_wp2
    go_ret
    exact ⟨ret_u (by rw [sC, if_neg h0, if_pos (.inl rfl)]; rfl), rfl⟩
  have h1' : ((b : Int) == 0) = false := by simpa using h1
  by_cases h2 : a = 18446744073709551615
  · subst h2
    go_enter Try.func38, Try.ntmps38
    go_wp2
    go_ret
    exact ⟨ret_u (by rw [sC, if_neg h0, if_pos (.inr rfl)]; rfl), rfl⟩
  have h2' : ((a : Int) == 18446744073709551615) = false := by simp; omega
  obtain ⟨q, hq⟩ : ∃ q, q = a / b := ⟨_, rfl⟩
  have hqa : q ≤ a := by rw [hq]; exact Nat.div_le_self _ _
  have hq' : (a : Int) / (b : Int) = (q : Int) := by rw [hq]; rfl
  obtain ⟨m, hm⟩ : ∃ m, m = q * b := ⟨_, rfl⟩
  have hm' : (q : Int) * (b : Int) = (m : Int) := by rw [hm]; simp
  have hml : m ≤ a := by rw [hm, hq]; exact Nat.div_mul_le_self _ _
  have hb0 : (b : Int) ≠ 0 := by omega
  have hdm := Nat.div_add_mod a b
  rw [← hq, Nat.mul_comm, ← hm] at hdm
  have hmod := Nat.mod_lt a (Nat.pos_of_ne_zero h1)
  by_cases h3 : m = a
  · have hs : sC a b = q := by
      rw [sC, if_neg h0, if_neg (by omega)]
      have h4 : (a - 1) / b = q - 1 := by
        rw [Nat.div_eq_iff (by omega)]
        have : 0 < q := by
          rcases Nat.eq_zero_or_pos q with rfl | h; · simp at hm; omega
          · exact h
        obtain ⟨q', rfl⟩ : ∃ q', q = q' + 1 := ⟨q - 1, by omega⟩
        rw [Nat.add_mul] at hm
        simp
        omega
      have : 0 < q := by
        rcases Nat.eq_zero_or_pos q with rfl | h; · simp at hm; omega
        · exact h
      omega
    have h3' : ((m : Int) != a) = false := by simp [h3]
    clear hq hm hdm hmod h3
    go_enter Try.func38, Try.ntmps38
    go_wp2
    go_ret
    exact ⟨ret_u (by rw [hs]), rfl⟩
  · have hs : sC a b = q + 1 := by
      rw [sC, if_neg h0, if_neg (by omega)]
      have h4 : (a - 1) / b = q := by
        rw [Nat.div_eq_iff (by omega)]
        omega
      omega
    have h3' : ((m : Int) != a) = true := by simp; omega
    have hqa' : q < 18446744073709551615 := by omega
    clear hq hm hdm hmod
    go_enter Try.func38, Try.ntmps38
    go_wp2
    go_ret
    exact ⟨ret_u (by rw [hs]; rfl), rfl⟩
theorem sM_half (a b : Nat) : sA (sM a b) (sM a b) = sM a (2 * b) := by
  have e : a * (2 * b) = a * b + a * b := by rw [Nat.mul_left_comm]; omega
  unfold sA sM
  rw [e]
  repeat' split
  all_goals omega
theorem sM_one (a b : Nat) : sA a (sM a b) = sM a (b + 1) := by
  have e : a * (b + 1) = a * b + a := by rw [Nat.mul_add]; omega
  unfold sA sM
  rw [e]
  repeat' split
  all_goals omega
end Bch
end Go.Proofs.Ytdoimkmhincmmaa
