/- Layer 1's numbers, the program's and the document's: contracts. -/
import Derived.Test.YtkolbaadakhciaaMem
import Derived.Test.YtkolbaadakhciaaRows
import Derived.Deep.QuietTactic
import Derived.BigQuiet
import Derived.Outline
import Derived.IntWalk
import Derived.WalkLawsBesides
import Derived.WalkSmall
import Derived.Lib.Mul64
import Derived.Laws.Bits64b
namespace Go.Proofs.Ytkolbaadakhciaa
namespace Bch
open Go Go.RowKit
theorem ret_u {k : IntKind} {a b : Int} (h : a = b) : Ending.returned (.int k a) = .returned (.int k b) := by rw [h]

def sA (a b : Nat) : Nat := if 18446744073709551615 < a + b then 18446744073709551615 else a + b
def sM (a b : Nat) : Nat := if 18446744073709551615 < a * b then 18446744073709551615 else a * b
def sC (a b : Nat) : Nat := if a = 0 then 0 else if b = 0 ∨ a = 18446744073709551615 then 18446744073709551615 else (a - 1) / b + 1
theorem sA_le (a b : Nat) : sA a b ≤ 18446744073709551615 := by unfold sA; split <;> omega
theorem sM_le (a b : Nat) : sM a b ≤ 18446744073709551615 := by unfold sM; split <;> omega
theorem sC_le {a b : Nat} (ha : a ≤ 18446744073709551615) : sC a b ≤ 18446744073709551615 := by
  unfold sC
  split
  · omega
  · split
    · omega
    · have := Nat.div_le_self (a - 1) b
      omega

abbrev U (n : Nat) : Value := .int .u64 (n : Int)

theorem add_any (a b : Nat) (w : World) (ha : a ≤ 18446744073709551615) (hb : b ≤ 18446744073709551615) :
    Calls Try.prog 32 #[U a, U b] w fun e w' => e = .returned (U (sA a b)) ∧ w' = w := by
  by_cases h : 18446744073709551615 < a + b
  · have hw : IntKind.u64.wrap ((a : Int) + b) = (a : Int) + b - 18446744073709551616 := by rw [IntKind.wrap_u64]; omega
    have h' : (a : Int) + b - 18446744073709551616 < a := by omega
    go_enter Try.func32, Try.ntmps32
    go_wp2
    go_ret
    exact ⟨ret_u (by rw [sA, if_pos h]; rfl), rfl⟩
  · have h' : ¬ (a : Int) + b < a := by omega
    go_enter Try.func32, Try.ntmps32
    go_wp2
    go_ret
    exact ⟨ret_u (by rw [sA, if_neg (by omega)]; omega), rfl⟩
namespace Mul64
theorem maskN (a : Nat) (ha : a < 18446744073709551616) : bits .and .u64 (a : Int) 4294967295 = ((a % 4294967296 : Nat) : Int) := by
  have h := bits_and_u64_nat a 4294967295 ha (by omega)
  have e : a &&& 4294967295 = a % 4294967296 := Nat.and_two_pow_sub_one_eq_mod a 32
  rw [e] at h
  exact h
theorem divN (a : Nat) : (a : Int) / 4294967296 = ((a / 4294967296 : Nat) : Int) := by omega
theorem mulN (a b : Nat) : (a : Int) * (b : Int) = ((a * b : Nat) : Int) := (Int.natCast_mul a b).symm
theorem addN (a b : Nat) : (a : Int) + (b : Int) = ((a + b : Nat) : Int) := (Int.natCast_add a b).symm
theorem wrapN (a : Nat) (ha : a < 18446744073709551616) : IntKind.u64.wrap (a : Int) = (a : Int) := by rw [IntKind.wrap_u64]; omega
theorem wrapM (a : Nat) : IntKind.u64.wrap (a : Int) = ((a % 18446744073709551616 : Nat) : Int) := by rw [IntKind.wrap_u64]; omega
end Mul64
set_option maxHeartbeats 1000000 in
theorem mul64_any (x y : Nat) (hx : x < 18446744073709551616) (hy : y < 18446744073709551616) (w : World) :
    Calls Try.prog 31 #[U x, U y] w fun e w' => e = .returned (.tuple #[U (x * y / 18446744073709551616), U (x * y % 18446744073709551616)]) ∧ w' = w := by
  obtain ⟨bd, bt, bw, hhi⟩ := Lib.mul64_hi x y hx hy
  have ba := Lib.half_mul_le (a := x / 4294967296) (b := y / 4294967296) (by omega) (by omega)
  have bb := Lib.half_mul_le (a := x / 4294967296) (b := y % 4294967296) (by omega) (by omega)
  have bc := Lib.half_mul_le (a := x % 4294967296) (b := y / 4294967296) (by omega) (by omega)
  have ba' : x / 4294967296 * (y / 4294967296) < 18446744073709551616 := by omega
  have bb' : x / 4294967296 * (y % 4294967296) < 18446744073709551616 := by omega
  have bc' : x % 4294967296 * (y / 4294967296) < 18446744073709551616 := by omega
  have bh1 : x / 4294967296 * (y / 4294967296) + (x / 4294967296 * (y % 4294967296) + x % 4294967296 * (y % 4294967296) / 4294967296) / 4294967296 < 18446744073709551616 := by omega
  have bh : x / 4294967296 * (y / 4294967296) + (x / 4294967296 * (y % 4294967296) + x % 4294967296 * (y % 4294967296) / 4294967296) / 4294967296 + ((x / 4294967296 * (y % 4294967296) + x % 4294967296 * (y % 4294967296) / 4294967296) % 4294967296 + x % 4294967296 * (y / 4294967296)) / 4294967296 < 18446744073709551616 := by omega
  unfold U
  go_enter Try.func31, Try.ntmps31
  go_wp2
  simp only [Mul64.maskN x hx, Mul64.maskN y hy, Mul64.divN, Mul64.mulN, Mul64.addN, Mul64.wrapN _ bd, Mul64.wrapN _ bb', Mul64.wrapN _ bt, Mul64.maskN _ bt, Mul64.wrapN _ bc', Mul64.wrapN _ bw, Mul64.wrapN _ ba', Mul64.wrapN _ bh1, Mul64.wrapN _ bh, Mul64.wrapM (x * y)]
  rw [hhi]
  go_ret2
  exact ⟨rfl, rfl⟩
theorem mul_any (a b : Nat) (w : World) (ha : a ≤ 18446744073709551615) (hb : b ≤ 18446744073709551615) :
    Calls Try.prog 30 #[U a, U b] w fun e w' => e = .returned (U (sM a b)) ∧ w' = w := by
  have hc := fun W => mul64_any a b (by omega) (by omega) W
  obtain ⟨h, hh⟩ : ∃ h, h = a * b / 18446744073709551616 := ⟨_, rfl⟩
  obtain ⟨l, hl⟩ : ∃ l, l = a * b % 18446744073709551616 := ⟨_, rfl⟩
  rw [← hh, ← hl] at hc
  have hc' := Lib.hid hc
  by_cases h0 : h = 0
  · have e0 : l = sM a b := by unfold sM; rw [if_neg (by omega)]; omega
    clear hc hh hl
    subst h0
    go_enter Try.func30, Try.ntmps30
    go_wp2_with (go_at_call 31; refine (hc'.out _).mono ?_; rintro e w' ⟨rfl, hw⟩; rw [hw])
    go_ret
    exact ⟨rfl, rfl⟩
  · have e0 : sM a b = 18446744073709551615 := by unfold sM; rw [if_pos (by omega)]
    have h1 : ((h : Int) == 0) = false := by simpa using h0
    clear hc hh hl
    go_enter Try.func30, Try.ntmps30
    go_wp2_with (go_at_call 31; refine (hc'.out _).mono ?_; rintro e w' ⟨rfl, hw⟩; rw [hw])
    go_ret
    exact ⟨ret_u (by rw [e0]; rfl), rfl⟩
theorem sM_half (a b : Nat) : sA (sM a b) (sM a b) = sM a (2 * b) := by
  have e : a * (2 * b) = a * b + a * b := by rw [Nat.mul_left_comm]; omega
  unfold sA sM
  rw [e]
  repeat' split
  all_goals omega
theorem sM_one (a b : Nat) : sA a (sM a b) = sM a (b + 1) := by
  have e : a * (b + 1) = a * b + a := by rw [Nat.mul_add]; omega
  unfold sA sM
  rw [e]
  repeat' split
  all_goals omega
end Bch
end Go.Proofs.Ytkolbaadakhciaa
