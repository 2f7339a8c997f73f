/- Layer 1's numbers, the program's and the document's: contracts. -/
import Derived.Test.YtcgnboplpibcgaaMem
import Derived.Test.YtcgnboplpibcgaaRows
import Derived.Deep.QuietTactic
import Derived.BigQuiet
import Derived.Outline
import Derived.IntWalk
import Derived.WalkLawsBesides
import Derived.WalkSmall
import Derived.Lib.Mul64
import Derived.Laws.Bits64b
namespace Go.Proofs.Ytcgnboplpibcgaa
open Go Go.RowKit
theorem ret_u {k : IntKind} {a b : Int} (h : a = b) : Ending.returned (.int k a) = .returned (.int k b) := by rw [h]

def sA (a b : Nat) : Nat := if 18446744073709551615 < a + b then 18446744073709551615 else a + b
def sM (a b : Nat) : Nat := if 18446744073709551615 < a * b then 18446744073709551615 else a * b
def sC (a b : Nat) : Nat := if a = 0 then 0 else if b = 0 ∨ a = 18446744073709551615 then 18446744073709551615 else (a - 1) / b + 1
theorem sA_le (a b : Nat) : sA a b ≤ 18446744073709551615 := by unfold sA; split <;> omega
theorem sM_le (a b : Nat) : sM a b ≤ 18446744073709551615 := by unfold sM; split <;> omega
theorem sC_le {a b : Nat} (ha : a ≤ 18446744073709551615) : sC a b ≤ 18446744073709551615 := by
  unfold sC
  split
  · omega
  · split
    · omega
    · have := Nat.div_le_self (a - 1) b
      omega

abbrev U (n : Nat) : Value := .int .u64 (n : Int)

theorem add_any (a b : Nat) (w : World) (ha : a ≤ 18446744073709551615) (hb : b ≤ 18446744073709551615) :
    Calls Try.prog 26 #[U a, U b] w fun e w' => e = .returned (U (sA a b)) ∧ w' = w := by
  by_cases h : 18446744073709551615 < a + b
  · have hw : IntKind.u64.wrap ((a : Int) + b) = (a : Int) + b - 18446744073709551616 := by rw [IntKind.wrap_u64]; omega
    have h' : (a : Int) + b - 18446744073709551616 < a := by omega
    go_enter Try.func26, Try.ntmps26
    go_wp2
    go_ret
    exact ⟨ret_u (by rw [sA, if_pos h]; rfl), rfl⟩
  · have h' : ¬ (a : Int) + b < a := by omega
    go_enter Try.func26, Try.ntmps26
    go_wp2
    go_ret
    exact ⟨ret_u (by rw [sA, if_neg (by omega)]; omega), rfl⟩
theorem radd_any (a b : Nat) (w : World) (ha : a ≤ 18446744073709551615) (hb : b ≤ 18446744073709551615) :
    Calls Try.prog 29 #[U a, U b] w fun e w' => e = .returned (U (sA a b)) ∧ w' = w := by
  by_cases h : 18446744073709551615 < a + b
  · have h' : 18446744073709551615 - (b : Int) < a := by omega
    go_enter Try.func29, Try.ntmps29
    go_wp2
    go_ret
    exact ⟨ret_u (by rw [sA, if_pos h]; rfl), rfl⟩
  · have h' : ¬ 18446744073709551615 - (b : Int) < a := by omega
    go_enter Try.func29, Try.ntmps29
    go_wp2
    go_ret
    exact ⟨ret_u (by rw [sA, if_neg (by omega)]; omega), rfl⟩

namespace Mul64
theorem maskN (a : Nat) (ha : a < 18446744073709551616) : bits .and .u64 (a : Int) 4294967295 = ((a % 4294967296 : Nat) : Int) := by
  have h := bits_and_u64_nat a 4294967295 ha (by omega)
  have e : a &&& 4294967295 = a % 4294967296 := Nat.and_two_pow_sub_one_eq_mod a 32
  rw [e] at h
  exact h
theorem divN (a : Nat) : (a : Int) / 4294967296 = ((a / 4294967296 : Nat) : Int) := by omega
theorem mulN (a b : Nat) : (a : Int) * (b : Int) = ((a * b : Nat) : Int) := (Int.natCast_mul a b).symm
theorem addN (a b : Nat) : (a : Int) + (b : Int) = ((a + b : Nat) : Int) := (Int.natCast_add a b).symm
theorem wrapN (a : Nat) (ha : a < 18446744073709551616) : IntKind.u64.wrap (a : Int) = (a : Int) := by rw [IntKind.wrap_u64]; omega
theorem wrapM (a : Nat) : IntKind.u64.wrap (a : Int) = ((a % 18446744073709551616 : Nat) : Int) := by rw [IntKind.wrap_u64]; omega
end Mul64
set_option maxHeartbeats 1000000 in
theorem mul64_any (x y : Nat) (hx : x < 18446744073709551616) (hy : y < 18446744073709551616) (w : World) :
    Calls Try.prog 47 #[U x, U y] w fun e w' => e = .returned (.tuple #[U (x * y / 18446744073709551616), U (x * y % 18446744073709551616)]) ∧ w' = w := by
  obtain ⟨bd, bt, bw, hhi⟩ := Lib.mul64_hi x y hx hy
  have ba := Lib.half_mul_le (a := x / 4294967296) (b := y / 4294967296) (by omega) (by omega)
  have bb := Lib.half_mul_le (a := x / 4294967296) (b := y % 4294967296) (by omega) (by omega)
  have bc := Lib.half_mul_le (a := x % 4294967296) (b := y / 4294967296) (by omega) (by omega)
  have ba' : x / 4294967296 * (y / 4294967296) < 18446744073709551616 := by omega
  have bb' : x / 4294967296 * (y % 4294967296) < 18446744073709551616 := by omega
  have bc' : x % 4294967296 * (y / 4294967296) < 18446744073709551616 := by omega
  have bh1 : x / 4294967296 * (y / 4294967296) + (x / 4294967296 * (y % 4294967296) + x % 4294967296 * (y % 4294967296) / 4294967296) / 4294967296 < 18446744073709551616 := by omega
  have bh : x / 4294967296 * (y / 4294967296) + (x / 4294967296 * (y % 4294967296) + x % 4294967296 * (y % 4294967296) / 4294967296) / 4294967296 + ((x / 4294967296 * (y % 4294967296) + x % 4294967296 * (y % 4294967296) / 4294967296) % 4294967296 + x % 4294967296 * (y / 4294967296)) / 4294967296 < 18446744073709551616 := by omega
  unfold U
  go_enter Try.func47, Try.ntmps47
  go_wp2
  simp only [Mul64.maskN x hx, Mul64.maskN y hy, Mul64.divN, Mul64.mulN, Mul64.addN, Mul64.wrapN _ bd, Mul64.wrapN _ bb', Mul64.wrapN _ bt, Mul64.maskN _ bt, Mul64.wrapN _ bc', Mul64.wrapN _ bw, Mul64.wrapN _ ba', Mul64.wrapN _ bh1, Mul64.wrapN _ bh, Mul64.wrapM (x * y)]
  rw [hhi]
  go_ret2
  exact ⟨rfl, rfl⟩
theorem mul_any (a b : Nat) (w : World) (ha : a ≤ 18446744073709551615) (hb : b ≤ 18446744073709551615) :
    Calls Try.prog 27 #[U a, U b] w fun e w' => e = .returned (U (sM a b)) ∧ w' = w := by
  have hc := fun W => mul64_any a b (by omega) (by omega) W
  obtain ⟨h, hh⟩ : ∃ h, h = a * b / 18446744073709551616 := ⟨_, rfl⟩
  obtain ⟨l, hl⟩ : ∃ l, l = a * b % 18446744073709551616 := ⟨_, rfl⟩
  rw [← hh, ← hl] at hc
  have hc' := Lib.hid hc
  by_cases h0 : h = 0
  · have e0 : l = sM a b := by unfold sM; rw [if_neg (by omega)]; omega
    clear hc hh hl
    subst h0
    go_enter Try.func27, Try.ntmps27
    go_wp2_with (go_at_call 47; refine (hc'.out _).mono ?_; rintro e w' ⟨rfl, hw⟩; rw [hw])
    go_ret
    exact ⟨rfl, rfl⟩
  · have e0 : sM a b = 18446744073709551615 := by unfold sM; rw [if_pos (by omega)]
    have h1 : ((h : Int) == 0) = false := by simpa using h0
    clear hc hh hl
    go_enter Try.func27, Try.ntmps27
    go_wp2_with (go_at_call 47; refine (hc'.out _).mono ?_; rintro e w' ⟨rfl, hw⟩; rw [hw])
    go_ret
    exact ⟨ret_u (by rw [e0]; rfl), rfl⟩
theorem ceil_any (a b : Nat) (w : World) (ha : a ≤ 18446744073709551615) (hb : b ≤ 18446744073709551615) :
    Calls Try.prog 28 #[U a, U b] w fun e w' => e = .returned (U (sC a b)) ∧ w' = w := by
  by_cases h0 : a = 0
  · subst h0
    go_enter Try.func28, Try.ntmps28
    go_wp2
    go_ret
    exact ⟨ret_u (by rw [sC, if_pos rfl]; rfl), rfl⟩
  have h0' : ((a : Int) == 0) = false := by simpa using h0
  by_cases h1 : b = 0
  · subst h1
    go_enter Try.func28, Try.ntmps28
    go_wp2
    go_ret
    exact ⟨ret_u (by rw [sC, if_neg h0, if_pos (.inl rfl)]; rfl), rfl⟩
  have h1' : ((b : Int) == 0) = false := by simpa using h1
  by_cases h2 : a = 18446744073709551615
  · subst h2
    go_enter Try.func28, Try.ntmps28
    go_wp2
    go_ret
    exact ⟨ret_u (by rw [sC, if_neg h0, if_pos (.inr rfl)]; rfl), rfl⟩
  have h2' : ((a : Int) == 18446744073709551615) = false := by simp; omega
  obtain ⟨q, hq⟩ : ∃ q, q = (a - 1) / b := ⟨_, rfl⟩
  have hqa : q ≤ a - 1 := by rw [hq]; exact Nat.div_le_self _ _
  have hq' : ((a : Int) - 1) / (b : Int) = (q : Int) := by
    rw [hq, show (a : Int) - 1 = ((a - 1 : Nat) : Int) by omega]; rfl
  have hs : sC a b = q + 1 := by rw [sC, if_neg h0, if_neg (by omega), hq]
  have hb0 : (b : Int) ≠ 0 := by omega
  clear hq
  go_enter Try.func28, Try.ntmps28
  go_wp2
  go_ret
  exact ⟨ret_u (by rw [hs]; rfl), rfl⟩
theorem rceil_any (a b : Nat) (w : World) (ha : a ≤ 18446744073709551615) (hb : b ≤ 18446744073709551615) :
    Calls Try.prog 31 #[U a, U b] w fun e w' => e = .returned (U (sC a b)) ∧ w' = w := by
  by_cases h0 : a = 0
  · subst h0
    go_enter Try.func31, Try.ntmps31
    go_wp2
    go_ret
    exact ⟨ret_u (by rw [sC, if_pos rfl]; rfl), rfl⟩
  have h0' : ((a : Int) == 0) = false := by simpa using h0
  by_cases h1 : b = 0
  · subst h1
    go_enter Try.func31, Try.ntmps31
    go_wp2
    go_ret
    exact ⟨ret_u (by rw [sC, if_neg h0, if_pos (.inl rfl)]; rfl), rfl⟩
  have h1' : ((b : Int) == 0) = false := by simpa using h1
  by_cases h2 : a = 18446744073709551615
  · subst h2
    go_enter Try.func31, Try.ntmps31
    go_wp2
    go_ret
    exact ⟨ret_u (by rw [sC, if_neg h0, if_pos (.inr rfl)]; rfl), rfl⟩
  have h2' : ((a : Int) == 18446744073709551615) = false := by simp; omega
  obtain ⟨q, hq⟩ : ∃ q, q = a / b := ⟨_, rfl⟩
  have hqa : q ≤ a := by rw [hq]; exact Nat.div_le_self _ _
  have hq' : (a : Int) / (b : Int) = (q : Int) := by rw [hq]; rfl
  obtain ⟨m, hm⟩ : ∃ m, m = q * b := ⟨_, rfl⟩
  have hm' : (q : Int) * (b : Int) = (m : Int) := by rw [hm]; simp
  have hml : m ≤ a := by rw [hm, hq]; exact Nat.div_mul_le_self _ _
  have hb0 : (b : Int) ≠ 0 := by omega
  have hdm := Nat.div_add_mod a b
  rw [← hq, Nat.mul_comm, ← hm] at hdm
  have hmod := Nat.mod_lt a (Nat.pos_of_ne_zero h1)
  by_cases h3 : m = a
  · have hs : sC a b = q := by
      rw [sC, if_neg h0, if_neg (by omega)]
      have h4 : (a - 1) / b = q - 1 := by
        rw [Nat.div_eq_iff (by omega)]
        have : 0 < q := by
          rcases Nat.eq_zero_or_pos q with rfl | h; · simp at hm; omega
          · exact h
        obtain ⟨q', rfl⟩ : ∃ q', q = q' + 1 := ⟨q - 1, by omega⟩
        rw [Nat.add_mul] at hm
        simp
        omega
      have : 0 < q := by
        rcases Nat.eq_zero_or_pos q with rfl | h; · simp at hm; omega
        · exact h
      omega
    have h3' : ((m : Int) != a) = false := by simp [h3]
    clear hq hm hdm hmod h3
    go_enter Try.func31, Try.ntmps31
    go_wp2
    go_ret
    exact ⟨ret_u (by rw [hs]), rfl⟩
  · have hs : sC a b = q + 1 := by
      rw [sC, if_neg h0, if_neg (by omega)]
      have h4 : (a - 1) / b = q := by
        rw [Nat.div_eq_iff (by omega)]
        omega
      omega
    have h3' : ((m : Int) != a) = true := by simp; omega
    have hqa' : q < 18446744073709551615 := by omega
    clear hq hm hdm hmod
    go_enter Try.func31, Try.ntmps31
    go_wp2
    go_ret
    exact ⟨ret_u (by rw [hs]; rfl), rfl⟩
theorem sM_half (a b : Nat) : sA (sM a b) (sM a b) = sM a (2 * b) := by
  have e : a * (2 * b) = a * b + a * b := by rw [Nat.mul_left_comm]; omega
  unfold sA sM
  rw [e]
  repeat' split
  all_goals omega
theorem sM_one (a b : Nat) : sA a (sM a b) = sM a (b + 1) := by
  have e : a * (b + 1) = a * b + a := by rw [Nat.mul_add]; omega
  unfold sA sM
  rw [e]
  repeat' split
  all_goals omega
set_option maxHeartbeats 400000 in
theorem rmul_any (a : Nat) (ha : a ≤ 18446744073709551615) : ∀ (n b : Nat) (w : World), b ≤ n → b ≤ 18446744073709551615 →
    Calls Try.prog 30 #[U a, U b] w fun e w' => e = .returned (U (sM a b)) ∧ w' = w := by
  intro n
  induction n with
  | zero =>
    intro b w hn hb
    obtain rfl : b = 0 := by omega
    by_cases h0 : a = 0
    · subst h0
      go_enter Try.func30, Try.ntmps30
      go_wp2
      go_ret
      exact ⟨rfl, rfl⟩
    have h0' : ((a : Int) == 0) = false := by simpa using h0
    go_enter Try.func30, Try.ntmps30
    go_wp2
    go_ret
    exact ⟨rfl, rfl⟩
  | succ n ih =>
    intro b w hn hb
    by_cases h0 : a = 0
    · subst h0
      go_enter Try.func30, Try.ntmps30
      go_wp2
      go_ret
      exact ⟨ret_u (by simp [sM]), rfl⟩
    have h0' : ((a : Int) == 0) = false := by simpa using h0
    by_cases h1 : b = 0
    · subst h1
      go_enter Try.func30, Try.ntmps30
      go_wp2
      go_ret
      exact ⟨rfl, rfl⟩
    have h1' : ((b : Int) == 0) = false := by simpa using h1
    by_cases h2 : b % 2 = 0
    · obtain ⟨k, rfl⟩ : ∃ k, b = 2 * k := ⟨b / 2, by omega⟩
      have hi := Lib.hid (ih k w (by omega) (by omega))
      have h2' : ((2 * k : Nat) : Int) % 2 = 0 := by simp
      have h3' : (((2 * k : Nat) : Int) / 2) = (k : Int) := by omega
      have hle := sM_le a k
      have hr := radd_any (sM a k) (sM a k) w hle hle
      rw [sM_half] at hr
      obtain ⟨s, hs⟩ : ∃ s, s = sM a k := ⟨_, rfl⟩
      rw [← hs] at hi hr hle
      have hr' := Lib.hid hr
      clear hr h2 hs
      obtain ⟨B, hB⟩ : ∃ B, B = 2 * k := ⟨_, rfl⟩
      rw [← hB] at h1 h1' h2' h3' ⊢ hr'
      clear hB ih hn
      go_enter Try.func30, Try.ntmps30
      go_wp2_with (first | (go_at_call 30; refine hi.out.mono ?_; rintro e w' ⟨rfl, hw⟩; rw [hw]) | (go_at_call 29; refine hr'.out.mono ?_; rintro e w' ⟨rfl, hw⟩; rw [hw]))
      go_ret
      exact ⟨rfl, rfl⟩
    · obtain ⟨k, rfl⟩ : ∃ k, b = k + 1 := ⟨b - 1, by omega⟩
      have hi := Lib.hid (ih k w (by omega) (by omega))
      have h2' : ((k + 1 : Nat) : Int) % 2 = 1 := by omega
      have h3' : (((k + 1 : Nat) : Int) - 1) = (k : Int) := by omega
      have hle := sM_le a k
      have hr := radd_any a (sM a k) w ha hle
      rw [sM_one] at hr
      obtain ⟨s, hs⟩ : ∃ s, s = sM a k := ⟨_, rfl⟩
      rw [← hs] at hi hr hle
      have hr' := Lib.hid hr
      clear hr h2 hs
      obtain ⟨B, hB⟩ : ∃ B, B = k + 1 := ⟨_, rfl⟩
      rw [← hB] at h1 h1' h2' h3' ⊢ hr'
      clear hB ih hn
      go_enter Try.func30, Try.ntmps30
      go_wp2_with (first | (go_at_call 30; refine hi.out.mono ?_; rintro e w' ⟨rfl, hw⟩; rw [hw]) | (go_at_call 29; refine hr'.out.mono ?_; rintro e w' ⟨rfl, hw⟩; rw [hw]))
      go_ret
      exact ⟨rfl, rfl⟩
end Go.Proofs.Ytcgnboplpibcgaa
