/- Layer 32 (hyper) and the document's: common divisors, multiples, products. -/
import Derived.Test.YtkolbaadakhciaaBcSat
import Derived.Test.YtkolbaadakhciaaWd
import Derived.Test.YtkolbaadakhciaaTail
import Derived.BigRegion
namespace Go.Proofs.Ytkolbaadakhciaa
namespace Hyp
open Go Go.RowKit
open Bch (U sA sM sA_le sM_le ret_u mul_any add_any mul64_any)

def GrowU (n : Nat) (w : World) (e : Ending) (w' : World) : Prop := e = .returned (U n) ∧ Only (fun _ => False) w w'

theorem remN {x y : Nat} : (x : Int) % (y : Int) = ((x % y : Nat) : Int) := rfl

theorem gcd_any (a b : Nat) (w : World) (ha : a ≤ 18446744073709551615) (hb : b ≤ 18446744073709551615) :
    Calls Try.prog 12 #[U a, U b] w (GrowU (Nat.gcd a b) w) := by
  have ha' := Lib.hid ha
  have hb' := Lib.hid hb
  obtain ⟨g, hg⟩ : ∃ g, g = Nat.gcd a b := ⟨_, rfl⟩
  rw [← hg]
  obtain ⟨Z, hZ⟩ : ∃ Z, Z = GrowU g w := ⟨_, rfl⟩
  rw [← hZ]
  have hZ' := Lib.hid hZ
  have hg' := Lib.hid hg
  clear ha hb hZ hg
  go_enter Try.func12, Try.ntmps12
  go_wp2
  go_loopw [0, 1] (fun u0 u1 wr => ∃ x y : Nat, u0 = U x ∧ u1 = U y ∧ Hid (x ≤ 18446744073709551615) ∧ Hid (y ≤ 18446744073709551615) ∧ Hid (Nat.gcd x y = g) ∧ Hid (Only (fun _ => False) w wr)) (fun _ u1 _ => (intOf u1).toNat)
  case atStart => exact ⟨a, b, rfl, rfl, ha'.out, hb'.out, hg'.out.symm, Only.refl _ _⟩
  case round =>
    obtain ⟨x, y, rfl, rfl, hx, hy, hxy, hO⟩ := hrel
    by_cases hy0 : y = 0
    · have hyc : ((y : Int) != 0) = false := by simp [hy0]
      have hx0 : x = g := by have := hxy.out; rw [hy0] at this; simpa using this
      go_wp2
      have hf : Z (.returned (U x)) wr := by rw [hZ'.out, hx0]; exact ⟨rfl, hO.out⟩
      exact hf
    · have hyn : (y : Int) ≠ 0 := by omega
      have hyb : ((y : Int) == 0) = false := by simpa using hy0
      have hyc : ((y : Int) != 0) = true := by simpa using hy0
      obtain ⟨r, hr⟩ : ∃ r, r = x % y := ⟨_, rfl⟩
      have hrem : (x : Int) % (y : Int) = (r : Int) := by rw [hr]; rfl
      have hry : r < y := by rw [hr]; exact Nat.mod_lt _ (by omega)
      have hry' := Lib.hid hry
      have hgr : Nat.gcd y r = g := by rw [hr, ← hxy.out, Nat.gcd_comm x y, Nat.gcd_rec y x, Nat.gcd_comm]
      have hgr' := Lib.hid hgr
      clear hr hry hgr
      go_wp2
      go_region
      go_wp2_with fail
      go_roundw
      case rel => exact ⟨y, r, rfl, by rw [hrem], hy.out, (show r ≤ _ by have := hry'.out; have := hy.out; omega), hgr'.out, hO.out.drew⟩
      case measure => simp only [intOf]; rw [hrem]; have := hry'.out; simp; omega

theorem rgcd_any (a b : Nat) (w : World) (ha : a ≤ 18446744073709551615) (hb : b ≤ 18446744073709551615) :
    Calls Try.prog 13 #[U a, U b] w (GrowU (Nat.gcd a b) w) := by
  have ha' := Lib.hid ha
  have hb' := Lib.hid hb
  obtain ⟨g, hg⟩ : ∃ g, g = Nat.gcd a b := ⟨_, rfl⟩
  rw [← hg]
  obtain ⟨Z, hZ⟩ : ∃ Z, Z = GrowU g w := ⟨_, rfl⟩
  rw [← hZ]
  have hZ' := Lib.hid hZ
  have hg' := Lib.hid hg
  clear ha hb hZ hg
  go_enter Try.func13, Try.ntmps13
  go_wp2
  go_loopw [0, 1, 5] (fun u0 u1 _ wr => ∃ x y : Nat, u0 = U x ∧ u1 = U y ∧ Hid (x ≤ 18446744073709551615) ∧ Hid (y ≤ 18446744073709551615) ∧ Hid (Nat.gcd x y = g) ∧ Hid (Only (fun _ => False) w wr)) (fun _ u1 _ _ => (intOf u1).toNat)
  case atStart => exact ⟨a, b, rfl, rfl, ha'.out, hb'.out, hg'.out.symm, Only.refl _ _⟩
  case round =>
    obtain ⟨x, y, rfl, rfl, hx, hy, hxy, hO⟩ := hrel
    by_cases hy0 : y = 0
    · have hyc : ((y : Int) != 0) = false := by simp [hy0]
      have hx0 : x = g := by have := hxy.out; rw [hy0] at this; simpa using this
      go_wp2
      have hf : Z (.returned (U x)) wr := by rw [hZ'.out, hx0]; exact ⟨rfl, hO.out⟩
      exact hf
    · have hyn : (y : Int) ≠ 0 := by omega
      have hyb : ((y : Int) == 0) = false := by simpa using hy0
      have hyc : ((y : Int) != 0) = true := by simpa using hy0
      obtain ⟨r, hr⟩ : ∃ r, r = x % y := ⟨_, rfl⟩
      have hrem : (x : Int) % (y : Int) = (r : Int) := by rw [hr]; rfl
      have hry : r < y := by rw [hr]; exact Nat.mod_lt _ (by omega)
      have hry' := Lib.hid hry
      have hgr : Nat.gcd y r = g := by rw [hr, ← hxy.out, Nat.gcd_comm x y, Nat.gcd_rec y x, Nat.gcd_comm]
      have hgr' := Lib.hid hgr
      clear hr hry hgr
      go_wp2
      go_roundw
      case rel => exact ⟨y, r, rfl, by rw [hrem], hy.out, (show r ≤ _ by have := hry'.out; have := hy.out; omega), hgr'.out, hO.out⟩
      case measure => simp only [intOf]; rw [hrem]; have := hry'.out; simp; omega

def lcmS (a b : Nat) : Nat := if a = 0 ∨ b = 0 then 0 else sM (a / Nat.gcd a b) b
theorem lcmS_le (a b : Nat) : lcmS a b ≤ 18446744073709551615 := by
  unfold lcmS
  split
  · omega
  · exact sM_le _ _

theorem lcm_any (a b : Nat) (w : World) (ha : a ≤ 18446744073709551615) (hb : b ≤ 18446744073709551615) :
    Calls Try.prog 14 #[U a, U b] w (GrowU (lcmS a b) w) := by
  obtain ⟨Z, hZ⟩ : ∃ Z, Z = GrowU (lcmS a b) w := ⟨_, rfl⟩
  rw [← hZ]
  have hZ' := Lib.hid hZ
  clear hZ
  by_cases h0 : a = 0 ∨ b = 0
  · have hf : Z (.returned (.int .u64 0)) w := by
      rw [hZ'.out]
      exact ⟨ret_u (by rw [lcmS, if_pos h0]; rfl), Only.refl _ _⟩
    have hf' := Lib.hid hf
    clear hf
    by_cases ha0 : a = 0
    · subst ha0
      go_enter Try.func14, Try.ntmps14
      go_wp2
      exact hf'.out
    · obtain rfl : b = 0 := by omega
      have ha1 : ((a : Int) == 0) = false := by simpa using ha0
      go_enter Try.func14, Try.ntmps14
      go_wp2
      exact hf'.out
  · have ha0 : a ≠ 0 := fun h => h0 (.inl h)
    have hb0 : b ≠ 0 := fun h => h0 (.inr h)
    have ha1 : ((a : Int) == 0) = false := by simpa using ha0
    have hb1 : ((b : Int) == 0) = false := by simpa using hb0
    obtain ⟨g, hg⟩ : ∃ g, g = Nat.gcd a b := ⟨_, rfl⟩
    have hgp : 0 < g := by rw [hg]; exact Nat.gcd_pos_of_pos_left _ (by omega)
    obtain ⟨q, hq⟩ : ∃ q, q = a / g := ⟨_, rfl⟩
    have hq9 : q ≤ a := by rw [hq]; exact Nat.div_le_self _ _
    have hdiv : (a : Int) / (g : Int) = (q : Int) := by rw [hq]; rfl
    have hgn : (g : Int) ≠ 0 := by omega
    have hl : lcmS a b = sM q b := by rw [lcmS, if_neg h0, hq, hg]
    have hfin := Lib.hid (fun W (ho : Only (fun _ => False) w W) => show Z (.returned (U (sM q b))) W from by rw [hZ'.out, hl]; exact ⟨rfl, ho⟩)
    have c1 := Lib.hid (fun W => gcd_any a b W ha hb)
    rw [← hg] at c1
    have c2 := Lib.hid (fun W => mul_any q b W (by omega) hb)
    obtain ⟨m, hm⟩ : ∃ m, m = sM q b := ⟨_, rfl⟩
    rw [← hm] at c2 hfin
    clear hg hq hl hm h0 ha0 hb0
    go_enter Try.func14, Try.ntmps14
    go_wp2_with (first | (go_at_call 12; refine (c1.out _).mono ?_; rintro e w1 ⟨rfl, h1⟩; have h1' := Lib.hid h1; clear h1) | (go_at_call 30; refine (c2.out _).mono ?_; rintro e w2 ⟨rfl, h2⟩; have h2' := Lib.hid h2; clear h2; subst h2'))
    exact hfin.out _ h1'.out

def timesV (a b : Nat) : Nat := if 18446744073709551615 < a * b then 0 else a * b
def timesB (a b : Nat) : Bool := decide (a * b < 18446744073709551615)
theorem timesV_le (a b : Nat) : timesV a b ≤ 18446744073709551615 := by unfold timesV; split <;> omega
theorem times_any (a b : Nat) (w : World) (ha : a ≤ 18446744073709551615) (hb : b ≤ 18446744073709551615) :
    Calls Try.prog 29 #[U a, U b] w fun e w' => e = .returned (.tuple #[U (timesV a b), .bool (timesB a b)]) ∧ w' = w := by
  by_cases ha0 : a = 0
  · subst ha0
    go_enter Try.func29, Try.ntmps29
    go_wp2
    go_ret2
    exact ⟨by simp [timesV, timesB], rfl⟩
  have ha1 : ((a : Int) == 0) = false := by simpa using ha0
  by_cases hb0 : b = 0
  · subst hb0
    go_enter Try.func29, Try.ntmps29
    go_wp2
    go_ret2
    exact ⟨by simp [timesV, timesB], rfl⟩
  have hb1 : ((b : Int) == 0) = false := by simpa using hb0
  have hbn : (b : Int) ≠ 0 := by omega
  obtain ⟨q, hq⟩ : ∃ q, q = 18446744073709551615 / b := ⟨_, rfl⟩
  have hdiv : (18446744073709551615 : Int) / (b : Int) = (q : Int) := by rw [hq]; rfl
  have hq9 : q ≤ 18446744073709551615 := by rw [hq]; exact Nat.div_le_self _ _
  have hlt : q < a ↔ 18446744073709551615 < a * b := by rw [hq, Nat.div_lt_iff_lt_mul (by omega)]
  by_cases h : q < a
  · have h' : (q : Int) < a := by omega
    have hm := hlt.1 h
    have hm' := Lib.hid hm
    clear hq hlt hm
    go_enter Try.func29, Try.ntmps29
    go_wp2
    go_ret2
    have := hm'.out
    exact ⟨by rw [timesV, if_pos this, timesB, decide_eq_false (by omega)]; rfl, rfl⟩
  · have h' : ¬ (q : Int) < a := by omega
    have hm : ¬ 18446744073709551615 < a * b := fun x => h (hlt.2 x)
    obtain ⟨m, hmm⟩ : ∃ m, m = a * b := ⟨_, rfl⟩
    have hmul : (a : Int) * (b : Int) = (m : Int) := by rw [hmm]; simp
    rw [← hmm] at hm
    have e1 : timesV a b = m := by rw [timesV, ← hmm, if_neg hm]
    have e2 : timesB a b = decide ((m : Int) < 18446744073709551615) := by rw [timesB, ← hmm]; exact decide_eq_decide.2 (by omega)
    rw [e1, e2]
    clear hq hlt hmm e1 e2
    go_enter Try.func29, Try.ntmps29
    go_wp2
    all_goals go_ret2
    all_goals exact ⟨rfl, rfl⟩

theorem rlcm_any (a b : Nat) (w : World) (ha : a ≤ 18446744073709551615) (hb : b ≤ 18446744073709551615) :
    Calls Try.prog 11 #[U a, U b] w (GrowU (lcmS a b) w) := by
  obtain ⟨Z, hZ⟩ : ∃ Z, Z = GrowU (lcmS a b) w := ⟨_, rfl⟩
  rw [← hZ]
  have hZ' := Lib.hid hZ
  clear hZ
  by_cases h0 : a = 0 ∨ b = 0
  · have hf : Z (.returned (.int .u64 0)) w := by
      rw [hZ'.out]
      exact ⟨ret_u (by rw [lcmS, if_pos h0]; rfl), Only.refl _ _⟩
    have hf' := Lib.hid hf
    clear hf
    by_cases ha0 : a = 0
    · subst ha0
      go_enter Try.func11, Try.ntmps11
      go_wp2
      exact hf'.out
    · obtain rfl : b = 0 := by omega
      have ha1 : ((a : Int) == 0) = false := by simpa using ha0
      go_enter Try.func11, Try.ntmps11
      go_wp2
      exact hf'.out
  · have ha0 : a ≠ 0 := fun h => h0 (.inl h)
    have hb0 : b ≠ 0 := fun h => h0 (.inr h)
    have ha1 : ((a : Int) == 0) = false := by simpa using ha0
    have hb1 : ((b : Int) == 0) = false := by simpa using hb0
    obtain ⟨g, hg⟩ : ∃ g, g = Nat.gcd a b := ⟨_, rfl⟩
    have hgp : 0 < g := by rw [hg]; exact Nat.gcd_pos_of_pos_left _ (by omega)
    obtain ⟨q, hq⟩ : ∃ q, q = a / g := ⟨_, rfl⟩
    have hq9 : q ≤ a := by rw [hq]; exact Nat.div_le_self _ _
    have hdiv : (a : Int) / (g : Int) = (q : Int) := by rw [hq]; rfl
    have hgn : (g : Int) ≠ 0 := by omega
    have hl : lcmS a b = sM q b := by rw [lcmS, if_neg h0, hq, hg]
    have hfin := Lib.hid (fun W (ho : Only (fun _ => False) w W) => show Z (.returned (U (sM q b))) W from by rw [hZ'.out, hl]; exact ⟨rfl, ho⟩)
    have c1 := Lib.hid (fun W => rgcd_any a b W ha hb)
    rw [← hg] at c1
    have c2 := Lib.hid (fun W => times_any q b W (by omega) hb)
    have hB : (timesB q b = true ∧ timesV q b = sM q b) ∨ (timesB q b = false ∧ sM q b = 18446744073709551615) := by
      unfold timesB timesV sM
      by_cases h : q * b < 18446744073709551615
      · left; rw [if_neg (by omega), if_neg (by omega)]; exact ⟨decide_eq_true h, rfl⟩
      · right; refine ⟨decide_eq_false h, ?_⟩; split <;> omega
    obtain ⟨v, hv⟩ : ∃ v, v = timesV q b := ⟨_, rfl⟩
    obtain ⟨B, hBB⟩ : ∃ B, B = timesB q b := ⟨_, rfl⟩
    obtain ⟨m, hm⟩ : ∃ m, m = sM q b := ⟨_, rfl⟩
    rw [← hv, ← hBB] at c2
    rw [← hv, ← hBB, ← hm] at hB
    rw [← hm] at hfin
    clear hg hq hl hm h0 ha0 hb0 hv hBB
    rcases hB with ⟨rfl, rfl⟩ | ⟨rfl, rfl⟩
    · go_enter Try.func11, Try.ntmps11
      go_wp2_with (first | (go_at_call 13; refine (c1.out _).mono ?_; rintro e w1 ⟨rfl, h1⟩; have h1' := Lib.hid h1; clear h1) | (go_at_call 29; refine (c2.out _).mono ?_; rintro e w2 ⟨rfl, h2⟩; have h2' := Lib.hid h2; clear h2; subst h2'))
      exact hfin.out _ h1'.out
    · go_enter Try.func11, Try.ntmps11
      go_wp2_with (first | (go_at_call 13; refine (c1.out _).mono ?_; rintro e w1 ⟨rfl, h1⟩; have h1' := Lib.hid h1; clear h1) | (go_at_call 29; refine (c2.out _).mono ?_; rintro e w2 ⟨rfl, h2⟩; have h2' := Lib.hid h2; clear h2; subst h2'))
      exact hfin.out _ h1'.out
end Hyp
end Go.Proofs.Ytkolbaadakhciaa
