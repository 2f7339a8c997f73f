/- What the program's and the reference's Longest have in common. -/
import Derived.Test.YtlbinlhaejhobaaGreatDoorPH
namespace Go.Proofs.YtlbinlhaejhobaaGreatDoor
namespace Sct
open Go Go.RowKit Lin Lck Cst

/-- Operation k is below the level, ahead and behind. -/
def blw (LV : Nat → Int) (lev : Int) (k : Nat) : Prop := LV k < lev ∧ LV (k + 1) < lev
/-- The operations from i on, below k, are a stretch. -/
def str (LV : Nat → Int) (lev : Int) (i k : Nat) : Prop := i ≤ k ∧ ∀ x, i ≤ x → x < k → ¬ blw LV lev x
theorem str_self (LV : Nat → Int) (lev : Int) (i : Nat) : str LV lev i i := ⟨Nat.le_refl _, fun x h1 h2 => by omega⟩
theorem str_succ {LV : Nat → Int} {lev : Int} {i k : Nat} (h : str LV lev i k) (hk : ¬ blw LV lev k) : str LV lev i (k + 1) :=
  ⟨by have := h.1; omega, fun x h1 h2 => by
    by_cases hx : x = k
    · subst hx; exact hk
    · exact h.2 x h1 (by omega)⟩
theorem str_pre {LV : Nat → Int} {lev : Int} {i k : Nat} (h : str LV lev i (k + 1)) (hi : i ≤ k) : str LV lev i k := ⟨hi, fun x h1 h2 => h.2 x h1 (by omega)⟩
/-- v is what the longest of some stretches takes. -/
def Best (LV co : Nat → Int) (lev : Int) (A : Nat → Nat → Prop) (m : Nat) (v : Int) : Prop :=
  0 ≤ v ∧ (∀ i k, A i k → k ≤ m → str LV lev i k → sumU co k - sumU co i ≤ v) ∧ (v = 0 ∨ ∃ i k, k ≤ m ∧ str LV lev i k ∧ sumU co k - sumU co i = v)
theorem Best.uniq {LV co : Nat → Int} {lev : Int} {m : Nat} {u v : Int} (hu : Best LV co lev (fun _ _ => True) m u) (hv : Best LV co lev (fun _ _ => True) m v) : u = v := by
  obtain ⟨u0, u1, u2⟩ := hu
  obtain ⟨v0, v1, v2⟩ := hv
  apply Int.le_antisymm
  · rcases u2 with rfl | ⟨i, k, hk, hs, rfl⟩
    · exact v0
    · exact v1 i k trivial hk hs
  · rcases v2 with rfl | ⟨i, k, hk, hs, rfl⟩
    · exact u0
    · exact u1 i k trivial hk hs
theorem sumU_mono {co : Nat → Int} (h0 : ∀ k, 0 ≤ co k) {i k : Nat} (h : i ≤ k) : sumU co i ≤ sumU co k := by
  induction k with
  | zero => obtain rfl : i = 0 := by omega
            exact Int.le_refl _
  | succ k ih =>
    by_cases hi : i = k + 1
    · subst hi; exact Int.le_refl _
    · have := ih (by omega)
      have := h0 k
      have e : sumU co (k + 1) = sumU co k + co k := rfl
      omega
theorem lonU_best {LV co : Nat → Int} {lev : Int} (h0 : ∀ k, 0 ≤ co k) : ∀ m, Best LV co lev (fun _ _ => True) m (lonU LV co lev m).1 ∧ (∀ i, str LV lev i m → sumU co m - sumU co i ≤ (lonU LV co lev m).2) ∧ (∃ i, str LV lev i m ∧ sumU co m - sumU co i = (lonU LV co lev m).2)
  | 0 => by
    refine ⟨⟨Int.le_refl _, fun i k _ hk hs => ?_, .inl rfl⟩, fun i hs => ?_, 0, str_self _ _ _, by simp [lonU]⟩
    · obtain rfl : k = 0 := by omega
      obtain rfl : i = 0 := by have := hs.1; omega
      simp [lonU]
    · obtain rfl : i = 0 := by have := hs.1; omega
      simp [lonU]
  | m + 1 => by
    obtain ⟨⟨b0, b1, b2⟩, r1, ⟨s, r2, r3⟩⟩ := lonU_best h0 (lev := lev) (LV := LV) m
    have e : sumU co (m + 1) = sumU co m + co m := rfl
    have hm0 := h0 m
    unfold lonU
    split
    · rename_i hb
      have hb' : blw LV lev m := by unfold blw; omega
      have hno : ∀ i, str LV lev i (m + 1) → i = m + 1 := fun i hs => by
        by_cases hi : i = m + 1
        · exact hi
        · exact absurd hb' (hs.2 m (by have := hs.1; omega) (by omega))
      refine ⟨⟨b0, fun i k _ hk hs => ?_, ?_⟩, fun i hs => ?_, m + 1, str_self _ _ _, by simp⟩
      · by_cases hkm : k = m + 1
        · subst hkm
          obtain rfl := hno i hs
          simpa using b0
        · exact b1 i k trivial (by omega) hs
      · rcases b2 with h | ⟨i, k, h1, h2, h3⟩
        · exact .inl h
        · exact .inr ⟨i, k, by omega, h2, h3⟩
      · obtain rfl := hno i hs
        simp
    · rename_i hb
      have hb' : ¬ blw LV lev m := by unfold blw; omega
      have hsm : ∀ i, str LV lev i (m + 1) → sumU co (m + 1) - sumU co i ≤ (lonU LV co lev m).2 + co m := fun i hs => by
        by_cases hi : i = m + 1
        · subst hi
          have h1 := r1 m (str_self _ _ _)
          simp at h1 ⊢
          omega
        · have := r1 i (str_pre hs (by have := hs.1; omega))
          omega
      have hrun0 : 0 ≤ (lonU LV co lev m).2 := by have h1 := r1 m (str_self _ _ _); simpa using h1
      refine ⟨⟨?_, fun i k _ hk hs => ?_, ?_⟩, hsm, s, str_succ r2 hb', ?_⟩
      · dsimp only; omega
      · dsimp only
        by_cases hkm : k = m + 1
        · subst hkm
          have := hsm i hs
          omega
        · have := b1 i k trivial (by omega) hs
          omega
      · dsimp only
        by_cases hx : (lonU LV co lev m).1 ≤ (lonU LV co lev m).2 + co m
        · refine .inr ⟨s, m + 1, Nat.le_refl _, str_succ r2 hb', ?_⟩
          omega
        · rcases b2 with h | ⟨i, k, h1, h2, h3⟩
          · omega
          · refine .inr ⟨i, k, by omega, h2, ?_⟩
            omega
      · dsimp only; omega
/-- What the reference knows ahead of operation k of the stretch that begins at i. -/
def Inr (LV co : Nat → Int) (lev : Int) (m i k : Nat) (v : Int) : Prop := Best LV co lev (fun a b => a < i ∨ a = i ∧ b ≤ k) m v ∧ str LV lev i k
theorem best_zero (LV co : Nat → Int) (lev : Int) (m : Nat) : Best LV co lev (fun a _ => a < 0) m 0 := ⟨Int.le_refl _, fun i k h _ _ => by omega, .inl rfl⟩
theorem inr_start {LV co : Nat → Int} {lev : Int} {m i : Nat} {v : Int} (h : Best LV co lev (fun a _ => a < i) m v) : Inr LV co lev m i i v := by
  obtain ⟨h0, h1, h2⟩ := h
  refine ⟨⟨h0, fun a b hab hb hs => ?_, h2⟩, str_self _ _ _⟩
  rcases hab with h | ⟨rfl, h⟩
  · exact h1 a b h hb hs
  · obtain rfl : b = a := by have := hs.1; omega
    simpa using h0
theorem inr_step {LV co : Nat → Int} {lev : Int} {m i k : Nat} {v : Int} (h : Inr LV co lev m i k v) (hk : k < m) (hb : ¬ blw LV lev k) : Inr LV co lev m i (k + 1) (max v (sumU co k - sumU co i + co k)) := by
  obtain ⟨⟨h0, h1, h2⟩, h3⟩ := h
  have e : sumU co (k + 1) = sumU co k + co k := rfl
  have h4 := str_succ h3 hb
  refine ⟨⟨by omega, fun a b hab hbm hs => ?_, ?_⟩, h4⟩
  · by_cases hx : a = i ∧ b = k + 1
    · obtain ⟨rfl, rfl⟩ := hx
      omega
    · have := h1 a b (by omega) hbm hs
      omega
  · by_cases hx : v ≤ sumU co k - sumU co i + co k
    · exact .inr ⟨i, k + 1, by omega, h4, by omega⟩
    · rcases h2 with h | ⟨a, b, x1, x2, x3⟩
      · left; omega
      · exact .inr ⟨a, b, x1, x2, by omega⟩
theorem inr_break {LV co : Nat → Int} {lev : Int} {m i k : Nat} {v : Int} (h : Inr LV co lev m i k v) (hb : blw LV lev k ∨ k = m) : Best LV co lev (fun a _ => a < i + 1) m v := by
  obtain ⟨⟨h0, h1, h2⟩, h3⟩ := h
  refine ⟨h0, fun a b ha hbm hs => ?_, h2⟩
  refine h1 a b ?_ hbm hs
  by_cases hx : a < i
  · exact .inl hx
  · obtain rfl : a = i := by omega
    refine .inr ⟨rfl, ?_⟩
    rcases hb with hb | rfl
    · apply Nat.le_of_not_lt
      intro hlt
      exact hs.2 k h3.1 hlt hb
    · exact hbm
theorem best_all {LV co : Nat → Int} {lev : Int} {m : Nat} {v : Int} (h : Best LV co lev (fun a _ => a < m) m v) : Best LV co lev (fun _ _ => True) m v := by
  obtain ⟨h0, h1, h2⟩ := h
  refine ⟨h0, fun a b _ hb hs => ?_, h2⟩
  by_cases ha : a < m
  · exact h1 a b ha hb hs
  · obtain rfl : b = m := by have := hs.1; omega
    obtain rfl : a = b := by have := hs.1; omega
    simpa using h0
theorem best_lon {LV co : Nat → Int} {lev : Int} (h0 : ∀ k, 0 ≤ co k) {m : Nat} {v : Int} (h : Best LV co lev (fun a _ => a < m) m v) : v = (lonU LV co lev m).1 := (best_all h).uniq (lonU_best h0 m).1
end Sct
end Go.Proofs.YtlbinlhaejhobaaGreatDoor
