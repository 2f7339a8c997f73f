/- SectionFalls: longest stretches fall. -/
import Derived.Test.YteeleelkepjoaaaFew24
namespace Go.Proofs.Yteeleelkepjoaaa
namespace Sct
open Go Go.RowKit Lin Lck Cst

theorem lonU_falls {LV co : Nat → Int} (h0 : ∀ k, 0 ≤ co k ∧ co k ≤ 1073741824) {lo hi : Int} (h : lo ≤ hi) : ∀ k : Nat, (lonU LV co hi k).1 ≤ (lonU LV co lo k).1 ∧ (lonU LV co hi k).2 ≤ (lonU LV co lo k).2
  | 0 => by simp [lonU]
  | k + 1 => by
    have ih := lonU_falls (LV := LV) h0 h k
    have hk := h0 k
    obtain ⟨_, ⟨b3, _⟩⟩ := lonU_bound (LV := LV) (lev := lo) h0 k
    unfold lonU
    by_cases h1 : max (LV k) (LV (k + 1)) < lo
    · rw [if_pos h1, if_pos (by omega)]
      exact ⟨ih.1, by simp⟩
    · rw [if_neg h1]
      by_cases h2 : max (LV k) (LV (k + 1)) < hi
      · rw [if_pos h2]
        dsimp only
        omega
      · rw [if_neg h2]
        dsimp only
        omega
theorem lonU_all {LV co : Nat → Int} (h0 : ∀ k, 0 ≤ co k ∧ co k ≤ 1073741824) {lev : Int} (h : ∀ k, lev ≤ LV k) : ∀ k : Nat, lonU LV co lev k = (sumU co k, sumU co k)
  | 0 => rfl
  | k + 1 => by
    have hk := h0 k
    have h1 := h k
    have hs := sumU_bound h0 k
    unfold lonU sumU
    rw [lonU_all h0 h k, if_neg (by omega)]
    dsimp only
    congr 1
    omega
theorem lonU_none {LV co : Nat → Int} {lev : Int} (h : ∀ k, LV k < lev) : ∀ k : Nat, lonU LV co lev k = (0, 0)
  | 0 => rfl
  | k + 1 => by
    have h1 := h k
    have h2 := h (k + 1)
    unfold lonU
    rw [lonU_none h k, if_pos (by omega)]
theorem lev_ge (base : Int) (z : Nat → Int) (p : Nat → Bool) : ∀ k : Nat, base ≤ lev base z p k
  | 0 => Int.le_refl _
  | k + 1 => by
    have := lev_ge base z p k
    unfold lev
    split <;> omega
theorem lev_le {base M : Int} {z : Nat → Int} {p : Nat → Bool} (hb : base ≤ M) : ∀ k : Nat, (∀ i, i < k → z i ≤ M) → lev base z p k ≤ M
  | 0, _ => hb
  | k + 1, h => by
    have h1 := lev_le (p := p) hb k (fun i hi => h i (by omega))
    have h2 := h k (by omega)
    unfold lev
    split <;> omega
theorem levK_ge {th : Int} (hth : th ≤ 64) (z : Nat → Int) (n : Nat) (l : List Opn) (k : Nat) : th ≤ levK th z n l k := by
  unfold levK levS
  split
  · exact hth
  · exact lev_ge _ _ _ _
theorem levK_le {th : Int} (hth : th ≤ 64) {ce : List Int} (hce : ∀ (k : Nat) z, ce[k]? = some z → -64 ≤ z ∧ z ≤ 64) (n : Nat) (l : List Opn) (k : Nat) : levK th (ceZ ce) n l k ≤ 64 := by
  unfold levK levS
  split
  · exact Int.le_refl _
  · refine lev_le hth _ (fun i _ => ?_)
    unfold ceZ
    rw [List.getD_eq_getElem?_getD]
    cases h : ce[i]? with
    | none => simp
    | some z => exact (hce i z h).2
theorem lon_falls {th : Int} {z : Nat → Int} {n : Nat} {l : List Opn} {h mi lo hi : Int} (hl : lo ≤ hi) : lonZ th z n l h mi hi ≤ lonZ th z n l h mi lo := (lonU_falls (costK_le l h mi) hl l.length).1
theorem lon_all {th : Int} (hth : th ≤ 64) {z : Nat → Int} {n : Nat} {l : List Opn} {h mi : Int} : lonZ th z n l h mi th = sumU (costK l h mi) l.length := by
  unfold lonZ
  rw [lonU_all (costK_le l h mi) (levK_ge hth z n l)]
theorem lon_none {th : Int} (hth : th ≤ 64) {ce : List Int} (hce : ∀ (k : Nat) z, ce[k]? = some z → -64 ≤ z ∧ z ≤ 64) {n : Nat} {l : List Opn} {h mi : Int} : lonZ th (ceZ ce) n l h mi 65 = 0 := by
  unfold lonZ
  rw [lonU_none (fun k => by have := levK_le hth hce n l k; omega)]
end Sct
end Go.Proofs.Yteeleelkepjoaaa
