/- Work that comes as loads tell: what goes on, in numbers. -/
import Derived.Test.YtcgnboplpibcgaaWnd
namespace Go.Proofs.Ytcgnboplpibcgaa
open Go Go.RowKit
def sm (f : Nat → Nat) : Nat → Nat
  | 0 => 0
  | n + 1 => sm f n + f n
def updN (f : Nat → Nat) (i v : Nat) : Nat → Nat := fun k => if k = i then v else f k
theorem updN_twice (f : Nat → Nat) (i a b : Nat) : updN (updN f i a) i b = updN f i b := by
  funext k; unfold updN; split <;> rfl
theorem updN_self {f : Nat → Nat} {i v : Nat} (h : v = f i) : updN f i v = f := by
  funext k; unfold updN; split
  · next e => rw [e, h]
  · rfl
theorem updN_at (f : Nat → Nat) (i v : Nat) : updN f i v i = v := if_pos rfl
theorem sm_congr {f g : Nat → Nat} : ∀ n, (∀ i, i < n → f i = g i) → sm f n = sm g n
  | 0, _ => rfl
  | n + 1, h => by rw [sm, sm, sm_congr n (fun i hi => h i (by omega)), h n (by omega)]
theorem sm_le {f g : Nat → Nat} : ∀ n, (∀ i, i < n → f i ≤ g i) → sm f n ≤ sm g n
  | 0, _ => Nat.le_refl _
  | n + 1, h => by
    have := sm_le n (fun i hi => h i (by omega))
    have := h n (by omega)
    rw [sm, sm]
    omega
theorem sm_one {f g : Nat → Nat} {i : Nat} : ∀ n, i < n → (∀ k, k ≠ i → g k = f k) → sm g n + f i = sm f n + g i
  | 0, h, _ => by omega
  | n + 1, h, hg => by
    rw [sm, sm]
    by_cases hi : i = n
    · subst hi
      rw [sm_congr i (fun k hk => hg k (by omega))]
      omega
    · have := sm_one n (by omega) hg
      rw [hg n (by omega)]
      omega
theorem sm_const {f : Nat → Nat} {B : Nat} : ∀ n, (∀ i, i < n → f i ≤ B) → sm f n ≤ n * B
  | 0, _ => by simp [sm]
  | n + 1, h => by
    have := sm_const n (fun i hi => h i (by omega))
    have := h n (by omega)
    rw [sm, Nat.add_mul]
    omega
def cst (l : List Ld) (i : Nat) : Nat := (l.getD i (0, 0)).1
def prd (l : List Ld) (i : Nat) : Nat := (l.getD i (0, 0)).2
theorem cst_at {l : List Ld} {i c p : Nat} (h : l[i]? = some (c, p)) : cst l i = c ∧ prd l i = p := by
  unfold cst prd
  rw [List.getD_eq_getElem?_getD, h]
  exact ⟨rfl, rfl⟩
theorem dem_exact {d x y : Nat} {l : List Ld} (h : dem d l x ≤ y) (hy : y < 18446744073709551615) (hd : d ≤ 18446744073709551615) : d + sm (fun i => cst l i * sC x (prd l i)) l.length ≤ y := by
  have key : ∀ k, k ≤ l.length → dem d (l.take k) x ≤ y ∧ dem d (l.take k) x = d + sm (fun i => cst l i * sC x (prd l i)) k := by
    have up : ∀ k, k ≤ l.length → dem d (l.take k) x ≤ dem d l x := by
      intro k hk
      have e : l = l.take k ++ l.drop k := (List.take_append_drop k l).symm
      have : dem d l x = dem (dem d (l.take k) x) (l.drop k) x := by
        conv => lhs; rw [e]
        unfold dem
        rw [List.foldl_append]
      rw [this]
      generalize l.drop k = m
      have hle := dem_le hd (l.take k) x
      generalize dem d (l.take k) x = z at hle
      clear this e
      induction m generalizing z with
      | nil => exact Nat.le_refl _
      | cons y m ih => exact Nat.le_trans (sA_self hle) (ih _ (sA_le _ _))
    intro k
    induction k with
    | zero => intro _; exact ⟨Nat.le_trans (up 0 (by omega)) h, rfl⟩
    | succ k ih =>
      intro hk
      obtain ⟨h1, h2⟩ := ih (by omega)
      have h3 := Nat.le_trans (up (k + 1) hk) h
      refine ⟨h3, ?_⟩
      obtain ⟨⟨c, p⟩, hcp⟩ : ∃ z, l[k]? = some z := ⟨_, List.getElem?_eq_getElem (by omega)⟩
      rw [dem_take hcp] at h3 ⊢
      rw [sm, ← Nat.add_assoc, ← h2]
      obtain ⟨e1, e2⟩ := cst_at hcp
      rw [e1, e2]
      unfold sA at h3 ⊢
      split at h3
      · omega
      · next hh =>
        rw [if_neg hh]
        by_cases h4 : 18446744073709551615 < c * sC x p
        · rw [sM, if_pos h4] at h3
          omega
        · rw [sM, if_neg h4]
  obtain ⟨h1, h2⟩ := key l.length (Nat.le_refl _)
  rw [← h2]
  exact h1
/-- How far it is: what is left, and of each load when its next job comes, how many have come. -/
structure WInv (n : Nat) (c p : Nat → Nat) (d left t : Nat) (tt N T k : Nat → Nat) : Prop where
  sum : left + t = d + sm (fun i => c i * k i) n
  ge : ∀ i, i < n → tt i ≤ N i
  mul : ∀ i, i < n → k i * p i ≤ N i
  few : ∀ i, i < n → k i = 0 ∨ (k i - 1) * p i < tt i
  nb : ∀ i, i < n → N i ≤ 1255 + 1255 * tt i
  tb : ∀ i, i < n → T i ≤ 1 + tt i
section
variable {n d left t : Nat} {c p tt N T k : Nat → Nat}
theorem WInv.pass (h : WInv n c p d left t tt N T k) {j : Nat} (hj : j < n) (ht : tt j = t) (hN : N j ≠ t) : WInv n c p d left t (updN tt j (t + 1)) N T k := by
  refine ⟨h.sum, fun i hi => ?_, h.mul, fun i hi => ?_, fun i hi => ?_, fun i hi => ?_⟩ <;> unfold updN <;> split
  · next e => subst e; have := h.ge i hi; omega
  · exact h.ge i hi
  · next e => subst e; have := h.few i hi; omega
  · exact h.few i hi
  · next e => subst e; have := h.nb i hi; omega
  · exact h.nb i hi
  · next e => subst e; have := h.tb i hi; omega
  · exact h.tb i hi
theorem WInv.come (h : WInv n c p d left t tt N T k) {j g T' : Nat} (hj : j < n) (ht : tt j = t) (hN : N j = t) (hg : g ≤ 255) (hp : 1 ≤ p j) (hp2 : p j ≤ 1000) (hT : T' ≤ T j + 1) :
    WInv n c p d (left + c j) t (updN tt j (t + 1)) (updN N j (t + p j + g)) (updN T j T') (updN k j (k j + 1)) := by
  have e1 : updN k j (k j + 1) j = k j + 1 := by unfold updN; rw [if_pos rfl]
  refine ⟨?_, fun i hi => ?_, fun i hi => ?_, fun i hi => ?_, fun i hi => ?_, fun i hi => ?_⟩
  · have := sm_one (f := fun i => c i * k i) (g := fun i => c i * updN k j (k j + 1) i) n hj (fun i hi => by unfold updN; rw [if_neg hi])
    simp only [e1, Nat.mul_add, Nat.mul_one] at this
    have := h.sum
    omega
  · unfold updN; split
    · omega
    · exact h.ge i hi
  · unfold updN; split
    · next e =>
      subst e
      have := h.mul i hi
      rw [Nat.add_mul, Nat.one_mul]
      omega
    · exact h.mul i hi
  · unfold updN; split
    · next e =>
      subst e
      have := h.mul i hi
      right
      rw [Nat.add_sub_cancel]
      omega
    · exact h.few i hi
  · unfold updN; split
    · omega
    · exact h.nb i hi
  · unfold updN; split
    · next e => subst e; have := h.tb i hi; omega
    · exact h.tb i hi
theorem WInv.tt_congr {tt' : Nat → Nat} (h : WInv n c p d left t tt N T k) (e : ∀ i, i < n → tt i = tt' i) : WInv n c p d left t tt' N T k :=
  ⟨h.sum, fun i hi => by rw [← e i hi]; exact h.ge i hi, h.mul, fun i hi => by rw [← e i hi]; exact h.few i hi, fun i hi => by rw [← e i hi]; exact h.nb i hi, fun i hi => by rw [← e i hi]; exact h.tb i hi⟩
theorem WInv.next (h : WInv n c p d (left + 1) t tt N T k) (hall : ∀ i, i < n → tt i = t + 1) : WInv n c p d left (t + 1) (fun _ => t + 1) N T k :=
  ⟨by have := h.sum; omega, fun i hi => by have := h.ge i hi; rw [hall i hi] at this; exact this, h.mul, fun i hi => by have := h.few i hi; rw [hall i hi] at this; exact this, fun i hi => by have := h.nb i hi; rw [hall i hi] at this; exact this, fun i hi => by have := h.tb i hi; rw [hall i hi] at this; exact this⟩
theorem WInv.few' (h : WInv n c p d left t tt N T k) (hp : ∀ i, i < n → 1 ≤ p i) {i : Nat} (hi : i < n) : k i ≤ tt i := by
  rcases h.few i hi with h0 | h0
  · omega
  · have := Nat.mul_le_mul_left (k i - 1) (hp i hi)
    omega
theorem WInv.left_le (h : WInv n c p d left t tt N T k) (hp : ∀ i, i < n → 1 ≤ p i) (hc : ∀ i, i < n → c i ≤ 1000) (htt : ∀ i, i < n → tt i ≤ 1000) (hn : n ≤ 8) (hd : d ≤ 255) : left ≤ 8000255 := by
  have h1 := sm_const (f := fun i => c i * k i) (B := 1000 * 1000) n (fun i hi => Nat.mul_le_mul (hc i hi) (Nat.le_trans (h.few' hp hi) (htt i hi)))
  have := h.sum
  have : n * (1000 * 1000) ≤ 8 * (1000 * 1000) := Nat.mul_le_mul_right _ hn
  omega
/-- When the window is over nothing is left. -/
theorem WInv.over {l : List Ld} {w : Nat} (h : WInv l.length (cst l) (prd l) d left w (fun _ => w) N T k) (hp : ∀ i, i < l.length → 1 ≤ prd l i) (hw : 1 ≤ w) (hwm : w ≤ 800) (hd : d ≤ 255) (hD : dem d l w ≤ w) : left = 0 := by
  have h1 := dem_exact hD (by omega) (by omega)
  have h2 := sm_le (f := fun i => cst l i * k i) (g := fun i => cst l i * sC w (prd l i)) l.length (fun i hi => Nat.mul_le_mul_left _ (by
    unfold sC
    have hp1 := hp i hi
    rw [if_neg (by omega), if_neg (by omega)]
    rcases h.few i hi with h0 | h0
    · rw [h0]; exact Nat.zero_le _
    · have := (Nat.le_div_iff_mul_le (k := prd l i) (x := k i - 1) (y := w - 1) (by omega)).2 (by omega)
      generalize (w - 1) / prd l i = q at this ⊢
      omega))
  have := h.sum
  omega
end
end Go.Proofs.Ytcgnboplpibcgaa
