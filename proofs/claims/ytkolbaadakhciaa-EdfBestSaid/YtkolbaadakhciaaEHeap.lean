/- Plain mathematics of a heap in a row. Speaks of no program. -/
import Derived.Test.YtkolbaadakhciaaEPush
namespace Go.Proofs.Ytkolbaadakhciaa
namespace Edf

def le (x y : En) : Prop := x.e.t < y.e.t ∨ (x.e.t = y.e.t ∧ x.n ≤ y.n)
theorem lt_le {x y : En} (h : ltB x y = true) : le x y := by
  unfold ltB at h
  unfold le
  split at h
  · have := of_decide_eq_true h; omega
  · have := of_decide_eq_true h; omega
theorem nlt_le {x y : En} (h : ltB x y = false) : le y x := by
  unfold ltB at h
  unfold le
  split at h
  · have := of_decide_eq_false h; omega
  · have := of_decide_eq_false h; omega
theorem le_trans {x y z : En} (h : le x y) (k : le y z) : le x z := by
  unfold le at *
  omega
theorem le_refl (x : En) : le x x := by
  unfold le
  omega

def Ok (es : List En) (p k : Nat) : Prop := ∀ x y, es[p]? = some x → es[k]? = some y → le x y
def HeapFrom (es : List En) (i0 n : Nat) : Prop := ∀ k, 0 < k → k < n → i0 ≤ (k - 1) / 2 → Ok es ((k - 1) / 2) k
def UpInv (es : List En) (n j : Nat) : Prop :=
  (∀ k, 0 < k → k < n → k ≠ j → Ok es ((k - 1) / 2) k) ∧ ∀ k, 0 < k → k < n → (k - 1) / 2 = j → 0 < j → Ok es ((j - 1) / 2) k
def DownInv (es : List En) (i0 n i : Nat) : Prop :=
  (∀ k, 0 < k → k < n → i0 ≤ (k - 1) / 2 → (k - 1) / 2 ≠ i → Ok es ((k - 1) / 2) k) ∧ ∀ k, 0 < k → k < n → (k - 1) / 2 = i → 0 < i → i0 ≤ (i - 1) / 2 → Ok es ((i - 1) / 2) k

def sw (es : List En) (i j : Nat) (x y : En) : List En := (es.set i y).set j x
theorem sw_length (es : List En) (i j : Nat) (x y : En) : (sw es i j x y).length = es.length := by simp [sw]
theorem sw_at {es : List En} {i j : Nat} (hi : i < es.length) (hj : j < es.length) (x y : En) (k : Nat) : (sw es i j x y)[k]? = if k = j then some x else if k = i then some y else es[k]? := by
  unfold sw
  rw [List.getElem?_set]
  by_cases h1 : j = k
  · rw [if_pos h1, if_pos h1.symm, if_pos (by simpa using hj)]
  · rw [if_neg h1, if_neg (fun e => h1 e.symm), List.getElem?_set]
    by_cases h2 : i = k
    · rw [if_pos h2, if_pos h2.symm, if_pos hi]
    · rw [if_neg h2, if_neg (fun e => h2 e.symm)]
theorem sw_perm {es : List En} {i j : Nat} {x y : En} (hx : es[i]? = some x) (hy : es[j]? = some y) : List.Perm (sw es i j x y) es := by
  obtain ⟨hi, rfl⟩ := List.getElem?_eq_some_iff.1 hx
  obtain ⟨hj, rfl⟩ := List.getElem?_eq_some_iff.1 hy
  exact List.set_set_perm hi hj

theorem up_stop {es : List En} {n j : Nat} (h : UpInv es n j) (hj : j = 0 ∨ Ok es ((j - 1) / 2) j) : HeapFrom es 0 n := by
  intro k h1 h2 _
  by_cases hk : k = j
  · subst hk
    rcases hj with hj | hj
    · omega
    · exact hj
  · exact h.1 k h1 h2 hk
theorem up_step {es : List En} {n i j : Nat} {x y : En} (h : UpInv es n j) (hn : n ≤ es.length) (hj0 : 0 < j) (hjn : j < n) (hij : i = (j - 1) / 2) (hx : es[i]? = some x) (hlt : ltB y x = true) : UpInv (sw es i j x y) n i := by
  have hyx := lt_le hlt
  have hi : i < es.length := by omega
  have hj : j < es.length := by omega
  refine ⟨fun k h1 h2 h3 a b ha hb => ?_, fun k h1 h2 h3 h4 a b ha hb => ?_⟩
  · rw [sw_at hi hj] at ha hb
    by_cases hk : k = j
    · rw [if_pos hk] at hb
      rw [if_neg (by omega), if_pos (by omega)] at ha
      cases ha; cases hb; exact hyx
    · rw [if_neg hk, if_neg h3] at hb
      by_cases hp : (k - 1) / 2 = j
      · rw [if_pos hp] at ha
        cases ha
        exact h.2 k h1 h2 hp hj0 _ _ (hij ▸ hx) hb
      · rw [if_neg hp] at ha
        by_cases hpi : (k - 1) / 2 = i
        · rw [if_pos hpi] at ha
          cases ha
          exact le_trans hyx (h.1 k h1 h2 hk _ _ (hpi ▸ hx) hb)
        · rw [if_neg hpi] at ha
          exact h.1 k h1 h2 hk _ _ ha hb
  · rw [sw_at hi hj] at ha hb
    rw [if_neg (by omega), if_neg (by omega)] at ha
    have hpp := h.1 i h4 (by omega) (by omega)
    by_cases hk : k = j
    · rw [if_pos hk] at hb
      cases hb
      exact hpp _ _ ha hx
    · rw [if_neg hk, if_neg (by omega)] at hb
      exact le_trans (hpp _ _ ha hx) (h.1 k h1 h2 hk _ _ (h3 ▸ hx) hb)
theorem down_start {es : List En} {i0 n : Nat} (h : HeapFrom es (i0 + 1) n) : DownInv es i0 n i0 :=
  ⟨fun k h1 h2 h3 h4 => h k h1 h2 (by omega), fun k h1 h2 h3 h4 h5 => by omega⟩
theorem down_leaf {es : List En} {i0 n i : Nat} (h : DownInv es i0 n i) (hn : n ≤ 2 * i + 1) : HeapFrom es i0 n :=
  fun k h1 h2 h3 => h.1 k h1 h2 h3 (by omega)
/-- j is the first child of i that goes ahead. -/
def Kid (es : List En) (n i j : Nat) : Prop := 0 < j ∧ j < n ∧ (j - 1) / 2 = i ∧ ∀ k, 0 < k → k < n → (k - 1) / 2 = i → Ok es j k
theorem down_stop {es : List En} {i0 n i j : Nat} (h : DownInv es i0 n i) (hk : Kid es n i j) (hj : Ok es i j) (hn : n ≤ es.length) : HeapFrom es i0 n := by
  intro k h1 h2 h3
  by_cases hp : (k - 1) / 2 = i
  · intro a b ha hb
    rw [hp] at ha
    obtain ⟨k0, k1, k2, k3⟩ := hk
    have hz : es[j]? = some (es[j]'(by omega)) := List.getElem?_eq_getElem _
    exact le_trans (hj _ _ ha hz) (k3 k h1 h2 hp _ _ hz hb)
  · exact h.1 k h1 h2 h3 hp
theorem down_step {es : List En} {i0 n i j : Nat} {x y : En} (h : DownInv es i0 n i) (hk : Kid es n i j) (hn : n ≤ es.length) (hi0 : i0 ≤ i) (hx : es[i]? = some x) (hy : es[j]? = some y) (hlt : ltB y x = true) : DownInv (sw es i j x y) i0 n j := by
  have hyx := lt_le hlt
  obtain ⟨k0, k1, k2, k3⟩ := hk
  have hi : i < es.length := by omega
  have hj : j < es.length := by omega
  refine ⟨fun k h1 h2 h3 h4 a b ha hb => ?_, fun k h1 h2 h3 h4 h5 a b ha hb => ?_⟩
  · rw [sw_at hi hj] at ha hb
    rw [if_neg h4] at ha
    by_cases hp : (k - 1) / 2 = i
    · rw [if_pos hp] at ha
      cases ha
      by_cases hkj : k = j
      · rw [if_pos hkj] at hb
        cases hb; exact hyx
      · rw [if_neg hkj, if_neg (by omega)] at hb
        exact k3 k h1 h2 hp _ _ hy hb
    · rw [if_neg hp] at ha
      rw [if_neg (fun e => hp (by rw [e, k2]))] at hb
      by_cases hki : k = i
      · rw [if_pos hki] at hb
        cases hb
        subst hki
        exact h.2 j k0 k1 k2 h1 h3 _ _ ha hy
      · rw [if_neg hki] at hb
        exact h.1 k h1 h2 h3 hp _ _ ha hb
  · rw [sw_at hi hj] at ha hb
    rw [if_neg (by omega), if_pos k2] at ha
    rw [if_neg (by omega), if_neg (by omega)] at hb
    cases ha
    exact h.1 k h1 h2 (by omega) (by omega) _ _ (h3 ▸ hy) hb
theorem heap_min {es : List En} {n : Nat} (h : HeapFrom es 0 n) (hn : n ≤ es.length) : ∀ k, k < n → Ok es 0 k := by
  intro k
  induction k using Nat.strongRecOn with
  | _ k ih =>
    intro hk a b ha hb
    by_cases h0 : k = 0
    · subst h0
      rw [ha] at hb
      cases hb
      exact le_refl _
    · have hz : es[(k - 1) / 2]? = some (es[(k - 1) / 2]'(by omega)) := List.getElem?_eq_getElem _
      exact le_trans (ih ((k - 1) / 2) (by omega) (by omega) _ _ ha hz) (h k (by omega) hk (by omega) _ _ hz hb)
end Edf
end Go.Proofs.Ytkolbaadakhciaa
