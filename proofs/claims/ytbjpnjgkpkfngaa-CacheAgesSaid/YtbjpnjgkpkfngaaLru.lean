/- Rows of blocks: what an access makes of a row, over lists and over cells. Speaks of no program. -/
import Derived.Test.YtbjpnjgkpkfngaaCache
import Derived.Laws.CopyOwn
namespace Go.Proofs.Ytbjpnjgkpkfngaa
open Go Go.RowKit

/-- A row behind an access. -/
def acc (W : Nat) (g : List Int) (b : Int) : List Int := if b ∈ g then b :: g.erase b else (b :: g).take W
def upd (G : Nat → List Int) (s : Nat) (g : List Int) : Nat → List Int := fun i => if i = s then g else G i
theorem row_apart {i s W j k : Nat} (hj : j < W) (hk : k < W) (h : i * W + j = s * W + k) : i = s := by
  have h1 : (i * W + j) / W = i := by rw [Nat.mul_comm, Nat.mul_add_div (by omega), Nat.div_eq_of_lt hj]; omega
  have h2 : (s * W + k) / W = s := by rw [Nat.mul_comm, Nat.mul_add_div (by omega), Nat.div_eq_of_lt hk]; omega
  rw [← h1, h, h2]
theorem erase_parts {b : Int} : ∀ (g : List Int), b ∈ g → g.erase b = g.take (g.idxOf b) ++ g.drop (g.idxOf b + 1)
  | [], h => by simp at h
  | a :: g, h => by
    by_cases hab : a = b
    · subst hab
      simp
    · have hne : (a == b) = false := by simpa using hab
      rw [List.idxOf_cons, hne]
      simp only [cond_false]
      rw [List.erase_cons_tail (by simpa using hab), erase_parts g (by simpa [Ne.symm hab] using (List.mem_cons.1 h).resolve_left (fun e => hab e.symm))]
      simp
theorem acc_in {W : Nat} {g : List Int} {b : Int} (h : b ∈ g) : acc W g b = b :: (g.take (g.idxOf b) ++ g.drop (g.idxOf b + 1)) := by
  unfold acc
  rw [if_pos h, erase_parts g h]
theorem acc_out {W : Nat} {g : List Int} {b : Int} (h : ¬ b ∈ g) (hW : 1 ≤ W) : acc W g b = b :: g.take (W - 1) := by
  unfold acc
  rw [if_neg h, show W = W - 1 + 1 by omega, List.take_succ_cons]
  rfl
theorem acc_len {W : Nat} {g : List Int} {b : Int} (hg : g.length ≤ W) (hW : 1 ≤ W) : (acc W g b).length ≤ W := by
  unfold acc
  split
  · rename_i h
    have := List.length_pos_of_mem h
    rw [List.length_cons, List.length_erase_of_mem h]
    omega
  · rw [List.length_take]
    omega

theorem splice_in {α : Type} {L cs : List α} {off j : Nat} (hL : off + cs.length ≤ L.length) (hj : j < cs.length) : (splice L off cs)[off + j]? = cs[j]? := by
  unfold splice
  rw [List.getElem?_append_right (by rw [List.length_take]; omega), List.getElem?_append_left (by rw [List.length_take]; omega), List.length_take]
  congr 1
  omega
theorem splice_out {α : Type} {L cs : List α} {off i : Nat} (hL : off + cs.length ≤ L.length) (hi : i < off ∨ off + cs.length ≤ i) : (splice L off cs)[i]? = L[i]? := by
  unfold splice
  by_cases h : i < off
  · rw [List.getElem?_append_left (by rw [List.length_take]; omega), List.getElem?_take, if_pos h]
  · rw [List.getElem?_append_right (by rw [List.length_take]; omega), List.getElem?_append_right (by rw [List.length_take]; omega), List.length_take, List.getElem?_drop]
    congr 1
    omega

/-- The room behind an access: the first a blocks of a row go one place back, and the block stands ahead. -/
def moved (L : List Value) (o a : Nat) (b : Int) : List Value := (splice L (o + 1) ((L.drop o).take a)).set o (.int .i64 b)
theorem moved_len {L : List Value} {o a : Nat} {b : Int} (h : o + 1 + a ≤ L.length) : (moved L o a b).length = L.length := by
  unfold moved
  rw [List.length_set, length_splice _ _ _ (by rw [List.length_take]; omega)]
theorem moved_row {L : List Value} {S W s a : Nat} {G : Nat → List Int} {b : Int} (hL : L.length = S * W) (hs : s < S) (haW : a < W) (hlen : ∀ i, i < S → (G i).length ≤ W) (han : a ≤ (G s).length)
    (hc : ∀ i, i < S → ∀ j x, (G i)[j]? = some x → L[i * W + j]? = some (.int .i64 x)) (g' : List Int) (hg : g' = b :: ((G s).take a ++ (G s).drop (a + 1)) ∨ g' = b :: (G s).take a) :
    ∀ i, i < S → ∀ j x, (upd G s g' i)[j]? = some x → (moved L (s * W) a b)[i * W + j]? = some (.int .i64 x) := by
  have hsw : s * W + W ≤ S * W := by
    have := Nat.mul_le_mul_right W (show s + 1 ≤ S from hs)
    rw [Nat.succ_mul] at this
    exact this
  have hcl : ((L.drop (s * W)).take a).length = a := by rw [List.length_take, List.length_drop]; omega
  have hfit : s * W + 1 + ((L.drop (s * W)).take a).length ≤ L.length := by rw [hcl]; omega
  have hout : ∀ i, i < s * W ∨ s * W + a < i → (moved L (s * W) a b)[i]? = L[i]? := fun i hi => by
    unfold moved
    rw [List.getElem?_set_ne (by omega), splice_out hfit (by rw [hcl]; omega)]
  intro i hi j x hx
  by_cases his : i = s
  · subst his
    unfold upd at hx
    rw [if_pos rfl] at hx
    cases j with
    | zero =>
      have : x = b := by rcases hg with rfl | rfl <;> simpa using hx.symm
      subst this
      rw [Nat.add_zero]
      unfold moved
      rw [List.getElem?_set_self (by rw [length_splice _ _ _ hfit]; omega)]
    | succ k =>
      by_cases hk : k < a
      · have hgx : (G i)[k]? = some x := by
          rcases hg with rfl | rfl
          · rw [List.getElem?_cons_succ, List.getElem?_append_left (by rw [List.length_take]; omega), List.getElem?_take, if_pos hk] at hx
            exact hx
          · rw [List.getElem?_cons_succ, List.getElem?_take, if_pos hk] at hx
            exact hx
        unfold moved
        rw [List.getElem?_set_ne (by omega), show i * W + (k + 1) = i * W + 1 + k by omega, splice_in hfit (by rw [hcl]; exact hk), List.getElem?_take, if_pos hk, List.getElem?_drop]
        exact hc i hi k x hgx
      · rcases hg with rfl | rfl
        · rw [List.getElem?_cons_succ, List.getElem?_append_right (by rw [List.length_take]; omega), List.length_take, List.getElem?_drop] at hx
          have : (G i)[k + 1]? = some x := by
            rw [← hx]
            congr 1
            omega
          rw [hout _ (by omega)]
          exact hc i hi (k + 1) x this
        · rw [List.getElem?_cons_succ, List.getElem?_take, if_neg hk] at hx
          cases hx
  · unfold upd at hx
    rw [if_neg his] at hx
    have hj : j < W := by have := (List.getElem?_eq_some_iff.1 hx).1; have := hlen i hi; omega
    rw [hout _ ?_]
    · exact hc i hi j x hx
    · by_cases h1 : i * W + j < s * W
      · exact .inl h1
      · by_cases h2 : s * W + a < i * W + j
        · exact .inr h2
        · exact absurd (row_apart (k := i * W + j - s * W) hj (by omega) (by omega)) his
theorem rows_upd (M S W s : Nat) (G : Nat → List Int) (g : List Int) (hs : s < S) : (rowsL M S W G).set s (rowV M W s g.length) = rowsL M S W (upd G s g) := by
  unfold rowsL
  apply List.ext_getElem?
  intro i
  by_cases hi : i < S
  · by_cases his : i = s
    · subst his
      rw [List.getElem?_set_self (by simpa using hi), List.getElem?_map, List.getElem?_range hi]
      simp [upd]
    · rw [List.getElem?_set_ne (fun h => his h.symm), List.getElem?_map, List.getElem?_map, List.getElem?_range hi]
      simp [upd, his]
  · rw [List.getElem?_eq_none (by simp; omega), List.getElem?_eq_none (by simp; omega)]
end Go.Proofs.Ytbjpnjgkpkfngaa
