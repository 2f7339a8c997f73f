/- section.Levels. -/
import Derived.Test.YtdoimkmhincmmaaSdo
import Derived.Test.YtdoimkmhincmmaaOrd
import Derived.Test.YtdoimkmhincmmaaFin
import Derived.Deep.CutRange
namespace Go.Proofs.Ytdoimkmhincmmaa
namespace Sct
open Go Go.RowKit Lin Lck

/-- The level ahead of operation k. -/
def levK (th : Int) (z : Nat → Int) (n : Nat) (l : List Opn) (k : Nat) : Int := levS th z n (stS (l.take k))
theorem stS_succ {l : List Opn} {k : Nat} {o : Opn} (h : l[k]? = some o) : stS (l.take (k + 1)) = doS (stS (l.take k)) o := by
  unfold stS
  rw [List.take_add_one, h]
  simp [List.foldl_append]
theorem reg_le : ∀ (l : List Opn) (s : St), (l.foldl doS s).reg ≤ s.reg + l.length
  | [], _ => Nat.le_refl _
  | o :: l, s => by
    have h := reg_le l (doS s o)
    have : (doS s o).reg ≤ s.reg + 1 := by
      unfold doS
      split
      · simp
      · split
        · simp; omega
        · split
          · simp
          · split <;> simp
    simp only [List.foldl_cons, List.length_cons]
    omega
theorem reg_take (l : List Opn) (k : Nat) : (stS (l.take k)).reg ≤ k := by
  have := reg_le (l.take k) st0
  have h := List.length_take_le k l
  simp [st0] at this
  unfold stS
  exact Nat.le_trans this (by simp at *; omega)
/-- The pairs, the first k of m laid. -/
def pairs (th : Int) (z : Nat → Int) (n : Nat) (l : List Opn) (m k : Nat) : List Value := (List.range m).flatMap (fun i => if i < k then [.int .i64 (levK th z n l i), .int .i64 (levK th z n l (i + 1))] else [.int .i64 0, .int .i64 0])
theorem flat_two {f : Nat → List Value} (hf : ∀ i, (f i).length = 2) : ∀ (m : Nat), ((List.range m).flatMap f).length = 2 * m
  | 0 => rfl
  | m + 1 => by rw [List.range_succ, List.flatMap_append, List.length_append, flat_two hf m]; simp [hf]; omega
theorem flat_at {f : Nat → List Value} (hf : ∀ i, (f i).length = 2) {i j m : Nat} (hi : i < m) (hj : j < 2) : ((List.range m).flatMap f)[i * 2 + j]? = (f i)[j]? := by
  induction m with
  | zero => omega
  | succ m ih =>
    rw [List.range_succ, List.flatMap_append]
    by_cases h : i < m
    · rw [List.getElem?_append_left (by rw [flat_two hf]; omega), ih h]
    · obtain rfl : i = m := by omega
      rw [List.getElem?_append_right (by rw [flat_two hf]; omega), flat_two hf, show i * 2 + j - 2 * i = j by omega]
      simp
theorem pairs_len (th : Int) (z : Nat → Int) (n : Nat) (l : List Opn) (m k : Nat) : (pairs th z n l m k).length = 2 * m := flat_two (fun i => by split <;> rfl) m
theorem pairs_at {th : Int} {z : Nat → Int} {n : Nat} {l : List Opn} {m i : Nat} (hi : i < m) : (pairs th z n l m m)[i * 2]? = some (.int .i64 (levK th z n l i)) ∧ (pairs th z n l m m)[i * 2 + 1]? = some (.int .i64 (levK th z n l (i + 1))) := by
  have h0 := flat_at (f := fun i => if i < m then [Value.int .i64 (levK th z n l i), .int .i64 (levK th z n l (i + 1))] else [.int .i64 0, .int .i64 0]) (fun i => by split <;> rfl) hi (show 0 < 2 by omega)
  have h1 := flat_at (f := fun i => if i < m then [Value.int .i64 (levK th z n l i), .int .i64 (levK th z n l (i + 1))] else [.int .i64 0, .int .i64 0]) (fun i => by split <;> rfl) hi (show 1 < 2 by omega)
  simp only [if_pos hi] at h0 h1
  exact ⟨h0, h1⟩
theorem pairs_set {th : Int} {z : Nat → Int} {n : Nat} {l : List Opn} {m k : Nat} (hk : k < m) : ((pairs th z n l m k).set (k * 2) (.int .i64 (levK th z n l k))).set (k * 2 + 1) (.int .i64 (levK th z n l (k + 1))) = pairs th z n l m (k + 1) := by
  have hf : ∀ q i, ((if i < q then [Value.int .i64 (levK th z n l i), .int .i64 (levK th z n l (i + 1))] else [.int .i64 0, .int .i64 0]) : List Value).length = 2 := fun q i => by split <;> rfl
  apply List.ext_getElem?
  intro x
  by_cases hx : x < 2 * m
  · obtain ⟨i, j, hj, rfl⟩ : ∃ i j, j < 2 ∧ x = i * 2 + j := ⟨x / 2, x % 2, Nat.mod_lt _ (by omega), by omega⟩
    have hi : i < m := by omega
    unfold pairs
    rw [List.getElem?_set, List.getElem?_set, flat_at (hf (k + 1)) hi hj, flat_at (hf k) hi hj]
    simp only [List.length_set, flat_two (hf k)]
    by_cases e : i = k
    · subst e
      have : j = 0 ∨ j = 1 := by omega
      rcases this with rfl | rfl
      · rw [if_neg (by omega), if_pos (by omega), if_pos (by omega), if_pos (by omega)]; rfl
      · rw [if_pos (by omega), if_pos (by omega), if_pos (by omega)]; rfl
    · rw [if_neg (by omega), if_neg (by omega)]
      have : (i < k) = (i < k + 1) := by apply propext; omega
      simp only [this]
  · rw [List.getElem?_eq_none (by simp [pairs_len]; omega), List.getElem?_eq_none (by rw [pairs_len]; omega)]
theorem pairs_zero (th : Int) (z : Nat → Int) (n : Nat) (l : List Opn) (m : Nat) : pairs th z n l m 0 = List.replicate (m * 2) (.int .i64 0) := by
  have hf : ∀ i : Nat, ((if i < 0 then [Value.int .i64 (levK th z n l i), .int .i64 (levK th z n l (i + 1))] else [.int .i64 0, .int .i64 0]) : List Value).length = 2 := fun i => by split <;> rfl
  apply List.ext_getElem?
  intro x
  by_cases hx : x < 2 * m
  · obtain ⟨i, j, hj, rfl⟩ : ∃ i j, j < 2 ∧ x = i * 2 + j := ⟨x / 2, x % 2, Nat.mod_lt _ (by omega), by omega⟩
    have hi : i < m := by omega
    unfold pairs
    have h8 : i * 2 + j < m * 2 := by omega
    rw [List.getElem?_replicate, if_pos h8]
    have h9 := flat_at hf hi hj
    rw [h9, if_neg (Nat.not_lt_zero _)]
    have : j = 0 ∨ j = 1 := by omega
    rcases this with rfl | rfl <;> rfl
  · rw [List.getElem?_eq_none (by rw [pairs_len]; omega), List.getElem?_eq_none (by simp; omega)]
end Sct
end Go.Proofs.Ytdoimkmhincmmaa
