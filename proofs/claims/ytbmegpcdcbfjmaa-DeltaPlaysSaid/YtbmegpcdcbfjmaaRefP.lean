/- The plain rows of layer 4, as lists: what the document's own calls make of them, and that it is what the gaps tell. -/
import Derived.Test.YtbmegpcdcbfjmaaDeltaP
namespace Go.Proofs.Ytbmegpcdcbfjmaa.Delta

/-- Keys, and when each is due. -/
def rows : Int → Gaps → Gaps
  | _, [] => []
  | t, x :: r => (x.1, t + x.2) :: rows (t + x.2) r
def upTo : Gaps → Int → Nat
  | [], _ => 0
  | x :: r, a => if x.2 ≤ a then upTo r a + 1 else 0
def rput (m : Gaps) (k a : Int) : Gaps := m.take (upTo m a) ++ (k, a) :: m.drop (upTo m a)
def rleft (m : Gaps) (t : Int) : Gaps := (m.filter fun x => decide (t < x.2)).map fun x => (x.1, x.2 - t)
def rdue (m : Gaps) (t : Int) : List Int := (m.filter fun x => decide (x.2 ≤ t)).map (·.1)
/-- Each one's gap behind the one ahead. -/
def gapsOf : Int → Gaps → List Int
  | _, [] => []
  | was, x :: r => (x.2 - was) :: gapsOf x.2 r

theorem rows_append : ∀ (p q : Gaps) (t : Int), rows t (p ++ q) = rows t p ++ rows (t + total p) q
  | [], q, t => by simp [rows, total]
  | x :: p, q, t => by
    simp only [List.cons_append, rows, rows_append p q, total]
    rw [Int.add_assoc]
theorem rows_length : ∀ (m : Gaps) (t : Int), (rows t m).length = m.length
  | [], _ => rfl
  | x :: r, t => by simp [rows, rows_length r]
theorem rows_keys : ∀ (m : Gaps) (t : Int), (rows t m).map (·.1) = m.map (·.1)
  | [], _ => rfl
  | x :: r, t => by simp [rows, rows_keys r]
theorem gapsOf_rows : ∀ (m : Gaps) (t : Int), gapsOf t (rows t m) = m.map (·.2)
  | [], _ => rfl
  | x :: r, t => by
    simp only [rows, gapsOf, gapsOf_rows r, List.map_cons]
    rw [show t + x.2 - t = x.2 by omega]
theorem upTo_le : ∀ (m : Gaps) (a : Int), upTo m a ≤ m.length
  | [], _ => Nat.le_refl _
  | x :: r, a => by
    rw [upTo]
    split
    · simpa using upTo_le r a
    · simp
theorem rows_put : ∀ (m : Gaps) (k s t : Int), rows s (gput m k t) = rput (rows s m) k (s + t)
  | [], k, s, t => by simp [gput, rows, rput, upTo]
  | x :: r, k, s, t => by
    have ih := rows_put r k (s + x.2) (t - x.2)
    rw [gput]
    by_cases h : x.2 ≤ t
    · rw [if_pos h, rows, ih]
      simp only [rput, rows, upTo]
      rw [if_pos (by show s + x.2 ≤ s + t; omega), show s + x.2 + (t - x.2) = s + t by omega]
      simp
    · rw [if_neg h]
      simp only [rput, rows, upTo]
      rw [if_neg (by show ¬ s + x.2 ≤ s + t; omega), show s + t + (x.2 - t) = s + x.2 by omega]
      simp
theorem rows_drop {p q : Gaps} {x : Int × Int} {k : Int} (hp : ∀ y ∈ p, y.1 ≠ k) (hx : x.1 = k) (s : Int) :
    rows s (gdrop (p ++ x :: q) k) = (rows s (p ++ x :: q)).take p.length ++ (rows s (p ++ x :: q)).drop (p.length + 1) := by
  rw [gdrop_append p _ k hp, gdrop, if_pos hx, rows_append, rows_append, rows]
  have hl := rows_length p s
  rw [List.take_append_of_le_length (by omega), List.take_of_length_le (by omega), List.drop_append, hl, List.drop_eq_nil_of_le (by omega), List.nil_append, show p.length + 1 - p.length = 1 by omega, List.drop_succ_cons, List.drop_zero]
  congr 1
  cases q with
  | nil => rfl
  | cons z q =>
    simp only [addFirst, rows]
    rw [show s + total p + (z.2 + x.2) = s + total p + x.2 + z.2 by omega]
theorem rows_above : ∀ (m : Gaps) (s : Int), (∀ x ∈ m, 0 ≤ x.2) → ∀ y ∈ rows s m, s ≤ y.2
  | [], _, _, y, hy => by simp [rows] at hy
  | x :: r, s, h, y, hy => by
    have hx := h x (by simp)
    simp only [rows, List.mem_cons] at hy
    rcases hy with rfl | hy
    · show s ≤ s + x.2; omega
    · have := rows_above r (s + x.2) (fun z hz => h z (by simp [hz])) y hy
      omega
theorem rows_shift : ∀ (m : Gaps) (s u : Int), rows u m = (rows s m).map fun x => (x.1, x.2 - s + u)
  | [], _, _ => rfl
  | x :: r, s, u => by
    have ih := rows_shift r (s + x.2) (u + x.2)
    simp only [rows, List.map_cons, ih]
    congr 1
    · simp; omega
    · congr 1
      funext y
      simp
      omega
theorem rows_adv : ∀ (m : Gaps) (s t : Int), (∀ x ∈ m, 0 ≤ x.2) → rows s (gleft m t) = (rleft (rows s m) (s + t)).map (fun x => (x.1, x.2 + s)) ∧ gdue m t = rdue (rows s m) (s + t)
  | [], _, _, _ => ⟨rfl, rfl⟩
  | x :: r, s, t, h => by
    have hr : ∀ z ∈ r, 0 ≤ z.2 := fun z hz => h z (by simp [hz])
    rw [gleft, gdue]
    by_cases hx : x.2 ≤ t
    · obtain ⟨i1, i2⟩ := rows_adv r (s + x.2) (t - x.2) hr
      rw [if_pos hx, if_pos hx, i2]
      have e : s + x.2 + (t - x.2) = s + t := by omega
      rw [e] at i1 ⊢
      have n1 : ¬ (decide (s + t < s + x.2) = true) := by simp; omega
      have p1 : decide (s + x.2 ≤ s + t) = true := by simp; omega
      constructor
      · rw [rows_shift (gleft r (t - x.2)) (s + x.2) s, i1]
        simp only [rows, rleft]
        rw [List.filter_cons_of_neg (by exact n1), List.map_map, List.map_map, List.map_map]
        congr 1
        funext y
        simp
      · simp only [rows, rdue]
        rw [List.filter_cons_of_pos (by exact p1)]
        rfl
    · rw [if_neg hx, if_neg hx]
      have hab := rows_above r (s + x.2) hr
      have p1 : decide (s + t < s + x.2) = true := by simp; omega
      have n1 : ¬ (decide (s + x.2 ≤ s + t) = true) := by simp; omega
      constructor
      · have hall : (rows (s + x.2) r).filter (fun y => decide (s + t < y.2)) = rows (s + x.2) r := by
          rw [List.filter_eq_self]
          intro y hy
          have := hab y hy
          simp
          omega
        simp only [rows, rleft]
        rw [List.filter_cons_of_pos (by exact p1), hall, List.map_cons, List.map_cons, rows_shift r (s + x.2) (s + (x.2 - t)), List.map_map]
        congr 1
        · simp; omega
        · congr 1
          funext y
          simp
          omega
      · have hall : (rows (s + x.2) r).filter (fun y => decide (y.2 ≤ s + t)) = [] := by
          rw [List.filter_eq_nil_iff]
          intro y hy
          have := hab y hy
          simp
          omega
        simp only [rows, rdue]
        rw [List.filter_cons_of_neg (by exact n1), hall]
        rfl
theorem rows_adv0 (m : Gaps) (t : Int) (h : ∀ x ∈ m, 0 ≤ x.2) : rows 0 (gleft m t) = rleft (rows 0 m) t ∧ gdue m t = rdue (rows 0 m) t := by
  obtain ⟨a, b⟩ := rows_adv m 0 t h
  rw [Int.zero_add] at a b
  refine ⟨?_, b⟩
  rw [a]
  simp
theorem rows_due {p q : Gaps} {x : Int × Int} {k : Int} (hp : ∀ y ∈ p, y.1 ≠ k) (hx : x.1 = k) : (dueIn (p ++ x :: q) k 0).getD 0 = total p + x.2 ∧ (rows 0 (p ++ x :: q))[p.length]? = some (x.1, total p + x.2) := by
  rw [dueIn_append p _ k 0 hp, dueIn, if_pos hx, rows_append, rows]
  have hl := rows_length p 0
  rw [List.getElem?_append_right (by omega), hl]
  simp
theorem rows_bound : ∀ (m : Gaps) (s : Int), (∀ x ∈ m, 0 ≤ x.2) → ∀ y ∈ rows s m, s ≤ y.2 ∧ y.2 ≤ s + total m
  | [], _, _, y, hy => by simp [rows] at hy
  | x :: r, s, h, y, hy => by
    have hx := h x (by simp)
    have hr : ∀ z ∈ r, 0 ≤ z.2 := fun z hz => h z (by simp [hz])
    have ht := total_nonneg r hr
    simp only [rows, List.mem_cons] at hy
    simp only [total]
    rcases hy with rfl | hy
    · show s ≤ s + x.2 ∧ s + x.2 ≤ _; omega
    · have := rows_bound r (s + x.2) hr y hy
      omega
end Go.Proofs.Ytbmegpcdcbfjmaa.Delta
