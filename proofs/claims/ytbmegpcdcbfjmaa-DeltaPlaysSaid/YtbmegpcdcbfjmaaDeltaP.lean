/- Delta's list as pairs of a key and a gap: what each call makes of it. Plain lists. -/
namespace Go.Proofs.Ytbmegpcdcbfjmaa.Delta

abbrev Gaps := List (Int × Int)
def total : Gaps → Int
  | [] => 0
  | x :: r => x.2 + total r
def gput : Gaps → Int → Int → Gaps
  | [], k, t => [(k, t)]
  | x :: r, k, t => if x.2 ≤ t then x :: gput r k (t - x.2) else (k, t) :: (x.1, x.2 - t) :: r
def addFirst (g : Int) : Gaps → Gaps
  | [] => []
  | x :: r => (x.1, x.2 + g) :: r
def gdrop : Gaps → Int → Gaps
  | [], _ => []
  | x :: r, k => if x.1 = k then addFirst x.2 r else x :: gdrop r k
def gleft : Gaps → Int → Gaps
  | [], _ => []
  | x :: r, t => if x.2 ≤ t then gleft r (t - x.2) else (x.1, x.2 - t) :: r
def gdue : Gaps → Int → List Int
  | [], _ => []
  | x :: r, t => if x.2 ≤ t then x.1 :: gdue r (t - x.2) else []
def dueIn : Gaps → Int → Int → Option Int
  | [], _, _ => none
  | x :: r, k, t => if x.1 = k then some (t + x.2) else dueIn r k (t + x.2)
/-- No gap is below 0, and all is due in time. -/
def Fine (m : Gaps) : Prop := (∀ x ∈ m, 0 ≤ x.2) ∧ total m ≤ 16777216

theorem total_append : ∀ (p q : Gaps), total (p ++ q) = total p + total q
  | [], q => by simp [total]
  | x :: p, q => by simp only [List.cons_append, total, total_append p q]; omega
theorem total_nonneg : ∀ (m : Gaps), (∀ x ∈ m, 0 ≤ x.2) → 0 ≤ total m
  | [], _ => by simp [total]
  | x :: r, h => by
    have h1 := h x (by simp)
    have h2 := total_nonneg r (fun y hy => h y (by simp [hy]))
    simp only [total]
    omega
theorem gput_append : ∀ (p q : Gaps) (k t : Int), (∀ a b : Gaps, p = a ++ b → total a ≤ t) → (∀ x ∈ p, 0 ≤ x.2) → gput (p ++ q) k t = p ++ gput q k (t - total p)
  | [], q, k, t, _, _ => by simp [total]
  | x :: p, q, k, t, h, h0 => by
    have hx : x.2 ≤ t := by have := h [x] p rfl; simpa [total] using this
    rw [List.cons_append, gput, if_pos hx, gput_append p q k (t - x.2) (fun a b e => by
      have := h (x :: a) b (by rw [e]; rfl)
      simp only [total] at this
      omega) (fun y hy => h0 y (by simp [hy]))]
    simp only [total, List.cons_append]
    rw [show t - x.2 - total p = t - (x.2 + total p) by omega]
theorem gdrop_append : ∀ (p q : Gaps) (k : Int), (∀ x ∈ p, x.1 ≠ k) → gdrop (p ++ q) k = p ++ gdrop q k
  | [], _, _, _ => rfl
  | x :: p, q, k, h => by
    rw [List.cons_append, gdrop, if_neg (h x (by simp)), gdrop_append p q k (fun y hy => h y (by simp [hy]))]
    rfl
theorem gdrop_none : ∀ (m : Gaps) (k : Int), (∀ x ∈ m, x.1 ≠ k) → gdrop m k = m
  | [], _, _ => rfl
  | x :: r, k, h => by rw [gdrop, if_neg (h x (by simp)), gdrop_none r k (fun y hy => h y (by simp [hy]))]
theorem dueIn_append : ∀ (p q : Gaps) (k t : Int), (∀ x ∈ p, x.1 ≠ k) → dueIn (p ++ q) k t = dueIn q k (t + total p)
  | [], _, _, _, _ => by simp [total]
  | x :: p, q, k, t, h => by
    rw [List.cons_append, dueIn, if_neg (h x (by simp)), dueIn_append p q k _ (fun y hy => h y (by simp [hy]))]
    simp only [total]
    rw [Int.add_assoc]
theorem gleft_append : ∀ (p q : Gaps) (t : Int), (∀ a b : Gaps, p = a ++ b → total a ≤ t) → gleft (p ++ q) t = gleft q (t - total p) ∧ gdue (p ++ q) t = p.map (·.1) ++ gdue q (t - total p)
  | [], q, t, _ => by simp [total]
  | x :: p, q, t, h => by
    have hx : x.2 ≤ t := by have := h [x] p rfl; simpa [total] using this
    have ih := gleft_append p q (t - x.2) (fun a b e => by
      have := h (x :: a) b (by rw [e]; rfl)
      simp only [total] at this
      omega)
    rw [List.cons_append, gleft, gdue, if_pos hx, if_pos hx, ih.1, ih.2]
    simp only [total, List.map_cons, List.cons_append]
    rw [show t - x.2 - total p = t - (x.2 + total p) by omega]
    exact ⟨rfl, rfl⟩
theorem Fine.tail {x : Int × Int} {r : Gaps} (h : Fine (x :: r)) : Fine r ∧ 0 ≤ x.2 ∧ x.2 ≤ 16777216 := by
  obtain ⟨h1, h2⟩ := h
  have hx := h1 x (by simp)
  have hr := total_nonneg r (fun y hy => h1 y (by simp [hy]))
  simp only [total] at h2
  exact ⟨⟨fun y hy => h1 y (by simp [hy]), by omega⟩, hx, by omega⟩
theorem Fine.split {p q : Gaps} (h : Fine (p ++ q)) : 0 ≤ total p ∧ 0 ≤ total q ∧ total p + total q ≤ 16777216 ∧ Fine q := by
  obtain ⟨h1, h2⟩ := h
  rw [total_append] at h2
  have hp := total_nonneg p (fun y hy => h1 y (by simp [hy]))
  have hq := total_nonneg q (fun y hy => h1 y (by simp [hy]))
  exact ⟨hp, hq, h2, fun y hy => h1 y (by simp [hy]), by omega⟩
theorem Fine.put : ∀ {m : Gaps} {k t : Int}, Fine m → 0 ≤ t → t ≤ 16777216 → (∀ x ∈ gput m k t, 0 ≤ x.2) ∧ (total (gput m k t) = total m ∨ total (gput m k t) = t)
  | [], k, t, _, h0, _ => by simp [gput, total, h0]
  | x :: r, k, t, h, h0, h1 => by
    obtain ⟨hr, hx0, hx1⟩ := h.tail
    rw [gput]
    split
    · obtain ⟨i1, i2⟩ := Fine.put (k := k) (t := t - x.2) hr (by omega) (by omega)
      refine ⟨fun y hy => ?_, ?_⟩
      · rcases List.mem_cons.1 hy with rfl | hy
        · exact hx0
        · exact i1 y hy
      · simp only [total]
        rcases i2 with i2 | i2 <;> rw [i2]
        · exact .inl rfl
        · right; omega
    · refine ⟨fun y hy => ?_, .inl ?_⟩
      · simp only [List.mem_cons] at hy
        rcases hy with rfl | rfl | hy
        · exact h0
        · show 0 ≤ x.2 - t; omega
        · exact h.1 y (by simp [hy])
      · simp only [total]; omega
theorem fine_put {m : Gaps} {k t : Int} (h : Fine m) (h0 : 0 ≤ t) (h1 : t ≤ 16777216) : Fine (gput m k t) := by
  obtain ⟨a, b⟩ := h.put (k := k) h0 h1
  refine ⟨a, ?_⟩
  rcases b with b | b <;> rw [b]
  · exact h.2
  · exact h1
theorem gput_length : ∀ (m : Gaps) (k t : Int), (gput m k t).length = m.length + 1
  | [], _, _ => rfl
  | x :: r, k, t => by
    rw [gput]
    split
    · rw [List.length_cons, gput_length r]; rfl
    · simp
theorem total_addFirst (g : Int) : ∀ (m : Gaps), 0 ≤ g → total (addFirst g m) ≤ g + total m
  | [], h => by simp [addFirst, total]; omega
  | x :: r, _ => by simp only [addFirst, total]; omega
theorem fine_drop : ∀ {m : Gaps} {k : Int}, Fine m → Fine (gdrop m k) ∧ total (gdrop m k) ≤ total m
  | [], _, h => ⟨h, Int.le_refl _⟩
  | x :: r, k, h => by
    obtain ⟨hr, hx0, hx1⟩ := h.tail
    have hxr := h.2
    simp only [total] at hxr
    rw [gdrop]
    split
    · have ht := total_addFirst x.2 r hx0
      refine ⟨⟨fun y hy => ?_, by omega⟩, by simp only [total]; omega⟩
      cases r with
      | nil => simp [addFirst] at hy
      | cons z r =>
        have hz := hr.1 z (by simp)
        simp only [addFirst, List.mem_cons] at hy
        rcases hy with rfl | hy
        · show 0 ≤ z.2 + x.2; omega
        · exact hr.1 y (by simp [hy])
    · obtain ⟨i1, i2⟩ := fine_drop (k := k) hr
      refine ⟨⟨fun y hy => ?_, by simp only [total]; omega⟩, by simp only [total]; omega⟩
      rcases List.mem_cons.1 hy with rfl | hy
      · exact hx0
      · exact i1.1 y hy
theorem gdrop_length_le : ∀ (m : Gaps) (k : Int), (gdrop m k).length ≤ m.length
  | [], _ => Nat.le_refl _
  | x :: r, k => by
    rw [gdrop]
    split
    · cases r <;> simp [addFirst]
    · simpa using gdrop_length_le r k
theorem fine_left : ∀ {m : Gaps} {t : Int}, Fine m → 0 ≤ t → Fine (gleft m t) ∧ total (gleft m t) ≤ total m
  | [], _, h, _ => ⟨h, Int.le_refl _⟩
  | x :: r, t, h, h0 => by
    obtain ⟨hr, hx0, hx1⟩ := h.tail
    have hxr := h.2
    simp only [total] at hxr
    rw [gleft]
    split
    · obtain ⟨i1, i2⟩ := fine_left (t := t - x.2) hr (by omega)
      exact ⟨i1, by simp only [total]; omega⟩
    · refine ⟨⟨fun y hy => ?_, by simp only [total]; omega⟩, by simp only [total]; omega⟩
      rcases List.mem_cons.1 hy with rfl | hy
      · show 0 ≤ x.2 - t; omega
      · exact hr.1 y hy
theorem gleft_length_le : ∀ (m : Gaps) (t : Int), (gleft m t).length ≤ m.length ∧ (gdue m t).length ≤ m.length
  | [], _ => ⟨Nat.le_refl _, Nat.le_refl _⟩
  | x :: r, t => by
    rw [gleft, gdue]
    split
    · obtain ⟨i1, i2⟩ := gleft_length_le r (t - x.2)
      exact ⟨by simp; omega, by simpa using i2⟩
    · simp
/-- Two parts are as both at once. -/
theorem gleft_parts : ∀ (m : Gaps) (a b : Int), 0 ≤ a → 0 ≤ b → gleft m (a + b) = gleft (gleft m a) b ∧ gdue m (a + b) = gdue m a ++ gdue (gleft m a) b
  | [], a, b, _, _ => ⟨rfl, rfl⟩
  | x :: r, a, b, ha, hb => by
    rw [gleft, gdue, gleft, gdue]
    by_cases h : x.2 ≤ a
    · rw [if_pos h, if_pos h, if_pos (by omega), if_pos (by omega), show a + b - x.2 = (a - x.2) + b by omega]
      by_cases h2 : 0 ≤ a - x.2
      · obtain ⟨i1, i2⟩ := gleft_parts r (a - x.2) b h2 hb
        exact ⟨i1, by rw [i2]; rfl⟩
      · omega
    · rw [if_neg h, if_neg h]
      simp only [gleft, gdue, List.nil_append]
      by_cases h2 : x.2 ≤ a + b
      · rw [if_pos h2, if_pos h2, if_pos (by omega), if_pos (by omega), show a + b - x.2 = b - (x.2 - a) by omega]
        exact ⟨rfl, rfl⟩
      · rw [if_neg h2, if_neg h2, if_neg (by omega), if_neg (by omega), show x.2 - (a + b) = x.2 - a - b by omega]
        exact ⟨rfl, rfl⟩
end Go.Proofs.Ytbmegpcdcbfjmaa.Delta
