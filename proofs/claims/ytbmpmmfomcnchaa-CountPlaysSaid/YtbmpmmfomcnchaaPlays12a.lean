/- CountPlays: the counts and the row of plain numbers beside them. -/
import Derived.Test.YtbmpmmfomcnchaaBalance12
namespace Go.Proofs.Ytbmpmmfomcnchaa
open Go Go.RowKit

def nowCells (F : Nat → Nat) (n : Nat) : List Value := (List.range n).map fun i => .int .i64 (F i)
theorem nowCells_at (F : Nat → Nat) {n i : Nat} (h : i < n) : (nowCells F n)[i]? = some (.int .i64 (F i)) := by
  unfold nowCells
  rw [List.getElem?_map, List.getElem?_range h]
  rfl
theorem nowCells_set (F : Nat → Nat) (n i x : Nat) : (nowCells F n).set i (.int .i64 (x : Int)) = nowCells (upd F i x) n := by
  unfold nowCells
  apply List.ext_getElem?
  intro j
  rw [List.getElem?_set]
  by_cases h : j < n
  · rw [List.getElem?_map, List.getElem?_map, List.getElem?_range h]
    by_cases hij : i = j
    · subst hij
      rw [if_pos rfl, if_pos (by simpa using h)]
      simp [upd_self]
    · rw [if_neg hij]
      simp only [Option.map_some]
      rw [upd_ne _ _ (fun e => hij e.symm)]
  · rw [List.getElem?_eq_none (by simp; omega), List.getElem?_eq_none (by simp; omega)]
    split <;> simp_all
theorem nowCells_zero (n : Nat) : List.replicate n (Value.int .i64 0) = nowCells (fun _ => 0) n := by
  apply List.ext_getElem?
  intro j
  by_cases h : j < n
  · rw [nowCells_at _ h, List.getElem?_replicate, if_pos h]
    rfl
  · rw [List.getElem?_eq_none (by simp; omega), List.getElem?_eq_none (by unfold nowCells; simp; omega)]

def PRel (w : World) (B0 b g X n : Nat) (m F : Nat → Nat) (wr : World) : Prop :=
  CountsAt wr b g n F m ∧ wr.heap[X]? = some (.cells (nowCells F n).toArray 3 (0, 0)) ∧ X ≠ b ∧ X ≠ g ∧ B0 ≤ b ∧ B0 ≤ g ∧ B0 ≤ X ∧ Only (fun x => B0 ≤ x) w wr

section
variable {w ws : World} {B0 b g X n : Nat} {m F : Nat → Nat}
theorem PRel.only (h : PRel w B0 b g X n m F ws) : Only (fun x => B0 ≤ x) w ws := h.2.2.2.2.2.2.2
theorem PRel.cells (h : PRel w B0 b g X n m F ws) {j : Nat} (hj : j < n) : ws.cell? ⟨X, j, none⟩ = some (.int .i64 (F j)) ∧ ws.frozen? ⟨X, j, none⟩ = false :=
  ⟨row_cell h.2.1 (nowCells_at F hj), row_free h.2.1 _⟩
theorem PRel.drewN (h : PRel w B0 b g X n m F ws) (k : Nat) : PRel w B0 b g X n m F (ws.drewN k) := by
  obtain ⟨h1, h2, h3, h4, h5, h6, h7, h8⟩ := h
  exact ⟨h1.drewN k, h2, h3, h4, h5, h6, h7, h8.drewN k⟩
theorem PRel.value (h : PRel w B0 b g X n m F ws) {j : Nat} (hj : j < n) : Calls Try.prog 18 #[.pointer (some ⟨b, 0, none⟩), .int .i64 j] ws fun e w' => e = .returned (.tuple #[.int .i64 (F j), .int .i64 0]) ∧ ws = w' := value_yes h.1 hj
theorem PRel.next {x : Nat} {w3 : World} (h : PRel w B0 b g X n m F ws) {j : Nat} (hj : j < n) (h3 : CountsAt w3 b g n (upd F j x) m) (ho : Only (fun k => k = g) ws w3) :
    w3.cell? ⟨X, j, none⟩ = some (.int .i64 (F j)) ∧ w3.frozen? ⟨X, j, none⟩ = false ∧ Only (fun x => B0 ≤ x) w w3 ∧ PRel w B0 b g X n m (upd F j x) (w3.setCell ⟨X, j, none⟩ (.int .i64 x)) := by
  obtain ⟨_, k2, k3, k4, k5, k6, k7, k8⟩ := h
  have hX := ho.heap k2 k4
  have hO : Only (fun x => B0 ≤ x) w w3 := k8.trans ho (fun y _ e => by subst e; exact k6)
  refine ⟨row_cell hX (nowCells_at F hj), row_free hX _, hO, h3.kept ((Only.refl (fun k => k = X) w3).setCell (p := ⟨X, j, none⟩) (fun _ => rfl) _) (fun e => k3 e.symm) (fun e => k4 e.symm), ?_, k3, k4, k5, k6, k7, hO.setCell (p := ⟨X, j, none⟩) (fun _ => k7) _⟩
  rw [← nowCells_set]
  exact row_set hX _ _
def Step (w : World) (B0 b g X n : Nat) (m F : Nat → Nat) (j x : Nat) (e : Ending) (w3 : World) : Prop :=
  e = .returned (.tuple #[.int .i64 x, .int .i64 0]) ∧ w3.cell? ⟨X, j, none⟩ = some (.int .i64 (F j)) ∧ w3.frozen? ⟨X, j, none⟩ = false ∧ Only (fun x => B0 ≤ x) w w3 ∧ PRel w B0 b g X n m (upd F j x) (w3.setCell ⟨X, j, none⟩ (.int .i64 x))
theorem PRel.take (h : PRel w B0 b g X n m F ws) {j x : Nat} (hj : j < n) (hx : F j = x + 1) : Calls Try.prog 16 #[.pointer (some ⟨b, 0, none⟩), .int .i64 j] ws (Step w B0 b g X n m F j x) :=
  (take_some h.1 hj hx).mono fun _ _ ⟨e1, e2, e3⟩ => ⟨e1, h.next hj e2 e3⟩
theorem PRel.give (h : PRel w B0 b g X n m F ws) {j : Nat} (hj : j < n) (hx : F j < m j) : Calls Try.prog 17 #[.pointer (some ⟨b, 0, none⟩), .int .i64 j] ws (Step w B0 b g X n m F j (F j + 1)) :=
  (give_some h.1 hj hx).mono fun _ _ ⟨e1, e2, e3⟩ => ⟨e1, h.next hj e2 e3⟩
theorem PRel.take0 (h : PRel w B0 b g X n m F ws) {j : Nat} (hj : j < n) (hx : F j = 0) : Calls Try.prog 16 #[.pointer (some ⟨b, 0, none⟩), .int .i64 j] ws fun e w' => e = .returned (.tuple #[.int .i64 0, .int .i64 8]) ∧ ws = w' :=
  take_none h.1 hj hx
theorem PRel.full (h : PRel w B0 b g X n m F ws) {j : Nat} (hj : j < n) (hx : F j = m j) : Calls Try.prog 17 #[.pointer (some ⟨b, 0, none⟩), .int .i64 j] ws fun e w' => e = .returned (.tuple #[.int .i64 (F j), .int .i64 7]) ∧ PRel w B0 b g X n m F w' :=
  (give_full h.1 hj hx).mono fun _ _ ⟨e1, k, e2⟩ => ⟨e1, e2 ▸ h.drewN k⟩
/-- What one taking or giving has come to. -/
def Went (w : World) (B0 b g X n : Nat) (m F : Nat → Nat) (T : Bool) (j x : Nat) (c : Int) (wc : World) : Prop :=
  (T = true ∧ F j = 0 ∧ x = 0 ∧ c = 8 ∧ PRel w B0 b g X n m F wc) ∨
  (T = true ∧ F j = x + 1 ∧ c = 0 ∧ wc.cell? ⟨X, j, none⟩ = some (.int .i64 (F j)) ∧ wc.frozen? ⟨X, j, none⟩ = false ∧ Only (fun x => B0 ≤ x) w wc ∧ PRel w B0 b g X n m (upd F j x) (wc.setCell ⟨X, j, none⟩ (.int .i64 x))) ∨
  (T = false ∧ F j = m j ∧ x = F j ∧ c = 7 ∧ PRel w B0 b g X n m F wc) ∨
  (T = false ∧ F j < m j ∧ x = F j + 1 ∧ c = 0 ∧ wc.cell? ⟨X, j, none⟩ = some (.int .i64 (F j)) ∧ wc.frozen? ⟨X, j, none⟩ = false ∧ Only (fun x => B0 ≤ x) w wc ∧ PRel w B0 b g X n m (upd F j x) (wc.setCell ⟨X, j, none⟩ (.int .i64 x)))
theorem Went.only {T : Bool} {j x : Nat} {c : Int} (h : Went w B0 b g X n m F T j x c ws) : Only (fun x => B0 ≤ x) w ws := by
  rcases h with h | h | h | h
  · exact h.2.2.2.2.only
  · exact h.2.2.2.2.2.1
  · exact h.2.2.2.2.only
  · exact h.2.2.2.2.2.2.1
def WentEnd (w : World) (B0 b g X n : Nat) (m F : Nat → Nat) (T : Bool) (j : Nat) (e : Ending) (wc : World) : Prop :=
  ∃ (x : Nat) (c : Int), e = .returned (.tuple #[.int .i64 x, .int .i64 c]) ∧ Went w B0 b g X n m F T j x c wc
theorem PRel.taken (h : PRel w B0 b g X n m F ws) {j : Nat} (hj : j < n) : Calls Try.prog 16 #[.pointer (some ⟨b, 0, none⟩), .int .i64 j] ws (WentEnd w B0 b g X n m F true j) := by
  by_cases h0 : F j = 0
  · exact (h.take0 hj h0).mono fun e w' ⟨e1, e2⟩ => ⟨0, 8, e1, .inl ⟨rfl, h0, rfl, rfl, e2 ▸ h⟩⟩
  · obtain ⟨x, hx⟩ : ∃ x, F j = x + 1 := ⟨F j - 1, by omega⟩
    exact (h.take hj hx).mono fun e w' ⟨e1, e2⟩ => ⟨x, 0, e1, .inr (.inl ⟨rfl, hx, rfl, e2⟩)⟩
theorem PRel.given (h : PRel w B0 b g X n m F ws) {j : Nat} (hj : j < n) : Calls Try.prog 17 #[.pointer (some ⟨b, 0, none⟩), .int .i64 j] ws (WentEnd w B0 b g X n m F false j) := by
  have hle := (h.1.ok j hj).1
  by_cases h0 : F j = m j
  · exact (h.full hj h0).mono fun e w' ⟨e1, e2⟩ => ⟨F j, 7, e1, .inr (.inr (.inl ⟨rfl, h0, rfl, rfl, e2⟩))⟩
  · have hlt : F j < m j := by omega
    exact (h.give hj hlt).mono fun e w' ⟨e1, e2⟩ => ⟨F j + 1, 0, e1, .inr (.inr (.inr ⟨rfl, hlt, rfl, rfl, e2⟩))⟩
end
end Go.Proofs.Ytbmpmmfomcnchaa
