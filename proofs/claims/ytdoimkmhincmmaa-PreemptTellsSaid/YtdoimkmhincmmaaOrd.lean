/- The reference's Order: tasks by their priorities, the highest first. -/
import Derived.Test.YtdoimkmhincmmaaPC
import Derived.Test.YtdoimkmhincmmaaWin
import Derived.BigRegion
import Derived.Deep.DrawnRows
import Derived.RegionCalls
import Derived.Deep.RegionLaw
namespace Go.Proofs.Ytdoimkmhincmmaa
open Go Go.RowKit

/-- The priority of a task. -/
def prio (ts : List TaskV) (k : Nat) : Int := (ts.map (·.p)).getD k 0
theorem prio_at {ts : List TaskV} {k : Nat} {t : TaskV} (h : ts[k]? = some t) : prio ts k = t.p := by
  unfold prio
  rw [List.getD_eq_getElem?_getD, List.getElem?_map, h]
  rfl
def ins (p : Nat → Int) (x : Nat) : List Nat → List Nat
  | [] => [x]
  | y :: l => if p x ≤ p y then y :: ins p x l else x :: y :: l
def orderUp (p : Nat → Int) : Nat → List Nat
  | 0 => []
  | n + 1 => ins p n (orderUp p n)
theorem ins_split {p : Nat → Int} {x : Nat} {B : List Nat} (hB : ∀ y ∈ B, p y < p x) : ∀ {A : List Nat}, (∀ y ∈ A, p x ≤ p y) → ins p x (A ++ B) = A ++ x :: B
  | [], _ => by
    cases B with
    | nil => rfl
    | cons y B =>
      have := hB y (by simp)
      show ins p x (y :: B) = x :: y :: B
      unfold ins
      rw [if_neg (by omega)]
  | a :: A, h => by
    show ins p x (a :: (A ++ B)) = a :: (A ++ x :: B)
    unfold ins
    rw [if_pos (h a (by simp)), ins_split hB (fun y hy => h y (by simp [hy]))]
theorem ins_mem {p : Nat → Int} {x y : Nat} : ∀ {l : List Nat}, y ∈ ins p x l ↔ y = x ∨ y ∈ l
  | [] => by simp [ins]
  | a :: l => by
    unfold ins
    by_cases h : p x ≤ p a
    · rw [if_pos h, List.mem_cons, ins_mem, List.mem_cons]
      constructor <;> (intro h; rcases h with h | h | h <;> simp [h])
    · rw [if_neg h, List.mem_cons]
theorem ins_length {p : Nat → Int} {x : Nat} : ∀ (l : List Nat), (ins p x l).length = l.length + 1
  | [] => rfl
  | a :: l => by
    unfold ins
    by_cases h : p x ≤ p a
    · rw [if_pos h]; simp [ins_length l]
    · rw [if_neg h]; rfl
theorem ins_sorted {p : Nat → Int} {x : Nat} : ∀ {l : List Nat}, l.Pairwise (fun a b => p b ≤ p a) → (ins p x l).Pairwise (fun a b => p b ≤ p a)
  | [], _ => by simp [ins]
  | a :: l, h => by
    rw [List.pairwise_cons] at h
    unfold ins
    by_cases hx : p x ≤ p a
    · rw [if_pos hx, List.pairwise_cons]
      refine ⟨fun y hy => ?_, ins_sorted h.2⟩
      rcases ins_mem.1 hy with rfl | hy
      · exact hx
      · exact h.1 y hy
    · rw [if_neg hx, List.pairwise_cons, List.pairwise_cons]
      refine ⟨fun y hy => ?_, h.1, h.2⟩
      rcases List.mem_cons.1 hy with rfl | hy
      · omega
      · have := h.1 y hy; omega
theorem order_length (p : Nat → Int) : ∀ n, (orderUp p n).length = n
  | 0 => rfl
  | n + 1 => by unfold orderUp; rw [ins_length, order_length p n]
theorem order_lt {p : Nat → Int} : ∀ {n y : Nat}, y ∈ orderUp p n → y < n
  | 0, y, h => by simp [orderUp] at h
  | n + 1, y, h => by
    unfold orderUp at h
    rcases ins_mem.1 h with rfl | h
    · omega
    · have := order_lt h; omega
theorem order_sorted (p : Nat → Int) : ∀ n, (orderUp p n).Pairwise (fun a b => p b ≤ p a)
  | 0 => List.Pairwise.nil
  | n + 1 => ins_sorted (order_sorted p n)

def dat (L : List Nat) : List Value := L.map (fun (k : Nat) => Value.int .i64 (k : Int))
theorem dat_set (L : List Nat) (i k : Nat) : (dat L).set i (.int .i64 (k : Int)) = dat (L.set i k) := by unfold dat; rw [List.map_set]
theorem dat_at {L : List Nat} {i k : Nat} (h : L[i]? = some k) : (dat L)[i]? = some (.int .i64 (k : Int)) := by unfold dat; rw [List.getElem?_map, h]; rfl
def RowAt (w : World) (g : Nat) (L : List Nat) : Prop := w.heap[g]? = some (.cells (dat L).toArray 3 (0, 0))
theorem RowAt.cell {w : World} {g : Nat} {L : List Nat} (h : RowAt w g L) {i k : Nat} (hk : L[i]? = some k) : w.cell? ⟨g, i, none⟩ = some (.int .i64 (k : Int)) := row_cell h (dat_at hk)
theorem RowAt.set {w : World} {g : Nat} {L : List Nat} (h : RowAt w g L) (i k : Nat) : RowAt (w.setCell ⟨g, i, none⟩ (.int .i64 (k : Int))) g (L.set i k) := by
  unfold RowAt
  rw [← dat_set]
  exact row_set h i _

def upto (p : Nat → Int) (x : Nat) : List Nat → Nat
  | [] => 0
  | y :: l => if p x ≤ p y then upto p x l + 1 else 0
theorem upto_le (p : Nat → Int) (x : Nat) : ∀ l, upto p x l ≤ l.length
  | [] => Nat.le_refl _
  | y :: l => by
    unfold upto
    have := upto_le p x l
    split <;> simp <;> omega
theorem ins_upto (p : Nat → Int) (x : Nat) : ∀ l, ins p x l = l.take (upto p x l) ++ x :: l.drop (upto p x l)
  | [] => rfl
  | y :: l => by
    unfold ins upto
    by_cases h : p x ≤ p y
    · rw [if_pos h, if_pos h, ins_upto p x l]; rfl
    · rw [if_neg h, if_neg h]; rfl
theorem upto_spec (p : Nat → Int) (x : Nat) : ∀ l, (∀ j, j < upto p x l → ∃ y, l[j]? = some y ∧ p x ≤ p y) ∧ (upto p x l < l.length → ∃ y, l[upto p x l]? = some y ∧ p y < p x)
  | [] => ⟨fun j hj => absurd hj (by simp [upto]), fun h => by simp at h⟩
  | y :: l => by
    obtain ⟨i1, i2⟩ := upto_spec p x l
    unfold upto
    by_cases h : p x ≤ p y
    · rw [if_pos h]
      refine ⟨fun j hj => ?_, fun hl => i2 (by simp at hl; omega)⟩
      cases j with
      | zero => exact ⟨y, rfl, h⟩
      | succ j => exact i1 j (by omega)
    · rw [if_neg h]
      exact ⟨fun j hj => absurd hj (by omega), fun _ => ⟨y, rfl, by omega⟩⟩
theorem ord_only {w w' : World} (h : Only (fun k => some k = none) w w') : Only (fun _ => False) w w' := h.mono (fun _ _ e => by cases e)
theorem dat_one (L : List Nat) : ∀ u ∈ dat L, u.oneCell' = true := by
  intro u hu
  unfold dat at hu
  obtain ⟨k, _, rfl⟩ := List.mem_map.1 hu
  rfl
theorem row_one {w : World} {X : Nat} {a : Value} {e : TypeId} (h : w.heap[X]? = some (.cells #[a] e (0, 0))) : ∀ j u, [a][j]? = some u → w.cell? ((⟨X, 0, none⟩ : Addr).add j) = some u := fun j u hu => by
  rw [Addr.add_lit, Nat.zero_add]
  exact row_cell (L := [a]) h hu
theorem info3 : (Try.prog.info? 3).map (fun i => (i.zero, i.size, i.bytes)) = some (some (Value.int .i64 0), 1, 8) := by kernel_rfl
theorem dat_length (L : List Nat) : (dat L).length = L.length := by simp [dat]

/-- What the reference's Order answers. -/
def ROrdEnd (w : World) (p : Nat → Int) (n : Nat) (e : Ending) (w' : World) : Prop :=
  ∃ A cap h, e = .returned (.slice A n cap) ∧ Win w' 3 1 (.slice A n cap) h n (dat (orderUp p n)) ∧ (∀ b, h = some b → w.heap.size ≤ b) ∧ Only (fun _ => False) w w'
end Go.Proofs.Ytdoimkmhincmmaa
