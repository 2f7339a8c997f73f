/- The reference's cache: a set's row, ages. -/
import Derived.Test.YtdoimkmhincmmaaOrd
import Derived.Test.YtdoimkmhincmmaaLru
import Derived.Deep.CutRange
import Derived.Deep.LoopGhost
import Derived.Deep.QuietTactic
namespace Go.Proofs.Ytdoimkmhincmmaa
namespace Rca
open Go Go.RowKit

/-- A cache of the document: all that was used, in order. -/
structure RC (w : World) (a S W : Nat) (h : Option Nat) (U : List Nat) : Prop where
  box : ∃ p c, w.heap[a]? = some (.cells #[.int .i64 (S : Int), .int .i64 (W : Int), .slice p U.length c] 999 (0, 0)) ∧ Win w 3 1 (.slice p U.length c) h U.length (dat U)
theorem RC.kept {A : Nat → Prop} {w w' : World} {a S W : Nat} {h : Option Nat} {U : List Nat} (H : RC w a S W h U) (ho : Only A w w') (ha : ¬ A a) (hh : ∀ g, h = some g → ¬ A g) : RC w' a S W h U := by
  obtain ⟨p, c, h1, h2⟩ := H.box
  exact ⟨p, c, ho.heap h1 ha, h2.kept ho hh⟩
theorem RC.new {w w' : World} {a S W : Nat} {h : Option Nat} {U : List Nat} (H : RC w a S W h U) (ho : Only (fun _ => False) w w') : RC w' a S W h U := H.kept ho (fun h => h) (fun _ _ h => h)
theorem RC.ne {w : World} {a S W : Nat} {h : Option Nat} {U : List Nat} (H : RC w a S W h U) : ∀ g, h = some g → g ≠ a := by
  obtain ⟨p, c, h1, _, _, _, _, _, _, h3⟩ := H.box
  rintro g hg rfl
  rcases h3 with h3 | ⟨g', _, _, q1, _, q2, _⟩
  · rw [h3.1] at hg; cases hg
  · rw [hg] at q1
    cases q1
    rw [h1] at q2
    simp at q2
theorem RC.lt {w : World} {a S W : Nat} {h : Option Nat} {U : List Nat} (H : RC w a S W h U) : a < w.heap.size ∧ ∀ g, h = some g → g < w.heap.size := by
  obtain ⟨p, c, h1, h2⟩ := H.box
  exact ⟨row_lt h1, h2.lt⟩

/-- What a call answers that makes a row of numbers. -/
def RowEnd (w : World) (R : List Nat) (e : Ending) (w' : World) : Prop :=
  ∃ p c h, e = .returned (.slice p R.length c) ∧ Win w' 3 1 (.slice p R.length c) h R.length (dat R) ∧ (∀ b, h = some b → w.heap.size ≤ b) ∧ Only (fun _ => False) w w'
def rowL (S W s : Nat) (U : List Nat) : List Nat := Lru.go S W s U.reverse []
theorem rowL_eq (S W s : Nat) (U : List Nat) : rowL S W s U = (Lru.D S s U.reverse).take W := Lru.go_nil S W s _

theorem take_rev {U : List Nat} {k b : Nat} (h : U[k]? = some b) : (U.take (k + 1)).reverse = b :: (U.take k).reverse := by
  obtain ⟨hk, hb⟩ := List.getElem?_eq_some_iff.1 h
  rw [List.take_add_one, h]
  simp
theorem mem_take_one {out : List Nat} {j x b : Nat} (h : out[j]? = some x) : (b ∈ out.take (j + 1)) ↔ (b ∈ out.take j ∨ x = b) := by
  rw [List.take_add_one, h, List.mem_append]
  simp [eq_comm]

end Rca
end Go.Proofs.Ytdoimkmhincmmaa
