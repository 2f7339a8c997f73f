/- The reference's cache: accesses, twins. -/
import Derived.Test.YtdoimkmhincmmaaRca2
import Derived.Deep.RegionHeld3
import Derived.Deep.RegionLaw
namespace Go.Proofs.Ytdoimkmhincmmaa
namespace Rca
open Go Go.RowKit

def AccEnd (a S W : Nat) (U : List Nat) (b : Nat) (w : World) (e : Ending) (w' : World) : Prop :=
  e = .returned (.bool (Lru.hitB S W U.reverse b)) ∧ ∃ h', RC w' a S W h' (U ++ [b]) ∧ Only (fun k => k = a) w w' ∧ (∀ g, h' = some g → w.heap.size ≤ g)
theorem dat_append (A B : List Nat) : dat A ++ dat B = dat (A ++ B) := by simp [dat]

def TwinEnd (S W : Nat) (U : List Nat) (w : World) (e : Ending) (w' : World) : Prop :=
  ∃ x h', e = .returned (.pointer (some ⟨x, 0, none⟩)) ∧ RC w' x S W h' U ∧ Only (fun _ => False) w w' ∧ w.heap.size ≤ x ∧ (∀ g, h' = some g → w.heap.size ≤ g)
end Rca
end Go.Proofs.Ytdoimkmhincmmaa
