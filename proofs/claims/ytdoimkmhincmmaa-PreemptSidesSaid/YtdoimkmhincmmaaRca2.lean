/- The reference's cache: ages, accesses, twins. -/
import Derived.Test.YtdoimkmhincmmaaRca
import Derived.Test.YtdoimkmhincmmaaTail
namespace Go.Proofs.Ytdoimkmhincmmaa
namespace Rca
open Go Go.RowKit

/-- Where a number stands first in a row; -1: nowhere. -/
def ageZ (R : List Nat) (b : Nat) : Int := if b ∈ R then (R.idxOf b : Int) else -1
/-- An answer, new blocks at most. -/
def AnsI (z : Int) (w : World) (e : Ending) (w' : World) : Prop := e = .returned (.int .i64 z) ∧ Only (fun _ => False) w w'

theorem age_hit {S W b : Nat} {U : List Nat} : (decide (ageZ (rowL S W (b % S) U) b ≥ 0)) = Lru.hitB S W U.reverse b := by
  unfold ageZ Lru.hitB
  rw [rowL_eq]
  by_cases h : b ∈ (Lru.D S (b % S) U.reverse).take W
  · rw [if_pos h]; simp [h]
  · rw [if_neg h]; simp [h]
end Rca
end Go.Proofs.Ytdoimkmhincmmaa
