/- A row of operations, cut. -/
import Derived.Test.YtlbinlhaejhobaaGreatDoorRlv
namespace Go.Proofs.YtlbinlhaejhobaaGreatDoor
namespace Sct
open Go Go.RowKit Lin Lck Cst

theorem opnrow_take {w : World} {A : Option Addr} {l : List Opn} (h : OpnRow w A l) (k : Nat) : OpnRow w A (l.take k) := fun i x hx => by
  rw [List.getElem?_take] at hx
  split at hx
  · exact h i x hx
  · cases hx
end Sct
end Go.Proofs.YtlbinlhaejhobaaGreatDoor
