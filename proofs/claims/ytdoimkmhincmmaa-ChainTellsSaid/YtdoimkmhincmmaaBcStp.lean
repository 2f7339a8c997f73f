/- One step of the way up to a window. -/
import Derived.Test.YtdoimkmhincmmaaBcRdm
import Derived.Deep.RegionHeld3
namespace Go.Proofs.Ytdoimkmhincmmaa
namespace Bch
open Go Go.RowKit
/-- What work is: a block of a delay, the loads, and how far it has come. -/
structure WorkAt (w : World) (p : Nat) (d : Nat) (A : Option Addr) (n cap : Nat) (l : List Ld) (r : Nat) : Prop where
  at_ : w.heap[p]? = some (.cells [U d, .slice A n cap, U r].toArray 999 (0, 0))
  row : LRow w A l
  ap : ∀ b off, 0 < l.length → A = some ⟨b, off, none⟩ → b ≠ p
theorem WorkAt.new {w w' : World} {p d n cap r : Nat} {A : Option Addr} {l : List Ld} (h : WorkAt w p d A n cap l r) (ho : Only (fun _ => False) w w') : WorkAt w' p d A n cap l r := ⟨ho.heap h.at_ (fun h => h), h.row.new ho, h.ap⟩
def StepEnd (p d : Nat) (A : Option Addr) (n cap : Nat) (l : List Ld) (y : Nat) (w : World) (e : Ending) (w' : World) : Prop :=
  e = .returned (U y) ∧ WorkAt w' p d A n cap l y ∧ Only (fun k => k = p) w w'
end Bch
end Go.Proofs.Ytdoimkmhincmmaa
