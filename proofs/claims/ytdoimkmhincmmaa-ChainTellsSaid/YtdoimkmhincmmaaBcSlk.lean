/- Slack: the greatest delay, found by halves. -/
import Derived.Test.YtdoimkmhincmmaaBcWnd
import Derived.Laws.EntriesVeiled
namespace Go.Proofs.Ytdoimkmhincmmaa
namespace Bch
open Go Go.RowKit
/-- Whether a delay's window isn't above m. -/
def fitB (l : List Ld) (m d : Nat) : Bool := decide (0 < win (dem d l) m)
def AnsB (b : Bool) (w : World) (e : Ending) (w' : World) : Prop := e = .returned (.bool b) ∧ Only (fun _ => False) w w'
def SearchEnd (pp : Nat → Bool) (n : Nat) (w : World) (e : Ending) (w' : World) : Prop :=
  ∃ s : Nat, e = .returned (.int .i64 s) ∧ Only (fun _ => False) w w' ∧ s ≤ n ∧ (s = 0 ∨ pp (s - 1) = false) ∧ (s = n ∨ pp s = true)
def SlackEnd (l : List Ld) (m : Nat) (w : World) (e : Ending) (w' : World) : Prop :=
  ∃ (s : Nat) (b : Bool), e = .returned (.tuple #[U s, .bool b]) ∧ Only (fun _ => False) w w' ∧
    ((b = false ∧ s = 0 ∧ fitB l m 0 = false) ∨ (b = true ∧ s ≤ m ∧ fitB l m s = true ∧ (s = m ∨ fitB l m (s + 1) = false)))
end Bch
end Go.Proofs.Ytdoimkmhincmmaa
