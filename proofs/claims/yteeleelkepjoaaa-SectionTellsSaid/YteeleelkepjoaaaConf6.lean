/- Locks below a priority. -/
import Derived.Test.YteeleelkepjoaaaConf5
import Derived.Test.YteeleelkepjoaaaCheck
namespace Go.Proofs.Yteeleelkepjoaaa
open Go Go.RowKit

/-- Whether an operation locks a ceiling below a priority. -/
def lowB (ce : List Int) (p : Int) (o : Opn) : Bool := decide (o.k = 5) && decide (ce.getD o.a.toNat 0 < p)

theorem lowB_five {ce : List Int} {p b z : Int} {a : Nat} (h : ce.getD a 0 = z) : lowB ce p ⟨5, a, b⟩ = decide (z < p) := by
  subst h
  unfold lowB
  simp
theorem lowB_not {ce : List Int} {p k a b : Int} (h : ¬ k = 5) : lowB ce p ⟨k, a, b⟩ = false := by
  unfold lowB
  simp [h]
end Go.Proofs.Yteeleelkepjoaaa
