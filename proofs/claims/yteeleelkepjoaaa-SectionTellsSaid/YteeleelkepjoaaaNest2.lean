/- Package prog's closures: what following an operation tells and leaves. -/
import Derived.Test.YteeleelkepjoaaaNest
namespace Go.Proofs.Yteeleelkepjoaaa
open Go Go.RowKit

theorem stepN_yes {s t : NS} {k a : Int} (h : moveN s k a = some t) (h1 : 0 ≤ t.r) (h2 : 0 ≤ t.p) : stepN s k a = some t := by
  unfold stepN
  rw [h]
  simp [fineB, h1, h2]
theorem stepN_no {s t : NS} {k a : Int} (h : moveN s k a = some t) (h1 : t.r < 0 ∨ t.p < 0) : stepN s k a = none := by
  unfold stepN
  rw [h]
  have : fineB t = false := by unfold fineB; exact decide_eq_false (by omega)
  simp [this]
theorem stepN_none {s : NS} {k a : Int} (h : moveN s k a = none) : stepN s k a = none := by
  unfold stepN
  rw [h]

end Go.Proofs.Yteeleelkepjoaaa
