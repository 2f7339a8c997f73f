/- MonitorFlags over what came in. -/
import Derived.Test.YthippdgmbfaijaaOpen19
import Derived.Test.YthippdgmbfaijaaFlags19
namespace Go.Proofs.Ythippdgmbfaijaa
open Go Go.RowKit Go.ChangeShapes Go.WideShapes Go.Deep

theorem flags_law (c : ConfV) (A : Option Addr) (len cap : Nat) (l : List RecV) (t : Int) (W : World) (h1 : RecRow W A l ∧ l.length = len ∧ ∀ r ∈ l, fitR r) (_ : (Lit.int .i64 t).wf = true) (h0 : ∃ (dd : ConfL) (pl : Tks), ConfIn W c dd pl) :
    Calls Try.prog 3 #[c.val, .slice A len cap, .int .i64 t] W fun e w' => e = .returned (.bool true) ∧ Below W.heap.size W w' := by
  obtain ⟨dd, pl, hc⟩ := h0
  exact (flags19_any t hc.t hc.n h1.1 h1.2.1 h1.2.2).mono fun e w' ⟨he, ho⟩ => ⟨he, ho.below (Nat.le_refl _) (fun _ h => h.elim)⟩
end Go.Proofs.Ythippdgmbfaijaa
