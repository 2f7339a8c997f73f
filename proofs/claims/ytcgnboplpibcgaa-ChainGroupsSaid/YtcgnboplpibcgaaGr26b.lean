/- ChainGroups' argument. -/
import Derived.Test.YtcgnboplpibcgaaGr26
import Derived.Test.YtcgnboplpibcgaaOpn26
namespace Go.Proofs.Ytcgnboplpibcgaa
open Go Go.RowKit
theorem groups_law (c : ConfV) (W : World) (hC : ConfThIn W c) :
    Calls Try.prog 8 #[c.val] W fun e w' => e = .returned (.bool true) ∧ Below W.heap.size W w' := by
  obtain ⟨ts, h1, h2, _⟩ := hC
  exact (chainGroups_any h1 h2).mono fun e w' ⟨he, hO⟩ => ⟨he, hO.below (Nat.le_refl _) (fun _ h => h.elim)⟩
end Go.Proofs.Ytcgnboplpibcgaa
