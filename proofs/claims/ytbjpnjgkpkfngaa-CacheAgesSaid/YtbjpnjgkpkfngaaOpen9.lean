/- CacheAges' law, its arguments opened. -/
import Derived.Test.YtbjpnjgkpkfngaaOpen8
import Derived.Test.YtbjpnjgkpkfngaaAges
namespace Go.Proofs.Ytbjpnjgkpkfngaa
open Go Go.RowKit

theorem ages_law (a0 a1 : Int) (A : Option Addr) (n c1 : Nat) (f : Nat → Int) (a3 : Int) (B : Option Addr) (m c2 : Nat) (g : Nat → Int) (W : World) (w0 : (Lit.int .u8 a0).wf = true) (w1 : (Lit.int .u8 a1).wf = true) (h2 : IntRow .u8 W A n f) (w3 : (Lit.int .u8 a3).wf = true) (h4 : IntRow .u8 W B m g) :
    Calls Try.prog 3 #[.int .u8 a0, .int .u8 a1, .slice A n c1, .int .u8 a3, .slice B m c2] W fun e w' => e = .returned (.bool true) ∧ Below W.heap.size W w' := by
  obtain ⟨b0, rfl, hb0⟩ := byte_of w0
  obtain ⟨b1, rfl, hb1⟩ := byte_of w1
  obtain ⟨b3, rfl, hb3⟩ := byte_of w3
  obtain ⟨ls, hl⟩ := bytes_of h2
  obtain ⟨ms, hm⟩ := bytes_of h4
  exact (ages_walk b0 b1 b3 hb0 hb1 hb3 hl hm).mono fun e w' ⟨he, ho⟩ => ⟨he, ho.below (Nat.le_refl _) (fun _ h => h.elim)⟩
end Go.Proofs.Ytbjpnjgkpkfngaa
