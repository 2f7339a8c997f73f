/- The arguments of the laws on caches, opened. -/
import Derived.Test.YtbjpnjgkpkfngaaPlays8
namespace Go.Proofs.Ytbjpnjgkpkfngaa
open Go Go.RowKit

theorem byte_of {z : Int} (h : (Lit.int .u8 z).wf = true) : ∃ b : Nat, z = b ∧ b ≤ 255 := by
  simp [Lit.wf] at h
  have h1 : IntKind.u8.min = 0 := by decide
  have h2 : IntKind.u8.max = 255 := by decide
  simp only [h1, h2] at h
  exact ⟨z.toNat, by omega, by omega⟩
theorem bytes_of {w : World} {A : Option Addr} {n : Nat} {f : Nat → Int} (h : IntRow .u8 w A n f) : ∃ bs, ByteRow w A n bs := by
  have get : ∀ (k b : Nat), ((List.range n).map (fun i => (f i).toNat))[k]? = some b → k < n ∧ b = (f k).toNat := by
    intro k b hb
    rw [List.getElem?_map] at hb
    by_cases hk : k < n
    · rw [List.getElem?_range hk] at hb
      exact ⟨hk, by simpa using hb.symm⟩
    · rw [List.getElem?_eq_none (by simp; omega)] at hb
      cases hb
  refine ⟨(List.range n).map (fun i => (f i).toNat), by simp, fun b hb => ?_, fun k b hb => ?_⟩
  · obtain ⟨k, hkb⟩ := List.getElem?_of_mem hb
    obtain ⟨hk, rfl⟩ := get k b hkb
    obtain ⟨c, hc, hc2⟩ := byte_of (h.wf hk)
    omega
  · obtain ⟨hk, rfl⟩ := get k b hb
    obtain ⟨c, hc, hc2⟩ := byte_of (h.wf hk)
    obtain ⟨⟨g, off, rfl, hcell, hg⟩, _⟩ := h k hk
    refine ⟨g, off, rfl, hg, ?_⟩
    rw [hcell, hc]
    simp
theorem twin_law (a0 a1 : Int) (A : Option Addr) (n c1 : Nat) (f : Nat → Int) (B : Option Addr) (m c2 : Nat) (g : Nat → Int) (W : World) (w0 : (Lit.int .u8 a0).wf = true) (w1 : (Lit.int .u8 a1).wf = true) (h2 : IntRow .u8 W A n f) (h3 : IntRow .u8 W B m g) :
    Calls Try.prog 4 #[.int .u8 a0, .int .u8 a1, .slice A n c1, .slice B m c2] W fun e w' => e = .returned (.bool true) ∧ Below W.heap.size W w' := by
  obtain ⟨b0, rfl, hb0⟩ := byte_of w0
  obtain ⟨b1, rfl, hb1⟩ := byte_of w1
  obtain ⟨ls, hl⟩ := bytes_of h2
  obtain ⟨ms, hm⟩ := bytes_of h3
  exact (twin_walk b0 b1 hb0 hb1 hl hm).mono fun e w' ⟨he, ho⟩ => ⟨he, ho.below (Nat.le_refl _) (fun _ h => h.elim)⟩
end Go.Proofs.Ytbjpnjgkpkfngaa
