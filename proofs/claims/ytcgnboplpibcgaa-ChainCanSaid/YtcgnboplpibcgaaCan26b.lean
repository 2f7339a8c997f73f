/- ChainCan's arguments. -/
import Derived.Test.YtcgnboplpibcgaaCan26
namespace Go.Proofs.Ytcgnboplpibcgaa
open Go Go.RowKit Go.ChangeShapes Go.WideShapes Go.Deep
/-- Small numbers that came in. -/
def U8In (w : World) (A : Option Addr) (n : Nat) (f : Nat → Int) : Prop := IntRow .u8 w A n f ∧ n ≤ 9223372036854775807
theorem u8_in {H : Type} {enc : TypeId × Value → H} {w : World} {A : Option Addr} {len cap : Nat} {d : DataW H} {ps : List MemPlace} (h : DataW.Trod enc Try.prog w 0 (fun _ => true) true 41 (.slice A len cap) d ps) : ∃ f, U8In w A len f := by
  obtain ⟨fuel, hf⟩ := h
  rcases open_ints Try.underlying41 Try.underlying5 (by kernel_rfl) hf with ⟨hcs, _⟩ | ⟨x, l, c, zs, hcs, _, hl, hm, hz, _, hcell, hwz⟩
  · simp [Value.cells] at hcs
    obtain ⟨rfl, rfl, rfl⟩ := hcs
    exact ⟨fun _ => 0, fun j hj => absurd hj (by omega), by omega⟩
  · simp [Value.cells] at hcs
    obtain ⟨rfl, rfl, rfl⟩ := hcs
    unfold maxLen at hm
    exact ⟨fun j => zs.getD j 0, intRow_of hcell hwz (by simp at hz; omega), by omega⟩
theorem can_law (c : ConfV) (a b : Int) (A : Option Addr) (n cap : Nat) (f : Nat → Int) (W : World) (_ : (Lit.int .i64 a).wf = true) (_ : (Lit.int .i64 b).wf = true) (hR : U8In W A n f) (hC : ConfThIn W c) :
    Calls Try.prog 9 #[c.val, .int .i64 a, .int .i64 b, .slice A n cap] W fun e w' => e = .returned (.bool true) ∧ Below W.heap.size W w' := by
  obtain ⟨ts, h1, h2, h3⟩ := hC
  exact (chainCan_any h1 h2 h3 a b hR.1 hR.2).mono fun e w' ⟨he, hO⟩ => ⟨he, hO.below (Nat.le_refl _) (fun _ h => h.elim)⟩
end Go.Proofs.Ytcgnboplpibcgaa
