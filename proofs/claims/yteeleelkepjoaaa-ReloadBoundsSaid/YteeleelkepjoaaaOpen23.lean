/- ReloadBounds' arguments, opened. -/
import Derived.Test.YteeleelkepjoaaaLaw23
namespace Go.Proofs.Yteeleelkepjoaaa
namespace Rld
open Go Go.RowKit Rca Srt Go.ChangeShapes Go.WideShapes Go.Deep
variable {H : Type} {enc : TypeId × Value → H} {w : World}

set_option maxRecDepth 100000 in
theorem conf_in3 {r : Reach} {b0 : Nat} {v : Value} {d : DataW H} {p : List MemPlace} (hv : Value.okWide Try.prog w r b0 27 v) (h : DataW.Trod enc Try.prog w 0 (fun _ => true) true 27 v d p) : ∃ c : ConfV, v = c.val ∧ ∃ (dd : ConfL) (pl : Tks), ConfIn w c dd pl := by
  obtain ⟨c, dd, pl, h1, h2⟩ := conf_in hv h
  exact ⟨c, h1, dd, pl, h2⟩
theorem bounds23_law (c : ConfV) (a1 : Int) (A2 : Option Addr) (n2 c2 : Nat) (f2 : Nat → Int) (a3 : Int) (A4 : Option Addr) (n4 c4 : Nat) (f4 : Nat → Int) (W : World) (w1 : (Lit.int .u8 a1).wf = true) (w2 : IntRow .u8 W A2 n2 f2) (w3 : (Lit.int .u8 a3).wf = true) (w4 : IntRow .u16 W A4 n4 f4) (g0 : ∃ (dd : ConfL) (pl : Tks), ConfIn W c dd pl) :
    Calls Try.prog 3 #[c.val, .int .u8 a1, .slice A2 n2 c2, .int .u8 a3, .slice A4 n4 c4] W fun e w' => e = .returned (.bool true) ∧ Below W.heap.size W w' := by
  obtain ⟨dd, pl, hC⟩ := g0
  obtain ⟨b1, rfl, hb1⟩ := nat_of (M := 255) (by decide) (by decide) w1
  obtain ⟨b3, rfl, hb3⟩ := nat_of (M := 255) (by decide) (by decide) w3
  obtain ⟨us, hu⟩ := nums_of (M := 255) (by decide) (by decide) w2
  obtain ⟨os, ho⟩ := nums_of (M := 65535) (by decide) (by decide) w4
  exact (bounds23_any hC b1 b3 hb1 hb3 hu ho).mono fun e w' ⟨he, hO⟩ => ⟨he, hO.below (Nat.le_refl _) (fun _ h => h.elim)⟩
end Rld
end Go.Proofs.Yteeleelkepjoaaa
