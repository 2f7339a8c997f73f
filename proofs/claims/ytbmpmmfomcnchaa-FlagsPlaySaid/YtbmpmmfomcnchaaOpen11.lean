/- The acts that FlagsPlay is handed. -/
import Derived.Test.YtbmpmmfomcnchaaActs
import Derived.Test.YtbmpmmfomcnchaaRows
namespace Go.Proofs.Ytbmpmmfomcnchaa
open Go Go.RowKit

theorem open_acts11 {H : Type} {enc : TypeId × Value → H} {w : World} {a : Option Addr} {len cap : Nat} {d : DataW H} {ps : List MemPlace} (h : DataW.Trod enc Try.prog w 0 (fun _ => true) true 22 (.slice a len cap) d ps) :
    ∃ z : Nat → Nat → Value, Acts w a len [.int .u8, .int .i64, .int .i64] z := by
  have cI : Try.prog.cellsOf 3 = 1 := by kernel_rfl
  have cB : Try.prog.cellsOf 5 = 1 := by kernel_rfl
  have c28 : Try.prog.cellsOf 28 = 3 := by kernel_rfl
  refine open_acts [.int .u8, .int .i64, .int .i64] Try.underlying22 Try.underlying28 c28 rfl (by decide) (fun i f hi => ?_) h
  match i with
  | 0 => cases hi; exact ⟨rfl, cB, Try.underlying5⟩
  | 1 => cases hi; exact ⟨rfl, cI, Try.underlying3⟩
  | 2 => cases hi; exact ⟨rfl, cI, Try.underlying3⟩
  | i + 3 => simp at hi
end Go.Proofs.Ytbmpmmfomcnchaa
