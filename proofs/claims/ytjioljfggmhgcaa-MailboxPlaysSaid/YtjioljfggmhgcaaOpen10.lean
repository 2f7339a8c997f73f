/- The acts that MailboxPlays is handed. -/
import Derived.Test.YtjioljfggmhgcaaActs
import Derived.Test.YtjioljfggmhgcaaRows
namespace Go.Proofs.Ytjioljfggmhgcaa
open Go Go.RowKit

theorem open_acts10 {H : Type} {enc : TypeId × Value → H} {w : World} {a : Option Addr} {len cap : Nat} {d : DataW H} {ps : List MemPlace} (h : DataW.Trod enc Try.prog w 0 (fun _ => true) true 23 (.slice a len cap) d ps) :
    ∃ z : Nat → Nat → Value, Acts w a len [.bool, .int .i64, .int .i64] z := by
  have cI : Try.prog.cellsOf 3 = 1 := by kernel_rfl
  have cB : Try.prog.cellsOf 4 = 1 := by kernel_rfl
  have c29 : Try.prog.cellsOf 29 = 3 := by kernel_rfl
  refine open_acts [.bool, .int .i64, .int .i64] Try.underlying23 Try.underlying29 c29 rfl (by decide) (fun i f hi => ?_) h
  match i with
  | 0 => cases hi; exact ⟨rfl, cB, Try.underlying4⟩
  | 1 => cases hi; exact ⟨rfl, cI, Try.underlying3⟩
  | 2 => cases hi; exact ⟨rfl, cI, Try.underlying3⟩
  | i + 3 => simp at hi
end Go.Proofs.Ytjioljfggmhgcaa
