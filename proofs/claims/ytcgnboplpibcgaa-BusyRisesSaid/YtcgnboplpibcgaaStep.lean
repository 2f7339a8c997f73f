/- A call of a Go function as one step of a region that draws its order: its contract, whatever world the call is made in. Speaks of no program. -/
import Derived.Test.YtcgnboplpibcgaaMem
import Derived.Deep.RegionLaw
import Derived.OwnWalk
namespace Go.Proofs.Ytcgnboplpibcgaa
open Go Go.RowKit

theorem step_call {P : Program} {w : World} {ops : Array Oper} {o : Oper} {a : Act} {K : Act → World → Prop} {Q : Exit → Act → World → Prop} {E : Prop} (hgd : o.guard = none) {f : FuncId} {fn : Func} {c : Code} (hf : P.funcs[f]? = some fn) (hname : (fn.name == "runtime.NumGoroutine") = false) (hb : fn.body = some c) (xs : List Operand) (ts : Array TypeId)
    (hop : o.op = Op.call { callee := Callee.value (.func f), args := xs.toArray, argTypes := ts }) (args : List Value) (hx : xs.map a.eval = args) {R : Ending → World → Prop} (h : Calls P f args.toArray w R)
    (hR : ∀ e w', R e w' → ∃ v, e = .returned v ∧ K (a.put o.dst v) w') : if Region.wanted o (yielded ops a.tmps) = true then Oper.wp P o a w K Q else E := by
  have hw : Region.wanted o (yielded ops a.tmps) = true := by simp [Region.wanted, hgd]
  rw [if_pos hw]
  have hrun : (execOp a.eval o).run P w = .ok (.enter f args.toArray) w := by
    subst hx
    have h1 : fn.name ≠ "runtime.NumGoroutine" := by simpa using hname
    simp [execOp, hop, resolve, invoke, Act.eval, Deferred.ofValue, callFunc, Result.andThen, hf, h1, hb]
  unfold Oper.wp
  rw [hrun]
  show Calls P f args.toArray w _
  refine h.mono fun e w' r => ?_
  obtain ⟨v, rfl, hk⟩ := hR e w' r
  exact hk
end Go.Proofs.Ytcgnboplpibcgaa
