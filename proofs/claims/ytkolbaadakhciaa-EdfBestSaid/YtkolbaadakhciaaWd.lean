/- A class of worlds for regions that draw their order: those that have grown out of one (new blocks, draws). Facts over the class are rules for the walk's simp. Speaks of no program. -/
import Derived.Test.YtkolbaadakhciaaMem
import Derived.Deep.Quiet
import Derived.Deep.QuietTactic
namespace Go.Proofs.Ytkolbaadakhciaa
open Go

/-- A world that has grown out of w. -/
structure Wd (w : World) where
  W : World
  ok : Only (fun _ => False) w W

def Wd.self (w : World) : Wd w := ⟨w, Only.refl _ w⟩
instance (w : World) : Nonempty (Wd w) := ⟨Wd.self w⟩
/-- Lay it before the region's walk. -/
theorem wd_ex (w : World) : ∀ x : Wd w, ∃ y : Wd w, x.W = y.W := fun x => ⟨x, rfl⟩
theorem Wd.cell {w : World} (x : Wd w) {p : Addr} {v : Value} (h : w.cell? p = some v) : x.W.cell? p = some v := x.ok.cell h (fun h => h)
theorem wd_cell {w : World} {p : Addr} {v : Value} (h : w.cell? p = some v) : ∀ x : Wd w, x.W.cell? p = some v := fun x => x.cell h
theorem wd_heap {w : World} {k : Nat} {o : Obj} (h : w.heap[k]? = some o) : ∀ x : Wd w, x.W.heap[k]? = some o := fun x => x.ok.heap h (fun h => h)

/-- A callee's contract in such a region. -/
theorem Calls.wd {P : Program} {f : FuncId} {args : Array Value} {w : World} {x : Wd w} {v : Value}
    (h : Calls P f args x.W fun e w' => e = .returned v ∧ Only (fun _ => False) x.W w') : Calls P f args x.W fun e w'' => e = .returned v ∧ ∃ y : Wd w, w'' = y.W :=
  h.mono fun _ w' ⟨he, ho⟩ => ⟨he, ⟨w', x.ok.trans' ho⟩, rfl⟩
theorem Calls.wd_same {P : Program} {f : FuncId} {args : Array Value} {w : World} {x : Wd w} {v : Value}
    (h : Calls P f args x.W fun e w' => e = .returned v ∧ x.W = w') : Calls P f args x.W fun e w'' => e = .returned v ∧ ∃ y : Wd w, w'' = y.W :=
  h.mono fun _ _ ⟨he, ho⟩ => ⟨he, x, ho.symm⟩

/-- The region, walked in the text's order. -/
theorem wp_region_wd {P : Program} {id : Nat} {Q : Exit → Act → World → Prop} {a : Act} {w : World} {l : List Oper} (hm : P.follows .mixedOrders = true) (hB : Region.lexB .any l.toArray = true)
    (h : wpQuiet P l.toArray (fun W => ∃ x : Wd w, W = x.W) (fun a' => ∀ w', (∃ x : Wd w, w' = x.W) → Q .normal a' w') l a) : (Code.region id l.toArray true).wp P Q a w :=
  wp_region_quiet (C := fun W => ∃ x : Wd w, W = x.W) hm hB ⟨⟨{ w with drawn := w.drawn + 1 }, (Only.refl _ w).drew1⟩, rfl⟩ h
end Go.Proofs.Ytkolbaadakhciaa
