/- Package prog's Op, and the document's own: one answer for both. -/
import Derived.Test.YteeleelkepjoaaaOps
namespace Go.Proofs.Yteeleelkepjoaaa
open Go Go.RowKit

/-- An operation. -/
structure Opn where
  k : Int
  a : Int
  b : Int
def Opn.val (o : Opn) : Value := .agg #[.int .i64 o.k, .int .i64 o.a, .int .i64 o.b]
def Opn.cells (o : Opn) : List Value := [.int .i64 o.k, .int .i64 o.a, .int .i64 o.b]
/-- The answer for a kind that is one. -/
def opV (k : Nat) (a b : Int) (r : RoomV) : Int := if inB (loA k) (hiA k r) a = true ∧ inB 0 (hiB k) b = true then 0 else 5
def opZ (o : Opn) (r : RoomV) : Int :=
  if o.k < 1 ∨ 15 < o.k then 1 else opV o.k.toNat o.a o.b r

end Go.Proofs.Yteeleelkepjoaaa
