/- How a program's operations nest: the state that both sides keep, and package prog's closures over it. -/
import Derived.Test.YteeleelkepjoaaaRop
namespace Go.Proofs.Yteeleelkepjoaaa
open Go Go.RowKit

def mkI (x : Int) : Value := .int .i64 x
/-- Regions that are open, ceilings that are locked, bytes that are pushed. -/
structure NS where
  r : Int
  ls : List Int
  p : Int
def ns0 : NS := ⟨0, [], 0⟩
def NS.fine (s : NS) : Prop := 0 ≤ s.r ∧ 0 ≤ s.p
/-- Behind an operation; none: a lock that is locked, an unlock that isn't the last one's. -/
def moveN (s : NS) (k a : Int) : Option NS :=
  if k = 3 then some ⟨s.r + 1, s.ls, s.p⟩ else if k = 4 then some ⟨s.r - 1, s.ls, s.p⟩
  else if k = 5 then (if a ∈ s.ls then none else some ⟨s.r, s.ls ++ [a], s.p⟩)
  else if k = 6 then (if s.ls.getLast? = some a then some ⟨s.r, s.ls.dropLast, s.p⟩ else none)
  else if k = 7 then some ⟨s.r, s.ls, s.p + a⟩ else if k = 8 then some ⟨s.r, s.ls, s.p - a⟩ else some s
def fineB (s : NS) : Bool := decide (0 ≤ s.r ∧ 0 ≤ s.p)
def stepN (s : NS) (k a : Int) : Option NS := match moveN s k a with
  | none => none
  | some t => if fineB t = true then some t else none

/-- The three variables of the closures. -/
def NestAt (w : World) (b2 b3 b4 : Nat) (h : Option Nat) (s : NS) : Prop :=
  ∃ v, w.heap[b2]? = some (.cells [v].toArray 24 (0, 0)) ∧ w.heap[b3]? = some (.cells [mkI s.r].toArray 3 (0, 0)) ∧ w.heap[b4]? = some (.cells [mkI s.p].toArray 3 (0, 0)) ∧ Win w 3 1 v h s.ls.length (s.ls.map mkI) ∧
    (∀ k, h = some k → k ≠ b2 ∧ k ≠ b3 ∧ k ≠ b4) ∧ b2 ≠ b3 ∧ b2 ≠ b4 ∧ b3 ≠ b4
def nfp (b2 b3 b4 : Nat) (h : Option Nat) (k : Nat) : Prop := k = b2 ∨ k = b3 ∨ k = b4 ∨ h = some k
theorem NestAt.kept {S : Nat → Prop} {w w' : World} {b2 b3 b4 : Nat} {h : Option Nat} {s : NS} (hN : NestAt w b2 b3 b4 h s) (ho : Only S w w') (hS : ∀ k, nfp b2 b3 b4 h k → ¬ S k) : NestAt w' b2 b3 b4 h s := by
  obtain ⟨v, h1, h2, h3, h4, h5⟩ := hN
  exact ⟨v, ho.heap h1 (hS _ (.inl rfl)), ho.heap h2 (hS _ (.inr (.inl rfl))), ho.heap h3 (hS _ (.inr (.inr (.inl rfl)))), h4.kept ho (fun k hk => hS k (.inr (.inr (.inr hk)))), h5⟩
theorem NestAt.new {w w' : World} {b2 b3 b4 : Nat} {h : Option Nat} {s : NS} (hN : NestAt w b2 b3 b4 h s) (ho : Only (fun _ => False) w w') : NestAt w' b2 b3 b4 h s := hN.kept ho (fun _ _ h => h)
theorem NestAt.lt {w : World} {b2 b3 b4 : Nat} {h : Option Nat} {s : NS} (hN : NestAt w b2 b3 b4 h s) : ∀ k, nfp b2 b3 b4 h k → k < w.heap.size := by
  obtain ⟨v, h1, h2, h3, h4, h5⟩ := hN
  rintro k (rfl | rfl | rfl | hk)
  · exact row_lt h1
  · exact row_lt h2
  · exact row_lt h3
  · exact h4.lt k hk
/-- What following one operation leaves: none: it doesn't nest. -/
def StepEnd (w : World) (b2 b3 b4 : Nat) (h : Option Nat) (t : Option NS) (e : Ending) (w' : World) : Prop :=
  match t with
  | none => e = .returned (.bool false) ∧ Only (nfp b2 b3 b4 h) w w'
  | some s => e = .returned (.bool true) ∧ ∃ h', NestAt w' b2 b3 b4 h' s ∧ (h' = h ∨ ∃ g, h' = some g ∧ w.heap.size ≤ g) ∧ Only (nfp b2 b3 b4 h) w w'
end Go.Proofs.Yteeleelkepjoaaa
