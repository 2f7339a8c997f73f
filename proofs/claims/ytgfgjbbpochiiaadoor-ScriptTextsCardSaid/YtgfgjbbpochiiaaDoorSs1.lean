/- A script of its text: the program's Read. -/
import Derived.Test.YtgfgjbbpochiiaaDoorSr
namespace Go.Proofs.YtgfgjbbpochiiaaDoor
open Go Go.RowKit

def evCells (l : List EvV) : List Value := l.flatMap EvV.cells
theorem evCells_snoc (l : List EvV) (r : EvV) : evCells (l ++ [r]) = evCells l ++ r.cells := by simp [evCells]
def ManyEnd (w : World) (c : Int) (e : Ending) (w' : World) : Prop := e = .returned (.tuple #[.slice none 0 0, .int .i64 0, .int .i64 c]) ∧ Only (fun _ => False) w w'
def GotEnd (l : List EvV) (v : Int) (w : World) (e : Ending) (w' : World) : Prop :=
  ∃ p cap h, e = .returned (.tuple #[.slice p l.length cap, .int .i64 v, .int .i64 0]) ∧ Win w' 23 5 (.slice p l.length cap) h l.length (evCells l) ∧ (∀ k, h = some k → w.heap.size ≤ k) ∧ Only (fun _ => False) w w'
def ReadEnd (s : List UInt8) (w : World) (e : Ending) (w' : World) : Prop :=
  match textO s with
  | none => ManyEnd w 2 e w'
  | some x => if x.1.length ≤ 256 then GotEnd x.1 x.2 w e w' else ManyEnd w 4 e w'
theorem readEnd_no {s : List UInt8} (h : textO s = none) {w w' : World} (hO : Only (fun _ => False) w w') : ReadEnd s w (.returned (.tuple #[.slice none 0 0, .int .i64 0, .int .i64 2])) w' := by
  unfold ReadEnd
  rw [h]
  exact ⟨rfl, hO⟩
theorem readEnd_many {s : List UInt8} {l : List EvV} {v : Int} (h : textO s = some (l, v)) (hl : 256 < l.length) {w w' : World} (hO : Only (fun _ => False) w w') : ReadEnd s w (.returned (.tuple #[.slice none 0 0, .int .i64 0, .int .i64 4])) w' := by
  unfold ReadEnd
  rw [h]
  simp only
  rw [if_neg (by omega)]
  exact ⟨rfl, hO⟩
theorem readEnd_got {s : List UInt8} {l : List EvV} {v : Int} (h : textO s = some (l, v)) (hl : l.length ≤ 256) {w w' : World} {e : Ending} (hO : GotEnd l v w e w') : ReadEnd s w e w' := by
  unfold ReadEnd
  rw [h]
  simp only
  rw [if_pos hl]
  exact hO
theorem infoE : (Tryd.prog.info? 23).map (fun i => (i.zero, i.size, i.bytes)) = some (some (Value.agg #[.int .i64 0, .int .i64 0, .int .i64 0, .int .i64 0, .int .i64 0]), 5, 40) := by kernel_rfl
theorem row_five {w : World} {X : Nat} {a b c d f : Value} {e : TypeId} (hh : w.heap[X]? = some (.cells #[a, b, c, d, f] e (0, 0))) : ∀ j u, [a, b, c, d, f][j]? = some u → w.cell? ((⟨X, 0, none⟩ : Addr).add j) = some u := fun j u hu => by
  rw [Addr.add_lit, Nat.zero_add]
  exact row_cell (L := [a, b, c, d, f]) hh hu
def slen : Value → Nat
  | .string s => s.size
  | _ => 0
theorem within_many (p : Option Addr) (n cap : Nat) (v : Int) (h : 256 < n) (w : World) : Calls Tryd.prog 32 #[.slice p n cap, .int .i64 v] w fun e w' => e = .returned (.tuple #[.slice none 0 0, .int .i64 0, .int .i64 4]) ∧ w = w' := by
  have h' : (256 : Int) < (n : Int) := by omega
  go_enter Tryd.func32, Tryd.ntmps32
  go_wp2
  go_ret3
  exact ⟨rfl, rfl⟩
theorem within_ok (p : Option Addr) (n cap : Nat) (v : Int) (h : n ≤ 256) (w : World) : Calls Tryd.prog 32 #[.slice p n cap, .int .i64 v] w fun e w' => e = .returned (.tuple #[.slice p n cap, .int .i64 v, .int .i64 0]) ∧ w = w' := by
  have h' : ¬ (256 : Int) < (n : Int) := by omega
  go_enter Tryd.func32, Tryd.ntmps32
  go_wp2
  go_ret3
  exact ⟨rfl, rfl⟩
end Go.Proofs.YtgfgjbbpochiiaaDoor
