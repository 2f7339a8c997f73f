/- Package prog's Check: the plain check. -/
import Derived.Test.YteeleelkepjoaaaNest5
namespace Go.Proofs.Yteeleelkepjoaaa
open Go Go.RowKit

def OpnCells (w : World) (g off : Nat) (x : Opn) : Prop :=
  w.cell? ⟨g, off, none⟩ = some (.int .i64 x.k) ∧ w.cell? ⟨g, off + 1, none⟩ = some (.int .i64 x.a) ∧ w.cell? ⟨g, off + 2, none⟩ = some (.int .i64 x.b)
/-- A row of operations that came in. -/
def OpnRow (w : World) (A : Option Addr) (l : List Opn) : Prop :=
  ∀ k x, l[k]? = some x → ∃ b off, A = some ⟨b, off, none⟩ ∧ b < w.heap.size ∧ OpnCells w b (off + k * 3) x
theorem OpnRow.only {S : Nat → Prop} {w w' : World} {A : Option Addr} {l : List Opn} (h : OpnRow w A l) (ho : Only S w w') (hS : ∀ k, S k → w.heap.size ≤ k) : OpnRow w' A l := fun k x hx => by
  obtain ⟨b, off, rfl, hb, h0, h1, h2⟩ := h k x hx
  have hn : ¬ S b := fun hs => by have := hS b hs; omega
  exact ⟨b, off, rfl, Nat.lt_of_lt_of_le hb ho.size, ho.cell h0 hn, ho.cell h1 hn, ho.cell h2 hn⟩
theorem OpnRow.new {w w' : World} {A : Option Addr} {l : List Opn} (h : OpnRow w A l) (ho : Only (fun _ => False) w w') : OpnRow w' A l := h.only ho (fun _ h => h.elim)

/-- Behind k operations. -/
def CkRel (w : World) (b2 b3 b4 : Nat) (l : List Opn) (r : RoomV) (k : Nat) (w' : World) : Prop :=
  ∃ h s, NestAt w' b2 b3 b4 h s ∧ runZ l ns0 r = runZ (l.drop k) s r ∧ (-(k : Int) ≤ s.r ∧ s.r ≤ k) ∧ (-(5000 * (k : Int)) ≤ s.p ∧ s.p ≤ 5000 * (k : Int)) ∧ s.ls.length ≤ k ∧ (∀ g, h = some g → w.heap.size < g) ∧ Only (fun _ => False) w w'

theorem run_bad {l : List Opn} {k : Nat} {x : Opn} {s : NS} {r : RoomV} (hx : l[k]? = some x) (hz : opZ x r ≠ 0) : runZ (l.drop k) s r = opZ x r := by
  obtain ⟨hk, rfl⟩ := List.getElem?_eq_some_iff.1 hx
  rw [List.drop_eq_getElem_cons hk, runZ, if_neg hz]
theorem run_step {l : List Opn} {k : Nat} {x : Opn} {s : NS} {r : RoomV} (hx : l[k]? = some x) (hz : opZ x r = 0) : runZ (l.drop k) s r = match stepN s x.k x.a with
    | none => 9
    | some t => runZ (l.drop (k + 1)) t r := by
  obtain ⟨hk, rfl⟩ := List.getElem?_eq_some_iff.1 hx
  rw [List.drop_eq_getElem_cons hk, runZ, if_pos hz]
  rfl

end Go.Proofs.Yteeleelkepjoaaa
