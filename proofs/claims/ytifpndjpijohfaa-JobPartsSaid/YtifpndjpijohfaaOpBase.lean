/- Operations and tasks in memory; what came in. -/
import Derived.Test.YtifpndjpijohfaaRows
import Derived.Test.YtifpndjpijohfaaWd
import Derived.Test.YtifpndjpijohfaaWin
import Derived.Test.YtifpndjpijohfaaTail
import Derived.Test.YtifpndjpijohfaaFlat
import Derived.StillTailTactics
import Derived.BigQuiet
import Derived.BigRegion
import Derived.ProofKit
import Derived.Outline
import Derived.RegionTactic
import Derived.Deep.RegionLaw
import Derived.Deep.RegionWith
import Derived.Deep.QuietTactic
import Derived.Deep.CutRange
import Derived.Deep.DeepCutAuto
import Derived.Deep.DrawnRows
import Derived.KernelRfl
import Derived.WalkLawsBesides
import Derived.WalkSpells
import Derived.WalkSmall
import Derived.OwnWalk
import Derived.IntWalk
import Derived.OpenShut
import Derived.LoopTactic
import Derived.Deep.LoopGhost
namespace Go.Proofs.Ytifpndjpijohfaa
open Go Go.RowKit

def RetI (v : Int) (w : World) (e : Ending) (w' : World) : Prop := e = .returned (.int .i64 v) ∧ w = w'
def GrowI (v : Int) (w : World) (e : Ending) (w' : World) : Prop := e = .returned (.int .i64 v) ∧ Only (fun _ => False) w w'
def RetB (v : Bool) (w : World) (e : Ending) (w' : World) : Prop := e = .returned (.bool v) ∧ w = w'
def GrowB (v : Bool) (w : World) (e : Ending) (w' : World) : Prop := e = .returned (.bool v) ∧ Only (fun _ => False) w w'
def GrowV (v : Value) (w : World) (e : Ending) (w' : World) : Prop := e = .returned v ∧ Only (fun _ => False) w w'
theorem ret_int {k : IntKind} {a b : Int} (h : a = b) : Ending.returned (.int k a) = .returned (.int k b) := by rw [h]
theorem ret_bool {a b : Bool} (h : a = b) : Ending.returned (.bool a) = .returned (.bool b) := by rw [h]

/-- An operation. -/
structure Opn where
  k : Int
  a : Int
  b : Int
def Opn.val (o : Opn) : Value := .agg #[.int .i64 o.k, .int .i64 o.a, .int .i64 o.b]
def Opn.cells (o : Opn) : List Value := [.int .i64 o.k, .int .i64 o.a, .int .i64 o.b]
def OpnCells (w : World) (g off : Nat) (x : Opn) : Prop :=
  w.cell? ⟨g, off, none⟩ = some (.int .i64 x.k) ∧ w.cell? ⟨g, off + 1, none⟩ = some (.int .i64 x.a) ∧ w.cell? ⟨g, off + 2, none⟩ = some (.int .i64 x.b)
/-- A row of operations that came in. -/
def OpnRow (w : World) (A : Option Addr) (l : List Opn) : Prop :=
  ∀ k x, l[k]? = some x → ∃ b off, A = some ⟨b, off, none⟩ ∧ b < w.heap.size ∧ OpnCells w b (off + k * 3) x
theorem OpnRow.only {S : Nat → Prop} {w w' : World} {A : Option Addr} {l : List Opn} (h : OpnRow w A l) (ho : Only S w w') (hS : ∀ k, S k → w.heap.size ≤ k) : OpnRow w' A l := fun k x hx => by
  obtain ⟨b, off, rfl, hb, h0, h1, h2⟩ := h k x hx
  have hn : ¬ S b := fun hs => by have := hS b hs; omega
  exact ⟨b, off, rfl, Nat.lt_of_lt_of_le hb ho.size, ho.cell h0 hn, ho.cell h1 hn, ho.cell h2 hn⟩
theorem OpnRow.new {w w' : World} {A : Option Addr} {l : List Opn} (h : OpnRow w A l) (ho : Only (fun _ => False) w w') : OpnRow w' A l := h.only ho (fun _ h => h.elim)

/-- A slice's three numbers. -/
structure Sl where
  A : Option Addr
  n : Nat
  cap : Nat
def Sl.val (x : Sl) : Value := .slice x.A x.n x.cap
/-- A task's numbers and its program's slice. -/
structure TaskV where
  p : Int
  th : Int
  pe : Int
  de : Int
  fr : Int
  fl : Int
  o : Sl
def TaskV.cells (t : TaskV) : List Value := [.int .i64 t.p, .int .i64 t.th, .int .i64 t.pe, .int .i64 t.de, .int .i64 t.fr, .int .i64 t.fl, .slice t.o.A t.o.n t.o.cap]
def TaskV.val (t : TaskV) : Value := .agg #[.int .i64 t.p, .int .i64 t.th, .int .i64 t.pe, .int .i64 t.de, .int .i64 t.fr, .int .i64 t.fl, .slice t.o.A t.o.n t.o.cap]

theorem c22 : Try.prog.cellsOf 22 = 1 := by kernel_rfl
theorem c3 : Try.prog.cellsOf 3 = 1 := by kernel_rfl
theorem c24 : Try.prog.cellsOf 24 = 7 := by kernel_rfl
theorem c39 : Try.prog.cellsOf 39 = 3 := by kernel_rfl
section
open Go.ChangeShapes Go.WideShapes Go.Deep
variable {H : Type} {enc : TypeId × Value → H} {w : World} {n : Nat} {u : Value} {y : DataW H × List MemPlace}
theorem fields39 : ∃ fs : Array Field, Try.prog.underlying 39 = some (.struct fs) ∧ fs.size = 3 ∧ ∀ (i : Nat) (f : Field), fs[i]? = some f → f.offset = i ∧ Try.prog.cellsOf f.type = 1 ∧ Try.prog.underlying f.type = some (.int .i64) := by
  refine ⟨_, Try.underlying39, rfl, fun i f hi => ?_⟩
  match i with
  | 0 => cases hi; exact ⟨rfl, by kernel_rfl, Try.underlying3⟩
  | 1 => cases hi; exact ⟨rfl, by kernel_rfl, Try.underlying3⟩
  | 2 => cases hi; exact ⟨rfl, by kernel_rfl, Try.underlying3⟩
  | i + 3 => simp at hi
theorem ops_in (h : DataW.trod enc Try.prog w 0 (fun _ => true) true n 22 [u] = some y) : ∃ (x : Sl) (l : List Opn), u = .slice x.A x.n x.cap ∧ OpnRow w x.A l ∧ l.length = x.n ∧ x.n ≤ x.cap ∧ x.n ≤ 9223372036854775807 := by
  obtain ⟨x, hx, hmax⟩ : ∃ x : Sl, u = .slice x.A x.n x.cap ∧ x.n ≤ 9223372036854775807 := by
    rcases open_slice Try.underlying22 h with h0 | ⟨a, len, cap, m, n', D, Pl, hcs, _, hl, hm, hmm, _⟩
    · have := h0.1
      simp at this
      exact ⟨⟨none, 0, 0⟩, this, Nat.zero_le _⟩
    · simp at hcs
      have hlm : len ≤ m := by rw [hmm]; split <;> omega
      exact ⟨⟨some a, len, cap⟩, hcs, by unfold maxLen at hm; show len ≤ _; omega⟩
  subst hx
  obtain ⟨A, len, cap⟩ := x
  obtain ⟨fs, he, hsz, hfs⟩ := fields39
  obtain ⟨hc, z, hz⟩ := open_flat_ints Try.underlying22 he (by rw [c39, hsz]) (by omega) hfs h
  rw [hsz] at hz
  refine ⟨⟨A, len, cap⟩, (List.range len).map (fun i => ⟨z i 0, z i 1, z i 2⟩), rfl, fun k y hy => ?_, by simp, hc, hmax⟩
  have hk := (List.getElem?_eq_some_iff.1 hy).1
  simp at hk
  rw [List.getElem?_map, List.getElem?_range hk] at hy
  simp only [Option.map_some, Option.some.injEq] at hy
  subst hy
  obtain ⟨b, off, hA, hb, hcell⟩ := hz k hk
  exact ⟨b, off, hA, hb, by have := (hcell 0 (by omega)).1; rwa [← Nat.add_assoc] at this, by have := (hcell 1 (by omega)).1; rwa [← Nat.add_assoc] at this, by have := (hcell 2 (by omega)).1; rwa [← Nat.add_assoc] at this⟩
theorem int_in {t : TypeId} {k : IntKind} {vs : List Value} (ht : Try.prog.underlying t = some (.int k)) (h : DataW.trod enc Try.prog w 0 (fun _ => true) true n t vs = some y) : ∃ z : Int, vs = [.int k z] ∧ (Lit.int k z).wf = true := by
  obtain ⟨z, hz, _, hw⟩ := DataW.trod_int ht h
  exact ⟨z, hz, hw⟩
theorem one_of {α : Type} {l : List α} {k : Nat} {v : α} (h : (l.drop k).take 1 = [v]) : l[k]? = some v := by
  have := congrArg (·[0]?) h
  simpa [List.getElem?_take, List.getElem?_drop] using this
/-- A task that came in. -/
theorem task_in {vs : List Value} (hl : vs.length = 7) (h : DataW.trod enc Try.prog w 0 (fun _ => true) true n 24 vs = some y) : ∃ (t : TaskV) (l : List Opn), vs = t.cells ∧ OpnRow w t.o.A l ∧ l.length = t.o.n ∧ t.o.n ≤ t.o.cap ∧ t.o.n ≤ 9223372036854775807 ∧ t.fl ≤ 9223372036854775807 := by
  obtain ⟨xs, m, _, _, _, hxl, hf⟩ := DataW.trod_struct Try.underlying24 h
  have hxs : xs.length = 7 := hxl
  have f0 : DataW.trod enc Try.prog w 0 (fun _ => true) true m 3 ((vs.drop 0).take (Try.prog.cellsOf 3)) = some (xs[0]'(by omega)) := (hf 0 _ rfl).trans (List.getElem?_eq_getElem (by omega))
  have f1 : DataW.trod enc Try.prog w 0 (fun _ => true) true m 3 ((vs.drop 1).take (Try.prog.cellsOf 3)) = some (xs[1]'(by omega)) := (hf 1 _ rfl).trans (List.getElem?_eq_getElem (by omega))
  have f2 : DataW.trod enc Try.prog w 0 (fun _ => true) true m 3 ((vs.drop 2).take (Try.prog.cellsOf 3)) = some (xs[2]'(by omega)) := (hf 2 _ rfl).trans (List.getElem?_eq_getElem (by omega))
  have f3 : DataW.trod enc Try.prog w 0 (fun _ => true) true m 3 ((vs.drop 3).take (Try.prog.cellsOf 3)) = some (xs[3]'(by omega)) := (hf 3 _ rfl).trans (List.getElem?_eq_getElem (by omega))
  have f4 : DataW.trod enc Try.prog w 0 (fun _ => true) true m 3 ((vs.drop 4).take (Try.prog.cellsOf 3)) = some (xs[4]'(by omega)) := (hf 4 _ rfl).trans (List.getElem?_eq_getElem (by omega))
  have f5 : DataW.trod enc Try.prog w 0 (fun _ => true) true m 3 ((vs.drop 5).take (Try.prog.cellsOf 3)) = some (xs[5]'(by omega)) := (hf 5 _ rfl).trans (List.getElem?_eq_getElem (by omega))
  have f6 : DataW.trod enc Try.prog w 0 (fun _ => true) true m 22 ((vs.drop 6).take (Try.prog.cellsOf 22)) = some (xs[6]'(by omega)) := (hf 6 _ rfl).trans (List.getElem?_eq_getElem (by omega))
  obtain ⟨z0, e0, k0⟩ := int_in Try.underlying3 f0
  obtain ⟨z1, e1, k1⟩ := int_in Try.underlying3 f1
  obtain ⟨z2, e2, k2⟩ := int_in Try.underlying3 f2
  obtain ⟨z3, e3, k3⟩ := int_in Try.underlying3 f3
  obtain ⟨z4, e4, k4⟩ := int_in Try.underlying3 f4
  obtain ⟨z5, e5, k5⟩ := int_in Try.underlying3 f5
  rw [c3] at e0 e1 e2 e3 e4 e5
  replace e0 := one_of e0
  replace e1 := one_of e1
  replace e2 := one_of e2
  replace e3 := one_of e3
  replace e4 := one_of e4
  replace e5 := one_of e5
  rw [c22] at f6
  clear f0 f1 f2 f3 f4 f5 hf
  match vs, hl with
  | [v0, v1, v2, v3, v4, v5, v6], _ =>
    obtain ⟨x, l, rfl, g1, g2, g3, g4⟩ := ops_in f6
    cases e0; cases e1; cases e2; cases e3; cases e4; cases e5
    exact ⟨⟨z0, z1, z2, z3, z4, z5, x⟩, l, rfl, g1, g2, g3, g4, (bounds_i64 k5).2⟩
/-- A task by value that came in. -/
theorem task_val {r : Reach} {b0 : Nat} {v : Value} {d : DataW H} {p : List MemPlace} (hv : Value.okWide Try.prog w r b0 24 v) (h : DataW.Trod enc Try.prog w 0 (fun _ => true) true 24 v d p) : ∃ x : TaskV × List Opn, v = x.1.val ∧ OpnRow w x.1.o.A x.2 ∧ x.2.length = x.1.o.n ∧ x.1.o.n ≤ x.1.o.cap ∧ x.1.o.n ≤ 9223372036854775807 ∧ x.1.fl ≤ 9223372036854775807 := by
  obtain ⟨cs, rfl, hsz⟩ := okWide_struct Try.underlying24 hv
  rw [c24] at hsz
  obtain ⟨fuel, hf⟩ := h
  obtain ⟨t, l, e, g1, g2, g3, g4, g5⟩ := task_in (by simpa [Value.cells] using hsz) hf
  refine ⟨⟨t, l⟩, ?_, g1, g2, g3, g4, g5⟩
  have e2 : cs = t.cells.toArray := by
    have : cs.toList = t.cells := e
    rw [← this]
  rw [e2]
  rfl
end
end Go.Proofs.Ytifpndjpijohfaa
