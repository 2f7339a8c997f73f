/- The pile of entries behind an agenda: what its block holds, and the contracts of its own calls. -/
import Derived.Test.YtmkdboiajjkghaaRows
import Derived.Test.YtmkdboiajjkghaaWin
import Derived.Test.YtmkdboiajjkghaaTail
import Derived.Test.YtmkdboiajjkghaaRowed
import Derived.StillTailTactics
import Derived.Deep.QuietTactic
import Derived.BigQuiet
import Derived.BigRegion
import Derived.ProofKit
import Derived.Outline
import Derived.RegionTactic
namespace Go.Proofs.Ytmkdboiajjkghaa
open Go Go.RowKit

/-- An event. -/
structure Ev where
  t : Int
  k : Int
  a : Int
  b : Int
  c : Int
/-- An entry: an event and its turn. -/
structure En where
  e : Ev
  n : Nat
def Ev.cells (e : Ev) : List Value := [.int .i64 e.t, .int .i64 e.k, .int .i64 e.a, .int .i64 e.b, .int .i64 e.c]
def Ev.val (e : Ev) : Value := .agg #[.int .i64 e.t, .int .i64 e.k, .int .i64 e.a, .int .i64 e.b, .int .i64 e.c]
def En.cells (x : En) : List Value := [.int .i64 x.e.t, .int .i64 x.e.k, .int .i64 x.e.a, .int .i64 x.e.b, .int .i64 x.e.c, .int .u64 x.n]
def enCells (l : List En) : List Value := l.flatMap En.cells
def evCells (l : List Ev) : List Value := l.flatMap Ev.cells

theorem enCells_length (l : List En) : (enCells l).length = l.length * 6 := by
  induction l with
  | nil => rfl
  | cons x l ih => simp only [enCells, List.flatMap_cons, List.length_append, List.length_cons] at ih ⊢; rw [ih]; simp [En.cells]; omega
theorem evCells_length (l : List Ev) : (evCells l).length = l.length * 5 := by
  induction l with
  | nil => rfl
  | cons x l ih => simp only [evCells, List.flatMap_cons, List.length_append, List.length_cons] at ih ⊢; rw [ih]; simp [Ev.cells]; omega
theorem enCells_at (l : List En) (i : Nat) (x : En) (h : l[i]? = some x) (j : Nat) (hj : j < 6) : (enCells l)[i * 6 + j]? = x.cells[j]? := by
  induction l generalizing i with
  | nil => cases h
  | cons y l ih =>
    cases i with
    | zero =>
      cases h
      simp only [enCells, List.flatMap_cons]
      rw [List.getElem?_append_left (by simp [En.cells]; omega)]
      simp
    | succ i =>
      simp only [enCells, List.flatMap_cons]
      rw [List.getElem?_append_right (by simp [En.cells]; omega)]
      have := ih i (by simpa using h)
      rw [← this]
      congr 1
      simp [En.cells]
      omega
theorem evCells_at (l : List Ev) (i : Nat) (x : Ev) (h : l[i]? = some x) (j : Nat) (hj : j < 5) : (evCells l)[i * 5 + j]? = x.cells[j]? := by
  induction l generalizing i with
  | nil => cases h
  | cons y l ih =>
    cases i with
    | zero =>
      cases h
      simp only [evCells, List.flatMap_cons]
      rw [List.getElem?_append_left (by simp [Ev.cells]; omega)]
      simp
    | succ i =>
      simp only [evCells, List.flatMap_cons]
      rw [List.getElem?_append_right (by simp [Ev.cells]; omega)]
      have := ih i (by simpa using h)
      rw [← this]
      congr 1
      simp [Ev.cells]
      omega

/-- The agenda's block at r: its entries lie in the block o, T turns have been told. -/
def AgAt (w : World) (r : Nat) (o : Option Nat) (T : Nat) (es : List En) : Prop :=
  ∃ v, w.heap[r]? = some (.cells #[v, .int .u64 T] 42 (0, 0)) ∧ Win w 48 6 v o es.length (enCells es) ∧ ∀ k, o = some k → k ≠ r
def fp (r : Nat) (o : Option Nat) (k : Nat) : Prop := k = r ∨ o = some k
theorem AgAt.lt {w : World} {r T : Nat} {o : Option Nat} {es : List En} (h : AgAt w r o T es) : ∀ k, fp r o k → k < w.heap.size := by
  obtain ⟨v, h1, h2, h3⟩ := h
  rintro k (rfl | hk)
  · exact row_lt h1
  · exact h2.lt k hk
theorem AgAt.kept {S : Nat → Prop} {w w' : World} {r T : Nat} {o : Option Nat} {es : List En} (h : AgAt w r o T es) (ho : Only S w w') (hS : ∀ k, fp r o k → ¬ S k) : AgAt w' r o T es := by
  obtain ⟨v, h1, h2, h3⟩ := h
  exact ⟨v, ho.heap h1 (hS r (.inl rfl)), h2.kept ho (fun k hk => hS k (.inr hk)), h3⟩
theorem AgAt.new {w w' : World} {r T : Nat} {o : Option Nat} {es : List En} (h : AgAt w r o T es) (ho : Only (fun _ => False) w w') : AgAt w' r o T es := h.kept ho (fun _ _ h => h)
theorem AgAt.drewN {w : World} {r T : Nat} {o : Option Nat} {es : List En} (h : AgAt w r o T es) (m : Nat) : AgAt (w.drewN m) r o T es := h.new ((Only.refl _ w).drewN m)
/-- The cells of the object, and of an entry. -/
theorem AgAt.cells {w : World} {r T : Nat} {o : Option Nat} {es : List En} (h : AgAt w r o T es) : ∃ p cap, es.length ≤ cap ∧ cap ≤ maxLen ∧ w.cell? ⟨r, 0, none⟩ = some (.slice p es.length cap) ∧ w.cell? ⟨r, 1, none⟩ = some (.int .u64 T) ∧ w.frozen? ⟨r, 0, none⟩ = false ∧ w.frozen? ⟨r, 1, none⟩ = false ∧ Win w 48 6 (.slice p es.length cap) o es.length (enCells es) := by
  obtain ⟨v, h1, h2, h3⟩ := h
  obtain ⟨p, cap, rfl, h4, h5⟩ := h2.form
  exact ⟨p, cap, h4, h5, row_cell (L := [_, _]) h1 rfl, row_cell (L := [_, _]) h1 rfl, row_free (L := [_, _]) h1 0, row_free (L := [_, _]) h1 1, h2⟩
def EnCells (w : World) (g off : Nat) (x : En) : Prop :=
  w.cell? ⟨g, off, none⟩ = some (.int .i64 x.e.t) ∧ w.cell? ⟨g, off + 1, none⟩ = some (.int .i64 x.e.k) ∧ w.cell? ⟨g, off + 2, none⟩ = some (.int .i64 x.e.a) ∧ w.cell? ⟨g, off + 3, none⟩ = some (.int .i64 x.e.b) ∧ w.cell? ⟨g, off + 4, none⟩ = some (.int .i64 x.e.c) ∧ w.cell? ⟨g, off + 5, none⟩ = some (.int .u64 x.n)
theorem win_en {w : World} {v : Value} {o : Option Nat} {n : Nat} {es : List En} (h : Win w 48 6 v o n (enCells es)) (hn : 0 < n) : ∃ g off cap, o = some g ∧ v = .slice (some ⟨g, off, none⟩) n cap ∧ n ≤ cap ∧ cap ≤ maxLen ∧ g < w.heap.size ∧ (∀ i x, es[i]? = some x → EnCells w g (off + i * 6) x) ∧ ∀ i, w.frozen? ⟨g, i, none⟩ = false := by
  obtain ⟨g, off, cap, h1, h2, h3, h4, h5, h6, h7⟩ := h.at_ hn
  refine ⟨g, off, cap, h1, h2, h3, h4, h5, fun i x hx => ?_, h7⟩
  have q : ∀ j u, j < 6 → x.cells[j]? = some u → w.cell? ⟨g, off + i * 6 + j, none⟩ = some u := fun j u hj hu => by
    have := h6 (i * 6 + j) u ((enCells_at es i x hx j hj).trans hu)
    rwa [← Nat.add_assoc] at this
  exact ⟨q 0 _ (by omega) rfl, q 1 _ (by omega) rfl, q 2 _ (by omega) rfl, q 3 _ (by omega) rfl, q 4 _ (by omega) rfl, q 5 _ (by omega) rfl⟩

theorem len_any {w : World} {r T : Nat} {o : Option Nat} {es : List En} (h : AgAt w r o T es) : Calls Try.prog 16 #[.pointer (some ⟨r, 0, none⟩)] w fun e w' => e = .returned (.int .i64 es.length) ∧ w = w' := by
  obtain ⟨p, cap, h1, h2, c0, c1, f0, f1, h3⟩ := h.cells
  clear h1 h2 h h3
  go_enter Try.func16, Try.ntmps16
  go_wp2
  go_ret
  exact ⟨rfl, rfl⟩
end Go.Proofs.Ytmkdboiajjkghaa
