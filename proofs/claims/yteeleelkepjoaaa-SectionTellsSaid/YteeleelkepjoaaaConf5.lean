/- Rows of tasks; priorities held; locks below. -/
import Derived.Test.YteeleelkepjoaaaConf4
namespace Go.Proofs.Yteeleelkepjoaaa
open Go Go.RowKit

structure TaskCells (w : World) (b off : Nat) (t : TaskV) : Prop where
  c0 : w.cell? ⟨b, off, none⟩ = some (.int .i64 t.p)
  c1 : w.cell? ⟨b, off + 1, none⟩ = some (.int .i64 t.th)
  c2 : w.cell? ⟨b, off + 2, none⟩ = some (.int .i64 t.pe)
  c3 : w.cell? ⟨b, off + 3, none⟩ = some (.int .i64 t.de)
  c4 : w.cell? ⟨b, off + 4, none⟩ = some (.int .i64 t.fr)
  c5 : w.cell? ⟨b, off + 5, none⟩ = some (.int .i64 t.fl)
  c6 : w.cell? ⟨b, off + 6, none⟩ = some (.slice t.o.A t.o.n t.o.cap)
theorem TaskCells.new {w w' : World} {b off : Nat} {t : TaskV} (h : TaskCells w b off t) (ho : Only (fun _ => False) w w') : TaskCells w' b off t :=
  ⟨ho.cell h.c0 (fun h => h), ho.cell h.c1 (fun h => h), ho.cell h.c2 (fun h => h), ho.cell h.c3 (fun h => h), ho.cell h.c4 (fun h => h), ho.cell h.c5 (fun h => h), ho.cell h.c6 (fun h => h)⟩
/-- Tasks in memory. -/
structure TasksAt (w : World) (x : Sl) (l : List TaskV) : Prop where
  len : l.length = x.n
  cap : x.n ≤ x.cap
  at_ : ∀ (k : Nat) t, l[k]? = some t → ∃ b off, x.A = some ⟨b, off, none⟩ ∧ b < w.heap.size ∧ TaskCells w b (off + k * 7) t
theorem TasksAt.new {w w' : World} {x : Sl} {l : List TaskV} (h : TasksAt w x l) (ho : Only (fun _ => False) w w') : TasksAt w' x l :=
  ⟨h.len, h.cap, fun k t ht => by
    obtain ⟨b, off, hA, hb, hc⟩ := h.at_ k t ht
    exact ⟨b, off, hA, Nat.lt_of_lt_of_le hb ho.size, hc.new ho⟩⟩
theorem TasksAt.take {w : World} {x : Sl} {l : List TaskV} (h : TasksAt w x l) {i : Nat} (hi : i ≤ x.n) : TasksAt w ⟨x.A, i, x.cap⟩ (l.take i) :=
  ⟨by rw [List.length_take, h.len]; exact Nat.min_eq_left hi, Nat.le_trans hi h.cap, fun k t ht => by
    by_cases hk : k < i
    · rw [List.getElem?_take_of_lt hk] at ht
      exact h.at_ k t ht
    · rw [List.getElem?_take] at ht
      simp [hk] at ht⟩

/-- What a search answers. -/
def IdxEnd (v : Bool) (w : World) (e : Ending) (w' : World) : Prop :=
  ∃ z : Int, e = .returned (.int .i64 z) ∧ (0 ≤ z ↔ v = true) ∧ -1 ≤ z ∧ z ≤ 1000000 ∧ Only (fun _ => False) w w'

theorem any_not {α : Type} {l : List α} {f : α → Bool} (h : ∀ (k : Nat) t, l[k]? = some t → f t = false) : l.any f = false := by
  rw [List.any_eq_false]
  intro t ht
  obtain ⟨k, hk⟩ := List.getElem?_of_mem ht
  simp [h k t hk]
theorem any_yes {α : Type} {l : List α} {f : α → Bool} {k : Nat} {t : α} (hk : l[k]? = some t) (h : f t = true) : l.any f = true :=
  List.any_eq_true.2 ⟨t, List.mem_of_getElem? hk, h⟩

end Go.Proofs.Yteeleelkepjoaaa
