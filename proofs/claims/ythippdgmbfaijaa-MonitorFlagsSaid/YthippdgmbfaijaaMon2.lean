/- Records and reports in memory; what asks one of them. -/
import Derived.Test.YthippdgmbfaijaaMon
namespace Go.Proofs.Ythippdgmbfaijaa
open Go Go.RowKit

theorem clamp_any (n : Int) (w : World) : Calls Try.prog 6 #[.int .i64 n] w (RetI (cl n) w) := by
  by_cases h1 : n < -1099511627776
  · have e := Lib.hid (cl_lo h1)
    go_enter Try.func6, Try.ntmps6
    go_wp2
    go_ret
    exact ⟨ret_int (by rw [e.out]), rfl⟩
  · by_cases h2 : 1099511627776 < n
    · have e := Lib.hid (cl_hi h2)
      go_enter Try.func6, Try.ntmps6
      go_wp2
      go_ret
      exact ⟨ret_int (by rw [e.out]), rfl⟩
    · have e := Lib.hid (cl_in (n := n) (by omega) (by omega))
      go_enter Try.func6, Try.ntmps6
      go_wp2
      go_ret
      exact ⟨ret_int (by rw [e.out]), rfl⟩

/-- A record. -/
structure RecV where
  at_ : Int
  k : Int
  t : Int
  j : Int
  op : Int
  c : Int
  v : Int
def RecV.cells (r : RecV) : List Value := [.int .i64 r.at_, .int .i64 r.k, .int .i64 r.t, .int .i64 r.j, .int .i64 r.op, .int .i64 r.c, .int .i64 r.v]
def RecV.val (r : RecV) : Value := .agg #[.int .i64 r.at_, .int .i64 r.k, .int .i64 r.t, .int .i64 r.j, .int .i64 r.op, .int .i64 r.c, .int .i64 r.v]
structure RecAt (w : World) (g off : Nat) (x : RecV) : Prop where
  c0 : w.cell? ⟨g, off, none⟩ = some (.int .i64 x.at_)
  c1 : w.cell? ⟨g, off + 1, none⟩ = some (.int .i64 x.k)
  c2 : w.cell? ⟨g, off + 2, none⟩ = some (.int .i64 x.t)
  c3 : w.cell? ⟨g, off + 3, none⟩ = some (.int .i64 x.j)
  c4 : w.cell? ⟨g, off + 4, none⟩ = some (.int .i64 x.op)
  c5 : w.cell? ⟨g, off + 5, none⟩ = some (.int .i64 x.c)
  c6 : w.cell? ⟨g, off + 6, none⟩ = some (.int .i64 x.v)
/-- Records in memory. -/
def RecRow (w : World) (A : Option Addr) (l : List RecV) : Prop :=
  ∀ (k : Nat) x, l[k]? = some x → ∃ b off, A = some ⟨b, off, none⟩ ∧ b < w.heap.size ∧ RecAt w b (off + k * 7) x
/-- The blocks of a slice. -/
def inA (A : Option Addr) (n k : Nat) : Prop := 0 < n ∧ ∃ b off, A = some ⟨b, off, none⟩ ∧ k = b
theorem RecRow.kept {S : Nat → Prop} {w w' : World} {A : Option Addr} {l : List RecV} (h : RecRow w A l) (ho : Only S w w') (hS : ∀ k, S k → ¬ inA A l.length k) : RecRow w' A l := fun k x hx => by
  obtain ⟨b, off, rfl, hb, h⟩ := h k x hx
  have hn : ¬ S b := fun hs => hS b hs ⟨by have := (List.getElem?_eq_some_iff.1 hx).1; omega, b, off, rfl, rfl⟩
  exact ⟨b, off, rfl, Nat.lt_of_lt_of_le hb ho.size, ho.cell h.c0 hn, ho.cell h.c1 hn, ho.cell h.c2 hn, ho.cell h.c3 hn, ho.cell h.c4 hn, ho.cell h.c5 hn, ho.cell h.c6 hn⟩
theorem RecRow.lt {w : World} {A : Option Addr} {l : List RecV} (h : RecRow w A l) {k : Nat} (hk : inA A l.length k) : k < w.heap.size := by
  obtain ⟨h0, b, off, hA, rfl⟩ := hk
  obtain ⟨b', off', hA', hb, -⟩ := h 0 l[0] (List.getElem?_eq_getElem h0)
  rw [hA] at hA'
  cases hA'
  exact hb
theorem RecRow.new {w w' : World} {A : Option Addr} {l : List RecV} (h : RecRow w A l) (ho : Only (fun _ => False) w w') : RecRow w' A l := h.kept ho (fun _ h => h.elim)

def isRel (r : RecV) : Bool := decide (r.k = 1 ∨ r.k = 2)
theorem isRel_any (r : RecV) (w : World) : Calls Try.prog 20 #[r.val] w (GrowB (isRel r) w) := by
  have hO := Lib.hid ((Only.refl (fun _ => False) w).alloc (.cells r.cells.toArray 33))
  have hb := heap_new_at w (.cells r.cells.toArray 33) rfl
  have c1 := row_cell hb (i := 1) rfl
  obtain ⟨B, hB⟩ : ∃ B, B = isRel r := ⟨_, rfl⟩
  rw [← hB]
  obtain ⟨a, k, t, j, op, c, v⟩ := r
  unfold RecV.val
  unfold RecV.cells at c1 hO
  clear hb
  unfold isRel at hB
  dsimp only at hB ⊢ c1
  by_cases h1 : k = 1
  · subst h1
    have hB' := Lib.hid (show B = true by rw [hB]; simp)
    clear hB
    go_enter Try.func20, Try.ntmps20
    go_wp2
    go_ret
    exact ⟨ret_bool hB'.out.symm, hO.out⟩
  · by_cases h2 : k = 2
    · subst h2
      have hB' := Lib.hid (show B = true by rw [hB]; simp)
      clear hB
      go_enter Try.func20, Try.ntmps20
      go_wp2
      go_ret
      exact ⟨ret_bool hB'.out.symm, hO.out⟩
    · have hB' := Lib.hid (show B = false by rw [hB]; exact decide_eq_false (by omega))
      have e1 : (k == 1) = false := by simp; omega
      have e2 : (k == 2) = false := by simp; omega
      clear hB
      go_enter Try.func20, Try.ntmps20
      go_wp2
      go_ret
      exact ⟨ret_bool hB'.out.symm, hO.out⟩

def hasF (n : Nat) (t : Int) : Bool := decide (0 ≤ t ∧ t < n)
theorem has_any (c : ConfV) (t : Int) (w : World) : Calls Try.prog 14 #[c.val, .int .i64 t] w (GrowB (hasF c.ta.n t) w) := by
  have hO := Lib.hid ((Only.refl (fun _ => False) w).alloc (.cells c.cells.toArray 27))
  have hb := heap_new_at w (.cells c.cells.toArray 27) rfl
  have c1 := row_cell hb (i := 8) rfl
  obtain ⟨B, hB⟩ : ∃ B, B = hasF c.ta.n t := ⟨_, rfl⟩
  rw [← hB]
  unfold ConfV.val
  unfold ConfV.cells at c1 hO
  clear hb
  obtain ⟨s, wy, h, mi, mb, g, cn, ce, ⟨tA, tn, tc⟩, li⟩ := c
  unfold hasF at hB
  dsimp only at hB ⊢ c1
  by_cases h1 : 0 ≤ t
  · by_cases h2 : t < tn
    · have hB' := Lib.hid (show B = true by rw [hB]; exact decide_eq_true ⟨h1, h2⟩)
      clear hB
      go_enter Try.func14, Try.ntmps14
      go_wp2
      go_ret
      exact ⟨ret_bool hB'.out.symm, hO.out⟩
    · have hB' := Lib.hid (show B = false by rw [hB]; exact decide_eq_false (by omega))
      clear hB
      go_enter Try.func14, Try.ntmps14
      go_wp2
      go_ret
      exact ⟨ret_bool hB'.out.symm, hO.out⟩
  · have hB' := Lib.hid (show B = false by rw [hB]; exact decide_eq_false (by omega))
    clear hB
    go_enter Try.func14, Try.ntmps14
    go_wp2
    go_ret
    exact ⟨ret_bool hB'.out.symm, hO.out⟩
end Go.Proofs.Ythippdgmbfaijaa
