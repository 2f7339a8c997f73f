/- LinesPlay: the lines and the two rows beside them. -/
import Derived.Test.YtcbdmjkceinanaaFixed14
import Derived.Test.YtcbdmjkceinanaaActs
namespace Go.Proofs.Ytcbdmjkceinanaa
open Go Go.RowKit

def bCells (F : Nat → Bool) (n : Nat) : List Value := (List.range n).map fun i => .bool (F i)
theorem bCells_at (F : Nat → Bool) {n i : Nat} (h : i < n) : (bCells F n)[i]? = some (.bool (F i)) := by
  unfold bCells
  rw [List.getElem?_map, List.getElem?_range h]
  rfl
theorem bCells_set (F : Nat → Bool) (n i : Nat) (x : Bool) : (bCells F n).set i (.bool x) = bCells (upd F i x) n := by
  unfold bCells
  apply List.ext_getElem?
  intro j
  rw [List.getElem?_set]
  by_cases h : j < n
  · rw [List.getElem?_map, List.getElem?_map, List.getElem?_range h]
    by_cases hij : i = j
    · subst hij
      rw [if_pos rfl, if_pos (by simpa using h)]
      simp [upd_self]
    · rw [if_neg hij]
      simp only [Option.map_some]
      rw [upd_ne _ _ (fun e => hij e.symm)]
  · rw [List.getElem?_eq_none (by simp; omega), List.getElem?_eq_none (by simp; omega)]
    split <;> simp_all
theorem bCells_zero (n : Nat) : List.replicate n (Value.bool false) = bCells (fun _ => false) n := by
  apply List.ext_getElem?
  intro j
  by_cases h : j < n
  · rw [bCells_at _ h, List.getElem?_replicate, if_pos h]
  · rw [List.getElem?_eq_none (by simp; omega), List.getElem?_eq_none (by unfold bCells; simp; omega)]
theorem run_make_bools (w : World) (n : Nat) (hn : n ≤ 4096) : (Instr.makeSlice 27 (.int .i64 (n : Int)) (.int .i64 (n : Int))).run Try.prog w = .ok (.slice (some ⟨w.heap.size, 0, none⟩) n n) (w.alloc (.cells (bCells (fun _ => false) n).toArray 4)) := by
  have h := run_make_list (P := Try.prog) w 27 4 (.bool false) 1 Try.underlying27 (by kernel_rfl) rfl n (by omega) (by omega)
  rw [bCells_zero] at h
  exact h

/-- The lines (f, m) and the rows of what is masked and latched (F, M). -/
def LR (w : World) (B b g U V n : Nat) (f m F M : Nat → Bool) (ws : World) : Prop :=
  LinesAt ws b g n f m ∧ ws.heap[U]? = some (.cells (bCells F n).toArray 4 (0, 0)) ∧ ws.heap[V]? = some (.cells (bCells M n).toArray 4 (0, 0)) ∧
    (U ≠ b ∧ U ≠ g ∧ V ≠ b ∧ V ≠ g ∧ U ≠ V) ∧ (B ≤ b ∧ B ≤ g ∧ B ≤ U ∧ B ≤ V) ∧ Only (fun x => B ≤ x) w ws
/-- With an act laid at X. -/
def LX (w : World) (B b g U V X n : Nat) (K I : Int) (f m F M : Nat → Bool) (ws : World) : Prop :=
  LR w B b g U V n f m F M ws ∧ ws.heap[X]? = some (.cells #[.int .u8 K, .int .i64 I] 44 (0, 0)) ∧ X ≠ b ∧ X ≠ g ∧ X ≠ U ∧ X ≠ V

section
variable {w ws w' : World} {B b g U V X n : Nat} {K I : Int} {f m F M f' m' : Nat → Bool}
theorem LR.only (h : LR w B b g U V n f m F M ws) : Only (fun x => B ≤ x) w ws := h.2.2.2.2.2
theorem LX.lr (h : LX w B b g U V X n K I f m F M ws) : LR w B b g U V n f m F M ws := h.1
theorem LX.only (h : LX w B b g U V X n K I f m F M ws) : Only (fun x => B ≤ x) w ws := h.1.only
theorem LR.act (h : LR w B b g U V n f m F M ws) (K I : Int) {Y : Nat} (hY : Y = ws.heap.size) : LX w B b g U V Y n K I f m F M (ws.alloc (.cells #[.int .u8 K, .int .i64 I] 44)) := by
  obtain ⟨h1, h2, h3, h4, h5, h6⟩ := h
  have l1 : b < ws.heap.size := by obtain ⟨t, hb⟩ := h1.box; exact row_lt hb
  have l2 : g < ws.heap.size := row_lt h1.row
  have l3 := row_lt h2
  have l4 := row_lt h3
  refine ⟨⟨h1.kept ((Only.refl (fun _ => False) ws).alloc _) (fun h => h) (fun h => h), heap_kept_alloc h2 _, heap_kept_alloc h3 _, h4, h5, h6.alloc _⟩, heap_new_at _ _ hY.symm, ?_, ?_, ?_, ?_⟩ <;> omega
theorem LR.start (h : LinesAt ws b g n (fun _ => false) (fun _ => false) ∧ Only (fun x => B ≤ x) w ws ∧ B ≤ b ∧ B ≤ g) (hU : (U = ws.heap.size ∧ V = ws.heap.size + 1) ∨ (U = ws.heap.size + 1 ∧ V = ws.heap.size)) :
    LR w B b g U V n (fun _ => false) (fun _ => false) (fun _ => false) (fun _ => false) ((ws.alloc (.cells (bCells (fun _ => false) n).toArray 4)).alloc (.cells (bCells (fun _ => false) n).toArray 4)).drew := by
  obtain ⟨h1, h2, h3, h4⟩ := h
  have l1 : b < ws.heap.size := by obtain ⟨t, hb⟩ := h1.box; exact row_lt hb
  have l2 : g < ws.heap.size := row_lt h1.row
  have hs := h2.size
  have r1 : ((ws.alloc (.cells (bCells (fun _ => false) n).toArray 4)).alloc (.cells (bCells (fun _ => false) n).toArray 4)).heap[ws.heap.size]? = some (.cells (bCells (fun _ => false) n).toArray 4 (0, 0)) := heap_kept_alloc (heap_new_at ws _ rfl) _
  have r2 : ((ws.alloc (.cells (bCells (fun _ => false) n).toArray 4)).alloc (.cells (bCells (fun _ => false) n).toArray 4)).heap[ws.heap.size + 1]? = some (.cells (bCells (fun _ => false) n).toArray 4 (0, 0)) := heap_new_at _ _ (by simp)
  have hk := h1.kept ((((Only.refl (fun _ => False) ws).alloc (.cells (bCells (fun _ => false) n).toArray 4)).alloc (.cells (bCells (fun _ => false) n).toArray 4)).drew) (fun h => h) (fun h => h)
  have hO := ((h2.alloc (.cells (bCells (fun _ => false) n).toArray 4)).alloc (.cells (bCells (fun _ => false) n).toArray 4)).drew
  rcases hU with ⟨rfl, rfl⟩ | ⟨rfl, rfl⟩
  · exact ⟨hk, r1, r2, by omega, by omega, hO⟩
  · exact ⟨hk, r2, r1, by omega, by omega, hO⟩
theorem LX.drew (h : LX w B b g U V X n K I f m F M ws) : LX w B b g U V X n K I f m F M ws.drew := by
  obtain ⟨⟨k1, k2, k3, k4, k5, k6⟩, kx⟩ := h
  exact ⟨⟨k1.kept (Only.refl (fun _ => False) ws).drew (fun h => h) (fun h => h), k2, k3, k4, k5, k6.drew⟩, kx⟩
theorem LX.cells (h : LX w B b g U V X n K I f m F M ws) : ws.cell? ⟨X, 0, none⟩ = some (.int .u8 K) ∧ ws.cell? ⟨X, 1, none⟩ = some (.int .i64 I) ∧ X < ws.heap.size :=
  ⟨by simp [World.cell?, h.2.1], by simp [World.cell?, h.2.1], row_lt h.2.1⟩
theorem LX.rows (h : LX w B b g U V X n K I f m F M ws) {i : Nat} (hi : i < n) : ws.cell? ⟨U, i, none⟩ = some (.bool (F i)) ∧ ws.cell? ⟨V, i, none⟩ = some (.bool (M i)) ∧ ws.frozen? ⟨U, i, none⟩ = false ∧ ws.frozen? ⟨V, i, none⟩ = false :=
  ⟨row_cell h.1.2.1 (bCells_at F hi), row_cell h.1.2.2.1 (bCells_at M hi), row_free h.1.2.1 _, row_free h.1.2.2.1 _⟩
/-- Behind a call that turns the lines alone. -/
theorem LX.turned (h : LX w B b g U V X n K I f m F M ws) (h2 : LinesAt w' b g n f' m') (ho : Only (fun k => k = g) ws w') : LX w B b g U V X n K I f' m' F M w' := by
  obtain ⟨⟨_, k2, k3, k4, k5, k6⟩, kx, x1, x2, x3, x4⟩ := h
  exact ⟨⟨h2, ho.heap k2 k4.2.1, ho.heap k3 k4.2.2.2.1, k4, k5, k6.trans ho (fun y _ e => by subst e; exact k5.2.1)⟩, ho.heap kx x2, x1, x2, x3, x4⟩
theorem LX.setU (h : LX w B b g U V X n K I f m F M ws) (i : Nat) (x : Bool) : LX w B b g U V X n K I f m (upd F i x) M (ws.setCell ⟨U, i, none⟩ (.bool x)) := by
  obtain ⟨⟨k1, k2, k3, k4, k5, k6⟩, kx, x1, x2, x3, x4⟩ := h
  refine ⟨⟨k1.kept ((Only.refl (fun k => k = U) ws).setCell (p := ⟨U, i, none⟩) (fun _ => rfl) _) (fun e => k4.1 e.symm) (fun e => k4.2.1 e.symm), ?_, heap_kept_set k3 (fun e => k4.2.2.2.2 e.symm) _, k4, k5, k6.setCell (p := ⟨U, i, none⟩) (fun _ => k5.2.2.1) _⟩, heap_kept_set kx x3 _, x1, x2, x3, x4⟩
  rw [← bCells_set]
  exact row_set k2 _ _
theorem LX.setV (h : LX w B b g U V X n K I f m F M ws) (i : Nat) (x : Bool) : LX w B b g U V X n K I f m F (upd M i x) (ws.setCell ⟨V, i, none⟩ (.bool x)) := by
  obtain ⟨⟨k1, k2, k3, k4, k5, k6⟩, kx, x1, x2, x3, x4⟩ := h
  refine ⟨⟨k1.kept ((Only.refl (fun k => k = V) ws).setCell (p := ⟨V, i, none⟩) (fun _ => rfl) _) (fun e => k4.2.2.1 e.symm) (fun e => k4.2.2.2.1 e.symm), heap_kept_set k2 k4.2.2.2.2 _, ?_, k4, k5, k6.setCell (p := ⟨V, i, none⟩) (fun _ => k5.2.2.2) _⟩, heap_kept_set kx x4 _, x1, x2, x3, x4⟩
  rw [← bCells_set]
  exact row_set k3 _ _
theorem LX.raise (h : LX w B b g U V X n K I f m F M ws) {i : Nat} (hi : i < n) : Calls Try.prog 18 #[.pointer (some ⟨b, 0, none⟩), .int .i64 i] ws fun e w' => e = .returned (.tuple #[.bool (!f i), .int .i64 0]) ∧ LX w B b g U V X n K I f (upd m i (f i)) F M w' :=
  (raise_yes h.1.1 hi).mono fun _ _ ⟨e1, e2, e3⟩ => ⟨e1, h.turned e2 e3⟩
theorem LX.mask (h : LX w B b g U V X n K I f m F M ws) {i : Nat} (hi : i < n) : Calls Try.prog 19 #[.pointer (some ⟨b, 0, none⟩), .int .i64 i] ws fun e w' => e = .returned (.int .i64 0) ∧ LX w B b g U V X n K I (upd f i true) m F M w' :=
  (mask_yes h.1.1 hi).mono fun _ _ ⟨e1, e2, e3⟩ => ⟨e1, h.turned e2 e3⟩
theorem LX.unmask (h : LX w B b g U V X n K I f m F M ws) {i : Nat} (hi : i < n) : Calls Try.prog 20 #[.pointer (some ⟨b, 0, none⟩), .int .i64 i] ws fun e w' => e = .returned (.tuple #[.bool (m i), .int .i64 0]) ∧ LX w B b g U V X n K I (upd f i false) (upd m i false) F M w' :=
  (unmask_yes h.1.1 hi).mono fun _ _ ⟨e1, e2, e3⟩ => ⟨e1, h.turned e2 e3⟩
end

theorem open_acts14 {H : Type} {enc : TypeId × Value → H} {w : World} {a : Option Addr} {len cap : Nat} {d : DataW H} {ps : List MemPlace} (h : DataW.Trod enc Try.prog w 0 (fun _ => true) true 40 (.slice a len cap) d ps) :
    ∃ z : Nat → Nat → Value, Acts w a len [.int .u8, .int .i64] z := by
  have cI : Try.prog.cellsOf 3 = 1 := by kernel_rfl
  have cB : Try.prog.cellsOf 5 = 1 := by kernel_rfl
  have c44 : Try.prog.cellsOf 44 = 2 := by kernel_rfl
  refine open_acts [.int .u8, .int .i64] Try.underlying40 Try.underlying44 c44 rfl (by decide) (fun i f hi => ?_) h
  match i with
  | 0 => cases hi; exact ⟨rfl, cB, Try.underlying5⟩
  | 1 => cases hi; exact ⟨rfl, cI, Try.underlying3⟩
  | i + 2 => simp at hi
end Go.Proofs.Ytcbdmjkceinanaa
