/- CeilingPlays: the locks and the rows of holders beside them. -/
import Derived.Test.YtcbdmjkceinanaaFixed13
import Derived.Test.YtcbdmjkceinanaaPlays14a
namespace Go.Proofs.Ytcbdmjkceinanaa
open Go Go.RowKit

def iCells (F : Nat → Int) (n : Nat) : List Value := (List.range n).map fun i => .int .i64 (F i)
theorem iCells_at (F : Nat → Int) {n i : Nat} (h : i < n) : (iCells F n)[i]? = some (.int .i64 (F i)) := by
  unfold iCells
  rw [List.getElem?_map, List.getElem?_range h]
  rfl
theorem iCells_set (F : Nat → Int) (n i : Nat) (x : Int) : (iCells F n).set i (.int .i64 x) = iCells (upd F i x) n := by
  unfold iCells
  rw [map_set]
  congr 1
  funext j
  by_cases hj : j = i
  · subst hj; rw [upd_self, upd_self]
  · rw [upd_ne _ _ hj, upd_ne _ _ hj]
theorem iCells_zero (n : Nat) : List.replicate n (Value.int .i64 0) = iCells (fun _ => 0) n := by
  apply List.ext_getElem?
  intro j
  by_cases h : j < n
  · rw [iCells_at _ h, List.getElem?_replicate, if_pos h]
  · rw [List.getElem?_eq_none (by simp; omega), List.getElem?_eq_none (by unfold iCells; simp; omega)]
theorem bCells_congr {F G : Nat → Bool} {n : Nat} (h : ∀ i, i < n → F i = G i) : bCells F n = bCells G n := by
  unfold bCells
  apply List.map_congr_left
  intro i hi
  rw [h i (by simpa using hi)]
theorem run_make_ints (w : World) (n : Nat) (hn : n ≤ 4096) : (Instr.makeSlice 22 (.int .i64 (n : Int)) (.int .i64 (n : Int))).run Try.prog w = .ok (.slice (some ⟨w.heap.size, 0, none⟩) n n) (w.alloc (.cells (iCells (fun _ => 0) n).toArray 3)) := by
  have h := run_make_list (P := Try.prog) w 22 3 (.int .i64 0) 8 Try.underlying22 (by kernel_rfl) rfl n (by omega) (by omega)
  rw [iCells_zero] at h
  exact h

/-- The locks (z, h, d) and the rows of what is held (D), by whom (y). -/
def CR (w : World) (B b g H Y n : Nat) (z h : Nat → Int) (d D : Nat → Bool) (y : Nat → Int) (ws : World) : Prop :=
  LkAt ws b g n z h d ∧ ws.heap[H]? = some (.cells (bCells D n).toArray 4 (0, 0)) ∧ ws.heap[Y]? = some (.cells (iCells y n).toArray 3 (0, 0)) ∧
    (H ≠ b ∧ H ≠ g ∧ Y ≠ b ∧ Y ≠ g ∧ H ≠ Y) ∧ (B ≤ b ∧ B ≤ g ∧ B ≤ H ∧ B ≤ Y) ∧ Only (fun x => B ≤ x) w ws
/-- With an act laid at X. -/
def CX (w : World) (B b g H Y X n : Nat) (z : Nat → Int) (K I O : Int) (h : Nat → Int) (d D : Nat → Bool) (y : Nat → Int) (ws : World) : Prop :=
  CR w B b g H Y n z h d D y ws ∧ ws.heap[X]? = some (.cells #[.int .u8 K, .int .i64 I, .int .i64 O] 29 (0, 0)) ∧ X ≠ b ∧ X ≠ g ∧ X ≠ H ∧ X ≠ Y
/-- The rows tell what the locks hold. -/
def Tied (n : Nat) (h : Nat → Int) (d D : Nat → Bool) (y : Nat → Int) : Prop := ∀ i, i < n → d i = D i ∧ (D i = true → h i = y i)
theorem Tied.mine {n : Nat} {h : Nat → Int} {d D : Nat → Bool} {y : Nat → Int} (t : Tied n h d D y) (who : Int) : ∀ i, i < n → mine h d who i = mine y D who i := fun i hi => by
  obtain ⟨a, b⟩ := t i hi
  unfold Go.Proofs.Ytcbdmjkceinanaa.mine
  rw [a]
  cases hD : D i with
  | false => rfl
  | true => rw [b hD]
theorem Tied.lock {n : Nat} {h : Nat → Int} {d D : Nat → Bool} {y : Nat → Int} (t : Tied n h d D y) (i : Nat) (x : Int) : Tied n (upd h i x) (upd d i true) (upd D i true) (upd y i x) := fun j hj => by
  by_cases hji : j = i
  · subst hji
    simp only [upd_self, implies_true, and_self]
  · rw [upd_ne _ _ hji, upd_ne _ _ hji, upd_ne _ _ hji, upd_ne _ _ hji]
    exact t j hj
theorem Tied.unlock {n : Nat} {h : Nat → Int} {d D : Nat → Bool} {y : Nat → Int} (t : Tied n h d D y) (i : Nat) (x : Int) : Tied n (upd h i x) (upd d i false) (upd D i false) y := fun j hj => by
  by_cases hji : j = i
  · subst hji
    rw [upd_self, upd_self]
    exact ⟨rfl, fun h => by cases h⟩
  · rw [upd_ne _ _ hji, upd_ne _ _ hji, upd_ne _ _ hji]
    exact t j hj
/-- What is held behind the first k places of a freeing of all that p holds of. -/
def partD (D p : Nat → Bool) (k : Nat) : Nat → Bool := fun j => if j < k ∧ p j = true then false else D j
theorem partD_zero (D p : Nat → Bool) : partD D p 0 = D := by
  funext j
  unfold partD
  rw [if_neg (by omega)]
theorem partD_at (D p : Nat → Bool) (k : Nat) : partD D p k k = D k := by
  unfold partD
  rw [if_neg (by omega)]
theorem partD_yes {D p : Nat → Bool} {k : Nat} (h : p k = true) : upd (partD D p k) k false = partD D p (k + 1) := by
  funext j
  unfold partD
  by_cases hj : j = k
  · subst hj
    rw [upd_self, if_pos ⟨by omega, h⟩]
  · rw [upd_ne _ _ hj]
    by_cases hp : j < k ∧ p j = true
    · rw [if_pos hp, if_pos ⟨by omega, hp.2⟩]
    · rw [if_neg hp, if_neg (fun e => hp ⟨by omega, e.2⟩)]
theorem partD_no {D p : Nat → Bool} {k : Nat} (h : p k = false) : partD D p k = partD D p (k + 1) := by
  funext j
  unfold partD
  by_cases hj : j = k
  · subst hj
    rw [if_neg (by omega), if_neg (by rw [h]; simp)]
  · by_cases hp : j < k ∧ p j = true
    · rw [if_pos hp, if_pos ⟨by omega, hp.2⟩]
    · rw [if_neg hp, if_neg (fun e => hp ⟨by omega, e.2⟩)]
theorem Tied.free {n : Nat} {h : Nat → Int} {d D : Nat → Bool} {y : Nat → Int} (t : Tied n h d D y) (who : Int) : Tied n (offH h (Go.Proofs.Ytcbdmjkceinanaa.mine h d who)) (offD d (Go.Proofs.Ytcbdmjkceinanaa.mine h d who)) (partD D (Go.Proofs.Ytcbdmjkceinanaa.mine y D who) n) y := fun i hi => by
  have e := t.mine who i hi
  obtain ⟨a, b⟩ := t i hi
  unfold offH offD partD
  rw [e]
  by_cases hp : Go.Proofs.Ytcbdmjkceinanaa.mine y D who i = true
  · rw [if_pos hp, if_pos ⟨hi, hp⟩]
    exact ⟨rfl, fun h => by cases h⟩
  · rw [if_neg hp, if_neg (fun h => hp h.2), if_neg hp]
    exact ⟨a, b⟩

section
variable {w ws w' : World} {B b g H Y X n : Nat} {z : Nat → Int} {K I O : Int} {h : Nat → Int} {d D : Nat → Bool} {y : Nat → Int} {h' : Nat → Int} {d' : Nat → Bool}
theorem CR.only (c : CR w B b g H Y n z h d D y ws) : Only (fun x => B ≤ x) w ws := c.2.2.2.2.2
theorem CX.only (c : CX w B b g H Y X n z K I O h d D y ws) : Only (fun x => B ≤ x) w ws := c.1.only
theorem CR.start (c : LkAt ws b g n z (fun _ => 0) (fun _ => false) ∧ Only (fun x => B ≤ x) w ws ∧ B ≤ b ∧ B ≤ g) (hH : H = ws.heap.size) (hY : Y = ws.heap.size + 1) :
    CR w B b g H Y n z (fun _ => 0) (fun _ => false) (fun _ => false) (fun _ => 0) ((ws.alloc (.cells (bCells (fun _ => false) n).toArray 4)).alloc (.cells (iCells (fun _ => 0) n).toArray 3)) := by
  obtain ⟨h1, h2, h3, h4⟩ := c
  obtain ⟨l1, l2⟩ := h1.lt
  have hs := h2.size
  subst hH hY
  exact ⟨h1.new (((Only.refl (fun _ => False) ws).alloc _).alloc _), heap_kept_alloc (heap_new_at ws _ rfl) _, heap_new_at _ _ (by simp), by omega, by omega, (h2.alloc _).alloc _⟩
theorem CR.act (c : CR w B b g H Y n z h d D y ws) (K I O : Int) {X : Nat} (hX : X = ws.heap.size) : CX w B b g H Y X n z K I O h d D y (ws.alloc (.cells #[.int .u8 K, .int .i64 I, .int .i64 O] 29)) := by
  obtain ⟨h1, h2, h3, h4, h5, h6⟩ := c
  obtain ⟨l1, l2⟩ := h1.lt
  have l3 := row_lt h2
  have l4 := row_lt h3
  refine ⟨⟨h1.new ((Only.refl (fun _ => False) ws).alloc _), heap_kept_alloc h2 _, heap_kept_alloc h3 _, h4, h5, h6.alloc _⟩, heap_new_at _ _ hX.symm, ?_, ?_, ?_, ?_⟩ <;> omega
theorem CX.acts (c : CX w B b g H Y X n z K I O h d D y ws) : ws.cell? ⟨X, 0, none⟩ = some (.int .u8 K) ∧ ws.cell? ⟨X, 1, none⟩ = some (.int .i64 I) ∧ ws.cell? ⟨X, 2, none⟩ = some (.int .i64 O) ∧ X < ws.heap.size :=
  ⟨by simp [World.cell?, c.2.1], by simp [World.cell?, c.2.1], by simp [World.cell?, c.2.1], row_lt c.2.1⟩
theorem CR.rows (c : CR w B b g H Y n z h d D y ws) {i : Nat} (hi : i < n) : ws.cell? ⟨H, i, none⟩ = some (.bool (D i)) ∧ ws.cell? ⟨Y, i, none⟩ = some (.int .i64 (y i)) ∧ ws.frozen? ⟨H, i, none⟩ = false ∧ ws.frozen? ⟨Y, i, none⟩ = false :=
  ⟨row_cell c.2.1 (bCells_at D hi), row_cell c.2.2.1 (iCells_at y hi), row_free c.2.1 _, row_free c.2.2.1 _⟩
theorem CX.turned (c : CX w B b g H Y X n z K I O h d D y ws) (h2 : LkAt w' b g n z h' d') (ho : Only (fun k => k = g) ws w') : CX w B b g H Y X n z K I O h' d' D y w' := by
  obtain ⟨⟨_, k2, k3, k4, k5, k6⟩, kx, x1, x2, x3, x4⟩ := c
  exact ⟨⟨h2, ho.heap k2 k4.2.1, ho.heap k3 k4.2.2.2.1, k4, k5, k6.trans ho (fun y _ e => by subst e; exact k5.2.1)⟩, ho.heap kx x2, x1, x2, x3, x4⟩
theorem CX.drewN (c : CX w B b g H Y X n z K I O h d D y ws) (k : Nat) : CX w B b g H Y X n z K I O h d D y (ws.drewN k) := c.turned (c.1.1.new ((Only.refl (fun _ => False) ws).drewN k)) ((Only.refl (fun k => k = g) ws).drewN k)
theorem CX.drew (c : CX w B b g H Y X n z K I O h d D y ws) : CX w B b g H Y X n z K I O h d D y ws.drew := c.turned (c.1.1.new (Only.refl (fun _ => False) ws).drew) (Only.refl (fun k => k = g) ws).drew
theorem CX.new (c : CX w B b g H Y X n z K I O h d D y ws) (ho : Only (fun _ => False) ws w') : CX w B b g H Y X n z K I O h d D y w' := c.turned (c.1.1.new ho) (ho.mono (fun _ _ h => h.elim))
theorem CX.setH (c : CX w B b g H Y X n z K I O h d D y ws) (i : Nat) (x : Bool) : CX w B b g H Y X n z K I O h d (upd D i x) y (ws.setCell ⟨H, i, none⟩ (.bool x)) := by
  obtain ⟨⟨k1, k2, k3, k4, k5, k6⟩, kx, x1, x2, x3, x4⟩ := c
  refine ⟨⟨k1.kept ((Only.refl (fun k => k = H) ws).setCell (p := ⟨H, i, none⟩) (fun _ => rfl) _) (fun e => k4.1 e.symm) (fun e => k4.2.1 e.symm), ?_, heap_kept_set k3 (fun e => k4.2.2.2.2 e.symm) _, k4, k5, k6.setCell (p := ⟨H, i, none⟩) (fun _ => k5.2.2.1) _⟩, heap_kept_set kx x3 _, x1, x2, x3, x4⟩
  rw [← bCells_set]
  exact row_set k2 _ _
theorem CX.setY (c : CX w B b g H Y X n z K I O h d D y ws) (i : Nat) (x : Int) : CX w B b g H Y X n z K I O h d D (upd y i x) (ws.setCell ⟨Y, i, none⟩ (.int .i64 x)) := by
  obtain ⟨⟨k1, k2, k3, k4, k5, k6⟩, kx, x1, x2, x3, x4⟩ := c
  refine ⟨⟨k1.kept ((Only.refl (fun k => k = Y) ws).setCell (p := ⟨Y, i, none⟩) (fun _ => rfl) _) (fun e => k4.2.2.1 e.symm) (fun e => k4.2.2.2.1 e.symm), heap_kept_set k2 k4.2.2.2.2 _, ?_, k4, k5, k6.setCell (p := ⟨Y, i, none⟩) (fun _ => k5.2.2.2) _⟩, heap_kept_set kx x4 _, x1, x2, x3, x4⟩
  rw [← iCells_set]
  exact row_set k3 _ _
end

/-- What the switch on an act leaves. -/
def CEnd (w : World) (B b g H Y X n : Nat) (z : Nat → Int) (K I O : Int) (ws : World) : Prop := ∃ h d D y, CX w B b g H Y X n z K I O h d D y ws ∧ Tied n h d D y

theorem open_acts13 {H : Type} {enc : TypeId × Value → H} {w : World} {a : Option Addr} {len cap : Nat} {d : DataW H} {ps : List MemPlace} (h : DataW.Trod enc Try.prog w 0 (fun _ => true) true 23 (.slice a len cap) d ps) :
    ∃ z : Nat → Nat → Value, Acts w a len [.int .u8, .int .i64, .int .i64] z := by
  have cI : Try.prog.cellsOf 3 = 1 := by kernel_rfl
  have cB : Try.prog.cellsOf 5 = 1 := by kernel_rfl
  have c29 : Try.prog.cellsOf 29 = 3 := by kernel_rfl
  refine open_acts [.int .u8, .int .i64, .int .i64] Try.underlying23 Try.underlying29 c29 rfl (by decide) (fun i f hi => ?_) h
  match i with
  | 0 => cases hi; exact ⟨rfl, cB, Try.underlying5⟩
  | 1 => cases hi; exact ⟨rfl, cI, Try.underlying3⟩
  | 2 => cases hi; exact ⟨rfl, cI, Try.underlying3⟩
  | i + 3 => simp at hi
end Go.Proofs.Ytcbdmjkceinanaa
