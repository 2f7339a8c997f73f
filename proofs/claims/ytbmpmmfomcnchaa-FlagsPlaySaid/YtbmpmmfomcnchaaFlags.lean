/- Groups of flags: bytes in a row. -/
import Derived.Test.YtbmpmmfomcnchaaCounts
import Derived.Test.YtbmpmmfomcnchaaBits
namespace Go.Proofs.Ytbmpmmfomcnchaa
open Go Go.RowKit

def gCells (v : Nat → BitVec 8) (n : Nat) : List Value := (List.range n).map fun i => .int .u8 ((v i).toNat : Int)
theorem gCells_at (v : Nat → BitVec 8) {n i : Nat} (h : i < n) : (gCells v n)[i]? = some (.int .u8 ((v i).toNat : Int)) := by
  unfold gCells
  rw [List.getElem?_map, List.getElem?_range h]
  rfl
theorem gCells_set (v : Nat → BitVec 8) (n i : Nat) (x : BitVec 8) : (gCells v n).set i (.int .u8 (x.toNat : Int)) = gCells (upd v i x) n := by
  unfold gCells
  apply List.ext_getElem?
  intro j
  rw [List.getElem?_set]
  by_cases h : j < n
  · rw [List.getElem?_map, List.getElem?_map, List.getElem?_range h]
    by_cases hij : i = j
    · subst hij
      rw [if_pos rfl, if_pos (by simpa using h)]
      simp [upd_self]
    · rw [if_neg hij]
      simp only [Option.map_some]
      rw [upd_ne _ _ (fun e => hij e.symm)]
  · rw [List.getElem?_eq_none (by simp; omega), List.getElem?_eq_none (by simp; omega)]
    split <;> simp_all
theorem gCells_zero (n : Nat) : List.replicate n (Value.int .u8 0) = gCells (fun _ => 0#8) n := by
  apply List.ext_getElem?
  intro j
  by_cases h : j < n
  · rw [gCells_at _ h, List.getElem?_replicate, if_pos h]
    rfl
  · rw [List.getElem?_eq_none (by simp; omega), List.getElem?_eq_none (by unfold gCells; simp; omega)]

/-- The groups at block b: n of them in block g, their flags v. -/
structure GroupsAt (w : World) (b g n : Nat) (v : Nat → BitVec 8) : Prop where
  box : ∃ t, w.heap[b]? = some (.cells #[.slice (some ⟨g, 0, none⟩) n n] t (0, 0))
  row : w.heap[g]? = some (.cells (gCells v n).toArray 5 (0, 0))
  ne : b ≠ g

section
variable {w w' : World} {b g n : Nat} {v : Nat → BitVec 8}
theorem GroupsAt.kept {S : Nat → Prop} (h : GroupsAt w b g n v) (hw : Only S w w') (hb : ¬ S b) (hg : ¬ S g) : GroupsAt w' b g n v := by
  obtain ⟨⟨t, h1⟩, h2, h4⟩ := h
  exact ⟨⟨t, hw.heap h1 hb⟩, hw.heap h2 hg, h4⟩
theorem GroupsAt.new (h : GroupsAt w b g n v) (hw : Only (fun _ => False) w w') : GroupsAt w' b g n v := h.kept hw (fun h => h) (fun h => h)
theorem GroupsAt.cell (h : GroupsAt w b g n v) : w.cell? ⟨b, 0, none⟩ = some (.slice (some ⟨g, 0, none⟩) n n) := by
  obtain ⟨t, hb⟩ := h.box
  simp [World.cell?, hb]
theorem GroupsAt.cells (h : GroupsAt w b g n v) {i : Nat} (hi : i < n) : w.cell? ⟨g, i, none⟩ = some (.int .u8 ((v i).toNat : Int)) ∧ w.frozen? ⟨g, i, none⟩ = false :=
  ⟨row_cell h.row (gCells_at v hi), row_free h.row _⟩
theorem GroupsAt.set (h : GroupsAt w b g n v) (i : Nat) (x : BitVec 8) : GroupsAt (w.setCell ⟨g, i, none⟩ (.int .u8 (x.toNat : Int))) b g n (upd v i x) := by
  obtain ⟨⟨t, h1⟩, h2, h4⟩ := h
  refine ⟨⟨t, heap_kept_set h1 h4 _⟩, ?_, h4⟩
  rw [← gCells_set]
  exact row_set h2 _ _
end

theorem glen_nil (w : World) : Calls Try.prog 12 #[.pointer none] w fun e w' => e = .returned (.int .i64 0) ∧ w = w' := by
  go_enter Try.func12, Try.ntmps12
  go_wp2
  go_ret
  exact ⟨rfl, rfl⟩
theorem glen_any {w : World} {b g n : Nat} (h : w.cell? ⟨b, 0, none⟩ = some (.slice (some ⟨g, 0, none⟩) n n)) : Calls Try.prog 12 #[.pointer (some ⟨b, 0, none⟩)] w fun e w' => e = .returned (.int .i64 n) ∧ w = w' := by
  go_enter Try.func12, Try.ntmps12
  go_wp2
  go_ret
  exact ⟨rfl, rfl⟩

/-- How many groups there are. -/
def manyN (z : Int) : Nat := (min (max z 0) 4).toNat
theorem manyN_le (z : Int) : manyN z ≤ 4 := by
  unfold manyN
  omega
def GNewEnd (n : Nat) (w : World) (e : Ending) (w' : World) : Prop :=
  e = .returned (.pointer (some ⟨w.heap.size + 1, 0, none⟩)) ∧ GroupsAt w' (w.heap.size + 1) w.heap.size n (fun _ => 0#8) ∧ Only (fun _ => False) w w'
theorem gnew_end (w : World) (n : Nat) (t : TypeId) : GNewEnd n w (.returned (.pointer (some ⟨w.heap.size + 1, 0, none⟩))) ((w.alloc (.cells (List.replicate n (Value.int .u8 0)).toArray 5)).alloc (.cells #[.slice (some ⟨w.heap.size, 0, none⟩) n n] t)) := by
  refine ⟨rfl, ⟨⟨t, heap_new_at _ _ (by simp)⟩, ?_, by omega⟩, ((Only.refl _ w).alloc _).alloc _⟩
  rw [← gCells_zero]
  exact heap_kept_alloc (heap_new_at w _ rfl) _
theorem gnew_any (z : Int) (w : World) : Calls Try.prog 8 #[.int .i64 z] w (GNewEnd (manyN z) w) := by
  have mk := fun (n : Nat) (hn : n ≤ 4) => run_make_list (P := Try.prog) w 46 5 (.int .u8 0) 1 Try.underlying46 (by kernel_rfl) rfl n (by omega) (by omega)
  by_cases h1 : z < 0
  · have hm : manyN z = 0 := by unfold manyN; omega
    rw [hm]
    have hend := Lib.hid (gnew_end w 0)
    have mk0 : (Instr.makeSlice 46 (.int .i64 0) (.int .i64 0)).run Try.prog w = _ := mk 0 (by omega)
    clear mk hm
    go_enter Try.func8, Try.ntmps8
    go_wp2
    go_ret
    exact hend.out _
  · by_cases h2 : z ≤ 4
    · obtain ⟨n, rfl⟩ : ∃ n : Nat, z = n := ⟨z.toNat, by omega⟩
      have hm : manyN n = n := by unfold manyN; omega
      rw [hm]
      have hend := Lib.hid (gnew_end w n)
      have mk0 := mk n (by omega)
      clear mk hm
      go_enter Try.func8, Try.ntmps8
      go_wp2
      go_ret
      exact hend.out _
    · have hm : manyN z = 4 := by unfold manyN; omega
      rw [hm]
      have hend := Lib.hid (gnew_end w 4)
      have mk0 : (Instr.makeSlice 46 (.int .i64 4) (.int .i64 4)).run Try.prog w = _ := mk 4 (by omega)
      clear mk hm
      go_enter Try.func8, Try.ntmps8
      go_wp2
      go_ret
      exact hend.out _

theorem cl21 {W : World} {X : Nat} {z : Int} (hc : W.cell? ⟨X, 0, none⟩ = some (.int .i64 z)) (x : BitVec 8) : Calls Try.prog 21 #[.int .u8 (x.toNat : Int), .pointer (some ⟨X, 0, none⟩)] W fun e w' => e = .returned (.int .u8 ((x ||| low z).toNat : Int)) ∧ W = w' := by
  go_enter Try.func21, Try.ntmps21
  go_wp2
  go_ret
  exact ⟨by rw [bits_or_u8]; rfl, rfl⟩
theorem cl22 {W : World} {X : Nat} {z : Int} (hc : W.cell? ⟨X, 0, none⟩ = some (.int .i64 z)) (x : BitVec 8) : Calls Try.prog 22 #[.int .u8 (x.toNat : Int), .pointer (some ⟨X, 0, none⟩)] W fun e w' => e = .returned (.int .u8 ((x &&& ~~~ low z).toNat : Int)) ∧ W = w' := by
  go_enter Try.func22, Try.ntmps22
  go_wp2
  go_ret
  exact ⟨by rw [bits_not_u8]; rfl, rfl⟩
theorem cl23 (W : World) (x : BitVec 8) : Calls Try.prog 23 #[.int .u8 (x.toNat : Int)] W fun e w' => e = .returned (.int .u8 (x.toNat : Int)) ∧ W = w' := by
  go_enter Try.func23, Try.ntmps23
  go_wp2
  go_ret
  exact ⟨rfl, rfl⟩

theorem change_nil (F : Value) (i : Int) (w : World) : Calls Try.prog 20 #[.pointer none, .int .i64 i, F] w fun e w' => e = .returned (.tuple #[.int .i64 0, .int .i64 6]) ∧ w = w' := by
  by_cases h : i < 0
  · go_enter Try.func20, Try.ntmps20
    go_wp2
    go_ret2
    exact ⟨rfl, rfl⟩
  · have h1 : 0 ≤ i := by omega
    go_enter Try.func20, Try.ntmps20
    go_wp2_with (go_at_call 12; refine (glen_nil _).mono ?_; rintro e w' ⟨rfl, rfl⟩)
    go_ret2
    exact ⟨rfl, rfl⟩
theorem change_no {w : World} {b g n : Nat} (hc : w.cell? ⟨b, 0, none⟩ = some (.slice (some ⟨g, 0, none⟩) n n)) (F : Value) {i : Int} (hi : i < 0 ∨ n ≤ i) : Calls Try.prog 20 #[.pointer (some ⟨b, 0, none⟩), .int .i64 i, F] w fun e w' => e = .returned (.tuple #[.int .i64 0, .int .i64 6]) ∧ w = w' := by
  have hl := Lib.hid (glen_any hc)
  clear hc
  by_cases h : i < 0
  · clear hi
    go_enter Try.func20, Try.ntmps20
    go_wp2
    go_ret2
    exact ⟨rfl, rfl⟩
  · have h1 : (n : Int) ≤ i := by omega
    clear hi
    go_enter Try.func20, Try.ntmps20
    go_wp2_with (go_at_call 12; refine hl.out.mono ?_; rintro e w' ⟨rfl, rfl⟩)
    go_ret2
    exact ⟨rfl, rfl⟩
/-- What a change leaves. -/
def ChangeEnd (w : World) (b g n : Nat) (v : Nat → BitVec 8) (i : Nat) (x : BitVec 8) (e : Ending) (w' : World) : Prop :=
  e = .returned (.tuple #[.int .i64 ((v i).toNat : Int), .int .i64 0]) ∧ GroupsAt w' b g n (upd v i x) ∧ Only (fun k => k = g) w w'

theorem change_set {w : World} {b g n : Nat} {v : Nat → BitVec 8} (h : GroupsAt w b g n v) {i : Nat} (hi : i < n) {X : Nat} {z : Int} (hm : w.cell? ⟨X, 0, none⟩ = some (.int .i64 z)) :
    Calls Try.prog 20 #[.pointer (some ⟨b, 0, none⟩), .int .i64 i, .func (.func 21) #[] #[.pointer (some ⟨X, 0, none⟩)]] w (ChangeEnd w b g n v i (v i ||| low z)) := by
  have hl := Lib.hid (glen_any h.cell)
  have c0 := h.cell
  obtain ⟨c1, c2⟩ := h.cells hi
  have hi' : (i : Int) < n := by omega
  have hs := Lib.hid (fun k => (h.new ((Only.refl _ w).drewN k)).set i (v i ||| low z))
  obtain ⟨y, hy⟩ : ∃ y, y = v i ||| low z := ⟨_, rfl⟩
  have hcl := fun k => cl21 (W := w.drewN k) (X := X) (z := z) hm (v i)
  rw [← hy] at hs hcl
  have hcl' := Lib.hid hcl
  obtain ⟨u, hu⟩ : ∃ u : Int, u = ((v i).toNat : Int) := ⟨_, rfl⟩
  have hu0 : 0 ≤ u ∧ u < 256 := by
    have := (v i).isLt
    omega
  rw [← hu] at c1 hcl'
  unfold ChangeEnd
  rw [← hu]
  rw [← hy]
  clear h hy hcl hu hm
  go_enter Try.func20, Try.ntmps20
  go_wp2_with (go_at_call 12; refine hl.out.mono ?_; rintro e w' ⟨rfl, rfl⟩)
  go_region_with (go_at_call 21; refine (hcl'.out _).mono ?_; rintro e w' ⟨rfl, rfl⟩)
  all_goals
    go_wp2
    go_ret2
    exact ⟨rfl, hs.out _, ((Only.refl (fun k => k = g) w).drewN _).setCell (fun _ => rfl) _⟩

theorem change_clear {w : World} {b g n : Nat} {v : Nat → BitVec 8} (h : GroupsAt w b g n v) {i : Nat} (hi : i < n) {X : Nat} {z : Int} (hm : w.cell? ⟨X, 0, none⟩ = some (.int .i64 z)) :
    Calls Try.prog 20 #[.pointer (some ⟨b, 0, none⟩), .int .i64 i, .func (.func 22) #[] #[.pointer (some ⟨X, 0, none⟩)]] w (ChangeEnd w b g n v i (v i &&& ~~~ low z)) := by
  have hl := Lib.hid (glen_any h.cell)
  have c0 := h.cell
  obtain ⟨c1, c2⟩ := h.cells hi
  have hi' : (i : Int) < n := by omega
  have hs := Lib.hid (fun k => (h.new ((Only.refl _ w).drewN k)).set i (v i &&& ~~~ low z))
  obtain ⟨y, hy⟩ : ∃ y, y = v i &&& ~~~ low z := ⟨_, rfl⟩
  have hcl := fun k => cl22 (W := w.drewN k) (X := X) (z := z) hm (v i)
  rw [← hy] at hs hcl
  have hcl' := Lib.hid hcl
  obtain ⟨u, hu⟩ : ∃ u : Int, u = ((v i).toNat : Int) := ⟨_, rfl⟩
  have hu0 : 0 ≤ u ∧ u < 256 := by
    have := (v i).isLt
    omega
  rw [← hu] at c1 hcl'
  unfold ChangeEnd
  rw [← hu]
  rw [← hy]
  clear h hy hcl hu hm
  go_enter Try.func20, Try.ntmps20
  go_wp2_with (go_at_call 12; refine hl.out.mono ?_; rintro e w' ⟨rfl, rfl⟩)
  go_region_with (go_at_call 22; refine (hcl'.out _).mono ?_; rintro e w' ⟨rfl, rfl⟩)
  all_goals
    go_wp2
    go_ret2
    exact ⟨rfl, hs.out _, ((Only.refl (fun k => k = g) w).drewN _).setCell (fun _ => rfl) _⟩

theorem change_value {w : World} {b g n : Nat} {v : Nat → BitVec 8} (h : GroupsAt w b g n v) {i : Nat} (hi : i < n) :
    Calls Try.prog 20 #[.pointer (some ⟨b, 0, none⟩), .int .i64 i, .func (.func 23) #[] #[]] w (ChangeEnd w b g n v i (v i)) := by
  have hl := Lib.hid (glen_any h.cell)
  have c0 := h.cell
  obtain ⟨c1, c2⟩ := h.cells hi
  have hi' : (i : Int) < n := by omega
  have hs := Lib.hid (fun k => (h.new ((Only.refl _ w).drewN k)).set i (v i))
  have hcl := fun k => cl23 (w.drewN k) (v i)
  have hcl' := Lib.hid hcl
  obtain ⟨u, hu⟩ : ∃ u : Int, u = ((v i).toNat : Int) := ⟨_, rfl⟩
  have hu0 : 0 ≤ u ∧ u < 256 := by
    have := (v i).isLt
    omega
  rw [← hu] at c1 hcl' hs
  unfold ChangeEnd
  rw [← hu]
  clear h hcl hu
  go_enter Try.func20, Try.ntmps20
  go_wp2_with (go_at_call 12; refine hl.out.mono ?_; rintro e w' ⟨rfl, rfl⟩)
  go_region_with (go_at_call 23; refine (hcl'.out _).mono ?_; rintro e w' ⟨rfl, rfl⟩)
  all_goals
    go_wp2
    go_ret2
    exact ⟨rfl, hs.out _, ((Only.refl (fun k => k = g) w).drewN _).setCell (fun _ => rfl) _⟩
end Go.Proofs.Ytbmpmmfomcnchaa
