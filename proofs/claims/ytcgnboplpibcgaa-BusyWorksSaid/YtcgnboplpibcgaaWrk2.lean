/- BusyWorks: what its rows hold; gaps that came in. -/
import Derived.Test.YtcgnboplpibcgaaWrk
import Derived.Test.YtcgnboplpibcgaaIn25
import Derived.Deep.Matrix
namespace Go.Proofs.Ytcgnboplpibcgaa
open Go Go.RowKit Go.ChangeShapes Go.WideShapes Go.Deep
structure GapsIn (w : World) (A : Option Addr) (n : Nat) (R : Nat → Option Addr) (L C : Nat → Nat) (B : Nat → Nat → Nat) : Prop where
  at_ : ∀ i, i < n → ∃ b off, A = some ⟨b, off, none⟩ ∧ w.cell? ⟨b, off + i, none⟩ = some (.slice (R i) (L i) (C i)) ∧ b < w.heap.size
  in_ : ∀ i, i < n → ∀ j, j < L i → ∃ b off, R i = some ⟨b, off, none⟩ ∧ w.cell? ⟨b, off + j, none⟩ = some (.int .u8 (B i j : Int)) ∧ b < w.heap.size ∧ B i j ≤ 255
  len : ∀ i, i < n → L i ≤ 9223372036854775807
theorem GapsIn.new {w w' : World} {A : Option Addr} {n : Nat} {R : Nat → Option Addr} {L C : Nat → Nat} {B : Nat → Nat → Nat} (h : GapsIn w A n R L C B) (ho : Only (fun _ => False) w w') : GapsIn w' A n R L C B :=
  ⟨fun i hi => by
    obtain ⟨b, off, rfl, h1, h2⟩ := h.at_ i hi
    exact ⟨b, off, rfl, ho.cell h1 (fun h => h), Nat.lt_of_lt_of_le h2 ho.size⟩, fun i hi j hj => by
    obtain ⟨b, off, h0, h1, h2, h3⟩ := h.in_ i hi j hj
    exact ⟨b, off, h0, ho.cell h1 (fun h => h), Nat.lt_of_lt_of_le h2 ho.size, h3⟩, h.len⟩
theorem u8_of {z : Int} (h : (Lit.int .u8 z).wf = true) : ∃ b : Nat, z = b ∧ b ≤ 255 := nat_of (M := 255) (by decide) (by decide) h
theorem spot_lit {w : World} {a : Addr} {v : Value} (h : w.cell? a = some v) : a = ⟨a.block, a.off, none⟩ ∧ a.block < w.heap.size := by
  have h1 := spot_none h
  refine ⟨?_, World.block_lt_of_cell? w _ h⟩
  cases a
  simp_all
theorem gaps_in {H : Type} {enc : TypeId × Value → H} {w : World} {A : Option Addr} {len cap : Nat} {d : DataW H} {ps : List MemPlace} (h : DataW.Trod enc Try.prog w 0 (fun _ => true) true 39 (.slice A len cap) d ps) : ∃ R L C B, GapsIn w A len R L C B := by
  obtain ⟨fuel, hf⟩ := h
  rcases open_int_rows Try.underlying39 Try.underlying41 Try.underlying5 (by kernel_rfl) (by kernel_rfl) hf with ⟨hcs, _⟩ | ⟨a, l, c, R, L, C, Z, hcs, _, hlc, _, _, hall⟩
  · simp [Value.cells] at hcs
    obtain ⟨rfl, rfl, rfl⟩ := hcs
    exact ⟨fun _ => none, fun _ => 0, fun _ => 0, fun _ _ => 0, fun i hi => by omega, fun i hi => by omega, fun i hi => by omega⟩
  · simp [Value.cells] at hcs
    obtain ⟨rfl, rfl, rfl⟩ := hcs
    refine ⟨R, L, C, fun i j => ((Z i).getD j 0).toNat, fun i hi => ?_, fun i hi j hj => ?_, fun i hi => ?_⟩
    · obtain ⟨h1, _⟩ := hall i (by omega)
      obtain ⟨h0, _⟩ := hall 0 (by omega)
      have ha : a = ⟨a.block, a.off, none⟩ := by
        have h2 := spot_none h0
        cases a with
        | mk b o s =>
          unfold Addr.add at h2
          simp at h2
          subst h2
          rfl
      refine ⟨a.block, a.off, congrArg some ha, ?_, ?_⟩
      · rw [ha, Addr.add_lit] at h1
        exact h1
      · have := World.block_lt_of_cell? w _ h1
        rwa [add_block] at this
    · obtain ⟨_, h2, h3, h4, h5, h6, h7⟩ := hall i (by omega)
      cases hR : R i with
      | none => have := h6 hR; omega
      | some r =>
        obtain ⟨_, h8⟩ := h7 r hR
        have h9 := h8 j (by omega)
        have hr : r = ⟨r.block, r.off, none⟩ := by
          have h2 := spot_none (h8 0 (by omega))
          cases r with
          | mk b o s =>
            unfold Addr.add at h2
            simp at h2
            subst h2
            rfl
        have hwf := h5 ((Z i).getD j 0) (by
          rw [List.getD_eq_getElem?_getD, List.getElem?_eq_getElem (by omega)]
          exact List.getElem_mem _)
        obtain ⟨b, hb, hb2⟩ := u8_of hwf
        refine ⟨r.block, r.off, congrArg some hr, ?_, ?_, ?_⟩
        · rw [hr, Addr.add_lit] at h9
          rw [hb] at h9 ⊢
          exact h9
        · have := World.block_lt_of_cell? w _ h9
          rwa [add_block] at this
        · show ((Z i).getD j 0).toNat ≤ 255
          omega
    · obtain ⟨_, h2, h3, _⟩ := hall i (by omega)
      unfold maxLen at h3
      omega

def rowV (n : Nat) (f : Nat → Value) : List Value := (List.range n).map f
theorem rowV_at {n i : Nat} {f : Nat → Value} (h : i < n) : (rowV n f)[i]? = some (f i) := by
  unfold rowV
  rw [List.getElem?_map, List.getElem?_range h]
  rfl
theorem rowV_congr {n : Nat} {f g : Nat → Value} (h : ∀ i, i < n → f i = g i) : rowV n f = rowV n g := List.map_congr_left fun i hi => h i (List.mem_range.1 hi)
theorem rowV_set {n i : Nat} {f : Nat → Value} (h : i < n) (v : Value) : (rowV n f).set i v = rowV n (fun k => if k = i then v else f k) := by
  apply List.ext_getElem?
  intro j
  by_cases hj : j < n
  · rw [rowV_at hj]
    by_cases hij : i = j
    · subst hij
      rw [List.getElem?_set_self (by simp [rowV]; exact h), if_pos rfl]
    · rw [List.getElem?_set_ne hij, rowV_at hj, if_neg (Ne.symm hij)]
  · rw [List.getElem?_eq_none (by simp [rowV]; omega), List.getElem?_eq_none (by simp [rowV]; omega)]
theorem rowV_rep (n : Nat) (v : Value) : List.replicate n v = rowV n (fun _ => v) := by
  apply List.ext_getElem?
  intro j
  by_cases hj : j < n
  · rw [rowV_at hj, List.getElem?_replicate, if_pos hj]
  · rw [List.getElem?_eq_none (by simp; omega), List.getElem?_eq_none (by simp [rowV]; omega)]
/-- The law's own two rows. -/
structure WMem (w W : World) (nb ab n : Nat) (N T : Nat → Nat) : Prop where
  nx : W.heap[nb]? = some (.cells (rowV n (fun i => U (N i))).toArray 22 (0, 0))
  at_ : W.heap[ab]? = some (.cells (rowV n (fun i => .int .i64 (T i : Int))).toArray 3 (0, 0))
  only : Only (fun _ => False) w W
  ne : nb ≠ ab
  nn : w.heap.size ≤ nb
  na : w.heap.size ≤ ab
section
variable {w W W' : World} {nb ab n : Nat} {N T : Nat → Nat}
theorem WMem.new (h : WMem w W nb ab n N T) (ho : Only (fun _ => False) W W') : WMem w W' nb ab n N T := ⟨ho.heap h.nx (fun h => h), ho.heap h.at_ (fun h => h), h.only.trans' ho, h.ne, h.nn, h.na⟩
theorem WMem.setN (h : WMem w W nb ab n N T) {i : Nat} (hi : i < n) (v : Nat) : WMem w (W.setCell ⟨nb, i, none⟩ (U v)) nb ab n (updN N i v) T :=
  ⟨by rw [row_set h.nx i (U v), rowV_set hi]; congr 3; exact rowV_congr fun k _ => by unfold updN; split <;> rfl, heap_kept_set h.at_ h.ne.symm _, h.only.setCell (fun hlt => by have := h.nn; have := Nat.lt_of_lt_of_le hlt this; simp at this) _, h.ne, h.nn, h.na⟩
theorem WMem.setT (h : WMem w W nb ab n N T) {i : Nat} (hi : i < n) (v : Nat) : WMem w (W.setCell ⟨ab, i, none⟩ (.int .i64 (v : Int))) nb ab n N (updN T i v) :=
  ⟨heap_kept_set h.nx h.ne _, by rw [row_set h.at_ i (.int .i64 (v : Int)), rowV_set hi]; congr 3; exact rowV_congr fun k _ => by unfold updN; split <;> rfl, h.only.setCell (fun hlt => by have := h.na; have := Nat.lt_of_lt_of_le hlt this; simp at this) _, h.ne, h.nn, h.na⟩
theorem WMem.cellN (h : WMem w W nb ab n N T) {i : Nat} (hi : i < n) : W.cell? ⟨nb, i, none⟩ = some (U (N i)) ∧ W.frozen? ⟨nb, i, none⟩ = false ∧ nb < W.heap.size := ⟨row_cell h.nx (rowV_at hi), row_free h.nx _, row_lt h.nx⟩
theorem WMem.cellT (h : WMem w W nb ab n N T) {i : Nat} (hi : i < n) : W.cell? ⟨ab, i, none⟩ = some (.int .i64 (T i : Int)) ∧ W.frozen? ⟨ab, i, none⟩ = false ∧ ab < W.heap.size := ⟨row_cell h.at_ (rowV_at hi), row_free h.at_ _, row_lt h.at_⟩
end
end Go.Proofs.Ytcgnboplpibcgaa
