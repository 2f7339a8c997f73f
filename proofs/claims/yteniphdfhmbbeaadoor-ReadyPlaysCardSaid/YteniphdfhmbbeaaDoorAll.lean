/- Telling all of a ring. -/
import Derived.Test.YteniphdfhmbbeaaDoorMA
namespace Go.Proofs.YteniphdfhmbbeaaDoor.Ring
open Go.RowKit

/-- What telling all leaves. -/
def AllEnd (w : World) (q : List Jb) (e : Ending) (w' : World) : Prop :=
  ∃ v h, e = .returned v ∧ Win w' 37 3 v h q.length (jbCells q) ∧ (∀ k, h = some k → w.heap.size ≤ k) ∧ Only (fun _ => False) w w'
theorem all_any {w : World} {r room : Nat} {o : Option Nat} {q : List Jb} (hR : RingAt w r o room q) : Calls Tryd.prog 27 #[.pointer (some ⟨r, 0, none⟩)] w (AllEnd w q) := by
  have hl := Lib.hid (len_any hR)
  have hb := hR.bounds
  rcases q with _ | ⟨x, q⟩
  · clear hR hb
    go_enter Tryd.func27, Tryd.ntmps27
    go_wp2_with (go_at_call 22; refine hl.out.mono ?_; rintro e w' ⟨rfl, rfl⟩)
    go_ret
    exact ⟨_, none, rfl, Win.nil _ _ _, fun k hk => (by cases hk), Only.refl _ _⟩
  · obtain ⟨g, first, L, rfl, _⟩ := hR.slot
    obtain ⟨_, _, c0, _, c2, _⟩ := hR.cells
    obtain ⟨n, hn⟩ : ∃ n, n = (x :: q).length := ⟨_, rfl⟩
    obtain ⟨B, hB⟩ : ∃ B, B = w.heap.size := ⟨_, rfl⟩
    have hBg : B ≠ g := by have := hR.lt g (.inr rfl); omega
    have hBr : B ≠ r := by have := hR.lt r (.inl rfl); omega
    have mk := run_make_jobs w n (by omega)
    have hD : (w.alloc (.cells (jbCells (List.replicate n zjb)).toArray 37)).heap[B]? = some (.cells (jbCells (List.replicate n zjb)).toArray 37 (0, 0)) := heap_new_at _ _ hB.symm
    have hlay := lay_some (cap := n) (hR.new ((Only.refl (fun _ => False) w).alloc (.cells (jbCells (List.replicate n zjb)).toArray 37))) hD ⟨hBg, hBr⟩ (by rw [jbCells_length, List.length_replicate, ← hn]; omega) (by omega) (by omega)
    rw [← hn] at hlay c2 hl
    have hlay' := Lib.hid hlay
    have hn0 : ((n : Int) == 0) = false := by rw [hn]; simp; omega
    have hn' := Lib.hid (And.intro hn (show n ≤ 4096 by omega))
    have hB' := Lib.hid hB
    have hrl := hR.lt r (.inl rfl)
    rw [← hB] at mk
    clear hR hb hlay hD hn hB c0
    go_enter Tryd.func27, Tryd.ntmps27
    go_wp2_with (first | (go_at_call 22; refine hl.out.mono ?_; rintro e w' ⟨rfl, rfl⟩) | (go_at_call 40; refine hlay'.out.mono ?_; rintro e W2 ⟨rfl, hD2, ho2⟩; have hD2' := Lib.hid hD2; have ho2' := Lib.hid ho2; clear hD2 ho2))
    go_ret
    have e : jbCells (x :: q) ++ (jbCells (List.replicate n zjb)).drop ((x :: q).length * 3) = jbCells (x :: q) := by
      rw [List.drop_eq_nil_of_le (by rw [jbCells_length, List.length_replicate, ← hn'.out.1]; omega), List.append_nil]
    have hW := hD2'.out
    rw [e] at hW
    refine ⟨_, some B, rfl, ?_, fun k hk => ?_, ((Only.refl (fun _ => False) w).alloc _).trans ho2'.out (fun y hy e => ?_)⟩
    · rw [← hn'.out.1]
      exact Win.of_row hW (by rw [jbCells_length, hn'.out.1]) (by have := hn'.out.2; unfold maxLen; omega)
    · cases hk
      exact Nat.le_of_eq hB'.out.symm
    · have := hB'.out
      omega
end Go.Proofs.YteniphdfhmbbeaaDoor.Ring
