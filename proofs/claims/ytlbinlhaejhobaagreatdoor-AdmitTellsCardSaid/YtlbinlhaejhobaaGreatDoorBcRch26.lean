/- chain: the reference: all chains that begin with a task. -/
import Derived.Test.YtlbinlhaejhobaaGreatDoorPO
namespace Go.Proofs.YtlbinlhaejhobaaGreatDoor
namespace Bch
open Go Go.RowKit Go.Maps Go.Shelf
/-- One more row, of the call's own. -/
theorem GrpAt.push {w W2 w' : World} {base : Nat} {p p' A : Option Addr} {cap cap' c : Nat} {ho h' hn : Option Nat} {V : List Value} {H : Nat → Option Nat} {gs : List (List Nat)} {M : List Nat} (h : GrpAt w base p cap ho V H gs) (hb : base ≤ w.heap.size)
    (hO2 : Only (fun _ => False) w W2) (hr : Win W2 3 1 (.slice A M.length c) hn M.length (dat M)) (hnew : ∀ b, hn = some b → w.heap.size ≤ b) (hO : Only (fun k => some k = ho) W2 w') (hh : h' = ho ∨ ∃ g, h' = some g ∧ W2.heap.size ≤ g)
    (hW : Win w' 24 1 (.slice p' (gs.length + 1) cap') h' (gs.length + 1) (V ++ [.slice A M.length c])) : GrpAt w' base p' cap' h' (V ++ [.slice A M.length c]) (updH H gs.length hn) (gs ++ [M]) := by
  have hVl : V.length = gs.length := by have := h.o.1; omega
  have hoX : ∀ b, hn = some b → ho ≠ some b := fun b e e' => by have := h.o.lt b e'; have := hnew b e; omega
  have hge : W2.heap.size ≥ w.heap.size := hO2.size
  have hhX : ∀ b, hn = some b → h' ≠ some b := fun b e e' => by
    rcases hh with hh | ⟨g, hg, hge⟩
    · exact hoX b e (hh ▸ e')
    · rw [hg] at e'; cases e'; have := hr.lt b e; omega
  have hfr : ∀ b, h' = some b → base ≤ b := fun b e => by
    rcases hh with hh | ⟨g, hg, hge'⟩
    · exact h.ofresh b (hh ▸ e)
    · rw [hg] at e; cases e; omega
  have hne : ∀ j b, j < gs.length → H j = some b → h' ≠ some b := fun j b hj e e' => by
    rcases hh with hh | ⟨g, hg, hge'⟩
    · exact (h.fresh j b hj e).2 (hh ▸ e')
    · rw [hg] at e'; cases e'; have := h.lt hj e; omega
  refine ⟨by simpa using hW, hfr, fun j L hj => ?_, fun j b hj e => ?_, fun j k b hj hk hjk e e' => ?_⟩
  · by_cases hjn : j < gs.length
    · rw [List.getElem?_append_left hjn] at hj
      obtain ⟨A, c, e, hw⟩ := h.row j L hj
      refine ⟨A, c, by rw [List.getElem?_append_left (by omega)]; exact e, ?_⟩
      rw [updH_other _ (by omega)]
      exact (hw.kept hO2 (fun _ _ h => h)).kept hO (fun b hb he => (h.fresh j b hjn hb).2 he.symm)
    · have hjl : j = gs.length := by have := (List.getElem?_eq_some_iff.1 hj).1; simp at this; omega
      subst hjl
      obtain rfl : L = M := by simpa using hj.symm
      refine ⟨A, c, by rw [← hVl]; simp, ?_⟩
      rw [updH_same]
      exact hr.kept hO (fun b e e' => hoX b e e'.symm)
  · by_cases hjn : j < gs.length
    · rw [updH_other _ (by omega)] at e
      exact ⟨(h.fresh j b hjn e).1, hne j b hjn e⟩
    · obtain rfl : j = gs.length := by simp at hj; omega
      rw [updH_same] at e
      exact ⟨by have := hnew b e; omega, hhX b e⟩
  · by_cases hjn : j < gs.length
    · rw [updH_other _ (by omega)] at e
      by_cases hkn : k < gs.length
      · rw [updH_other _ (by omega)] at e'
        exact h.sep j k b hjn hkn hjk e e'
      · obtain rfl : k = gs.length := by simp at hk; omega
        rw [updH_same] at e'
        have := h.lt hjn e
        have := hnew b e'
        omega
    · obtain rfl : j = gs.length := by simp at hj; omega
      rw [updH_same] at e
      have hkn : k < gs.length := by simp at hk; omega
      rw [updH_other _ (by omega)] at e'
      have := h.lt hkn e'
      have := hnew b e
      omega
/-- A row of one row. -/
theorem GrpAt.one {W2 : World} {base X Y a : Nat} (hX : W2.heap[X]? = some (.cells #[.int .i64 (a : Int)] 3 (0, 0))) (hY : W2.heap[Y]? = some (.cells #[.slice (some ⟨X, 0, none⟩) 1 1] 24 (0, 0))) (h1 : base ≤ X) (h2 : base ≤ Y) (hXY : X ≠ Y) :
    GrpAt W2 base (some ⟨Y, 0, none⟩) 1 (some Y) [.slice (some ⟨X, 0, none⟩) 1 1] (fun _ => some X) [[a]] := by
  refine ⟨Win.of_row (L := [_]) hY rfl (show 1 ≤ maxLen by decide), fun b e => by cases e; exact h2, fun j L hj => ?_, fun j b hj e => ?_, fun j k b hj hk hjk => ?_⟩
  · cases j with
    | zero =>
      obtain rfl : [a] = L := by simpa using hj
      exact ⟨some ⟨X, 0, none⟩, 1, rfl, Win.of_row (L := [_]) hX rfl (show 1 ≤ maxLen by decide)⟩
    | succ j => simp at hj
  · cases e
    exact ⟨h1, fun e => by cases e; exact hXY rfl⟩
  · simp at hj hk
    omega
theorem flatMap_len {α β : Type} {f : α → List β} {m : Nat} : ∀ {l : List α}, (∀ x ∈ l, (f x).length ≤ m) → (l.flatMap f).length ≤ l.length * m
  | [], _ => by simp
  | x :: l, h => by
    have h1 := h x (by simp)
    have h2 := flatMap_len (l := l) (fun y hy => h y (by simp [hy]))
    rw [List.flatMap_cons, List.length_append, List.length_cons, Nat.succ_mul]
    omega
theorem chains_count (n : Nat) (P TH : Nat → Int) : ∀ (f a : Nat), (Chn.chains n P TH f a).length ≤ (n + 1) ^ f
  | 0, a => by simp [Chn.chains]
  | f + 1, a => by
    unfold Chn.chains
    have h1 := flatMap_len (f := fun i => (Chn.chains n P TH f i).map (a :: ·)) (m := (n + 1) ^ f) (l := (List.range n).filter fun i => Chn.can P TH i a) (fun i _ => by rw [List.length_map]; exact chains_count n P TH f i)
    have h2 : ((List.range n).filter fun i => Chn.can P TH i a).length ≤ n := by
      have := List.length_filter_le (fun i => Chn.can P TH i a) (List.range n)
      rwa [List.length_range] at this
    have h3 : 0 < (n + 1) ^ f := Nat.pow_pos (Nat.succ_pos n)
    have h4 := Nat.mul_le_mul_right ((n + 1) ^ f) h2
    rw [List.length_cons, Nat.pow_succ, Nat.mul_add, Nat.mul_comm ((n + 1) ^ f) n]
    omega
end Bch
end Go.Proofs.YtlbinlhaejhobaaGreatDoor
