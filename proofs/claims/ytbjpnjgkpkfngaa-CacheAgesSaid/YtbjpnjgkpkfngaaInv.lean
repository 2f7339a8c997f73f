/- Least recently used: where a block stands behind accesses of others. Speaks of no program. -/
import Derived.Test.YtbjpnjgkpkfngaaPlays8
namespace Go.Proofs.Ytbjpnjgkpkfngaa
open Go Go.RowKit

theorem acc_nodup {W : Nat} {g : List Int} (b : Int) (h : g.Nodup) : (acc W g b).Nodup := by
  unfold acc
  split
  · rw [List.nodup_cons]
    exact ⟨fun hm => h.not_mem_erase hm, h.erase b⟩
  · rename_i hb
    exact (List.nodup_cons.2 ⟨hb, h⟩).sublist (List.take_sublist _ _)
theorem acc_keeps_out {W : Nat} {g : List Int} {b b0 : Int} (h : b0 ∉ g) (hne : b ≠ b0) : b0 ∉ acc W g b := by
  unfold acc
  split
  · intro hm
    rcases List.mem_cons.1 hm with e | e
    · exact hne e.symm
    · exact h (List.mem_of_mem_erase e)
  · intro hm
    rcases List.mem_cons.1 (List.mem_of_mem_take hm) with e | e
    · exact hne e.symm
    · exact h e
/-- Others of the block's set, each once. -/
def addD (ds : List Nat) (b : Nat) : List Nat := if b ∈ ds then ds else ds ++ [b]
/-- Where the block stands: behind just the others that came since, as long as there is room. -/
def Inv (W : Nat) (b0 : Int) (g : List Int) (ds : List Nat) : Prop :=
  g.Nodup ∧ g.length ≤ W ∧ ((ds.length < W ∧ ∃ p q, g = p ++ b0 :: q ∧ p.length = ds.length ∧ ∀ x : Nat, (x : Int) ∈ p ↔ x ∈ ds) ∨ (W ≤ ds.length ∧ b0 ∉ g))
theorem Inv.hit {W : Nat} {b0 : Int} {g : List Int} {ds : List Nat} (h : Inv W b0 g ds) : decide (b0 ∈ g) = decide (ds.length < W) := by
  obtain ⟨_, _, ⟨h1, p, q, rfl, _⟩ | ⟨h1, h2⟩⟩ := h
  · simp [h1]
  · rw [decide_eq_false h2, decide_eq_false (by omega)]
theorem Inv.start {W : Nat} {b0 : Int} {g : List Int} (hW : 1 ≤ W) (hn : g.Nodup) (hl : g.length ≤ W) : Inv W b0 (acc W g b0) [] := by
  refine ⟨acc_nodup b0 hn, acc_len hl hW, .inl ⟨by show 0 < W; omega, [], (acc W g b0).tail, ?_, rfl, fun x => by simp⟩⟩
  by_cases h : b0 ∈ g
  · rw [acc_in h]
    rfl
  · rw [acc_out h hW]
    rfl
theorem Inv.step {W : Nat} {b0 b : Nat} {g : List Int} {ds : List Nat} (hW : 1 ≤ W) (hne : b ≠ b0) (h : Inv W b0 g ds) : Inv W b0 (acc W g b) (addD ds b) := by
  have hnz : (b : Int) ≠ (b0 : Int) := by omega
  obtain ⟨hn, hl, h⟩ := h
  refine ⟨acc_nodup b hn, acc_len hl hW, ?_⟩
  rcases h with ⟨h1, p, q, rfl, hp, hm⟩ | ⟨h1, h2⟩
  · have hbp : (b0 : Int) ∉ p := fun hh => by
      rw [List.nodup_append] at hn
      exact hn.2.2 _ hh _ (by simp) rfl
    by_cases hd : b ∈ ds
    · left
      have hb : (b : Int) ∈ p := (hm b).2 hd
      unfold addD
      rw [if_pos hd]
      refine ⟨h1, (b : Int) :: p.erase b, q, ?_, ?_, fun x => ?_⟩
      · unfold acc
        rw [if_pos (by simp [hb]), List.erase_append_left _ hb]
        rfl
      · rw [List.length_cons, List.length_erase_of_mem hb, ← hp]
        have := List.length_pos_of_mem hb
        omega
      · rw [← hm x, List.mem_cons]
        by_cases hx : (x : Int) = b
        · rw [hx]
          simp [hb]
        · rw [List.mem_erase_of_ne hx]
          simp [hx]
    · have hb : (b : Int) ∉ p := fun h => hd ((hm b).1 h)
      have hdl : (addD ds b).length = ds.length + 1 := by unfold addD; rw [if_neg hd]; simp
      have hmem : ∀ x : Nat, (x : Int) ∈ ((b : Int) :: p) ↔ x ∈ addD ds b := fun x => by
        unfold addD
        rw [if_neg hd, List.mem_cons, hm x, List.mem_append, List.mem_singleton]
        constructor
        · rintro (h | h)
          · exact .inr (by omega)
          · exact .inl h
        · rintro (h | h)
          · exact .inr h
          · exact .inl (by omega)
      rw [List.length_append, List.length_cons] at hl
      by_cases hq : (b : Int) ∈ q
      · left
        have hql := List.length_pos_of_mem hq
        refine ⟨by omega, (b : Int) :: p, q.erase b, ?_, by rw [List.length_cons, hdl, hp], hmem⟩
        unfold acc
        rw [if_pos (by simp [hq]), List.erase_append_right _ hb, List.erase_cons_tail (by simpa using Ne.symm hnz)]
        rfl
      · have hacc : acc W (p ++ (b0 : Int) :: q) b = ((b : Int) :: (p ++ (b0 : Int) :: q)).take W := by
          unfold acc
          rw [if_neg (by simp [hb, hq, hnz])]
        by_cases hlt : p.length + 1 < W
        · left
          refine ⟨by omega, (b : Int) :: p, q.take (W - p.length - 2), ?_, by rw [List.length_cons, hdl, hp], hmem⟩
          rw [hacc, ← List.cons_append, List.take_append, List.take_of_length_le (by rw [List.length_cons]; omega), List.length_cons, show W - (p.length + 1) = (W - p.length - 2) + 1 by omega, List.take_succ_cons]
        · right
          refine ⟨by omega, ?_⟩
          rw [hacc, ← List.cons_append, List.take_append, List.take_of_length_le (by rw [List.length_cons]; omega), List.length_cons, show W - (p.length + 1) = 0 by omega, List.take_zero, List.append_nil]
          intro hh
          rcases List.mem_cons.1 hh with e | e
          · exact hnz e.symm
          · exact hbp e
  · right
    refine ⟨?_, acc_keeps_out h2 hnz⟩
    unfold addD
    split
    · exact h1
    · simp; omega

/-- All rows' invariant along a run. -/
def Rows (S W : Nat) (G : Nat → List Int) : Prop := ∀ i, i < S → (G i).Nodup
theorem Rows.step {S W : Nat} {G : Nat → List Int} (h : Rows S W G) (b : Nat) : Rows S W (stepG S W G b) := by
  intro i hi
  unfold stepG upd
  split
  · rename_i e
    subst e
    exact acc_nodup _ (h _ hi)
  · exact h i hi
theorem Rows.run {S W : Nat} : ∀ (bs : List Nat) {G : Nat → List Int}, Rows S W G → Rows S W (runG S W G bs)
  | [], _, h => h
  | b :: bs, _, h => Rows.run bs (h.step b)
end Go.Proofs.Ytbjpnjgkpkfngaa
