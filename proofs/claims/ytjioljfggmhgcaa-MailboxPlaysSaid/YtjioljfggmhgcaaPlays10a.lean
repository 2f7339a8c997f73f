/- MailboxPlays: the plain rows beside the mailboxes. -/
import Derived.Test.YtjioljfggmhgcaaFixed10
import Derived.Test.YtjioljfggmhgcaaActs
namespace Go.Proofs.Ytjioljfggmhgcaa
open Go Go.RowKit RingI

theorem info3 : (Try.prog.info? 3).map (fun i => (i.zero, i.size, i.bytes)) = some (some (Value.int .i64 0), 1, 8) := by kernel_rfl

/-- Rows of numbers at block R: what each holds is q's. -/
structure RowsAt (w : World) (B R n : Nat) (v : Nat → Value) (h : Nat → Option Nat) (q : Nat → List Int) : Prop where
  row : w.heap[R]? = some (.cells ((List.range n).map v).toArray 22 (0, 0))
  wins : ∀ i, i < n → Win w 3 1 (v i) (h i) (q i).length ((q i).map RingI.mk)
  apart : ∀ i j, i < n → j < n → i ≠ j → ∀ k, h i = some k → h j ≠ some k
  own : ∀ i, i < n → ∀ k, h i = some k → k ≠ R ∧ B ≤ k
  base : B ≤ R

section
variable {w w' : World} {B R n : Nat} {v : Nat → Value} {h : Nat → Option Nat} {q : Nat → List Int}

theorem RowsAt.kept {S : Nat → Prop} (H : RowsAt w B R n v h q) (hw : Only S w w') (hR : ¬ S R) (hS : ∀ i, i < n → ∀ k, h i = some k → ¬ S k) : RowsAt w' B R n v h q :=
  ⟨hw.heap H.row hR, fun i hi => (H.wins i hi).kept hw (hS i hi), H.apart, H.own, H.base⟩
theorem RowsAt.cell (H : RowsAt w B R n v h q) {i : Nat} (hi : i < n) : w.cell? ⟨R, i, none⟩ = some (v i) := by
  refine row_cell H.row ?_
  rw [List.getElem?_map, List.getElem?_range hi]
  rfl
theorem set_row (v : Nat → Value) (n i : Nat) (x : Value) : ((List.range n).map v).set i x = (List.range n).map (upd v i x) := by
  apply List.ext_getElem?
  intro j
  by_cases h : j < n
  · rw [List.getElem?_set, List.getElem?_map, List.getElem?_range h]
    by_cases hij : i = j
    · subst hij
      rw [if_pos rfl, if_pos (by simpa using h), List.getElem?_map, List.getElem?_range h, Option.map_some, upd_self]
    · rw [if_neg hij, List.getElem?_map, List.getElem?_range h]
      simp [upd_ne v x (fun e => hij e.symm)]
  · rw [List.getElem?_eq_none (by simp; omega), List.getElem?_eq_none (by simp; omega)]
/-- One row's step: it is another slice now, and stored. -/
theorem RowsAt.step {w4 : World} {i : Nat} {x : Value} {h' : Option Nat} {q' : List Int} (H : RowsAt w B R n v h q) (hi : i < n) {T : Nat → Prop} (hw : Only T w w4) (hT : ∀ k, k < w.heap.size → T k → k ≠ R ∧ ∀ j, j < n → j ≠ i → h j ≠ some k)
    (hW : Win w4 3 1 x h' q'.length (q'.map RingI.mk)) (hh : h' = h i ∨ h' = none ∨ ∃ g, h' = some g ∧ w.heap.size ≤ g) : RowsAt (w4.setCell ⟨R, i, none⟩ x) B R n (upd v i x) (upd h i h') (upd q i q') := by
  have hRlt := row_lt H.row
  have hlt : ∀ j, j < n → ∀ k, h j = some k → k < w.heap.size := fun j hj k hk => (H.wins j hj).lt k hk
  have hrow : w4.heap[R]? = some (.cells ((List.range n).map v).toArray 22 (0, 0)) := (hw.block R hRlt (fun hk => (hT R hRlt hk).1 rfl)).trans H.row
  have o5 : Only (fun k => k = R) w4 (w4.setCell ⟨R, i, none⟩ x) := (Only.refl (fun k => k = R) w4).setCell (p := ⟨R, i, none⟩) (fun _ => rfl) _
  have hown : ∀ k, h' = some k → k ≠ R ∧ B ≤ k := fun k hk => by
    rcases hh with rfl | rfl | ⟨g, rfl, hg⟩
    · exact H.own i hi k hk
    · cases hk
    · cases hk
      have := H.base
      exact ⟨by omega, by omega⟩
  have hap : ∀ j, j < n → j ≠ i → ∀ k, h' = some k → h j ≠ some k := fun j hj hji k hk hk' => by
    rcases hh with rfl | rfl | ⟨g, rfl, hg⟩
    · exact H.apart i j hi hj (fun e => hji e.symm) k hk hk'
    · cases hk
    · cases hk
      have := hlt j hj _ hk'
      omega
  refine ⟨?_, fun j hj => ?_, fun j l hj hl hjl k hk => ?_, fun j hj k hk => ?_, H.base⟩
  · rw [row_set hrow i x, set_row]
  · by_cases hji : j = i
    · subst hji
      rw [upd_self, upd_self, upd_self]
      exact hW.kept o5 (fun k hk => (hown k hk).1)
    · rw [upd_ne _ _ hji, upd_ne _ _ hji, upd_ne _ _ hji]
      have h0 := H.wins j hj
      refine Win.kept (Win.kept (S := fun k => k < w.heap.size ∧ T k) h0 ⟨hw.os, hw.tape, hw.output, hw.size, fun k hk hs => hw.block k hk (fun ht => hs ⟨hk, ht⟩)⟩ (fun k hk ht => (hT k ht.1 ht.2).2 j hj hji hk)) o5 (fun k hk => (H.own j hj k hk).1)
  · by_cases hji : j = i
    · subst hji
      rw [upd_self] at hk
      rw [upd_ne _ _ (fun e => hjl e.symm)]
      exact hap l hl (fun e => hjl e.symm) k hk
    · rw [upd_ne _ _ hji] at hk
      by_cases hli : l = i
      · subst hli
        rw [upd_self]
        exact fun e => hap j hj hji k e hk
      · rw [upd_ne _ _ hli]
        exact H.apart j l hj hl hjl k hk
  · by_cases hji : j = i
    · subst hji
      rw [upd_self] at hk
      exact hown k hk
    · rw [upd_ne _ _ hji] at hk
      exact H.own j hj k hk
end

/-- The mailboxes at b and the rows at R tell the same. -/
structure Tell (W : World) (B b g n : Nat) (r room : Nat → Nat) (R : Nat) (o : Nat → Option Nat) (q : Nat → List Int) (v : Nat → Value) (h : Nat → Option Nat) (w : World) : Prop where
  boxes : BoxesAt w B b g n r room o q
  rows : RowsAt w B R n v h q
  apart : ∀ k, bfp b g n r o k → k ≠ R ∧ ∀ i, i < n → h i ≠ some k
  only : Only (fun k => B ≤ k) W w

section
variable {W w w' : World} {B b g n R : Nat} {r room : Nat → Nat} {o : Nat → Option Nat} {q : Nat → List Int} {v : Nat → Value} {h : Nat → Option Nat}

theorem Tell.new (H : Tell W B b g n r room R o q v h w) (hw : Only (fun _ => False) w w') : Tell W B b g n r room R o q v h w' :=
  ⟨H.boxes.kept hw (fun _ _ h => h), H.rows.kept hw (fun h => h) (fun _ _ _ _ h => h), H.apart, H.only.trans hw (fun _ _ h => h.elim)⟩

theorem fp_step {i : Nat} {o' : Option Nat} {X : Nat} (hoo : o' = o i ∨ o' = some X) (hi : i < n) : ∀ k, bfp b g n r (upd o i o') k → bfp b g n r o k ∨ k = X := by
  rintro k (rfl | rfl | ⟨j, hj, hk⟩)
  · exact .inl (.inl rfl)
  · exact .inl (.inr (.inl rfl))
  · by_cases hji : j = i
    · subst hji
      rw [upd_self] at hk
      rcases hk with rfl | hk
      · exact .inl (.inr (.inr ⟨j, hj, .inl rfl⟩))
      · rcases hoo with rfl | rfl
        · exact .inl (.inr (.inr ⟨j, hj, .inr hk⟩))
        · cases hk; exact .inr rfl
    · rw [upd_ne _ _ hji] at hk
      exact .inl (.inr (.inr ⟨j, hj, hk⟩))

/-- Both took a step of the same. -/
theorem Tell.step {w3 w4 : World} {i : Nat} {o' h' : Option Nat} {q' : List Int} {x : Value} (H : Tell W B b g n r room R o q v h w) (hi : i < n)
    (hB : BoxesAt w3 B b g n r room (upd o i o') (upd q i q')) (hoo : o' = o i ∨ o' = some w.heap.size) (h3 : Only (fp (r i) (o i)) w w3) (h4 : Only (fun k => some k = h i) w3 w4)
    (hW : Win w4 3 1 x h' q'.length (q'.map RingI.mk)) (hh : h' = h i ∨ h' = none ∨ ∃ g, h' = some g ∧ w3.heap.size ≤ g) : Tell W B b g n r room R (upd o i o') (upd q i q') (upd v i x) (upd h i h') (w4.setCell ⟨R, i, none⟩ x) := by
  have hRlt := row_lt H.rows.row
  have hlt : ∀ j, j < n → ∀ k, h j = some k → k < w.heap.size := fun j hj k hk => (H.rows.wins j hj).lt k hk
  have o34 : Only (fun k => fp (r i) (o i) k ∨ some k = h i) w w4 := (h3.mono (fun _ _ h => .inl h)).trans h4 (fun _ _ h => .inr h)
  have o5 : Only (fun k => k = R) w4 (w4.setCell ⟨R, i, none⟩ x) := (Only.refl (fun k => k = R) w4).setCell (p := ⟨R, i, none⟩) (fun _ => rfl) _
  have hfp := fp_step (b := b) (g := g) (r := r) hoo hi
  have hs3 := h3.size
  have hlt3 := hB.lt
  have hBw : B ≤ w.heap.size := by have := H.rows.base; omega
  refine ⟨(hB.kept h4 (fun k hk hk' => ?_)).kept o5 (fun k hk e => ?_), H.rows.step hi o34 (fun k hk hT => ?_) hW ?_, fun k hk => ?_, (H.only.trans o34 (fun k hk hT => ?_)).trans o5 (fun k _ e => by have := H.rows.base; omega)⟩
  · rcases hfp k hk with h1 | rfl
    · exact (H.apart k h1).2 i hi hk'.symm
    · have := hlt i hi _ hk'.symm
      omega
  · rcases hfp k hk with h1 | rfl
    · exact (H.apart k h1).1 e
    · omega
  · rcases hT with hT | hT
    · exact ⟨(H.apart k (.inr (.inr ⟨i, hi, hT⟩))).1, fun j hj _ => (H.apart k (.inr (.inr ⟨i, hi, hT⟩))).2 j hj⟩
    · exact ⟨(H.rows.own i hi k hT.symm).1, fun j hj hji => H.rows.apart i j hi hj (fun e => hji e.symm) k hT.symm⟩
  · rcases hh with hh | hh | ⟨g, hg, hge⟩
    · exact .inl hh
    · exact .inr (.inl hh)
    · exact .inr (.inr ⟨g, hg, by omega⟩)
  · have h1 := hfp k hk
    refine ⟨?_, fun j hj hk' => ?_⟩
    · rcases h1 with h1 | rfl
      · exact (H.apart k h1).1
      · omega
    · by_cases hji : j = i
      · subst hji
        rw [upd_self] at hk'
        rcases hh with rfl | rfl | ⟨g', rfl, hge⟩
        · rcases h1 with h1 | rfl
          · exact (H.apart k h1).2 j hj hk'
          · have := hlt j hj _ hk'; omega
        · cases hk'
        · cases hk'
          have := (hlt3 _ hk).1
          omega
      · rw [upd_ne _ _ hji] at hk'
        rcases h1 with h1 | rfl
        · exact (H.apart k h1).2 j hj hk'
        · have := hlt j hj _ hk'; omega
  · rcases hT with hT | hT
    · exact (H.boxes.own i hi k hT).2.2
    · exact (H.rows.own i hi k hT.symm).2
end
end Go.Proofs.Ytjioljfggmhgcaa
