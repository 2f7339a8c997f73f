/- ReadyPlays: the plain rows beside the ready object. -/
import Derived.Test.YteniphdfhmbbeaaDoorMC
import Derived.Test.YteniphdfhmbbeaaDoorOrd
namespace Go.Proofs.YteniphdfhmbbeaaDoor
open Go Go.RowKit Go.Maps Ring Band

theorem order_mem {p : Nat → Int} : ∀ {n y : Nat}, y < n → y ∈ orderUp p n
  | 0, y, h => by omega
  | n + 1, y, h => by
    unfold orderUp
    rw [ins_mem]
    by_cases he : y = n
    · exact .inl he
    · exact .inr (order_mem (by omega))
theorem total_upd_ge {q : Nat → List Jb} {i : Nat} {l : List Jb} : ∀ n, n ≤ i → total (upd q i l) n = total q n
  | 0, _ => rfl
  | n + 1, h => by
    rw [total, total, total_upd_ge n (by omega), upd_ne q l (show n ≠ i by omega)]
theorem total_upd {q : Nat → List Jb} {i : Nat} {l : List Jb} : ∀ n, i < n → total (upd q i l) n + (q i).length = total q n + l.length
  | 0, h => by omega
  | n + 1, h => by
    rw [total, total]
    by_cases he : i = n
    · subst he
      rw [total_upd_ge i (Nat.le_refl _), upd_self]
      omega
    · have := total_upd (q := q) (i := i) (l := l) n (by omega)
      rw [upd_ne q l (show n ≠ i from fun e => he e.symm)]
      omega
theorem total_none {q : Nat → List Jb} (h : ∀ i, q i = []) : ∀ n, total q n = 0
  | 0 => rfl
  | n + 1 => by rw [total, total_none h n, h n]; rfl

/-- The first of a list whose row isn't empty. -/
def pick (q : Nat → List Jb) : List Nat → Int
  | [] => -1
  | y :: l => if (q y).length ≠ 0 then (y : Int) else pick q l
theorem pick_spec (q : Nat → List Jb) : ∀ L : List Nat, (pick q L = -1 ∧ ∀ y ∈ L, q y = []) ∨ ∃ a t b, L = a ++ t :: b ∧ q t ≠ [] ∧ (∀ y ∈ a, q y = []) ∧ pick q L = (t : Nat)
  | [] => .inl ⟨rfl, fun y hy => by simp at hy⟩
  | y :: l => by
    unfold pick
    by_cases h : (q y).length ≠ 0
    · rw [if_pos h]
      exact .inr ⟨[], y, l, rfl, fun e => h (by rw [e]; rfl), fun z hz => by simp at hz, rfl⟩
    · rw [if_neg h]
      have he : q y = [] := List.eq_nil_of_length_eq_zero (by omega)
      rcases pick_spec q l with ⟨h1, h2⟩ | ⟨a, t, b, h1, h2, h3, h4⟩
      · refine .inl ⟨h1, fun z hz => ?_⟩
        rcases List.mem_cons.1 hz with rfl | hz
        · exact he
        · exact h2 z hz
      · refine .inr ⟨y :: a, t, b, by rw [h1]; rfl, h2, fun z hz => ?_, h4⟩
        rcases List.mem_cons.1 hz with rfl | hz
        · exact he
        · exact h3 z hz
/-- It is the one of the highest priority. -/
theorem pick_top {n : Nat} {p : Nat → Int} {P : Nat → Nat} {q : Nat → List Jb} (hp : ∀ i, i < n → p i = (P i : Int)) : (pick q (orderUp p n) = -1 ∧ ∀ i, i < n → q i = []) ∨ ∃ t, pick q (orderUp p n) = (t : Nat) ∧ IsTop n P q t := by
  rcases pick_spec q (orderUp p n) with ⟨h1, h2⟩ | ⟨a, t, b, h1, h2, h3, h4⟩
  · exact .inl ⟨h1, fun i hi => h2 i (order_mem hi)⟩
  · have ht : t < n := order_lt (p := p) (by rw [h1]; simp)
    refine .inr ⟨t, h4, ht, h2, fun i hi hq => ?_⟩
    have hs := order_sorted p n
    rw [h1, List.pairwise_append, List.pairwise_cons] at hs
    have hm := order_mem (p := p) hi
    rw [h1, List.mem_append, List.mem_cons] at hm
    rcases hm with hm | rfl | hm
    · exact absurd (h3 i hm) hq
    · exact Nat.le_refl _
    · have := hs.2.1.1 i hm
      rw [hp i hi, hp t ht] at this
      omega
theorem pick_drop {q : Nat → List Jb} {L : List Nat} {j y : Nat} (h : L[j]? = some y) : pick q (L.drop j) = if (q y).length ≠ 0 then (y : Int) else pick q (L.drop (j + 1)) := by
  obtain ⟨h1, h2⟩ := List.getElem?_eq_some_iff.1 h
  rw [List.drop_eq_getElem_cons h1, h2]
  rfl

/-- Rows of jobs at block R: what each holds is q's. -/
structure RowsAt (w : World) (B R n : Nat) (v : Nat → Value) (h : Nat → Option Nat) (q : Nat → List Jb) : Prop where
  row : w.heap[R]? = some (.cells ((List.range n).map v).toArray 43 (0, 0))
  wins : ∀ i, i < n → Win w 37 3 (v i) (h i) (q i).length (jbCells (q i))
  apart : ∀ i j, i < n → j < n → i ≠ j → ∀ k, h i = some k → h j ≠ some k
  own : ∀ i, i < n → ∀ k, h i = some k → k ≠ R ∧ B ≤ k
  base : B ≤ R

section
variable {w w' : World} {B R n : Nat} {v : Nat → Value} {h : Nat → Option Nat} {q : Nat → List Jb}

theorem RowsAt.kept {S : Nat → Prop} (H : RowsAt w B R n v h q) (hw : Only S w w') (hR : ¬ S R) (hS : ∀ i, i < n → ∀ k, h i = some k → ¬ S k) : RowsAt w' B R n v h q :=
  ⟨hw.heap H.row hR, fun i hi => (H.wins i hi).kept hw (hS i hi), H.apart, H.own, H.base⟩
theorem RowsAt.cell (H : RowsAt w B R n v h q) {i : Nat} (hi : i < n) : w.cell? ⟨R, i, none⟩ = some (v i) := by
  refine row_cell H.row ?_
  rw [List.getElem?_map, List.getElem?_range hi]
  rfl
theorem set_row (v : Nat → Value) (n i : Nat) (x : Value) : ((List.range n).map v).set i x = (List.range n).map (upd v i x) := by
  apply List.ext_getElem?
  intro j
  by_cases h : j < n
  · rw [List.getElem?_set, List.getElem?_map, List.getElem?_range h]
    by_cases hij : i = j
    · subst hij
      rw [if_pos rfl, if_pos (by simpa using h), List.getElem?_map, List.getElem?_range h, Option.map_some, upd_self]
    · rw [if_neg hij, List.getElem?_map, List.getElem?_range h]
      simp [upd_ne v x (fun e => hij e.symm)]
  · rw [List.getElem?_eq_none (by simp; omega), List.getElem?_eq_none (by simp; omega)]
/-- One row's step: it is another slice now, and stored. -/
theorem RowsAt.step {w4 : World} {i : Nat} {x : Value} {h' : Option Nat} {q' : List Jb} (H : RowsAt w B R n v h q) (hi : i < n) {T : Nat → Prop} (hw : Only T w w4) (hT : ∀ k, k < w.heap.size → T k → k ≠ R ∧ ∀ j, j < n → j ≠ i → h j ≠ some k)
    (hW : Win w4 37 3 x h' q'.length (jbCells q')) (hh : h' = h i ∨ h' = none ∨ ∃ g, h' = some g ∧ w.heap.size ≤ g) : RowsAt (w4.setCell ⟨R, i, none⟩ x) B R n (upd v i x) (upd h i h') (upd q i q') := by
  have hRlt := row_lt H.row
  have hlt : ∀ j, j < n → ∀ k, h j = some k → k < w.heap.size := fun j hj k hk => (H.wins j hj).lt k hk
  have hrow : w4.heap[R]? = some (.cells ((List.range n).map v).toArray 43 (0, 0)) := (hw.block R hRlt (fun hk => (hT R hRlt hk).1 rfl)).trans H.row
  have o5 : Only (fun k => k = R) w4 (w4.setCell ⟨R, i, none⟩ x) := (Only.refl (fun k => k = R) w4).setCell (p := ⟨R, i, none⟩) (fun _ => rfl) _
  have hown : ∀ k, h' = some k → k ≠ R ∧ B ≤ k := fun k hk => by
    rcases hh with rfl | rfl | ⟨g, rfl, hg⟩
    · exact H.own i hi k hk
    · cases hk
    · cases hk
      have := H.base
      exact ⟨by omega, by omega⟩
  have hap : ∀ j, j < n → j ≠ i → ∀ k, h' = some k → h j ≠ some k := fun j hj hji k hk hk' => by
    rcases hh with rfl | rfl | ⟨g, rfl, hg⟩
    · exact H.apart i j hi hj (fun e => hji e.symm) k hk hk'
    · cases hk
    · cases hk
      have := hlt j hj _ hk'
      omega
  refine ⟨?_, fun j hj => ?_, fun j l hj hl hjl k hk => ?_, fun j hj k hk => ?_, H.base⟩
  · rw [row_set hrow i x, set_row]
  · by_cases hji : j = i
    · subst hji
      rw [upd_self, upd_self, upd_self]
      exact hW.kept o5 (fun k hk => (hown k hk).1)
    · rw [upd_ne _ _ hji, upd_ne _ _ hji, upd_ne _ _ hji]
      have h0 := H.wins j hj
      refine Win.kept (Win.kept (S := fun k => k < w.heap.size ∧ T k) h0 ⟨hw.os, hw.tape, hw.output, hw.size, fun k hk hs => hw.block k hk (fun ht => hs ⟨hk, ht⟩)⟩ (fun k hk ht => (hT k ht.1 ht.2).2 j hj hji hk)) o5 (fun k hk => (H.own j hj k hk).1)
  · by_cases hji : j = i
    · subst hji
      rw [upd_self] at hk
      rw [upd_ne _ _ (fun e => hjl e.symm)]
      exact hap l hl (fun e => hjl e.symm) k hk
    · rw [upd_ne _ _ hji] at hk
      by_cases hli : l = i
      · subst hli
        rw [upd_self]
        exact fun e => hap j hj hji k e hk
      · rw [upd_ne _ _ hli]
        exact H.apart j l hj hl hjl k hk
  · by_cases hji : j = i
    · subst hji
      rw [upd_self] at hk
      exact hown k hk
    · rw [upd_ne _ _ hji] at hk
      exact H.own j hj k hk
end

/-- The ready object's blocks, and the row of the next numbers. -/
def tfp (r G bs bm n : Nat) (ring : Nat → Nat) (o : Nat → Option Nat) (N k : Nat) : Prop := rfp r G bs bm n ring o k ∨ k = N
def nxRow (nx : Nat → Nat) (n : Nat) : List Value := (List.range n).map fun i => .int .i64 (nx i : Int)
theorem nxRow_at (nx : Nat → Nat) {n i : Nat} (h : i < n) : (nxRow nx n)[i]? = some (.int .i64 (nx i : Int)) := by
  unfold nxRow
  rw [List.getElem?_map, List.getElem?_range h]
  rfl
theorem nxRow_set (nx : Nat → Nat) (n i x : Nat) : (nxRow nx n).set i (.int .i64 (x : Int)) = nxRow (upd nx i x) n := by
  unfold nxRow
  rw [set_row (fun i => Value.int .i64 (nx i : Int))]
  refine List.map_congr_left fun j _ => ?_
  by_cases h : j = i
  · subst h; rw [upd_self, upd_self]
  · rw [upd_ne _ _ h, upd_ne _ _ h]
/-- The ready object at r and the rows at R tell the same; the next numbers stand at N. -/
structure TellR (S : Nat → Prop) (W : World) (B r G bs bm n : Nat) (P ring : Nat → Nat) (R N : Nat) (nx : Nat → Nat) (o : Nat → Option Nat) (q : Nat → List Jb) (m : BitVec 64) (v : Nat → Value) (h : Nat → Option Nat) (w : World) : Prop where
  rd : RdAt w B r G bs bm n P nx ring o q m
  bits : Bits n P q m
  rows : RowsAt w B R n v h q
  nexts : w.heap[N]? = some (.cells (nxRow nx n).toArray 3 (0, 0))
  apart : ∀ k, tfp r G bs bm n ring o N k → k ≠ R ∧ ∀ i, i < n → h i ≠ some k
  nap : ¬ rfp r G bs bm n ring o N
  only : Only S W w
  foot : ∀ k, k < W.heap.size → (tfp r G bs bm n ring o N k ∨ k = R ∨ ∃ i, i < n ∧ h i = some k) → S k

section
variable {S : Nat → Prop} {W w w' : World} {B r G bs bm n R N : Nat} {P ring nx : Nat → Nat} {o : Nat → Option Nat} {q : Nat → List Jb} {m : BitVec 64} {v : Nat → Value} {h : Nat → Option Nat}
theorem TellR.new (H : TellR S W B r G bs bm n P ring R N nx o q m v h w) (hw : Only (fun _ => False) w w') : TellR S W B r G bs bm n P ring R N nx o q m v h w' :=
  ⟨H.rd.new hw, H.bits, H.rows.kept hw (fun h => h) (fun _ _ _ _ h => h), hw.heap H.nexts (fun h => h), H.apart, H.nap, H.only.trans hw (fun _ _ h => h.elim), H.foot⟩
theorem TellR.lt (H : TellR S W B r G bs bm n P ring R N nx o q m v h w) : ∀ k, tfp r G bs bm n ring o N k ∨ k = R ∨ (∃ i, i < n ∧ h i = some k) → k < w.heap.size := by
  rintro k ((hk | rfl) | rfl | ⟨i, hi, hk⟩)
  · exact (H.rd.lt k hk).1
  · exact lt_of_block H.nexts
  · exact lt_of_block H.rows.row
  · exact (H.rows.wins i hi).lt k hk
/-- The next number of one task. -/
theorem TellR.bump (H : TellR S W B r G bs bm n P ring R N nx o q m v h w) (i x : Nat) :
    RdAt (w.setCell ⟨N, i, none⟩ (.int .i64 (x : Int))) B r G bs bm n P nx ring o q m ∧ (w.setCell ⟨N, i, none⟩ (.int .i64 (x : Int))).heap[N]? = some (.cells (nxRow (upd nx i x) n).toArray 3 (0, 0)) ∧ Only (fun k => k = N) w (w.setCell ⟨N, i, none⟩ (.int .i64 (x : Int))) := by
  have o1 : Only (fun k => k = N) w (w.setCell ⟨N, i, none⟩ (.int .i64 (x : Int))) := (Only.refl (fun k => k = N) w).setCell (p := ⟨N, i, none⟩) (fun _ => rfl) _
  refine ⟨H.rd.kept o1 (fun k hk e => H.nap (e ▸ hk)), ?_, o1⟩
  have := row_set H.nexts i (.int .i64 (x : Int))
  rw [nxRow_set] at this
  exact this
/-- The ready object took a step that left the rows. -/
theorem TellR.keep {w3 : World} {nx' : Nat → Nat} {o' : Nat → Option Nat} {m' : BitVec 64} (H : TellR S W B r G bs bm n P ring R N nx o q m v h w) (hR : RdAt w3 B r G bs bm n P nx' ring o' q m') (hb : Bits n P q m') (hoo : ∀ k, rfp r G bs bm n ring o' k → rfp r G bs bm n ring o k ∨ w.heap.size ≤ k)
    (hN : w3.heap[N]? = some (.cells (nxRow nx' n).toArray 3 (0, 0))) (h3 : Only (tfp r G bs bm n ring o N) w w3) : TellR S W B r G bs bm n P ring R N nx' o' q m' v h w3 := by
  have hNl := lt_of_block H.nexts
  refine ⟨hR, hb, H.rows.kept h3 (fun hk => (H.apart R hk).1 rfl) (fun i hi k hk hk' => (H.apart k hk').2 i hi hk), hN, fun k hk => ?_, fun hk => ?_, H.only.trans h3 (fun k hk hT => H.foot k hk (.inl hT)), fun k hk hT => ?_⟩
  · rcases hk with hk | rfl
    · rcases hoo k hk with h1 | h1
      · exact H.apart k (.inl h1)
      · refine ⟨?_, fun i hi e => ?_⟩
        · have := lt_of_block H.rows.row; omega
        · have := (H.rows.wins i hi).lt k e; omega
    · exact H.apart k (.inr rfl)
  · rcases hoo N hk with h1 | h1
    · exact H.nap h1
    · omega
  · have := H.only.size
    rcases hT with (hT | hT) | hT
    · rcases hoo k hT with h1 | h1
      · exact H.foot k hk (.inl (.inl h1))
      · omega
    · exact H.foot k hk (.inl (.inr hT))
    · exact H.foot k hk (.inr hT)
/-- Both took a step of the same. -/
theorem TellR.step {w3 w4 : World} {i : Nat} {nx' : Nat → Nat} {o' : Nat → Option Nat} {m' : BitVec 64} {h' : Option Nat} {q' : List Jb} {x : Value} (H : TellR S W B r G bs bm n P ring R N nx o q m v h w) (hi : i < n)
    (hR : RdAt w3 B r G bs bm n P nx' ring o' (upd q i q') m') (hb : Bits n P (upd q i q') m') (hoo : ∀ k, rfp r G bs bm n ring o' k → rfp r G bs bm n ring o k ∨ w.heap.size ≤ k)
    (hN : w3.heap[N]? = some (.cells (nxRow nx' n).toArray 3 (0, 0))) (h3 : Only (tfp r G bs bm n ring o N) w w3) (h4 : Only (fun k => some k = h i) w3 w4)
    (hW : Win w4 37 3 x h' q'.length (jbCells q')) (hh : h' = h i ∨ h' = none ∨ ∃ g, h' = some g ∧ w3.heap.size ≤ g) : TellR S W B r G bs bm n P ring R N nx' o' (upd q i q') m' (upd v i x) (upd h i h') (w4.setCell ⟨R, i, none⟩ x) := by
  have hNl := lt_of_block H.nexts
  have hRl := lt_of_block H.rows.row
  have hlt : ∀ j, j < n → ∀ k, h j = some k → k < w.heap.size := fun j hj k hk => (H.rows.wins j hj).lt k hk
  have o34 : Only (fun k => tfp r G bs bm n ring o N k ∨ some k = h i) w w4 := (h3.mono (fun _ _ h => .inl h)).trans h4 (fun _ _ h => .inr h)
  have o5 : Only (fun k => k = R) w4 (w4.setCell ⟨R, i, none⟩ x) := (Only.refl (fun k => k = R) w4).setCell (p := ⟨R, i, none⟩) (fun _ => rfl) _
  have hs3 := h3.size
  have hBw : B ≤ w.heap.size := by have := H.rows.base; omega
  have hne : ∀ k, rfp r G bs bm n ring o' k → k ≠ R ∧ h i ≠ some k := fun k hk => by
    rcases hoo k hk with h1 | h1
    · exact ⟨(H.apart k (.inl h1)).1, (H.apart k (.inl h1)).2 i hi⟩
    · exact ⟨by omega, fun e => by have := hlt i hi k e; omega⟩
  have hrl3 := hR.lt
  refine ⟨(hR.kept h4 (fun k hk hk' => (hne k hk).2 hk'.symm)).kept o5 (fun k hk e => (hne k hk).1 e), hb, H.rows.step hi o34 (fun k hk hT => ?_) hW ?_, ?_, fun k hk => ?_, fun hk => ?_, (H.only.trans o34 (fun k hk hT => ?_)).trans o5 (fun k hk e => H.foot k hk (.inr (.inl e))), fun k hk hT => ?_⟩
  · rcases hT with hT | hT
    · exact ⟨(H.apart k hT).1, fun j hj _ => (H.apart k hT).2 j hj⟩
    · exact ⟨(H.rows.own i hi k hT.symm).1, fun j hj hji => H.rows.apart i j hi hj (fun e => hji e.symm) k hT.symm⟩
  · rcases hh with hh | hh | ⟨g, hg, hge⟩
    · exact .inl hh
    · exact .inr (.inl hh)
    · exact .inr (.inr ⟨g, hg, by omega⟩)
  · exact o5.heap (h4.heap hN (fun hk => (H.apart N (.inr rfl)).2 i hi hk.symm)) (H.apart N (.inr rfl)).1
  · have hk2 : k ≠ R ∧ (∀ j, j < n → h j ≠ some k) ∧ (k < w3.heap.size) := by
      rcases hk with hk | rfl
      · have h0 := (hrl3 k hk).1
        rcases hoo k hk with h1 | h1
        · exact ⟨(H.apart k (.inl h1)).1, (H.apart k (.inl h1)).2, h0⟩
        · exact ⟨by omega, fun j hj e => by have := hlt j hj k e; omega, h0⟩
      · exact ⟨(H.apart k (.inr rfl)).1, (H.apart k (.inr rfl)).2, by omega⟩
    refine ⟨hk2.1, fun j hj hk' => ?_⟩
    by_cases hji : j = i
    · subst hji
      rw [upd_self] at hk'
      rcases hh with rfl | rfl | ⟨g', rfl, hge⟩
      · exact hk2.2.1 j hj hk'
      · cases hk'
      · cases hk'
        omega
    · rw [upd_ne _ _ hji] at hk'
      exact hk2.2.1 j hj hk'
  · rcases hoo N hk with h1 | h1
    · exact H.nap h1
    · omega
  · rcases hT with hT | hT
    · exact H.foot k hk (.inl hT)
    · exact H.foot k hk (.inr (.inr ⟨i, hi, hT.symm⟩))
  · have hs := H.only.size
    rcases hT with (hT | hT) | hT | ⟨j, hj, hT⟩
    · rcases hoo k hT with h1 | h1
      · exact H.foot k hk (.inl (.inl h1))
      · omega
    · exact H.foot k hk (.inl (.inr hT))
    · exact H.foot k hk (.inr (.inl hT))
    · by_cases hji : j = i
      · subst hji
        rw [upd_self] at hT
        rcases hh with rfl | rfl | ⟨g', rfl, hge⟩
        · exact H.foot k hk (.inr (.inr ⟨j, hj, hT⟩))
        · cases hT
        · cases hT
          omega
      · rw [upd_ne _ _ hji] at hT
        exact H.foot k hk (.inr (.inr ⟨j, hj, hT⟩))
end
/-- What holds at the head of a round. -/
def PRel (S : Nat → Prop) (W : World) (B r G bs bm n : Nat) (P ring : Nat → Nat) (R N k : Nat) (al : Int) (w : World) : Prop :=
  ∃ nx o q m v h, TellR S W B r G bs bm n P ring R N nx o q m v h w ∧ (∀ i, nx i ≤ k) ∧ al = total q n
end Go.Proofs.YteniphdfhmbbeaaDoor
