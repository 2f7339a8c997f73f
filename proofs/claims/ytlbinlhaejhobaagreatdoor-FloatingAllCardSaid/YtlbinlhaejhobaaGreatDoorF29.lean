/- assign: the law's few, one, fixed. -/
import Derived.Test.YtlbinlhaejhobaaGreatDoorRps
namespace Go.Proofs.YtlbinlhaejhobaaGreatDoor
namespace Twn
open Go Go.RowKit Krn Asn Pre Adm
open Bch (GrowU orU)

def FewEnd (c : ConfV) (pl : Tks) (w : World) (e : Ending) (w' : World) : Prop := ∃ b, e = .returned (.bool b) ∧ (b = true → fewB c pl.ts = true ∧ ∀ (i : Nat) t, pl.ts[i]? = some t → t.pe ≤ 1500) ∧ Only (fun _ => False) w w'
theorem few_cf0 {w : World} {c : ConfV} {d : ConfL} {pl : Tks} (hw : Words w) (hC : ConfIn w c d pl) (hf : fewB c pl.ts = true) : Cf0 w c d pl := by
  obtain ⟨h1, h2, h3, h4, h5, h6⟩ := hC.small hf
  exact ⟨hw, hC, hC.conf hf, by omega, fun i t l hi => by have := h6 i t l hi; have := (hC.p i t l hi).2.1; omega⟩

/-! The configuration of one task. -/
def oC (X : Nat) : ConfV := ⟨1, 1, 1, 5, ⟨none, 0, 0⟩, 0, ⟨none, 0, 0⟩, ⟨none, 0, 0⟩, ⟨some ⟨X + 1, 0, none⟩, 1, 1⟩, ⟨none, 0, 0⟩⟩
def oT (X : Nat) (th de fl : Int) (n : Nat) : TaskV := ⟨1, th, 10, de, 0, fl, ⟨some ⟨X, 0, none⟩, n, n⟩⟩
def oO : List Opn := [⟨1, 5, 0⟩]
def oP (X : Nat) (th de : Int) : Tks := [(oT X th de 0 1, oO)]
def oD : ConfL := ⟨[], [], [], []⟩
theorem o_none (w : World) : IntsAt w ⟨none, 0, 0⟩ [] := ⟨rfl, Nat.le_refl _, fun k z hz => by simp at hz⟩
theorem o_in {w : World} {X : Nat} {de : Int} (h1 : w.heap[X]? = some (.cells [.int .i64 1, .int .i64 5, .int .i64 0].toArray 90 (0, 0))) (h3 : w.heap[X + 1]? = some (.cells (oT X 1 de 0 1).cells.toArray 49 (0, 0))) : ConfIn w (oC X) oD (oP X 1 de) := by
  have hA : OpnRow w (some ⟨X, 0, none⟩) oO := fun k o ho => by
    match k, ho with
    | 0, ho => cases ho; exact ⟨X, 0, rfl, row_lt h1, row_cell h1 (i := 0) rfl, row_cell h1 (i := 1) rfl, row_cell h1 (i := 2) rfl⟩
    | k + 1, ho => simp [oO] at ho
  refine ⟨o_none _, o_none _, o_none _, o_none _, ⟨rfl, Nat.le_refl _, fun k t ht => ?_⟩, fun i t l ht => ?_, (by show 1 ≤ 9223372036854775807; omega)⟩
  · match k, ht with
    | 0, ht => cases ht; exact ⟨X + 1, 0, rfl, row_lt h3, row_cell h3 (i := 0) rfl, row_cell h3 (i := 1) rfl, row_cell h3 (i := 2) rfl, row_cell h3 (i := 3) rfl, row_cell h3 (i := 4) rfl, row_cell h3 (i := 5) rfl, row_cell h3 (i := 6) rfl⟩
    | k + 1, ht => simp [oP, Tks.ts] at ht
  · match i, ht with
    | 0, ht => cases ht; exact ⟨hA, rfl, Nat.le_refl _⟩
    | k + 1, ht => simp [oP] at ht
theorem o_cf0 {w : World} {X : Nat} {de : Int} (hw : Words w) (h : ConfIn w (oC X) oD (oP X 1 de)) : Cf0 w (oC X) oD (oP X 1 de) := few_cf0 hw h rfl
theorem o_win (X : Nat) (th de : Int) : winI (oC X) oD (oP X th de) 0 = 5 := by
  unfold winI
  rw [show dlyI (oC X) oD (oP X th de) 0 = 0 from rfl, show ldL (oC X) (oP X th de) (prio (oP X th de).ts 0) = [(5, 10)] from rfl]
  refine (Bch.IsWin.uniq (.inr ⟨by omega, by omega, by decide, fun x h1 h2 => ?_⟩) (Bch.win_is _ _)).symm
  have : x = 1 ∨ x = 2 ∨ x = 3 ∨ x = 4 := by omega
  rcases this with rfl | rfl | rfl | rfl <;> decide
theorem o_late (X : Nat) (th de : Int) : lateB (oC X) oD (oP X th de) 1 = decide (ofU de < 5) := by
  show (lateI (oC X) oD (oP X th de) 0 || false) = _
  rw [Bool.or_false]
  unfold lateI
  rw [show (lineI (oC X) oD (oP X th de) 0).re = orU (winI (oC X) oD (oP X th de) 0) from rfl, o_win]
  rfl
theorem o_adm (X : Nat) (th de : Int) (hz : confZ (oC X) oD (oP X th de) = 0) : admB (oC X) oD (oP X th de) = !decide (ofU de < 5) := by
  unfold admB
  rw [hz, show (oC X).ta.n = 1 from rfl, o_late]
  rfl
theorem o_chg (X : Nat) (de : Int) : chg (thF (prio (oP X 1 de).ts)) (oP X 1 de) = oP X 1 de := rfl
theorem o_pass10 (X : Nat) : passT (oC X) oD (oP X 1 10) (prio (oP X 1 10).ts) = true := by
  unfold passT
  rw [o_chg, o_adm _ _ _ rfl]
  decide
theorem o_pass4 (X : Nat) : passT (oC X) oD (oP X 1 4) (prio (oP X 1 4).ts) = false := by
  unfold passT
  rw [o_chg, o_adm _ _ _ rfl]
  decide
theorem o_pas9 (X : Nat) : pasB (oC X) oD (oP X 1 10) [9] = true := by
  unfold pasB
  rw [show chg (thL [9]) (oP X 1 10) = oP X 9 10 from rfl, o_adm _ _ _ rfl]
  have h : decide (ofU 10 < 5) = false := by decide
  rw [h]
  rfl
theorem o_pas0 (X : Nat) : pasB (oC X) oD (oP X 1 10) [0] = false := by
  unfold pasB admB
  rw [show confZ (oC X) oD (chg (thL [0]) (oP X 1 10)) = 5 from rfl]
  rfl
theorem o_hi {X : Nat} {x : Int} (h : Hi (oC X) oD (oP X 1 10) 0 x) : x = 63 := by
  obtain ⟨h1, h2, -, h4⟩ := h
  have hok : ∀ y, okT (oC X) oD (oP X 1 10) 0 y := fun y i hi hp => by
    have : i < 1 := hi
    obtain rfl : i = 0 := by omega
    exact absurd hp (Int.lt_irrefl _)
  by_cases e : x < 63
  · exact absurd (hok 63) (h4 63 e (Int.le_refl _))
  · omega
def oV (X : Nat) : Value := .agg #[.int .i64 1, .int .i64 1, .int .i64 1, .int .i64 5, .slice none 0 0, .int .i64 0, .slice none 0 0, .slice none 0 0, .slice (some ⟨X + 1, 0, none⟩) 1 1, .slice none 0 0]
def One29 (w : World) (e : Ending) (w' : World) : Prop := ∃ X, e = .returned (.agg #[.int .i64 1, .int .i64 1, .int .i64 1, .int .i64 5, .slice none 0 0, .int .i64 0, .slice none 0 0, .slice none 0 0, .slice (some ⟨X + 1, 0, none⟩) 1 1, .slice none 0 0]) ∧ w.heap.size ≤ X ∧ w'.heap[X]? = some (.cells [.int .i64 1, .int .i64 5, .int .i64 0].toArray 90 (0, 0)) ∧ w'.heap[X + 1]? = some (.cells (oT X 1 10 0 1).cells.toArray 49 (0, 0)) ∧ Only (fun _ => False) w w'
set_option maxHeartbeats 2000000 in
theorem one29_any (w : World) : Calls Tryz.prog 59 #[] w (One29 w) := by
  go_enter Tryz.func59, Tryz.ntmps59
  go_wp2
  generalize hW : ((w.alloc (.cells #[.int .i64 1, .int .i64 1, .int .i64 1, .int .i64 5, .slice none 0 0, .int .i64 0, .slice none 0 0, .slice none 0 0, .slice (some ⟨w.heap.size + 1 + 1, 0, none⟩) 1 1, .slice none 0 0] 27)).alloc _).alloc _ = W9
  have hO : Only (fun _ => False) w W9 := by rw [← hW]; exact (((Only.refl _ w).alloc _).alloc _).alloc _
  have b0 : W9.heap[w.heap.size]? = some (.cells [.int .i64 1, .int .i64 1, .int .i64 1, .int .i64 5, .slice none 0 0, .int .i64 0, .slice none 0 0, .slice none 0 0, .slice (some ⟨w.heap.size + 1 + 1, 0, none⟩) 1 1, .slice none 0 0].toArray 27 (0, 0)) := by
    rw [← hW]; exact heap_kept_alloc (heap_kept_alloc (heap_new_at _ _ rfl) _) _
  have h1 : W9.heap[w.heap.size + 1]? = some (.cells [.int .i64 1, .int .i64 5, .int .i64 0].toArray 90 (0, 0)) := by
    rw [← hW]; exact heap_kept_alloc (heap_new_at _ _ (by simp)) _
  have h3 : W9.heap[w.heap.size + 1 + 1]? = some (.cells (oT (w.heap.size + 1) 1 10 0 1).cells.toArray 49 (0, 0)) := by
    rw [← hW]; exact heap_new_at _ _ (by simp)
  clear hW
  have c0 := row_cell b0 (i := 0) rfl
  have c1 := row_cell b0 (i := 1) rfl
  have c2 := row_cell b0 (i := 2) rfl
  have c3 := row_cell b0 (i := 3) rfl
  have c4 := row_cell b0 (i := 4) rfl
  have c5 := row_cell b0 (i := 5) rfl
  have c6 := row_cell b0 (i := 6) rfl
  have c7 := row_cell b0 (i := 7) rfl
  have c8 := row_cell b0 (i := 8) rfl
  have c9 := row_cell b0 (i := 9) rfl
  exact bodyPost_ret (v := .agg #[.int .i64 1, .int .i64 1, .int .i64 1, .int .i64 5, .slice none 0 0, .int .i64 0, .slice none 0 0, .slice none 0 0, .slice (some ⟨w.heap.size + 1 + 1, 0, none⟩) 1 1, .slice none 0 0]) (by simp [results, Tryz.results59, go_sem, c0, c1, c2, c3, c4, c5, c6, c7, c8, c9]) rfl ⟨w.heap.size + 1, rfl, by omega, h1, h3, hO⟩
def zagg : Value := .agg #[.int .i64 0, .int .i64 0, .int .i64 0, .int .i64 0, .slice none 0 0, .int .i64 0, .slice none 0 0, .slice none 0 0, .slice none 0 0, .slice none 0 0]
theorem o_srch {w : World} {X : Nat} (hw : Words w) (h : ConfIn w (oC X) oD (oP X 1 10)) : Calls Tryz.prog 31 #[oV X] w (fun e w' => ∃ g off cap, e = .returned (.tuple #[.slice (some ⟨g, off, none⟩) 1 cap, .bool true]) ∧ (∀ W, Only (fun _ => False) w' W → W.cell? ⟨g, off, none⟩ = some (.int .i64 63) ∧ g < W.heap.size) ∧ Only (fun _ => False) w w') := by
  refine (search_any (o_cf0 hw h)).mono ?_
  rintro e w' ⟨ho, -, h2⟩
  obtain ⟨A, cap, hh, B, rfl, hW, -, hB⟩ := h2 (o_pass10 X)
  have hz := o_hi (hB 0 (by show 0 < 1; omega))
  have hl := hW.1
  have hl1 : B.length = 1 := by
    have e : (icells B).length = B.length := by unfold icells; simp
    rw [← e, hl]
    rfl
  obtain ⟨z, rfl⟩ : ∃ z, B = [z] := by
    match B, hl1 with
    | [z], _ => exact ⟨z, rfl⟩
  obtain rfl : z = 63 := hz
  obtain ⟨g, off, cap', -, hv, -, -, hlt, hc, -⟩ := hW.at_ (by show 0 < 1; omega)
  injection hv with e1 _ e3
  subst e1
  have hc0 := hc 0 (.int .i64 63) rfl
  rw [Nat.add_zero] at hc0
  exact ⟨g, off, cap, rfl, fun W hW9 => ⟨hW9.cell hc0 (fun h => h), Nat.lt_of_lt_of_le hlt hW9.size⟩, ho⟩
theorem o_srch4 {w : World} {X : Nat} (hw : Words w) (h : ConfIn w (oC X) oD (oP X 1 4)) : Calls Tryz.prog 31 #[oV X] w (fun e w' => e = .returned (.tuple #[.slice none 0 0, .bool false]) ∧ Only (fun _ => False) w w') := by
  refine (search_any (o_cf0 hw h)).mono ?_
  rintro e w' ⟨ho, h1, -⟩
  exact ⟨h1 (o_pass4 X), ho⟩
theorem o_with {w : World} {X : Nat} {de : Int} (hw : Words w) (h : ConfIn w (oC X) oD (oP X 1 de)) : Calls Tryz.prog 26 #[oV X, .slice none 0 0] w (fun e w' => e = .returned (.tuple #[.agg #[.int .i64 0, .int .i64 0, .int .i64 0, .int .i64 0, .slice none 0 0, .int .i64 0, .slice none 0 0, .slice none 0 0, .slice none 0 0, .slice none 0 0], .int .i64 1]) ∧ Only (fun _ => False) w w') := by
  refine (with_any (o_cf0 hw h) (o_none w) (by omega)).mono ?_
  rintro e w' ⟨ho, h1, -⟩
  exact ⟨h1 (by show 0 ≠ 1; omega), ho⟩
theorem o_one {w : World} {B : Nat} {z : Int} (h : w.heap[B]? = some (.cells #[.int .i64 z] 3 (0, 0))) : IntsAt w ⟨some ⟨B, 0, none⟩, 1, 1⟩ [z] :=
  ⟨rfl, Nat.le_refl _, fun k y hy => by
    match k, hy with
    | 0, hy => cases hy; exact ⟨B, 0, rfl, row_lt h, row_cell (L := [.int .i64 z]) h (i := 0) rfl⟩
    | k + 1, hy => simp at hy⟩
theorem o_pasC {w : World} {X B : Nat} {z : Int} {b : Bool} (hw : Words w) (h : ConfIn w (oC X) oD (oP X 1 10)) (hb : w.heap[B]? = some (.cells #[.int .i64 z] 3 (0, 0))) (hp : pasB (oC X) oD (oP X 1 10) [z] = b) : Calls Tryz.prog 27 #[oV X, .slice (some ⟨B, 0, none⟩) 1 1] w (GrowB b w) := by
  rw [← hp]
  exact passes_any (o_cf0 hw h) (o_one hb) (by omega)
theorem o_try {w : World} {X : Nat} (hw : Words w) (h : ConfIn w (oC X) oD (oP X 1 10)) : Calls Tryz.prog 30 #[oV X] w (GrowI 3 w) := tries_any (o_cf0 hw h)
end Twn
end Go.Proofs.YtlbinlhaejhobaaGreatDoor
