/- The fixed calls of layer 28's laws. -/
import Derived.Test.YtlbinlhaejhobaaGreatDoorAdm4
import Derived.Test.YtlbinlhaejhobaaGreatDoorPO
namespace Go.Proofs.YtlbinlhaejhobaaGreatDoor
namespace Adm
open Go Go.RowKit Rca Sct Lin Lck Cst Rld Pre
open Bch (U sA sC sM sA_le sC_le sM_le GrowU Ld LRow LB orU)

def onT (X : Nat) (de : Int) : TaskV := ⟨1, 1, 10, de, 4, 0, ⟨some ⟨X, 0, none⟩, 1, 1⟩⟩
def onC (X : Nat) : ConfV := ⟨1, 1, 1, 5, ⟨none, 0, 0⟩, 0, ⟨none, 0, 0⟩, ⟨none, 0, 0⟩, ⟨some ⟨X + 1, 0, none⟩, 1, 1⟩, ⟨none, 0, 0⟩⟩
def onO : List Opn := [⟨1, 5, 0⟩]
def onP (X : Nat) (de : Int) : Tks := [(onT X de, onO)]
def onD : ConfL := ⟨[], [], [], []⟩
theorem on_none (w : World) : IntsAt w ⟨none, 0, 0⟩ [] := ⟨rfl, Nat.le_refl _, fun k z hz => by simp at hz⟩
theorem on_in {w : World} {X : Nat} {de : Int} (h1 : w.heap[X]? = some (.cells [.int .i64 1, .int .i64 5, .int .i64 0].toArray 90 (0, 0))) (h3 : w.heap[X + 1]? = some (.cells (onT X de).cells.toArray 49 (0, 0))) : ConfIn w (onC X) onD (onP X de) := by
  have hA : OpnRow w (some ⟨X, 0, none⟩) onO := fun k o ho => by
    match k, ho with
    | 0, ho => cases ho; exact ⟨X, 0, rfl, row_lt h1, row_cell h1 (i := 0) rfl, row_cell h1 (i := 1) rfl, row_cell h1 (i := 2) rfl⟩
    | k + 1, ho => simp [onO] at ho
  refine ⟨on_none _, on_none _, on_none _, on_none _, ⟨rfl, Nat.le_refl _, fun k t ht => ?_⟩, fun i t l ht => ?_, (by show 1 ≤ 9223372036854775807; omega)⟩
  · match k, ht with
    | 0, ht => cases ht; exact ⟨X + 1, 0, rfl, row_lt h3, row_cell h3 (i := 0) rfl, row_cell h3 (i := 1) rfl, row_cell h3 (i := 2) rfl, row_cell h3 (i := 3) rfl, row_cell h3 (i := 4) rfl, row_cell h3 (i := 5) rfl, row_cell h3 (i := 6) rfl⟩
    | k + 1, ht => simp [onP, Tks.ts] at ht
  · match i, ht with
    | 0, ht => cases ht; exact ⟨hA, rfl, Nat.le_refl _⟩
    | k + 1, ht => simp [onP] at ht
def onV (X : Nat) : Value := .agg #[.int .i64 1, .int .i64 1, .int .i64 1, .int .i64 5, .slice none 0 0, .int .i64 0, .slice none 0 0, .slice none 0 0, .slice (some ⟨X + 1, 0, none⟩) 1 1, .slice none 0 0]
def One8 (w : World) (e : Ending) (w' : World) : Prop := ∃ X, e = .returned (.agg #[.int .i64 1, .int .i64 1, .int .i64 1, .int .i64 5, .slice none 0 0, .int .i64 0, .slice none 0 0, .slice none 0 0, .slice (some ⟨X + 1, 0, none⟩) 1 1, .slice none 0 0]) ∧ w.heap.size ≤ X ∧ w'.heap[X]? = some (.cells [.int .i64 1, .int .i64 5, .int .i64 0].toArray 90 (0, 0)) ∧ w'.heap[X + 1]? = some (.cells (onT X 10).cells.toArray 49 (0, 0)) ∧ Only (fun _ => False) w w'
set_option maxHeartbeats 2000000 in
theorem one8_any (w : World) : Calls Tryz.prog 40 #[] w (One8 w) := by
  go_enter Tryz.func40, Tryz.ntmps40
  go_wp2
  generalize hW : ((w.alloc (.cells #[.int .i64 1, .int .i64 1, .int .i64 1, .int .i64 5, .slice none 0 0, .int .i64 0, .slice none 0 0, .slice none 0 0, .slice (some ⟨w.heap.size + 1 + 1, 0, none⟩) 1 1, .slice none 0 0] 27)).alloc _).alloc _ = W9
  have hO : Only (fun _ => False) w W9 := by rw [← hW]; exact (((Only.refl _ w).alloc _).alloc _).alloc _
  have b0 : W9.heap[w.heap.size]? = some (.cells [.int .i64 1, .int .i64 1, .int .i64 1, .int .i64 5, .slice none 0 0, .int .i64 0, .slice none 0 0, .slice none 0 0, .slice (some ⟨w.heap.size + 1 + 1, 0, none⟩) 1 1, .slice none 0 0].toArray 27 (0, 0)) := by
    rw [← hW]; exact heap_kept_alloc (heap_kept_alloc (heap_new_at _ _ rfl) _) _
  have h1 : W9.heap[w.heap.size + 1]? = some (.cells [.int .i64 1, .int .i64 5, .int .i64 0].toArray 90 (0, 0)) := by
    rw [← hW]; exact heap_kept_alloc (heap_new_at _ _ (by simp)) _
  have h3 : W9.heap[w.heap.size + 1 + 1]? = some (.cells (onT (w.heap.size + 1) 10).cells.toArray 49 (0, 0)) := by
    rw [← hW]; exact heap_new_at _ _ (by simp)
  clear hW
  have c0 := row_cell b0 (i := 0) rfl
  have c1 := row_cell b0 (i := 1) rfl
  have c2 := row_cell b0 (i := 2) rfl
  have c3 := row_cell b0 (i := 3) rfl
  have c4 := row_cell b0 (i := 4) rfl
  have c5 := row_cell b0 (i := 5) rfl
  have c6 := row_cell b0 (i := 6) rfl
  have c7 := row_cell b0 (i := 7) rfl
  have c8 := row_cell b0 (i := 8) rfl
  have c9 := row_cell b0 (i := 9) rfl
  exact bodyPost_ret (v := .agg #[.int .i64 1, .int .i64 1, .int .i64 1, .int .i64 5, .slice none 0 0, .int .i64 0, .slice none 0 0, .slice none 0 0, .slice (some ⟨w.heap.size + 1 + 1, 0, none⟩) 1 1, .slice none 0 0]) (by simp [results, Tryz.results40, go_sem, c0, c1, c2, c3, c4, c5, c6, c7, c8, c9]) rfl ⟨w.heap.size + 1, rfl, by omega, h1, h3, hO⟩
-- what its numbers come to
theorem on_few (X : Nat) (de : Int) : fewB (onC X) (onP X de).ts = true := rfl
theorem on_z10 (X : Nat) : confZ (onC X) onD (onP X 10) = 0 := rfl
theorem on_z4 (X : Nat) : confZ (onC X) onD (onP X 4) = 0 := rfl
theorem on_dly (X : Nat) (de : Int) : dlyI (onC X) onD (onP X de) 0 = 0 := rfl
theorem on_ld (X : Nat) (de : Int) : ldL (onC X) (onP X de) (prio (onP X de).ts 0) = [(5, 10)] := rfl
theorem on_win (X : Nat) (de : Int) : winI (onC X) onD (onP X de) 0 = 5 := by
  unfold winI
  rw [on_dly, on_ld]
  refine (Bch.IsWin.uniq (.inr ⟨by omega, by omega, by decide, fun x h1 h2 => ?_⟩) (Bch.win_is _ _)).symm
  have : x = 1 ∨ x = 2 ∨ x = 3 ∨ x = 4 := by omega
  rcases this with rfl | rfl | rfl | rfl <;> decide
theorem on_re (X : Nat) (de : Int) : (lineI (onC X) onD (onP X de) 0).re = 5 := by
  show orU (winI (onC X) onD (onP X de) 0) = 5
  rw [on_win]
  rfl
theorem on_late10 (X : Nat) : lateB (onC X) onD (onP X 10) 1 = false := by
  show (lateI (onC X) onD (onP X 10) 0 || false) = false
  unfold lateI
  rw [on_re]
  show (decide (ofU 10 < 5) || false) = false
  decide
theorem on_late4 (X : Nat) : lateB (onC X) onD (onP X 4) 1 = true := by
  show (lateI (onC X) onD (onP X 4) 0 || false) = true
  unfold lateI
  rw [on_re]
  show (decide (ofU 4 < 5) || false) = true
  decide
theorem on_deep (X : Nat) (de : Int) : Bch.deepL (onP X de).ts = [0] := by
  have h := (Bch.deepL_ok (onP X de).ts).1
  rw [show Bch.firstO (onP X de).ts = some 0 from rfl] at h
  exact Bch.foll_det h ⟨rfl, 4, none, rfl, rfl⟩
theorem on_bnd (X : Nat) (de : Int) : Bch.bndZ (onP X de).ts = 4 := by
  unfold Bch.bndZ
  rw [on_deep]
  rfl
theorem on_usd (X : Nat) : usdE (onC X) onD (onP X 10) = (5, 10) := by
  unfold usdE
  rw [if_pos (on_z10 X)]
  show (sA (sM 0 (perI (onP X 10) 0)) (sM (cosI (onC X) (onP X 10) 0) 1), sM 1 (perI (onP X 10) 0)) = (5, 10)
  rw [show perI (onP X 10) 0 = 10 from rfl, show cosI (onC X) (onP X 10) 0 = 5 from rfl]
  decide
def zC : ConfV := ⟨0, 0, 0, 0, ⟨none, 0, 0⟩, 0, ⟨none, 0, 0⟩, ⟨none, 0, 0⟩, ⟨none, 0, 0⟩, ⟨none, 0, 0⟩⟩
theorem z_in (w : World) : ConfIn w zC onD [] := ⟨on_none _, on_none _, on_none _, on_none _, ⟨rfl, Nat.le_refl _, fun k t ht => by simp [Tks.ts] at ht⟩, fun i t l ht => by simp at ht, by show 0 ≤ 9223372036854775807; omega⟩
theorem z_z : confZ zC onD [] = 5 := rfl
theorem on_an {w : World} {X : Nat} {de E : Int} (hw : Words w) (h : ConfIn w (onC X) onD (onP X de)) (hz : confZ (onC X) onD (onP X de) = 0) (hE : errE (lateB (onC X) onD (onP X de) 1) = E) :
    Calls Tryz.prog 12 #[onV X] w (fun e w' => ∃ g off cap, e = .returned (.tuple #[.agg #[.slice (some ⟨g, off, none⟩) 1 cap, .int .i64 4], .int .i64 E]) ∧ (∀ W, Only (fun _ => False) w' W → W.cell? ⟨g, off + 2, none⟩ = some (U 5) ∧ g < W.heap.size) ∧ Only (fun _ => False) w w') := by
  refine (analyse_any hw h (h.conf (on_few X de))).mono ?_
  rintro e w' ⟨ho, -, h1⟩
  obtain ⟨A, cap, hh, he, hW, -⟩ := h1 hz
  have hW1 : Win w' 46 6 (.slice A 1 cap) hh 1 (lnL (onC X) onD (onP X de) 1) := hW
  obtain ⟨g, off, cap', _, hv, _, _, hlt, hc, _⟩ := hW1.at_ (by omega)
  simp only [Value.slice.injEq, true_and] at hv
  obtain ⟨rfl, rfl⟩ := hv
  refine ⟨g, off, cap, ?_, fun W hO => ?_, ho⟩
  · rw [he, on_bnd]
    show Ending.returned (.tuple #[.agg #[.slice (some ⟨g, off, none⟩) 1 cap, .int .i64 4], .int .i64 (errE (lateB (onC X) onD (onP X de) 1))]) = _
    rw [hE]
  · have h2 := hc 2 (U (lineI (onC X) onD (onP X de) 0).re) rfl
    rw [on_re] at h2
    exact ⟨hO.cell h2 (fun h => h), Nat.lt_of_lt_of_le hlt hO.size⟩
theorem z_an {w : World} (hw : Words w) : Calls Tryz.prog 12 #[.agg #[.int .i64 0, .int .i64 0, .int .i64 0, .int .i64 0, .slice none 0 0, .int .i64 0, .slice none 0 0, .slice none 0 0, .slice none 0 0, .slice none 0 0]] w (fun e w' => e = .returned (.tuple #[.agg #[.slice none 0 0, .int .i64 0], .int .i64 5]) ∧ Only (fun _ => False) w w') := by
  refine (analyse_any hw (z_in w) ((z_in w).conf rfl)).mono ?_
  rintro e w' ⟨ho, h1, -⟩
  exact ⟨h1 (by rw [z_z]; decide), ho⟩
theorem on_us {w : World} {X : Nat} (hw : Words w) (h : ConfIn w (onC X) onD (onP X 10)) : Calls Tryz.prog 13 #[onV X] w (fun e w' => e = .returned (.tuple #[.int .u64 5, .int .u64 10]) ∧ Only (fun _ => False) w w') := by
  have := used_any hw h (h.conf (on_few X 10))
  rw [on_usd] at this
  exact this
theorem on_ad {w : World} {X : Nat} (hw : Words w) (h : ConfIn w (onC X) onD (onP X 4)) : Calls Tryz.prog 15 #[onV X] w (GrowB false w) := by
  have := admitted_any hw h (h.conf (on_few X 4))
  rw [show admB (onC X) onD (onP X 4) = false from by unfold admB; rw [show (onC X).ta.n = 1 from rfl, on_late4]; simp] at this
  exact this
theorem on_lds {w : World} {X : Nat} (h : ConfIn w (onC X) onD (onP X 4)) : Calls Tryz.prog 41 #[onV X, .int .i64 0] w (fun e w' => ∃ A cap, e = .returned (.slice A 1 cap) ∧ Only (fun _ => False) w w') := by
  refine (loads_any h (Fin0.of_zero (on_z4 X)) (i := 0) (ti := onT X 4) rfl).mono ?_
  rintro e w' ⟨A, cap, hh, he, -, -, ho⟩
  exact ⟨A, cap, he, ho⟩
set_option maxRecDepth 100000 in
set_option maxHeartbeats 4000000 in
theorem fixed28_any {w : World} (hw : Words w) : Calls Tryz.prog 10 #[] w (GrowB true w) := by
  obtain ⟨Z, hZ⟩ : ∃ Z, Z = GrowB true w := ⟨_, rfl⟩
  rw [← hZ]
  have hfin := Lib.hid (fun W (ho : Only (fun _ => False) w W) => show Z (.returned (.bool true)) W from by rw [hZ]; exact ⟨rfl, ho⟩)
  have hwd := Lib.hid (fun W (ho : Only (fun _ => False) w W) => hw.new ho)
  clear hZ hw
  go_enter Tryz.func10, Tryz.ntmps10
  go_wp2_with fail
  refine (one8_any w).mono ?_
  rintro e w1 ⟨X1, rfl, hx1, ho1, hp1, ho⟩
  have hO1 := Lib.hid ho
  have qa := Lib.hid (on_an (hwd.out w1 ho) (on_in ho1 hp1) (on_z10 X1) (show _ = (0 : Int) by rw [on_late10]; rfl))
  clear ho hx1 ho1 hp1
  go_wp2_with fail
  refine qa.out.mono ?_
  rintro e w2 ⟨g, off, cap, rfl, hc, ho⟩
  have hO2 := Lib.hid (hO1.out.trans' ho)
  have hc' := Lib.hid hc
  clear ho hc qa
  go_upto_region 2 with fail
  obtain ⟨B1, hB1⟩ : ∃ B, B = w2.heap.size := ⟨_, rfl⟩
  obtain ⟨w3, hw3⟩ : ∃ w3, w3 = w2.alloc (.cells #[.slice (some ⟨g, off, none⟩) 1 cap, .int .i64 4] 32) := ⟨_, rfl⟩
  rw [← hw3, ← hB1]
  have hB3 := Lib.hid (show w3.heap[B1]? = some (.cells [.slice (some ⟨g, off, none⟩) 1 cap, .int .i64 4].toArray 32 (0, 0)) from by rw [hw3]; exact heap_new_at _ _ hB1.symm)
  have hO3 := Lib.hid (show Only (fun _ => False) w w3 from by rw [hw3]; exact hO2.out.alloc _)
  have hc3 := Lib.hid (fun W (ho : Only (fun _ => False) w3 W) => hc'.out W (((Only.refl _ w2).alloc _).trans' (by rw [hw3] at ho; exact ho)))
  clear hw3 hB1 hc'
  go_wp2_with fail
  refine (one8_any w3).mono ?_
  rintro e w4 ⟨X2, rfl, hx2, ho2, hp2, ho⟩
  have hO34 := Lib.hid ho
  have ho2' := Lib.hid ho2
  have hp2' := Lib.hid hp2
  have hx2' := Lib.hid hx2
  clear ho ho2 hp2 hx2
  go_upto_region 3 with fail
  obtain ⟨B3, hB3e⟩ : ∃ B, B = w4.heap.size := ⟨_, rfl⟩
  obtain ⟨w5, hw5⟩ : ∃ w5, w5 = w4.alloc (.cells #[.int .i64 1, .int .i64 1, .int .i64 1, .int .i64 5, .slice none 0 0, .int .i64 0, .slice none 0 0, .slice none 0 0, .slice (some ⟨X2 + 1, 0, none⟩) 1 1, .slice none 0 0] 27) := ⟨_, rfl⟩
  rw [← hw5, ← hB3e]
  have hC5 := Lib.hid (show w5.heap[B3]? = some (.cells [.int .i64 1, .int .i64 1, .int .i64 1, .int .i64 5, .slice none 0 0, .int .i64 0, .slice none 0 0, .slice none 0 0, .slice (some ⟨X2 + 1, 0, none⟩) 1 1, .slice none 0 0].toArray 27 (0, 0)) from by rw [hw5]; exact heap_new_at _ _ hB3e.symm)
  have hp5 := Lib.hid (show Only (fun _ => False) w3 w5 from by rw [hw5]; exact hO34.out.alloc _)
  have ho5 := Lib.hid (show w5.heap[X2]? = some (.cells [.int .i64 1, .int .i64 5, .int .i64 0].toArray 90 (0, 0)) from by rw [hw5]; exact heap_kept_alloc ho2'.out _)
  have ht5 := Lib.hid (show w5.heap[X2 + 1]? = some (.cells (onT X2 10).cells.toArray 49 (0, 0)) from by rw [hw5]; exact heap_kept_alloc hp2'.out _)
  have hBX := Lib.hid (show X2 + 1 < B3 from by have := row_lt hp2'.out; omega)
  clear hw5 hB3e ho2' hp2' hO34
  have c8 := row_cell hC5.out (i := 8) rfl
  have cl := row_lt hC5.out
  have t3 := row_cell ht5.out (i := 3) rfl
  have tf := row_free ht5.out 3
  have tl := row_lt ht5.out
  go_upto_region 4 with fail
  obtain ⟨w6, hw6⟩ : ∃ w6, w6 = w5.setCell ⟨X2 + 1, 3, none⟩ (.int .i64 4) := ⟨_, rfl⟩
  rw [← hw6]
  have hC6 := Lib.hid (show w6.heap[B3]? = some (.cells [.int .i64 1, .int .i64 1, .int .i64 1, .int .i64 5, .slice none 0 0, .int .i64 0, .slice none 0 0, .slice none 0 0, .slice (some ⟨X2 + 1, 0, none⟩) 1 1, .slice none 0 0].toArray 27 (0, 0)) from by rw [hw6]; exact heap_kept_set hC5.out (by have := hBX.out; dsimp only; omega) _)
  have hI6 := Lib.hid (show ConfIn w6 (onC X2) onD (onP X2 4) from on_in (by rw [hw6]; exact heap_kept_set ho5.out (by dsimp only; omega) _) (by rw [hw6]; exact row_set ht5.out 3 _))
  have hp6 := Lib.hid (show Only (fun _ => False) w3 w6 from by rw [hw6]; exact hp5.out.setCell (p := ⟨X2 + 1, 3, none⟩) (fun h => by have := hx2'.out; dsimp only at h; omega) _)
  have hO6 := Lib.hid (hO3.out.trans' hp6.out)
  clear hw6 c8 cl t3 tf tl hC5 hp5 ho5 ht5
  have d0 := row_cell hC6.out (i := 0) rfl
  have d1 := row_cell hC6.out (i := 1) rfl
  have d2 := row_cell hC6.out (i := 2) rfl
  have d3 := row_cell hC6.out (i := 3) rfl
  have d4 := row_cell hC6.out (i := 4) rfl
  have d5 := row_cell hC6.out (i := 5) rfl
  have d6 := row_cell hC6.out (i := 6) rfl
  have d7 := row_cell hC6.out (i := 7) rfl
  have d8 := row_cell hC6.out (i := 8) rfl
  have d9 := row_cell hC6.out (i := 9) rfl
  have dl := row_lt hC6.out
  have qb := Lib.hid (on_an (hwd.out w6 hO6.out) hI6.out (on_z4 X2) (show _ = (12 : Int) by rw [on_late4]; rfl))
  go_wp2_with fail
  refine qb.out.mono ?_
  rintro e w7 ⟨g7, off7, cap7, rfl, -, ho⟩
  have hp7 := Lib.hid ho
  clear ho qb d0 d1 d2 d3 d4 d5 d6 d7 d8 d9 dl
  go_upto_region 5 with fail
  obtain ⟨w8, hw8⟩ : ∃ w8, w8 = w7.alloc (.cells #[.slice (some ⟨g7, off7, none⟩) 1 cap7, .int .i64 4] 32) := ⟨_, rfl⟩
  rw [← hw8]
  have hp8 := Lib.hid (show Only (fun _ => False) w6 w8 from by rw [hw8]; exact hp7.out.alloc _)
  clear hw8 hp7
  have qc := Lib.hid (z_an (hwd.out w8 (hO6.out.trans' hp8.out)))
  go_wp2_with fail
  refine qc.out.mono ?_
  rintro e w9 ⟨rfl, ho⟩
  have hp9 := Lib.hid (hp8.out.trans' ho)
  clear ho qc hp8
  go_upto_region 6 with fail
  obtain ⟨wa, hwa⟩ : ∃ wa, wa = w9.alloc (.cells #[.slice none 0 0, .int .i64 0] 32) := ⟨_, rfl⟩
  rw [← hwa]
  have hpa := Lib.hid (show Only (fun _ => False) w6 wa from by rw [hwa]; exact hp9.out.alloc _)
  clear hwa hp9
  go_wp2_with fail
  refine (one8_any wa).mono ?_
  rintro e wb ⟨X3, rfl, -, ho3, hp3, ho⟩
  have hpb := Lib.hid (hpa.out.trans' ho)
  have qd := Lib.hid (on_us (hwd.out wb (hO6.out.trans' hpb.out)) (on_in ho3 hp3))
  clear ho ho3 hp3 hpa
  go_wp2_with fail
  refine qd.out.mono ?_
  rintro e wc ⟨rfl, ho⟩
  have hpc := Lib.hid (hpb.out.trans' ho)
  clear ho qd hpb
  have hCc := Lib.hid (fun W (ho : Only (fun _ => False) wc W) => (hpc.out.trans' ho).heap hC6.out (fun h => h))
  have hBc := hp6.out.trans' hpc.out |>.heap hB3.out (fun h => h)
  have b0 := row_cell hBc (i := 0) rfl
  have b1 := row_cell hBc (i := 1) rfl
  have bl := row_lt hBc
  obtain ⟨c2, cl2⟩ := hc3.out wc (hp6.out.trans' hpc.out)
  clear hBc
  have hCw := hCc.out wc (Only.refl _ _)
  have d0 := row_cell hCw (i := 0) rfl
  have d1 := row_cell hCw (i := 1) rfl
  have d2 := row_cell hCw (i := 2) rfl
  have d3 := row_cell hCw (i := 3) rfl
  have d4 := row_cell hCw (i := 4) rfl
  have d5 := row_cell hCw (i := 5) rfl
  have d6 := row_cell hCw (i := 6) rfl
  have d7 := row_cell hCw (i := 7) rfl
  have d8 := row_cell hCw (i := 8) rfl
  have d9 := row_cell hCw (i := 9) rfl
  have dl := row_lt hCw
  clear hCw
  have qe := Lib.hid (on_ad (hwd.out wc (hO6.out.trans' hpc.out)) (hI6.out.new hpc.out))
  go_wp2_with fail
  refine qe.out.mono ?_
  rintro e wd ⟨rfl, ho⟩
  have hpd := Lib.hid (hpc.out.trans' ho)
  have hCd := hCc.out wd ho
  clear ho qe d0 d1 d2 d3 d4 d5 d6 d7 d8 d9 dl b0 b1 bl c2 cl2
  have d0 := row_cell hCd (i := 0) rfl
  have d1 := row_cell hCd (i := 1) rfl
  have d2 := row_cell hCd (i := 2) rfl
  have d3 := row_cell hCd (i := 3) rfl
  have d4 := row_cell hCd (i := 4) rfl
  have d5 := row_cell hCd (i := 5) rfl
  have d6 := row_cell hCd (i := 6) rfl
  have d7 := row_cell hCd (i := 7) rfl
  have d8 := row_cell hCd (i := 8) rfl
  have d9 := row_cell hCd (i := 9) rfl
  have dl := row_lt hCd
  clear hCd
  have qf := Lib.hid (on_lds (hI6.out.new hpd.out))
  go_wp2_with fail
  refine qf.out.mono ?_
  rintro e we ⟨A9, cap9, rfl, ho⟩
  have hf := Lib.hid (hfin.out we (hO6.out.trans' (hpd.out.trans' ho)))
  clear ho qf d0 d1 d2 d3 d4 d5 d6 d7 d8 d9 dl
  go_wp2
  exact hf.out
end Adm
end Go.Proofs.YtlbinlhaejhobaaGreatDoor
