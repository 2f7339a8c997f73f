/- edf: numbers within bounds; the works' copy. -/
import Derived.Test.YtkolbaadakhciaaEHeaps
import Derived.Test.YtkolbaadakhciaaKRows
namespace Go.Proofs.Ytkolbaadakhciaa
namespace Edf
open Go Go.RowKit

/-- A work as it came in. -/
structure RW where
  r : Int
  c : Int
  d : Int
def RW.val (x : RW) : Value := .agg #[.int .i64 x.r, .int .i64 x.c, .int .i64 x.d]
def WRow (w : World) (A : Option Addr) (l : List RW) : Prop :=
  ∀ k x, l[k]? = some x → ∃ b off, A = some ⟨b, off, none⟩ ∧ b < w.heap.size ∧ w.cell? ⟨b, off + k * 3, none⟩ = some (.int .i64 x.r) ∧ w.cell? ⟨b, off + k * 3 + 1, none⟩ = some (.int .i64 x.c) ∧ w.cell? ⟨b, off + k * 3 + 2, none⟩ = some (.int .i64 x.d)
theorem WRow.new {w w' : World} {A : Option Addr} {l : List RW} (h : WRow w A l) (ho : Only (fun _ => False) w w') : WRow w' A l := fun k x hk => by
  obtain ⟨b, off, rfl, hb, h0, h1, h2⟩ := h k x hk
  exact ⟨b, off, rfl, Nat.lt_of_lt_of_le hb ho.size, ho.cell h0 (fun h => h), ho.cell h1 (fun h => h), ho.cell h2 (fun h => h)⟩
def near (z : Int) : Nat := (min (max z 0) 1048576).toNat
theorem near_le (z : Int) : near z ≤ 1048576 := by unfold near; omega
def clampW (x : RW) : Wk := ⟨near x.r, near x.c, near x.d⟩

/-- A region that draws: the first n operations quiet in worlds that grow, the last ones one behind the other. -/
theorem wp_region_wd_tail {P : Program} {id : Nat} {Q : Exit → Act → World → Prop} {a : Act} {w : World} {l : List Oper} (n : Nat) (hm : P.follows .mixedOrders = true) (hB : Region.lexTailB .any l.toArray n = true)
    (h : wpQuiet P l.toArray (fun W => ∃ x : Wd w, W = x.W) (fun a' => ∀ w', (∃ x : Wd w, w' = x.W) → wpList P l.toArray Q (l.drop n) a' w') (l.take n) a) : (Code.region id l.toArray true).wp P Q a w :=
  wp_region_quiet_tail (C := fun W => ∃ x : Wd w, W = x.W) n hm hB ⟨⟨{ w with drawn := w.drawn + 1 }, (Only.refl _ w).drew1⟩, rfl⟩ h
theorem near_any (z : Int) (w : World) : Calls Try.prog 36 #[.int .i64 z] w fun e w' => e = .returned (.int .i64 (near z : Int)) ∧ w' = w := by
  by_cases h0 : 0 ≤ z
  · by_cases h1 : z < 1048576
    · have e : (near z : Int) = z := by unfold near; omega
      rw [e]
      clear e
      go_enter Try.func36, Try.ntmps36
      go_wp2
      go_ret
      exact ⟨rfl, rfl⟩
    · have e : (near z : Int) = 1048576 := by unfold near; omega
      rw [e]
      clear e
      by_cases h2 : z = 1048576
      · subst h2
        go_enter Try.func36, Try.ntmps36
        go_wp2
        go_ret
        exact ⟨rfl, rfl⟩
      · have h3 : 1048576 < z := by omega
        clear h1 h2
        go_enter Try.func36, Try.ntmps36
        go_wp2
        go_ret
        exact ⟨rfl, rfl⟩
  · have e : (near z : Int) = 0 := by unfold near; omega
    rw [e]
    clear e
    have h1 : z < 0 := by omega
    go_enter Try.func36, Try.ntmps36
    go_wp2
    go_ret
    exact ⟨rfl, rfl⟩

theorem wk_len (x : Wk) : x.cells.length = 3 := rfl
theorem info53 : (Try.prog.info? 53).map (fun i => (i.zero, i.size, i.bytes)) = some (some (.agg #[.int .i64 0, .int .i64 0, .int .i64 0]), 3, 24) := by kernel_rfl
theorem made_wks (n : Nat) : madeCells #[Value.int .i64 0, Value.int .i64 0, Value.int .i64 0] (n * 3) = (wkCells (List.replicate n ⟨0, 0, 0⟩)).toArray := by
  unfold madeCells
  apply Array.ext_getElem?
  intro j
  simp only [Array.getElem?_map, Array.getElem?_range, List.getElem?_toArray]
  by_cases h : j < n * 3
  · rw [if_pos h]
    have hj : j = j / 3 * 3 + j % 3 := by omega
    have hm : j % 3 < 3 := Nat.mod_lt _ (by omega)
    have h1 : (List.replicate n (⟨0, 0, 0⟩ : Wk))[j / 3]? = some ⟨0, 0, 0⟩ := by rw [List.getElem?_replicate, if_pos (by omega)]
    have h2 := wkCells_at _ _ _ h1 (j % 3) hm
    rw [← hj] at h2
    rw [h2]
    have : j % 3 = 0 ∨ j % 3 = 1 ∨ j % 3 = 2 := by omega
    rcases this with h3 | h3 | h3 <;> simp [Wk.cells, h3]
  · rw [if_neg h, List.getElem?_eq_none (by rw [wkCells_length, List.length_replicate]; omega)]
    rfl
theorem run_make_wks (w : World) (n : Nat) (hn : n ≤ 1000000) : Sem.run Try.prog (Instr.makeSlice 40 (.int .i64 (n : Int)) (.int .i64 (n : Int))) w = .ok (.slice (some ⟨w.heap.size, 0, none⟩) n n) (w.alloc (.cells (wkCells (List.replicate n ⟨0, 0, 0⟩)).toArray 53)) := by
  obtain ⟨i, hi, hzz⟩ := Option.map_eq_some_iff.1 info53
  simp only [Prod.mk.injEq] at hzz
  obtain ⟨hz, hs, hb⟩ := hzz
  have hr := run_make (P := Try.prog) w 40 53 i _ Try.underlying40 hi hz .i64 .i64 n n (by omega) (Int.le_refl _) (by rw [hb]; omega) (by omega)
  simp only [Int.toNat_natCast, hs] at hr
  rw [show (Value.agg #[Value.int .i64 0, Value.int .i64 0, Value.int .i64 0]).cells = #[Value.int .i64 0, Value.int .i64 0, Value.int .i64 0] from rfl, made_wks] at hr
  exact hr
/-- A whole work stored. -/
theorem wk_set {w : World} {X : Nat} {l : List Wk} (h : w.heap[X]? = some (.cells (wkCells l).toArray 53 (0, 0))) {i : Nat} {x : Wk} (hx : l[i]? = some x) (y : Wk) :
    (((w.setCell ⟨X, i * 3, none⟩ (.int .i64 (y.r : Int))).setCell ⟨X, i * 3 + 1, none⟩ (.int .i64 (y.c : Int))).setCell ⟨X, i * 3 + 2, none⟩ (.int .i64 (y.d : Int))).heap[X]? = some (.cells (wkCells (l.set i y)).toArray 53 (0, 0)) := by
  have h1 := row_set (row_set (row_set h (i * 3) (.int .i64 (y.r : Int))) (i * 3 + 1) (.int .i64 (y.c : Int))) (i * 3 + 2) (.int .i64 (y.d : Int))
  rw [h1]
  have hi := (List.getElem?_eq_some_iff.1 hx).1
  have e0 := Krn.rowC_set (f := Wk.cells) wk_len l i x ⟨y.r, x.c, x.d⟩ 0 (.int .i64 (y.r : Int)) hx (by omega) rfl
  have e1 := Krn.rowC_set (f := Wk.cells) wk_len (l.set i ⟨y.r, x.c, x.d⟩) i ⟨y.r, x.c, x.d⟩ ⟨y.r, y.c, x.d⟩ 1 (.int .i64 (y.c : Int)) (List.getElem?_set_self hi) (by omega) rfl
  have e2 := Krn.rowC_set (f := Wk.cells) wk_len ((l.set i ⟨y.r, x.c, x.d⟩).set i ⟨y.r, y.c, x.d⟩) i ⟨y.r, y.c, x.d⟩ y 2 (.int .i64 (y.d : Int)) (List.getElem?_set_self (by simpa using hi)) (by omega) rfl
  rw [← e0] at e1
  rw [← e1] at e2
  have e3 : ((l.set i ⟨y.r, x.c, x.d⟩).set i ⟨y.r, y.c, x.d⟩).set i y = l.set i y := by simp
  rw [e3] at e2
  rw [show wkCells (l.set i y) = Krn.rowC Wk.cells (l.set i y) from rfl, ← e2]
  rfl

def copied (l : List RW) (n k : Nat) : List Wk := (l.take k).map clampW ++ List.replicate (n - k) ⟨0, 0, 0⟩
theorem copied_at {l : List RW} {n k : Nat} (hn : l.length = n) (hk : k < n) : (copied l n k)[k]? = some ⟨0, 0, 0⟩ := by
  unfold copied
  rw [List.getElem?_append_right (by simp; omega)]
  have : k - ((l.take k).map clampW).length = 0 := by simp; omega
  rw [this, List.getElem?_replicate, if_pos (by omega)]
theorem copied_set {l : List RW} {n k : Nat} {x : RW} (hn : l.length = n) (hk : k < n) (hx : l[k]? = some x) : (copied l n k).set k (clampW x) = copied l n (k + 1) := by
  unfold copied
  have hl : ((l.take k).map clampW).length = k := by simp; omega
  rw [List.set_append_right _ _ (by omega), hl, Nat.sub_self, List.take_add_one, hx]
  rw [show n - k = n - (k + 1) + 1 by omega, List.replicate_succ, List.set_cons_zero]
  simp

set_option maxRecDepth 100000 in
set_option maxHeartbeats 4000000 in
theorem bounded_any {A : Option Addr} {n cap : Nat} {l : List RW} {w : World} (hr : WRow w A l) (hn : l.length = n) (hnn : n ≤ 4000) :
    Calls Try.prog 41 #[.slice A n cap] w fun e w' => ∃ X, e = .returned (.slice (some ⟨X, 0, none⟩) n n) ∧ w.heap.size ≤ X ∧ w'.heap[X]? = some (.cells (wkCells (l.map clampW)).toArray 53 (0, 0)) ∧ Only (fun _ => False) w w' := by
  obtain ⟨Z, hZ⟩ : ∃ Z : Ending → World → Prop, Z = fun e w' => ∃ X, e = .returned (.slice (some ⟨X, 0, none⟩) n n) ∧ w.heap.size ≤ X ∧ w'.heap[X]? = some (.cells (wkCells (l.map clampW)).toArray 53 (0, 0)) ∧ Only (fun _ => False) w w' := ⟨_, rfl⟩
  rw [← hZ]
  have hmk := fun W => run_make_wks W n (by omega)
  obtain ⟨W1, hW1⟩ : ∃ W1, W1 = w.alloc (.cells (wkCells (List.replicate n ⟨0, 0, 0⟩)).toArray 53) := ⟨_, rfl⟩
  obtain ⟨X, hX⟩ : ∃ X, X = w.heap.size := ⟨_, rfl⟩
  have b0 : W1.heap[X]? = some (.cells (wkCells (copied l n 0)).toArray 53 (0, 0)) := by rw [hW1]; exact heap_new_at _ _ hX.symm
  have hO1 : Only (fun _ => False) w W1 := by rw [hW1]; exact (Only.refl _ w).alloc _
  have hfin := Lib.hid (fun W (ho : Only (fun _ => False) w W) (hb : W.heap[X]? = some (.cells (wkCells (copied l n n)).toArray 53 (0, 0))) => show Z (.returned (.slice (some ⟨X, 0, none⟩) n n)) W from by
    rw [hZ]
    refine ⟨X, rfl, by omega, ?_, ho⟩
    rw [hb]
    unfold copied
    rw [Nat.sub_self, ← hn, List.take_length]
    simp)
  have hr' := Lib.hid hr
  have hn' := Lib.hid hn
  have hW1' := Lib.hid hW1
  have hX' := Lib.hid hX
  have b0' := Lib.hid b0
  have hO1' := Lib.hid hO1
  have qn := Lib.hid near_any
  clear hZ hr hn hW1 hX b0 hO1
  go_enter Try.func41, Try.ntmps41
  go_upto_region 2 with fail
  rw [← hX'.out]
  rw [← hW1'.out]
  clear hmk
  go_wp2
  go_loopw [4, 11] (fun _ i wr => ∃ k : Nat, i = .int .i64 k ∧ k ≤ n ∧ Hid (wr.heap[X]? = some (.cells (wkCells (copied l n k)).toArray 53 (0, 0))) ∧ Hid (Only (fun _ => False) w wr)) (fun _ i _ => (n - intOf i).toNat)
  case atStart => exact ⟨0, rfl, Nat.zero_le _, b0', hO1'⟩
  case round =>
    obtain ⟨k, rfl, hk, hB, hO⟩ := hrel
    by_cases hkn : k < n
    · have hkn' : (k : Int) < n := by omega
      obtain ⟨x, hx⟩ : ∃ y, l[k]? = some y := ⟨_, List.getElem?_eq_getElem (by have := hn'.out; omega)⟩
      obtain ⟨b, off, rfl, hb, c0, c1, c2⟩ := (hr'.out.new hO.out) k x hx
      have hx' := Lib.hid hx
      clear hx
      go_upto_region 5 with fail
      obtain ⟨W2, hW2⟩ : ∃ W2, W2 = wr.alloc (.cells #[.int .i64 x.r, .int .i64 x.c, .int .i64 x.d] 53) := ⟨_, rfl⟩
      obtain ⟨Y, hY⟩ : ∃ Y, Y = wr.heap.size := ⟨_, rfl⟩
      have s0 : W2.heap[Y]? = some (.cells [Value.int .i64 x.r, .int .i64 x.c, .int .i64 x.d].toArray 53 (0, 0)) := by rw [hW2]; exact heap_new_at _ _ hY.symm
      have hO2 : Only (fun _ => False) wr W2 := by rw [hW2]; exact (Only.refl _ _).alloc _
      have hB2 := Lib.hid (hO2.heap hB.out (fun h => h))
      have hOw := Lib.hid (hO.out.trans' hO2)
      rw [← hY, ← hW2]
      have p0 := wd_cell (row_cell s0 (i := 0) rfl)
      have p1 := wd_cell (row_cell s0 (i := 1) rfl)
      have p2 := wd_cell (row_cell s0 (i := 2) rfl)
      have q1 := Lib.hid (fun (v : Wd W2) => Calls.wd_same (x := v) ((qn.out x.r v.W).mono fun _ _ h => ⟨h.1, h.2.symm⟩))
      have q2 := Lib.hid (fun (v : Wd W2) => Calls.wd_same (x := v) ((qn.out x.c v.W).mono fun _ _ h => ⟨h.1, h.2.symm⟩))
      have q3 := Lib.hid (fun (v : Wd W2) => Calls.wd_same (x := v) ((qn.out x.d v.W).mono fun _ _ h => ⟨h.1, h.2.symm⟩))
      have hex := wd_ex W2
      clear hW2 hY s0 hO2 c0 c1 c2 hB hO hb
      refine wp_region_wd_tail 13 (by kernel_rfl) (by kernel_rfl) ?_
      simp only [List.take_succ_cons, List.take_zero, List.drop_succ_cons, List.drop_zero]
      repeat (go_big_quiet_step (first | (go_at_call 36; with_reducible exact q1.out _) | (go_at_call 36; with_reducible exact q2.out _) | (go_at_call 36; with_reducible exact q3.out _)))
      refine wpQuiet_nil ?_
      rintro _ ⟨v, rfl⟩
      have hrow := v.ok.heap hB2.out (fun h => h)
      have hz := copied_at hn'.out hkn
      obtain ⟨f0, f1, f2⟩ := wk_row hrow hz
      have g0 := row_free hrow (k * 3)
      have g1 := row_free hrow (k * 3 + 1)
      have g2 := row_free hrow (k * 3 + 2)
      have hset := wk_set hrow hz (clampW x)
      rw [copied_set hn'.out hkn hx'.out] at hset
      have hset' := Lib.hid hset
      have hOv := Lib.hid (show Only (fun _ => False) w (((v.W.setCell ⟨X, k * 3, none⟩ (.int .i64 ((clampW x).r : Int))).setCell ⟨X, k * 3 + 1, none⟩ (.int .i64 ((clampW x).c : Int))).setCell ⟨X, k * 3 + 2, none⟩ (.int .i64 ((clampW x).d : Int))) from by
        have hXX := hX'.out
        exact (((hOw.out.trans' v.ok).setCell (p := ⟨X, k * 3, none⟩) (fun h => by simp at h; omega) _).setCell (p := ⟨X, k * 3 + 1, none⟩) (fun h => by simp at h; omega) _).setCell (p := ⟨X, k * 3 + 2, none⟩) (fun h => by simp at h; omega) _)
      clear hset hrow hz p0 p1 p2 q1 q2 q3 hex
      go_wp2_with fail
      go_roundw
      case rel => exact ⟨k + 1, by go_num, by omega, hset', hOv⟩
      case measure => simp [intOf]; omega
    · obtain rfl : k = n := by omega
      go_wp2
      exact hfin.out _ hO.out hB.out
end Edf
end Go.Proofs.Ytkolbaadakhciaa
