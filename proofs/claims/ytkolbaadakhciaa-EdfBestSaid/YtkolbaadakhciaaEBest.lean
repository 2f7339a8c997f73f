/- edf: P33.2, the law walked. -/
import Derived.Test.YtkolbaadakhciaaEFix
import Derived.Test.YtkolbaadakhciaaEBestP
namespace Go.Proofs.Ytkolbaadakhciaa
namespace Edf
open Go Go.RowKit

def WkR (w : World) (X e : Nat) (l : List Wk) : Prop := w.heap[X]? = some (.cells (wkCells l).toArray e (0, 0))
theorem WkR.at_ {w : World} {X e i : Nat} {l : List Wk} {x : Wk} (h : WkR w X e l) (hx : l[i]? = some x) :
    w.cell? ⟨X, i * 3, none⟩ = some (.int .i64 (x.r : Int)) ∧ w.cell? ⟨X, i * 3 + 1, none⟩ = some (.int .i64 (x.c : Int)) ∧ w.cell? ⟨X, i * 3 + 2, none⟩ = some (.int .i64 (x.d : Int)) :=
  ⟨row_cell h ((wkCells_at l i x hx 0 (by omega)).trans rfl), row_cell h ((wkCells_at l i x hx 1 (by omega)).trans rfl), row_cell h ((wkCells_at l i x hx 2 (by omega)).trans rfl)⟩
theorem WkR.set_r {w : World} {X e i n : Nat} {l : List Wk} {x : Wk} (h : WkR w X e l) (hx : l[i]? = some x) : WkR (w.setCell ⟨X, i * 3, none⟩ (.int .i64 (n : Int))) X e (l.set i ⟨n, x.c, x.d⟩) := by
  have e0 := Krn.rowC_set (f := Wk.cells) wk_len l i x ⟨n, x.c, x.d⟩ 0 (.int .i64 (n : Int)) hx (by omega) rfl
  have h1 := row_set h (i * 3) (.int .i64 (n : Int))
  rw [WkR, h1, show wkCells (l.set i ⟨n, x.c, x.d⟩) = Krn.rowC Wk.cells (l.set i ⟨n, x.c, x.d⟩) from rfl, ← e0]
  rfl
theorem WkR.set_c {w : World} {X e i n : Nat} {l : List Wk} {x : Wk} (h : WkR w X e l) (hx : l[i]? = some x) : WkR (w.setCell ⟨X, i * 3 + 1, none⟩ (.int .i64 (n : Int))) X e (l.set i ⟨x.r, n, x.d⟩) := by
  have e0 := Krn.rowC_set (f := Wk.cells) wk_len l i x ⟨x.r, n, x.d⟩ 1 (.int .i64 (n : Int)) hx (by omega) rfl
  have h1 := row_set h (i * 3 + 1) (.int .i64 (n : Int))
  rw [WkR, h1, show wkCells (l.set i ⟨x.r, n, x.d⟩) = Krn.rowC Wk.cells (l.set i ⟨x.r, n, x.d⟩) from rfl, ← e0]
  rfl
theorem WkR.set_d {w : World} {X e i n : Nat} {l : List Wk} {x : Wk} (h : WkR w X e l) (hx : l[i]? = some x) : WkR (w.setCell ⟨X, i * 3 + 2, none⟩ (.int .i64 (n : Int))) X e (l.set i ⟨x.r, x.c, n⟩) := by
  have e0 := Krn.rowC_set (f := Wk.cells) wk_len l i x ⟨x.r, x.c, n⟩ 2 (.int .i64 (n : Int)) hx (by omega) rfl
  have h1 := row_set h (i * 3 + 2) (.int .i64 (n : Int))
  rw [WkR, h1, show wkCells (l.set i ⟨x.r, x.c, n⟩) = Krn.rowC Wk.cells (l.set i ⟨x.r, x.c, n⟩) from rfl, ← e0]
  rfl
def boC (l : List Wk) : List Value := l.map fun x => Value.bool (decide (0 < x.c))
def BoR (w : World) (Y e : Nat) (l : List Wk) : Prop := w.heap[Y]? = some (.cells (boC l).toArray e (0, 0))

theorem loo_step {M0 M M6 : List Wk} {k : Nat} {x y : Wk} (hLo : Looser M0 M) (hRe : ∀ j, k ≤ j → M[j]? = M0[j]?) (hl : M6.length = 8) (hx : M0[k]? = some x) (hy : M6[k]? = some y) (h : y.c = x.c ∧ y.r ≤ x.r ∧ x.d ≤ y.d ∧ y.d ≤ x.d + 255)
    (ho : ∀ j, j ≠ k → M6[j]? = M[j]?) : Looser M0 M6 ∧ ∀ j, k + 1 ≤ j → M6[j]? = M0[j]? := by
  refine ⟨⟨hl, fun q a b ha hb => ?_⟩, fun j hj => ?_⟩
  · by_cases e : q = k
    · subst e
      rw [hx] at ha
      rw [hy] at hb
      cases ha
      cases hb
      exact h
    · rw [ho q e] at hb
      exact hLo.2 q a b ha hb
  · rw [ho j (by omega)]
    exact hRe j (by omega)
theorem set_other {M : List Wk} {k : Nat} (y : Wk) : ∀ j, j ≠ k → (M.set k y)[j]? = M[j]? := fun j hj => by rw [List.getElem?_set, if_neg (fun e => hj e.symm)]
def BRow (w : World) (A : Option Addr) (l : List Nat) : Prop := ∀ (k x : Nat), l[k]? = some x → ∃ b off, A = some ⟨b, off, none⟩ ∧ b < w.heap.size ∧ w.cell? ⟨b, off + k, none⟩ = some (.int .u8 (x : Int))
theorem BRow.at_ {w w' : World} {A : Option Addr} {l : List Nat} {S : Nat → Prop} (h : BRow w A l) (ho : Only S w w') (hS : ∀ k, k < w.heap.size → ¬ S k) {k x : Nat} (hx : l[k]? = some x) : ∃ b off, A = some ⟨b, off, none⟩ ∧ w'.cell? ⟨b, off + k, none⟩ = some (.int .u8 (x : Int)) := by
  obtain ⟨b, off, rfl, hb, hc⟩ := h k x hx
  exact ⟨b, off, rfl, ho.cell hc (hS b hb)⟩
theorem brow_in {w : World} {A : Option Addr} {len : Nat} {f : Nat → Int} (h : IntRow .u8 w A len f) : ∃ l : List Nat, l.length = len ∧ BRow w A l ∧ ∀ x ∈ l, x ≤ 255 := by
  have hw : ∀ k, k < len → 0 ≤ f k ∧ f k ≤ 255 := fun k hk => by
    have h1 := (h k hk).2
    simp [Lit.wf] at h1
    have h2 : IntKind.u8.min = 0 := by decide
    have h3 : IntKind.u8.max = 255 := by decide
    rw [h2, h3] at h1
    omega
  refine ⟨(List.range len).map (fun k => (f k).toNat), by simp, fun k x hx => ?_, fun x hx => ?_⟩
  · obtain ⟨hk, hx'⟩ := List.getElem?_eq_some_iff.1 hx
    have hk' : k < len := by simpa using hk
    simp at hx'
    obtain ⟨⟨b, off, rfl, hc, hl⟩, -⟩ := h k hk'
    have := hw k hk'
    refine ⟨b, off, rfl, hl, ?_⟩
    rw [hc, ← hx', Int.toNat_of_nonneg this.1]
  · obtain ⟨k, hk, rfl⟩ := List.mem_map.1 hx
    have := hw k (List.mem_range.1 hk)
    omega

set_option maxRecDepth 100000 in
set_option maxHeartbeats 4000000 in
theorem best_law {A0 A1 A2 : Option Addr} {n0 n1 n2 c0 c1 c2 : Nat} {O Ah Bh : List Nat} {w : World} (hO8 : ∀ x ∈ O, x ≤ 255) (hA8 : ∀ x ∈ Ah, x ≤ 255) (hB8 : ∀ x ∈ Bh, x ≤ 255) (r0 : BRow w A0 O) (r1 : BRow w A1 Ah) (r2 : BRow w A2 Bh) (hl0 : O.length = n0) (hl1 : Ah.length = n1) (hl2 : Bh.length = n2) :
    Calls Try.prog 8 #[.slice A0 n0 c0, .slice A1 n1 c1, .slice A2 n2 c2] w fun e w' => e = .returned (.bool true) ∧ Only (fun _ => False) w w' := by
  obtain ⟨Z, hZ⟩ : ∃ Z : Ending → World → Prop, Z = fun e w' => e = .returned (.bool true) ∧ Only (fun _ => False) w w' := ⟨_, rfl⟩
  rw [← hZ]
  have hZ' := Lib.hid hZ
  have hf := Lib.hid (fixed33_any w)
  clear hZ
  by_cases hbig : 100 < n0
  · have hbig' : (100 : Int) < (n0 : Int) := by omega
    clear hbig
    go_enter Try.func8, Try.ntmps8
    go_wp2_with (go_at_call 22; refine hf.out.mono ?_; rintro e w1 ⟨rfl, h1⟩; have h1' := Lib.hid h1; clear h1)
    rw [hZ'.out]
    exact ⟨rfl, h1'.out⟩
  have hbig' : ¬ (100 : Int) < (n0 : Int) := by omega
  have hO8' := Lib.hid hO8
  have hA8' := Lib.hid hA8
  have hB8' := Lib.hid hB8
  have r0' := Lib.hid r0
  have r1' := Lib.hid r1
  have r2' := Lib.hid r2
  have hl0' := Lib.hid hl0
  have hl1' := Lib.hid hl1
  have hl2' := Lib.hid hl2
  have hb9 := Lib.hid hbig
  clear hbig hO8 hA8 hB8 r0 r1 r2 hl0 hl1 hl2
  go_enter Try.func8, Try.ntmps8
  go_wp2_with (go_at_call 22; refine hf.out.mono ?_; rintro e w1 ⟨rfl, h1⟩; have h1' := Lib.hid h1; clear h1)
  obtain ⟨X, hX⟩ : ∃ X, X = w1.heap.size := ⟨_, rfl⟩
  rw [← hX]
  obtain ⟨W3, hW3⟩ : ∃ W3, W3 = (w1.alloc (.cells #[.int .i64 0, .int .i64 0, .int .i64 0, .int .i64 0, .int .i64 0, .int .i64 0, .int .i64 0, .int .i64 0, .int .i64 0, .int .i64 0, .int .i64 0, .int .i64 0, .int .i64 0, .int .i64 0, .int .i64 0, .int .i64 0, .int .i64 0, .int .i64 0, .int .i64 0, .int .i64 0, .int .i64 0, .int .i64 0, .int .i64 0, .int .i64 0] 54)).alloc (.cells #[.bool false, .bool false, .bool false, .bool false, .bool false, .bool false, .bool false, .bool false] 55) := ⟨_, rfl⟩
  rw [← hW3]
  obtain ⟨Y, hY⟩ : ∃ Y, Y = X + 1 := ⟨_, rfl⟩
  rw [← hY]
  have b0 := Lib.hid (show WkR W3 X 54 (bld O 0) from by rw [WkR, hW3]; exact heap_kept_alloc (heap_new_at _ _ hX.symm) _)
  have b1 := Lib.hid (show BoR W3 Y 55 (bld O 0) from by rw [BoR, hW3]; exact heap_new_at _ _ (by simp [hY, hX]))
  have hO3 := Lib.hid (show Only (fun _ => False) w W3 from by rw [hW3]; exact (h1'.out.alloc _).alloc _)
  have hXw := Lib.hid (show w.heap.size ≤ X from by rw [hX]; exact h1'.out.size)
  have hY' := Lib.hid hY
  clear hX hW3 hY hf h1'
  go_loopw [9, 10, 11, 20] (fun _ _ _ i wr => ∃ t : Nat, i = .int .i64 (t : Int) ∧ t ≤ n0 ∧ Hid (WkR wr X 54 (bld O t)) ∧ Hid (BoR wr Y 55 (bld O t)) ∧ Hid (Only (fun k => k = X ∨ k = Y) W3 wr)) (fun _ _ _ i _ => n0 - (intOf i).toNat)
  case atStart => exact ⟨0, rfl, Nat.zero_le _, b0, b1, Lib.hid (Only.refl _ _)⟩
  case round =>
    obtain ⟨t, rfl, ht, hB, hC, hO⟩ := hrel
    by_cases htn : t < n0
    · have htn' : (t : Int) < (n0 : Int) := by omega
      obtain ⟨n, hn⟩ : ∃ n, O[t]? = some n := ⟨_, List.getElem?_eq_getElem (by have := hl0'.out; omega)⟩
      have hn9 := hO8'.out n (List.mem_of_getElem? hn)
      obtain ⟨b, off, rfl, hc⟩ := r0'.out.at_ (hO3.out.trans hO.out (fun k hk h => by have := hXw.out; have := hY'.out; omega)) (fun k hk h => h.elim) hn
      have hk8 : n % 8 < 8 := Nat.mod_lt _ (by omega)
      obtain ⟨q, hq⟩ : ∃ q, q = n % 8 := ⟨_, rfl⟩
      have hqi : (n : Int) % 8 = (q : Int) := by omega
      rw [← hq] at hk8
      have hq8 : (q : Int) < 8 := by omega
      obtain ⟨x, hx⟩ : ∃ x, (bld O t)[q]? = some x := ⟨_, List.getElem?_eq_getElem (by rw [bld_len]; exact hk8)⟩
      obtain ⟨x0, x1, x2⟩ := hB.out.at_ hx
      have y0 := row_cell hC.out (show (boC (bld O t))[q]? = some (Value.bool (decide (0 < x.c))) from by unfold boC; rw [List.getElem?_map, hx]; rfl)
      obtain ⟨i1, i2, i3, i4, i5, i6⟩ := bld_inv (O := O) (t := t) (by have := hl0'.out; omega) q x hx
      have hst : bld O (t + 1) = (bld O t).set q ⟨if x.c = 0 then t else x.r, x.c + 1, t + 1⟩ := by
        have hg : O.getD t 0 = n := by rw [List.getD_eq_getElem?_getD, hn]; rfl
        rw [bld, hg, bstep, ← hq, hx]
      have hst' := Lib.hid hst
      have hx' := Lib.hid hx
      have hxc9 : x.c ≤ 100 := by have := hb9.out; omega
      have fB := fun i => row_free hB.out i
      have fC := fun i => row_free hC.out i
      clear hst hx hq i1 i2 i3 i4 i5 i6 hn9 hn
      -- the row of works, stored to in turn
      have hXY : X ≠ Y := by have := hY'.out; omega
      have hput := Lib.hid (fun W (h1 : WkR W X 54 ((bld O t).set q ⟨if x.c = 0 then t else x.r, x.c, x.d⟩)) => show WkR ((W.setCell ⟨X, q * 3 + 1, none⟩ (.int .i64 ((x.c : Int) + 1))).setCell ⟨X, q * 3 + 2, none⟩ (.int .i64 ((t : Int) + 1))) X 54 (bld O (t + 1)) from by
        have hl8 : q < (bld O t).length := by rw [bld_len]; exact hk8
        have h2 := WkR.set_c (n := x.c + 1) h1 (List.getElem?_set_self hl8)
        have h3 := WkR.set_d (n := t + 1) h2 (List.getElem?_set_self (by simpa using hl8))
        rw [hst'.out]
        simp only [List.set_set] at h3
        exact h3)
      have hbo := Lib.hid (fun W (h1 : W.heap[Y]? = some (.cells ((boC (bld O t)).set q (.bool true)).toArray 55 (0, 0))) => show BoR W Y 55 (bld O (t + 1)) from by
        rw [BoR, h1, hst'.out]
        have : boC ((bld O t).set q ⟨if x.c = 0 then t else x.r, x.c + 1, t + 1⟩) = (boC (bld O t)).set q (.bool true) := by
          unfold boC
          rw [List.map_set]
          rfl
        rw [this])
      by_cases h0 : x.c = 0
      · have h1 : decide (0 < x.c) = false := decide_eq_false (by omega)
        rw [h1] at y0
        have hset := Lib.hid (WkR.set_r (n := t) hB.out hx'.out)
        have h0' := Lib.hid h0
        clear h1 h0
        obtain ⟨W4, hW4⟩ : ∃ W4, W4 = wr.setCell ⟨X, q * 3, none⟩ (.int .i64 (t : Int)) := ⟨_, rfl⟩
        obtain ⟨W5, hW5⟩ : ∃ W5, W5 = W4.setCell ⟨Y, q, none⟩ (.bool true) := ⟨_, rfl⟩
        have f0 := fB (q * 3)
        have g4 := Lib.hid (show WkR W4 X 54 ((bld O t).set q ⟨t, x.c, x.d⟩) from by rw [hW4]; exact hset.out)
        have g4b := Lib.hid (show W4.heap[Y]? = some (.cells (boC (bld O t)).toArray 55 (0, 0)) from by rw [hW4]; exact heap_kept_set hC.out hXY.symm _)
        have f4 := row_free g4b.out q
        have y4 := row_cell g4b.out (show (boC (bld O t))[q]? = some (Value.bool (decide (0 < x.c))) from by unfold boC; rw [List.getElem?_map, hx'.out]; rfl)
        have g5 := Lib.hid (show WkR W5 X 54 ((bld O t).set q ⟨t, x.c, x.d⟩) from by rw [hW5]; exact heap_kept_set g4.out hXY _)
        have g5b := Lib.hid (show W5.heap[Y]? = some (.cells ((boC (bld O t)).set q (.bool true)).toArray 55 (0, 0)) from by rw [hW5]; exact row_set g4b.out q (.bool true))
        have hx5 : ((bld O t).set q ⟨t, x.c, x.d⟩)[q]? = some ⟨t, x.c, x.d⟩ := List.getElem?_set_self (by rw [bld_len]; exact hk8)
        have hB5 : WkR W5 X 54 ((bld O t).set q ⟨if x.c = 0 then t else x.r, x.c, x.d⟩) := by rw [if_pos h0'.out]; exact g5.out
        have hO5 := Lib.hid (show Only (fun k => k = X ∨ k = Y) W3 W5 from by rw [hW5, hW4]; exact (hO.out.setCell (p := ⟨X, q * 3, none⟩) (fun _ => .inl rfl) _).setCell (p := ⟨Y, q, none⟩) (fun _ => .inr rfl) _)
        go_upto_region 13 with fail
        rw [← hW4]
        clear hW4 f0
        go_upto_region 14 with fail
        rw [← hW5]
        clear hW5 f4 y4 y0 x0 x1 x2 hset
        obtain ⟨W6, hW6⟩ : ∃ W6, W6 = W5.setCell ⟨X, q * 3 + 1, none⟩ (.int .i64 ((x.c : Int) + 1)) := ⟨_, rfl⟩
        have g6 := Lib.hid (show WkR W6 X 54 _ from by rw [hW6]; exact WkR.set_c (n := x.c + 1) g5.out hx5)
        have e1 := row_free g5.out (q * 3 + 1)
        have e2 := row_free g6.out (q * 3 + 2)
        have y2 := (g6.out.at_ (List.getElem?_set_self (by first | exact (by rw [bld_len]; exact hk8) | exact (by rw [List.length_set, bld_len]; exact hk8)))).2.2
        (try dsimp only at y2)
        obtain ⟨-, y1, -⟩ := g5.out.at_ hx5
        (try dsimp only at y1)
        have hB7 := hput.out W5 hB5
        rw [← hW6] at hB7
        have hB8 := Lib.hid hB7
        have hC7 := Lib.hid (show BoR (W6.setCell ⟨X, q * 3 + 2, none⟩ (.int .i64 ((t : Int) + 1))) Y 55 (bld O (t + 1)) from by
          refine hbo.out _ (heap_kept_set ?_ hXY.symm _)
          rw [hW6]
          exact heap_kept_set g5b.out hXY.symm _)
        have hO7 := Lib.hid (show Only (fun k => k = X ∨ k = Y) W3 (W6.setCell ⟨X, q * 3 + 2, none⟩ (.int .i64 ((t : Int) + 1))) from by
          rw [hW6]
          exact (hO5.out.setCell (p := ⟨X, q * 3 + 1, none⟩) (fun _ => .inl rfl) _).setCell (p := ⟨X, q * 3 + 2, none⟩) (fun _ => .inl rfl) _)
        have hxc : (x.c : Int) + 1 ≤ 101 := by omega
        clear hB7 hB5 hx5
        go_upto_region 15 with fail
        rw [← hW6]
        clear hW6 e1 y1
        go_wp2_with fail
        go_roundw
        case rel => exact ⟨t + 1, by go_num, by omega, hB8, hC7, hO7⟩
        case measure => simp [intOf]; omega
      · have h1 : decide (0 < x.c) = true := decide_eq_true (by omega)
        rw [h1] at y0
        have h0' := Lib.hid h0
        clear h1 h0
        obtain ⟨W5, hW5⟩ : ∃ W5, W5 = wr := ⟨_, rfl⟩
        have hsame : (bld O t).set q ⟨x.r, x.c, x.d⟩ = bld O t := by
          apply List.ext_getElem?
          intro i
          rw [List.getElem?_set]
          by_cases e : q = i
          · subst e
            rw [if_pos rfl, if_pos (by rw [bld_len]; exact hk8), hx'.out]
          · rw [if_neg e]
        have hbs : (boC (bld O t)).set q (.bool true) = boC (bld O t) := by
          apply List.ext_getElem?
          intro i
          rw [List.getElem?_set]
          by_cases e : q = i
          · subst e
            rw [if_pos rfl, if_pos (by unfold boC; rw [List.length_map, bld_len]; exact hk8)]
            unfold boC
            rw [List.getElem?_map, hx'.out]
            have := h0'.out
            simp only [Option.map_some]
            rw [decide_eq_true (by omega)]
          · rw [if_neg e]
        have g5 := Lib.hid (show WkR W5 X 54 (bld O t) from by rw [hW5]; exact hB.out)
        have g5b := Lib.hid (show W5.heap[Y]? = some (.cells ((boC (bld O t)).set q (.bool true)).toArray 55 (0, 0)) from by rw [hW5, hbs]; exact hC.out)
        have hx5 := hx'.out
        have hB5 : WkR W5 X 54 ((bld O t).set q ⟨if x.c = 0 then t else x.r, x.c, x.d⟩) := by rw [if_neg h0'.out, hsame]; exact g5.out
        have hO5 := Lib.hid (show Only (fun k => k = X ∨ k = Y) W3 W5 from by rw [hW5]; exact hO.out)
        clear hsame hbs
        go_upto_region 14 with fail
        rw [← hW5]
        clear hW5 y0 x0 x1 x2
        obtain ⟨W6, hW6⟩ : ∃ W6, W6 = W5.setCell ⟨X, q * 3 + 1, none⟩ (.int .i64 ((x.c : Int) + 1)) := ⟨_, rfl⟩
        have g6 := Lib.hid (show WkR W6 X 54 _ from by rw [hW6]; exact WkR.set_c (n := x.c + 1) g5.out hx5)
        have e1 := row_free g5.out (q * 3 + 1)
        have e2 := row_free g6.out (q * 3 + 2)
        have y2 := (g6.out.at_ (List.getElem?_set_self (by first | exact (by rw [bld_len]; exact hk8) | exact (by rw [List.length_set, bld_len]; exact hk8)))).2.2
        (try dsimp only at y2)
        obtain ⟨-, y1, -⟩ := g5.out.at_ hx5
        (try dsimp only at y1)
        have hB7 := hput.out W5 hB5
        rw [← hW6] at hB7
        have hB8 := Lib.hid hB7
        have hC7 := Lib.hid (show BoR (W6.setCell ⟨X, q * 3 + 2, none⟩ (.int .i64 ((t : Int) + 1))) Y 55 (bld O (t + 1)) from by
          refine hbo.out _ (heap_kept_set ?_ hXY.symm _)
          rw [hW6]
          exact heap_kept_set g5b.out hXY.symm _)
        have hO7 := Lib.hid (show Only (fun k => k = X ∨ k = Y) W3 (W6.setCell ⟨X, q * 3 + 2, none⟩ (.int .i64 ((t : Int) + 1))) from by
          rw [hW6]
          exact (hO5.out.setCell (p := ⟨X, q * 3 + 1, none⟩) (fun _ => .inl rfl) _).setCell (p := ⟨X, q * 3 + 2, none⟩) (fun _ => .inl rfl) _)
        have hxc : (x.c : Int) + 1 ≤ 101 := by omega
        clear hB7 hB5 hx5
        go_upto_region 15 with fail
        rw [← hW6]
        clear hW6 e1 y1
        go_wp2_with fail
        go_roundw
        case rel => exact ⟨t + 1, by go_num, by omega, hB8, hC7, hO7⟩
        case measure => simp [intOf]; omega
    · obtain rfl : t = n0 := by omega
      obtain ⟨M0, hM0⟩ : ∃ M0, M0 = bld O t := ⟨_, rfl⟩
      have hM0' := Lib.hid (show M0 = bld O O.length from by rw [hM0, hl0'.out])
      have hbd := Lib.hid (show ∀ (q : Nat) (x : Wk), M0[q]? = some x → x.r ≤ 100 ∧ x.c ≤ 100 ∧ x.d ≤ 100 from fun q x hx => by
        rw [hM0] at hx
        have h1 := bld_inv (O := O) (t := t) (by have := hl0'.out; omega) q x hx
        have := hb9.out
        omega)
      have hL0 := Lib.hid (show M0.length = 8 from by rw [hM0]; exact bld_len O t)
      rw [← hM0] at hB
      obtain ⟨wrr, hwrr⟩ : ∃ wrr, wrr = wr := ⟨_, rfl⟩
      rw [← hwrr] at hB hO ⊢
      have hO9 := Lib.hid (show Only (fun k => k = X ∨ k = Y) W3 wrr from hO.out)
      clear hM0 hC hO hwrr
      go_wp2_with fail
      go_loopw [12, 51] (fun _ i ws => ∃ (k : Nat) (M : List Wk), i = .int .i64 (k : Int) ∧ k ≤ 8 ∧ Hid (WkR ws X 54 M) ∧ Hid (Looser M0 M) ∧ Hid (∀ j, k ≤ j → M[j]? = M0[j]?) ∧ Hid (Only (fun k => k = X ∨ k = Y) wrr ws)) (fun _ i _ => 8 - (intOf i).toNat)
      case atStart => exact ⟨0, M0, rfl, by omega, hB, Lib.hid ⟨hL0.out, fun q x y hx hy => by rw [hx] at hy; cases hy; omega⟩, Lib.hid (fun _ _ => rfl), Lib.hid (Only.refl _ _)⟩
      case round =>
        obtain ⟨k, M, rfl, hk, hBk, hLo, hRe, hOk⟩ := hrel
        by_cases hk8 : k < 8
        · have hk8' : (k : Int) < 8 := by omega
          obtain ⟨x, hx⟩ : ∃ x, M0[k]? = some x := ⟨_, List.getElem?_eq_getElem (by rw [hL0.out]; exact hk8)⟩
          have hxM : M[k]? = some x := by rw [hRe.out k (Nat.le_refl _)]; exact hx
          obtain ⟨x0, x1, x2⟩ := hBk.out.at_ hxM
          have hx9 := hbd.out k x hx
          have ff := fun i => row_free hBk.out i
          by_cases ha : k < n1
          · have ha' : (k : Int) < (n1 : Int) := by omega
            obtain ⟨a, ha1⟩ : ∃ a, Ah[k]? = some a := ⟨_, List.getElem?_eq_getElem (by have := hl1'.out; omega)⟩
            have ha9 := hA8'.out a (List.mem_of_getElem? ha1)
            obtain ⟨b1, off1, rfl, hc1⟩ := r1'.out.at_ ((hO3.out.trans hO9.out (fun k hk h => by have := hXw.out; have := hY'.out; omega)).trans hOk.out (fun k hk h => by have := hXw.out; have := hY'.out; omega)) (fun k hk h => h.elim) ha1
            obtain ⟨rn, hrn0⟩ : ∃ rn, rn = x.r - a := ⟨_, rfl⟩
            have hrn := Lib.hid hrn0
            have hmx : (if (x.r : Int) - (a : Int) < 0 then (0 : Int) else (x.r : Int) - (a : Int)) = (rn : Int) := by split <;> omega
            clear hrn0
            go_upto_region 21 with fail
            refine wp_region_quiet_tail_lit 14 (by kernel_rfl) (by kernel_rfl) ?_
            simp only [List.take_succ_cons, List.take_zero, List.drop_succ_cons, List.drop_zero]
            repeat (go_big_quiet_step (fail))
            refine wpQuiet_nil ?_
            rintro _ ⟨nq, rfl⟩
            have f0 : (wr.drewN nq).frozen? ⟨X, k * 3, none⟩ = false := ff (k * 3)
            have z0 : (wr.drewN nq).cell? ⟨X, k * 3, none⟩ = some (.int .i64 (x.r : Int)) := x0
            obtain ⟨W5, hW5⟩ : ∃ W5, W5 = (wr.drewN nq).setCell ⟨X, k * 3, none⟩ (.int .i64 (rn : Int)) := ⟨_, rfl⟩
            obtain ⟨M5, hM5⟩ : ∃ M5, M5 = M.set k ⟨rn, x.c, x.d⟩ := ⟨_, rfl⟩
            obtain ⟨x5, hx5e⟩ : ∃ x5, x5 = (⟨rn, x.c, x.d⟩ : Wk) := ⟨_, rfl⟩
            have hB5 := Lib.hid (show WkR W5 X 54 M5 from by rw [hW5, hM5]; exact WkR.set_r (n := rn) (show WkR (wr.drewN nq) X 54 M from hBk.out) hxM)
            have hx5 := Lib.hid (show M5[k]? = some x5 from by rw [hM5, hx5e]; exact List.getElem?_set_self (by rw [hLo.out.1]; exact hk8))
            have hl5 := Lib.hid (show M5.length = 8 from by rw [hM5, List.length_set, hLo.out.1])
            have h5 := Lib.hid (show x5.c = x.c ∧ x5.r ≤ x.r ∧ x5.d = x.d ∧ x.d ≤ 100 from by have := hrn.out; rw [hx5e]; dsimp only; omega)
            have ho5 := Lib.hid (show ∀ j, j ≠ k → M5[j]? = M[j]? from by rw [hM5]; exact set_other _)
            have hO5 := Lib.hid (show Only (fun k => k = X ∨ k = Y) wr W5 from by rw [hW5]; exact ((Only.refl _ _).drewN nq).setCell (p := ⟨X, k * 3, none⟩) (fun _ => .inl rfl) _)
            have hx' := Lib.hid hx
            clear hM5 hx5e hx hxM hx9 hc1 ha1 x0 x1 x2 ff
            go_upto_region 22 with fail
            rw [← hW5]
            clear hW5 f0 z0 hmx
            by_cases hbn : k < n2
            · have hbn' : (k : Int) < (n2 : Int) := by omega
              obtain ⟨bb, hb1⟩ : ∃ bb, Bh[k]? = some bb := ⟨_, List.getElem?_eq_getElem (by have := hl2'.out; omega)⟩
              have hb9' := hB8'.out bb (List.mem_of_getElem? hb1)
              obtain ⟨b2, off2, rfl, hc2⟩ := r2'.out.at_ (((hO3.out.trans hO9.out (fun k hk h => by have := hXw.out; have := hY'.out; omega)).trans hOk.out (fun k hk h => by have := hXw.out; have := hY'.out; omega)).trans hO5.out (fun k hk h => by have := hXw.out; have := hY'.out; omega)) (fun k hk h => h.elim) hb1
              obtain ⟨-, -, u2⟩ := hB5.out.at_ hx5.out
              have f5 := row_free hB5.out (k * 3 + 2)
              have hd9 : (x5.d : Int) ≤ 100 := by have := h5.out; omega
              have hd8 : (0 : Int) ≤ (x5.d : Int) := Int.natCast_nonneg _
              go_upto_region 23 with fail
              refine wp_region_quiet_tail_lit 12 (by kernel_rfl) (by kernel_rfl) ?_
              simp only [List.take_succ_cons, List.take_zero, List.drop_succ_cons, List.drop_zero]
              repeat (go_big_quiet_step (fail))
              refine wpQuiet_nil ?_
              rintro _ ⟨nr, rfl⟩
              have f6 : (W5.drewN nr).frozen? ⟨X, k * 3 + 2, none⟩ = false := f5
              have z6 : (W5.drewN nr).cell? ⟨X, k * 3 + 2, none⟩ = some (.int .i64 (x5.d : Int)) := u2
              have hB6 := Lib.hid (WkR.set_d (n := x5.d + bb) (show WkR (W5.drewN nr) X 54 M5 from hB5.out) hx5.out)
              have hO6 := Lib.hid (show Only (fun k => k = X ∨ k = Y) wrr ((W5.drewN nr).setCell ⟨X, k * 3 + 2, none⟩ (.int .i64 ((x5.d : Int) + (bb : Int)))) from (((hOk.out.trans' hO5.out).drewN nr).setCell (p := ⟨X, k * 3 + 2, none⟩) (fun _ => .inl rfl) _))
              have hl9 := Lib.hid (loo_step (M6 := M5.set k ⟨x5.r, x5.c, x5.d + bb⟩) hLo.out hRe.out (by rw [List.length_set, hl5.out]) hx'.out (List.getElem?_set_self (by rw [hl5.out]; exact hk8)) (by have := h5.out; dsimp only; omega) (fun j hj => (set_other _ j hj).trans (ho5.out j hj)))
              clear hc2 hb1 u2 f5
              go_upto_region 24 with fail
              clear f6 z6
              go_wp2_with fail
              go_roundw
              case rel => exact ⟨k + 1, _, by go_num, by omega, hB6, Lib.hid hl9.out.1, Lib.hid hl9.out.2, hO6⟩
              case measure => simp [intOf]; omega
            · have hbn' : ¬ (k : Int) < (n2 : Int) := by omega
              have hO6 := Lib.hid (show Only (fun k => k = X ∨ k = Y) wrr W5 from hOk.out.trans' hO5.out)
              have hl9 := Lib.hid (loo_step (M6 := M5) hLo.out hRe.out hl5.out hx'.out hx5.out (by have := h5.out; omega) ho5.out)
              go_wp2_with fail
              go_roundw
              case rel => exact ⟨k + 1, M5, by go_num, by omega, hB5, Lib.hid hl9.out.1, Lib.hid hl9.out.2, hO6⟩
              case measure => simp [intOf]; omega
          · have ha' : ¬ (k : Int) < (n1 : Int) := by omega
            obtain ⟨W5, hW5⟩ : ∃ W5, W5 = wr := ⟨_, rfl⟩
            obtain ⟨M5, hM5⟩ : ∃ M5, M5 = M := ⟨_, rfl⟩
            obtain ⟨x5, hx5e⟩ : ∃ x5, x5 = x := ⟨_, rfl⟩
            have hB5 := Lib.hid (show WkR W5 X 54 M5 from by rw [hW5, hM5]; exact hBk.out)
            have hx5 := Lib.hid (show M5[k]? = some x5 from by rw [hM5, hx5e]; exact hxM)
            have hl5 := Lib.hid (show M5.length = 8 from by rw [hM5, hLo.out.1])
            have h5 := Lib.hid (show x5.c = x.c ∧ x5.r ≤ x.r ∧ x5.d = x.d ∧ x.d ≤ 100 from by rw [hx5e]; omega)
            have ho5 := Lib.hid (show ∀ j, j ≠ k → M5[j]? = M[j]? from by rw [hM5]; exact fun _ _ => rfl)
            have hO5 := Lib.hid (show Only (fun k => k = X ∨ k = Y) wr W5 from by rw [hW5]; exact Only.refl _ _)
            have hx' := Lib.hid hx
            clear hM5 hx5e hx hxM hx9 x0 x1 x2 ff
            go_upto_region 22 with fail
            rw [← hW5]
            clear hW5
            by_cases hbn : k < n2
            · have hbn' : (k : Int) < (n2 : Int) := by omega
              obtain ⟨bb, hb1⟩ : ∃ bb, Bh[k]? = some bb := ⟨_, List.getElem?_eq_getElem (by have := hl2'.out; omega)⟩
              have hb9' := hB8'.out bb (List.mem_of_getElem? hb1)
              obtain ⟨b2, off2, rfl, hc2⟩ := r2'.out.at_ (((hO3.out.trans hO9.out (fun k hk h => by have := hXw.out; have := hY'.out; omega)).trans hOk.out (fun k hk h => by have := hXw.out; have := hY'.out; omega)).trans hO5.out (fun k hk h => by have := hXw.out; have := hY'.out; omega)) (fun k hk h => h.elim) hb1
              obtain ⟨-, -, u2⟩ := hB5.out.at_ hx5.out
              have f5 := row_free hB5.out (k * 3 + 2)
              have hd9 : (x5.d : Int) ≤ 100 := by have := h5.out; omega
              have hd8 : (0 : Int) ≤ (x5.d : Int) := Int.natCast_nonneg _
              go_upto_region 23 with fail
              refine wp_region_quiet_tail_lit 12 (by kernel_rfl) (by kernel_rfl) ?_
              simp only [List.take_succ_cons, List.take_zero, List.drop_succ_cons, List.drop_zero]
              repeat (go_big_quiet_step (fail))
              refine wpQuiet_nil ?_
              rintro _ ⟨nr, rfl⟩
              have f6 : (W5.drewN nr).frozen? ⟨X, k * 3 + 2, none⟩ = false := f5
              have z6 : (W5.drewN nr).cell? ⟨X, k * 3 + 2, none⟩ = some (.int .i64 (x5.d : Int)) := u2
              have hB6 := Lib.hid (WkR.set_d (n := x5.d + bb) (show WkR (W5.drewN nr) X 54 M5 from hB5.out) hx5.out)
              have hO6 := Lib.hid (show Only (fun k => k = X ∨ k = Y) wrr ((W5.drewN nr).setCell ⟨X, k * 3 + 2, none⟩ (.int .i64 ((x5.d : Int) + (bb : Int)))) from (((hOk.out.trans' hO5.out).drewN nr).setCell (p := ⟨X, k * 3 + 2, none⟩) (fun _ => .inl rfl) _))
              have hl9 := Lib.hid (loo_step (M6 := M5.set k ⟨x5.r, x5.c, x5.d + bb⟩) hLo.out hRe.out (by rw [List.length_set, hl5.out]) hx'.out (List.getElem?_set_self (by rw [hl5.out]; exact hk8)) (by have := h5.out; dsimp only; omega) (fun j hj => (set_other _ j hj).trans (ho5.out j hj)))
              clear hc2 hb1 u2 f5
              go_upto_region 24 with fail
              clear f6 z6
              go_wp2_with fail
              go_roundw
              case rel => exact ⟨k + 1, _, by go_num, by omega, hB6, Lib.hid hl9.out.1, Lib.hid hl9.out.2, hO6⟩
              case measure => simp [intOf]; omega
            · have hbn' : ¬ (k : Int) < (n2 : Int) := by omega
              have hO6 := Lib.hid (show Only (fun k => k = X ∨ k = Y) wrr W5 from hOk.out.trans' hO5.out)
              have hl9 := Lib.hid (loo_step (M6 := M5) hLo.out hRe.out hl5.out hx'.out hx5.out (by have := h5.out; omega) ho5.out)
              go_wp2_with fail
              go_roundw
              case rel => exact ⟨k + 1, M5, by go_num, by omega, hB5, Lib.hid hl9.out.1, Lib.hid hl9.out.2, hO6⟩
              case measure => simp [intOf]; omega
        · obtain rfl : k = 8 := by omega
          have hgiv := Lib.hid (given_of (O := O) (M := M) (by rw [← hM0'.out]; exact hLo.out))
          have hM8 : M.length = 8 := hLo.out.1
          have hraw := Lib.hid (show Calls Try.prog 26 #[.slice (some ⟨X, 0, none⟩) 8 8] wr (LateEnd wr M) from by
            have hr : WRow wr (some ⟨X, 0, none⟩) (M.map fun y => ⟨y.r, y.c, y.d⟩) := fun j z hz => by
              rw [List.getElem?_map] at hz
              obtain ⟨y, hy, rfl⟩ := Option.map_eq_some_iff.1 hz
              obtain ⟨c0, c1, c2⟩ := hBk.out.at_ hy
              rw [← Nat.zero_add (j * 3)] at c0 c1 c2
              exact ⟨X, 0, rfl, row_lt hBk.out, c0, c1, c2⟩
            have h1 := late_any (n := 8) (cap := 8) sorts_19 hr (by rw [List.length_map, hM8]) (by omega) (by omega)
            have h2 : (M.map fun y => (⟨y.r, y.c, y.d⟩ : RW)).map clampW = M := by
              rw [List.map_map]
              refine (List.map_congr_left (g := id) fun y hy => ?_).trans (List.map_id _)
              obtain ⟨j, hj⟩ := List.getElem?_of_mem hy
              have hj8 := (List.getElem?_eq_some_iff.1 hj).1
              obtain ⟨x, hx⟩ : ∃ x, M0[j]? = some x := ⟨_, List.getElem?_eq_getElem (by rw [hL0.out]; omega)⟩
              have h3 := hLo.out.2 j x y hx hj
              have h4 := hbd.out j x hx
              have h5 : ∀ m : Nat, m ≤ 1000 → near (m : Int) = m := fun m hm => by unfold near; omega
              show (⟨near (y.r : Int), near (y.c : Int), near (y.d : Int)⟩ : Wk) = y
              rw [h5 y.r (by omega), h5 y.c (by omega), h5 y.d (by omega)]
            rw [h2] at h1
            exact h1)
          have hOw := Lib.hid (show Only (fun _ => False) w wr from (hO3.out.trans (hO9.out.trans' hOk.out) (fun k hk h => by have := hXw.out; have := hY'.out; omega)))
          clear hM8
          go_wp2_with (go_at_call 26; refine hraw.out.mono ?_; rintro e w9 ⟨v, hh, E, rfl, g1, g2, g3, g4⟩; have hv := given_late hgiv.out g3; rw [hv] at g1; obtain ⟨-, p, cp, rfl, -⟩ := g1; have hOv := Lib.hid (hOw.out.trans' g4); clear hv g2 g3 g4)
          rw [hZ'.out]
          exact ⟨rfl, hOv.out⟩
theorem best_row (A0 : Option Addr) (n0 c0 : Nat) (f0 : Nat → Int) (A1 : Option Addr) (n1 c1 : Nat) (f1 : Nat → Int) (A2 : Option Addr) (n2 c2 : Nat) (f2 : Nat → Int) (w : World) (h0 : IntRow .u8 w A0 n0 f0) (h1 : IntRow .u8 w A1 n1 f1) (h2 : IntRow .u8 w A2 n2 f2) :
    Calls Try.prog 8 #[.slice A0 n0 c0, .slice A1 n1 c1, .slice A2 n2 c2] w fun e w' => e = .returned (.bool true) ∧ Below w.heap.size w w' := by
  obtain ⟨O, hl0, r0, b0⟩ := brow_in h0
  obtain ⟨Ah, hl1, r1, b1⟩ := brow_in h1
  obtain ⟨Bh, hl2, r2, b2⟩ := brow_in h2
  exact (best_law b0 b1 b2 r0 r1 r2 hl0 hl1 hl2).mono fun e w' ⟨he, ho⟩ => ⟨he, ho.below (Nat.le_refl _) (fun _ h => h.elim)⟩
end Edf
end Go.Proofs.Ytkolbaadakhciaa
