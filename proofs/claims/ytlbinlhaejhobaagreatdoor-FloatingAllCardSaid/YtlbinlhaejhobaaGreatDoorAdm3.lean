/- admit: all that is told of a configuration. -/
import Derived.Test.YtlbinlhaejhobaaGreatDoorAdm2
import Derived.Test.YtlbinlhaejhobaaGreatDoorPN
import Derived.Test.YtlbinlhaejhobaaGreatDoorPD
namespace Go.Proofs.YtlbinlhaejhobaaGreatDoor
namespace Adm
open Go Go.RowKit Rca Sct Lin Lck Cst Rld Pre
open Bch (U sA sC sM sA_le sC_le sM_le GrowU Ld LRow LB orU)

def dedI (pl : Tks) (i : Nat) : Int := (pl.ts.map (·.de)).getD i 0
theorem dedI_at {pl : Tks} {k : Nat} {t : TaskV} (h : pl.ts[k]? = some t) : dedI pl k = t.de := by
  unfold dedI
  rw [List.getD_eq_getElem?_getD, List.getElem?_map, h]
  rfl
/-- Isn't a task done in time? -/
def lateI (c : ConfV) (d : ConfL) (pl : Tks) (i : Nat) : Bool := decide (ofU (dedI pl i) < (lineI c d pl i).re)
def lateB (c : ConfV) (d : ConfL) (pl : Tks) (k : Nat) : Bool := (List.range k).any (lateI c d pl)
theorem lateB_succ (c : ConfV) (d : ConfL) (pl : Tks) (k : Nat) : lateB c d pl (k + 1) = (lateB c d pl k || lateI c d pl k) := by
  unfold lateB
  rw [List.range_succ, List.any_append]
  simp
def errE (b : Bool) : Int := if b = true then 12 else 0
def lnL (c : ConfV) (d : ConfL) (pl : Tks) (k : Nat) : List Value := (List.range k).flatMap (fun i => (lineI c d pl i).cells)
theorem lnL_succ (c : ConfV) (d : ConfL) (pl : Tks) (k : Nat) : lnL c d pl (k + 1) = lnL c d pl k ++ (lineI c d pl k).cells := by
  unfold lnL
  rw [List.range_succ, List.flatMap_append]
  simp
theorem infoA : (Tryz.prog.info? 46).map (fun i => (i.zero, i.size, i.bytes)) = some (some (.agg #[U 0, U 0, U 0, U 0, U 0, U 0]), 6, 48) := by kernel_rfl
theorem row_six {w : World} {X : Nat} {a b c d e f : Value} {T : TypeId} (h : w.heap[X]? = some (.cells #[a, b, c, d, e, f] T (0, 0))) : ∀ j u, [a, b, c, d, e, f][j]? = some u → w.cell? ((⟨X, 0, none⟩ : Addr).add j) = some u := by
  intro j u hj
  rw [Addr.add_lit, Nat.zero_add]
  exact row_cell (L := [a, b, c, d, e, f]) h hj
noncomputable def AnEnd (c : ConfV) (d : ConfL) (pl : Tks) (w : World) (e : Ending) (w' : World) : Prop :=
  Only (fun _ => False) w w' ∧ (confZ c d pl ≠ 0 → e = .returned (.tuple #[.agg #[.slice none 0 0, .int .i64 0], .int .i64 (confZ c d pl)])) ∧
  (confZ c d pl = 0 → ∃ A cap h, e = .returned (.tuple #[.agg #[.slice A c.ta.n cap, .int .i64 (Bch.bndZ pl.ts)], .int .i64 (errE (lateB c d pl c.ta.n))]) ∧ Win w' 46 6 (.slice A c.ta.n cap) h c.ta.n (lnL c d pl c.ta.n) ∧ ∀ b, h = some b → w.heap.size ≤ b)
set_option maxRecDepth 100000 in
set_option maxHeartbeats 4000000 in
theorem analyse_any {w : World} {c : ConfV} {d : ConfL} {pl : Tks} (hw : Words w) (hC : ConfIn w c d pl) (hA : ConfAt w c d pl) :
    Calls Tryz.prog 12 #[c.val] w (AnEnd c d pl w) := by
  obtain ⟨q, hq⟩ : ∃ q, q = w.heap.size := ⟨_, rfl⟩
  obtain ⟨W2, hW2⟩ : ∃ W2, W2 = (w.alloc (.cells c.cells.toArray 27)).alloc (.cells #[.slice none 0 0, .int .i64 0] 32) := ⟨_, rfl⟩
  have hO2 : Only (fun _ => False) w W2 := by rw [hW2]; exact ((Only.refl _ w).alloc _).alloc _
  have b0 : W2.heap[q]? = some (.cells c.cells.toArray 27 (0, 0)) := by rw [hW2]; exact heap_kept_alloc (heap_new_at _ _ hq.symm) _
  have b1 : W2.heap[q + 1]? = some (.cells [.slice none 0 0, .int .i64 0].toArray 32 (0, 0)) := by rw [hW2]; exact heap_new_at _ _ (by simp [hq])
  have hs2 : W2.heap.size = q + 2 := by rw [hW2]; simp [hq]
  have hq' := Lib.hid hq
  have hb := Lib.hid (fun W (ho : Only (fun k => q + 1 ≤ k) W2 W) => show W.heap[q]? = some (.cells c.cells.toArray 27 (0, 0)) ∧ Only (fun _ => False) w W from ⟨ho.heap b0 (by omega), hO2.trans ho (fun x hx e => by omega)⟩)
  have hcy := Lib.hid (fun W (ho : Only (fun k => q + 1 ≤ k) W2 W) => cyv_of (hb.out W ho).1)
  obtain ⟨cv, hcv⟩ : ∃ cv, cv = c.val := ⟨_, rfl⟩
  obtain ⟨V, hV⟩ : ∃ V, V = confZ c d pl := ⟨_, rfl⟩
  obtain ⟨BZ, hBZ⟩ : ∃ B, B = Bch.bndZ pl.ts := ⟨_, rfl⟩
  have cchk := Lib.hid (fun W (ho : Only (fun k => q + 1 ≤ k) W2 W) => show Calls Tryz.prog 42 #[cv] W (GrowI V W) from by rw [hcv, hV]; exact confCheck_any (hw.new (hb.out W ho).2) (hA.new (hb.out W ho).2))
  have cbnd := Lib.hid (fun W (ho : Only (fun k => q + 1 ≤ k) W2 W) => show Calls Tryz.prog 43 #[cv] W (Bch.GrowI BZ W) from by rw [hcv, hBZ]; exact Bch.bound_any (hC.new (hb.out W ho).2).t hC.n)
  have cline := Lib.hid (fun (h0 : V = 0) W (ho : Only (fun k => q + 1 ≤ k) W2 W) i (hi : i < c.ta.n) => show Calls Tryz.prog 44 #[cv, .int .i64 (i : Int)] W (fun e w' => e = .returned (lineI c d pl i).val ∧ Only (fun _ => False) W w') from by
    rw [hcv]; exact line_any (hC.new (hb.out W ho).2) (Fin0.of_zero (by rw [← hV]; exact h0)) hi)
  have hn8 := Lib.hid (fun (h0 : V = 0) => show c.ta.n ≤ 8 from (Fin0.of_zero (c := c) (d := d) (pl := pl) (by rw [← hV]; exact h0)).counts.2.2.2.2.1)
  have hta := Lib.hid (fun W (ho : Only (fun k => q + 1 ≤ k) W2 W) x (hx : x < c.ta.n) => show ∃ b off t, c.ta.A = some ⟨b, off, none⟩ ∧ b < W.heap.size ∧ TaskCells W b (off + x * 7) t ∧ dedI pl x = t.de from by
    have hT := (hC.new (hb.out W ho).2).t
    obtain ⟨t, ht⟩ : ∃ t, pl.ts[x]? = some t := ⟨_, List.getElem?_eq_getElem (by rw [hT.len]; exact hx)⟩
    obtain ⟨b, off, hA, hb, hCe⟩ := hT.at_ x t ht
    exact ⟨b, off, t, hA, hb, hCe, dedI_at ht⟩)
  obtain ⟨Z, hZ⟩ : ∃ Z, Z = AnEnd c d pl w := ⟨_, rfl⟩
  rw [← hZ]
  have hfin0 := Lib.hid (fun (h0 : ¬ V = 0) W (ho : Only (fun k => q + 1 ≤ k) W2 W) => show Z (.returned (.tuple #[.agg #[.slice none 0 0, .int .i64 0], .int .i64 V])) W from by
    rw [hZ]
    unfold AnEnd
    rw [← hV]
    exact ⟨(hb.out W ho).2, fun _ => rfl, fun h => absurd h h0⟩)
  obtain ⟨lnf, hln⟩ : ∃ l, l = lineI c d pl := ⟨_, rfl⟩
  obtain ⟨LC, hLC⟩ : ∃ l, l = lnL c d pl := ⟨_, rfl⟩
  obtain ⟨ER, hER⟩ : ∃ l : Nat → Int, l = fun k => errE (lateB c d pl k) := ⟨_, rfl⟩
  have hLs := Lib.hid (fun k => show LC (k + 1) = LC k ++ (lnf k).cells from by rw [hLC, hln]; exact lnL_succ _ _ _ _)
  have hL0 := Lib.hid (show LC 0 = [] from by rw [hLC]; rfl)
  have hE0 := Lib.hid (show ER 0 = 0 from by rw [hER]; rfl)
  have hEs := Lib.hid (fun k => show ER (k + 1) = if ofU (dedI pl k) < (lnf k).re then 12 else ER k from by
    rw [hER, hln]
    dsimp only
    rw [lateB_succ]
    unfold lateI errE
    by_cases h : ofU (dedI pl k) < (lineI c d pl k).re
    · simp [h]
    · simp [h])
  have hfin1 := Lib.hid (fun (h0 : V = 0) W (ho : Only (fun k => q + 1 ≤ k) W2 W) (A : Option Addr) (cap : Nat) (h : Option Nat) (hW : Win W 46 6 (.slice A c.ta.n cap) h c.ta.n (LC c.ta.n)) (hf : ∀ b, h = some b → q ≤ b) => show Z (.returned (.tuple #[.agg #[.slice A c.ta.n cap, .int .i64 BZ], .int .i64 (ER c.ta.n)])) W from by
    rw [hZ]
    unfold AnEnd
    rw [← hV]
    refine ⟨(hb.out W ho).2, fun h => absurd h0 h, fun _ => ⟨A, cap, h, ?_, ?_, fun b hb => by have := hf b hb; omega⟩⟩
    · rw [hBZ, hER]
    · rw [← hLC]; exact hW)
  rw [← hln] at cline
  have hb1 := Lib.hid b1
  have hs2' := Lib.hid hs2
  rw [← hcv]
  unfold ConfV.val at hcv
  subst hcv
  unfold CYv at hcy
  unfold ConfV.cells at hW2
  have hW2' := Lib.hid hW2
  clear hZ hq hO2 b0 b1 hW2 hC hV hBZ hln hLC hER hs2 hw hA
  obtain ⟨c0, wy, h, mi, ⟨mA, mn, mc⟩, g, ⟨cA, cn, cc⟩, ⟨eA, en, ec⟩, ⟨tA, tn, tc⟩, ⟨lA, ln, lc⟩⟩ := c
  dsimp only at *
  obtain ⟨d0, d1, d2, d3, d4, d5, d6, d7, d8, d9, dl⟩ := hcy.out W2 (Only.refl _ _)
  go_enter Tryz.func12, Tryz.ntmps12
  go_upto_region 1 with fail
  rw [← hq'.out]
  rw [← hW2'.out]
  go_wp2_with fail
  refine (cchk.out W2 (Only.refl _ _)).mono ?_
  rintro e w3 ⟨rfl, ho⟩
  have hR3 := Lib.hid (ho.heap hb1.out (fun h => h))
  have hO3 := Lib.hid (ho.mono (T := fun k => q + 1 ≤ k) (fun _ _ h => h.elim))
  have hs3 := Lib.hid ho.size
  clear ho d0 d1 d2 d3 d4 d5 d6 d7 d8 d9 dl cchk
  by_cases hV0 : V = 0
  · have cline2 := Lib.hid (cline.out hV0)
    have hfin2 := Lib.hid (hfin1.out hV0)
    have htn8 := hn8.out hV0
    clear cline hfin1 hfin0 hn8
    obtain ⟨d0, d1, d2, d3, d4, d5, d6, d7, d8, d9, dl⟩ := hcy.out w3 hO3.out
    subst hV0
    go_wp2_with fail
    refine (cbnd.out w3 hO3.out).mono ?_
    rintro e w4 ⟨rfl, ho⟩
    have hR4 := Lib.hid (ho.heap hR3.out (fun h => h))
    have hO4 := Lib.hid (hO3.out.trans' (ho.mono (T := fun k => q + 1 ≤ k) (fun _ _ h => h.elim)))
    have hs4 := Lib.hid (Nat.le_trans hs3.out ho.size)
    clear ho cbnd d0 d1 d2 d3 d4 d5 d6 d7 d8 d9 dl
    go_upto_region 5 with fail
    obtain ⟨X, hX⟩ : ∃ X, X = w4.heap.size := ⟨_, rfl⟩
    obtain ⟨w5, hw5⟩ : ∃ w5, w5 = w4.alloc (.cells #[.slice none 0 0, .int .i64 BZ] 32) := ⟨_, rfl⟩
    rw [← hw5, ← hX]
    have hX5 := Lib.hid (show w5.heap[X]? = some (.cells [.slice none 0 0, .int .i64 BZ].toArray 32 (0, 0)) from by rw [hw5]; exact heap_new_at _ _ hX.symm)
    have hR5 := Lib.hid (show w5.heap[q + 1]? = some (.cells [.slice none 0 0, .int .i64 0].toArray 32 (0, 0)) from by rw [hw5]; exact heap_kept_alloc hR4.out _)
    have hO5 := Lib.hid (show Only (fun k => q + 1 ≤ k) W2 w5 from by rw [hw5]; exact hO4.out.alloc _)
    have hXq := Lib.hid (show q + 2 ≤ X from by have := hs4.out; have := hs2'.out; omega)
    have hs5 := Lib.hid (show w5.heap.size = X + 1 from by rw [hw5, hX]; simp)
    clear hX hw5 hR4 hO4 hs4
    obtain ⟨d0, d1, d2, d3, d4, d5, d6, d7, d8, d9, dl⟩ := hcy.out w5 hO5.out
    go_wp2
    clear d0 d1 d2 d3 d4 d5 d6 d7 d8 d9 dl
    go_loopw [6, 7, 8, 9, 22] (fun u6 _ _ _ i wr => ∃ (k : Nat) (A : Option Addr) (cap : Nat) (h : Option Nat), i = .int .i64 k ∧ k ≤ tn ∧ u6 = .int .i64 (ER k) ∧ Hid (wr.heap[X]? = some (.cells [.slice A k cap, .int .i64 BZ].toArray 32 (0, 0))) ∧ Hid (Win wr 46 6 (.slice A k cap) h k (LC k)) ∧ Hid (∀ b, h = some b → X < b) ∧ Hid (Only (fun b => X ≤ b) w5 wr)) (fun _ _ _ _ i _ => tn - (intOf i).toNat)
    case atStart => exact ⟨0, none, 0, none, rfl, Nat.zero_le _, by rw [hE0.out], hX5, Lib.hid (by rw [hL0.out]; exact Win.nil _ _ _), Lib.hid (fun b hb => by cases hb), Lib.hid (Only.refl _ _)⟩
    case round =>
      obtain ⟨k, A, cap, hh, rfl, hk, rfl, hXr, hWr, hfr, hOr⟩ := hrel
      obtain ⟨ws, hws⟩ : ∃ ws : World, ws = wr := ⟨_, rfl⟩
      subst hws
      have hOs := Lib.hid (hO5.out.trans hOr.out (T := fun b => X ≤ b) (fun x _ e => by have := hXq.out; omega))
      by_cases hkn : k < tn
      · have hkn' : (k : Int) < tn := by omega
        obtain ⟨tb, toff, t, rfl, htb, hCe, hde⟩ := hta.out ws hOs.out k hkn
        obtain ⟨⟨co, de, re, pr, rl, ex⟩, hx⟩ : ∃ x, x = lnf k := ⟨_, rfl⟩
        have hLk := hLs.out k
        have hEk := hEs.out k
        have qln := cline2.out
        have qln2 := Lib.hid (fun W (ho : Only (fun k => q + 1 ≤ k) W2 W) => qln W ho k hkn)
        rw [← hx] at hLk hEk qln2
        rw [hde] at hEk
        unfold LnV.val at qln2
        unfold LnV.cells at hLk
        dsimp only at hLk hEk qln2
        have hLk' := Lib.hid hLk
        have hEk' := Lib.hid hEk
        have qof := Lib.hid (fun W => satOf_any t.de W)
        obtain ⟨DE, hDE⟩ : ∃ D, D = ofU t.de := ⟨_, rfl⟩
        rw [← hDE] at qof hEk'
        clear hx hLk hEk qln hDE hde
        obtain ⟨f0, f1, f2, f3, f4, f5, f6⟩ := hCe
        obtain ⟨tp, tth, tpe, tde, tfr, tfl, ⟨oA, on, oc⟩⟩ := t
        dsimp only at f0 f1 f2 f3 f4 f5 f6 qof
        obtain ⟨d0, d1, d2, d3, d4, d5, d6, d7, d8, d9, dl⟩ := hcy.out ws hOs.out
        go_upto_region 8 with fail
        obtain ⟨Y, hY⟩ : ∃ Y, Y = ws.heap.size := ⟨_, rfl⟩
        obtain ⟨w6, hw6⟩ : ∃ w6, w6 = ws.alloc (.cells #[.int .i64 tp, .int .i64 tth, .int .i64 tpe, .int .i64 tde, .int .i64 tfr, .int .i64 tfl, .slice oA on oc] 49) := ⟨_, rfl⟩
        rw [← hw6, ← hY]
        have hY6 := Lib.hid (show w6.heap[Y]? = some (.cells ([.int .i64 tp, .int .i64 tth, .int .i64 tpe, .int .i64 tde, .int .i64 tfr, .int .i64 tfl, .slice oA on oc]).toArray 49 (0, 0)) from by rw [hw6]; exact heap_new_at _ _ hY.symm)
        have hp6 := Lib.hid (show Only (fun _ => False) ws w6 from by rw [hw6]; exact (Only.refl _ _).alloc _)
        have hO6 := Lib.hid (hOs.out.trans' (hp6.out.mono (T := fun k => q + 1 ≤ k) (fun _ _ h => h.elim)))
        have hYX := Lib.hid (show X < Y from by have := hOr.out.size; have := hs5.out; omega)
        have hYs := Lib.hid hY
        have hw6s := Lib.hid (show w6.heap.size = Y + 1 from by rw [hw6, hY]; simp)
        clear hY hw6 f0 f1 f2 f3 f4 f5 f6 htb d0 d1 d2 d3 d4 d5 d6 d7 d8 d9 dl
        obtain ⟨d0, d1, d2, d3, d4, d5, d6, d7, d8, d9, dl⟩ := hcy.out w6 hO6.out
        go_wp2_with fail
        refine (qln2.out w6 hO6.out).mono ?_
        rintro e w7 ⟨rfl, ho⟩
        have hp7 := Lib.hid (hp6.out.trans' ho)
        have hY7 := Lib.hid (ho.heap hY6.out (fun h => h))
        have hs7 := Lib.hid ho.size
        clear ho qln2 d0 d1 d2 d3 d4 d5 d6 d7 d8 d9 dl
        go_upto_region 9 with fail
        obtain ⟨Y2, hY2⟩ : ∃ Y, Y = w7.heap.size := ⟨_, rfl⟩
        obtain ⟨w8, hw8⟩ : ∃ w8, w8 = w7.alloc (.cells #[U co, U de, U re, U pr, U rl, U ex] 46) := ⟨_, rfl⟩
        rw [← hw8, ← hY2]
        have hL8 := Lib.hid (show w8.heap[Y2]? = some (.cells [U co, U de, U re, U pr, U rl, U ex].toArray 46 (0, 0)) from by rw [hw8]; exact heap_new_at _ _ hY2.symm)
        have hY8 := Lib.hid (show w8.heap[Y]? = some (.cells ([.int .i64 tp, .int .i64 tth, .int .i64 tpe, .int .i64 tde, .int .i64 tfr, .int .i64 tfl, .slice oA on oc]).toArray 49 (0, 0)) from by rw [hw8]; exact heap_kept_alloc hY7.out _)
        have hp8 := Lib.hid (show Only (fun _ => False) ws w8 from by rw [hw8]; exact hp7.out.alloc _)
        have hX8 := Lib.hid (hp8.out.heap hXr.out (fun h => h))
        have hYY := Lib.hid (show Y < Y2 from by have := hs7.out; have := hw6s.out; omega)
        have hW8 := Lib.hid (hWr.out.kept hp8.out (fun _ _ h => h))
        clear hY2 hw8 hp6 hp7 hY6 hY7
        have y0 := row_cell hL8.out (i := 0) rfl
        have y1 := row_cell hL8.out (i := 1) rfl
        have y2 := row_cell hL8.out (i := 2) rfl
        have y3 := row_cell hL8.out (i := 3) rfl
        have y4 := row_cell hL8.out (i := 4) rfl
        have y5 := row_cell hL8.out (i := 5) rfl
        have yl := row_lt hL8.out
        have x0 := row_cell hX8.out (i := 0) rfl
        have xl := row_lt hX8.out
        go_upto_region 10 with (at_builtin; (refine wpList_append_win rfl _ _ 30 rfl 46 (.agg #[U 0, U 0, U 0, U 0, U 0, U 0]) 6 48 Tryz.underlying30 infoA rfl (by decide) rfl (hW8.out.kept ((Only.refl (fun _ => False) _).alloc _) (fun _ _ h => h)) _ 1 1 rfl [U co, U de, U re, U pr, U rl, U ex] rfl (fun _ => ⟨_, rfl, row_six (heap_new_at _ _ (by simp))⟩) (by simp [Value.oneCell']) (by unfold maxLen; omega) (by omega) ?_; intro v9 w9 h9 hW9 hO9 hh9; obtain ⟨p9, c9, rfl, _, _⟩ := hW9.out.form; have hX9 := Lib.hid (hO9.out.heap (heap_kept_alloc hX8.out _) (fun e => by have := hfr.out _ e.symm; omega)); have hx0 := row_cell hX9.out (i := 0) rfl; have hxf := row_free hX9.out 0; have hxl := row_lt hX9.out))
        obtain ⟨wa, hwa⟩ : ∃ wa, wa = w9.setCell ⟨X, 0, none⟩ (.slice p9 (k + 1) c9) := ⟨_, rfl⟩
        rw [← hwa]
        have hpa := Lib.hid (show Only (fun b => X ≤ b) w5 wa from by
          rw [hwa]
          exact ((hOr.out.trans' (hp8.out.mono (fun _ _ h => h.elim))).alloc _).trans hO9.out (fun x _ e => by have := hfr.out _ e.symm; omega) |>.setCell (p := ⟨X, 0, none⟩) (fun _ => Nat.le_refl _) _)
        have hXa := Lib.hid (show wa.heap[X]? = some (.cells [.slice p9 (k + 1) c9, .int .i64 BZ].toArray 32 (0, 0)) from by rw [hwa]; exact row_set hX9.out 0 _)
        have hne : ∀ b, hh = some b → b < Y := fun b hb => by have := hWr.out.lt b hb; have := hYs.out; omega
        have hLa := Lib.hid (show wa.heap[Y2]? = some (.cells [U co, U de, U re, U pr, U rl, U ex].toArray 46 (0, 0)) from by
          rw [hwa]
          exact heap_kept_set (hO9.out.heap (heap_kept_alloc hL8.out _) (fun e => by have := hne _ e.symm; have := hYY.out; omega)) (by have := hYY.out; have := hYX.out; dsimp only; omega) _)
        have hYa := Lib.hid (show wa.heap[Y]? = some (.cells ([.int .i64 tp, .int .i64 tth, .int .i64 tpe, .int .i64 tde, .int .i64 tfr, .int .i64 tfl, .slice oA on oc]).toArray 49 (0, 0)) from by
          rw [hwa]
          exact heap_kept_set (hO9.out.heap (heap_kept_alloc hY8.out _) (fun e => by have := hne _ e.symm; omega)) (by have := hYX.out; dsimp only; omega) _)
        have hfa := Lib.hid (fun b (hb : h9 = some b) => show X < b from by
          rcases hh9.out with e | ⟨g9, e, hge⟩
          · exact hfr.out b (e ▸ hb)
          · rw [e] at hb
            cases hb
            have h1 := hp8.out.size
            have h2 := hYX.out
            have h3 := hYs.out
            simp at hge
            omega)
        have hWa := Lib.hid (show Win wa 46 6 (.slice p9 (k + 1) c9) h9 (k + 1) (LC (k + 1)) from by
          rw [hLk'.out, hwa]
          exact hW9.out.kept ((Only.refl (fun b => b = X) w9).setCell (p := ⟨X, 0, none⟩) (fun _ => rfl) _) (fun b hb e => by have := hfa.out b hb; omega))
        have hOa := Lib.hid (hO5.out.trans hpa.out (T := fun b => X ≤ b) (fun x _ e => by have := hXq.out; omega))
        clear hwa hne y0 y1 y2 y3 y4 y5 yl x0 xl hx0 hxf hxl
        have y3 := wd_cell (row_cell hYa.out (i := 3) rfl)
        have z2 := wd_cell (row_cell hLa.out (i := 2) rfl)
        have qo := Lib.hid (fun (x : Wd wa) => Calls.wd_same (x := x) ((qof.out x.W).mono fun _ _ h => ⟨h.1, h.2.symm⟩))
        have hex := wd_ex wa
        by_cases hlt : DE < re
        · have hlt' : (DE : Int) < re := by omega
          have hEk2 := Lib.hid (hEk'.out.trans (if_pos hlt))
          clear hlt
          refine wp_region_wd (by kernel_rfl) (by kernel_rfl) ?_
          repeat (go_big_quiet_step (first | (go_at_call 45; with_reducible exact qo.out _)))
          refine wpQuiet_nil ?_
          rintro _ ⟨v, rfl⟩
          have hv := Lib.hid v.ok
          go_wp2
          go_roundw
          case rel => exact ⟨k + 1, p9, c9, h9, by go_num, by omega, by rw [hEk2.out], Lib.hid (hv.out.heap hXa.out (fun h => h)), Lib.hid (hWa.out.kept hv.out (fun _ _ h => h)), hfa, Lib.hid (hpa.out.trans' (hv.out.mono (fun _ _ h => h.elim)))⟩
          case measure => simp [intOf]; omega
        · have hlt' : ¬ (DE : Int) < re := by omega
          have hEk2 := Lib.hid (hEk'.out.trans (if_neg hlt))
          clear hlt
          refine wp_region_wd (by kernel_rfl) (by kernel_rfl) ?_
          repeat (go_big_quiet_step (first | (go_at_call 45; with_reducible exact qo.out _)))
          refine wpQuiet_nil ?_
          rintro _ ⟨v, rfl⟩
          have hv := Lib.hid v.ok
          go_wp2
          go_roundw
          case rel => exact ⟨k + 1, p9, c9, h9, by go_num, by omega, by rw [hEk2.out], Lib.hid (hv.out.heap hXa.out (fun h => h)), Lib.hid (hWa.out.kept hv.out (fun _ _ h => h)), hfa, Lib.hid (hpa.out.trans' (hv.out.mono (fun _ _ h => h.elim)))⟩
          case measure => simp [intOf]; omega
      · obtain rfl : k = tn := by omega
        have hR9 := Lib.hid (hOr.out.heap hR5.out (by have := hXq.out; omega))
        have x0 := row_cell hXr.out (i := 0) rfl
        have x1 := row_cell hXr.out (i := 1) rfl
        have xl := row_lt hXr.out
        have r0 := row_cell hR9.out (i := 0) rfl
        have r1 := row_cell hR9.out (i := 1) rfl
        have g0 := row_free hR9.out 0
        have g1 := row_free hR9.out 1
        have rl := row_lt hR9.out
        go_wp2
        obtain ⟨W9, hW9⟩ : ∃ W9, W9 = ((ws.setCell ⟨q + 1, 0, none⟩ (.slice A k cap)).setCell ⟨q + 1, 1, none⟩ (.int .i64 BZ)) := ⟨_, rfl⟩
        rw [← hW9]
        have hR10 : W9.heap[q + 1]? = some (.cells [.slice A k cap, .int .i64 BZ].toArray 32 (0, 0)) := by rw [hW9]; exact row_set (row_set hR9.out 0 _) 1 _
        have hO9 : Only (fun b => q + 1 ≤ b) W2 W9 := by rw [hW9]; exact (hOs.out.setCell (p := ⟨q + 1, 0, none⟩) (fun _ => Nat.le_refl _) _).setCell (p := ⟨q + 1, 1, none⟩) (fun _ => Nat.le_refl _) _
        have hWq : Win W9 46 6 (.slice A k cap) hh k (LC k) := by rw [hW9]; exact hWr.out.kept (((Only.refl (fun b => b = q + 1) ws).setCell (p := ⟨q + 1, 0, none⟩) (fun _ => rfl) _).setCell (p := ⟨q + 1, 1, none⟩) (fun _ => rfl) _) (fun b hb e => by have := hfr.out b hb; have := hXq.out; omega)
        have e0 := row_cell hR10 (i := 0) rfl
        have e1 := row_cell hR10 (i := 1) rfl
        exact bodyPost_ret (v := .tuple #[.agg #[.slice A k cap, .int .i64 BZ], .int .i64 (ER k)]) (by simp [results, Tryz.results12, go_sem, e0, e1]) rfl (hfin2.out W9 hO9 A cap hh hWq (fun b hb => by have := hfr.out b hb; have := hXq.out; omega))
  · have hf0 := Lib.hid (hfin0.out hV0)
    have hVne : (V == 0) = false := by simpa using hV0
    have hVne2 : (V != 0) = true := by simpa using hV0
    have r0 := row_cell hR3.out (i := 0) rfl
    have r1 := row_cell hR3.out (i := 1) rfl
    have g0 := row_free hR3.out 0
    have g1 := row_free hR3.out 1
    have rl := row_lt hR3.out
    go_wp2
    obtain ⟨W9, hW9⟩ : ∃ W9, W9 = ((w3.setCell ⟨q + 1, 0, none⟩ (.slice none 0 0)).setCell ⟨q + 1, 1, none⟩ (.int .i64 0)) := ⟨_, rfl⟩
    rw [← hW9]
    have hR10 : W9.heap[q + 1]? = some (.cells [.slice none 0 0, .int .i64 0].toArray 32 (0, 0)) := by rw [hW9]; exact row_set (row_set hR3.out 0 _) 1 _
    have hO9 : Only (fun b => q + 1 ≤ b) W2 W9 := by rw [hW9]; exact (hO3.out.setCell (p := ⟨q + 1, 0, none⟩) (fun _ => Nat.le_refl _) _).setCell (p := ⟨q + 1, 1, none⟩) (fun _ => Nat.le_refl _) _
    have e0 := row_cell hR10 (i := 0) rfl
    have e1 := row_cell hR10 (i := 1) rfl
    exact bodyPost_ret (v := .tuple #[.agg #[.slice none 0 0, .int .i64 0], .int .i64 V]) (by simp [results, Tryz.results12, go_sem, e0, e1]) rfl (hf0.out W9 hO9)
end Adm
end Go.Proofs.YtlbinlhaejhobaaGreatDoor
