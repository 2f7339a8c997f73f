/- admit: Admitted, Used. -/
import Derived.Test.YtlbinlhaejhobaaGreatDoorAdm3
namespace Go.Proofs.YtlbinlhaejhobaaGreatDoor
namespace Adm
open Go Go.RowKit Rca Sct Lin Lck Cst Rld Pre
open Bch (U sA sC sM sA_le sC_le sM_le GrowU Ld LRow LB orU)

def admB (c : ConfV) (d : ConfL) (pl : Tks) : Bool := decide (confZ c d pl = 0) && !lateB c d pl c.ta.n
set_option maxRecDepth 100000 in
theorem admitted_any {w : World} {c : ConfV} {d : ConfL} {pl : Tks} (hw : Words w) (hC : ConfIn w c d pl) (hA : ConfAt w c d pl) :
    Calls Tryz.prog 15 #[c.val] w (GrowB (admB c d pl) w) := by
  obtain ⟨q, hq⟩ : ∃ q, q = w.heap.size := ⟨_, rfl⟩
  obtain ⟨W2, hW2⟩ : ∃ W2, W2 = w.alloc (.cells c.cells.toArray 27) := ⟨_, rfl⟩
  have hO2 : Only (fun _ => False) w W2 := by rw [hW2]; exact (Only.refl _ w).alloc _
  have b0 : W2.heap[q]? = some (.cells c.cells.toArray 27 (0, 0)) := by rw [hW2]; exact heap_new_at _ _ hq.symm
  have hq' := Lib.hid hq
  have hcy := Lib.hid (fun W (ho : Only (fun _ => False) W2 W) => cyv_of (ho.heap b0 (fun h => h)))
  obtain ⟨cv, hcv⟩ : ∃ cv, cv = c.val := ⟨_, rfl⟩
  have can := Lib.hid (show Calls Tryz.prog 12 #[cv] W2 (AnEnd c d pl W2) from by rw [hcv]; exact analyse_any (hw.new hO2) (hC.new hO2) (hA.new hO2))
  obtain ⟨V, hV⟩ : ∃ V, V = confZ c d pl := ⟨_, rfl⟩
  obtain ⟨L, hL⟩ : ∃ L, L = lateB c d pl c.ta.n := ⟨_, rfl⟩
  obtain ⟨BZ, hBZ⟩ : ∃ B, B = Bch.bndZ pl.ts := ⟨_, rfl⟩
  unfold AnEnd at can
  rw [← hV, ← hL, ← hBZ] at can
  obtain ⟨Z, hZ⟩ : ∃ Z, Z = GrowB (admB c d pl) w := ⟨_, rfl⟩
  rw [← hZ]
  have hfin := Lib.hid (fun W (ho : Only (fun _ => False) W2 W) (b : Bool) (hb : b = (decide (V = 0) && !L)) => show Z (.returned (.bool b)) W from by rw [hZ, admB, hb, hV, hL]; exact ⟨rfl, hO2.trans' ho⟩)
  rw [← hcv]
  unfold ConfV.val at hcv
  subst hcv
  unfold CYv at hcy
  unfold ConfV.cells at hW2
  have hW2' := Lib.hid hW2
  clear hZ hq hO2 b0 hW2 hC hw hA hV hL hBZ
  obtain ⟨c0, wy, h, mi, ⟨mA, mn, mc⟩, g, ⟨cA, cn, cc⟩, ⟨eA, en, ec⟩, ⟨tA, tn, tc⟩, ⟨lA, ln, lc⟩⟩ := c
  dsimp only at *
  obtain ⟨d0, d1, d2, d3, d4, d5, d6, d7, d8, d9, dl⟩ := hcy.out W2 (Only.refl _ _)
  by_cases hV0 : V = 0
  · go_enter Tryz.func15, Tryz.ntmps15
    go_upto_region 1 with fail
    rw [← hq'.out]
    rw [← hW2'.out]
    go_wp2_with fail
    refine can.out.mono ?_
    rintro e w3 ⟨ho, -, h1⟩
    obtain ⟨A, cap, hh, rfl, -, -⟩ := h1 hV0
    have hO3 := Lib.hid ho
    clear ho h1 d0 d1 d2 d3 d4 d5 d6 d7 d8 d9 dl
    cases L with
    | true =>
      have hf := Lib.hid (fun W (ho : Only (fun _ => False) W2 W) => hfin.out W ho false (by simp))
      rw [show errE true = 12 from rfl]
      clear hV0
      go_wp2
      exact hf.out _ (hO3.out.alloc _)
    | false =>
      have hf := Lib.hid (fun W (ho : Only (fun _ => False) W2 W) => hfin.out W ho true (by simp [hV0]))
      rw [show errE false = 0 from rfl]
      clear hV0
      go_wp2
      exact hf.out _ (hO3.out.alloc _)
  · go_enter Tryz.func15, Tryz.ntmps15
    go_upto_region 1 with fail
    rw [← hq'.out]
    rw [← hW2'.out]
    go_wp2_with fail
    refine can.out.mono ?_
    rintro e w3 ⟨ho, h1, -⟩
    obtain rfl := h1 hV0
    have hO3 := Lib.hid ho
    have hf := Lib.hid (fun W (ho : Only (fun _ => False) W2 W) => hfin.out W ho false (by simp [hV0]))
    have hVne : (V == 0) = false := by simpa using hV0
    clear ho h1 hV0 d0 d1 d2 d3 d4 d5 d6 d7 d8 d9 dl
    go_wp2
    exact hf.out _ (hO3.out.alloc _)
/-- How much of the time the first k tasks take, over the product of their periods. -/
def usdU (c : ConfV) (pl : Tks) : Nat → Nat × Nat
  | 0 => (0, 1)
  | k + 1 => (sA (sM (usdU c pl k).1 (perI pl k)) (sM (cosI c pl k) (usdU c pl k).2), sM (usdU c pl k).2 (perI pl k))
theorem usdU_le (c : ConfV) (pl : Tks) : ∀ k, (usdU c pl k).1 ≤ 18446744073709551615 ∧ (usdU c pl k).2 ≤ 18446744073709551615
  | 0 => ⟨by show 0 ≤ 18446744073709551615; omega, by show 1 ≤ 18446744073709551615; omega⟩
  | k + 1 => ⟨sA_le _ _, sM_le _ _⟩
def usdE (c : ConfV) (d : ConfL) (pl : Tks) : Nat × Nat := if confZ c d pl = 0 then usdU c pl c.ta.n else (0, 0)
set_option maxRecDepth 100000 in
set_option maxHeartbeats 4000000 in
theorem used_any {w : World} {c : ConfV} {d : ConfL} {pl : Tks} (hw : Words w) (hC : ConfIn w c d pl) (hA : ConfAt w c d pl) :
    Calls Tryz.prog 13 #[c.val] w (fun e w' => e = .returned (.tuple #[U (usdE c d pl).1, U (usdE c d pl).2]) ∧ Only (fun _ => False) w w') := by
  obtain ⟨q, hq⟩ : ∃ q, q = w.heap.size := ⟨_, rfl⟩
  obtain ⟨W2, hW2⟩ : ∃ W2, W2 = w.alloc (.cells c.cells.toArray 27) := ⟨_, rfl⟩
  have hO2 : Only (fun _ => False) w W2 := by rw [hW2]; exact (Only.refl _ w).alloc _
  have b0 : W2.heap[q]? = some (.cells c.cells.toArray 27 (0, 0)) := by rw [hW2]; exact heap_new_at _ _ hq.symm
  have hq' := Lib.hid hq
  have hcy := Lib.hid (fun W (ho : Only (fun _ => False) W2 W) => cyv_of (ho.heap b0 (fun h => h)))
  obtain ⟨cv, hcv⟩ : ∃ cv, cv = c.val := ⟨_, rfl⟩
  obtain ⟨V, hV⟩ : ∃ V, V = confZ c d pl := ⟨_, rfl⟩
  have cchk := Lib.hid (show Calls Tryz.prog 42 #[cv] W2 (GrowI V W2) from by rw [hcv, hV]; exact confCheck_any (hw.new hO2) (hA.new hO2))
  have cwor := Lib.hid (fun (h0 : V = 0) W (ho : Only (fun _ => False) W2 W) i (hi : i < c.ta.n) => show Calls Tryz.prog 48 #[cv, .int .i64 (i : Int)] W (GrowU (cosI c pl i) W) from by
    rw [hcv]; exact aworst_any (hC.new (hO2.trans' ho)) (Fin0.of_zero (by rw [← hV]; exact h0)) hi)
  have hcp := Lib.hid (fun (h0 : V = 0) i (hi : i < c.ta.n) => show cosI c pl i ≤ 18446744073709551615 ∧ ofU (per pl.ts i) = perI pl i ∧ perI pl i ≤ 18446744073709551615 from by
    have hF := Fin0.of_zero (c := c) (d := d) (pl := pl) (by rw [← hV]; exact h0)
    have h1 := cosI_le hC hF i
    obtain ⟨h2, h3, h4⟩ := perI_le hC hF hi
    exact ⟨by omega, by rw [ofU_small (by omega)]; omega, by omega⟩)
  have hn8 := Lib.hid (fun (h0 : V = 0) => show c.ta.n ≤ 8 from (Fin0.of_zero (c := c) (d := d) (pl := pl) (by rw [← hV]; exact h0)).counts.2.2.2.2.1)
  have hta := Lib.hid (fun W (ho : Only (fun _ => False) W2 W) x (hx : x < c.ta.n) => show ∃ b off t, c.ta.A = some ⟨b, off, none⟩ ∧ b < W.heap.size ∧ TaskCells W b (off + x * 7) t ∧ per pl.ts x = t.pe from by
    have hT := (hC.new (hO2.trans' ho)).t
    obtain ⟨t, ht⟩ : ∃ t, pl.ts[x]? = some t := ⟨_, List.getElem?_eq_getElem (by rw [hT.len]; exact hx)⟩
    obtain ⟨b, off, hA, hb, hCe⟩ := hT.at_ x t ht
    exact ⟨b, off, t, hA, hb, hCe, per_at ht⟩)
  obtain ⟨Z, hZ⟩ : ∃ Z : Ending → World → Prop, Z = (fun e w' => e = .returned (.tuple #[U (usdE c d pl).1, U (usdE c d pl).2]) ∧ Only (fun _ => False) w w') := ⟨_, rfl⟩
  rw [← hZ]
  have hfin0 := Lib.hid (fun (h0 : ¬ V = 0) W (ho : Only (fun _ => False) W2 W) => show Z (.returned (.tuple #[.int .u64 0, .int .u64 0])) W from by rw [hZ, usdE, ← hV, if_neg h0]; exact ⟨rfl, hO2.trans' ho⟩)
  obtain ⟨us, hus⟩ : ∃ u : Nat → Nat × Nat, u = usdU c pl := ⟨_, rfl⟩
  have hfin1 := Lib.hid (fun (h0 : V = 0) W (ho : Only (fun _ => False) W2 W) => show Z (.returned (.tuple #[U (us c.ta.n).1, U (us c.ta.n).2])) W from by rw [hZ, usdE, ← hV, if_pos h0, hus]; exact ⟨rfl, hO2.trans' ho⟩)
  obtain ⟨cf, hcf⟩ : ∃ cf, cf = cosI c pl := ⟨_, rfl⟩
  obtain ⟨pf, hpf⟩ : ∃ pf, pf = perI pl := ⟨_, rfl⟩
  have hU0 := Lib.hid (show us 0 = (0, 1) from by rw [hus]; rfl)
  have hUs := Lib.hid (fun k => show us (k + 1) = (sA (sM (us k).1 (pf k)) (sM (cf k) (us k).2), sM (us k).2 (pf k)) from by rw [hus, hcf, hpf]; rfl)
  have hU9 := Lib.hid (fun k => show (us k).1 ≤ 18446744073709551615 ∧ (us k).2 ≤ 18446744073709551615 from by rw [hus]; exact usdU_le c pl k)
  rw [← hcf] at cwor hcp
  rw [← hpf] at hcp
  rw [← hcv]
  unfold ConfV.val at hcv
  subst hcv
  unfold CYv at hcy
  unfold ConfV.cells at hW2
  have hW2' := Lib.hid hW2
  clear hZ hq hO2 b0 hW2 hC hw hA hV hus hcf hpf
  obtain ⟨c0, wy, h, mi, ⟨mA, mn, mc⟩, g, ⟨cA, cn, cc⟩, ⟨eA, en, ec⟩, ⟨tA, tn, tc⟩, ⟨lA, ln, lc⟩⟩ := c
  dsimp only at *
  obtain ⟨d0, d1, d2, d3, d4, d5, d6, d7, d8, d9, dl⟩ := hcy.out W2 (Only.refl _ _)
  go_enter Tryz.func13, Tryz.ntmps13
  go_upto_region 1 with fail
  rw [← hq'.out]
  rw [← hW2'.out]
  go_wp2_with fail
  refine cchk.out.mono ?_
  rintro e w3 ⟨rfl, ho⟩
  have hO3 := Lib.hid ho
  clear ho d0 d1 d2 d3 d4 d5 d6 d7 d8 d9 dl cchk
  by_cases hV0 : V = 0
  · have cw := Lib.hid (cwor.out hV0)
    have hc2 := Lib.hid (hcp.out hV0)
    have hf2 := Lib.hid (hfin1.out hV0)
    have htn8 := hn8.out hV0
    clear cwor hcp hfin1 hfin0 hn8
    obtain ⟨d0, d1, d2, d3, d4, d5, d6, d7, d8, d9, dl⟩ := hcy.out w3 hO3.out
    subst hV0
    go_wp2
    clear d0 d1 d2 d3 d4 d5 d6 d7 d8 d9 dl
    go_loopw [4, 5, 6, 7, 8, 15] (fun u4 u5 _ _ _ i wr => ∃ k : Nat, i = .int .i64 k ∧ k ≤ tn ∧ u4 = U (us k).1 ∧ u5 = U (us k).2 ∧ Hid (Only (fun _ => False) w3 wr)) (fun _ _ _ _ _ i _ => tn - (intOf i).toNat)
    case atStart => exact ⟨0, rfl, Nat.zero_le _, by rw [hU0.out]; rfl, by rw [hU0.out]; rfl, Lib.hid (Only.refl _ _)⟩
    case round =>
      obtain ⟨k, rfl, hk, rfl, rfl, hO⟩ := hrel
      obtain ⟨ws, hws⟩ : ∃ ws : World, ws = wr := ⟨_, rfl⟩
      subst hws
      have hOs := Lib.hid (hO3.out.trans' hO.out)
      obtain ⟨a, ha⟩ : ∃ a, a = (us k).1 := ⟨_, rfl⟩
      obtain ⟨b, hb⟩ : ∃ b, b = (us k).2 := ⟨_, rfl⟩
      rw [← ha, ← hb]
      by_cases hkn : k < tn
      · have hkn' : (k : Int) < tn := by omega
        obtain ⟨tb, toff, t, rfl, htb, hCe, hpe⟩ := hta.out ws hOs.out k hkn
        obtain ⟨hc9, hpe2, hp9⟩ := hc2.out k hkn
        have hU := hUs.out k
        obtain ⟨hU1, hU2⟩ := hU9.out k
        rw [← ha] at hU1
        rw [← hb] at hU2
        rw [← ha, ← hb] at hU
        have qof := Lib.hid (fun W => satOf_any t.pe W)
        rw [show ofU t.pe = pf k from by rw [← hpe]; exact hpe2] at qof
        have qw := Lib.hid (fun W (ho : Only (fun _ => False) W2 W) => cw.out W ho k hkn)
        obtain ⟨C, hCf⟩ : ∃ C, C = cf k := ⟨_, rfl⟩
        obtain ⟨Q, hQ⟩ : ∃ Q, Q = pf k := ⟨_, rfl⟩
        rw [← hCf] at qw hU hc9
        rw [← hQ] at qof hU hp9
        have m1 := Lib.hid (fun W => Bch.mul_any a Q W hU1 hp9)
        have m2 := Lib.hid (fun W => Bch.mul_any C b W hc9 hU2)
        have m3 := Lib.hid (fun W => Bch.add_any (sM a Q) (sM C b) W (sM_le _ _) (sM_le _ _))
        have m4 := Lib.hid (fun W => Bch.mul_any b Q W hU2 hp9)
        obtain ⟨X1, hX1⟩ : ∃ X, X = sM a Q := ⟨_, rfl⟩
        obtain ⟨X2, hX2⟩ : ∃ X, X = sM C b := ⟨_, rfl⟩
        obtain ⟨X3, hX3⟩ : ∃ X, X = sA X1 X2 := ⟨_, rfl⟩
        obtain ⟨X4, hX4⟩ : ∃ X, X = sM b Q := ⟨_, rfl⟩
        rw [← hX1] at m1 m3 hU
        rw [← hX2] at m2 m3 hU
        rw [← hX3] at m3 hU
        rw [← hX4] at m4 hU
        have hU' := Lib.hid hU
        obtain ⟨f0, f1, f2, f3, f4, f5, f6⟩ := hCe
        obtain ⟨tp, tth, tpe, tde, tfr, tfl, ⟨oA, on, oc⟩⟩ := t
        dsimp only at f0 f1 f2 f3 f4 f5 f6 qof
        clear ha hb hpe hpe2 hU hCf hQ hX1 hX2 hX3 hX4 hU1 hU2 hc9 hp9
        obtain ⟨d0, d1, d2, d3, d4, d5, d6, d7, d8, d9, dl⟩ := hcy.out ws hOs.out
        go_upto_region 7 with fail
        obtain ⟨Y, hY⟩ : ∃ Y, Y = ws.heap.size := ⟨_, rfl⟩
        obtain ⟨w6, hw6⟩ : ∃ w6, w6 = ws.alloc (.cells #[.int .i64 tp, .int .i64 tth, .int .i64 tpe, .int .i64 tde, .int .i64 tfr, .int .i64 tfl, .slice oA on oc] 49) := ⟨_, rfl⟩
        rw [← hw6, ← hY]
        have hY6 := Lib.hid (show w6.heap[Y]? = some (.cells ([.int .i64 tp, .int .i64 tth, .int .i64 tpe, .int .i64 tde, .int .i64 tfr, .int .i64 tfl, .slice oA on oc]).toArray 49 (0, 0)) from by rw [hw6]; exact heap_new_at _ _ hY.symm)
        have hp6 := Lib.hid (show Only (fun _ => False) ws w6 from by rw [hw6]; exact (Only.refl _ _).alloc _)
        have hO6 := Lib.hid (hOs.out.trans' hp6.out)
        clear hY hw6 f0 f1 f2 f3 f4 f5 f6 htb d0 d1 d2 d3 d4 d5 d6 d7 d8 d9 dl
        have y2 := row_cell hY6.out (i := 2) rfl
        have yl := row_lt hY6.out
        go_wp2_with fail
        refine (qof.out _).mono ?_
        rintro e w7 ⟨rfl, hw7⟩
        subst hw7
        clear y2 yl
        obtain ⟨d0, d1, d2, d3, d4, d5, d6, d7, d8, d9, dl⟩ := hcy.out w7 hO6.out
        have p0 := wd_cell d0
        have p1 := wd_cell d1
        have p2 := wd_cell d2
        have p3 := wd_cell d3
        have p4 := wd_cell d4
        have p5 := wd_cell d5
        have p6 := wd_cell d6
        have p7 := wd_cell d7
        have p8 := wd_cell d8
        have p9 := wd_cell d9
        have hex := wd_ex w7
        have n1 := Lib.hid (fun (x : Wd w7) => Calls.wd_same (x := x) ((m1.out x.W).mono fun _ _ h => ⟨h.1, h.2.symm⟩))
        have n2 := Lib.hid (fun (x : Wd w7) => Calls.wd_same (x := x) ((m2.out x.W).mono fun _ _ h => ⟨h.1, h.2.symm⟩))
        have n3 := Lib.hid (fun (x : Wd w7) => Calls.wd_same (x := x) ((m3.out x.W).mono fun _ _ h => ⟨h.1, h.2.symm⟩))
        have n4 := Lib.hid (fun (x : Wd w7) => Calls.wd (x := x) (qw.out x.W (hO6.out.trans' x.ok)))
        go_wp2_with fail
        refine wp_region_wd (by kernel_rfl) (by kernel_rfl) ?_
        repeat (go_big_quiet_step (first | (go_at_call 47; first | with_reducible exact n1.out _ | with_reducible exact n2.out _) | (go_at_call 46; with_reducible exact n3.out _) | (go_at_call 48; with_reducible exact n4.out _)))
        refine wpQuiet_nil ?_
        rintro _ ⟨v, rfl⟩
        have hO8 := Lib.hid (hO.out.trans' (hp6.out.trans' v.ok))
        obtain ⟨w8, hw8⟩ : ∃ w8, w8 = v.W := ⟨_, rfl⟩
        rw [← hw8] at hO8 ⊢
        clear hw8 hex n1 n2 n3 n4 p0 p1 p2 p3 p4 p5 p6 p7 p8 p9 d0 d1 d2 d3 d4 d5 d6 d7 d8 d9 dl
        go_wp2_with fail
        refine (m4.out _).mono ?_
        rintro e w9 ⟨rfl, hw9⟩
        subst hw9
        go_wp2
        go_roundw
        case rel => exact ⟨k + 1, by go_num, by omega, by rw [hU'.out], by rw [hU'.out], hO8⟩
        case measure => simp [intOf]; omega
      · obtain rfl : k = tn := by omega
        have hf := Lib.hid (hf2.out ws hOs.out)
        rw [← ha, ← hb] at hf
        clear ha hb
        go_wp2
        exact hf.out
  · have hf0 := Lib.hid (hfin0.out hV0)
    have hVne : (V == 0) = false := by simpa using hV0
    have hVne2 : (V != 0) = true := by simpa using hV0
    have hf := Lib.hid (hf0.out w3 hO3.out)
    clear hV0
    go_wp2
    exact hf.out
end Adm
end Go.Proofs.YtlbinlhaejhobaaGreatDoor
