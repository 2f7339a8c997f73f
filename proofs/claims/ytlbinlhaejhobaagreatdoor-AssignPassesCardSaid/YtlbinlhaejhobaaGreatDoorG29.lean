/- assign: few and fixed, walked. Written by mkf29.py. -/
import Derived.Test.YtlbinlhaejhobaaGreatDoorF29
namespace Go.Proofs.YtlbinlhaejhobaaGreatDoor
namespace Twn
open Go Go.RowKit Krn Asn Pre Adm

set_option maxRecDepth 100000 in
set_option maxHeartbeats 8000000 in
theorem few29_any {w : World} {c : ConfV} {d : ConfL} {pl : Tks} (hC : ConfIn w c d pl) :
    Calls Tryz.prog 25 #[c.val] w (FewEnd c pl w) := by
  obtain ⟨q, hq⟩ : ∃ q, q = w.heap.size := ⟨_, rfl⟩
  obtain ⟨W2, hW2⟩ : ∃ W2, W2 = w.alloc (.cells c.cells.toArray 27) := ⟨_, rfl⟩
  have hO2 : Only (fun _ => False) w W2 := by rw [hW2]; exact (Only.refl _ w).alloc _
  have b0 : W2.heap[q]? = some (.cells c.cells.toArray 27 (0, 0)) := by rw [hW2]; exact heap_new_at _ _ hq.symm
  have hs2 : W2.heap.size = q + 1 := by rw [hW2, hq]; simp
  have hq' := Lib.hid hq
  have hcy := Lib.hid (fun W (ho : Only (fun _ => False) W2 W) => cyv_of (ho.heap b0 (fun h => h)))
  obtain ⟨cv, hcv⟩ : ∃ cv, cv = c.val := ⟨_, rfl⟩
  obtain ⟨F, hF⟩ : ∃ F, F = fewB c pl.ts := ⟨_, rfl⟩
  have kfe := Lib.hid (show Calls Tryz.prog 11 #[cv] W2 (GrowB F W2) from by rw [hcv, hF]; exact (hC.new hO2).few)
  have ksh := Lib.hid (fun (h : F = true) W (ho : Only (fun _ => False) W2 W) => show Calls Tryz.prog 16 #[cv] W (ShEnd pl W) from by
    rw [hcv]
    exact rshort_any (hC.new (hO2.trans' ho)) (by have := (hC.small (by rw [← hF]; exact h)).2.2.2.1; omega))
  obtain ⟨Z, hZ⟩ : ∃ Z, Z = FewEnd c pl w := ⟨_, rfl⟩
  rw [← hZ]
  have hno := Lib.hid (fun W (ho : Only (fun _ => False) W2 W) => show Z (.returned (.bool false)) W from by rw [hZ]; exact ⟨false, rfl, fun h => (by cases h), hO2.trans' ho⟩)
  have hyes := Lib.hid (fun (h : F = true) W (ho : Only (fun _ => False) W2 W) b (hb : b = true → ∀ (i : Nat) t, pl.ts[i]? = some t → t.pe ≤ 1500) => show Z (.returned (.bool b)) W from by rw [hZ]; exact ⟨b, rfl, fun e => ⟨by rw [← hF]; exact h, hb e⟩, hO2.trans' ho⟩)
  rw [← hcv]
  unfold ConfV.val at hcv
  subst hcv
  unfold CYv at hcy
  unfold ConfV.cells at hW2
  have hW2' := Lib.hid hW2
  have hs2' := Lib.hid hs2
  clear hC hq hO2 b0 hW2 hs2 hF hZ
  obtain ⟨c0, wy, h, mi, ⟨mA, mn, mc⟩, g, ⟨cA, cn, cc⟩, ⟨eA, en, ec⟩, ⟨tA, tn, tc⟩, ⟨lA, ln, lc⟩⟩ := c
  dsimp only at *
  obtain ⟨d0, d1, d2, d3, d4, d5, d6, d7, d8, d9, dl⟩ := hcy.out W2 (Only.refl _ _)
  go_enter Tryz.func25, Tryz.ntmps25
  go_upto_region 1 with fail
  rw [← hq'.out]
  rw [← hW2'.out]
  go_wp2_with fail
  refine kfe.out.mono ?_
  rintro e w3 ⟨rfl, ho⟩
  have hO3 := Lib.hid ho
  clear ho d0 d1 d2 d3 d4 d5 d6 d7 d8 d9 dl
  obtain ⟨d0, d1, d2, d3, d4, d5, d6, d7, d8, d9, dl⟩ := hcy.out w3 hO3.out
  cases F with
  | false =>
    have hf := Lib.hid (hno.out w3 hO3.out)
    go_wp2
    exact hf.out
  | true =>
    have ks := Lib.hid (ksh.out rfl w3 hO3.out)
    have hy := Lib.hid (hyes.out rfl)
    clear ksh hyes kfe
    by_cases hg1 : g < 1000
    · by_cases hg2 : -1000 < g
      · go_wp2_with fail
        refine ks.out.mono ?_
        rintro e w4 ⟨b, rfl, hb, ho⟩
        have hf := Lib.hid (hy.out w4 (hO3.out.trans' ho) b hb)
        clear ho hb hg1 hg2 d0 d1 d2 d3 d4 d5 d6 d7 d8 d9 dl
        go_wp2
        exact hf.out
      · have hf := Lib.hid (hno.out w3 hO3.out)
        go_wp2
        exact hf.out
    · have hf := Lib.hid (hno.out w3 hO3.out)
      go_wp2
      exact hf.out
set_option maxRecDepth 100000 in
set_option maxHeartbeats 8000000 in
theorem fixed29_any {w : World} (hw : Words w) : Calls Tryz.prog 24 #[] w (GrowB true w) := by
  obtain ⟨Z, hZ⟩ : ∃ Z, Z = GrowB true w := ⟨_, rfl⟩
  rw [← hZ]
  have hfin := Lib.hid (fun W (ho : Only (fun _ => False) w W) => show Z (.returned (.bool true)) W from by rw [hZ]; exact ⟨rfl, ho⟩)
  have hwd := Lib.hid (fun W (ho : Only (fun _ => False) w W) => hw.new ho)
  clear hZ hw
  go_enter Tryz.func24, Tryz.ntmps24
  go_wp2_with fail
  refine (one29_any w).mono ?_
  rintro e w1 ⟨X1, rfl, hx1, ho1, hp1, ho⟩
  have hO1 := Lib.hid ho
  have qa := Lib.hid (o_srch (hwd.out w1 ho) (o_in ho1 hp1))
  unfold oV at qa
  clear ho hx1 ho1 hp1
  go_wp2_with fail
  refine qa.out.mono ?_
  rintro e w2 ⟨g, off, cap, rfl, hc, ho⟩
  have hO2 := Lib.hid (hO1.out.trans' ho)
  have hc' := Lib.hid hc
  clear ho hc qa hO1
  go_wp2_with fail
  refine (one29_any w2).mono ?_
  rintro e w4 ⟨X2, rfl, hx2, ho2, hp2, ho⟩
  have hO34 := Lib.hid ho
  have ho2' := Lib.hid ho2
  have hp2' := Lib.hid hp2
  have hx2' := Lib.hid hx2
  clear ho ho2 hp2 hx2
  go_upto_region 3 with fail
  obtain ⟨B3, hB3e⟩ : ∃ B, B = w4.heap.size := ⟨_, rfl⟩
  obtain ⟨w5, hw5⟩ : ∃ w5, w5 = w4.alloc (.cells #[.int .i64 1, .int .i64 1, .int .i64 1, .int .i64 5, .slice none 0 0, .int .i64 0, .slice none 0 0, .slice none 0 0, .slice (some ⟨X2 + 1, 0, none⟩) 1 1, .slice none 0 0] 27) := ⟨_, rfl⟩
  rw [← hw5, ← hB3e]
  have hC5 := Lib.hid (show w5.heap[B3]? = some (.cells [.int .i64 1, .int .i64 1, .int .i64 1, .int .i64 5, .slice none 0 0, .int .i64 0, .slice none 0 0, .slice none 0 0, .slice (some ⟨X2 + 1, 0, none⟩) 1 1, .slice none 0 0].toArray 27 (0, 0)) from by rw [hw5]; exact heap_new_at _ _ hB3e.symm)
  have hp5 := Lib.hid (show Only (fun _ => False) w2 w5 from by rw [hw5]; exact hO34.out.alloc _)
  have ho5 := Lib.hid (show w5.heap[X2]? = some (.cells [.int .i64 1, .int .i64 5, .int .i64 0].toArray 90 (0, 0)) from by rw [hw5]; exact heap_kept_alloc ho2'.out _)
  have ht5 := Lib.hid (show w5.heap[X2 + 1]? = some (.cells (oT X2 1 10 0 1).cells.toArray 49 (0, 0)) from by rw [hw5]; exact heap_kept_alloc hp2'.out _)
  have hBX := Lib.hid (show X2 + 1 < B3 from by have := row_lt hp2'.out; omega)
  clear hw5 hB3e ho2' hp2' hO34
  have c8 := row_cell hC5.out (i := 8) rfl
  have cl := row_lt hC5.out
  have t3 := row_cell ht5.out (i := 3) rfl
  have tf := row_free ht5.out 3
  have tl := row_lt ht5.out
  go_upto_region 4 with fail
  obtain ⟨w6, hw6⟩ : ∃ w6, w6 = w5.setCell ⟨X2 + 1, 3, none⟩ (.int .i64 4) := ⟨_, rfl⟩
  rw [← hw6]
  have hC6 := Lib.hid (show w6.heap[B3]? = some (.cells [.int .i64 1, .int .i64 1, .int .i64 1, .int .i64 5, .slice none 0 0, .int .i64 0, .slice none 0 0, .slice none 0 0, .slice (some ⟨X2 + 1, 0, none⟩) 1 1, .slice none 0 0].toArray 27 (0, 0)) from by rw [hw6]; exact heap_kept_set hC5.out (by have := hBX.out; dsimp only; omega) _)
  have hI6 := Lib.hid (show ConfIn w6 (oC X2) oD (oP X2 1 4) from o_in (by rw [hw6]; exact heap_kept_set ho5.out (by dsimp only; omega) _) (by rw [hw6]; exact row_set ht5.out 3 _))
  have hp6 := Lib.hid (show Only (fun _ => False) w2 w6 from by rw [hw6]; exact hp5.out.setCell (p := ⟨X2 + 1, 3, none⟩) (fun h => by have := hx2'.out; dsimp only at h; omega) _)
  have hO6 := Lib.hid (hO2.out.trans' hp6.out)
  clear hw6 c8 cl t3 tf tl hC5 hp5 ho5 ht5
  have d0 := row_cell hC6.out (i := 0) rfl
  have d1 := row_cell hC6.out (i := 1) rfl
  have d2 := row_cell hC6.out (i := 2) rfl
  have d3 := row_cell hC6.out (i := 3) rfl
  have d4 := row_cell hC6.out (i := 4) rfl
  have d5 := row_cell hC6.out (i := 5) rfl
  have d6 := row_cell hC6.out (i := 6) rfl
  have d7 := row_cell hC6.out (i := 7) rfl
  have d8 := row_cell hC6.out (i := 8) rfl
  have d9 := row_cell hC6.out (i := 9) rfl
  have dl := row_lt hC6.out
  have qb := Lib.hid (o_srch4 (hwd.out w6 hO6.out) hI6.out)
  unfold oV at qb
  go_wp2_with fail
  refine qb.out.mono ?_
  rintro e w7 ⟨rfl, ho⟩
  have hp7 := Lib.hid ho
  have hC7 := Lib.hid (ho.heap hC6.out (fun h => h))
  clear ho qb d0 d1 d2 d3 d4 d5 d6 d7 d8 d9 dl
  have d0 := row_cell hC7.out (i := 0) rfl
  have d1 := row_cell hC7.out (i := 1) rfl
  have d2 := row_cell hC7.out (i := 2) rfl
  have d3 := row_cell hC7.out (i := 3) rfl
  have d4 := row_cell hC7.out (i := 4) rfl
  have d5 := row_cell hC7.out (i := 5) rfl
  have d6 := row_cell hC7.out (i := 6) rfl
  have d7 := row_cell hC7.out (i := 7) rfl
  have d8 := row_cell hC7.out (i := 8) rfl
  have d9 := row_cell hC7.out (i := 9) rfl
  have dl := row_lt hC7.out
  have qc := Lib.hid (o_with (hwd.out w7 (hO6.out.trans' hp7.out)) (hI6.out.new hp7.out))
  unfold oV at qc
  go_wp2_with fail
  refine qc.out.mono ?_
  rintro e w8 ⟨rfl, ho⟩
  have hp8 := Lib.hid (hp7.out.trans' ho)
  clear ho qc d0 d1 d2 d3 d4 d5 d6 d7 d8 d9 dl hC7
  go_upto_region 6 with fail
  obtain ⟨w9, hw9⟩ : ∃ w9, w9 = w8.alloc (.cells #[.int .i64 0, .int .i64 0, .int .i64 0, .int .i64 0, .slice none 0 0, .int .i64 0, .slice none 0 0, .slice none 0 0, .slice none 0 0, .slice none 0 0] 27) := ⟨_, rfl⟩
  rw [← hw9]
  have hp9 := Lib.hid (show Only (fun _ => False) w6 w9 from by rw [hw9]; exact hp8.out.alloc _)
  clear hw9 hp8 hp7
  obtain ⟨cc, ccl⟩ := hc'.out w9 (hp6.out.trans' hp9.out)
  go_wp2_with fail
  refine (one29_any w9).mono ?_
  rintro e wa ⟨X3, rfl, -, ho3, hp3, ho⟩
  have hpa := Lib.hid (hp9.out.trans' ho)
  have hIa := Lib.hid (o_in ho3 hp3)
  clear ho ho3 hp3 cc ccl hp9
  have qd := Lib.hid (fun B W (ho : Only (fun _ => False) wa W) hb => o_pasC (B := B) (z := 9) (hwd.out W (hO6.out.trans' (hpa.out.trans' ho))) (hIa.out.new ho) hb (o_pas9 X3))
  unfold oV at qd
  go_wp2_with fail
  refine (qd.out _ _ ((Only.refl _ _).alloc _) (heap_new_at _ _ rfl)).mono ?_
  rintro e wb ⟨rfl, ho⟩
  have hpb := Lib.hid (hpa.out.trans' (((Only.refl _ _).alloc _).trans' ho))
  clear ho qd hIa
  go_wp2_with fail
  refine (one29_any wb).mono ?_
  rintro e wc ⟨X4, rfl, -, ho3, hp3, ho⟩
  have hpc := Lib.hid (hpb.out.trans' ho)
  have hIc := Lib.hid (o_in ho3 hp3)
  clear ho ho3 hp3
  have qe := Lib.hid (fun B W (ho : Only (fun _ => False) wc W) hb => o_pasC (B := B) (z := 0) (hwd.out W (hO6.out.trans' (hpc.out.trans' ho))) (hIc.out.new ho) hb (o_pas0 X4))
  unfold oV at qe
  go_wp2_with fail
  refine (qe.out _ _ ((Only.refl _ _).alloc _) (heap_new_at _ _ rfl)).mono ?_
  rintro e wd ⟨rfl, ho⟩
  have hpd := Lib.hid (hpc.out.trans' (((Only.refl _ _).alloc _).trans' ho))
  clear ho qe hIc
  go_wp2_with fail
  refine (one29_any wd).mono ?_
  rintro e we ⟨X5, rfl, -, ho3, hp3, ho⟩
  have hpe := Lib.hid (hpd.out.trans' ho)
  have qf := Lib.hid (o_try (hwd.out we (hO6.out.trans' hpe.out)) (o_in ho3 hp3))
  unfold oV at qf
  clear ho ho3 hp3
  go_wp2_with fail
  refine qf.out.mono ?_
  rintro e wf ⟨rfl, ho⟩
  have hf := Lib.hid (hfin.out wf (hO6.out.trans' (hpe.out.trans' ho)))
  clear ho qf
  go_wp2
  exact hf.out
end Twn
end Go.Proofs.YtlbinlhaejhobaaGreatDoor
