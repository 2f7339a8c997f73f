/- SectionFalls' walk. -/
import Derived.Test.YteeleelkepjoaaaFix24b
namespace Go.Proofs.Yteeleelkepjoaaa
namespace Sct
open Go Go.RowKit Lin Lck Cst Srt

set_option maxRecDepth 100000 in
set_option maxHeartbeats 8000000 in
theorem falls_any {w : World} {c : ConfV} {d : ConfL} {pl : Tks} (hC : ConfIn w c d pl) (hcn : c.ce.n ≤ 9223372036854775807) (b0 : Nat) (hb0 : b0 ≤ 255) (lo hi : Int) :
    Calls Try.prog 5 #[c.val, .int .u8 b0, .int .i64 lo, .int .i64 hi] w (GrowB true w) := by
  have hO := (Only.refl (fun _ => False) w).alloc (.cells c.cells.toArray 27)
  have hB := heap_new_at w (.cells c.cells.toArray 27) rfl
  obtain ⟨W1, hW1⟩ : ∃ W1, W1 = w.alloc (.cells c.cells.toArray 27) := ⟨_, rfl⟩
  rw [← hW1] at hB hO
  have hB' := Lib.hid hB
  have hO' := Lib.hid hO
  have hfew := Lib.hid (fun W (h : Only (fun _ => False) w W) => few24_any (hC.new h) hcn)
  have hCi := Lib.hid (fun W (h : Only (fun _ => False) w W) => hC.new h)
  have hlen' := Lib.hid (show pl.length = c.ta.n by have := hC.t.len; unfold Tks.ts at this; simpa using this)
  have htn9 := hC.n
  have hlon := Lib.hid (fun W (h : Only (fun _ => False) w W) (hf : fewB c pl.ts = true) (i : Nat) (t : TaskV) (l : List Opn) (hi : pl[i]? = some (t, l)) (h9 : l.length ≤ 1000) (lev : Int) => longest_any (hC.new h) (by have := (hC.small hf).2.2.1; omega) hi h9 (by have := (hC.small hf).2.2.2.1; omega) lev)
  obtain ⟨q, hqq⟩ : ∃ q, q = w.heap.size := ⟨_, rfl⟩
  have hqq' := Lib.hid hqq
  rw [← hqq] at hB'
  clear hO hB hqq hC
  rw [show c.val = .agg #[.int .i64 c.s, .int .i64 c.wy, .int .i64 c.h, .int .i64 c.mi, .slice c.mb.A c.mb.n c.mb.cap, .int .i64 c.g, .slice c.cn.A c.cn.n c.cn.cap, .slice c.ce.A c.ce.n c.ce.cap, .slice c.ta.A c.ta.n c.ta.cap, .slice c.li.A c.li.n c.li.cap] from rfl] at hfew hlon ⊢
  unfold ConfV.cells at hW1 hB'
  obtain ⟨s, wy, h, mi, ⟨mA, mn, mc⟩, g, ⟨cA, cn, cc⟩, ⟨eA, en, ec⟩, ⟨tA, tn, tc⟩, ⟨lA, ln, lc⟩⟩ := c
  dsimp only at *
  have hW1' := Lib.hid hW1
  clear hW1
  go_enter Try.func5, Try.ntmps5
  go_wp2_with fail
  rw [← hqq'.out, ← hW1'.out]
  go_wp2_with fail
  refine (fixed24_any _).mono ?_
  rintro e w2 ⟨rfl, hO2⟩
  have hO2' := Lib.hid (hO'.out.trans' hO2)
  have hB2 := Lib.hid (hO2.heap hB'.out (fun h => h))
  clear hO2 hO' hB' hW1'
  have hkeep := Lib.hid (fun W0 (h0 : Only (fun _ => False) w2 W0) => show W0.cell? ⟨q, 0, none⟩ = some (.int .i64 s) ∧ W0.cell? ⟨q, 1, none⟩ = some (.int .i64 wy) ∧ W0.cell? ⟨q, 2, none⟩ = some (.int .i64 h) ∧ W0.cell? ⟨q, 3, none⟩ = some (.int .i64 mi) ∧ W0.cell? ⟨q, 4, none⟩ = some (.slice mA mn mc) ∧ W0.cell? ⟨q, 5, none⟩ = some (.int .i64 g) ∧ W0.cell? ⟨q, 6, none⟩ = some (.slice cA cn cc) ∧ W0.cell? ⟨q, 7, none⟩ = some (.slice eA en ec) ∧ W0.cell? ⟨q, 8, none⟩ = some (.slice tA tn tc) ∧ W0.cell? ⟨q, 9, none⟩ = some (.slice lA ln lc) ∧ q < W0.heap.size from by
    have z := h0.heap hB2.out (fun h => h)
    exact ⟨row_cell z (i := 0) rfl, row_cell z (i := 1) rfl, row_cell z (i := 2) rfl, row_cell z (i := 3) rfl, row_cell z (i := 4) rfl, row_cell z (i := 5) rfl, row_cell z (i := 6) rfl, row_cell z (i := 7) rfl, row_cell z (i := 8) rfl, row_cell z (i := 9) rfl, row_lt z⟩)
  obtain ⟨e0, e1, e2, e3, e4, e5, e6, e7, e8, e9, hqlt⟩ := hkeep.out _ (Only.refl _ _)
  go_wp2_with fail
  refine (hfew.out _ hO2'.out).mono ?_
  rintro e w3 ⟨F, rfl, hF, hO3⟩
  have hO3' := Lib.hid (hO2'.out.trans' hO3)
  have hO23 := Lib.hid hO3
  have hF' := Lib.hid hF
  clear hO3 hF e0 e1 e2 e3 e4 e5 e6 e7 e8 e9 hqlt hfew
  obtain ⟨e0, e1, e2, e3, e4, e5, e6, e7, e8, e9, hqlt⟩ := hkeep.out _ hO23.out
  cases F
  · go_wp2
    go_ret
    exact ⟨rfl, hO3'.out⟩
  have hfo := Lib.hid (hF'.out rfl)
  clear hF'
  by_cases hn0 : tn = 0
  · have hn1 : ((tn : Int) == 0) = true := by simp [hn0]
    clear hn0
    go_wp2
    go_ret
    exact ⟨rfl, hO3'.out⟩
  have hn1 : ((tn : Int) == 0) = false := by simp [hn0]
  obtain ⟨i, hi⟩ : ∃ i, i = b0 % tn := ⟨_, rfl⟩
  have hitn : i < tn := by rw [hi]; exact Nat.mod_lt _ (by omega)
  have hrem : (b0 : Int) % (tn : Int) = (i : Int) := by rw [hi]; simp
  have hitn' : (i : Int) < (tn : Int) := by omega
  have htn0 : (tn : Int) ≠ 0 := by omega
  obtain ⟨⟨t, l⟩, hpi⟩ : ∃ x, pl[i]? = some x := ⟨_, List.getElem?_eq_getElem (by have := hlen'.out; omega)⟩
  obtain ⟨hpA, hpn, hpc⟩ := (hCi.out _ hO3'.out).p i t l hpi
  obtain ⟨⟨hth1, hth2⟩, hon⟩ := hfo.out.ta i t (ts_some hpi)
  obtain ⟨tb, toff, htA, htb, htC⟩ := (hCi.out _ hO3'.out).t.at_ i t (ts_some hpi)
  have hl40 : l.length ≤ 40 := by omega
  have hrow := Lib.hid hpA
  have hlon2 := Lib.hid (fun W (h : Only (fun _ => False) w W) (lev : Int) => hlon.out W h hfo.out.fe i t l hpi (by omega) lev)
  obtain ⟨LF, hLF⟩ : ∃ LF : Int → Int, LF = fun lev => lonZ t.th (ceZ d.ce) en l h mi lev := ⟨_, rfl⟩
  have hlon3 := Lib.hid (fun W (h : Only (fun _ => False) w W) (lev : Int) => (hlon2.out W h lev).mono (R' := GrowI (LF lev) W) (fun e w' hh => by rw [hLF]; exact hh))
  have hfall := Lib.hid (fun (a b : Int) (h : a ≤ b) => show LF b ≤ LF a from by rw [hLF]; exact lon_falls h)
  have hall : LF t.th = sumU (costK l h mi) t.o.n := by rw [hLF, ← hpn]; exact lon_all hth2
  have hnone : LF 65 = 0 := by rw [hLF]; exact lon_none hth2 hfo.out.ce
  have hpn' := Lib.hid hpn
  have hsum := Lib.hid (fun W (hw : Only (fun _ => False) w3 W) => rsum_any (cap := t.o.cap) (hpA.new hw) hpn (by omega) s wy h mi)
  rw [← hall] at hsum
  obtain ⟨c0, c1, c2, c3, c4, c5, c6⟩ := htC
  clear hi hpi hpA hpn hLF hall hlon hlon2 hfo hCi hn0
  subst htA
  obtain ⟨tp, th, tpe, tde, tfr, tfl, ⟨oA, on, oc⟩⟩ := t
  dsimp only at *
  obtain ⟨A, hA⟩ : ∃ A, A = LF th := ⟨_, rfl⟩
  rw [← hA] at hsum
  have hA2 : (LF th == A) = true := by rw [hA]; simp
  have hN2 : (LF 65 == 0) = true := by rw [hnone]; rfl
  have hkeep3 := Lib.hid (fun W0 (h0 : Only (fun _ => False) w3 W0) => hkeep.out W0 (hO23.out.trans' h0))
  clear hA hnone hkeep hO23 hB2
  by_cases hsw : hi < lo
  · have hsw' : ¬ lo ≤ hi := by omega
    have hle := hfall.out (hi) (lo) (by omega)
    go_upto_region 9 with fail
    generalize hw4 : w3.alloc (.cells #[.int .i64 tp, .int .i64 th, .int .i64 tpe, .int .i64 tde, .int .i64 tfr, .int .i64 tfl, .slice oA on oc] 36) = w4
    have hO34 := Lib.hid (show Only (fun _ => False) w3 w4 by rw [← hw4]; exact (Only.refl _ _).alloc _)
    obtain ⟨Y, hY⟩ : ∃ Y, Y = w3.heap.size := ⟨_, rfl⟩
    have hy4 := Lib.hid (show w4.heap[Y]? = some (.cells #[.int .i64 tp, .int .i64 th, .int .i64 tpe, .int .i64 tde, .int .i64 tfr, .int .i64 tfl, .slice oA on oc] 36 (0, 0)) by rw [← hw4]; exact heap_new_at _ _ hY.symm)
    rw [← hY]
    clear hw4 hY e0 e1 e2 e3 e4 e5 e6 e7 e8 e9 hqlt c0 c1 c2 c3 c4 c5 c6 htb
    obtain ⟨e0, e1, e2, e3, e4, e5, e6, e7, e8, e9, hqlt⟩ := hkeep3.out _ hO34.out
    have y6 := row_cell (L := [.int .i64 tp, .int .i64 th, .int .i64 tpe, .int .i64 tde, .int .i64 tfr, .int .i64 tfl, .slice oA on oc]) hy4.out (i := 6) rfl
    have hyl := row_lt hy4.out
    go_wp2_with fail
    refine (hsum.out _ hO34.out).mono ?_
    rintro e w5 ⟨rfl, hO5⟩
    have hO35 := Lib.hid (hO34.out.trans' hO5)
    have hy5 := Lib.hid (hO5.heap hy4.out (fun h => h))
    have hO5' := Lib.hid (hO3'.out.trans' hO35.out)
    have hlon5 := Lib.hid (fun W (h : Only (fun _ => False) w5 W) (lev : Int) => hlon3.out W (hO5'.out.trans' h) lev)
    clear hO5 hO34 hy4 e0 e1 e2 e3 e4 e5 e6 e7 e8 e9 hqlt y6 hyl hsum hfall
    have hk5 := Lib.hid (fun W0 (h0 : Only (fun _ => False) w5 W0) => show (W0.cell? ⟨q, 0, none⟩ = some (.int .i64 s) ∧ W0.cell? ⟨q, 1, none⟩ = some (.int .i64 wy) ∧ W0.cell? ⟨q, 2, none⟩ = some (.int .i64 h) ∧ W0.cell? ⟨q, 3, none⟩ = some (.int .i64 mi) ∧ W0.cell? ⟨q, 4, none⟩ = some (.slice mA mn mc) ∧ W0.cell? ⟨q, 5, none⟩ = some (.int .i64 g) ∧ W0.cell? ⟨q, 6, none⟩ = some (.slice cA cn cc) ∧ W0.cell? ⟨q, 7, none⟩ = some (.slice eA en ec) ∧ W0.cell? ⟨q, 8, none⟩ = some (.slice (some ⟨tb, toff, none⟩) tn tc) ∧ W0.cell? ⟨q, 9, none⟩ = some (.slice lA ln lc) ∧ W0.cell? ⟨Y, 1, none⟩ = some (.int .i64 th) ∧ q < W0.heap.size ∧ Y < W0.heap.size) from by
      obtain ⟨e0, e1, e2, e3, e4, e5, e6, e7, e8, e9, hqlt⟩ := hkeep3.out _ (hO35.out.trans' h0)
      have z := h0.heap hy5.out (fun h => h)
      exact ⟨e0, e1, e2, e3, e4, e5, e6, e7, e8, e9, row_cell (L := [.int .i64 tp, .int .i64 th, .int .i64 tpe, .int .i64 tde, .int .i64 tfr, .int .i64 tfl, .slice oA on oc]) z (i := 1) rfl, hqlt, row_lt z⟩)
    obtain ⟨e0, e1, e2, e3, e4, e5, e6, e7, e8, e9, y1, hqlt, hyl⟩ := hk5.out _ (Only.refl _ _)
    clear hkeep3
    go_wp2_with fail
    go_region_held3 (fun W0 => W0.cell? ⟨q, 0, none⟩ = some (.int .i64 s) ∧ W0.cell? ⟨q, 1, none⟩ = some (.int .i64 wy) ∧ W0.cell? ⟨q, 2, none⟩ = some (.int .i64 h) ∧ W0.cell? ⟨q, 3, none⟩ = some (.int .i64 mi) ∧ W0.cell? ⟨q, 4, none⟩ = some (.slice mA mn mc) ∧ W0.cell? ⟨q, 5, none⟩ = some (.int .i64 g) ∧ W0.cell? ⟨q, 6, none⟩ = some (.slice cA cn cc) ∧ W0.cell? ⟨q, 7, none⟩ = some (.slice eA en ec) ∧ W0.cell? ⟨q, 8, none⟩ = some (.slice (some ⟨tb, toff, none⟩) tn tc) ∧ W0.cell? ⟨q, 9, none⟩ = some (.slice lA ln lc) ∧ W0.cell? ⟨Y, 1, none⟩ = some (.int .i64 th) ∧ q < W0.heap.size ∧ Y < W0.heap.size)
      (exact hk5.out _ (by repeat (first | assumption | exact Only.refl _ _ | apply Only.drew)))
      (first
        | (go_at_call 19; (with_reducible refine (hlon5.out _ (by repeat (first | assumption | exact Only.refl _ _ | apply Only.drew)) _).mono ?_); rintro _ w6 ⟨rfl, ho6⟩; have hO6 : Only (fun _ => False) w5 w6 := Only.trans' (by repeat (first | assumption | exact Only.refl _ _ | apply Only.drew)) ho6; clear ho6))
    all_goals
      go_wp2
      go_ret
      exact ⟨rfl, hO5'.out.trans' (by assumption)⟩
  · have hsw' : lo ≤ hi := by omega
    have hle := hfall.out (lo) (hi) (by omega)
    go_upto_region 9 with fail
    generalize hw4 : w3.alloc (.cells #[.int .i64 tp, .int .i64 th, .int .i64 tpe, .int .i64 tde, .int .i64 tfr, .int .i64 tfl, .slice oA on oc] 36) = w4
    have hO34 := Lib.hid (show Only (fun _ => False) w3 w4 by rw [← hw4]; exact (Only.refl _ _).alloc _)
    obtain ⟨Y, hY⟩ : ∃ Y, Y = w3.heap.size := ⟨_, rfl⟩
    have hy4 := Lib.hid (show w4.heap[Y]? = some (.cells #[.int .i64 tp, .int .i64 th, .int .i64 tpe, .int .i64 tde, .int .i64 tfr, .int .i64 tfl, .slice oA on oc] 36 (0, 0)) by rw [← hw4]; exact heap_new_at _ _ hY.symm)
    rw [← hY]
    clear hw4 hY e0 e1 e2 e3 e4 e5 e6 e7 e8 e9 hqlt c0 c1 c2 c3 c4 c5 c6 htb
    obtain ⟨e0, e1, e2, e3, e4, e5, e6, e7, e8, e9, hqlt⟩ := hkeep3.out _ hO34.out
    have y6 := row_cell (L := [.int .i64 tp, .int .i64 th, .int .i64 tpe, .int .i64 tde, .int .i64 tfr, .int .i64 tfl, .slice oA on oc]) hy4.out (i := 6) rfl
    have hyl := row_lt hy4.out
    go_wp2_with fail
    refine (hsum.out _ hO34.out).mono ?_
    rintro e w5 ⟨rfl, hO5⟩
    have hO35 := Lib.hid (hO34.out.trans' hO5)
    have hy5 := Lib.hid (hO5.heap hy4.out (fun h => h))
    have hO5' := Lib.hid (hO3'.out.trans' hO35.out)
    have hlon5 := Lib.hid (fun W (h : Only (fun _ => False) w5 W) (lev : Int) => hlon3.out W (hO5'.out.trans' h) lev)
    clear hO5 hO34 hy4 e0 e1 e2 e3 e4 e5 e6 e7 e8 e9 hqlt y6 hyl hsum hfall
    have hk5 := Lib.hid (fun W0 (h0 : Only (fun _ => False) w5 W0) => show (W0.cell? ⟨q, 0, none⟩ = some (.int .i64 s) ∧ W0.cell? ⟨q, 1, none⟩ = some (.int .i64 wy) ∧ W0.cell? ⟨q, 2, none⟩ = some (.int .i64 h) ∧ W0.cell? ⟨q, 3, none⟩ = some (.int .i64 mi) ∧ W0.cell? ⟨q, 4, none⟩ = some (.slice mA mn mc) ∧ W0.cell? ⟨q, 5, none⟩ = some (.int .i64 g) ∧ W0.cell? ⟨q, 6, none⟩ = some (.slice cA cn cc) ∧ W0.cell? ⟨q, 7, none⟩ = some (.slice eA en ec) ∧ W0.cell? ⟨q, 8, none⟩ = some (.slice (some ⟨tb, toff, none⟩) tn tc) ∧ W0.cell? ⟨q, 9, none⟩ = some (.slice lA ln lc) ∧ W0.cell? ⟨Y, 1, none⟩ = some (.int .i64 th) ∧ q < W0.heap.size ∧ Y < W0.heap.size) from by
      obtain ⟨e0, e1, e2, e3, e4, e5, e6, e7, e8, e9, hqlt⟩ := hkeep3.out _ (hO35.out.trans' h0)
      have z := h0.heap hy5.out (fun h => h)
      exact ⟨e0, e1, e2, e3, e4, e5, e6, e7, e8, e9, row_cell (L := [.int .i64 tp, .int .i64 th, .int .i64 tpe, .int .i64 tde, .int .i64 tfr, .int .i64 tfl, .slice oA on oc]) z (i := 1) rfl, hqlt, row_lt z⟩)
    obtain ⟨e0, e1, e2, e3, e4, e5, e6, e7, e8, e9, y1, hqlt, hyl⟩ := hk5.out _ (Only.refl _ _)
    clear hkeep3
    go_wp2_with fail
    go_region_held3 (fun W0 => W0.cell? ⟨q, 0, none⟩ = some (.int .i64 s) ∧ W0.cell? ⟨q, 1, none⟩ = some (.int .i64 wy) ∧ W0.cell? ⟨q, 2, none⟩ = some (.int .i64 h) ∧ W0.cell? ⟨q, 3, none⟩ = some (.int .i64 mi) ∧ W0.cell? ⟨q, 4, none⟩ = some (.slice mA mn mc) ∧ W0.cell? ⟨q, 5, none⟩ = some (.int .i64 g) ∧ W0.cell? ⟨q, 6, none⟩ = some (.slice cA cn cc) ∧ W0.cell? ⟨q, 7, none⟩ = some (.slice eA en ec) ∧ W0.cell? ⟨q, 8, none⟩ = some (.slice (some ⟨tb, toff, none⟩) tn tc) ∧ W0.cell? ⟨q, 9, none⟩ = some (.slice lA ln lc) ∧ W0.cell? ⟨Y, 1, none⟩ = some (.int .i64 th) ∧ q < W0.heap.size ∧ Y < W0.heap.size)
      (exact hk5.out _ (by repeat (first | assumption | exact Only.refl _ _ | apply Only.drew)))
      (first
        | (go_at_call 19; (with_reducible refine (hlon5.out _ (by repeat (first | assumption | exact Only.refl _ _ | apply Only.drew)) _).mono ?_); rintro _ w6 ⟨rfl, ho6⟩; have hO6 : Only (fun _ => False) w5 w6 := Only.trans' (by repeat (first | assumption | exact Only.refl _ _ | apply Only.drew)) ho6; clear ho6))
    all_goals
      go_wp2
      go_ret
      exact ⟨rfl, hO5'.out.trans' (by assumption)⟩
end Sct
end Go.Proofs.Yteeleelkepjoaaa
