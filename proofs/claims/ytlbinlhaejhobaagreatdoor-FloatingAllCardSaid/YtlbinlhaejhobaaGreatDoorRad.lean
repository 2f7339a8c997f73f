/- Whether a float passes, by the document: the law's own call. Written by mkrad.py. -/
import Derived.Test.YtlbinlhaejhobaaGreatDoorRps
namespace Go.Proofs.YtlbinlhaejhobaaGreatDoor
namespace Twn
open Go Go.RowKit Krn Asn Pre Adm
open Bch (GrowU)

set_option maxRecDepth 100000 in
set_option maxHeartbeats 8000000 in
theorem radmit_any {w : World} {c : ConfV} {d : ConfL} {pl : Tks} (h0 : Cf0 w c d pl) (hS : ∀ (i : Nat) t, pl.ts[i]? = some t → t.pe ≤ 1500) {i : Nat} (hi : i < c.ta.n) (x : Int) :
    Calls Tryz.prog 35 #[c.val, .int .i64 (i : Int), .int .i64 x] w (GrowB (passF c d pl i x) w) := by
  obtain ⟨q, hq⟩ : ∃ q, q = w.heap.size := ⟨_, rfl⟩
  obtain ⟨W2, hW2⟩ : ∃ W2, W2 = w.alloc (.cells c.cells.toArray 27) := ⟨_, rfl⟩
  have hO2 : Only (fun _ => False) w W2 := by rw [hW2]; exact (Only.refl _ w).alloc _
  have b0 : W2.heap[q]? = some (.cells c.cells.toArray 27 (0, 0)) := by rw [hW2]; exact heap_new_at _ _ hq.symm
  have hs2 : W2.heap.size = q + 1 := by rw [hW2, hq]; simp
  have hq' := Lib.hid hq
  have hcy := Lib.hid (fun W (ho : Only (fun _ => False) W2 W) => cyv_of (ho.heap b0 (fun h => h)))
  obtain ⟨cv, hcv⟩ : ∃ cv, cv = c.val := ⟨_, rfl⟩
  have hlen := h0.len
  have hn9 := h0.n
  have hts := Lib.hid (fun W (ho : Only (fun _ => False) W2 W) => tasks_src (h0.C.new (hO2.trans' ho)).t)
  have hxl := Lib.hid (show (rowC tkV pl).length = c.ta.n * 7 from by rw [rowC_len tkV_len, hlen])
  have hx1 := Lib.hid (rowCone tkV_one pl)
  have hid := Lib.hid (show chg (fun _ t => t) pl = pl from by
    refine List.ext_getElem? (fun i => ?_)
    rw [chg_at]
    cases pl[i]? <;> rfl)
  obtain ⟨RW, hRW⟩ : ∃ R, R = rowC tkV pl := ⟨_, rfl⟩
  rw [← hRW] at hts hxl hx1
  have hsh0 := Lib.hid (fun W3 W p cap2 hh (hW : Win W 49 7 (.slice p c.ta.n cap2) hh c.ta.n RW) (hg : ∀ g, hh = some g → W3.heap.size ≤ g) (ho : Only (fun _ => False) W3 W) => show ShAt W3 (fun _ t => t) c pl p cap2 hh W from ⟨by rw [hid.out, ← hRW]; exact hW, hg, ho⟩)
  obtain ⟨Z, hZ⟩ : ∃ Z, Z = GrowB (passF c d pl i x) w := ⟨_, rfl⟩
  rw [← hZ]
  have hno := Lib.hid (fun W (ho : Only (fun _ => False) W2 W) (hb : confZ c d (chg (flF i x) pl) ≠ 0) => show Z (.returned (.bool false)) W from by
    rw [hZ]
    refine ⟨?_, hO2.trans' ho⟩
    unfold passF admB
    simp [hb])
  obtain ⟨AV, hAV⟩ : ∃ b, b = admB c d (chg (flF i x) pl) := ⟨_, rfl⟩
  have hyes := Lib.hid (fun W (ho : Only (fun _ => False) W2 W) => show Z (.returned (.bool AV)) W from by
    rw [hZ]
    refine ⟨?_, hO2.trans' ho⟩
    unfold passF
    rw [← hAV])
  obtain ⟨V, hV⟩ : ∃ V, V = confZ c d (chg (flF i x) pl) := ⟨_, rfl⟩
  rw [← hV] at hno
  have hte := Lib.hid (fun W3 W p cap2 hh (h : ShAt W3 (flF i x) c pl p cap2 hh W) (ho3 : Only (fun _ => False) W2 W3) => show Calls Tryz.prog 14 #[(shC c p cap2).val] W (GrowI V W) ∧ (V = 0 → ∀ W4, Only (fun _ => False) W W4 → Calls Tryz.prog 17 #[(shC c p cap2).val] W4 (GrowB AV W4)) from by
    have hfo : ∀ j t, (flF i x j t).o = t.o := fun j t => by unfold flF; split <;> rfl
    rw [hV, hAV]
    exact ⟨(h.tells (h0.new hO2) (ho3.trans' h.only) (flF_keeps _ _) hfo hS).1, fun hz W4 ho4 => ((h.new ho4).tells (h0.new hO2) (ho3.trans' (h.new ho4).only) (flF_keeps _ _) hfo hS).2 hz⟩)
  have hth := Lib.hid (fun W3 W g off cap2 (h : ShAt W3 (fun _ t => t) c pl (some ⟨g, off, none⟩) cap2 (some g) W) => show ShAt W3 (flF i x) c pl (some ⟨g, off, none⟩) cap2 (some g) (W.setCell ⟨g, off + i * 7 + 5, none⟩ (.int .i64 x)) from by
    exact h.put hlen hi (fun t => { t with fl := x }) (.int .i64 x) (j := 5) (by omega) (fun _ _ => rfl))
  have hrow := Lib.hid (fun W3 W p cap2 hh (h : ShAt W3 (fun _ t => t) c pl p cap2 hh W) => h.row (k := i) (j := 5) hlen hi (by omega))
  have hsh := hsh0
  unfold shC at hte
  rw [← hcv]
  unfold ConfV.val at hcv
  subst hcv
  unfold CYv at hcy
  unfold ConfV.cells at hW2
  have hW2' := Lib.hid hW2
  have hs2' := Lib.hid hs2
  have hin : (i : Int) < (c.ta.n : Int) := by omega
  clear h0 hq hO2 b0 hW2 hs2 hlen hRW hZ hAV hV hS hsh0 hid
  obtain ⟨c0, wy, h, mi, ⟨mA, mn, mc⟩, g, ⟨cA, cn, cc⟩, ⟨eA, en, ec⟩, ⟨tA, tn, tc⟩, ⟨lA, ln, lc⟩⟩ := c
  dsimp only at *
  obtain ⟨d0, d1, d2, d3, d4, d5, d6, d7, d8, d9, dl⟩ := hcy.out W2 (Only.refl _ _)
  unfold ConfV.val at hte
  dsimp only at hte
  go_enter Tryz.func35, Tryz.ntmps35
  go_upto_region 1 with fail
  rw [← hq'.out]
  rw [← hW2'.out]
  go_upto_region 2 with fail
  clear d0 d1 d2 d3 d4 d5 d6 d7 d8 d9 dl
  obtain ⟨X, hX⟩ : ∃ X, X = W2.heap.size := ⟨_, rfl⟩
  obtain ⟨w3, hw3⟩ : ∃ W, W = W2.alloc (.cells #[.int .i64 c0, .int .i64 wy, .int .i64 h, .int .i64 mi, .slice mA mn mc, .int .i64 g, .slice cA cn cc, .slice eA en ec, .slice tA tn tc, .slice lA ln lc] 27) := ⟨_, rfl⟩
  rw [← hw3, ← hX]
  have hX3 : w3.heap[X]? = some (.cells ([.int .i64 c0, .int .i64 wy, .int .i64 h, .int .i64 mi, .slice mA mn mc, .int .i64 g, .slice cA cn cc, .slice eA en ec, .slice tA tn tc, .slice lA ln lc] : List Value).toArray 27 (0, 0)) := by rw [hw3, hX]; exact heap_new_at _ _ rfl
  have hO3 := Lib.hid (show Only (fun _ => False) W2 w3 from by rw [hw3]; exact (Only.refl _ _).alloc _)
  have hXs := Lib.hid (show X < w3.heap.size ∧ W2.heap.size ≤ X from ⟨row_lt hX3, by omega⟩)
  clear hw3 hX
  obtain ⟨d0, d1, d2, d3, d4, d5, d6, d7, d8, d9, dl⟩ := hcy.out w3 hO3.out
  have x8 := row_cell hX3 (i := 8) rfl
  have xf := row_free hX3 8
  have xl := row_lt hX3
  have hs3 := Lib.hid (hts.out (w3.alloc (.cells #[] 49)) (hO3.out.alloc _))
  have hX3' := Lib.hid hX3
  clear hX3 hts
  go_upto_region 3 with (at_builtin; refine wpList_append_win rfl _ _ 25 rfl 49 ztask 7 72 Tryz.underlying25 info63 rfl (by decide) rfl (Win.empty (w3.alloc (.cells #[] 49)) 49 7 (some ⟨w3.heap.size, 0, none⟩)) tA tn tc rfl RW hxl.out hs3.out hx1.out (by unfold maxLen; omega) (by omega) ?_; intro v' w4 h4 hW4 hO4 hh4; rw [Nat.zero_add, List.nil_append] at hW4; obtain ⟨pN, cN, hvN, -, -⟩ := hW4.out.form; subst hvN; have hO4' : Only (fun _ => False) w3 w4 := ((Only.refl (fun _ => False) w3).alloc (.cells #[] 49)).trans hO4.out (fun _ _ e => by cases e); have hX4 := hO4'.heap hX3'.out (fun h => h); have x8 := row_cell hX4 (i := 8) rfl; have xf := row_free hX4 8; have xl := row_lt hX4)
  obtain ⟨w5, hw5⟩ : ∃ W, W = w4.setCell ⟨X, 8, none⟩ (.slice pN tn cN) := ⟨_, rfl⟩
  rw [← hw5]
  have hX5 := Lib.hid (show w5.heap[X]? = some (.cells ([.int .i64 c0, .int .i64 wy, .int .i64 h, .int .i64 mi, .slice mA mn mc, .int .i64 g, .slice cA cn cc, .slice eA en ec, .slice pN tn cN, .slice lA ln lc] : List Value).toArray 27 (0, 0)) from by rw [hw5]; exact row_set hX4 8 _)
  have hg4 := Lib.hid (show ∀ g, h4 = some g → w3.heap.size ≤ g from fun g hg => by
    rcases hh4.out with e | ⟨g', e, hg'⟩
    · rw [e] at hg; cases hg
    · rw [e] at hg; cases hg; exact Nat.le_trans (Only.size (S := fun _ => False) ((Only.refl _ w3).alloc _)) hg')
  have hF5 := Lib.hid ((hsh.out W2 w4 pN cN h4 hW4.out (fun g hg => by have := hg4.out g hg; have := hXs.out; omega) (hO3.out.trans' hO4')).kept1 (show Only (fun k => k = X) w4 w5 from by rw [hw5]; exact (Only.refl (fun k => k = X) w4).setCell (p := ⟨X, 8, none⟩) (fun _ => rfl) _) (fun g hg => by have := hg4.out g hg; have := hXs.out; omega) hXs.out.2)
  clear hw5 hX4 x8 xf xl hW4 hO4 hO4' hh4 d0 d1 d2 d3 d4 d5 d6 d7 d8 d9 dl hs3 hX3' hsh hxl hx1
  obtain ⟨g2, off2, u2, htb, hA2, hg2, hgl, hcu, hfz⟩ := hrow.out _ _ _ _ _ hF5.out
  subst htb hA2
  have hF6 := Lib.hid (hth.out _ _ _ _ _ hF5.out)
  have hgX := hg4.out g2 rfl
  have x8 := row_cell hX5.out (i := 8) rfl
  have xl := row_lt hX5.out
  have hf5 := hfz (off2 + i * 7 + 5)
  clear hfz hg2
  go_upto_region 4 with fail
  obtain ⟨w6, hw6⟩ : ∃ W, W = w5.setCell ⟨g2, off2 + i * 7 + 5, none⟩ (.int .i64 x) := ⟨_, rfl⟩
  rw [← hw6] at hF6 ⊢
  have hX6 := Lib.hid (show w6.heap[X]? = some (.cells ([.int .i64 c0, .int .i64 wy, .int .i64 h, .int .i64 mi, .slice mA mn mc, .int .i64 g, .slice cA cn cc, .slice eA en ec, .slice (some ⟨g2, off2, none⟩) tn cN, .slice lA ln lc] : List Value).toArray 27 (0, 0)) from by rw [hw6]; exact heap_kept_set hX5.out (p := ⟨g2, off2 + i * 7 + 5, none⟩) (by show X ≠ g2; have := hXs.out; omega) (.int .i64 x))
  clear hw6 x8 xl hf5 hcu hgl hgX hX5 hF5
  obtain ⟨q1, q2⟩ := hte.out _ _ _ _ _ hF6.out (Only.refl _ _)
  have q1' := Lib.hid q1
  have q2' := Lib.hid q2
  clear q1 q2
  have x0 := row_cell hX6.out (i := 0) rfl
  have x1 := row_cell hX6.out (i := 1) rfl
  have x2 := row_cell hX6.out (i := 2) rfl
  have x3 := row_cell hX6.out (i := 3) rfl
  have x4 := row_cell hX6.out (i := 4) rfl
  have x5 := row_cell hX6.out (i := 5) rfl
  have x6 := row_cell hX6.out (i := 6) rfl
  have x7 := row_cell hX6.out (i := 7) rfl
  have x8 := row_cell hX6.out (i := 8) rfl
  have x9 := row_cell hX6.out (i := 9) rfl
  have xl := row_lt hX6.out
  go_wp2_with fail
  refine q1'.out.mono ?_
  rintro e w7 ⟨rfl, ho⟩
  have hO7 := Lib.hid ho
  have hX7 := Lib.hid (ho.heap hX6.out (fun h => h))
  have hOs := Lib.hid hF6.out.only
  clear ho x0 x1 x2 x3 x4 x5 x6 x7 x8 x9 xl
  by_cases hv : V = 0
  · have hVe : (V == 0) = true := by simp [hv]
    have q3 := Lib.hid (q2'.out hv w7 hO7.out)
    clear hv q2' q1'
    have x0 := row_cell hX7.out (i := 0) rfl
    have x1 := row_cell hX7.out (i := 1) rfl
    have x2 := row_cell hX7.out (i := 2) rfl
    have x3 := row_cell hX7.out (i := 3) rfl
    have x4 := row_cell hX7.out (i := 4) rfl
    have x5 := row_cell hX7.out (i := 5) rfl
    have x6 := row_cell hX7.out (i := 6) rfl
    have x7 := row_cell hX7.out (i := 7) rfl
    have x8 := row_cell hX7.out (i := 8) rfl
    have x9 := row_cell hX7.out (i := 9) rfl
    have xl := row_lt hX7.out
    go_wp2_with fail
    refine q3.out.mono ?_
    rintro e w8 ⟨rfl, ho⟩
    have hf := Lib.hid (hyes.out w8 (hOs.out.trans' (hO7.out.trans' ho)))
    clear ho x0 x1 x2 x3 x4 x5 x6 x7 x8 x9 xl
    go_wp2
    exact hf.out
  · have hVe : (V == 0) = false := by simp [hv]
    have hf := Lib.hid (hno.out w7 (hOs.out.trans' hO7.out) hv)
    clear hv q2' q1'
    go_wp2
    exact hf.out
end Twn
end Go.Proofs.YtlbinlhaejhobaaGreatDoor
