/- floating: has, With, Fixed. Written by mkflo.py. -/
import Derived.Test.YtlbinlhaejhobaaGreatDoorPas
namespace Go.Proofs.YtlbinlhaejhobaaGreatDoor
namespace Twn
open Go Go.RowKit Krn Asn Pre Adm

def hasI (n : Nat) (z : Int) : Bool := decide (0 ≤ z ∧ z < n)
theorem fhas_any (w : World) (c : ConfV) (z : Int) : Calls Tryz.prog 63 #[c.val, .int .i64 z] w (GrowB (hasI c.ta.n z) w) := by
  obtain ⟨q, hq⟩ : ∃ q, q = w.heap.size := ⟨_, rfl⟩
  obtain ⟨W2, hW2⟩ : ∃ W2, W2 = w.alloc (.cells c.cells.toArray 27) := ⟨_, rfl⟩
  have hO2 : Only (fun _ => False) w W2 := by rw [hW2]; exact (Only.refl _ w).alloc _
  have b0 : W2.heap[q]? = some (.cells c.cells.toArray 27 (0, 0)) := by rw [hW2]; exact heap_new_at _ _ hq.symm
  have hs2 : W2.heap.size = q + 1 := by rw [hW2, hq]; simp
  have hq' := Lib.hid hq
  have hcy := Lib.hid (fun W (ho : Only (fun _ => False) W2 W) => cyv_of (ho.heap b0 (fun h => h)))
  obtain ⟨cv, hcv⟩ : ∃ cv, cv = c.val := ⟨_, rfl⟩
  obtain ⟨Z, hZ⟩ : ∃ Z, Z = GrowB (hasI c.ta.n z) w := ⟨_, rfl⟩
  rw [← hZ]
  have hfin := Lib.hid (fun b (hb : b = hasI c.ta.n z) => show Z (.returned (.bool b)) W2 from by rw [hZ, hb]; exact ⟨rfl, hO2⟩)
  rw [← hcv]
  unfold ConfV.val at hcv
  subst hcv
  unfold CYv at hcy
  unfold ConfV.cells at hW2
  have hW2' := Lib.hid hW2
  have hs2' := Lib.hid hs2
  clear hq hO2 b0 hW2 hs2 hZ
  obtain ⟨c0, wy, h, mi, ⟨mA, mn, mc⟩, g, ⟨cA, cn, cc⟩, ⟨eA, en, ec⟩, ⟨tA, tn, tc⟩, ⟨lA, ln, lc⟩⟩ := c
  dsimp only at *
  obtain ⟨d0, d1, d2, d3, d4, d5, d6, d7, d8, d9, dl⟩ := hcy.out W2 (Only.refl _ _)
  go_enter Tryz.func63, Tryz.ntmps63
  go_upto_region 1 with fail
  rw [← hq'.out]
  rw [← hW2'.out]
  by_cases h1 : 0 ≤ z
  · by_cases h2 : z < (tn : Int)
    · have hf := Lib.hid (hfin.out true (by unfold hasI; simp [h1, h2]))
      go_wp2
      exact hf.out
    · have hf := Lib.hid (hfin.out false (by unfold hasI; simp [h2]))
      go_wp2
      exact hf.out
  · have hf := Lib.hid (hfin.out false (by unfold hasI; simp [h1]))
    go_wp2
    exact hf.out
/-- A task's float, if there is such a task. -/
def fwF (n : Nat) (z x : Int) : Nat → TaskV → TaskV := if hasI n z = true then flF z.toNat x else fun _ t => t
def FwEnd (c : ConfV) (d : ConfL) (pl : Tks) (z x : Int) (w : World) (e : Ending) (w' : World) : Prop :=
  ∃ c' us tb tp, e = .returned c'.val ∧ CfAt w (fwF c.ta.n z x) c c' d pl us tb tp w'
theorem fix_any {w : World} {c : ConfV} {B : Int} {i : Int} (hb : ∀ W, Only (fun _ => False) w W → Calls Tryz.prog 67 #[c.val, .int .i64 i, .int .i64 64] W (GrowI B W)) :
    Calls Tryz.prog 37 #[c.val, .int .i64 i] w (GrowI B w) := by
  obtain ⟨q, hq⟩ : ∃ q, q = w.heap.size := ⟨_, rfl⟩
  obtain ⟨W2, hW2⟩ : ∃ W2, W2 = w.alloc (.cells c.cells.toArray 27) := ⟨_, rfl⟩
  have hO2 : Only (fun _ => False) w W2 := by rw [hW2]; exact (Only.refl _ w).alloc _
  have b0 : W2.heap[q]? = some (.cells c.cells.toArray 27 (0, 0)) := by rw [hW2]; exact heap_new_at _ _ hq.symm
  have hs2 : W2.heap.size = q + 1 := by rw [hW2, hq]; simp
  have hq' := Lib.hid hq
  have hcy := Lib.hid (fun W (ho : Only (fun _ => False) W2 W) => cyv_of (ho.heap b0 (fun h => h)))
  obtain ⟨cv, hcv⟩ : ∃ cv, cv = c.val := ⟨_, rfl⟩
  have kb := Lib.hid (show Calls Tryz.prog 67 #[cv, .int .i64 i, .int .i64 64] W2 (GrowI B W2) from by rw [hcv]; exact hb W2 hO2)
  obtain ⟨Z, hZ⟩ : ∃ Z, Z = GrowI B w := ⟨_, rfl⟩
  rw [← hZ]
  have hfin := Lib.hid (fun W (ho : Only (fun _ => False) W2 W) => show Z (.returned (.int .i64 B)) W from by rw [hZ]; exact ⟨rfl, hO2.trans' ho⟩)
  rw [← hcv]
  unfold ConfV.val at hcv
  subst hcv
  unfold CYv at hcy
  unfold ConfV.cells at hW2
  have hW2' := Lib.hid hW2
  have hs2' := Lib.hid hs2
  clear hb hq hO2 b0 hW2 hs2 hZ
  obtain ⟨c0, wy, h, mi, ⟨mA, mn, mc⟩, g, ⟨cA, cn, cc⟩, ⟨eA, en, ec⟩, ⟨tA, tn, tc⟩, ⟨lA, ln, lc⟩⟩ := c
  dsimp only at *
  obtain ⟨d0, d1, d2, d3, d4, d5, d6, d7, d8, d9, dl⟩ := hcy.out W2 (Only.refl _ _)
  go_enter Tryz.func37, Tryz.ntmps37
  go_upto_region 1 with fail
  rw [← hq'.out]
  rw [← hW2'.out]
  go_wp2_with fail
  refine kb.out.mono ?_
  rintro e w3 ⟨rfl, ho⟩
  have hf := Lib.hid (hfin.out w3 ho)
  clear ho d0 d1 d2 d3 d4 d5 d6 d7 d8 d9 dl
  go_wp2
  exact hf.out
set_option maxRecDepth 100000 in
set_option maxHeartbeats 8000000 in
theorem fwith_any {w : World} {c : ConfV} {d : ConfL} {pl : Tks} (h0 : Cf0 w c d pl) (z x : Int) :
    Calls Tryz.prog 39 #[c.val, .int .i64 z, .int .i64 x] w (FwEnd c d pl z x w) := by
  obtain ⟨q, hq⟩ : ∃ q, q = w.heap.size := ⟨_, rfl⟩
  obtain ⟨W1, hW1⟩ : ∃ W1, W1 = w.alloc (.cells c.cells.toArray 27) := ⟨_, rfl⟩
  have hO1 : Only (fun _ => False) w W1 := by rw [hW1]; exact (Only.refl _ w).alloc _
  have b1 : W1.heap[q]? = some (.cells c.cells.toArray 27 (0, 0)) := by rw [hW1]; exact heap_new_at _ _ hq.symm
  have hs1 : W1.heap.size = q + 1 := by rw [hW1, hq]; simp
  obtain ⟨W2, hW2⟩ : ∃ W2, W2 = W1.alloc (.cells #[.int .i64 0, .int .i64 0, .int .i64 0, .int .i64 0, .slice none 0 0, .int .i64 0, .slice none 0 0, .slice none 0 0, .slice none 0 0, .slice none 0 0] 27) := ⟨_, rfl⟩
  have hO12 : Only (fun _ => False) W1 W2 := by rw [hW2]; exact (Only.refl _ W1).alloc _
  have hO2 : Only (fun _ => False) w W2 := hO1.trans' hO12
  have b2 : W2.heap[q]? = some (.cells c.cells.toArray 27 (0, 0)) := hO12.heap b1 (fun h => h)
  have r2 : W2.heap[q + 1]? = some (.cells ([.int .i64 0, .int .i64 0, .int .i64 0, .int .i64 0, .slice none 0 0, .int .i64 0, .slice none 0 0, .slice none 0 0, .slice none 0 0, .slice none 0 0] : List Value).toArray 27 (0, 0)) := by rw [hW2]; exact heap_new_at _ _ hs1
  have hs2 : W2.heap.size = q + 2 := by rw [hW2]; simp [hs1]
  have hcy := Lib.hid (fun W (ho : Only (fun _ => False) W2 W) => cyv_of (ho.heap b2 (fun h => h)))
  have hr := Lib.hid (fun W (ho : Only (fun _ => False) W2 W) => ho.heap r2 (fun h => h))
  obtain ⟨cv, hcv⟩ : ∃ cv, cv = c.val := ⟨_, rfl⟩
  have kcf := Lib.hid (show Calls Tryz.prog 60 #[cv] W2 (CfEnd c d pl W2) from by rw [hcv]; exact config_any (h0.new hO2).C (h0.new hO2).A h0.n h0.o)
  have kha := Lib.hid (fun W => show Calls Tryz.prog 63 #[cv, .int .i64 z] W (GrowB (hasI c.ta.n z) W) from by rw [hcv]; exact fhas_any W c z)
  have hlen := h0.len
  obtain ⟨HB, hHB⟩ : ∃ b, b = hasI c.ta.n z := ⟨_, rfl⟩
  have hHz := Lib.hid (fun (h : HB = true) => show 0 ≤ z ∧ z < c.ta.n from by rw [hHB] at h; unfold hasI at h; simpa using h)
  rw [← hHB] at kha
  obtain ⟨Z, hZ⟩ : ∃ Z, Z = FwEnd c d pl z x w := ⟨_, rfl⟩
  rw [← hZ]
  have hf3 := Lib.hid (fun W W3 c' us tb tp (h : CfAt W2 (fwF c.ta.n z x) c c' d pl us tb tp W) (ho : Only (fun k => k = q + 1) W W3) => show Z (.returned (.agg #[.int .i64 c'.s, .int .i64 c'.wy, .int .i64 c'.h, .int .i64 c'.mi, .slice c'.mb.A c'.mb.n c'.mb.cap, .int .i64 c'.g, .slice c'.cn.A c'.cn.n c'.cn.cap, .slice c'.ce.A c'.ce.n c'.ce.cap, .slice c'.ta.A c'.ta.n c'.ta.cap, .slice c'.li.A c'.li.n c'.li.cap])) W3 from by
    rw [hZ]
    have hk : CfAt w (fwF c.ta.n z x) c c' d pl us tb tp W3 := (h.from hO2).kept1 (q := q + 1) (fun hh m v xs hW k hk => win_ne hW (hr.out W h.tw.only) (by decide) k hk) (fun g hg => by have := h.tw.fb g hg; omega) (fun g hg => by have := (h.tw.fp g hg).1; omega) (by omega) ho
    exact ⟨c', us, tb, tp, rfl, hk⟩)
  have hno := Lib.hid (fun W c' us tb tp (h : CfAt W2 (fun _ t => t) c c' d pl us tb tp W) (hh : HB = false) => show CfAt W2 (fwF c.ta.n z x) c c' d pl us tb tp W from h.congr (fun i t _ => by unfold fwF; rw [← hHB, hh]; rfl))
  have hput := Lib.hid (fun W c' us tp g off (k : Nat) (h : CfAt W2 (fun _ t => t) c c' d pl us (some g) tp W) (hA : c'.ta.A = some ⟨g, off, none⟩) (hh : HB = true) (hz : z = (k : Int)) => show ∃ us', CfAt W2 (fwF c.ta.n z x) c c' d pl us' (some g) tp (W.setCell ⟨g, off + k * 7 + 5, none⟩ (.int .i64 x)) from by
    have hk := hHz.out hh
    obtain ⟨us', h'⟩ := h.put hA h.len (k := k) (by omega) (fun t => { t with fl := x }) (.int .i64 x) (j := 5) (by omega) (fun _ _ => rfl) (fun _ _ => rfl) (fun _ => rfl)
    refine ⟨us', h'.congr (fun i t _ => ?_)⟩
    unfold fwF
    rw [← hHB, hh, if_pos rfl]
    unfold flF
    rw [show z.toNat = k by omega])
  have hrow := Lib.hid (fun W c' us tb tp (k : Nat) (h : CfAt W2 (fun _ t => t) c c' d pl us tb tp W) (hk : k < c.ta.n) => show ∃ g off u, tb = some g ∧ c'.ta.A = some ⟨g, off, none⟩ ∧ c'.ta.n = c.ta.n ∧ q + 2 ≤ g ∧ g < W.heap.size ∧ W.cell? ⟨g, off + k * 7 + 5, none⟩ = some u ∧ ∀ i, W.frozen? ⟨g, i, none⟩ = false from by
    obtain ⟨y, hy⟩ : ∃ y, us[k]? = some y := ⟨_, List.getElem?_eq_getElem (by rw [h.tw.len]; omega)⟩
    have hw := h.tw.win
    rw [← h.tw.len] at hw
    obtain ⟨g, off, cap3, e1, e2, -, -, -, h1, h3, h2⟩ := win_row (f := tkV) tkV_len hw hy
    unfold Sl.val at e2
    injection e2 with e3 e4 e5
    have := h.tw.fb g e1
    exact ⟨g, off, _, e1, e3, by have := (key_nums h.key); omega, by omega, h1, h3 5 _ rfl, h2⟩)
  have hnew := Lib.hid (fun W W3 f c' us tb tp (h : CfAt W2 f c c' d pl us tb tp W) (ho : Only (fun _ => False) W W3) => h.new ho)
  rw [← hcv]
  unfold ConfV.val at hcv
  subst hcv
  unfold CYv at hcy
  unfold ConfV.cells at hW1
  have hq' := Lib.hid hq
  have hW1' := Lib.hid hW1
  have hW2' := Lib.hid hW2
  have hs2' := Lib.hid hs2
  clear h0 hq hW1 hO1 b1 hs1 hW2 hO12 hO2 b2 r2 hs2 hlen hZ hHB
  obtain ⟨c0, wy, h, mi, ⟨mA, mn, mc⟩, g, ⟨cA, cn, cc⟩, ⟨eA, en, ec⟩, ⟨tA, tn, tc⟩, ⟨lA, ln, lc⟩⟩ := c
  dsimp only at *
  obtain ⟨d0, d1, d2, d3, d4, d5, d6, d7, d8, d9, dl⟩ := hcy.out W2 (Only.refl _ _)
  go_enter Tryz.func39, Tryz.ntmps39
  go_upto_region 1 with fail
  rw [← hq'.out]
  rw [← hW1'.out]
  rw [← hW2'.out]
  go_wp2_with fail
  refine kcf.out.mono ?_
  rintro e w3 ⟨c', us, tb, tp, rfl, hF⟩
  have hF1 := Lib.hid hF
  clear hF d0 d1 d2 d3 d4 d5 d6 d7 d8 d9 dl
  unfold ConfV.val
  go_upto_region 2 with fail
  obtain ⟨X, hX⟩ : ∃ X, X = w3.heap.size := ⟨_, rfl⟩
  obtain ⟨w4, hw4⟩ : ∃ W, W = w3.alloc (.cells #[.int .i64 c'.s, .int .i64 c'.wy, .int .i64 c'.h, .int .i64 c'.mi, .slice c'.mb.A c'.mb.n c'.mb.cap, .int .i64 c'.g, .slice c'.cn.A c'.cn.n c'.cn.cap, .slice c'.ce.A c'.ce.n c'.ce.cap, .slice c'.ta.A c'.ta.n c'.ta.cap, .slice c'.li.A c'.li.n c'.li.cap] 27) := ⟨_, rfl⟩
  rw [← hw4, ← hX]
  have hX4 := Lib.hid (show w4.heap[X]? = some (.cells ([.int .i64 c'.s, .int .i64 c'.wy, .int .i64 c'.h, .int .i64 c'.mi, .slice c'.mb.A c'.mb.n c'.mb.cap, .int .i64 c'.g, .slice c'.cn.A c'.cn.n c'.cn.cap, .slice c'.ce.A c'.ce.n c'.ce.cap, .slice c'.ta.A c'.ta.n c'.ta.cap, .slice c'.li.A c'.li.n c'.li.cap] : List Value).toArray 27 (0, 0)) from by rw [hw4, hX]; exact heap_new_at _ _ rfl)
  have hF4 := Lib.hid (hnew.out _ w4 _ _ _ _ _ hF1.out (by rw [hw4]; exact (Only.refl _ _).alloc _))
  have htX := Lib.hid (show ∀ g, tb = some g → g < X from fun g hg => by
    have := hF1.out.tw.win.lt g hg
    omega)
  clear hX hw4 hF1
  obtain ⟨d0, d1, d2, d3, d4, d5, d6, d7, d8, d9, dl⟩ := hcy.out w4 hF4.out.tw.only
  go_wp2_with fail
  refine (kha.out w4).mono ?_
  rintro e w5 ⟨rfl, ho⟩
  have hF5 := Lib.hid (hnew.out _ w5 _ _ _ _ _ hF4.out ho)
  have hX5 := Lib.hid (ho.heap hX4.out (fun h => h))
  clear ho hX4 hF4 d0 d1 d2 d3 d4 d5 d6 d7 d8 d9 dl kha
  cases HB with
  | true =>
    obtain ⟨hz0, hzn⟩ := hHz.out rfl
    obtain ⟨k, rfl⟩ : ∃ k : Nat, z = (k : Int) := ⟨z.toNat, by omega⟩
    have hkn : k < tn := by omega
    obtain ⟨g2, off2, u2, htb, hA2, hn2, hg2, hgl, hcu, hfz⟩ := hrow.out _ _ _ _ _ _ hF5.out hkn
    subst htb
    obtain ⟨us3, hF3⟩ := hput.out _ _ _ _ _ _ k hF5.out hA2 rfl rfl
    have hF3' := Lib.hid hF3
    have hx := row_cell hX5.out (i := 8) rfl
    have hxl := row_lt hX5.out
    rw [hA2, hn2] at hx
    have hgX := htX.out g2 rfl
    have hf := hfz (off2 + k * 7 + 5)
    clear hF3 hfz hA2 hn2
    go_upto_region 4 with fail
    obtain ⟨w6, hw6⟩ : ∃ W, W = w5.setCell ⟨g2, off2 + k * 7 + 5, none⟩ (.int .i64 x) := ⟨_, rfl⟩
    rw [← hw6] at hF3' ⊢
    have hX6 := Lib.hid (show w6.heap[X]? = some (.cells ([.int .i64 c'.s, .int .i64 c'.wy, .int .i64 c'.h, .int .i64 c'.mi, .slice c'.mb.A c'.mb.n c'.mb.cap, .int .i64 c'.g, .slice c'.cn.A c'.cn.n c'.cn.cap, .slice c'.ce.A c'.ce.n c'.ce.cap, .slice c'.ta.A c'.ta.n c'.ta.cap, .slice c'.li.A c'.li.n c'.li.cap] : List Value).toArray 27 (0, 0)) from by rw [hw6]; exact heap_kept_set hX5.out (p := ⟨g2, off2 + k * 7 + 5, none⟩) (by show X ≠ g2; omega) (.int .i64 x))
    have r6 := hr.out w6 hF3'.out.tw.only
    have hfE := Lib.hid (fun W3 ho => hf3.out w6 W3 c' us3 _ _ hF3'.out ho)
    clear hw6 hx hxl hf hcu hgl
    have x0 := row_cell hX6.out (i := 0) rfl
    have x1 := row_cell hX6.out (i := 1) rfl
    have x2 := row_cell hX6.out (i := 2) rfl
    have x3 := row_cell hX6.out (i := 3) rfl
    have x4 := row_cell hX6.out (i := 4) rfl
    have x5 := row_cell hX6.out (i := 5) rfl
    have x6 := row_cell hX6.out (i := 6) rfl
    have x7 := row_cell hX6.out (i := 7) rfl
    have x8 := row_cell hX6.out (i := 8) rfl
    have x9 := row_cell hX6.out (i := 9) rfl
    have xl := row_lt hX6.out
    have y0 := row_free r6 0
    have z0 := row_cell r6 (i := 0) rfl
    have y1 := row_free r6 1
    have z1 := row_cell r6 (i := 1) rfl
    have y2 := row_free r6 2
    have z2 := row_cell r6 (i := 2) rfl
    have y3 := row_free r6 3
    have z3 := row_cell r6 (i := 3) rfl
    have y4 := row_free r6 4
    have z4 := row_cell r6 (i := 4) rfl
    have y5 := row_free r6 5
    have z5 := row_cell r6 (i := 5) rfl
    have y6 := row_free r6 6
    have z6 := row_cell r6 (i := 6) rfl
    have y7 := row_free r6 7
    have z7 := row_cell r6 (i := 7) rfl
    have y8 := row_free r6 8
    have z8 := row_cell r6 (i := 8) rfl
    have y9 := row_free r6 9
    have z9 := row_cell r6 (i := 9) rfl
    have yl := row_lt r6
    have hS := Lib.hid (st10_row (v0 := (.int .i64 c'.s)) (v1 := (.int .i64 c'.wy)) (v2 := (.int .i64 c'.h)) (v3 := (.int .i64 c'.mi)) (v4 := (.slice c'.mb.A c'.mb.n c'.mb.cap)) (v5 := (.int .i64 c'.g)) (v6 := (.slice c'.cn.A c'.cn.n c'.cn.cap)) (v7 := (.slice c'.ce.A c'.ce.n c'.ce.cap)) (v8 := (.slice c'.ta.A c'.ta.n c'.ta.cap)) (v9 := (.slice c'.li.A c'.li.n c'.li.cap)) r6)
    have hT := Lib.hid (st10_only w6 (q + 1) (.int .i64 c'.s) (.int .i64 c'.wy) (.int .i64 c'.h) (.int .i64 c'.mi) (.slice c'.mb.A c'.mb.n c'.mb.cap) (.int .i64 c'.g) (.slice c'.cn.A c'.cn.n c'.cn.cap) (.slice c'.ce.A c'.ce.n c'.ce.cap) (.slice c'.ta.A c'.ta.n c'.ta.cap) (.slice c'.li.A c'.li.n c'.li.cap))
    go_wp2
    change bodyPost _ _ _ _ _ (st10 w6 (q + 1) (.int .i64 c'.s) (.int .i64 c'.wy) (.int .i64 c'.h) (.int .i64 c'.mi) (.slice c'.mb.A c'.mb.n c'.mb.cap) (.int .i64 c'.g) (.slice c'.cn.A c'.cn.n c'.cn.cap) (.slice c'.ce.A c'.ce.n c'.ce.cap) (.slice c'.ta.A c'.ta.n c'.ta.cap) (.slice c'.li.A c'.li.n c'.li.cap))
    obtain ⟨W9, hW9⟩ : ∃ W9, W9 = st10 w6 (q + 1) (.int .i64 c'.s) (.int .i64 c'.wy) (.int .i64 c'.h) (.int .i64 c'.mi) (.slice c'.mb.A c'.mb.n c'.mb.cap) (.int .i64 c'.g) (.slice c'.cn.A c'.cn.n c'.cn.cap) (.slice c'.ce.A c'.ce.n c'.ce.cap) (.slice c'.ta.A c'.ta.n c'.ta.cap) (.slice c'.li.A c'.li.n c'.li.cap) := ⟨_, rfl⟩
    rw [← hW9] at hS hT ⊢
    have ce0 := row_cell hS.out (i := 0) rfl
    have ce1 := row_cell hS.out (i := 1) rfl
    have ce2 := row_cell hS.out (i := 2) rfl
    have ce3 := row_cell hS.out (i := 3) rfl
    have ce4 := row_cell hS.out (i := 4) rfl
    have ce5 := row_cell hS.out (i := 5) rfl
    have ce6 := row_cell hS.out (i := 6) rfl
    have ce7 := row_cell hS.out (i := 7) rfl
    have ce8 := row_cell hS.out (i := 8) rfl
    have ce9 := row_cell hS.out (i := 9) rfl
    exact bodyPost_ret (v := .agg #[.int .i64 c'.s, .int .i64 c'.wy, .int .i64 c'.h, .int .i64 c'.mi, .slice c'.mb.A c'.mb.n c'.mb.cap, .int .i64 c'.g, .slice c'.cn.A c'.cn.n c'.cn.cap, .slice c'.ce.A c'.ce.n c'.ce.cap, .slice c'.ta.A c'.ta.n c'.ta.cap, .slice c'.li.A c'.li.n c'.li.cap]) (by simp [results, Tryz.results39, go_sem, ce0, ce1, ce2, ce3, ce4, ce5, ce6, ce7, ce8, ce9]) rfl (hfE.out W9 hT.out)
  | false =>
    have hF6 := Lib.hid (hno.out _ _ _ _ _ hF5.out rfl)
    have r6 := hr.out w5 hF6.out.tw.only
    have hfE := Lib.hid (fun W3 ho => hf3.out w5 W3 c' us _ _ hF6.out ho)
    have x0 := row_cell hX5.out (i := 0) rfl
    have x1 := row_cell hX5.out (i := 1) rfl
    have x2 := row_cell hX5.out (i := 2) rfl
    have x3 := row_cell hX5.out (i := 3) rfl
    have x4 := row_cell hX5.out (i := 4) rfl
    have x5 := row_cell hX5.out (i := 5) rfl
    have x6 := row_cell hX5.out (i := 6) rfl
    have x7 := row_cell hX5.out (i := 7) rfl
    have x8 := row_cell hX5.out (i := 8) rfl
    have x9 := row_cell hX5.out (i := 9) rfl
    have xl := row_lt hX5.out
    have y0 := row_free r6 0
    have z0 := row_cell r6 (i := 0) rfl
    have y1 := row_free r6 1
    have z1 := row_cell r6 (i := 1) rfl
    have y2 := row_free r6 2
    have z2 := row_cell r6 (i := 2) rfl
    have y3 := row_free r6 3
    have z3 := row_cell r6 (i := 3) rfl
    have y4 := row_free r6 4
    have z4 := row_cell r6 (i := 4) rfl
    have y5 := row_free r6 5
    have z5 := row_cell r6 (i := 5) rfl
    have y6 := row_free r6 6
    have z6 := row_cell r6 (i := 6) rfl
    have y7 := row_free r6 7
    have z7 := row_cell r6 (i := 7) rfl
    have y8 := row_free r6 8
    have z8 := row_cell r6 (i := 8) rfl
    have y9 := row_free r6 9
    have z9 := row_cell r6 (i := 9) rfl
    have yl := row_lt r6
    have hS := Lib.hid (st10_row (v0 := (.int .i64 c'.s)) (v1 := (.int .i64 c'.wy)) (v2 := (.int .i64 c'.h)) (v3 := (.int .i64 c'.mi)) (v4 := (.slice c'.mb.A c'.mb.n c'.mb.cap)) (v5 := (.int .i64 c'.g)) (v6 := (.slice c'.cn.A c'.cn.n c'.cn.cap)) (v7 := (.slice c'.ce.A c'.ce.n c'.ce.cap)) (v8 := (.slice c'.ta.A c'.ta.n c'.ta.cap)) (v9 := (.slice c'.li.A c'.li.n c'.li.cap)) r6)
    have hT := Lib.hid (st10_only w5 (q + 1) (.int .i64 c'.s) (.int .i64 c'.wy) (.int .i64 c'.h) (.int .i64 c'.mi) (.slice c'.mb.A c'.mb.n c'.mb.cap) (.int .i64 c'.g) (.slice c'.cn.A c'.cn.n c'.cn.cap) (.slice c'.ce.A c'.ce.n c'.ce.cap) (.slice c'.ta.A c'.ta.n c'.ta.cap) (.slice c'.li.A c'.li.n c'.li.cap))
    go_wp2
    change bodyPost _ _ _ _ _ (st10 w5 (q + 1) (.int .i64 c'.s) (.int .i64 c'.wy) (.int .i64 c'.h) (.int .i64 c'.mi) (.slice c'.mb.A c'.mb.n c'.mb.cap) (.int .i64 c'.g) (.slice c'.cn.A c'.cn.n c'.cn.cap) (.slice c'.ce.A c'.ce.n c'.ce.cap) (.slice c'.ta.A c'.ta.n c'.ta.cap) (.slice c'.li.A c'.li.n c'.li.cap))
    obtain ⟨W9, hW9⟩ : ∃ W9, W9 = st10 w5 (q + 1) (.int .i64 c'.s) (.int .i64 c'.wy) (.int .i64 c'.h) (.int .i64 c'.mi) (.slice c'.mb.A c'.mb.n c'.mb.cap) (.int .i64 c'.g) (.slice c'.cn.A c'.cn.n c'.cn.cap) (.slice c'.ce.A c'.ce.n c'.ce.cap) (.slice c'.ta.A c'.ta.n c'.ta.cap) (.slice c'.li.A c'.li.n c'.li.cap) := ⟨_, rfl⟩
    rw [← hW9] at hS hT ⊢
    have ce0 := row_cell hS.out (i := 0) rfl
    have ce1 := row_cell hS.out (i := 1) rfl
    have ce2 := row_cell hS.out (i := 2) rfl
    have ce3 := row_cell hS.out (i := 3) rfl
    have ce4 := row_cell hS.out (i := 4) rfl
    have ce5 := row_cell hS.out (i := 5) rfl
    have ce6 := row_cell hS.out (i := 6) rfl
    have ce7 := row_cell hS.out (i := 7) rfl
    have ce8 := row_cell hS.out (i := 8) rfl
    have ce9 := row_cell hS.out (i := 9) rfl
    exact bodyPost_ret (v := .agg #[.int .i64 c'.s, .int .i64 c'.wy, .int .i64 c'.h, .int .i64 c'.mi, .slice c'.mb.A c'.mb.n c'.mb.cap, .int .i64 c'.g, .slice c'.cn.A c'.cn.n c'.cn.cap, .slice c'.ce.A c'.ce.n c'.ce.cap, .slice c'.ta.A c'.ta.n c'.ta.cap, .slice c'.li.A c'.li.n c'.li.cap]) (by simp [results, Tryz.results39, go_sem, ce0, ce1, ce2, ce3, ce4, ce5, ce6, ce7, ce8, ce9]) rfl (hfE.out W9 hT.out)
end Twn
end Go.Proofs.YtlbinlhaejhobaaGreatDoor
