/- chain: the reference's ahead. -/
import Derived.Test.YtlbinlhaejhobaaGreatDoorBcRdp
namespace Go.Proofs.YtlbinlhaejhobaaGreatDoor
namespace Bch
open Go Go.RowKit Go.Maps Go.Shelf
set_option maxRecDepth 100000 in
set_option maxHeartbeats 4000000 in
theorem ahead_any {w : World} {c : ConfV} {ts : List TaskV} (hT : TasksAt w c.ta ts) (hn : c.ta.n ≤ 12) {A A2 : Option Addr} {m m2 cap cap2 : Nat} {hh hh2 : Option Nat} {L M : List Nat} (hW : Win w 3 1 (.slice A m cap) hh m (dat L)) (hW2 : Win w 3 1 (.slice A2 m2 cap2) hh2 m2 (dat M)) (hl : L.length = m) (hl2 : M.length = m2) (hm : m ≤ 1000) (hm2 : m2 ≤ 1000)
    (hL : ∀ x ∈ L, x < ts.length) (hM : ∀ x ∈ M, x < ts.length) : Calls Tryz.prog 55 #[c.val, .slice A m cap, .slice A2 m2 cap2] w (GrowB (Chn.ahead (prio ts) L M) w) := by
  have hO := (Only.refl (fun _ => False) w).alloc (.cells c.cells.toArray 27)
  have hB := heap_new_at w (.cells c.cells.toArray 27) rfl
  obtain ⟨W1, hW1⟩ : ∃ W1, W1 = w.alloc (.cells c.cells.toArray 27) := ⟨_, rfl⟩
  rw [← hW1] at hB hO
  obtain ⟨q, hq⟩ : ∃ q, q = w.heap.size := ⟨_, rfl⟩
  rw [← hq] at hB
  have hb8 := Lib.hid (fun W (ho : Only (fun _ => False) W1 W) => show W.cell? ⟨q, 8, none⟩ = some (.slice c.ta.A c.ta.n c.ta.cap) ∧ q < W.heap.size from ⟨row_cell (ho.heap hB (fun h => h)) (i := 8) rfl, row_lt (ho.heap hB (fun h => h))⟩)
  have hlen := Lib.hid hT.len
  have hT1 := Lib.hid (fun W (ho : Only (fun _ => False) W1 W) => (hT.new hO).new ho)
  have hWk := Lib.hid (fun W (ho : Only (fun _ => False) W1 W) => (hW.kept hO (fun _ _ h => h)).kept ho (fun _ _ h => h))
  have hWk2 := Lib.hid (fun W (ho : Only (fun _ => False) W1 W) => (hW2.kept hO (fun _ _ h => h)).kept ho (fun _ _ h => h))
  have hl' := Lib.hid hl
  have hl2' := Lib.hid hl2
  have hL' := Lib.hid hL
  have hM' := Lib.hid hM
  obtain ⟨V, hV⟩ : ∃ V, V = Chn.ahead (prio ts) L M := ⟨_, rfl⟩
  rw [← hV]
  have hV' := Lib.hid hV
  obtain ⟨Z, hZ⟩ : ∃ Z, Z = GrowB V w := ⟨_, rfl⟩
  rw [← hZ]
  have hfin := Lib.hid (fun W (ho : Only (fun _ => False) W1 W) (b : Bool) (hb : b = V) => show Z (.returned (.bool b)) W from by rw [hZ, hb]; exact ⟨rfl, hO.trans' ho⟩)
  have hq' := Lib.hid hq
  rw [show c.val = .agg #[.int .i64 c.s, .int .i64 c.wy, .int .i64 c.h, .int .i64 c.mi, .slice c.mb.A c.mb.n c.mb.cap, .int .i64 c.g, .slice c.cn.A c.cn.n c.cn.cap, .slice c.ce.A c.ce.n c.ce.cap, .slice c.ta.A c.ta.n c.ta.cap, .slice c.li.A c.li.n c.li.cap] from rfl]
  unfold ConfV.cells at hW1
  have hW1' := Lib.hid hW1
  clear hT hW hW2 hl hl2 hL hM hV hZ hO hq hB hW1
  obtain ⟨s0, wy0, h0, mi0, ⟨mA, mn, mc⟩, g0, ⟨cA, cn, cc⟩, ⟨eA, en, ec⟩, ⟨tA, tn, tc⟩, ⟨lA, ln, lc⟩⟩ := c
  dsimp only at *
  go_enter Tryz.func55, Tryz.ntmps55
  go_upto_region 1 with fail
  rw [← hW1'.out]
  rw [← hq'.out]
  go_wp2
  go_loopw [7, 10] (fun _ i wr => ∃ k : Nat, i = .int .i64 k ∧ k ≤ m ∧ k ≤ m2 ∧ Hid (V = Chn.ahead (prio ts) (L.drop k) (M.drop k)) ∧ Hid (Only (fun _ => False) W1 wr)) (fun _ i _ => m - (intOf i).toNat)
  case atStart => exact ⟨0, rfl, Nat.zero_le _, Nat.zero_le _, hV', Lib.hid (Only.refl _ _)⟩
  case round =>
    obtain ⟨k, rfl, hk, hk2, hA, hOr⟩ := hrel
    obtain ⟨ws, hws⟩ : ∃ ws : World, ws = wr := ⟨_, rfl⟩
    subst hws
    by_cases hkm : k < m
    · have hkm' : (k : Int) < m := by omega
      obtain ⟨x, hx⟩ : ∃ x, L[k]? = some x := ⟨_, List.getElem?_eq_getElem (by have := hl'.out; omega)⟩
      have hdx : L.drop k = x :: L.drop (k + 1) := by rw [← (List.getElem?_eq_some_iff.1 hx).2]; exact List.drop_eq_getElem_cons _
      obtain ⟨gl, loff, rfl, cx, cxl⟩ := cell_at (hWk.out ws hOr.out) (dat_at hx)
      have hxl := hL'.out x (List.mem_of_getElem? hx)
      by_cases hkm2 : k < m2
      · have hkm2' : (k : Int) < m2 := by omega
        have hge : ¬ (m2 : Int) ≤ k := by omega
        obtain ⟨y, hy⟩ : ∃ y, M[k]? = some y := ⟨_, List.getElem?_eq_getElem (by have := hl2'.out; omega)⟩
        have hdy : M.drop k = y :: M.drop (k + 1) := by rw [← (List.getElem?_eq_some_iff.1 hy).2]; exact List.drop_eq_getElem_cons _
        obtain ⟨gl2, loff2, rfl, cy, cyl⟩ := cell_at (hWk2.out ws hOr.out) (dat_at hy)
        have hyl := hM'.out y (List.mem_of_getElem? hy)
        have px := wd_cell cx
        have py := wd_cell cy
        have hex := wd_ex ws
        have hst := Lib.hid (show V = (if x = y then Chn.ahead (prio ts) (L.drop (k + 1)) (M.drop (k + 1)) else decide (prio ts x < prio ts y)) by rw [hA.out, hdx, hdy]; rfl)
        clear hdx hdy
        by_cases hxy : x = y
        · have hq0 : decide ((x : Int) = (y : Int)) = true := decide_eq_true (by omega)
          have hst2 := Lib.hid (hst.out.trans (if_pos hxy))
          subst hxy
          go_wp2_with fail
          refine wp_region_wd (by kernel_rfl) (by kernel_rfl) ?_
          repeat (go_big_quiet_step (fail))
          refine wpQuiet_nil ?_
          rintro _ ⟨v, rfl⟩
          have hO6 := Lib.hid (hOr.out.trans' v.ok)
          obtain ⟨w6, hw6⟩ : ∃ w6, w6 = v.W := ⟨_, rfl⟩
          rw [← hw6] at hO6 ⊢
          clear hw6 px py hex cx cy cxl cyl
          go_wp2
          go_roundw
          case rel => exact ⟨k + 1, by go_num, by omega, by omega, hst2, hO6⟩
          case measure => simp [intOf]; omega
        · have hq0 : ¬ (x : Int) = (y : Int) := by omega
          have hst2 := Lib.hid (hst.out.trans (if_neg hxy))
          clear hxy
          go_wp2_with fail
          refine wp_region_wd (by kernel_rfl) (by kernel_rfl) ?_
          repeat (go_big_quiet_step (fail))
          refine wpQuiet_nil ?_
          rintro _ ⟨v, rfl⟩
          have hO6 := Lib.hid (hOr.out.trans' v.ok)
          obtain ⟨w6, hw6⟩ : ∃ w6, w6 = v.W := ⟨_, rfl⟩
          rw [← hw6] at hO6 ⊢
          clear hw6 px py hex cx cy cxl cyl
          obtain ⟨cx, cxl⟩ : w6.cell? ⟨gl, loff + k, none⟩ = some (.int .i64 (x : Int)) ∧ True := by
            obtain ⟨g', o', hA', hc', hl'⟩ := cell_at (hWk.out w6 hO6.out) (dat_at hx)
            cases hA'
            exact ⟨hc', trivial⟩
          obtain ⟨cy, cyl⟩ : w6.cell? ⟨gl2, loff2 + k, none⟩ = some (.int .i64 (y : Int)) ∧ True := by
            obtain ⟨g', o', hA', hc', hl'⟩ := cell_at (hWk2.out w6 hO6.out) (dat_at hy)
            cases hA'
            exact ⟨hc', trivial⟩
          have hxn : (x : Int) < tn := by have := hlen.out; omega
          have hyn : (y : Int) < tn := by have := hlen.out; omega
          obtain ⟨t, ht⟩ : ∃ t, ts[x]? = some t := ⟨_, List.getElem?_eq_getElem hxl⟩
          obtain ⟨u, hu⟩ : ∃ t, ts[y]? = some t := ⟨_, List.getElem?_eq_getElem hyl⟩
          obtain ⟨b, off, rfl, -, hC⟩ := (hT1.out w6 hO6.out).at_ x t ht
          obtain ⟨b', off', hA', -, hD⟩ := (hT1.out w6 hO6.out).at_ y u hu
          cases hA'
          have hst3 := hst2.out
          rw [prio_at ht, prio_at hu] at hst3
          have hst4 := Lib.hid hst3
          obtain ⟨e8, el⟩ := hb8.out w6 hO6.out
          have p8 := wd_cell e8
          have pt := wd_cell hC.c0
          have pu := wd_cell hD.c0
          have px := wd_cell cx
          have py := wd_cell cy
          have hex := wd_ex w6
          clear hst3 ht hu hC hD hx hy cx cy cxl cyl e8
          go_wp2_with fail
          refine wp_region_wd (by kernel_rfl) (by kernel_rfl) ?_
          repeat (go_big_quiet_step (fail))
          refine wpQuiet_nil ?_
          rintro _ ⟨v, rfl⟩
          have hf := Lib.hid (hfin.out v.W (hO6.out.trans' v.ok) _ hst4.out.symm)
          go_wp2
          exact hf.out
      · obtain rfl : k = m2 := by omega
        have hf := Lib.hid (hfin.out ws hOr.out true (by rw [hA.out, hdx, List.drop_of_length_le (l := M) (by have := hl2'.out; omega)]; rfl))
        clear hdx hx
        go_wp2
        exact hf.out
    · obtain rfl : k = m := by omega
      have hf := Lib.hid (hfin.out ws hOr.out false (by rw [hA.out, List.drop_of_length_le (by have := hl'.out; omega)]; rfl))
      go_wp2
      exact hf.out
end Bch
end Go.Proofs.YtlbinlhaejhobaaGreatDoor
