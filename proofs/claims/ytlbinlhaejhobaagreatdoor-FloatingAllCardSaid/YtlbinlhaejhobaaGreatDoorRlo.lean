/- The reference's Longest. -/
import Derived.Test.YtlbinlhaejhobaaGreatDoorOpt
import Derived.Deep.LoopGhost
import Derived.Test.YtlbinlhaejhobaaGreatDoorPlo
import Derived.Test.YtlbinlhaejhobaaGreatDoorPA
namespace Go.Proofs.YtlbinlhaejhobaaGreatDoor
namespace Sct
open Go Go.RowKit Lin Lck Cst

set_option maxRecDepth 100000 in
set_option maxHeartbeats 4000000 in
theorem rlong_any {w : World} {c : ConfV} {d : ConfL} {pl : Tks} (hC : ConfIn w c d pl) (hen : c.ce.n ≤ 4096) (hce : ∀ W, Only (fun _ => False) w W → IntsAt W c.ce d.ce) {i : Nat} {t : TaskV} {l : List Opn} (hi : pl[i]? = some (t, l)) (hl9 : l.length ≤ 1000) (lev : Int) :
    Calls Tryz.prog 38 #[c.val, .int .i64 (i : Int), .int .i64 lev] w (GrowI (lonZ t.th (ceZ d.ce) c.ce.n l c.h c.mi lev) w) := by
  have hlv := Lib.hid (fun W (h : Only (fun _ => False) w W) (k : Nat) (hk : k ≤ l.length) => show Calls Tryz.prog 68 #[c.val, t.val, .slice t.o.A k t.o.cap] W (GrowI (levK t.th (ceZ d.ce) c.ce.n l k) W) from by
    have := rlevel_any (w := W) (c := c) (d := d) (fun W' h' => hce W' (h.trans' h')) hen t (cap := t.o.cap) (opnrow_take ((hC.p i t l hi).1.new h) k) (n := k) (by rw [List.length_take]; omega) (by omega)
    exact this)
  obtain ⟨V, hV⟩ : ∃ V, V = lonZ t.th (ceZ d.ce) c.ce.n l c.h c.mi lev := ⟨_, rfl⟩
  rw [← hV]
  have hbest := fun v (h : Best (levK t.th (ceZ d.ce) c.ce.n l) (costK l c.h c.mi) lev (fun a _ => a < l.length) l.length v) => show v = V from by
    rw [hV]
    exact best_lon (fun k => (costK_le l c.h c.mi k).1) h
  clear hV
  have hrow := Lib.hid (fun W (h : Only (fun _ => False) w W) => ((hC.new h).p i t l hi).1)
  obtain ⟨hpA, hpn, hpc⟩ := hC.p i t l hi
  obtain ⟨m, hm⟩ : ∃ m, m = l.length := ⟨_, rfl⟩
  obtain ⟨LV, hLV⟩ : ∃ LV, LV = levK t.th (ceZ d.ce) c.ce.n l := ⟨_, rfl⟩
  rw [← hm, ← hLV] at hlv hbest
  obtain ⟨co, hco⟩ : ∃ co, co = costK l c.h c.mi := ⟨_, rfl⟩
  rw [← hco] at hbest
  have hcb := Lib.hid (fun k => show 0 ≤ co k ∧ co k ≤ 1073741824 from by rw [hco]; exact costK_le _ _ _ _)
  have hca := Lib.hid (fun k o (ho : l[k]? = some o) => show co k = ofZ o c.h c.mi false from by rw [hco]; exact costK_at ho)
  have hlm := Lib.hid hm
  have hbest' := Lib.hid hbest
  clear hbest hco
  have hmn : t.o.n = m := by omega
  have hm9 : m ≤ 1000 := by omega
  obtain ⟨th, hth⟩ : ∃ th, th = t.th := ⟨_, rfl⟩
  obtain ⟨Z, hZ⟩ : ∃ Z, Z = GrowI V w := ⟨_, rfl⟩
  rw [← hZ]
  have hZ' := Lib.hid hZ
  clear hZ
  have hO := (Only.refl (fun _ => False) w).alloc (.cells c.cells.toArray 27)
  have hB := heap_new_at w (.cells c.cells.toArray 27) rfl
  obtain ⟨W1, hW1⟩ : ∃ W1, W1 = w.alloc (.cells c.cells.toArray 27) := ⟨_, rfl⟩
  rw [← hW1] at hB hO
  have hB' := Lib.hid hB
  have hO' := Lib.hid hO
  have hitn : i < c.ta.n := by
    have h1 := hC.t.len
    unfold Tks.ts at h1
    rw [List.length_map] at h1
    have := (List.getElem?_eq_some_iff.1 hi).1
    omega
  have hta := Lib.hid (fun W (h : Only (fun _ => False) w W) => (hC.new h).t.at_ i t (ts_some hi))
  obtain ⟨q, hqq⟩ : ∃ q, q = w.heap.size := ⟨_, rfl⟩
  have hqq' := Lib.hid hqq
  rw [← hqq] at hB'
  have hAn : t.o.A = none → m = 0 := by
    intro h0
    rcases Nat.eq_zero_or_pos m with h | h
    · exact h
    · obtain ⟨o, ho⟩ : ∃ o, l[0]? = some o := ⟨_, List.getElem?_eq_getElem (by omega)⟩
      obtain ⟨b, off, e, _⟩ := hpA 0 o ho
      rw [h0] at e
      cases e
  clear hO hB hqq hC hi hm hLV hpA hpn hce
  rw [show c.val = .agg #[.int .i64 c.s, .int .i64 c.wy, .int .i64 c.h, .int .i64 c.mi, .slice c.mb.A c.mb.n c.mb.cap, .int .i64 c.g, .slice c.cn.A c.cn.n c.cn.cap, .slice c.ce.A c.ce.n c.ce.cap, .slice c.ta.A c.ta.n c.ta.cap, .slice c.li.A c.li.n c.li.cap] from rfl] at hlv ⊢
  rw [show t.val = .agg #[.int .i64 t.p, .int .i64 t.th, .int .i64 t.pe, .int .i64 t.de, .int .i64 t.fr, .int .i64 t.fl, .slice t.o.A t.o.n t.o.cap] from rfl] at hlv
  unfold ConfV.cells at hW1 hB'
  obtain ⟨s, wy, h, mi, ⟨mA, mn, mc⟩, g, ⟨cA, cn, cc⟩, ⟨eA, en, ec⟩, ⟨tA, tn, tc⟩, ⟨lA, ln, lc⟩⟩ := c
  dsimp only at *
  have hW1' := Lib.hid hW1
  clear hW1
  have e0 := row_cell hB'.out (i := 0) rfl
  have e1 := row_cell hB'.out (i := 1) rfl
  have e2 := row_cell hB'.out (i := 2) rfl
  have e3 := row_cell hB'.out (i := 3) rfl
  have e4 := row_cell hB'.out (i := 4) rfl
  have e5 := row_cell hB'.out (i := 5) rfl
  have e6 := row_cell hB'.out (i := 6) rfl
  have e7 := row_cell hB'.out (i := 7) rfl
  have e8 := row_cell hB'.out (i := 8) rfl
  have e9 := row_cell hB'.out (i := 9) rfl
  have hqlt := row_lt hB'.out
  have hi2 : (i : Int) < (tn : Int) := by omega
  obtain ⟨tb, toff, htA, htb, htC⟩ := hta.out _ hO'.out
  subst htA
  obtain ⟨c0, c1, c2, c3, c4, c5, c6⟩ := htC
  obtain ⟨tp, th', tpe, tde, tfr, tfl, ⟨oA, on, oc⟩⟩ := t
  dsimp only at *
  subst hth
  subst hmn
  clear hta
  go_enter Tryz.func38, Tryz.ntmps38
  go_upto_region 1 with fail
  rw [← hqq'.out, ← hW1'.out]
  go_upto_region 2 with fail
  generalize hw4 : W1.alloc (.cells #[.int .i64 tp, .int .i64 th, .int .i64 tpe, .int .i64 tde, .int .i64 tfr, .int .i64 tfl, .slice oA on oc] 49) = w4
  have hO14 : Only (fun _ => False) W1 w4 := by rw [← hw4]; exact (Only.refl _ _).alloc _
  obtain ⟨Y, hY⟩ : ∃ Y, Y = W1.heap.size := ⟨_, rfl⟩
  have hy4 := Lib.hid (show w4.heap[Y]? = some (.cells #[.int .i64 tp, .int .i64 th, .int .i64 tpe, .int .i64 tde, .int .i64 tfr, .int .i64 tfl, .slice oA on oc] 49 (0, 0)) by rw [← hw4]; exact heap_new_at _ _ hY.symm)
  rw [← hY]
  have hO4' := Lib.hid (hO'.out.trans' hO14)
  have hB4 := Lib.hid (hO14.heap hB'.out (fun h => h))
  have hkeep := Lib.hid (fun W0 (h0 : Only (fun _ => False) w4 W0) => show W0.cell? ⟨q, 0, none⟩ = some (.int .i64 s) ∧ W0.cell? ⟨q, 1, none⟩ = some (.int .i64 wy) ∧ W0.cell? ⟨q, 2, none⟩ = some (.int .i64 h) ∧ W0.cell? ⟨q, 3, none⟩ = some (.int .i64 mi) ∧ W0.cell? ⟨q, 4, none⟩ = some (.slice mA mn mc) ∧ W0.cell? ⟨q, 5, none⟩ = some (.int .i64 g) ∧ W0.cell? ⟨q, 6, none⟩ = some (.slice cA cn cc) ∧ W0.cell? ⟨q, 7, none⟩ = some (.slice eA en ec) ∧ W0.cell? ⟨q, 8, none⟩ = some (.slice (some ⟨tb, toff, none⟩) tn tc) ∧ W0.cell? ⟨q, 9, none⟩ = some (.slice lA ln lc) ∧ q < W0.heap.size ∧ W0.cell? ⟨Y, 0, none⟩ = some (.int .i64 tp) ∧ W0.cell? ⟨Y, 1, none⟩ = some (.int .i64 th) ∧ W0.cell? ⟨Y, 2, none⟩ = some (.int .i64 tpe) ∧ W0.cell? ⟨Y, 3, none⟩ = some (.int .i64 tde) ∧ W0.cell? ⟨Y, 4, none⟩ = some (.int .i64 tfr) ∧ W0.cell? ⟨Y, 5, none⟩ = some (.int .i64 tfl) ∧ W0.cell? ⟨Y, 6, none⟩ = some (.slice oA on oc) ∧ Y < W0.heap.size from by
    have z := h0.heap hB4.out (fun h => h)
    have y := h0.heap hy4.out (fun h => h)
    exact ⟨row_cell z (i := 0) rfl, row_cell z (i := 1) rfl, row_cell z (i := 2) rfl, row_cell z (i := 3) rfl, row_cell z (i := 4) rfl, row_cell z (i := 5) rfl, row_cell z (i := 6) rfl, row_cell z (i := 7) rfl, row_cell z (i := 8) rfl, row_cell z (i := 9) rfl, row_lt z,
      row_cell (L := [.int .i64 tp, .int .i64 th, .int .i64 tpe, .int .i64 tde, .int .i64 tfr, .int .i64 tfl, .slice oA on oc]) y (i := 0) rfl, row_cell (L := [.int .i64 tp, .int .i64 th, .int .i64 tpe, .int .i64 tde, .int .i64 tfr, .int .i64 tfl, .slice oA on oc]) y (i := 1) rfl, row_cell (L := [.int .i64 tp, .int .i64 th, .int .i64 tpe, .int .i64 tde, .int .i64 tfr, .int .i64 tfl, .slice oA on oc]) y (i := 2) rfl, row_cell (L := [.int .i64 tp, .int .i64 th, .int .i64 tpe, .int .i64 tde, .int .i64 tfr, .int .i64 tfl, .slice oA on oc]) y (i := 3) rfl, row_cell (L := [.int .i64 tp, .int .i64 th, .int .i64 tpe, .int .i64 tde, .int .i64 tfr, .int .i64 tfl, .slice oA on oc]) y (i := 4) rfl, row_cell (L := [.int .i64 tp, .int .i64 th, .int .i64 tpe, .int .i64 tde, .int .i64 tfr, .int .i64 tfl, .slice oA on oc]) y (i := 5) rfl, row_cell (L := [.int .i64 tp, .int .i64 th, .int .i64 tpe, .int .i64 tde, .int .i64 tfr, .int .i64 tfl, .slice oA on oc]) y (i := 6) rfl, row_lt y⟩)
  have hcall := Lib.hid (fun W (h0 : Only (fun _ => False) w4 W) (k : Nat) (hk : k ≤ on) => hlv.out W (hO4'.out.trans' h0) k hk)
  clear hw4 hY hO14 e0 e1 e2 e3 e4 e5 e6 e7 e8 e9 hqlt c0 c1 c2 c3 c4 c5 c6 htb hB4 hy4 hB' hO' hW1' hlv
  obtain ⟨-, -, -, -, -, -, -, -, -, -, -, -, -, -, -, -, -, y6, hyl⟩ := hkeep.out _ (Only.refl _ _)
  go_wp2
  clear y6 hyl
  go_loopw [8, 20] (fun b i' wr => ∃ (j : Nat) (v : Int), j ≤ on ∧ i' = .int .i64 j ∧ b = .int .i64 v ∧ v ≤ 1073741824 * (on : Int) ∧ Best LV co lev (fun a _ => a < j) on v ∧ Only (fun _ => False) w4 wr) (fun _ i' _ => on - (intOf i').toNat)
  case atStart => exact ⟨0, 0, Nat.zero_le _, rfl, rfl, by omega, ⟨Int.le_refl _, fun i k h _ _ => by omega, .inl rfl⟩, Only.refl _ _⟩
  case round =>
    obtain ⟨j, v, hj, rfl, rfl, hv9, hbe, hO⟩ := hrel
    obtain ⟨ws, hws⟩ : ∃ ws : World, ws = wr := ⟨_, rfl⟩
    subst hws
    have hbe' := Lib.hid hbe
    have hOs := Lib.hid hO
    have hv0 := hbe.1
    clear hO hbe
    by_cases hjn : j < on
    · have hjn' : (j : Int) < (on : Int) := by omega
      obtain ⟨-, -, -, -, -, -, -, -, -, -, -, -, -, -, -, -, -, y6, hyl⟩ := hkeep.out _ hOs.out
      go_wp2
      clear y6 hyl
      go_loopw [8, 10, 11] (fun b sm a wr => ∃ (k : Nat) (u : Int), j ≤ k ∧ k ≤ on ∧ a = .int .i64 k ∧ b = .int .i64 u ∧ u ≤ 1073741824 * (on : Int) ∧ sm = .int .i64 (sumU co k - sumU co j) ∧ Inr LV co lev on j k u ∧ Only (fun _ => False) ws wr) (fun _ _ a _ => on - (intOf a).toNat)
      case atStart => exact ⟨j, v, Nat.le_refl _, by omega, rfl, rfl, hv9, by simp, inr_start hbe'.out, Only.refl _ _⟩
      case round =>
        obtain ⟨k, u, hjk, hk, rfl, rfl, hu9, rfl, hin, hO⟩ := hrel
        obtain ⟨wt, hwt⟩ : ∃ wt : World, wt = wr := ⟨_, rfl⟩
        subst hwt
        have hin' := Lib.hid hin
        have hu0 := hin.1.1
        have hOt := Lib.hid hO
        have hOw := Lib.hid (hOs.out.trans' hO)
        clear hO hin
        have hkeep2 := Lib.hid (fun W0 (h0 : Only (fun _ => False) wt W0) => hkeep.out W0 (hOw.out.trans' h0))
        by_cases hkm : k < on
        · have hkm' : (k : Int) < (on : Int) := by omega
          have hkc : k ≤ oc := by omega
          have hkc1 : k + 1 ≤ oc := by omega
          have hk1 : ((k : Int) + 1).toNat = k + 1 := by omega
          have hwk : IntKind.i64.wrap ((k : Int) + 1) = (k : Int) + 1 := IntWalk.i64_in _ (by omega)
          have hk2 : (0 : Int) ≤ (k : Int) + 1 := by omega
          have hk3 : (k : Int) + 1 ≤ (oc : Int) := by omega
          have hcl := Lib.hid (fun W (h0 : Only (fun _ => False) wt W) => hcall.out W (hOw.out.trans' h0) k (by omega))
          have hcl1 := Lib.hid (fun W (h0 : Only (fun _ => False) wt W) => hcall.out W (hOw.out.trans' h0) (k + 1) (by omega))
          obtain ⟨L, hL⟩ : ∃ L, L = LV k := ⟨_, rfl⟩
          have hL' := Lib.hid hL
          rw [← hL] at hcl
          obtain ⟨L1, hL1⟩ : ∃ L1, L1 = LV (k + 1) := ⟨_, rfl⟩
          have hL1' := Lib.hid hL1
          rw [← hL1] at hcl1
          obtain ⟨sm, hsm⟩ : ∃ sm, sm = sumU co k - sumU co j := ⟨_, rfl⟩
          have hsm' := Lib.hid hsm
          rw [← hsm]
          clear hL hL1 hsm
          obtain ⟨f0, f1, f2, f3, f4, f5, f6, f7, f8, f9, fq, y0, y1, y2, y3, y4, y5, y6, fy⟩ := hkeep2.out _ (Only.refl _ _)
          by_cases hlt : L < lev
          · go_upto_region 10 with fail
            go_region_held3 (fun W0 => W0.cell? ⟨q, 0, none⟩ = some (.int .i64 s) ∧ W0.cell? ⟨q, 1, none⟩ = some (.int .i64 wy) ∧ W0.cell? ⟨q, 2, none⟩ = some (.int .i64 h) ∧ W0.cell? ⟨q, 3, none⟩ = some (.int .i64 mi) ∧ W0.cell? ⟨q, 4, none⟩ = some (.slice mA mn mc) ∧ W0.cell? ⟨q, 5, none⟩ = some (.int .i64 g) ∧ W0.cell? ⟨q, 6, none⟩ = some (.slice cA cn cc) ∧ W0.cell? ⟨q, 7, none⟩ = some (.slice eA en ec) ∧ W0.cell? ⟨q, 8, none⟩ = some (.slice (some ⟨tb, toff, none⟩) tn tc) ∧ W0.cell? ⟨q, 9, none⟩ = some (.slice lA ln lc) ∧ q < W0.heap.size ∧ W0.cell? ⟨Y, 0, none⟩ = some (.int .i64 tp) ∧ W0.cell? ⟨Y, 1, none⟩ = some (.int .i64 th) ∧ W0.cell? ⟨Y, 2, none⟩ = some (.int .i64 tpe) ∧ W0.cell? ⟨Y, 3, none⟩ = some (.int .i64 tde) ∧ W0.cell? ⟨Y, 4, none⟩ = some (.int .i64 tfr) ∧ W0.cell? ⟨Y, 5, none⟩ = some (.int .i64 tfl) ∧ W0.cell? ⟨Y, 6, none⟩ = some (.slice oA on oc) ∧ Y < W0.heap.size)
              (exact hkeep2.out _ (by repeat (first | assumption | exact Only.refl _ _ | apply Only.drew)))
              (first
                | (go_at_call 68; (with_reducible refine (hcl.out _ (by repeat (first | assumption | exact Only.refl _ _ | apply Only.drew))).mono ?_); rintro _ w5 ⟨rfl, ho5⟩; have hO5 : Only (fun _ => False) wt w5 := Only.trans' (by repeat (first | assumption | exact Only.refl _ _ | apply Only.drew)) ho5; clear ho5)
                | (go_at_call 68; (with_reducible refine (hcl1.out _ (by repeat (first | assumption | exact Only.refl _ _ | apply Only.drew))).mono ?_); rintro _ w6 ⟨rfl, ho6⟩; have hO6 : Only (fun _ => False) wt w6 := Only.trans' (by repeat (first | assumption | exact Only.refl _ _ | apply Only.drew)) ho6; clear ho6))
-- [T
            all_goals
              by_cases hlt1 : L1 < lev
              · clear f0 f1 f2 f3 f4 f5 f6 f7 f8 f9 fq y0 y1 y2 y3 y4 y5 y6 fy
                have hbr := Lib.hid (inr_break hin'.out (.inl ⟨by rw [← hL'.out]; exact hlt, by rw [← hL1'.out]; exact hlt1⟩))
                go_wp2
                go_roundw
                case rel => exact ⟨j + 1, u, by omega, by go_num, rfl, hu9, hbr.out, hOw.out.trans' hO6⟩
                case measure => simp [intOf]; omega
              · have hnb : ¬ blw LV lev k := by unfold blw; rw [← hL'.out, ← hL1'.out]; omega
                have hOz := Lib.hid hO6
                have hOz4 := Lib.hid (hOw.out.trans' hOz.out)
                clear f0 f1 f2 f3 f4 f5 f6 f7 f8 f9 fq y0 y1 y2 y3 y4 y5 y6 fy
                obtain ⟨o, ho⟩ : ∃ o, l[k]? = some o := ⟨_, List.getElem?_eq_getElem (by have := hlm.out; omega)⟩
                have hck := hca.out k o ho
                obtain ⟨hc0, hc1⟩ := hcb.out k
                obtain ⟨C, hC⟩ : ∃ C, C = co k := ⟨_, rfl⟩
                rw [← hC] at hck hc0 hc1
                have hC' := Lib.hid hC
                have hof := Lib.hid (fun W => rof_any o s wy h mi W)
                rw [← hck] at hof
                unfold Opn.val at hof
                obtain ⟨vb, voff, hvA, hvb, d0, d1, d2⟩ := opn_row (hrow.out _ (hO4'.out.trans' hOz4.out)) ho
                subst hvA
                obtain ⟨ok, oa, ob⟩ := o
                dsimp only at d0 d1 d2 hof
                obtain ⟨sb1, sb2⟩ := sumU_bound hcb.out k
                obtain ⟨sb3, sb4⟩ := sumU_bound hcb.out j
                have sb5 := sumU_mono (fun x => (hcb.out x).1) hjk
                have hs1 : sumU co (k + 1) = sumU co k + C := by rw [hC'.out]; rfl
                have hs0 : 0 ≤ sm := by have := hsm'.out; omega
                have hs9 : sm + C ≤ 1073741824 * (on : Int) := by have := hsm'.out; omega
                have hs2 := Lib.hid (show sm + C = sumU co (k + 1) - sumU co j from by have := hsm'.out; omega)
                have hst := Lib.hid (inr_step hin'.out hkm hnb)
                rw [← hsm'.out, ← hC'.out] at hst
                have hwr : IntKind.i64.wrap (sm + C) = sm + C := IntWalk.i64_in _ (by omega)
                have hkeep3 := Lib.hid (fun W0 (h0 : Only (fun _ => False) w6 W0) => show W0.cell? ⟨q, 0, none⟩ = some (.int .i64 s) ∧ W0.cell? ⟨q, 1, none⟩ = some (.int .i64 wy) ∧ W0.cell? ⟨q, 2, none⟩ = some (.int .i64 h) ∧ W0.cell? ⟨q, 3, none⟩ = some (.int .i64 mi) ∧ q < W0.heap.size ∧ W0.cell? ⟨Y, 6, none⟩ = some (.slice (some ⟨vb, voff, none⟩) on oc) ∧ Y < W0.heap.size ∧ W0.cell? ⟨vb, voff + k * 3, none⟩ = some (.int .i64 ok) ∧ W0.cell? ⟨vb, voff + k * 3 + 1, none⟩ = some (.int .i64 oa) ∧ W0.cell? ⟨vb, voff + k * 3 + 2, none⟩ = some (.int .i64 ob) ∧ vb < W0.heap.size from by
                  obtain ⟨g0, g1, g2, g3, -, -, -, -, -, -, gq, -, -, -, -, -, -, g6, gy⟩ := hkeep.out _ (hOz4.out.trans' h0)
                  exact ⟨g0, g1, g2, g3, gq, g6, gy, h0.cell d0 (fun h => h), h0.cell d1 (fun h => h), h0.cell d2 (fun h => h), Nat.lt_of_lt_of_le hvb h0.size⟩)
                clear ho hck hC d0 d1 d2 hvb sb1 sb2 sb3 sb4 sb5 hs1 hnb
                obtain ⟨f0, f1, f2, f3, fq, y6, fy, d0, d1, d2, hvb⟩ := hkeep3.out _ (Only.refl _ _)
                go_upto_region 11 with fail
                go_region_held3 (fun W0 => W0.cell? ⟨q, 0, none⟩ = some (.int .i64 s) ∧ W0.cell? ⟨q, 1, none⟩ = some (.int .i64 wy) ∧ W0.cell? ⟨q, 2, none⟩ = some (.int .i64 h) ∧ W0.cell? ⟨q, 3, none⟩ = some (.int .i64 mi) ∧ q < W0.heap.size ∧ W0.cell? ⟨Y, 6, none⟩ = some (.slice (some ⟨vb, voff, none⟩) on oc) ∧ Y < W0.heap.size ∧ W0.cell? ⟨vb, voff + k * 3, none⟩ = some (.int .i64 ok) ∧ W0.cell? ⟨vb, voff + k * 3 + 1, none⟩ = some (.int .i64 oa) ∧ W0.cell? ⟨vb, voff + k * 3 + 2, none⟩ = some (.int .i64 ob) ∧ vb < W0.heap.size)
                  (exact hkeep3.out _ (by repeat (first | assumption | exact Only.refl _ _ | apply Only.drew)))
                  (first
                    | (go_at_call 69; (with_reducible refine (hof.out _).mono ?_); rintro _ w7 ⟨rfl, ho7⟩; have hO7 : Only (fun _ => False) w6 w7 := Only.trans' (by repeat (first | assumption | exact Only.refl _ _ | apply Only.drew)) ho7; clear ho7))
                all_goals
                  go_wp2
                  go_roundw
                  case rel => exact ⟨k + 1, max u (sm + C), by omega, by omega, by go_num, by first | rfl | (congr 1; omega) | (congr 1; split <;> omega), by omega, by rw [hs2.out], hst.out, hOt.out.trans' (hOz.out.trans' hO7)⟩
                  case measure => simp [intOf]; omega

          · have hex := wd_ex wt
            have hdec : decide (L < lev) = false := by simp; omega
            have p1 := Lib.hid (fun (x : Wd wt) => Calls.wd (x := x) (v := .int .i64 L) (hcl.out x.W x.ok))
            go_upto_region 10 with fail
            replace f0 := wd_cell f0
            replace f1 := wd_cell f1
            replace f2 := wd_cell f2
            replace f3 := wd_cell f3
            replace f4 := wd_cell f4
            replace f5 := wd_cell f5
            replace f6 := wd_cell f6
            replace f7 := wd_cell f7
            replace f8 := wd_cell f8
            replace f9 := wd_cell f9
            replace y0 := wd_cell y0
            replace y1 := wd_cell y1
            replace y2 := wd_cell y2
            replace y3 := wd_cell y3
            replace y4 := wd_cell y4
            replace y5 := wd_cell y5
            replace y6 := wd_cell y6
            refine wp_region_wd (by kernel_rfl) (by kernel_rfl) ?_
            repeat (go_big_quiet_step (first | (go_at_call 68; (with_reducible exact p1.out _))))
            refine wpQuiet_nil ?_
            rintro _ ⟨x, rfl⟩
            have hO5 := x.ok
            obtain ⟨w5, hw5⟩ : ∃ w5, w5 = x.W := ⟨_, rfl⟩
            rw [← hw5] at hO5 ⊢
            clear hw5 p1 hex
            all_goals
              have hnb : ¬ blw LV lev k := by unfold blw; rw [← hL'.out, ← hL1'.out]; omega
              have hOz := Lib.hid hO5
              have hOz4 := Lib.hid (hOw.out.trans' hOz.out)
              clear f0 f1 f2 f3 f4 f5 f6 f7 f8 f9 fq y0 y1 y2 y3 y4 y5 y6 fy
              obtain ⟨o, ho⟩ : ∃ o, l[k]? = some o := ⟨_, List.getElem?_eq_getElem (by have := hlm.out; omega)⟩
              have hck := hca.out k o ho
              obtain ⟨hc0, hc1⟩ := hcb.out k
              obtain ⟨C, hC⟩ : ∃ C, C = co k := ⟨_, rfl⟩
              rw [← hC] at hck hc0 hc1
              have hC' := Lib.hid hC
              have hof := Lib.hid (fun W => rof_any o s wy h mi W)
              rw [← hck] at hof
              unfold Opn.val at hof
              obtain ⟨vb, voff, hvA, hvb, d0, d1, d2⟩ := opn_row (hrow.out _ (hO4'.out.trans' hOz4.out)) ho
              subst hvA
              obtain ⟨ok, oa, ob⟩ := o
              dsimp only at d0 d1 d2 hof
              obtain ⟨sb1, sb2⟩ := sumU_bound hcb.out k
              obtain ⟨sb3, sb4⟩ := sumU_bound hcb.out j
              have sb5 := sumU_mono (fun x => (hcb.out x).1) hjk
              have hs1 : sumU co (k + 1) = sumU co k + C := by rw [hC'.out]; rfl
              have hs0 : 0 ≤ sm := by have := hsm'.out; omega
              have hs9 : sm + C ≤ 1073741824 * (on : Int) := by have := hsm'.out; omega
              have hs2 := Lib.hid (show sm + C = sumU co (k + 1) - sumU co j from by have := hsm'.out; omega)
              have hst := Lib.hid (inr_step hin'.out hkm hnb)
              rw [← hsm'.out, ← hC'.out] at hst
              have hwr : IntKind.i64.wrap (sm + C) = sm + C := IntWalk.i64_in _ (by omega)
              have hkeep3 := Lib.hid (fun W0 (h0 : Only (fun _ => False) w5 W0) => show W0.cell? ⟨q, 0, none⟩ = some (.int .i64 s) ∧ W0.cell? ⟨q, 1, none⟩ = some (.int .i64 wy) ∧ W0.cell? ⟨q, 2, none⟩ = some (.int .i64 h) ∧ W0.cell? ⟨q, 3, none⟩ = some (.int .i64 mi) ∧ q < W0.heap.size ∧ W0.cell? ⟨Y, 6, none⟩ = some (.slice (some ⟨vb, voff, none⟩) on oc) ∧ Y < W0.heap.size ∧ W0.cell? ⟨vb, voff + k * 3, none⟩ = some (.int .i64 ok) ∧ W0.cell? ⟨vb, voff + k * 3 + 1, none⟩ = some (.int .i64 oa) ∧ W0.cell? ⟨vb, voff + k * 3 + 2, none⟩ = some (.int .i64 ob) ∧ vb < W0.heap.size from by
                obtain ⟨g0, g1, g2, g3, -, -, -, -, -, -, gq, -, -, -, -, -, -, g6, gy⟩ := hkeep.out _ (hOz4.out.trans' h0)
                exact ⟨g0, g1, g2, g3, gq, g6, gy, h0.cell d0 (fun h => h), h0.cell d1 (fun h => h), h0.cell d2 (fun h => h), Nat.lt_of_lt_of_le hvb h0.size⟩)
              clear ho hck hC d0 d1 d2 hvb sb1 sb2 sb3 sb4 sb5 hs1 hnb
              obtain ⟨f0, f1, f2, f3, fq, y6, fy, d0, d1, d2, hvb⟩ := hkeep3.out _ (Only.refl _ _)
              go_upto_region 11 with fail
              go_region_held3 (fun W0 => W0.cell? ⟨q, 0, none⟩ = some (.int .i64 s) ∧ W0.cell? ⟨q, 1, none⟩ = some (.int .i64 wy) ∧ W0.cell? ⟨q, 2, none⟩ = some (.int .i64 h) ∧ W0.cell? ⟨q, 3, none⟩ = some (.int .i64 mi) ∧ q < W0.heap.size ∧ W0.cell? ⟨Y, 6, none⟩ = some (.slice (some ⟨vb, voff, none⟩) on oc) ∧ Y < W0.heap.size ∧ W0.cell? ⟨vb, voff + k * 3, none⟩ = some (.int .i64 ok) ∧ W0.cell? ⟨vb, voff + k * 3 + 1, none⟩ = some (.int .i64 oa) ∧ W0.cell? ⟨vb, voff + k * 3 + 2, none⟩ = some (.int .i64 ob) ∧ vb < W0.heap.size)
                (exact hkeep3.out _ (by repeat (first | assumption | exact Only.refl _ _ | apply Only.drew)))
                (first
                  | (go_at_call 69; (with_reducible refine (hof.out _).mono ?_); rintro _ w7 ⟨rfl, ho7⟩; have hO7 : Only (fun _ => False) w5 w7 := Only.trans' (by repeat (first | assumption | exact Only.refl _ _ | apply Only.drew)) ho7; clear ho7))
              all_goals
                go_wp2
                go_roundw
                case rel => exact ⟨k + 1, max u (sm + C), by omega, by omega, by go_num, by first | rfl | (congr 1; omega) | (congr 1; split <;> omega), by omega, by rw [hs2.out], hst.out, hOt.out.trans' (hOz.out.trans' hO7)⟩
                case measure => simp [intOf]; omega

        · obtain rfl : k = on := by omega
          have hkm' : ¬ (k : Int) < (k : Int) := by omega
          have hbr := Lib.hid (inr_break hin'.out (.inr rfl))
          obtain ⟨-, -, -, -, -, -, -, -, -, -, -, -, -, -, -, -, -, y6, fy⟩ := hkeep2.out _ (Only.refl _ _)
          go_wp2
          go_roundw
          case rel => exact ⟨j + 1, u, by omega, by go_num, rfl, hu9, hbr.out, hOw.out⟩
          case measure => simp [intOf]; omega
    · obtain rfl : j = on := by omega
      have hjn' : ¬ (j : Int) < (j : Int) := by omega
      have hend := Lib.hid (show Z (.returned (.int .i64 v)) ws from by
        rw [hZ'.out, hbest'.out v hbe'.out]
        exact ⟨rfl, hO4'.out.trans' hOs.out⟩)
      go_wp2
      exact hend.out
end Sct
end Go.Proofs.YtlbinlhaejhobaaGreatDoor
